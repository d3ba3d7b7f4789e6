import PyProof.Rows.All
import Wide.All
import OpenK.AllK
import Wide.FinOn
import Lean
import PyProof.EqAt
import PyProof.EqKinds
import PyProof.TupleCall
import PyProof.ZipIter
import PyProof.WalksEnum
import PyProof.EnumMake
import PyProof.NeKinds
import KE.KDictList
import PyProof.Rows.SetFrom
import PyProof.StrWalks
import PyProof.CollectWalk
import PyProof.Rows.SortWalk
import PyProof.Rows.BitMore
import PyProof.Rows.IntCalls
import KE.KRevIter
import PyProof.SetRoads
import OpenK.KTop
import PyProof.Rows.StrWeight2
import PyProof.SumWalk
import PyProof.SliceList
import PyProof.FactsAll.subtypes_4
import PyProof.StationsW
import PyProof.NsDelKeeps
import PyProof.Rows.StrClose
import PyProof.Rows.CatFin
import PyProof.SeqI3
import PyProof.Rows.StrCase
import PyProof.PureStr
import PyProof.IsRules
import PyProof.Rows.SortRunsK
import KE.KSortAsk
import KE.KSortTup
import PySem.Challenge.RW_windchest_k42_hands_on_keys
local macro_rules | `(tactic| omega) => `(tactic| lia)
set_option Elab.async false
set_option linter.all false
set_option maxRecDepth 100000
namespace L2
open PySem PySem.Spec PyProof.Rows
noncomputable abbrev Key:=Sum Int Str
noncomputable def Ir:Key->Value->Bool
 | .inl k,v=>Value.isInt k v
 | .inr x,v=>Value.isStrOf x v
noncomputable def kh (w:World):Key->Int
 | .inl k=>hashInt k
 | .inr x=>hashStr w x
theorem Bw:∀ {k:Key} {v:Value},Ir k v=true->(∃ i t,k=Sum.inl i/\v=Value.int i t) \/ (∃ x t,k=Sum.inr x/\v=Value.str x t)
 | .inl i,v,h=>by
  obtain ⟨t,e⟩:=Value.isInt_shape (k:=i) (v:=v) h
  exact .inl ⟨i,t,rfl,e⟩
 | .inr x,v,h=>by
  obtain ⟨t,e⟩:=Value.isStrOf_shape (x:=x) (v:=v) h
  exact .inr ⟨x,t,rfl,e⟩
theorem QQ (i:Int) (t:Tok):Ir (.inl i) (.int i t)=true:=by simp [Ir,Value.isInt]
theorem QF (x:Str) (t:Tok):Ir (.inr x) (.str x t)=true:=by simp [Ir,Value.isStrOf]
theorem Wv (a b:Int):decide ((Sum.inl a:Key)=Sum.inl b)=(a == b):=by
 by_cases e:a=b
 ·subst e; simp
 ·have h:¬ (Sum.inl a:Key)=Sum.inl b:=fun q=>e (Sum.inl.inj q)
  rw [decide_eq_false h]
  exact (beq_eq_false_iff_ne.mpr e).symm
theorem X4 (a b:Str):decide ((Sum.inr a:Key)=Sum.inr b)=decide (a=b):=by
 by_cases e:a=b
 ·subst e; simp
 ·have h:¬ (Sum.inr a:Key)=Sum.inr b:=fun q=>e (Sum.inr.inj q)
  rw [decide_eq_false h,decide_eq_false e]
theorem Wk (a:Int) (b:Str):decide ((Sum.inl a:Key)=Sum.inr b)=false:=decide_eq_false (fun q=>nomatch q)
theorem W2 (a:Str) (b:Int):decide ((Sum.inr a:Key)=Sum.inl b)=false:=decide_eq_false (fun q=>nomatch q)
noncomputable def Bl (prog:Program) (w:World):PySem.KeyKind prog w Key where
 is:=Ir
 hash:=kh w
 inj:=fun v a b ha hb=>by
  rcases Bw ha with ⟨i,t,rfl,rfl⟩ | ⟨x,t,rfl,rfl⟩
  ·rcases Bw hb with ⟨j,u,rfl,e⟩ | ⟨y,u,rfl,e⟩
   ·injection e with e1 _; rw [e1]
   ·exact nomatch e
  ·rcases Bw hb with ⟨j,u,rfl,e⟩ | ⟨y,u,rfl,e⟩
   ·exact nomatch e
   ·injection e with e1 _; rw [e1]
 byValue:=fun k v h=>by
  rcases Bw h with ⟨i,t,rfl,rfl⟩ | ⟨x,t,rfl,rfl⟩ <;> rfl
 pyHash:=fun hv h=>by
  rcases Bw hv with ⟨i,t,rfl,rfl⟩ | ⟨x,t,rfl,rfl⟩
  ·exact wpAny_pyHash_int h
  ·exact wpAny_pyHash_str h
 eqBool:=fun hu hv h=>by
  rcases Bw hu with ⟨i,t,rfl,rfl⟩ | ⟨x,t,rfl,rfl⟩
  ·rcases Bw hv with ⟨j,u,rfl,rfl⟩ | ⟨y,u,rfl,rfl⟩
   ·rw [Wv] at h; exact wpAny_eqBool_int h
   ·rw [Wk] at h; exact SeqAt.EqAt.int_str i t y u _ _ _ _ h
  ·rcases Bw hv with ⟨j,u,rfl,rfl⟩ | ⟨y,u,rfl,rfl⟩
   ·rw [W2] at h; exact SeqAt.EqAt.str_int x t j u _ _ _ _ h
   ·rw [X4] at h; exact wpAny_eqBool_str h
 «strs»:=fun k x t v h=>by
  rcases Bw h with ⟨i,u,rfl,e⟩ | ⟨y,u,rfl,e⟩
  ·exact nomatch e
  ·injection e with e1 _
   subst e1
   cases v <;> rfl
theorem Lk (prog:Program) (w:World) (i:Int) (t:Tok):(Bl prog w).is (.inl i) (.int i t)=true:=QQ i t
theorem Ml (prog:Program) (w:World) (x:Str) (t:Tok):(Bl prog w).is (.inr x) (.str x t)=true:=QF x t
end L2
namespace L2
open PySem PySem.Spec PyProof.Rows
inductive V where
 | non | bl (b:Bool) | int (i:Int) | str (x:Str) | byt (b:Array UInt8) | flt (b:UInt64) | ref (a:Addr) | ty (n:String)
 deriving DecidableEq
noncomputable def RelV:V->Value->Prop
 | .non,u=>u=Value.none
 | .bl b,u=>u=Value.bool b
 | .int i,u=>∃ t,u=Value.int i t
 | .str x,u=>∃ t,u=Value.str x t
 | .byt b,u=>∃ t,u=Value.bytes b t
 | .flt b,u=>∃ t,u=Value.float b t
 | .ref a,u=>u=Value.ref a
 | .ty n,u=>u=Value.type n
noncomputable abbrev Vals:List V->List Value->Prop:=Paired RelV
theorem Vals.length {xs:List V} {us:List Value} (r:Vals xs us):xs.length=us.length:=Paired.length r
theorem Vals.get:∀ {xs:List V} {us:List Value} {i:Nat} {x:V},Vals xs us->xs[i]? = some x->∃ u,us[i]? = some u/\RelV x u
 | _,_,_,_,.nil,e=>by simp at e
 | _,_,0,_,.cons r _,e=>by simp at e; subst e; exact ⟨_,rfl,r⟩
 | _,_,i+1,x,.cons _ t,e=>by
  obtain ⟨u,h1,h2⟩:=Vals.get (i:=i) (x:=x) t (by simpa using e)
  exact ⟨u,by simpa using h1,h2⟩
theorem Vals.set {x:V} {u:Value} (r:RelV x u):∀ {xs:List V} {us:List Value} (i:Nat),Vals xs us->Vals (xs.set i x) (us.set i u)
 | _,_,_,.nil=>.nil
 | _,_,0,.cons _ t=>.cons r t
 | _,_,i+1,.cons q t=>.cons q (Vals.set r i t)
theorem Vals.append:∀ {xs ys:List V} {us ws:List Value},Vals xs us->Vals ys ws->Vals (xs++ys) (us++ws)
 | _,_,_,_,.nil,s=>s
 | _,_,_,_,.cons r t,s=>.cons r (Vals.append t s)
theorem Vals.take:∀ {xs:List V} {us:List Value} (n:Nat),Vals xs us->Vals (xs.take n) (us.take n)
 | _,_,0,_=>.nil
 | _,_,_+1,.nil=>.nil
 | _,_,n+1,.cons r t=>.cons r (Vals.take n t)
theorem Vals.drop:∀ {xs:List V} {us:List Value} (n:Nat),Vals xs us->Vals (xs.drop n) (us.drop n)
 | _,_,0,r=>r
 | _,_,_+1,.nil=>.nil
 | _,_,n+1,.cons _ t=>Vals.drop n t
noncomputable def Fx:Option V->Option Value->Prop
 | some v,some u=>RelV v u
 | none,none=>True
 | _,_=>False
noncomputable def KV {κ:Type}:List (κ × V)->List (κ × Value)->Prop:=Paired fun (p:κ × V) (q:κ × Value)=>p.1=q.1/\RelV p.2 q.2
noncomputable def kV:Key->V
 | .inl i=>.int i
 | .inr x=>.str x
inductive HO where
 | lst (xs:List V)
 | tup (xs:List V)
 | dK (kvs:List (Key × V)) | dT (kvs:List (List Key × V))
 | set (S:Int->Bool) (n:Nat)
 | ins (C dx:Addr) (fs:List (Str × V))
 | own (x:Addr)
 | xd (fs:List (Str × V))
 | met (f x:Addr)
 | rng (lo hi:Int)
 | frz (o:Obj) (u:HO)
 | tbl (ps:Array Value)
 | ext (φ:Heap->Prop)
noncomputable abbrev Hp:=Addr->Option HO
noncomputable def upd (H:Hp) (a:Addr) (o:HO):Hp:=fun b=>if b=a then some o else H b
theorem Ai {H:Hp} {a:Addr} {o:HO}:upd H a o a=some o:=by unfold upd; rw [if_pos rfl]
theorem Aq {H:Hp} {a b:Addr} {o:HO} (h:b ≠ a):upd H a o b=H b:=by unfold upd; rw [if_neg h]
theorem V1 {H:Hp} {a b:Addr} {o u:HO} (h:H a=some o) (h':H b=some u) (d:o ≠ u):a ≠ b:=by
 intro e; subst e; rw [h] at h'; exact d (Option.some.inj h')
theorem Am {H:Hp} {a b:Addr} {o:HO} (h:H a=some o) (h':H b=none):a ≠ b:=by
 intro e; subst e; rw [h] at h'; cases h'
section
variable (P:Program) (w:World)
noncomputable def Bq (H:Hp) (h:Heap) (a:Addr):HO->Prop
 | .lst xs=>xs.length<=sizeLine/\∃ (its:List Value) (n:Nat),Vals xs its/\h.get? a=some { cls:=.type "list",data:=.seq its.toArray n }
 | .tup xs=>xs.length<=sizeLine/\∃ its:List Value,Vals xs its/\IsTup h a its.toArray
 | .dK kvs=>kvs.length<=sizeLine/\(a == sysModules)=false/\∃ vs,KV kvs vs/\h.DictOf (Bl P w) a vs
 | .dT kvs=>kvs.length<=sizeLine/\(a == sysModules)=false/\∃ xs:List (List Key × Addr × Value),
   Paired (fun (p:List Key × V) (q:List Key × Addr × Value)=>p.1=q.1/\H q.2.1=some (.tup (p.1.map kV))/\RelV p.2 q.2.2) kvs xs /\
   ∃ o es ep,h.get? a=some o/\o.ExactDict/\o.data=.dict es ep/\es.toList=xs.map (entryOfKey (tupleKind (Bl P w)))/\(xs.map (·.1)).Nodup
 | .set S n=>h.SetOf (intKind P w) a S n
 | .ins C dx fs=>H dx=some (.own a)/\fs.length<=1000/\dx ≠ a/\h.get? a=some (PySem.W.instObj C dx) /\
   ∃ mA,h.Ns1 dx mA/\(∀ f,Fx (fs.lookup f) (mA f))/\PySem.Within mA (fs.map (·.1))
 | .own _=>∃ o,h.get? a=some o
 | .xd fs=>∃ mA,h.Ns1 a mA/\∀ f,Fx (fs.lookup f) (mA f)
 | .rng lo hi=>∃ t u v,h.get? a=some { cls:=.type "range",data:=.fields #[.int lo t,.int hi u,.int 1 v] }
 | .frz o u=>h.get? a=some o/\Bq H h a u
 | .tbl ps=>h.get? a=some { cls:=.none,data:=.fields ps }
 | .met f x=>h.get? a=some (PySem.W.methodObj (.ref f) (.ref x))
 | .ext φ=>φ h/\(∃ o,h.get? a=some o)/\∀ h1 h2:Heap,φ h1->(∀ o,h1.get? a=some o->h2.get? a=some o)->φ h2
noncomputable def Ex (H:Hp) (h:Heap):Prop:=∀ a o,H a=some o->Bq P w H h a o
end
section
variable {P:Program} {w:World} {H H':Hp} {h h':Heap} {a:Addr} {o:HO}
theorem Bq.lt (x:Bq P w H h a o):a<h.objs.size:=by
 cases o with
 | lst xs=>obtain ⟨_,_,_,_,e⟩:=x; exact Heap.lt_size e
 | tup xs=>obtain ⟨_,_,_,p⟩:=x; exact p.lt
 | dK kvs=>obtain ⟨_,_,_,_,o,_,_,e,_⟩:=x; exact Heap.lt_size e
 | dT kvs=>obtain ⟨_,_,_,_,o,_,_,e,_⟩:=x; exact Heap.lt_size e
 | set S n=>obtain ⟨o,_,_,_,e,_⟩:=x; exact Heap.lt_size e
 | ins C dx fs=>obtain ⟨_,_,_,e,_⟩:=x; exact Heap.lt_size e
 | own y=>obtain ⟨_,e⟩:=x; exact Heap.lt_size e
 | xd fs=>obtain ⟨_,⟨_,_,_,e,_⟩,_⟩:=x; exact Heap.lt_size e
 | rng lo hi=>obtain ⟨_,_,_,e⟩:=x; exact Heap.lt_size e
 | frz ob u=>obtain ⟨e,_⟩:=x; exact Heap.lt_size e
 | tbl ps=>exact Heap.lt_size (show h.get? a=some _ from x)
 | met f y=>exact Heap.lt_size (show h.get? a=some _ from x)
 | ext φ=>obtain ⟨_,⟨_,e⟩,_⟩:=x; exact Heap.lt_size e
theorem Paired.Jd {α β:Type} {F G:α->β->Prop}:∀ {l₁:List α} {l₂:List β},Paired F l₁ l₂->(∀ a b,F a b->G a b)->Paired G l₁ l₂
 | _,_,.nil,_=>.nil
 | _,_,.cons r t,f=>.cons (f _ _ r) (Paired.Jd t f)
theorem Bq.stay (x:Bq P w H h a o) (k:∀ b u,(b=a \/ H b=some (.own a))->h.get? b=some u->h'.get? b=some u)
  (ho:∀ b,H b=some (.own a)->H' b=some (.own a)) (ht:∀ b xs,H b=some (.tup xs)->H' b=some (.tup xs)):Bq P w H' h' a o:=by
 induction o with
 | lst xs=>obtain ⟨z,its,n,r,e⟩:=x; exact ⟨z,its,n,r,k _ _ (.inl rfl) e⟩
 | tup xs=>obtain ⟨z,its,r,ob,e,c⟩:=x; exact ⟨z,its,r,ob,k _ _ (.inl rfl) e,c⟩
 | dK kvs=>obtain ⟨z,y,vs,r,ob,es,ep,e,c⟩:=x; exact ⟨z,y,vs,r,ob,es,ep,k _ _ (.inl rfl) e,c⟩
 | dT kvs =>
  obtain ⟨z,y,xs,r,ob,es,ep,e,c⟩:=x
  exact ⟨z,y,xs,Paired.Jd r fun p q z=>⟨z.1,ht _ _ z.2.1,z.2.2⟩,ob,es,ep,k _ _ (.inl rfl) e,c⟩
 | set S n=>obtain ⟨ob,es,ep,t,e,c⟩:=x; exact ⟨ob,es,ep,t,k _ _ (.inl rfl) e,c⟩
 | ins C dx fs =>
  obtain ⟨d,z,ne,e,mA,⟨od,es,ep,e2,c⟩,r⟩:=x
  exact ⟨ho _ d,z,ne,k _ _ (.inl rfl) e,mA,⟨od,es,ep,k _ _ (.inr d) e2,c⟩,r⟩
 | own y=>obtain ⟨ob,e⟩:=x; exact ⟨ob,k _ _ (.inl rfl) e⟩
 | xd fs=>obtain ⟨mA,⟨od,es,ep,e,c⟩,r⟩:=x; exact ⟨mA,⟨od,es,ep,k _ _ (.inl rfl) e,c⟩,r⟩
 | rng lo hi=>obtain ⟨t,u,v,e⟩:=x; exact ⟨t,u,v,k _ _ (.inl rfl) e⟩
 | frz ob u ih=>obtain ⟨e,q⟩:=x; exact ⟨k _ _ (.inl rfl) e,ih q⟩
 | tbl ps =>
  have e:h.get? a=some { cls:=.none,data:=.fields ps }:=x
  show h'.get? a=some { cls:=.none,data:=.fields ps }
  exact k a _ (.inl rfl) e
 | met f y =>
  have e:h.get? a=some (PySem.W.methodObj (.ref f) (.ref y)):=x
  show h'.get? a=some (PySem.W.methodObj (.ref f) (.ref y))
  exact k a _ (.inl rfl) e
 | ext φ=>obtain ⟨p,⟨o,e⟩,st⟩:=x; exact ⟨st _ _ p fun o q=>k _ _ (.inl rfl) q,⟨o,k _ _ (.inl rfl) e⟩,st⟩
theorem Ex.lt (x:Ex P w H h) (e:H a=some o):a<h.objs.size:=(x a o e).lt
theorem Ex.fresh (x:Ex P w H h) (e:h.objs.size<=a):H a=none:=by
 cases q:H a with
 | none=>rfl
 | some u=>exact absurd (Nat.lt_of_lt_of_le (x.lt q) e) (Nat.lt_irrefl _)
theorem Ex.kept (x:Ex P w H h) (k:∀ b u,h.get? b=some u->h'.get? b=some u):Ex P w H h':=fun a o e =>
 (x a o e).stay (fun b u _ q=>k b u q) (fun _ q=>q) fun _ _ q=>q
theorem Ex.laid (x:Ex P w H h) (k:∀ b u,h.get? b=some u->h'.get? b=some u) (hp:h.objs.size<=a) (new:Bq P w (upd H a o) h' a o):Ex P w (upd H a o) h':=fun b u e=>by
 have hn:=x.fresh hp
 by_cases hb:b=a
 ·subst hb; rw [Ai] at e; cases e; exact new
 ·rw [Aq hb] at e
  exact (x b u e).stay (fun c v _ q=>k c v q) (fun c q=>by rw [Aq (Am q hn)]; exact q) fun c xs q=>by rw [Aq (Am q hn)]; exact q
end
noncomputable def Rd (H:Hp) (a:Addr) (u:HO):Prop:=H a=some u \/ ∃ o,H a=some (.frz o u)
theorem Rd.ok {P:Program} {w:World} {H:Hp} {h:Heap} {a:Addr} {u:HO} (r:Rd H a u) (x:Ex P w H h):Bq P w H h a u:=by
 rcases r with r | ⟨o,r⟩
 ·exact x a u r
 ·obtain ⟨_,q⟩:=x a _ r
  exact q
noncomputable def ZG:Option HO->Prop
 | some (.lst _)=>True
 | some (.dK _)=>True
 | some (.dT _)=>True
 | some (.set _ _)=>True
 | some (.ins _ _ _)=>True
 | some (.ext _)=>True
 | _=>False
section
variable {P:Program} {w:World} {H:Hp} {h h':Heap} {x e:Addr} {o':HO}
theorem Ex.write (ok:Ex P w H h) (mu:ZG (H x)) (he:e=x \/ H e=some (.own x)) (k:∀ b u,b ≠ e->h.get? b=some u->h'.get? b=some u) (heo:∃ u,h'.get? e=some u)
  (new:Bq P w (upd H x o') h' x o'):Ex P w (upd H x o') h':=fun b u q=>by
 have nown:∀ c y,H c=some (.own y)->c ≠ x:=fun c y r z=>by subst z; rw [r] at mu; exact mu
 have ntup:∀ c xs,H c=some (.tup xs)->c ≠ x:=fun c xs r z=>by subst z; rw [r] at mu; exact mu
 by_cases hb:b=x
 ·subst hb; rw [Ai] at q; cases q; exact new
 ·rw [Aq hb] at q
  by_cases hbe:b=e
  ·have q':H b=some (.own x):=by
    rcases he with z | z
    ·exact absurd (hbe.trans z) hb
    ·rw [hbe]; exact z
   rw [q] at q'; cases q'
   obtain ⟨v,hv⟩:=heo
   exact ⟨v,by rw [hbe]; exact hv⟩
  ·refine (ok b u q).stay (fun c v hc r=>k c v ?_ r) (fun c r=>by rw [Aq (nown c b r)]; exact r) fun c xs r=>by rw [Aq (ntup c xs r)]; exact r
   rcases hc with rfl | hc
   ·exact hbe
   ·rintro rfl
    rcases he with z | z
    ·exact nown c b hc z
    ·rw [hc] at z; cases z; exact hb rfl
end
structure Un (fs ex:List Addr) (H H':Hp) (h h':Heap):Prop where
 keep:∀ b o,h.get? b=some o->H b=none->b ∉ fs->b ∉ ex->h'.get? b=some o
 slot:∀ b o,h.get? b=some o->H b=none->b∈fs->b ∉ ex->∃ sl,h'.get? b=some { o with slots:=sl }
 free:∀ b o,h.get? b=some o->H b=none->b ∉ ex->H' b=none
 there:∀ b o,h.get? b=some o->b ∉ ex->∃ o',h'.get? b=some o'
 tups:∀ b xs,H b=some (.tup xs)->H' b=some (.tup xs)
 frzs:∀ b o u,H b=some (.frz o u)->H' b=some (.frz o u)
 tbls:∀ b ps,H b=some (.tbl ps)->∃ more,H' b=some (.tbl (ps++more))
section
variable {fs fs' ex ex':List Addr} {H H1 H2:Hp} {h h1 h2 h':Heap} {a x e:Addr} {o:HO}
theorem Un.any (u:Un fs ex H H1 h h1) {b:Addr} {ob:Obj} (q:h.get? b=some ob) (n:H b=none) (hx:b ∉ ex):∃ sl,h1.get? b=some { ob with slots:=sl }:=by
 by_cases hb:b∈fs
 ·exact u.slot b ob q n hb hx
 ·exact ⟨ob.slots,u.keep b ob q n hb hx⟩
theorem Un.trans (a:Un fs ex H H1 h h1) (b:Un fs ex H1 H2 h1 h2):Un fs ex H H2 h h2 where
 keep:=fun c ob q n hc hx=>b.keep c ob (a.keep c ob q n hc hx) (a.free c ob q n hx) hc hx
 slot:=fun c ob q n hc hx=>by
  obtain ⟨sl,e1⟩:=a.slot c ob q n hc hx
  obtain ⟨sl',e2⟩:=b.slot c _ e1 (a.free c ob q n hx) hc hx
  exact ⟨sl',e2⟩
 free:=fun c ob q n hx=>by
  obtain ⟨o',e1⟩:=a.there c ob q hx
  exact b.free c o' e1 (a.free c ob q n hx) hx
 there:=fun c ob q hx=>by
  obtain ⟨o',e1⟩:=a.there c ob q hx
  exact b.there c o' e1 hx
 tups:=fun c xs q=>b.tups c xs (a.tups c xs q)
 frzs:=fun c ob xs q=>b.frzs c ob xs (a.frzs c ob xs q)
 tbls:=fun c ps q=>by
  obtain ⟨m1,e1⟩:=a.tbls c ps q
  obtain ⟨m2,e2⟩:=b.tbls c _ e1
  exact ⟨m1++m2,by rw [e2,Array.append_assoc]⟩
theorem Un.kept (k:∀ b u,h.get? b=some u->h'.get? b=some u):Un fs ex H H h h' :=
 ⟨fun b ob q _ _ _=>k b ob q,fun b ob q _ _ _=>⟨ob.slots,k b ob q⟩,fun _ _ _ n _=>n,fun b ob q _=>⟨ob,k b ob q⟩,fun _ _ q=>q,fun _ _ _ q=>q,fun _ ps q=>⟨#[],by rw [q]; simp⟩⟩
theorem Un.refl:Un fs ex H H h h:=Un.kept fun _ _ q=>q
theorem Un.laid (k:∀ b u,h.get? b=some u->h'.get? b=some u) (hp:h.objs.size<=a) (hn:H a=none):Un fs ex H (upd H a o) h h' where
 keep:=fun b u q _ _ _=>k b u q
 slot:=fun b u q _ _ _=>⟨u.slots,k b u q⟩
 free:=fun b u q n _=>by rw [Aq (Nat.ne_of_lt (Nat.lt_of_lt_of_le (Heap.lt_size q) hp))]; exact n
 there:=fun b u q _=>⟨u,k b u q⟩
 tups:=fun b xs q=>by rw [Aq (Am q hn)]; exact q
 frzs:=fun b u xs q=>by rw [Aq (Am q hn)]; exact q
 tbls:=fun b ps q=>⟨#[],by rw [Aq (Am q hn),q]; simp⟩
theorem Un.write (mu:ZG (H x)) (he:e=x \/ H e=some (.own x)) (k:∀ b u,b ≠ e->h.get? b=some u->h'.get? b=some u) (heo:∃ u,h'.get? e=some u):Un fs ex H (upd H x o) h h':=by
 have hx:∀ b,H b=none->b ≠ x:=fun b n z=>by subst z; rw [n] at mu; exact mu
 have hb:∀ b,H b=none->b ≠ e:=fun b n z=>by
  subst z
  rcases he with r | r
  ·exact hx b n r
  ·rw [n] at r; cases r
 have hm:∀ b u,H b=some u->¬ ZG (some u)->b ≠ x:=fun b u q nm z=>by subst z; rw [q] at mu; exact nm mu
 refine ⟨fun b u q n _ _=>k b u (hb b n) q,fun b u q n _ _=>⟨u.slots,k b u (hb b n) q⟩,fun b u q n _=>by rw [Aq (hx b n)]; exact n,fun b u q _=>?_,
  fun b xs q=>by rw [Aq (hm b _ q fun z=>z)]; exact q,fun b u xs q=>by rw [Aq (hm b _ q fun z=>z)]; exact q,fun b ps q=>⟨#[],by rw [Aq (hm b _ q fun z=>z),q]; simp⟩⟩
 by_cases hbe:b=e
 ·subst hbe; exact heo
 ·exact ⟨u,k b u hbe q⟩
end
noncomputable def gB (h:Heap) (H:Hp):List Addr:=(List.range h.objs.size).filter fun a=>(H a).isSome
noncomputable def K9 (h:Heap) (H:Hp):Heap:=PySem.W.hideAll h (gB h H)
theorem Qj (h:Heap) (H:Hp):(K9 h H).objs.size=h.objs.size:=PySem.W.hideAll_size _ _
theorem Qy {h:Heap} {H:Hp} {b:Addr} {o:Obj} (e:h.get? b=some o) (n:H b=none):(K9 h H).get? b=some o :=
 PySem.W.hideAll_get _ e fun hm=>by
  have q:(H b).isSome=true:=(List.mem_filter.mp hm).2
  rw [n] at q; simp at q
theorem U8 {h:Heap} {H:Hp} {b:Addr} {o:Obj} (e:(K9 h H).get? b=some o):h.get? b=some o/\H b=none:=by
 have e':h.get? b=some o:=PySem.W.of_hideAll (gB h H) e
 refine ⟨e',?_⟩
 cases q:H b with
 | none=>rfl
 | some x =>
  have hm:b∈gB h H:=List.mem_filter.mpr ⟨List.mem_range.mpr (Heap.lt_size e'),by simp [q]⟩
  have z:(K9 h H).get? b=none:=PySem.W.hideAll_none (gB h H) hm
  rw [z] at e; cases e
noncomputable def Ub (g h:Heap) (L:Addr):List (Addr × Obj):=(List.range h.objs.size).filterMap fun a=>if a=L \/ (g.get? a).isSome=true then none else (h.get? a).map fun o=>(a,o)
noncomputable def rest (g h:Heap) (L d:Addr):List (Addr × Obj):=(Ub g h L).filter fun p=>decide (p.1 ≠ d)
end L2
namespace L2
open PySem PySem.Spec PyProof.Rows
structure Mod (K:PySem.W.Frag) (mg:Str->Option Value) (base:Heap):Prop where
 kin:K.In base
 glob:base.Ns mainGlobals mg
 blt:∃ mb,base.Ns builtinsNs mb/\∀ x:Str,x ≠ "__name__"->mb x=bootBuiltins x
 nolimit:base.NoLimit
structure Cx where
 prog:Program
 w:World
 K:PySem.W.Frag
 mg:Str->Option Value
 base:Heap
 A:Around
 N:List Str
 s₀:Shared
 H₀:Hp
 env:Env
 outer:List Env
 stack:List Env
 ex:List Addr
 fn:Str->Bool
 calm:Bool
 pn:List (Addr × Obj)
 xe:Value->Shared->Prop
noncomputable def frs (l:List Env):List Addr:=l.filterMap (·.frame)
noncomputable abbrev Cx.fs (X:Cx):List Addr:=frs X.outer
noncomputable def m9 (sc:Scope) (x:Str):Prop:=sc.names.lookup x=some .local \/ sc.names.lookup x=some .cell \/ sc.names.lookup x=some .free
noncomputable def Loc (sc:Scope) (x:Str):Prop:=sc.names.lookup x=some .local \/ sc.names.lookup x=some .cell
noncomputable def Look (env:Env) (h:Heap) (m:Str->Option Value) (x:Str) (u:Value):Prop :=
 (env.kindOf x=some .local/\m x=some u) \/ ((env.kindOf x=some .cell \/ env.kindOf x=some .free)/\∃ c,env.cells.lookup x=some c/\h.IsCell c (some u))
structure Cx.Ok (X:Cx):Prop where
 mod:Mod X.K X.mg X.base
 kind:X.env.scope.kind=.function
 glob:X.env.globals=mainGlobals
 blt:X.env.builtins=builtinsNs
 above:X.s₀.heap.objs.size<=X.env.locals
 inj:∀ x y c,X.env.cells.lookup x=some c->X.env.cells.lookup y=some c->x=y
 has:∀ x,(X.env.kindOf x=some .cell \/ X.env.kindOf x=some .free)->∃ c,X.env.cells.lookup x=some c
 cab:∀ x c,X.fn x=true->X.env.cells.lookup x=some c->X.s₀.heap.objs.size<=c
 hd:X.calm=true->X.A.handled=none
 frames:X.A.frames=some X.stack
 stk:X.stack=X.outer \/ (X.stack=X.env::X.outer/\X.env.frame=some X.env.locals)
 exf:∀ b∈X.ex,b ≠ X.env.locals/\∀ x c,X.env.cells.lookup x=some c->c ≠ b
 bs:∀ b o,X.base.get? b=some o->X.s₀.heap.get? b=some o/\X.H₀ b=none
 bsz:X.base.objs.size<=X.s₀.heap.objs.size
 noex:∀ b o,X.base.get? b=some o->b ∉ X.ex
 exfs:∀ b∈X.ex,b ∉ X.fs
 Ib:X.s₀.heap.FunFrames X.base X.outer
 frf:∀ b∈X.fs,X.H₀ b=none
structure Inv (X:Cx) (pins:List (Addr × Obj)) (σ:List (Option V)) (H:Hp) (s:Shared):Prop where
 ok:X.Ok
 os:s.os=X.s₀.os
 bare:AllBare s.gens
 base:Un X.fs X.ex X.H₀ H X.s₀.heap s.heap
 loc:∃ m,s.heap.Ns X.env.locals m/\∀ (i:Nat) (x:Str) (v:V),X.N[i]? = some x->σ[i]? = some (some v)->m9 X.env.scope x->∃ u,RelV v u/\Look X.env s.heap m x u
 cell:∀ x c,X.env.cells.lookup x=some c->∃ v,s.heap.IsCell c v
 free:H X.env.locals=none
 freeC:∀ x c,X.env.cells.lookup x=some c->H c=none
 pin:∀ p∈X.pn++pins,s.heap.get? p.1=some p.2/\H p.1=none/\p.1 ≠ X.env.locals/\p.1 ∉ X.fs/\∀ v,p.2.data ≠ .cell v
 hok:Ex X.prog X.w H s.heap
 len:σ.length=X.N.length
section
variable {X:Cx} {pins:List (Addr × Obj)} {σ:List (Option V)} {H H':Hp} {s:Shared} {h':Heap}
theorem Cx.Ok.lA (ok:X.Ok) {b:Addr} {o:Obj} (e:X.base.get? b=some o):b ∉ X.fs:=fun hb=>by
 have:=(ok.Ib.mem hb).1
 rw [e] at this; cases this
theorem Inv.bs (I:Inv X pins σ H s):∀ b o,X.base.get? b=some o->s.heap.get? b=some o/\H b=none:=fun b o e =>
 ⟨I.base.keep b o (I.ok.bs b o e).1 (I.ok.bs b o e).2 (I.ok.lA e) (I.ok.noex b o e),I.base.free b o (I.ok.bs b o e).1 (I.ok.bs b o e).2 (I.ok.noex b o e)⟩
theorem Inv.bk (I:Inv X pins σ H s):∀ b o,X.base.get? b=some o->s.heap.get? b=some o:=fun b o e=>(I.bs b o e).1
theorem Inv.mod (I:Inv X pins σ H s):Mod X.K X.mg X.base:=I.ok.mod
theorem Inv.Gw (I:Inv X pins σ H s):X.K.In s.heap:=I.ok.mod.kin.keeps I.bk
theorem Inv.lt (I:Inv X pins σ H s):X.env.locals<s.heap.objs.size:=let ⟨_,hn,_⟩:=I.loc; hn.lt
theorem Inv.sz (I:Inv X pins σ H s):X.s₀.heap.objs.size<=s.heap.objs.size:=Nat.le_trans I.ok.above (Nat.le_of_lt I.lt)
theorem Inv.lM (I:Inv X pins σ H s) {a:Addr} (h:s.heap.objs.size<=a):a ∉ X.fs:=fun hb=>by
 obtain ⟨_,o,ho,_⟩:=I.ok.Ib.mem hb
 exact absurd (Nat.lt_of_lt_of_le (Heap.lt_size ho) (Nat.le_trans I.sz h)) (Nat.lt_irrefl _)
theorem Inv.XJ (I:Inv X pins σ H s):∀ x c,X.env.cells.lookup x=some c->c ≠ X.env.locals:=fun x c e z=>by
 obtain ⟨v,o,ho,hd⟩:=I.cell x c e
 obtain ⟨m,⟨o',es,ep,ho',hd',_⟩,_⟩:=I.loc
 rw [z,ho'] at ho; cases ho; rw [hd'] at hd; cases hd
theorem Inv.Ib (I:Inv X pins σ H s):s.heap.FunFrames X.base X.outer:=by
 have all:∀ (l:List Env),(∀ b∈frs l,b∈X.fs)->X.s₀.heap.FunFrames X.base l->s.heap.FunFrames X.base l:=by
  intro l
  induction l with
  | nil=>intro _ _; trivial
  | cons env r ih =>
   intro hs hl
   obtain ⟨hk,⟨L,o,hf,hn,ho,hd⟩,hr⟩:=hl
   have hL:L∈X.fs:=hs L (by unfold frs; rw [List.filterMap_cons,hf]; exact List.mem_cons_self)
   obtain ⟨sl,e⟩:=I.base.slot L o ho (I.ok.frf L hL) hL fun z=>I.ok.exfs L z hL
   exact ⟨hk,⟨L,_,hf,hn,e,hd⟩,ih (fun b hb=>hs b (by unfold frs; rw [List.filterMap_cons,hf]; exact List.mem_cons_of_mem _ hb)) hr⟩
 exact all X.outer (fun _ hb=>hb) I.ok.Ib
theorem Inv.stack (I:Inv X pins σ H s):s.heap.FunFrames X.base X.stack:=by
 rcases I.ok.stk with e | ⟨e,hf⟩
 ·rw [e]; exact I.Ib
 ·rw [e]
  obtain ⟨m,hn,_⟩:=I.loc
  refine .cons (by rw [I.ok.kind]; decide) hf hn ?_ I.Ib
  exact Heap.get?_none_of_le (Nat.le_trans I.ok.bsz I.ok.above)
theorem Inv.K_ (I:Inv X pins σ H s):∀ b∈frs X.stack,b∈X.env.locals::X.fs:=fun b hb=>by
 rcases I.ok.stk with e | ⟨e,hf⟩
 ·rw [e] at hb; exact List.mem_cons_of_mem _ hb
 ·rw [e] at hb
  unfold frs at hb
  rw [List.filterMap_cons,hf] at hb
  exact hb
theorem Inv.Gx (I:Inv X pins σ H s):∀ b∈frs X.stack,H b=none:=fun b hb=>by
 rcases List.mem_cons.mp (I.K_ b hb) with e | hb
 ·rw [e]; exact I.free
 ·obtain ⟨_,o,ho,_⟩:=I.ok.Ib.mem hb
  exact I.base.free b o ho (I.ok.frf b hb) fun z=>I.ok.exfs b z hb
theorem Inv.step {g':Array GenState} {t':Nat} {d':Drawn} {ch:List Addr} (I:Inv X pins σ H s)
  (hch:∀ b∈ch,(b∈X.ex \/ X.s₀.heap.objs.size<=b)/\b ≠ X.env.locals/\(∀ x c,X.env.cells.lookup x=some c->c ≠ b)/\∀ p∈X.pn++pins,p.1 ≠ b)
  (keep:∀ b o,b ≠ X.env.locals->b ∉ X.fs->b ∉ ch->s.heap.get? b=some o->H b=none->h'.get? b=some o)
  (slot:∀ b o,b ≠ X.env.locals->b∈X.fs->b ∉ ch->s.heap.get? b=some o->H b=none->∃ sl,h'.get? b=some { o with slots:=sl }) (free:∀ b o,b ∉ ch->s.heap.get? b=some o->H b=none->H' b=none)
  (there:∀ b o,b ∉ ch->s.heap.get? b=some o->∃ o',h'.get? b=some o')
  (tups:∀ b xs,H b=some (.tup xs)->H' b=some (.tup xs)) (frzs:∀ b o u,H b=some (.frz o u)->H' b=some (.frz o u)) (tbls:∀ b ps,H b=some (.tbl ps)->∃ more,H' b=some (.tbl (ps++more)))
  (ns:∀ m,s.heap.Ns X.env.locals m->h'.Ns X.env.locals m) (hok:Ex X.prog X.w H' h') (hg:AllBare g') :
  Inv X pins σ H' { s with heap:=h',gens:=g',drawn:=d',toks:=t' }:=by
 have neL:∀ b o,X.s₀.heap.get? b=some o->b ≠ X.env.locals:=fun b o e=>Nat.ne_of_lt (Nat.lt_of_lt_of_le (Heap.lt_size e) I.ok.above)
 have neC:∀ b o,X.s₀.heap.get? b=some o->b ∉ X.ex->b ∉ ch:=fun b o e hx hb=>by
  rcases (hch b hb).1 with z | z
  ·exact hx z
  ·exact absurd (Nat.lt_of_lt_of_le (Heap.lt_size e) z) (Nat.lt_irrefl _)
 have cellK:∀ x c,X.env.cells.lookup x=some c->∀ v,s.heap.IsCell c v->h'.IsCell c v:=fun x c e v ⟨o,ho,hd⟩=>by
  have nch:c ∉ ch:=fun z=>(hch c z).2.2.1 x c e rfl
  by_cases hc:c∈X.fs
  ·obtain ⟨sl,q⟩:=slot c o (I.XJ x c e) hc nch ho (I.freeC x c e)
   exact ⟨_,q,hd⟩
  ·exact ⟨o,keep c o (I.XJ x c e) hc nch ho (I.freeC x c e),hd⟩
 refine ⟨I.ok,I.os,hg,⟨fun b o e n hb hx=>?_,fun b o e n hb hx=>?_,fun b o e n hx=>?_,fun b o e hx=>?_,fun b xs e=>tups b xs (I.base.tups b xs e),fun b o xs e=>frzs b o xs (I.base.frzs b o xs e),fun b ps e=>?_⟩,?_,fun x c e=>?_,?_,fun x c e=>?_,fun p hp=>?_,hok,I.len⟩
 ·exact keep b o (neL b o e) hb (neC b o e hx) (I.base.keep b o e n hb hx) (I.base.free b o e n hx)
 ·obtain ⟨sl,e1⟩:=I.base.slot b o e n hb hx
  obtain ⟨sl',e2⟩:=slot b _ (neL b o e) hb (neC b o e hx) e1 (I.base.free b o e n hx)
  exact ⟨sl',e2⟩
 ·obtain ⟨o',e1⟩:=I.base.there b o e hx
  exact free b o' (neC b o e hx) e1 (I.base.free b o e n hx)
 ·obtain ⟨o',e1⟩:=I.base.there b o e hx
  exact there b o' (neC b o e hx) e1
 ·obtain ⟨m1,e1⟩:=I.base.tbls b ps e
  obtain ⟨m2,e2⟩:=tbls b _ e1
  exact ⟨m1++m2,by rw [e2,Array.append_assoc]⟩
 ·obtain ⟨m,hn,hl⟩:=I.loc
  refine ⟨m,ns m hn,fun i x v e1 e2 e3=>?_⟩
  obtain ⟨u,r,l⟩:=hl i x v e1 e2 e3
  refine ⟨u,r,?_⟩
  rcases l with l | ⟨k,c,e,z⟩
  ·exact .inl l
  ·exact .inr ⟨k,c,e,cellK x c e _ z⟩
 ·obtain ⟨v,z⟩:=I.cell x c e
  exact ⟨v,cellK x c e v z⟩
 ·obtain ⟨m,⟨o,_,_,ho,_⟩,_⟩:=I.loc
  exact free _ o (fun z=>(hch _ z).2.1 rfl) ho I.free
 ·obtain ⟨v,o,ho,hd⟩:=I.cell x c e
  exact free c o (fun z=>(hch c z).2.2.1 x c e rfl) ho (I.freeC x c e)
 ·obtain ⟨e,n,ne,nf,d⟩:=I.pin p hp
  have nch:p.1 ∉ ch:=fun z=>(hch p.1 z).2.2.2 p hp rfl
  exact ⟨keep p.1 p.2 ne nf nch e n,free p.1 p.2 nch e n,ne,nf,d⟩
theorem Inv.un {t':Nat} (I:Inv X pins σ H s) (u:Un X.fs [] H H' s.heap h') (hok:Ex X.prog X.w H' h'):Inv X pins σ H' { s with heap:=h',toks:=t' }:=by
 obtain ⟨m,⟨o,es,ep,ho,r⟩,_⟩:=id I.loc
 obtain ⟨sl,hL⟩:=u.any ho I.free (by simp)
 exact I.step (g':=s.gens) (d':=s.drawn) (ch:=[]) (fun _ z=>nomatch z) (fun b o _ hb _ e n=>u.keep b o e n hb (by simp)) (fun b o _ hb _ e n=>u.slot b o e n hb (by simp)) (fun b o _ e n=>u.free b o e n (by simp)) (fun b o _ e=>u.there b o e (by simp)) u.tups u.frzs u.tbls (fun m' hm=>by
  obtain ⟨o',es',ep',ho',r'⟩:=hm
  rw [ho] at ho'; cases ho'
  exact ⟨_,es',ep',hL,r'⟩) hok I.bare
theorem Inv.call {g':Array GenState} {t':Nat} {d':Drawn} {ch:List Addr} (I:Inv X pins σ H s) (u:Un (frs X.stack) ch H H' s.heap h') (hok:Ex X.prog X.w H' h') (hg:AllBare g')
  (hch:∀ b∈ch,(b∈X.ex \/ X.s₀.heap.objs.size<=b)/\b ≠ X.env.locals/\(∀ x c,X.env.cells.lookup x=some c->c ≠ b)/\∀ p∈X.pn++pins,p.1 ≠ b) :
  Inv X pins σ H' { s with heap:=h',gens:=g',drawn:=d',toks:=t' }:=by
 obtain ⟨m,⟨o,es,ep,ho,r⟩,_⟩:=id I.loc
 obtain ⟨sl,hL⟩:=u.any ho I.free fun z=>(hch _ z).2.1 rfl
 exact I.step (ch:=ch) hch (fun b o hL hb hc e n=>u.keep b o e n (fun z=>(List.mem_cons.mp (I.K_ b z)).elim hL hb) hc) (fun b o _ _ hc e n=>u.any e n hc) (fun b o hc e n=>u.free b o e n hc) (fun b o hc e=>u.there b o e hc) u.tups u.frzs u.tbls (fun m' hm=>by
  obtain ⟨o',es',ep',ho',r'⟩:=hm
  rw [ho] at ho'; cases ho'
  exact ⟨_,es',ep',hL,r'⟩) hok hg
theorem Inv.turned {t':Nat} {it:Addr} (I:Inv X pins σ H s) (k:∀ b o,b ≠ it->s.heap.get? b=some o->h'.get? b=some o) (hn:H it=none) (hL:it ≠ X.env.locals)
  (h1:it∈X.ex \/ X.s₀.heap.objs.size<=it) (h2:∀ x c,X.env.cells.lookup x=some c->c ≠ it) (h3:∀ p∈X.pn++pins,p.1 ≠ it):Inv X pins σ H { s with heap:=h',toks:=t' }:=by
 have nit:∀ b u,H b=some u->b ≠ it:=fun b u e z=>by rw [z,hn] at e; cases e
 refine I.step (g':=s.gens) (d':=s.drawn) (ch:=[it]) (fun b hb=>?_) (fun b o _ _ hc e _=>k b o (fun z=>hc (by simp [z])) e) (fun b o _ _ hc e _=>⟨o.slots,k b o (fun z=>hc (by simp [z])) e⟩) (fun _ _ _ _ n=>n)
  (fun b o hc e=>⟨o,k b o (fun z=>hc (by simp [z])) e⟩) (fun _ _ e=>e) (fun _ _ _ e=>e) (fun b ps e=>⟨#[],by rw [e]; simp⟩) (fun m hm=>?_) (fun b u e=>?_) I.bare
 ·have e:b=it:=by simpa using hb
  subst e
  exact ⟨h1,hL,h2,h3⟩
 ·obtain ⟨o,es,ep,ho,r⟩:=hm
  exact ⟨o,es,ep,k _ o (Ne.symm hL) ho,r⟩
 ·refine (I.hok b u e).stay (fun c v hc q=>k c v ?_ q) (fun _ q=>q) fun _ _ q=>q
  rcases hc with z | z
  ·rw [z]; exact nit b u e
  ·exact nit c _ z
theorem Inv.tok (I:Inv X pins σ H s) (t:Nat):Inv X pins σ H { s with toks:=t }:=I.un (h':=s.heap) (t':=t) Un.refl I.hok
theorem Inv.kept {t':Nat} (I:Inv X pins σ H s) (k:∀ b u,s.heap.get? b=some u->h'.get? b=some u):Inv X pins σ H { s with heap:=h',toks:=t' }:=I.un (Un.kept k) (I.hok.kept k)
theorem Inv.laid {a:Addr} {o:HO} {t':Nat} (I:Inv X pins σ H s) (k:∀ b u,s.heap.get? b=some u->h'.get? b=some u) (hp:s.heap.objs.size<=a) (new:Bq X.prog X.w (upd H a o) h' a o) :
  Inv X pins σ (upd H a o) { s with heap:=h',toks:=t' }:=I.un (Un.laid k hp (I.hok.fresh hp)) (I.hok.laid k hp new)
theorem Inv.write {x e:Addr} {o:HO} {t':Nat} (I:Inv X pins σ H s) (mu:ZG (H x)) (he:e=x \/ H e=some (.own x)) (k:∀ b u,b ≠ e->s.heap.get? b=some u->h'.get? b=some u) (heo:∃ u,h'.get? e=some u)
  (new:Bq X.prog X.w (upd H x o) h' x o):Inv X pins σ (upd H x o) { s with heap:=h',toks:=t' }:=I.un (Un.write mu he k heo) (I.hok.write mu he k heo new)
theorem Inv.Oa {pins':List (Addr × Obj)} (I:Inv X pins σ H s) (h:∀ p∈pins',s.heap.get? p.1=some p.2/\H p.1=none/\p.1 ≠ X.env.locals/\p.1 ∉ X.fs/\∀ v,p.2.data ≠ .cell v):Inv X pins' σ H s :=
 ⟨I.ok,I.os,I.bare,I.base,I.loc,I.cell,I.free,I.freeC,fun p hp=>(List.mem_append.mp hp).elim (fun z=>I.pin p (List.mem_append_left _ z)) (h p),I.hok,I.len⟩
theorem MN {N:List Str} (hN:N.Nodup) {i j:Nat} {x:Str} (a:N[i]? = some x) (b:N[j]? = some x):i=j:=by
 obtain ⟨h1,e1⟩:=List.getElem?_eq_some_iff.mp a
 obtain ⟨h2,e2⟩:=List.getElem?_eq_some_iff.mp b
 exact (List.getElem_inj hN).mp (e1.trans e2.symm)
theorem Ke {M:Model} {A:Around} {E:Value->Shared->Prop} {i:Nat} {x:Str} {v:V} {u:Value} {Q:Unit->Shared->Prop} (I:Inv X pins σ H s) (hN:X.N.Nodup) (hi:X.N[i]? = some x) (hx:Loc X.env.scope x) (r:RelV v u)
  (h:∀ s',Inv X pins (σ.set i (some v)) H s'->(∃ a,Heap.SameBut a s.heap s'.heap/\(a=X.env.locals \/ X.env.cells.lookup x=some a))->Q () s') (hf:X.fn x=true \/ X.env.scope.names.lookup x=some .local:=by first | exact .inl rfl | exact .inr rfl | assumption):wpAny M A (storeName X.env x u) Q E s:=by
 obtain ⟨m,hn,hl⟩:=id I.loc
 have hcls:(X.env.scope.kind == .class || (X.env.scope.kind == .module && X.env.locals != X.env.globals))=false:=by rw [I.ok.kind]; rfl
 have hiσ:i<σ.length:=by rw [I.len]; exact (List.getElem?_eq_some_iff.mp hi).1
 have XJ:=I.XJ
 have tracked:∀ {a:Addr} {h':Heap},(∃ o,s.heap.get? a=some o/\H a=none)->Heap.SameBut a s.heap h'->Ex X.prog X.w H h':=fun {a h'} ha hs b ob e=>by
  obtain ⟨_,_,hfree⟩:=ha
  refine (I.hok b ob e).stay (fun c w' hc q=>(hs.2 c ?_).trans q) (fun _ q=>q) fun _ _ q=>q
  rintro rfl
  rcases hc with rfl | hc
  ·rw [hfree] at e; cases e
  ·rw [hfree] at hc; cases hc
 rcases hx with hk | hk
 ·refine wpAny_storeName_local hk hn (fun h' hn' hs=>?_) hcls
  obtain ⟨oL,_,_,hoL,_⟩:=id hn
  refine h _ ⟨I.ok,I.os,I.bare,⟨fun b o e n hb hx=>?_,fun b o e n hb hx=>?_,I.base.free,fun b o e hx=>?_,I.base.tups,I.base.frzs,I.base.tbls⟩,⟨_,hn',fun j y v' e1 e2 e3=>?_⟩,fun y c e=>?_,I.free,I.freeC,fun p hp=>?_,tracked ⟨oL,hoL,I.free⟩ hs,by simpa using I.len⟩ ⟨_,hs,.inl rfl⟩
  ·exact (hs.2 b (Nat.ne_of_lt (Nat.lt_of_lt_of_le (Heap.lt_size e) I.ok.above))).trans (I.base.keep b o e n hb hx)
  ·obtain ⟨sl,e1⟩:=I.base.slot b o e n hb hx
   exact ⟨sl,(hs.2 b (Nat.ne_of_lt (Nat.lt_of_lt_of_le (Heap.lt_size e) I.ok.above))).trans e1⟩
  ·obtain ⟨o',e1⟩:=I.base.there b o e hx
   exact ⟨o',(hs.2 b (Nat.ne_of_lt (Nat.lt_of_lt_of_le (Heap.lt_size e) I.ok.above))).trans e1⟩
  ·by_cases hj:j=i
   ·subst hj
    rw [hi] at e1; cases e1
    rw [List.getElem?_set_self hiσ] at e2
    cases e2
    exact ⟨u,r,.inl ⟨hk,by simp⟩⟩
   ·rw [List.getElem?_set_ne (Ne.symm hj)] at e2
    obtain ⟨u',r',q⟩:=hl j y v' e1 e2 e3
    refine ⟨u',r',?_⟩
    rcases q with ⟨k,e⟩ | ⟨k,c,e,z⟩
    ·refine .inl ⟨k,?_⟩
     have:y ≠ x:=fun e=>hj (MN hN e1 (e ▸ hi))
     simp [this,e]
    ·exact .inr ⟨k,c,e,z.sameBut hs (XJ y c e)⟩
  ·obtain ⟨w',z⟩:=I.cell y c e
   exact ⟨w',z.sameBut hs (XJ y c e)⟩
  ·obtain ⟨e,n,ne,nf,d⟩:=I.pin p hp
   exact ⟨(hs.2 p.1 ne).trans e,n,ne,nf,d⟩
 ·have hfn:X.fn x=true:=by
   rcases hf with z | z
   ·exact z
   ·rw [z] at hk; cases hk
  obtain ⟨c,hc⟩:=I.ok.has x (.inl hk)
  obtain ⟨w',z⟩:=I.cell x c hc
  refine wpAny_storeName_cell I.ok.kind hk hc z (fun h' hc' hs=>?_)
  obtain ⟨oc,hoc,hocd⟩:=id z
  refine h { s with heap:=h' } ⟨I.ok,I.os,I.bare,⟨fun b o e n hb hx=>?_,fun b o e n hb hx=>?_,I.base.free,fun b o e hx=>?_,I.base.tups,I.base.frzs,I.base.tbls⟩,⟨m,hn.sameBut hs (Ne.symm (XJ x c hc)),fun j y v' e1 e2 e3=>?_⟩,fun y c' e=>?_,I.free,I.freeC,fun p hp=>?_,tracked ⟨oc,hoc,I.freeC x c hc⟩ hs,by simpa using I.len⟩ ⟨c,hs,.inr hc⟩
  ·exact (hs.2 b (Nat.ne_of_lt (Nat.lt_of_lt_of_le (Heap.lt_size e) (I.ok.cab x c hfn hc)))).trans (I.base.keep b o e n hb hx)
  ·obtain ⟨sl,e1⟩:=I.base.slot b o e n hb hx
   exact ⟨sl,(hs.2 b (Nat.ne_of_lt (Nat.lt_of_lt_of_le (Heap.lt_size e) (I.ok.cab x c hfn hc)))).trans e1⟩
  ·obtain ⟨o',e1⟩:=I.base.there b o e hx
   exact ⟨o',(hs.2 b (Nat.ne_of_lt (Nat.lt_of_lt_of_le (Heap.lt_size e) (I.ok.cab x c hfn hc)))).trans e1⟩
  ·by_cases hj:j=i
   ·subst hj
    rw [hi] at e1; cases e1
    rw [List.getElem?_set_self hiσ] at e2
    cases e2
    exact ⟨u,r,.inr ⟨.inl hk,c,hc,hc'⟩⟩
   ·rw [List.getElem?_set_ne (Ne.symm hj)] at e2
    obtain ⟨u',r',q⟩:=hl j y v' e1 e2 e3
    refine ⟨u',r',?_⟩
    rcases q with q | ⟨k,c',e,z'⟩
    ·exact .inl q
    ·refine .inr ⟨k,c',e,z'.sameBut hs ?_⟩
     rintro rfl
     exact hj (MN hN e1 (I.ok.inj _ _ _ e hc ▸ hi))
  ·by_cases hcc:c'=c
   ·subst hcc; exact ⟨_,hc'⟩
   ·obtain ⟨w2,z2⟩:=I.cell y c' e
    exact ⟨w2,z2.sameBut hs hcc⟩
  ·obtain ⟨e,n,ne,nf,d⟩:=I.pin p hp
   refine ⟨(hs.2 p.1 ?_).trans e,n,ne,nf,d⟩
   intro q
   rw [q,hoc] at e
   have q':oc=p.2:=Option.some.inj e
   exact d w' (by rw [← q']; exact hocd)
theorem HY {M:Model} {A:Around} {E:Value->Shared->Prop} {i:Nat} {x:Str} {v:V} {u:Value} {Q:Unit->Shared->Prop} (I:Inv X pins σ H s) (hN:X.N.Nodup) (hi:X.N[i]? = some x) (hx:Loc X.env.scope x) (r:RelV v u)
  (h:∀ s',Inv X pins (σ.set i (some v)) H s'->Q () s') (hf:X.fn x=true \/ X.env.scope.names.lookup x=some .local:=by first | exact .inl rfl | exact .inr rfl | assumption):wpAny M A (storeName X.env x u) Q E s :=
 Ke I hN hi hx r (fun s' I' _=>h s' I') hf
theorem Inv.call' {s':Shared} {ch:List Addr} (I:Inv X pins σ H s) (ho:s'.os=s.os) (u:Un (frs X.stack) ch H H' s.heap s'.heap) (hok:Ex X.prog X.w H' s'.heap) (hg:AllBare s'.gens)
  (hch:∀ b∈ch,(b∈X.ex \/ X.s₀.heap.objs.size<=b)/\b ≠ X.env.locals/\(∀ x c,X.env.cells.lookup x=some c->c ≠ b)/\∀ p∈X.pn++pins,p.1 ≠ b):Inv X pins σ H' s':=by
 obtain ⟨h',g',d',t',o'⟩:=s'
 have e:o'=s.os:=ho
 subst e
 exact I.call (g':=g') (t':=t') (d':=d') u hok hg hch
end
noncomputable abbrev XK:=Value->Option Addr->Hp->Prop
noncomputable abbrev St:=List (Option V)
noncomputable abbrev VK:=V->Hp->Prop
noncomputable abbrev TE:=St->Hp->VK->Prop
noncomputable abbrev TT:=St->Hp->(Bool->Hp->Prop)->Prop
noncomputable abbrev TA:=St->Hp->(List V->Hp->Prop)->Prop
structure Ends where
 nx:St->Hp->Prop
 rt:VK
 bk:St->Hp->Prop:=fun _ _=>False
 ct:St->Hp->Prop:=fun _ _=>False
noncomputable abbrev TS:=Ends->St->Hp->Prop
noncomputable def EP (X:Cx) (pins:List (Addr × Obj)) (σ:St) (Q:VK) (u:Value) (s':Shared):Prop:=∃ v H',Inv X pins σ H' s'/\RelV v u/\Q v H'
noncomputable def TP (X:Cx) (pins:List (Addr × Obj)) (σ:St) (Q:Bool->Hp->Prop) (b:Bool) (s':Shared):Prop:=∃ H',Inv X pins σ H' s'/\Q b H'
noncomputable def AP (X:Cx) (pins:List (Addr × Obj)) (σ:St) (Q:List V->Hp->Prop) (us:List Value) (s':Shared):Prop:=∃ vs H',Inv X pins σ H' s'/\Vals vs us/\Q vs H'
noncomputable def SP (X:Cx) (pins:List (Addr × Obj)) (D:Ends) (f:Flow) (s':Shared):Prop :=
 match f with
 | .next=>∃ σ' H',Inv X pins σ' H' s'/\D.nx σ' H'
 | .brk=>∃ σ' H',Inv X pins σ' H' s'/\D.bk σ' H'
 | .cont=>∃ σ' H',Inv X pins σ' H' s'/\D.ct σ' H'
 | .ret u=>∃ v σ' H',Inv X pins σ' H' s'/\RelV v u/\D.rt v H'
noncomputable def PE (X:Cx) (e:Expr) (t:TE):Prop :=
 ∀ (pins:List (Addr × Obj)) (s:Shared) (σ:St) (H:Hp) (Q:VK),Inv X pins σ H s->t σ H Q->wpAny (model X.prog X.w) X.A (eval e X.env) (EP X pins σ Q) X.xe s
noncomputable def PT (X:Cx) (e:Expr) (t:TT):Prop :=
 ∀ (pins:List (Addr × Obj)) (s:Shared) (σ:St) (H:Hp) (Q:Bool->Hp->Prop),Inv X pins σ H s->t σ H Q->wpAny (model X.prog X.w) X.A (isTrue e X.env (eval e X.env)) (TP X pins σ Q) X.xe s
noncomputable def PW (X:Cx) (e:Expr) (t:TT):Prop :=
 ∀ (whole:Sem Value) (pins:List (Addr × Obj)) (s:Shared) (σ:St) (H:Hp) (Q:Bool->Hp->Prop),Inv X pins σ H s->t σ H Q->wpAny (model X.prog X.w) X.A (isTrue e X.env whole) (TP X pins σ Q) X.xe s
theorem PW.pt {X:Cx} {e:Expr} {t:TT} (h:PW X e t):PT X e t:=h _
noncomputable def PA (X:Cx) (es:List Expr) (t:TA):Prop :=
 ∀ (pos:Pos) (pins:List (Addr × Obj)) (s:Shared) (σ:St) (H:Hp) (Q:List V->Hp->Prop),Inv X pins σ H s->t σ H Q->wpAny (model X.prog X.w) X.A (spliced (backTo pos (starEach es X.env))) (AP X pins σ Q) X.xe s
noncomputable def PS (X:Cx) (st:Stmt) (t:TS):Prop :=
 ∀ (pins:List (Addr × Obj)) (s:Shared) (σ:St) (H:Hp) (D:Ends),Inv X pins σ H s->t D σ H->wpAny (model X.prog X.w) X.A (exec st X.env) (SP X pins D) X.xe s
noncomputable def Ny (X:Cx) (st:List Stmt) (t:TS):Prop :=
 ∀ (pins:List (Addr × Obj)) (s:Shared) (σ:St) (H:Hp) (D:Ends),Inv X pins σ H s->t D σ H->wpAny (model X.prog X.w) X.A (execs st X.env) (SP X pins D) X.xe s
theorem Br {α:Type} {t:Sem α} {Q Q':α->Shared->Prop} {M:Model} {A:Around} {E:Value->Shared->Prop} {s:Shared} (h:wpAny M A t Q E s) (hQ:∀ a s,Q a s->Q' a s):wpAny M A t Q' E s:=wpAny_mono h hQ fun _ _ x=>x
end L2
namespace L2
open PySem PySem.Spec PyProof.Rows
section
variable {X:Cx}
noncomputable def Z1 (i:Nat):TE:=fun σ H Q=>∃ v,σ[i]? = some (some v)/\Q v H
noncomputable def tC (v:V):TE:=fun _ H Q=>Q v H
theorem XD {i:Nat} {x:Str} {pos:Pos} (hN:X.N[i]? = some x) (hv:m9 X.env.scope x) (hd:(x == ("__debug__" : Str))=false:=by decide) (hcd:(x == ("__classdict__" : Str))=false:=by decide):PE X (.Name x pos) (Z1 i):=by
 intro pins s σ H Q I h
 obtain ⟨v,e,h⟩:=h
 obtain ⟨m,hn,hl⟩:=I.loc
 obtain ⟨u,r,l⟩:=hl i x v hN e hv
 have fin:EP X pins σ Q u s:=⟨v,H,I,r,h⟩
 rcases l with ⟨hk,hm⟩ | ⟨hk,c,hc,hcell⟩
 ·exact wpAny_Name (wpAny_loadName_local I.ok.kind hk hn hm fin) hd
 ·rcases hk with hk | hk
  ·exact wpAny_Name (wpAny_loadName_cell I.ok.kind hk hc hcell fin) hd
  ·exact wpAny_Name (wpAny_loadName_free I.ok.kind hk hc hcell fin hcd) hd
theorem Af {i j pos}:PE X (.Constant (.int i) j pos) (tC (.int i)):=fun _ _ _ H _ I h=>wpAny_Constant_int ⟨.int i,H,I.tok _,⟨_,rfl⟩,h⟩
theorem Hn {b j pos}:PE X (.Constant (.bool b) j pos) (tC (.bl b)):=fun _ _ _ H _ I h=>Constant_bool ⟨.bl b,H,I,rfl,h⟩
theorem Hv {j pos}:PE X (.Constant .none j pos) (tC .non):=fun _ _ _ H _ I h=>Constant_none ⟨.non,H,I,rfl,h⟩
theorem Bf {x j pos}:PE X (.Constant (.str x) j pos) (tC (.str x)):=fun _ _ _ H _ I h=>Calls.Constant_str ⟨.str x,H,I.tok _,⟨_,rfl⟩,h⟩
noncomputable def Gl (X:Cx) (x:Str):Prop:=X.env.kindOf x=some .globalImplicit
theorem Hs {E:Value->Shared->Prop} {pins:List (Addr × Obj)} {s:Shared} {σ:St} {H:Hp} {x:Str} {u:Value} {pos:Pos} {Q:Value->Shared->Prop} (I:Inv X pins σ H s) (hg:Gl X x) (hm:X.mg x=some u) (h:Q u s)
  (hd:(x == ("__debug__" : Str))=false:=by decide):wpAny (model X.prog X.w) X.A (eval (.Name x pos) X.env) Q E s :=
 Calls.Name_function_global I.ok.kind hg (Calls.loadGlobal_global (by rw [I.ok.glob]; exact I.mod.glob.keeps I.bk) hm h) hd
theorem HQ {E:Value->Shared->Prop} {pins:List (Addr × Obj)} {s:Shared} {σ:St} {H:Hp} {x:Str} {u:Value} {pos:Pos} {Q:Value->Shared->Prop} (I:Inv X pins σ H s) (hg:Gl X x) (hm:X.mg x=none) (hv:bootBuiltins x=some u) (h:Q u s)
  (hn:x ≠ "__name__":=by decide) (hd:(x == ("__debug__" : Str))=false:=by decide):wpAny (model X.prog X.w) X.A (eval (.Name x pos) X.env) Q E s:=by
 obtain ⟨mb,h1,h2⟩:=I.mod.blt
 exact Calls.Name_function_global I.ok.kind hg (Calls.loadGlobal_builtin (by rw [I.ok.glob]; exact I.mod.glob.keeps I.bk) hm (by rw [I.ok.blt]; exact h1.keeps I.bk) ((h2 x hn).trans hv) h) hd
theorem CP {x:Str} {v:V} {u:Value} {pos:Pos} (hg:Gl X x) (hm:X.mg x=some u) (r:RelV v u) (hd:(x == ("__debug__" : Str))=false:=by decide):PE X (.Name x pos) (tC v) :=
 fun _ _ _ H _ I h=>Hs I hg hm ⟨v,H,I,r,h⟩ hd
theorem Ci {x:Str} {v:V} {u:Value} {pos:Pos} (hg:Gl X x) (hm:X.mg x=none) (hv:bootBuiltins x=some u) (r:RelV v u) (hn:x ≠ "__name__":=by decide) (hd:(x == ("__debug__" : Str))=false:=by decide):PE X (.Name x pos) (tC v) :=
 fun _ _ _ H _ I h=>HQ I hg hm hv ⟨v,H,I,r,h⟩ hn hd
variable {a b:Expr} {ta tb:TE} {pos:Pos}
noncomputable def PC (X:Cx) (op:CmpOp) (a b:Expr) (t:TE):Prop :=
 ∀ (pins:List (Addr × Obj)) (s:Shared) (σ:St) (H:Hp) (Q:VK),Inv X pins σ H s->t σ H Q ->
  wpAny (model X.prog X.w) X.A (eval a X.env) (fun v s₁=>wpAny (model X.prog X.w) X.A (eval b X.env) (fun u s₂=>wpAny (model X.prog X.w) X.A (compareOp op v u) (EP X pins σ Q) X.xe s₂) X.xe s₁) X.xe s
noncomputable def tB (t:TE):TT:=fun σ H Q=>t σ H fun x H1=>∃ c,x=.bl c/\Q c H1
theorem Tc {op:CmpOp} {t:TE} (h:PC X op a b t) (h1:behindInMarks op b=false:=by first | exact nobehind _ (by decide) (by decide) | rfl):PE X (.Compare a [op] [b] pos) t:=fun pins s σ H Q I hw=>wpAny_Compare1 (h pins s σ H Q I hw) h1
theorem Sv {op:CmpOp} {t:TE} (h:PC X op a b t) (h1:behindInMarks op b=false:=by first | exact nobehind _ (by decide) (by decide) | rfl):PT X (.Compare a [op] [b] pos) (tB t):=by
 intro pins s σ H Q I hw
 refine wpAny_isTrue_Compare1 (Br (h pins s σ H _ I hw) fun v s1 h1=>Br h1 fun u s2 h2=>Br h2 fun c s3 ⟨x,H1,I1,r1,q1⟩=>?_) h1
 obtain ⟨d,rfl,q⟩:=q1
 cases r1
 exact wpAny_truthy_bool ⟨H1,I1,q⟩
theorem Ce {e:Expr} {t:TE} (h:PE X e t) (he:∀ whole,isTrue e X.env whole=(do let v ← whole; standAt e.pos; holding [v] (truthy v)):=by intro _; rfl):PT X e (tB t):=by
 intro pins s σ H Q I hw
 refine isTrue_plain (Br (h pins s σ H _ I hw) fun v s1 ⟨x,H1,I1,r1,q1⟩=>?_) (he _)
 obtain ⟨d,rfl,q⟩:=q1
 cases r1
 exact wpAny_truthy_bool ⟨H1,I1,q⟩
variable {tA tB':TT} {rest:List Expr}
noncomputable def jV (t u:TT):TT:=fun σ H Q=>t σ H fun c H1=>if c=true then u σ H1 Q else Q false H1
noncomputable def lK (t u:TT):TT:=fun σ H Q=>t σ H fun c H1=>if c=true then Q true H1 else u σ H1 Q
noncomputable def jW (t:TT):TT:=fun σ H Q=>t σ H fun c H1=>Q (!c) H1
theorem K3 (ha:PT X a tA):PW X (.BoolOp .And [a] pos) tA:=by
 intro wh pins s σ H Q I h
 refine isTrue_and (Br (ha pins s σ H Q I h) fun c s1 e=>?_)
 cases c with
 | true=>exact isTrue_and_nil e
 | false=>exact e
theorem Fd (ha:PT X a tA):PW X (.BoolOp .Or [a] pos) tA:=by
 intro wh pins s σ H Q I h
 refine isTrue_or (Br (ha pins s σ H Q I h) fun c s1 e=>?_)
 cases c with
 | false=>exact isTrue_or_nil e
 | true=>exact e
theorem Mt (ha:PT X a tA) (hb:PW X (.BoolOp .And (b::rest) pos) tB'):PW X (.BoolOp .And (a::b::rest) pos) (jV tA tB'):=by
 intro wh pins s σ H Q I h
 refine isTrue_and (Br (ha pins s σ H _ I h) fun c s1 hq0=>?_)
 obtain ⟨H1,I1,q1⟩:=hq0
 cases c with
 | true=>exact hb wh pins s1 σ H1 Q I1 q1
 | false=>exact ⟨H1,I1,q1⟩
theorem Ff (ha:PT X a tA) (hb:PW X (.BoolOp .Or (b::rest) pos) tB'):PW X (.BoolOp .Or (a::b::rest) pos) (lK tA tB'):=by
 intro wh pins s σ H Q I h
 refine isTrue_or (Br (ha pins s σ H _ I h) fun c s1 hq0=>?_)
 obtain ⟨H1,I1,q1⟩:=hq0
 cases c with
 | true=>exact ⟨H1,I1,q1⟩
 | false=>exact hb wh pins s1 σ H1 Q I1 q1
theorem CT (ha:PT X a tA):PT X (.UnaryOp .Not a pos) (jW tA):=by
 intro pins s σ H Q I h
 exact isTrue_not (ha pins s σ H (fun c H1=>Q (!c) H1) I h)
noncomputable def Y9 (ta tb:TE):TE:=fun σ H Q=>ta σ H fun x H1=>∃ c,x=.bl c/\if c=true then tb σ H1 Q else Q (.bl false) H1
noncomputable def ie (ta tb:TE):TE:=fun σ H Q=>ta σ H fun x H1=>∃ c,x=.bl c/\if c=true then Q (.bl true) H1 else tb σ H1 Q
noncomputable def Za (ta:TE):TE:=fun σ H Q=>ta σ H fun x H1=>∃ c,x=.bl c/\Q (.bl (!c)) H1
theorem Cq {op} {t:TE} (h:PE X a t):PE X (.BoolOp op [a] pos) t:=fun pins s σ H Q I hw=>BoolOp_one (h pins s σ H Q I hw)
theorem Cj (ha:PE X a ta) (hb:PE X (.BoolOp .And (b::rest) pos) tb):PE X (.BoolOp .And (a::b::rest) pos) (Y9 ta tb):=by
 intro pins s σ H Q I h
 refine BoolOp_and (Br (ha pins s σ H _ I h) fun v s1 hq0=>?_)
 obtain ⟨x,H1,I1,r1,q1⟩:=hq0
 obtain ⟨c,rfl,q1⟩:=q1
 cases r1
 refine wpAny_truthy_bool ?_
 cases c with
 | true=>exact hb pins s1 σ H1 Q I1 q1
 | false=>exact ⟨.bl false,H1,I1,rfl,q1⟩
theorem Zy (ha:PE X a ta) (hb:PE X (.BoolOp .Or (b::rest) pos) tb):PE X (.BoolOp .Or (a::b::rest) pos) (ie ta tb):=by
 intro pins s σ H Q I h
 refine BoolOp_or (Br (ha pins s σ H _ I h) fun v s1 hq0=>?_)
 obtain ⟨x,H1,I1,r1,q1⟩:=hq0
 obtain ⟨c,rfl,q1⟩:=q1
 cases r1
 refine wpAny_truthy_bool ?_
 cases c with
 | false=>exact hb pins s1 σ H1 Q I1 q1
 | true=>exact ⟨.bl true,H1,I1,rfl,q1⟩
theorem Rf (ha:PE X a ta):PE X (.UnaryOp .Not a pos) (Za ta):=by
 intro pins s σ H Q I h
 refine UnaryOp_ (Br (ha pins s σ H _ I h) fun v s1 hq0=>?_)
 obtain ⟨x,H1,I1,r1,q1⟩:=hq0
 obtain ⟨c,rfl,q1⟩:=q1
 cases r1
 exact not_of (wpAny_truthy_bool ⟨.bl (!c),H1,I1,rfl,q1⟩)
noncomputable def oV (t:TT) (ta tb:TE):TE:=fun σ H Q=>t σ H fun c H1=>if c=true then ta σ H1 Q else tb σ H1 Q
theorem Le {c:Expr} (hc:PT X c tA) (ha:PE X a ta) (hb:PE X b tb):PE X (.IfExp c a b pos) (oV tA ta tb):=by
 intro pins s σ H Q I h
 refine wpAny_IfExp (Br (hc pins s σ H _ I h) fun d s1 hq0=>?_)
 obtain ⟨H1,I1,q1⟩:=hq0
 cases d with
 | true=>exact ha pins s1 σ H1 Q I1 q1
 | false=>exact hb pins s1 σ H1 Q I1 q1
end
end L2
namespace L2
open PySem PySem.Spec PyProof.Rows
noncomputable def Cu (K:PySem.W.Frag) (H:Hp) (a:Addr) (xs:List V):Prop :=
 Rd H a (.lst xs) \/
  ∃ (o:Obj) (its:Array Value) (n:Nat),K.lookup a=some o/\o.cls=.type "list" /\ o.dict=none/\o.data=.seq its n/\its.size<=sizeLine/\Vals xs its.toList
noncomputable def GD (K:PySem.W.Frag) (H:Hp) (a:Addr) (xs:List V):Prop :=
 Rd H a (.tup xs) \/
  ∃ (o:Obj) (its:Array Value) (n:Nat),K.lookup a=some o/\o.cls=.type "tuple" /\ o.data=.seq its n/\its.size<=sizeLine/\Vals xs its.toList
noncomputable def mj:Value->Option V
 | .none=>some .non
 | .bool b=>some (.bl b)
 | .int i _=>some (.int i)
 | .str x _=>some (.str x)
 | .bytes b _=>some (.byt b)
 | .float b _=>some (.flt b)
 | .ref a=>some (.ref a)
 | .type n=>some (.ty n)
 | _=>none
theorem RelV.abs {x:V} {u:Value} (r:RelV x u):mj u=some x:=by
 cases x with
 | non=>cases r; rfl
 | bl _=>cases r; rfl
 | int _=>obtain ⟨t,rfl⟩:=r; rfl
 | str _=>obtain ⟨t,rfl⟩:=r; rfl
 | byt _=>obtain ⟨t,rfl⟩:=r; rfl
 | flt _=>obtain ⟨t,rfl⟩:=r; rfl
 | ref _=>cases r; rfl
 | ty _=>cases r; rfl
theorem RelV.inj {x y:V} {u:Value} (r:RelV x u) (q:RelV y u):x=y:=Option.some.inj (r.abs.symm.trans q.abs)
theorem Vals.inj:∀ {xs ys:List V} {us:List Value},Vals xs us->Vals ys us->xs=ys
 | _,_,_,.nil,.nil=>rfl
 | _,_,_,.cons r t,.cons r' t'=>by rw [r.inj r',Vals.inj t t']
section
variable {X:Cx} {pins:List (Addr × Obj)} {σ:St} {H:Hp} {s:Shared} {a:Addr} {xs ys:List V}
theorem Inv.list (I:Inv X pins σ H s) (h:Cu X.K H a xs):∃ its:List Value,Vals xs its/\PlainL s.heap a its.toArray/\xs.length<=sizeLine:=by
 rcases h with h | ⟨o,its,n,hk,hc,hd,hs,hz,r⟩
 ·obtain ⟨z,its,n,r,e⟩:=h.ok I.hok
  exact ⟨its,r,⟨_,n,e,rfl,rfl,rfl⟩,z⟩
 ·refine ⟨its.toList,r,⟨o,n,I.Gw a o hk,hc,hd,by simpa using hs⟩,?_⟩
  have e:=r.length
  simp only [Array.length_toList] at e
  omega
theorem Inv.tuple (I:Inv X pins σ H s) (h:GD X.K H a xs):∃ its:List Value,Vals xs its/\IsTup s.heap a its.toArray/\xs.length<=sizeLine:=by
 rcases h with h | ⟨o,its,n,hk,hc,hs,hz,r⟩
 ·obtain ⟨z,its,r,p⟩:=h.ok I.hok
  exact ⟨its,r,p,z⟩
 ·refine ⟨its.toList,r,⟨o,I.Gw a o hk,hc,n,by simpa using hs⟩,?_⟩
  have e:=r.length
  simp only [Array.length_toList] at e
  omega
theorem Inv.Mj (I:Inv X pins σ H s) (h:Cu X.K H a xs) (h':Cu X.K H a ys):xs=ys:=by
 obtain ⟨its,r,⟨o,n,e,_,_,d⟩,_⟩:=I.list h
 obtain ⟨its',r',⟨o',n',e',_,_,d'⟩,_⟩:=I.list h'
 rw [e] at e'; cases e'
 rw [d] at d'
 injection d' with d1 _
 have:its=its':=by simpa using congrArg Array.toList d1
 subst this
 exact r.inj r'
theorem Inv.Ie (I:Inv X pins σ H s) (h:GD X.K H a xs) (h':GD X.K H a ys):xs=ys:=by
 obtain ⟨its,r,⟨o,e,_,n,d⟩,_⟩:=I.tuple h
 obtain ⟨its',r',⟨o',e',_,n',d'⟩,_⟩:=I.tuple h'
 rw [e] at e'; cases e'
 rw [d] at d'
 injection d' with d1 _
 have:its=its':=by simpa using congrArg Array.toList d1
 subst this
 exact r.inj r'
end
noncomputable abbrev Cx.wish (X:Cx) (E:Value->Shared->Prop):Cx:={ X with xe:=E }
noncomputable abbrev Cx.fP (X:Cx):Cx:=X.wish fun _ _=>False
theorem Cx.Ok.wish {X:Cx} (ok:X.Ok) (E:Value->Shared->Prop):(X.wish E).Ok :=
 ⟨ok.mod,ok.kind,ok.glob,ok.blt,ok.above,ok.inj,ok.has,ok.cab,ok.hd,ok.frames,ok.stk,ok.exf,ok.bs,ok.bsz,ok.noex,ok.exfs,ok.Ib,ok.frf⟩
theorem Cx.Ok.Gb {X:Cx} {E:Value->Shared->Prop} (ok:(X.wish E).Ok):X.Ok :=
 ⟨ok.mod,ok.kind,ok.glob,ok.blt,ok.above,ok.inj,ok.has,ok.cab,ok.hd,ok.frames,ok.stk,ok.exf,ok.bs,ok.bsz,ok.noex,ok.exfs,ok.Ib,ok.frf⟩
section
variable {X:Cx} {pins:List (Addr × Obj)} {σ:St} {H:Hp} {s:Shared} {E:Value->Shared->Prop}
theorem Inv.wish (I:Inv X pins σ H s) (E:Value->Shared->Prop):Inv (X.wish E) pins σ H s:=⟨I.ok.wish E,I.os,I.bare,I.base,I.loc,I.cell,I.free,I.freeC,I.pin,I.hok,I.len⟩
theorem Inv.Gb (I:Inv (X.wish E) pins σ H s):Inv X pins σ H s:=⟨I.ok.Gb,I.os,I.bare,I.base,I.loc,I.cell,I.free,I.freeC,I.pin,I.hok,I.len⟩
theorem SP.Gb {D:Ends} {f:Flow} {s':Shared} (h:SP (X.wish E) pins D f s'):SP X pins D f s':=by
 cases f with
 | next=>obtain ⟨σ',H',I,q⟩:=h; exact ⟨σ',H',I.Gb,q⟩
 | brk=>obtain ⟨σ',H',I,q⟩:=h; exact ⟨σ',H',I.Gb,q⟩
 | cont=>obtain ⟨σ',H',I,q⟩:=h; exact ⟨σ',H',I.Gb,q⟩
 | ret u=>obtain ⟨v,σ',H',I,r,q⟩:=h; exact ⟨v,σ',H',I.Gb,r,q⟩
theorem Ny.fP {st:List Stmt} {t:TS} (h:Ny X.fP st t):Ny X st t:=fun pins s σ H D I hw =>
 wpAny_mono (h pins s σ H D (I.wish _) hw) (fun _ _ q=>q.Gb) fun _ _ z=>False.elim z
end
section
variable {X:Cx} {st:Stmt} {rest:List Stmt} {t u:TS} {e:Expr} {te:TE} {pos:Pos}
noncomputable def aH:TS:=fun D σ H=>D.nx σ H
noncomputable def QD (t u:TS):TS:=fun D σ H=>t { D with nx:=u D } σ H
theorem Bb:Ny X [] aH:=fun _ _ σ H _ I h=>wpAny_execs_nil ⟨σ,H,I,h⟩
theorem Ag (h1:PS X st t) (h2:Ny X rest u):Ny X (st::rest) (QD t u):=by
 intro pins s σ H D I h
 refine wpAny_execs_cons (Br (h1 pins s σ H { D with nx:=u D } I h) fun f s1 q=>?_)
 cases f with
 | next =>
  obtain ⟨σ',H',I',q⟩:=q
  exact h2 pins s1 σ' H' D I' q
 | ret v=>exact q
 | brk=>exact q
 | cont=>exact q
theorem Ae (h1:PS X st t):Ny X [st] t:=by
 intro pins s σ H D I h
 refine wpAny_execs_cons (Br (h1 pins s σ H D I h) fun f s1 q=>?_)
 cases f with
 | next=>exact wpAny_execs_nil q
 | ret v=>exact q
 | brk=>exact q
 | cont=>exact q
noncomputable def Xx:TS:=fun D σ H=>D.bk σ H
theorem Rj:PS X (.Break pos) Xx:=fun _ _ σ H _ I h=>wpAny_Break ⟨σ,H,I,h⟩
theorem Inv.quiet {pins:List (Addr × Obj)} {σ:St} {H:Hp} {s:Shared} (I:Inv X pins σ H s):interactive X.env=false:=by simp [interactive,I.ok.kind]
noncomputable def Zr (te:TE):TS:=fun D σ H=>te σ H fun _ H1=>D.nx σ H1
theorem Ei (he:PE X e te) (hs:swapsWith e none pos.line X.env=pure false:=by rfl):PS X (.Expr e pos) (Zr te):=by
 intro pins s σ H D I h
 exact wpAny_Expr_any (Br (he pins s σ H _ I h) fun v s1 ⟨x,H1,I1,r1,q1⟩=>⟨σ,H1,I1,q1⟩) I.quiet hs
noncomputable def gh (te:TE):TS:=fun D σ H=>te σ H D.rt
theorem Ax (he:PE X e te):PS X (.Return (some e) pos) (gh te):=by
 intro pins s σ H D I h
 exact wpAny_Return_some (Br (he pins s σ H _ I h) fun v s1 ⟨x,H1,I1,r1,q1⟩=>⟨x,σ,H1,I1,r1,q1⟩)
noncomputable def Wm (c:TT) (t u:TS):TS:=fun D σ H=>c σ H fun b H1=>if b=true then t D σ H1 else u D σ H1
theorem By {c:Expr} {a b:List Stmt} {tc:TT} (hc:PT X c tc) (ha:Ny X a t) (hb:Ny X b u):PS X (.If c a b pos) (Wm tc t u):=by
 intro pins s σ H D I h
 refine wpAny_If (Br (hc pins s σ H _ I h) fun d s1 hq0=>?_)
 obtain ⟨H1,I1,q1⟩:=hq0
 cases d with
 | true=>exact ha pins s1 σ H1 D I1 q1
 | false=>exact hb pins s1 σ H1 D I1 q1
noncomputable def X5:TS:=fun _ _ _=>False
theorem D_:PS X st X5:=fun _ _ _ _ _ _ h=>h.elim
end
noncomputable abbrev TG:=V->St->Hp->(St->Hp->Prop)->Prop
noncomputable abbrev Xj:=List V->St->Hp->(St->Hp->Prop)->Prop
noncomputable def PG (X:Cx) (target:Expr) (t:TG):Prop :=
 ∀ (pins:List (Addr × Obj)) (s:Shared) (σ:St) (H:Hp) (v:V) (u:Value) (Q:St->Hp->Prop),Inv X pins σ H s->RelV v u->t v σ H Q ->
  wpAny (model X.prog X.w) X.A (assign target X.env u) (fun _ s'=>∃ σ' H',Inv X pins σ' H' s'/\Q σ' H') X.xe s
noncomputable def fY (X:Cx) (ts:List Expr) (t:Xj):Prop :=
 ∀ (pins:List (Addr × Obj)) (s:Shared) (σ:St) (H:Hp) (vs:List V) (us:List Value) (Q:St->Hp->Prop),Inv X pins σ H s->Vals vs us->t vs σ H Q ->
  wpAny (model X.prog X.w) X.A (assignInOrder ((assignEach ts X.env).map (·.2)) us) (fun _ s'=>∃ σ' H',Inv X pins σ' H' s'/\Q σ' H') X.xe s
section
variable {X:Cx} {pos:Pos}
noncomputable def Cw (i:Nat):TG:=fun v σ H Q=>Q (σ.set i (some v)) H
theorem CW {i:Nat} {x:Str} (hN:X.N.Nodup) (hi:X.N[i]? = some x) (hx:Loc X.env.scope x) (hf:X.fn x=true \/ X.env.scope.names.lookup x=some .local:=by first | exact .inl rfl | exact .inr rfl | assumption):PG X (.Name x pos) (Cw i):=by
 intro pins s σ H v u Q I r h
 exact wpAny_assign_Name (HY I hN hi hx r (fun s' I'=>⟨_,H,I',h⟩) hf)
noncomputable def Ph:Xj:=fun vs σ H Q=>vs=[]/\Q σ H
noncomputable def Gj (t:TG) (u:Xj):Xj:=fun vs σ H Q=>∃ v r,vs=v::r/\t v σ H fun σ' H'=>u r σ' H' Q
theorem JF:fY X [] Ph:=by
 intro pins s σ H vs us Q I r h
 obtain ⟨e,h⟩:=h
 subst e
 cases r
 exact assignInOrder_nil ⟨σ,H,I,h⟩
theorem Dz {e:Expr} {es:List Expr} {t:TG} {u:Xj} (h1:PG X e t) (h2:fY X es u)
  (hs:(assignEach (e::es) X.env).map (·.2)=assign e X.env::(assignEach es X.env).map (·.2):=by rfl):fY X (e::es) (Gj t u):=by
 intro pins s σ H vs us Q I r h
 obtain ⟨v,vr,e1,h⟩:=h
 subst e1
 cases r with
 | cons r rr =>
  rw [hs]
  refine assignInOrder_cons (Br (h1 pins s σ H _ _ _ I r h) fun _ s1 hq0=>?_)
  obtain ⟨σ1,H1,I1,q1⟩:=hq0
  exact h2 pins s1 σ1 H1 _ _ Q I1 rr q1
noncomputable def Qn (K:PySem.W.Frag) (n:Nat) (t:Xj):TG:=fun v σ H Q=>∃ a xs,v=.ref a/\GD K H a xs/\xs.length=n/\t xs σ H Q
theorem Kr {es:List Expr} {k:Nat} {t:Xj} {n:Nat} (hc:X.calm=true) (h:fY X es t)
  (hn:(assignEach es X.env).length=n:=by rfl) (hst:(assignEach es X.env).findIdx? (·.1)=none:=by rfl):PG X (.Tuple es k pos) (Qn X.K n t):=by
 intro pins s σ H v u Q I r hw
 obtain ⟨a,xs,e1,hq,hl,hw⟩:=hw
 subst e1
 cases r
 obtain ⟨its,rv,ht,hz⟩:=I.tuple hq
 refine assign_Tuple_tuple (I.ok.hd hc) ht (by simp [hn,← hl,rv.length]) hst fun h' hx=>?_
 have I1:Inv X pins σ H { s with heap:=h' }:=I.kept (t':=s.toks) fun b o e=>hx b o (Nat.ne_of_lt (Heap.lt_size e)) e
 exact h pins _ σ H xs _ Q I1 (by simpa using rv) hw
noncomputable def Vl (te:TE) (g:TG):TS:=fun D σ H=>te σ H fun x H1=>g x σ H1 D.nx
theorem BX {i:Nat} {x:Str} {e:Expr} {te:TE} {pos':Pos} (hN:X.N.Nodup) (hi:X.N[i]? = some x) (hx:Loc X.env.scope x) (he:PE X e te) (hs:swapsWith e (some (.Name x pos')) pos.line X.env=pure false:=by rfl) (hf:X.fn x=true \/ X.env.scope.names.lookup x=some .local:=by first | exact .inl rfl | exact .inr rfl | assumption) :
  PS X (.Assign [.Name x pos'] e pos) (Vl te (Cw i)):=by
 intro pins s σ H D I h
 refine wpAny_Assign_Name (Br (he pins s σ H _ I h) fun v s1 ⟨y,H1,I1,r1,q1⟩=>?_) hs
 exact HY I1 hN hi hx r1 (fun s2 I2=>⟨_,H1,I2,q1⟩) hf
end
section
variable {X:Cx} {pos:Pos}
noncomputable def Kl (c:TT) (tb:TS):TS:=fun D σ H=>∃ W:Nat->St->Hp->Prop,(∃ m,W m σ H)/\∀ m σ H,W m σ H ->
 c σ H fun b H1=>if b=true then ∃ N:St->Hp->Prop,(∀ σ' H',N σ' H'->∃ m',m'<m/\W m' σ' H')/\tb { D with nx:=N,ct:=N,bk:=D.nx } σ H1 else D.nx σ H1
theorem RZ {c:Expr} {body:List Stmt} {tc:TT} {tb:TS} (hp:PassesOwn (model X.prog X.w) X.A X.env X.xe) (hc:PT X c tc) (hb:Ny X body tb):PS X (.While c body [] pos) (Kl tc tb):=by
 intro pins s σ H D I h
 obtain ⟨W,⟨m0,w0⟩,turn⟩:=h
 refine wpAny_While (codeAny_whileLoop (fun n s'=>∃ σ' H',Inv X pins σ' H' s'/\W n σ' H') ?_ m0 ⟨σ,H,I,w0⟩)
 rintro n s1 ⟨σ1,H1,I1,w1⟩
 refine wpAny_passesOwn hp (Br (hc pins s1 σ1 H1 _ I1 (turn n σ1 H1 w1)) fun b s2 hq0=>?_)
 obtain ⟨H2,I2,q2⟩:=hq0
 cases b with
 | true =>
  obtain ⟨N,hN,q2⟩:=q2
  rw [if_pos rfl]
  refine wpAny_passesOwn hp (Br (hb pins s2 σ1 H2 _ I2 q2) fun f s3 q3=>?_)
  cases f with
  | next =>
   obtain ⟨σ3,H3,I3,n3⟩:=q3
   obtain ⟨m',hm,w3⟩:=hN σ3 H3 n3
   exact ⟨m',hm,σ3,H3,I3,w3⟩
  | cont =>
   obtain ⟨σ3,H3,I3,n3⟩:=q3
   obtain ⟨m',hm,w3⟩:=hN σ3 H3 n3
   exact ⟨m',hm,σ3,H3,I3,w3⟩
  | brk=>exact q3
  | ret v=>exact q3
 | false =>
  rw [if_neg Bool.false_ne_true]
  exact wpAny_execs_nil ⟨σ1,H2,I2,q2⟩
end
structure It where
 go:Nat->Hp->Prop
 yld:Nat->Hp->V->Hp->Prop
 stop:Nat->Hp->Prop
noncomputable def Ft (X:Cx) (pins:List (Addr × Obj)) (H:Hp) (b:Addr):Prop :=
 H b=none/\b ≠ X.env.locals/\b ∉ X.fs/\(b∈X.ex \/ X.s₀.heap.objs.size<=b)/\(∀ x c,X.env.cells.lookup x=some c->c ≠ b)/\∀ p∈X.pn++pins,p.1 ≠ b
theorem Inv.J2 {X:Cx} {pins:List (Addr × Obj)} {σ:St} {H H':Hp} {s:Shared} {b:Addr} (I:Inv X pins σ H s) (hb:s.heap.objs.size<=b) (hn:H' b=none):Ft X pins H' b:=by
 refine ⟨hn,Nat.ne_of_gt (Nat.lt_of_lt_of_le I.lt hb),I.lM hb,.inr (Nat.le_trans I.sz hb),fun x c e z=>?_,fun p hp z=>?_⟩
 ·obtain ⟨v,q⟩:=I.cell x c e
  exact absurd (Nat.lt_of_lt_of_le q.lt (by rw [z]; exact hb)) (Nat.lt_irrefl _)
 ·exact absurd (Nat.lt_of_lt_of_le (Heap.lt_size (I.pin p hp).1) (by rw [z]; exact hb)) (Nat.lt_irrefl _)
structure Turn (P:Program) (w:World) (K:PySem.W.Frag) (tg:Expr) (J:It) (fp:List Addr) (it:Addr) (tn:Nat->Heap->Prop):Prop where
 mem:it∈fp
 obj:∀ i h,tn i h->∀ b∈fp,∃ o,h.get? b=some o/\∀ v,o.data ≠ .cell v
 keep:∀ i h h',tn i h->(∀ b∈fp,∀ o,h.get? b=some o->h'.get? b=some o)->tn i h'
 item:∀ (X:Cx),X.prog=P->X.w=w->X.K=K->X.calm=true->∀ (i:Nat) (pins:List (Addr × Obj)) (s:Shared) (σ:St) (H:Hp) (E:Value->Shared->Prop),Inv X pins σ H s->(∀ b∈fp,Ft X pins H b)->tn i s.heap->J.go i H ->
  wpAny (model P w) X.A (pyNext (.ref it)) (fun r s1=>∃ u,r=some u /\
   wpAny (model P w) X.A (letOwnedTupleGo tg (.ref it) u) (fun _ s2=>∃ x H',Inv X pins σ H' s2/\RelV x u/\J.yld i H x H'/\tn (i+1) s2.heap/\∀ b∈fp,H' b=none) E s1) E s
 done:∀ (X:Cx),X.prog=P->X.w=w->X.K=K->X.calm=true->∀ (i:Nat) (pins:List (Addr × Obj)) (s:Shared) (σ:St) (H:Hp) (E:Value->Shared->Prop),Inv X pins σ H s->(∀ b∈fp,Ft X pins H b)->tn i s.heap->J.stop i H ->
  wpAny (model P w) X.A (pyNext (.ref it)) (fun r s1=>r=none/\Inv X pins σ H s1) E s
 self:∀ (A:Around) (i:Nat) (s:Shared) (Q:Value->Shared->Prop) (E:Value->Shared->Prop),tn i s.heap->Q (.ref it) s->wpAny (model P w) A (pyIter (.ref it)) Q E s
noncomputable abbrev TI:=St->Hp->(It->Hp->Prop)->Prop
noncomputable def PIE (X:Cx) (pins:List (Addr × Obj)) (σ:St) (tg:Expr) (R:It->Hp->Prop) (itv:Value) (s2:Shared):Prop :=
 ∃ (it:Addr) (fp:List Addr) (tn:Nat->Heap->Prop) (J:It) (H':Hp),itv=.ref it/\Inv X pins σ H' s2/\Turn X.prog X.w X.K tg J fp it tn/\tn 0 s2.heap/\(∀ b∈fp,Ft X pins H' b)/\R J H'
noncomputable def PI (X:Cx) (tg iter:Expr) (wi:TI):Prop :=
 ∀ (pins:List (Addr × Obj)) (s:Shared) (σ:St) (H:Hp) (R:It->Hp->Prop),Inv X pins σ H s->wi σ H R ->
  wpAny (model X.prog X.w) X.A (eval iter X.env) (fun v s1=>wpAny (model X.prog X.w) X.A (pyIter v) (PIE X pins σ tg R) X.xe s1) X.xe s
theorem Mq {M:Model} {A:Around} {E:Value->Shared->Prop} {s:Shared} {tg:Expr} {it:Addr} {u:Value} {o:Obj} {n:String} {vs:Array Value} {Q:Unit->Shared->Prop} (ho:s.heap.get? it=some o) (hc:o.cls=.type n) (hd:o.data=.fields vs)
  (hn:["enumerate","zip","dict_itemiterator","dict_reverseitemiterator","odict_iterator","itertools.zip_longest","itertools.pairwise"].contains n=false) (hQ:Q () s):wpAny M A (letOwnedTupleGo tg (.ref it) u) Q E s:=by
 unfold letOwnedTupleGo
 cases tg <;> first
  | exact wpAny_pure hQ
  | (cases u <;> first
    | exact wpAny_pure hQ
    | (refine wpAny_bind (wpAny_load ho ?_)
       rw [hc,hd]
       show wpAny M A (if (["enumerate","zip","dict_itemiterator","dict_reverseitemiterator","odict_iterator","itertools.zip_longest","itertools.pairwise"].contains n && vs[0]? == some (rawInt _))=true then _ else _) Q E s
       rw [if_neg (by intro h; rw [hn,Bool.false_and] at h; cases h)]
       exact wpAny_pure hQ))
noncomputable def W8 (K:PySem.W.Frag) (a:Addr):It :=
 ⟨fun i H=>∃ xs x,Cu K H a xs/\xs[i]? = some x,fun i H x H'=>H'=H/\∀ xs,Cu K H a xs->xs[i]? = some x,fun i H=>∃ xs,Cu K H a xs/\xs.length<=i⟩
noncomputable def lE (K:PySem.W.Frag) (a:Addr):It :=
 ⟨fun i H=>∃ xs x,GD K H a xs/\xs[i]? = some x,fun i H x H'=>H'=H/\∀ xs,GD K H a xs->xs[i]? = some x,fun i H=>∃ xs,GD K H a xs/\xs.length<=i⟩
noncomputable def V6 (lo:Int) (n:Nat):It:=⟨fun i _=>i<n,fun i H x H'=>H'=H/\x=.int (lo+i),fun i _=>n<=i⟩
theorem Qa {P:Program} {w:World} {K:PySem.W.Frag} {tg:Expr} (a it:Addr):Turn P w K tg (W8 K a) [it] it (fun i h=>h.IsListIter it a i) where
 mem:=by simp
 obj:=fun i h st b hb=>by
  have e:b=it:=by simpa using hb
  subst e
  obtain ⟨o,e,c,d⟩:=st
  exact ⟨o,e,fun v z=>by rw [d] at z; cases z⟩
 keep:=fun i h h' st k=>st.at fun o e=>k it (by simp) o e
 item:=by
  intro X hP hw hK hc i pins s σ H E I hf st hg
  subst hP hw hK
  obtain ⟨xs,x,hq,hx⟩:=hg
  obtain ⟨its,rv,p,hz⟩:=I.list hq
  obtain ⟨u,hu,ru⟩:=rv.get hx
  obtain ⟨f0,f1,f2,f3,f4,f5⟩:=hf it (by simp)
  refine wpAny_pyNext_list_item st p.isList (x:=u) (by simpa using hu) fun h' st' sb=>?_
  have I1:Inv X pins σ H { s with heap:=h' }:=I.turned (t':=s.toks) (fun b o hb e=>(sb.2 b hb).trans e) f0 f1 f3 f4 f5
  obtain ⟨o,e,c,d⟩:=id st'
  exact ⟨u,rfl,Mq (s:={ s with heap:=h' }) e c d (by decide) ⟨x,H,I1,ru,⟨rfl,fun ys hy=>by rw [I.Mj hy hq]; exact hx⟩,st',fun b hb=>(hf b hb).1⟩⟩
 done:=by
  intro X hP hw hK hc i pins s σ H E I hf st hg
  subst hP hw hK
  obtain ⟨xs,hq,hx⟩:=hg
  obtain ⟨its,rv,p,hz⟩:=I.list hq
  obtain ⟨f0,f1,f2,f3,f4,f5⟩:=hf it (by simp)
  have hl:=rv.length
  exact wpAny_pyNext_list_end (I.ok.hd hc) st p.isList (by simp; omega) fun h' eb=>⟨rfl,I.turned (t':=s.toks) (fun b o hb e=>eb b o hb e) f0 f1 f3 f4 f5⟩
 self:=fun _ _ _ _ _ st h=>wpAny_pyIter_listiter st h
theorem Nu {P:Program} {w:World} {K:PySem.W.Frag} {tg:Expr} (a it:Addr):Turn P w K tg (lE K a) [it] it (fun i h=>h.IsTupleIter it a i) where
 mem:=by simp
 obj:=fun i h st b hb=>by
  have e:b=it:=by simpa using hb
  subst e
  obtain ⟨o,e,c,d⟩:=st
  exact ⟨o,e,fun v z=>by rw [d] at z; cases z⟩
 keep:=fun i h h' st k=>st.at fun o e=>k it (by simp) o e
 item:=by
  intro X hP hw hK hc i pins s σ H E I hf st hg
  subst hP hw hK
  obtain ⟨xs,x,hq,hx⟩:=hg
  obtain ⟨its,rv,p,hz⟩:=I.tuple hq
  obtain ⟨u,hu,ru⟩:=rv.get hx
  obtain ⟨f0,f1,f2,f3,f4,f5⟩:=hf it (by simp)
  refine wpAny_pyNext_tuple_item st (show s.heap.IsTuple a its.toArray from p) (x:=u) (by simpa using hu) fun h' st' sb=>?_
  have I1:Inv X pins σ H { s with heap:=h' }:=I.turned (t':=s.toks) (fun b o hb e=>(sb.2 b hb).trans e) f0 f1 f3 f4 f5
  obtain ⟨o,e,c,d⟩:=id st'
  exact ⟨u,rfl,Mq (s:={ s with heap:=h' }) e c d (by decide) ⟨x,H,I1,ru,⟨rfl,fun ys hy=>by rw [I.Ie hy hq]; exact hx⟩,st',fun b hb=>(hf b hb).1⟩⟩
 done:=by
  intro X hP hw hK hc i pins s σ H E I hf st hg
  subst hP hw hK
  obtain ⟨xs,hq,hx⟩:=hg
  obtain ⟨its,rv,p,hz⟩:=I.tuple hq
  obtain ⟨f0,f1,f2,f3,f4,f5⟩:=hf it (by simp)
  have hl:=rv.length
  exact wpAny_pyNext_tuple_end (I.ok.hd hc) st (show s.heap.IsTuple a its.toArray from p) (by simp; omega) fun h' eb=>⟨rfl,I.turned (t':=s.toks) (fun b o hb e=>eb b o hb e) f0 f1 f3 f4 f5⟩
 self:=fun _ _ _ _ _ st h=>wpAny_pyIter_tupleiter st h
theorem NK {P:Program} {w:World} {K:PySem.W.Frag} {tg:Expr} (it:Addr) (lo:Int) (n:Nat):Turn P w K tg (V6 lo n) [it] it (fun i h=>IsRangeIter h it (lo+(i:Nat) * 1) ((n:Int) - (i:Nat)) 1) where
 mem:=by simp
 obj:=fun i h st b hb=>by
  have e:b=it:=by simpa using hb
  subst e
  exact ⟨_,st,fun v z=>by
   have z':Data.fields _=Data.cell v:=z
   cases z'⟩
 keep:=fun i h h' st k=>k it (by simp) _ st
 item:=by
  intro X hP hw hK hc i pins s σ H E I hf st hg
  subst hP hw hK
  obtain ⟨f0,f1,f2,f3,f4,f5⟩:=hf it (by simp)
  have W:=Walks.range (prog:=X.prog) (w:=X.w) (I.ok.hd hc) it lo 1 n
  refine W.item i s _ _ hg st fun v h' tk hv st' kk=>?_
  obtain ⟨t,rfl⟩:=hv
  have I1:Inv X pins σ H { s with heap:=h',toks:=tk }:=I.turned (fun b o hb e=>kk b o (by simpa using hb) e) f0 f1 f3 f4 f5
  refine ⟨_,rfl,Mq (s:={ s with heap:=h',toks:=tk }) (n:="range_iterator") st' rfl rfl (by decide) ⟨.int (lo+i),H,I1,⟨t,?_⟩,⟨rfl,rfl⟩,st',fun b hb=>(hf b hb).1⟩⟩
  rw [Int.mul_one]
 done:=by
  intro X hP hw hK hc i pins s σ H E I hf st hg
  subst hP hw hK
  obtain ⟨f0,f1,f2,f3,f4,f5⟩:=hf it (by simp)
  exact wpAny_pyNext_range_end (I.ok.hd hc) st (by have:n<=i:=hg; omega) fun h' eb=>⟨rfl,I.turned (t':=s.toks) (fun b o hb e=>eb b o hb e) f0 f1 f3 f4 f5⟩
 self:=fun _ _ _ _ _ st h=>wpAny_pyIter_rangeiter st h
end L2
namespace L2
open PySem PySem.Spec PyProof.Rows
section
variable {X:Cx} {tg:Expr}
noncomputable def au (K:PySem.W.Frag) (tl:TE):TI:=fun σ H R=>tl σ H fun x H1=>∃ a,x=.ref a/\(∃ xs,Cu K H1 a xs)/\R (W8 K a) H1
noncomputable def jr (K:PySem.W.Frag) (tl:TE):TI:=fun σ H R=>tl σ H fun x H1=>∃ a,x=.ref a/\(∃ xs,GD K H1 a xs)/\R (lE K a) H1
theorem Bp {l:Expr} {tl:TE} (hl:PE X l tl):PI X tg l (au X.K tl):=by
 intro pins s σ H R I h
 refine Br (hl pins s σ H _ I h) fun v s1 hq0=>?_
 obtain ⟨x,H1,I1,r1,q1⟩:=hq0
 obtain ⟨a,e,⟨xs,hq⟩,q⟩:=q1
 subst e
 cases r1
 obtain ⟨its,rv,p,hz⟩:=I1.list hq
 refine wpAny_pyIter_list p.isList ?_
 refine ⟨s1.heap.objs.size,[s1.heap.objs.size],_,_,H1,rfl,I1.kept (t':=s1.toks) fun b o e=>Heap.get?_push_of_some _ e,Qa a _,⟨_,Heap.get?_push_size _ rfl,rfl,rfl⟩,fun b hb=>?_,q⟩
 have e:b=s1.heap.objs.size:=by simpa using hb
 subst e
 exact I1.J2 (Nat.le_refl _) (I1.hok.fresh (Nat.le_refl _))
theorem NQ {l:Expr} {tl:TE} (hl:PE X l tl):PI X tg l (jr X.K tl):=by
 intro pins s σ H R I h
 refine Br (hl pins s σ H _ I h) fun v s1 hq0=>?_
 obtain ⟨x,H1,I1,r1,q1⟩:=hq0
 obtain ⟨a,e,⟨xs,hq⟩,q⟩:=q1
 subst e
 cases r1
 obtain ⟨its,rv,p,hz⟩:=I1.tuple hq
 refine wpAny_pyIter_tuple (show s1.heap.IsTuple a its.toArray from p) ?_
 refine ⟨s1.heap.objs.size,[s1.heap.objs.size],_,_,H1,rfl,I1.kept (t':=s1.toks) fun b o e=>Heap.get?_push_of_some _ e,Nu a _,⟨_,Heap.get?_push_size _ rfl,rfl,rfl⟩,fun b hb=>?_,q⟩
 have e:b=s1.heap.objs.size:=by simpa using hb
 subst e
 exact I1.J2 (Nat.le_refl _) (I1.hok.fresh (Nat.le_refl _))
theorem Rm {pins:List (Addr × Obj)} {σ:St} {H:Hp} {s:Shared} {R:It->Hp->Prop} {E:Value->Shared->Prop} {lo hi:Int} {t u v:Tok} {tk:Nat} (I:Inv X pins σ H s) (h1 : -(2 ^ 62)<=lo) (h2:lo<2 ^ 62) (h3 : -(2 ^ 62)<=hi) (h4:hi<2 ^ 62)
  (q:R (V6 lo (hi - lo).toNat) H):wpAny (model X.prog X.w) X.A (pyIter (.ref s.heap.objs.size)) (PIE X pins σ tg R) E { s with heap:=s.heap.push { cls:=.type "range",data:=.fields #[.int lo t,.int hi u,.int 1 v] },toks:=tk }:=by
 refine wpAny_pyIter_range (IsRange.new ..) (small_one h1 h2 h3 h4) ?_
 have I1:Inv X pins σ H { s with heap:=s.heap.push { cls:=.type "range",data:=.fields #[.int lo t,.int hi u,.int 1 v] },toks:=tk }:=I.kept fun b o e=>Heap.get?_push_of_some _ e
 refine ⟨(s.heap.push { cls:=.type "range",data:=.fields #[.int lo t,.int hi u,.int 1 v] }).objs.size,[(s.heap.push { cls:=.type "range",data:=.fields #[.int lo t,.int hi u,.int 1 v] }).objs.size],_,_,H,rfl,
  I1.kept (t':=tk) fun b o e=>Heap.get?_push_of_some _ e,NK _ lo (hi - lo).toNat,?_,fun b hb=>?_,q⟩
 ·have e1:lo+((0:Nat):Int) * 1=lo:=by simp
  have e2:(((hi - lo).toNat:Nat):Int) - ((0:Nat):Int)=Builtin.Range.rangeSize lo hi 1:=by rw [rangeSize_one]; split <;> omega
  show IsRangeIter _ _ (lo+((0:Nat):Int) * 1) ((((hi - lo).toNat:Nat):Int) - ((0:Nat):Int)) 1
  rw [e1,e2]
  exact Heap.get?_push_size _ rfl
 ·have e:b=(s.heap.push { cls:=.type "range",data:=.fields #[.int lo t,.int hi u,.int 1 v] }).objs.size:=by simpa using hb
  subst e
  exact I1.J2 (Nat.le_refl _) (I1.hok.fresh (Nat.le_refl _))
noncomputable def aU (ta:TA):TI:=fun σ H R=>ta σ H fun vs H1=>∃ j:Int,vs=[.int j] /\ -(2 ^ 62)<=j/\j<2 ^ 62/\R (V6 0 j.toNat) H1
theorem Fi {a:Expr} {ta:TA} {p pos:Pos} (hg:Gl X "range") (hm:X.mg "range" = none) (ha:PA X [a] ta) (hs:starEach [a] X.env=[(false,eval a X.env)]:=by rfl):PI X tg (.Call (.Name "range" p) [a] [] pos) (aU ta):=by
 intro pins s σ H R I h
 refine Call_ (HQ I hg hm boot_range (PyProof.Rows.callWith_type1 (Br (ha pos pins s σ H _ I h) fun us s1 ⟨vs,H1,I1,r1,q1⟩=>?_) hs rfl))
 obtain ⟨j,e,q1,q2,q⟩:=q1
 subst e
 cases r1 with
 | cons r rr =>
  cases rr
  obtain ⟨t,rfl⟩:=r
  exact call_range_1 (Rm I1 (by omega) (by omega) q1 q2 (by simpa using q))
noncomputable def jY (wi:TI) (g:TG) (tb:TS):TS:=fun D σ H=>wi σ H fun J H1=>∃ W:Nat->Nat->St->Hp->Prop,(∃ m,W 0 m σ H1)/\∀ i m σ H,W i m σ H ->
 (J.stop i H/\D.nx σ H) \/ (J.go i H/\∃ N:St->Hp->Prop,(∀ σ' H',N σ' H'->∃ m',m'<m/\W (i+1) m' σ' H')/\∀ x H',J.yld i H x H'->g x σ H' fun σ2 H2=>tb { D with nx:=N,ct:=N,bk:=D.nx } σ2 H2)
noncomputable def Ia (fp:List Addr) (h:Heap):List (Addr × Obj):=fp.filterMap fun b=>(h.get? b).map fun o=>(b,o)
theorem Ds {fp:List Addr} {h:Heap} {b:Addr} {o:Obj} (hb:b∈fp) (e:h.get? b=some o):(b,o)∈Ia fp h:=List.mem_filterMap.mpr ⟨b,hb,by rw [e]; rfl⟩
theorem Qe {fp:List Addr} {h:Heap} {p:Addr × Obj} (hp:p∈Ia fp h):p.1∈fp/\h.get? p.1=some p.2:=by
 obtain ⟨b,hb,e⟩:=List.mem_filterMap.mp hp
 cases q:h.get? b with
 | none=>rw [q] at e; cases e
 | some o =>
  rw [q] at e
  have e':(b,o)=p:=Option.some.inj e
  subst e'
  exact ⟨hb,q⟩
theorem Inv.pinned {pins:List (Addr × Obj)} {σ:St} {H:Hp} {s:Shared} {fp:List Addr} (I:Inv X pins σ H s) (hf:∀ b∈fp,Ft X pins H b) (ho:∀ b∈fp,∃ o,s.heap.get? b=some o/\∀ v,o.data ≠ .cell v):Inv X (pins++Ia fp s.heap) σ H s :=
 I.Oa fun p hp=>(List.mem_append.mp hp).elim (fun z=>I.pin p (List.mem_append_right _ z)) fun z=>by
  obtain ⟨hb,e⟩:=Qe z
  obtain ⟨f0,f1,f2,_⟩:=hf p.1 hb
  obtain ⟨o,e',d⟩:=ho p.1 hb
  rw [e] at e'; cases e'
  exact ⟨e,f0,f1,f2,d⟩
theorem Inv.Gk {pins pl:List (Addr × Obj)} {σ:St} {H:Hp} {s:Shared} (I:Inv X (pins++pl) σ H s):Inv X pins σ H s:=I.Oa fun p hp=>I.pin p (List.mem_append_right _ (List.mem_append_left _ hp))
theorem Es {iter:Expr} {body:List Stmt} {wi:TI} {g:TG} {tb:TS} {pos:Pos} (hp:PassesOwn (model X.prog X.w) X.A X.env X.xe) (hc:X.calm=true) (hi:PI X tg iter wi) (hg:PG X tg g) (hb:Ny X body tb)
  (hs:∀ x,foldedSetIterable iter X.env x=pure x:=by intro _; rfl):PS X (.For tg iter body [] pos) (jY wi g tb):=by
 intro pins s σ H D I h
 refine wpAny_For (Br (hi pins s σ H _ I h) fun v s1 h1=>Br h1 fun itv s2 h2=>?_) hs
 obtain ⟨it,fp,tn,J,H2,e,I2,T,st2,f2,W,⟨m0,w0⟩,turn⟩:=h2
 subst e
 have stat:∀ {H':Hp},(∀ b∈fp,H' b=none)->∀ b∈fp,Ft X pins H' b:=fun hn b hb=>⟨hn b hb,(f2 b hb).2⟩
 refine codeAny_forLoop_any (fun n s'=>∃ i σ' H',Inv X pins σ' H' s'/\tn i s'.heap/\(∀ b∈fp,H' b=none)/\W i n σ' H') ?_ m0 ⟨0,σ,H2,I2,st2,fun b hb=>(f2 b hb).1,w0⟩
 rintro n s3 ⟨i,σ3,H3,I3,st3,fr3,w3⟩
 rcases turn i n σ3 H3 w3 with ⟨stop,qn⟩ | ⟨go,N,hN,step⟩
 ·refine wpAny_passesOwn hp (Br (T.done X rfl rfl rfl hc i pins s3 σ3 H3 X.xe I3 (stat fr3) st3 stop) fun r s4 ⟨hr,I4⟩=>?_)
  subst hr
  exact wpAny_execs_nil ⟨σ3,H3,I4,qn⟩
 ·refine wpAny_passesOwn hp (Br (T.item X rfl rfl rfl hc i pins s3 σ3 H3 X.xe I3 (stat fr3) st3 go) fun r s4 ⟨u,hr,h4⟩=>?_)
  subst hr
  refine wpAny_passesOwn hp (Br h4 fun _ s5 hq0=>?_)
  obtain ⟨x,H5,I5,r5,y5,st5,fr5⟩:=hq0
  have I5':=I5.pinned (stat fr5) (T.obj _ _ st5)
  refine wpAny_passesOwn hp (Br (hg _ s5 σ3 H5 x u _ I5' r5 (step x H5 y5)) fun _ s6 hq0=>?_)
  obtain ⟨σ6,H6,I6,q6⟩:=hq0
  refine wpAny_passesOwn hp (Br (hb _ s6 σ6 H6 _ I6 q6) fun f s7 q7=>?_)
  have again:∀ {σ7:St} {H7:Hp},Inv X (pins++Ia fp s5.heap) σ7 H7 s7->N σ7 H7->∃ m,m<n/\∃ i σ' H',Inv X pins σ' H' s7/\tn i s7.heap/\(∀ b∈fp,H' b=none)/\W i m σ' H':=fun {σ7 H7} I7 n7=>by
   obtain ⟨m',hm,w7⟩:=hN σ7 H7 n7
   refine ⟨m',hm,i+1,σ7,H7,I7.Gk,T.keep _ _ _ st5 fun b hb o e=>(I7.pin (b,o) (List.mem_append_right _ (List.mem_append_right _ (Ds hb e)))).1,fun b hb=>?_,w7⟩
   obtain ⟨o,e,d⟩:=T.obj _ _ st5 b hb
   exact (I7.pin (b,o) (List.mem_append_right _ (List.mem_append_right _ (Ds hb e)))).2.1
  cases f with
  | next=>obtain ⟨σ7,H7,I7,n7⟩:=q7; exact again I7 n7
  | cont=>obtain ⟨σ7,H7,I7,n7⟩:=q7; exact again I7 n7
  | brk=>obtain ⟨σ7,H7,I7,q7⟩:=q7; exact ⟨σ7,H7,I7.Gk,q7⟩
  | ret v=>obtain ⟨x7,σ7,H7,I7,r7,q7⟩:=q7; exact ⟨x7,σ7,H7,I7.Gk,r7,q7⟩
end
theorem Gg {K:PySem.W.Frag} {a:Addr} {xs:List V} {g:TG} {tb:TS} {D:Ends} {σ:St} {H:Hp} (Pv:Nat->St->Hp->Prop) (h0:Pv 0 σ H) (hl:∀ i σ H,i<=xs.length->Pv i σ H->Cu K H a xs)
  (hs:∀ i x σ H,xs[i]? = some x->Pv i σ H->g x σ H fun σ2 H2=>tb { D with nx:=Pv (i+1),ct:=Pv (i+1),bk:=D.nx } σ2 H2) (hd:∀ σ H,Pv xs.length σ H->D.nx σ H) :
  ∃ W:Nat->Nat->St->Hp->Prop,(∃ m,W 0 m σ H)/\∀ i m σ H,W i m σ H ->
   ((W8 K a).stop i H/\D.nx σ H) \/ ((W8 K a).go i H/\∃ N:St->Hp->Prop,(∀ σ' H',N σ' H'->∃ m',m'<m/\W (i+1) m' σ' H')/\∀ x H',(W8 K a).yld i H x H'->g x σ H' fun σ2 H2=>tb { D with nx:=N,ct:=N,bk:=D.nx } σ2 H2):=by
 refine ⟨fun i m σ H=>m=xs.length - i/\i<=xs.length/\Pv i σ H,⟨xs.length,by simp,Nat.zero_le _,h0⟩,?_⟩
 rintro i m σ H ⟨rfl,hi,p⟩
 have q:=hl i σ H hi p
 by_cases hlt:i<xs.length
 ·refine .inr ⟨⟨xs,xs[i],q,by simp [hlt]⟩,Pv (i+1),fun σ' H' p'=>⟨xs.length - (i+1),by omega,rfl,hlt,p'⟩,fun x H' y=>?_⟩
  obtain ⟨e,y⟩:=y
  subst e
  exact hs i x σ _ (y xs q) p
 ·have e:i=xs.length:=by omega
  subst e
  exact .inl ⟨⟨xs,q,Nat.le_refl _⟩,hd σ H p⟩
theorem KQ {lo:Int} {n:Nat} {g:TG} {tb:TS} {D:Ends} {σ:St} {H:Hp} (Pv:Nat->St->Hp->Prop) (h0:Pv 0 σ H)
  (hs:∀ i σ H,i<n->Pv i σ H->g (.int (lo+i)) σ H fun σ2 H2=>tb { D with nx:=Pv (i+1),ct:=Pv (i+1),bk:=D.nx } σ2 H2) (hd:∀ σ H,Pv n σ H->D.nx σ H) :
  ∃ W:Nat->Nat->St->Hp->Prop,(∃ m,W 0 m σ H)/\∀ i m σ H,W i m σ H ->
   ((V6 lo n).stop i H/\D.nx σ H) \/ ((V6 lo n).go i H/\∃ N:St->Hp->Prop,(∀ σ' H',N σ' H'->∃ m',m'<m/\W (i+1) m' σ' H')/\∀ x H',(V6 lo n).yld i H x H'->g x σ H' fun σ2 H2=>tb { D with nx:=N,ct:=N,bk:=D.nx } σ2 H2):=by
 refine ⟨fun i m σ H=>m=n - i/\i<=n/\Pv i σ H,⟨n,by simp,Nat.zero_le _,h0⟩,?_⟩
 rintro i m σ H ⟨rfl,hi,p⟩
 by_cases hlt:i<n
 ·refine .inr ⟨hlt,Pv (i+1),fun σ' H' p'=>⟨n - (i+1),by omega,rfl,hlt,p'⟩,fun x H' y=>?_⟩
  obtain ⟨e,y⟩:=y
  subst e y
  exact hs i σ _ hlt p
 ·have e:i=n:=by omega
  subst e
  exact .inl ⟨Nat.le_refl _,hd σ H p⟩
theorem Rk {c:TT} {tb:TS} {D:Ends} {σ:St} {H:Hp} (Pv:St->Hp->Prop) (μ:St->Hp->Nat) (h0:Pv σ H)
  (hs:∀ σ H,Pv σ H->c σ H fun b H1=>if b=true then tb { D with nx:=fun σ' H'=>Pv σ' H'/\μ σ' H'<μ σ H,ct:=fun σ' H'=>Pv σ' H'/\μ σ' H'<μ σ H,bk:=D.nx } σ H1 else D.nx σ H1)
  (mono:∀ σ H Q Q',(∀ b H1,Q b H1->Q' b H1)->c σ H Q->c σ H Q'):Kl c tb D σ H:=by
 refine ⟨fun m σ H=>m=μ σ H/\Pv σ H,⟨_,rfl,h0⟩,?_⟩
 rintro m σ H ⟨rfl,p⟩
 refine mono σ H _ _ (fun b H1 q=>?_) (hs σ H p)
 cases b with
 | true=>exact ⟨_,fun σ' H' ⟨p',l⟩=>⟨_,l,rfl,p'⟩,q⟩
 | false=>exact q
end L2
namespace L2
open PySem PySem.Spec PyProof.Rows
noncomputable abbrev R2:=V->V->Hp->VK->Prop
noncomputable def GF (X:Cx) (f:Value->Value->Sem Value) (r:R2):Prop :=
 ∀ (pins:List (Addr × Obj)) (s:Shared) (σ:St) (H:Hp) (x y:V) (v u:Value) (Q:VK),Inv X pins σ H s->RelV x v->RelV y u->r x y H Q ->
  wpAny (model X.prog X.w) X.A (f v u) (EP X pins σ Q) X.xe s
noncomputable def fC (X:Cx) (f:Value->Sem Value) (r:V->Hp->VK->Prop):Prop :=
 ∀ (pins:List (Addr × Obj)) (s:Shared) (σ:St) (H:Hp) (x:V) (v:Value) (Q:VK),Inv X pins σ H s->RelV x v->r x H Q ->
  wpAny (model X.prog X.w) X.A (f v) (EP X pins σ Q) X.xe s
noncomputable def Eu (X:Cx) (f:Value) (r:List V->Hp->VK->Prop):Prop :=
 ∀ (pins:List (Addr × Obj)) (s:Shared) (σ:St) (H:Hp) (xs:List V) (us:List Value) (Q:VK),Inv X pins σ H s->Vals xs us->r xs H Q ->
  wpAny (model X.prog X.w) X.A (call f us) (EP X pins σ Q) X.xe s
noncomputable def mF (X:Cx) (r:V->Hp->(Bool->Hp->Prop)->Prop):Prop :=
 ∀ (pins:List (Addr × Obj)) (s:Shared) (σ:St) (H:Hp) (x:V) (v:Value) (Q:Bool->Hp->Prop),Inv X pins σ H s->RelV x v->r x H Q ->
  wpAny (model X.prog X.w) X.A (truthy v) (TP X pins σ Q) X.xe s
noncomputable def YT (r:R2) (ta tb:TE):TE:=fun σ H Q=>ta σ H fun x H1=>tb σ H1 fun y H2=>r x y H2 Q
noncomputable def oJ (r:V->Hp->VK->Prop) (ta:TE):TE:=fun σ H Q=>ta σ H fun x H1=>r x H1 Q
noncomputable def rI (C:Int->Int->Prop) (g:Int->Int->V):R2:=fun x y H Q=>∃ i j,x=.int i/\y=.int j/\C i j/\Q (g i j) H
noncomputable def Tz (g:Int->Int->V):R2:=fun x y H Q=>∃ i j,x=.int i/\y=.int j/\Q (g i j) H
noncomputable def rU (g:Int->V):V->Hp->VK->Prop:=fun x H Q=>∃ i,x=.int i/\Q (g i) H
section
variable {X:Cx} {a b c:Expr} {ta tb tc:TE} {pos:Pos}
theorem Xr (ha:PE X a ta) (hb:PE X b tb) {pins:List (Addr × Obj)} {s:Shared} {σ:St} {H:Hp} {R:V->V->Hp->Prop} (I:Inv X pins σ H s)
  (h:ta σ H fun x H1=>tb σ H1 fun y H2=>R x y H2) {Q:Value->Shared->Prop} {f:Value->Value->Sem Value}
  (hf:∀ v u s2 x y H2,Inv X pins σ H2 s2->RelV x v->RelV y u->R x y H2->wpAny (model X.prog X.w) X.A (f v u) Q X.xe s2) :
  wpAny (model X.prog X.w) X.A (eval a X.env) (fun v s₁=>wpAny (model X.prog X.w) X.A (eval b X.env) (fun u s₂=>wpAny (model X.prog X.w) X.A (f v u) Q X.xe s₂) X.xe s₁) X.xe s:=by
 refine Br (ha pins s σ H _ I h) fun v s1 hq0=>?_
 obtain ⟨x,H1,I1,r1,q1⟩:=hq0
 refine Br (hb pins s1 σ H1 _ I1 q1) fun u s2 hq0=>?_
 obtain ⟨y,H2,I2,r2,q2⟩:=hq0
 exact hf v u s2 x y H2 I2 r1 r2 q2
theorem Bj {op:Operator} {r:R2} (ho:GF X (binaryOp op) r) (ha:PE X a ta) (hb:PE X b tb):PE X (.BinOp a op b pos) (YT r ta tb):=by
 intro pins s σ H Q I h
 exact wpAny_BinOp (Xr ha hb I h fun v u s2 x y H2 I2 rx ry q=>ho pins s2 σ H2 x y v u Q I2 rx ry q)
theorem Jp {op:UnaryOp} {r:V->Hp->VK->Prop} (ho:fC X (unaryOp op) r) (ha:PE X a ta):PE X (.UnaryOp op a pos) (oJ r ta):=by
 intro pins s σ H Q I h
 exact UnaryOp_ (Br (ha pins s σ H _ I h) fun v s1 ⟨x,H1,I1,r1,q1⟩=>ho pins s1 σ H1 x v Q I1 r1 q1)
theorem YS {f:Value->Value->Sem Value} {C:Int->Int->Prop} {g:Int->Int->Int}
  (rule:∀ (i j:Int) (t u:Tok) (s:Shared) (Q:Value->Shared->Prop) (E:Value->Shared->Prop),C i j->Q (.int (g i j) s.toks) { s with toks:=s.toks+1 }->wpAny (model X.prog X.w) X.A (f (.int i t) (.int j u)) Q E s) :
  GF X f (rI C fun i j=>.int (g i j)):=by
 intro pins s σ H x y v u Q I rx ry h
 obtain ⟨i,j,rfl,rfl,hc,q⟩:=h
 obtain ⟨t,rfl⟩:=rx
 obtain ⟨t',rfl⟩:=ry
 exact rule i j t t' s _ _ hc ⟨.int (g i j),H,I.tok _,⟨_,rfl⟩,q⟩
theorem U7 {f:Value->Value->Sem Value} {g:Int->Int->Int}
  (rule:∀ (i j:Int) (t u:Tok) (s:Shared) (Q:Value->Shared->Prop) (E:Value->Shared->Prop),Q (.int (g i j) s.toks) { s with toks:=s.toks+1 }->wpAny (model X.prog X.w) X.A (f (.int i t) (.int j u)) Q E s) :
  GF X f (Tz fun i j=>.int (g i j)):=by
 intro pins s σ H x y v u Q I rx ry h
 obtain ⟨i,j,rfl,rfl,q⟩:=h
 obtain ⟨t,rfl⟩:=rx
 obtain ⟨t',rfl⟩:=ry
 exact rule i j t t' s _ _ ⟨.int (g i j),H,I.tok _,⟨_,rfl⟩,q⟩
theorem Vj {f:Value->Value->Sem Value} {g:Int->Int->Bool}
  (rule:∀ (i j:Int) (t u:Tok) (s:Shared) (Q:Value->Shared->Prop) (E:Value->Shared->Prop),Q (.bool (g i j)) s->wpAny (model X.prog X.w) X.A (f (.int i t) (.int j u)) Q E s) :
  GF X f (Tz fun i j=>.bl (g i j)):=by
 intro pins s σ H x y v u Q I rx ry h
 obtain ⟨i,j,rfl,rfl,q⟩:=h
 obtain ⟨t,rfl⟩:=rx
 obtain ⟨t',rfl⟩:=ry
 exact rule i j t t' s _ _ ⟨.bl (g i j),H,I,rfl,q⟩
noncomputable def j5 (i j:Int):Prop:=0<j/\j<1073741824
noncomputable def ju (i j:Int):Prop:=0<=j/\j<=1000000/\i.natAbs<2 ^ 64
noncomputable def YC (i j:Int):Prop:=(-(2 ^ 64)<i/\i<2 ^ 64) \/ (-(2 ^ 64)<j/\j<2 ^ 64)
theorem YC.ok {i j:Int} (h:YC i j):IntMulOk i j:=by
 rcases h with ⟨h1,h2⟩ | ⟨h1,h2⟩
 ·exact .of_left (intBits_le_64 h1 h2)
 ·exact .of_right (intBits_le_64 h1 h2)
theorem two_pow_nn (k:Nat):(0:Int)<=2 ^ k:=by
 rw [two_pow_cast]
 exact Int.natCast_nonneg _
theorem Dc:GF X (binaryOp .Add) (Tz fun i j=>.int (i+j)):=U7 fun _ _ _ _ _ _ _ q=>add_int q
theorem Ja:GF X (binaryOp .Sub) (Tz fun i j=>.int (i - j)):=U7 fun _ _ _ _ _ _ _ q=>sub_int q
theorem Qv:GF X (binaryOp .Mult) (rI YC fun i j=>.int (i * j)):=YS fun _ _ _ _ _ _ _ hc q=>mul_int q hc.ok
theorem Uz:GF X (binaryOp .FloorDiv) (rI j5 fun i j=>.int (i / j)):=YS fun i j _ _ _ _ _ hc q=>by
 have h1:(0:Int)<j:=hc.1
 have h2:j<1073741824:=hc.2
 exact floordiv_int (by omega) (by rw [Int.fdiv_eq_ediv_of_nonneg i (by omega)]; exact q) (.inl (PyProof.noPylong_small (by omega)))
theorem K4:GF X (binaryOp .Mod) (rI (fun _ j=>0<j) fun i j=>.int (i % j)):=YS fun i j _ _ _ _ _ hc q=>by
 have h1:(0:Int)<j:=hc
 exact mod_int' (by omega) (by rw [Int.fmod_eq_emod_of_nonneg i (by omega)]; exact q)
theorem Nv:GF X (binaryOp .LShift) (rI ju fun i j=>.int (i * 2 ^ j.toNat)):=YS fun _ _ _ _ _ _ _ hc q=>lshift_int_small hc.1 hc.2.1 hc.2.2 q
theorem Qx:GF X (binaryOp .RShift) (rI (fun _ j=>0<=j) fun i j=>.int (i / 2 ^ j.toNat)):=YS fun i j _ _ _ _ _ hc q =>
 rshift_int hc (by rw [Int.fdiv_eq_ediv_of_nonneg i (two_pow_nn _)]; exact q)
theorem Kp:GF X (binaryOp .BitAnd) (Tz fun i j=>.int (Builtin.bitAnd i j)):=U7 fun _ _ _ _ _ _ _ q=>and_int q
theorem N_:GF X (binaryOp .BitOr) (Tz fun i j=>.int (Builtin.bitOr i j)):=U7 fun _ _ _ _ _ _ _ q=>or_int q
theorem nj {f:Value->Sem Value} {g:Int->Int}
  (rule:∀ (i:Int) (t:Tok) (s:Shared) (Q:Value->Shared->Prop) (E:Value->Shared->Prop),Q (.int (g i) s.toks) { s with toks:=s.toks+1 }->wpAny (model X.prog X.w) X.A (f (.int i t)) Q E s) :
  fC X f (rU fun i=>.int (g i)):=by
 intro pins s σ H x v Q I rx h
 obtain ⟨i,rfl,q⟩:=h
 obtain ⟨t,rfl⟩:=rx
 exact rule i t s _ _ ⟨.int (g i),H,I.tok _,⟨_,rfl⟩,q⟩
theorem JX:fC X (unaryOp .USub) (rU fun i=>.int (-i)):=nj fun _ _ _ _ _ q=>neg_int q
theorem RC:fC X (unaryOp .Invert) (rU fun i=>.int (Builtin.bitNot i)):=nj fun _ _ _ _ _ q=>invert_int q
end
noncomputable def Zc:V->V->Bool
 | .non,.non=>true | .non,.int _=>true | .int _,.non=>true | .non,.bl _=>true | .bl _,.non=>true | .non,.str _=>true | .str _,.non=>true
 | .int _,.int _=>true | .bl _,.bl _=>true | .str _,.str _=>true | .byt _,.byt _=>true
 | .int _,.str _=>true | .str _,.int _=>true | .bl _,.str _=>true | .str _,.bl _=>true
 | _,_=>false
noncomputable def oh:R2:=fun x y H Q=>Zc x y=true/\Q (.bl (decide (x=y))) H
noncomputable def oU:R2:=fun x y H Q=>Zc x y=true/\Q (.bl (!decide (x=y))) H
theorem Oj {i j:Int}:decide (V.int i=V.int j)=(i == j):=by
 rw [Bool.eq_iff_iff]
 simp
theorem Tt {i j:Bool}:decide (V.bl i=V.bl j)=(i == j):=by
 rw [Bool.eq_iff_iff]
 simp
theorem Gy {i j:Str}:decide (V.str i=V.str j)=(i == j):=by
 rw [Bool.eq_iff_iff]
 simp
theorem PP {i j:Array UInt8}:decide (V.byt i=V.byt j)=(i.toList == j.toList):=by
 rw [Bool.eq_iff_iff]
 cases i
 cases j
 simp
section
variable {X:Cx} {a b c:Expr} {ta tb tc:TE} {pos:Pos}
theorem Bk {pins:List (Addr × Obj)} {σ:St} {H:Hp} {s:Shared} {Q:VK} {k k':Bool} (I:Inv X pins σ H s) (q:Q (.bl k) H) (e:k=k'):EP X pins σ Q (.bool k') s:=by
 subst e
 exact ⟨.bl k,H,I,rfl,q⟩
theorem Df:GF X (compareOp .Eq) oh:=by
 intro pins s σ H x y v u Q I rx ry h
 obtain ⟨hs,q⟩:=h
 cases x with
 | non =>
  cases rx
  cases y with
  | non=>cases ry; exact PySem.EqNone.eq_none_none (Bk I q (by simp))
  | bl j=>cases ry; exact PySem.EqNone.eq_none_bool (Bk I q (by simp))
  | int j=>obtain ⟨t',rfl⟩:=ry; exact PySem.EqNone.eq_none_int (Bk I q (by simp))
  | str j=>obtain ⟨t',rfl⟩:=ry; exact PySem.EqNone.eq_none_str (Bk I q (by simp))
  | _=>exact absurd (show false=true from hs) Bool.false_ne_true
 | bl i =>
  cases rx
  cases y with
  | non=>cases ry; exact PySem.EqNone.eq_bool_none (Bk I q (by simp))
  | bl j=>cases ry; exact eq_bool (Bk I q Tt)
  | str j=>obtain ⟨t',rfl⟩:=ry; exact PySem.EqMixed.eq_bool_str (Bk I q (by simp))
  | _=>exact absurd (show false=true from hs) Bool.false_ne_true
 | int i =>
  obtain ⟨t,rfl⟩:=rx
  cases y with
  | non=>cases ry; exact PySem.EqNone.eq_int_none (Bk I q (by simp))
  | int j=>obtain ⟨t',rfl⟩:=ry; exact eq_int (Bk I q Oj)
  | str j=>obtain ⟨t',rfl⟩:=ry; exact PySem.EqMixed.eq_int_str (Bk I q (by simp))
  | _=>exact absurd (show false=true from hs) Bool.false_ne_true
 | str i =>
  obtain ⟨t,rfl⟩:=rx
  cases y with
  | non=>cases ry; exact PySem.EqNone.eq_str_none (Bk I q (by simp))
  | bl j=>cases ry; exact PySem.EqMixed.eq_str_bool (Bk I q (by simp))
  | int j=>obtain ⟨t',rfl⟩:=ry; exact PySem.EqMixed.eq_str_int (Bk I q (by simp))
  | str j=>obtain ⟨t',rfl⟩:=ry; exact eq_str (Bk I q Gy)
  | _=>exact absurd (show false=true from hs) Bool.false_ne_true
 | byt i =>
  obtain ⟨t,rfl⟩:=rx
  cases y with
  | byt j=>obtain ⟨t',rfl⟩:=ry; exact PySem.W.eq_bytes (Bk I q PP)
  | _=>exact absurd (show false=true from hs) Bool.false_ne_true
 | _=>cases y <;> exact absurd (show false=true from hs) Bool.false_ne_true
theorem Jf:GF X (compareOp .NotEq) oU:=by
 intro pins s σ H x y v u Q I rx ry h
 obtain ⟨hs,q⟩:=h
 cases x with
 | non =>
  cases rx
  cases y with
  | non=>cases ry; exact PySem.EqNone.ne_none_none (Bk I q (by simp))
  | bl j=>cases ry; exact PySem.EqNone.ne_none_bool (Bk I q (by simp))
  | int j=>obtain ⟨t',rfl⟩:=ry; exact PySem.EqNone.ne_none_int (Bk I q (by simp))
  | str j=>obtain ⟨t',rfl⟩:=ry; exact PySem.EqNone.ne_none_str (Bk I q (by simp))
  | _=>exact absurd (show false=true from hs) Bool.false_ne_true
 | bl i =>
  cases rx
  cases y with
  | non=>cases ry; exact PySem.EqNone.ne_bool_none (Bk I q (by simp))
  | bl j=>cases ry; exact ne_bool (Bk I q (congrArg not Tt))
  | str j=>obtain ⟨t',rfl⟩:=ry; exact PySem.EqMixed.ne_bool_str (Bk I q (by simp))
  | _=>exact absurd (show false=true from hs) Bool.false_ne_true
 | int i =>
  obtain ⟨t,rfl⟩:=rx
  cases y with
  | non=>cases ry; exact PySem.EqNone.ne_int_none (Bk I q (by simp))
  | int j=>obtain ⟨t',rfl⟩:=ry; exact ne_int (Bk I q (congrArg not Oj))
  | str j=>obtain ⟨t',rfl⟩:=ry; exact PySem.EqMixed.ne_int_str (Bk I q (by simp))
  | _=>exact absurd (show false=true from hs) Bool.false_ne_true
 | str i =>
  obtain ⟨t,rfl⟩:=rx
  cases y with
  | non=>cases ry; exact PySem.EqNone.ne_str_none (Bk I q (by simp))
  | bl j=>cases ry; exact PySem.EqMixed.ne_str_bool (Bk I q (by simp))
  | int j=>obtain ⟨t',rfl⟩:=ry; exact PySem.EqMixed.ne_str_int (Bk I q (by simp))
  | str j=>obtain ⟨t',rfl⟩:=ry; exact ne_str (Bk I q (congrArg not Gy))
  | _=>exact absurd (show false=true from hs) Bool.false_ne_true
 | byt i =>
  obtain ⟨t,rfl⟩:=rx
  cases y with
  | byt j=>obtain ⟨t',rfl⟩:=ry; exact PySem.W.ne_bytes (Bk I q (congrArg not PP))
  | _=>exact absurd (show false=true from hs) Bool.false_ne_true
 | _=>cases y <;> exact absurd (show false=true from hs) Bool.false_ne_true
theorem Ip:GF X (compareOp .Lt) (Tz fun i j=>.bl (decide (i<j))):=Vj fun _ _ _ _ _ _ _ q=>lt_int q
theorem Ez:GF X (compareOp .LtE) (Tz fun i j=>.bl (decide (i<=j))):=Vj fun _ _ _ _ _ _ _ q=>le_int q
theorem Om:GF X (compareOp .Gt) (Tz fun i j=>.bl (decide (j<i))):=Vj fun _ _ _ _ _ _ _ q=>gt_int q
theorem dq:GF X (compareOp .GtE) (Tz fun i j=>.bl (decide (j<=i))):=Vj fun _ _ _ _ _ _ _ q=>ge_int q
theorem Ka:GF X (compareOp .In) (fun x y H Q=>∃ i j,x=.str i/\y=.str j/\Q (.bl (!(Builtin.Str.occurrences j i 0 j.length 1).isEmpty)) H):=by
 intro pins s σ H x y v u Q I rx ry h
 obtain ⟨i,j,rfl,rfl,q⟩:=h
 obtain ⟨t,rfl⟩:=rx
 obtain ⟨t',rfl⟩:=ry
 exact in_str (Bk I q rfl)
theorem W0:GF X (compareOp .Is) (fun x y H Q=>y=.non/\Q (.bl (decide (x=.non))) H):=by
 intro pins s σ H x y v u Q I rx ry h
 obtain ⟨rfl,q⟩:=h
 cases ry
 refine is_none_gen (Bk I q ?_)
 cases x <;> first
  | (cases rx; rfl)
  | (obtain ⟨t,rfl⟩:=rx; rfl)
theorem Vt:GF X (compareOp .IsNot) (fun x y H Q=>y=.non/\Q (.bl (!decide (x=.non))) H):=by
 intro pins s σ H x y v u Q I rx ry h
 obtain ⟨rfl,q⟩:=h
 cases ry
 refine isnot_none_gen (Bk I q ?_)
 cases x <;> first
  | (cases rx; rfl)
  | (obtain ⟨t,rfl⟩:=rx; rfl)
theorem BZ (b:Expr) {op:CmpOp} (h:op ≠ .In:=by decide) (h2:op ≠ .NotIn:=by decide):behindInMarks op b=false:=by
 have e1:(op == CmpOp.In)=false:=by cases op <;> first | rfl | exact absurd rfl h
 have e2:(op == CmpOp.NotIn)=false:=by cases op <;> first | rfl | exact absurd rfl h2
 cases b <;> simp [behindInMarks,e1,e2]
theorem Ck {op:CmpOp} {r:R2} (ho:GF X (compareOp op) r) (ha:PE X a ta) (hb:PE X b tb) (hm:behindInMarks op b=false):PE X (.Compare a [op] [b] pos) (YT r ta tb):=by
 intro pins s σ H Q I h
 exact wpAny_Compare1 (Xr ha hb I h fun v u s2 x y H2 I2 rx ry q=>ho pins s2 σ H2 x y v u Q I2 rx ry q) hm
noncomputable def V4 (t:TE):TT:=fun σ H Q=>t σ H fun x H'=>∃ k,x=.bl k/\Q k H'
theorem Ba {op:CmpOp} {r:R2} (ho:GF X (compareOp op) r) (ha:PE X a ta) (hb:PE X b tb) (hm:behindInMarks op b=false):PT X (.Compare a [op] [b] pos) (V4 (YT r ta tb)):=by
 intro pins s σ H Q I h
 refine wpAny_isTrue_Compare1 (Br (ha pins s σ H _ I h) fun v s1 ⟨x,H1,I1,r1,q1⟩=>Br (hb pins s1 σ H1 _ I1 q1) fun u s2 ⟨y,H2,I2,r2,q2⟩ =>
  Br (ho pins s2 σ H2 x y v u _ I2 r1 r2 q2) fun c s3 ⟨z,H3,I3,r3,k,e,q3⟩=>?_) hm
 subst e
 cases r3
 exact wpAny_truthy_bool ⟨H3,I3,q3⟩
noncomputable def Rr (r r':R2) (ta tb tc:TE):TE:=fun σ H Q=>ta σ H fun x H1=>tb σ H1 fun y H2=>r x y H2 fun z H3=>∃ k,z=.bl k /\
 (if k=true then tc σ H3 fun w' H4=>r' y w' H4 Q else Q (.bl false) H3)
theorem GR {op op':CmpOp} {r r':R2} (ho:GF X (compareOp op) r) (ho':GF X (compareOp op') r') (ha:PE X a ta) (hb:PE X b tb) (hc:PE X c tc)
  (hm:lastMarks [op,op'] [b,c]=false:=by with_unfolding_all rfl):PE X (.Compare a [op,op'] [b,c] pos) (Rr r r' ta tb tc):=by
 intro pins s σ H Q I h
 refine Compare_chain (Br (ha pins s σ H _ I h) fun v s1 ⟨x,H1,I1,r1,q1⟩=>chain_link (Br (hb pins s1 σ H1 _ I1 q1) fun u s2 ⟨y,H2,I2,r2,q2⟩ =>
  Br (ho pins s2 σ H2 x y v u _ I2 r1 r2 q2) fun d s3 ⟨z,H3,I3,r3,k,e,q3⟩=>?_)) hm
 subst e
 cases r3
 refine wpAny_truthy_bool ?_
 cases k with
 | false=>exact ite_ff ⟨.bl false,H3,I3,rfl,q3⟩
 | true=>exact ite_tt (chain_last (Br (hc pins s3 σ H3 _ I3 q3) fun w' s4 ⟨z',H4,I4,r4,q4⟩=>ho' pins s4 σ H4 y z' u w' Q I4 r2 r4 q4))
theorem Hk {op op':CmpOp} {r r':R2} (ho:GF X (compareOp op) r) (ho':GF X (compareOp op') r') (ha:PE X a ta) (hb:PE X b tb) (hc:PE X c tc)
  (hm:lastMarks [op,op'] [b,c]=false:=by with_unfolding_all rfl):PT X (.Compare a [op,op'] [b,c] pos) (V4 (Rr r r' ta tb tc)):=by
 intro pins s σ H Q I h
 refine isTrue_chain (Br (ha pins s σ H _ I h) fun v s1 ⟨x,H1,I1,r1,q1⟩=>test_link (Br (hb pins s1 σ H1 _ I1 q1) fun u s2 ⟨y,H2,I2,r2,q2⟩ =>
  Br (ho pins s2 σ H2 x y v u _ I2 r1 r2 q2) fun d s3 ⟨z,H3,I3,r3,k,e,q3⟩=>?_)) hm
 subst e
 cases r3
 refine wpAny_truthy_bool ?_
 cases k with
 | false =>
  obtain ⟨k',e',q'⟩:=q3
  cases e'
  exact ite_ff ⟨H3,I3,q'⟩
 | true =>
  refine ite_tt (test_last (Br (hc pins s3 σ H3 _ I3 q3) fun w' s4 ⟨z',H4,I4,r4,q4⟩=>Br (ho' pins s4 σ H4 y z' u w' _ I4 r2 r4 q4) fun d' s5 hq0=>?_))
  obtain ⟨z2,H5,I5,r5,k2,e2,q5⟩:=hq0
  subst e2
  cases r5
  exact wpAny_truthy_bool ⟨H5,I5,q5⟩
noncomputable def dY (K:PySem.W.Frag) (x:V) (H:Hp) (k:Bool):Prop :=
 match x with
 | .non=>k=false
 | .bl b=>k=b
 | .int i=>k=(i != 0)
 | .str y=>y.length<=sizeLine/\k=((y.length:Int) != 0)
 | .byt y=>y.size<=sizeLine/\k=((y.size:Int) != 0)
 | .ref p=>(∃ xs,Cu K H p xs/\k = !xs.isEmpty) \/ (∃ xs,GD K H p xs/\k = !xs.isEmpty) \/ ∃ kvs,H p=some (.dK kvs)/\k = !kvs.isEmpty
 | _=>False
theorem Mu {κ:Type} {kvs:List (κ × V)} {vs:List (κ × Value)} (r:KV kvs vs):(!vs.isEmpty) = !kvs.isEmpty:=by
 cases r <;> rfl
theorem Jj {xs:List V} {its:List Value} (r:Vals xs its):(!its.toArray.isEmpty) = !xs.isEmpty:=by
 cases r <;> simp
theorem Ih:(sizeLine:Nat)<2 ^ 63:=by rw [sizeLine_eq]; decide
theorem W5:mF X (fun x H Q=>∃ k,dY X.K x H k/\Q k H):=by
 intro pins s σ H x v Q I rx h
 obtain ⟨k,e,q⟩:=h
 have hl:=Ih
 have hs:sizeLine=16777216:=sizeLine_eq
 cases x with
 | non =>
  cases rx
  have e':k=false:=e
  subst e'
  exact truthy_none ⟨H,I,q⟩
 | bl b =>
  cases rx
  have e':k=b:=e
  subst e'
  exact wpAny_truthy_bool ⟨H,I,q⟩
 | int i =>
  obtain ⟨t,rfl⟩:=rx
  have e':k=(i != 0):=e
  subst e'
  exact PySem.P.truthy_int ⟨H,I,q⟩
 | str y =>
  obtain ⟨t,rfl⟩:=rx
  obtain ⟨hy,e'⟩:y.length<=sizeLine/\k=((y.length:Int) != 0):=e
  subst e'
  exact PySem.P.truthy_str (by omega) ⟨H,I.tok _,q⟩
 | byt y =>
  obtain ⟨t,rfl⟩:=rx
  obtain ⟨hy,e'⟩:y.size<=sizeLine/\k=((y.size:Int) != 0):=e
  subst e'
  exact PySem.W.truthy_bytes (by omega) ⟨H,I.tok _,q⟩
 | ref p =>
  cases rx
  have e':(∃ xs,Cu X.K H p xs/\k = !xs.isEmpty) \/ (∃ xs,GD X.K H p xs/\k = !xs.isEmpty) \/ ∃ kvs,H p=some (.dK kvs)/\k = !kvs.isEmpty:=e
  rcases e' with ⟨xs,hx,e'⟩ | ⟨xs,hx,e'⟩ | ⟨kvs,hx,e'⟩
  ·subst e'
   obtain ⟨its,r,pl,hz⟩:=I.list hx
   have hlen:=r.length
   exact wpAny_truthy_list pl.isList (by simp only [List.size_toArray]; omega) ⟨H,I.tok _,by rw [Jj r]; exact q⟩
  ·subst e'
   obtain ⟨its,r,pl,hz⟩:=I.tuple hx
   have hlen:=r.length
   exact truthy_tuple pl (by simp only [List.size_toArray]; omega) ⟨H,I.tok _,by rw [Jj r]; exact q⟩
  ·subst e'
   obtain ⟨hz,hS,vs,r,m⟩:kvs.length<=sizeLine/\(p == sysModules)=false/\∃ vs,KV kvs vs/\s.heap.DictOf (Bl X.prog X.w) p vs:=I.hok p _ hx
   have hlen:kvs.length=vs.length:=Paired.length r
   exact wpAny_truthy_dict hS m (by omega) ⟨H,I.tok _,by rw [Mu r]; exact q⟩
 | _=>exact (show False from e).elim
theorem Jx (ha:PE X a ta) (he:∀ whole,isTrue a X.env whole=(do let v ← whole; standAt a.pos; holding [v] (truthy v))) :
  PT X a (fun σ H Q=>ta σ H fun x H'=>∃ k,dY X.K x H' k/\Q k H'):=by
 intro pins s σ H Q I h
 exact isTrue_plain (Br (ha pins s σ H _ I h) fun v s1 ⟨x,H1,I1,r1,q1⟩=>W5 pins s1 σ H1 x v Q I1 r1 q1) (he _)
theorem vals1 {x:V} {us:List Value} (r:Vals [x] us):∃ u,us=[u]/\RelV x u:=by
 cases r with
 | cons r1 r2=>cases r2; exact ⟨_,rfl,r1⟩
theorem vals2 {x y:V} {us:List Value} (r:Vals [x,y] us):∃ u w',us=[u,w']/\RelV x u/\RelV y w':=by
 cases r with
 | cons r1 r2 =>
  cases r2 with
  | cons r3 r4=>cases r4; exact ⟨_,_,rfl,r1,r3⟩
theorem QK (hc:X.calm=true):Eu X (.builtin "max") (fun xs H Q=>∃ i j,xs=[.int i,.int j]/\Q (.int (if j > i then j else i)) H):=by
 intro pins s σ H xs us Q I r h
 obtain ⟨i,j,rfl,q⟩:=h
 obtain ⟨u,w',rfl,⟨t,rfl⟩,⟨t',rfl⟩⟩:=vals2 r
 refine max_two_ints (I.ok.hd hc) fun h' tk k=>⟨_,H,I.kept k,?_,q⟩
 by_cases hj:j > i
 ·rw [if_pos hj,if_pos hj]; exact ⟨_,rfl⟩
 ·rw [if_neg hj,if_neg hj]; exact ⟨_,rfl⟩
theorem Pq (hc:X.calm=true):Eu X (.builtin "min") (fun xs H Q=>∃ i j,xs=[.int i,.int j]/\Q (.int (if j<i then j else i)) H):=by
 intro pins s σ H xs us Q I r h
 obtain ⟨i,j,rfl,q⟩:=h
 obtain ⟨u,w',rfl,⟨t,rfl⟩,⟨t',rfl⟩⟩:=vals2 r
 refine min_two_ints (I.ok.hd hc) fun h' tk k=>⟨_,H,I.kept k,?_,q⟩
 by_cases hj:j<i
 ·rw [if_pos hj,if_pos hj]; exact ⟨_,rfl⟩
 ·rw [if_neg hj,if_neg hj]; exact ⟨_,rfl⟩
theorem Pk:Eu X (.type "int") (fun xs H Q=>(∃ i,xs=[.int i]/\Q (.int i) H) \/ ∃ k,xs=[.bl k]/\Q (.int (if k then 1 else 0)) H):=by
 intro pins s σ H xs us Q I r h
 rcases h with ⟨i,rfl,q⟩ | ⟨k,rfl,q⟩
 ·obtain ⟨u,rfl,t,rfl⟩:=vals1 r
  exact call_int_int ⟨.int i,H,I,⟨_,rfl⟩,q⟩
 ·obtain ⟨u,rfl,r1⟩:=vals1 r
  cases r1
  exact call_int_bool ⟨.int (if k then 1 else 0),H,I.tok _,⟨_,rfl⟩,q⟩
end
end L2
namespace L2
open PySem PySem.Spec PyProof.Rows
structure Mx (h:Heap) (x dx C:Addr) (mA:Str->Option Value):Prop where
 obj:h.get? x=some (PySem.W.instObj C dx)
 ns:h.Ns1 dx mA
 ne:dx ≠ x
theorem P_ {h:Heap} {dx:Addr} {mA:Str->Option Value} (n:h.Ns1 dx mA):∃ od,h.get? dx=some od/\∀ name,PySem.W.lookIn name od=some (mA name):=by
 obtain ⟨o,es,ep,ho,hd,hk,_,hm⟩:=n
 refine ⟨o,ho,fun name=>?_⟩
 have e:=hm name
 unfold nsFind findBy at e
 rw [← Array.find?_toList] at e
 unfold PySem.W.lookIn
 rw [hd]
 dsimp only
 split
 ·rename_i y q
  rw [q] at e
  exact congrArg some e
 ·rename_i q
  rw [q] at e
  have a:es.toList.any (·.refKey)=false:=by
   rw [List.any_eq_false]
   intro y hy
   obtain ⟨z,t,hkey⟩:=hk y (Array.mem_toList_iff.mp hy)
   simp [DictEntry.refKey,hkey]
  have a':¬ es.toList.any (·.refKey)=true:=by rw [a]; exact Bool.false_ne_true
  rw [if_neg a']
  exact congrArg some e
theorem Mx.look {h:Heap} {x dx C:Addr} {mA:Str->Option Value} (I:Mx h x dx C mA):∃ od,PySem.W.InstAt h x (PySem.W.instObj C dx) C (some od)/\∀ name,PySem.W.lookIn name od=some (mA name) :=
 let ⟨od,ho,hl⟩:=P_ I.ns
 ⟨od,⟨I.obj,rfl,rfl,ho⟩,hl⟩
section
variable {prog:Program} {w:World} {A:Around} {E:Value->Shared->Prop} {s:Shared} {K:PySem.W.Frag} {x dx C f:Addr} {mA:Str->Option Value} {name:Str} {v:Value}
theorem U3 {expr:Bool} {Q:Value->Shared->Prop} (X:K.In s.heap) (I:Mx s.heap x dx C mA) (hg:PySem.W.plainGet K C name=true) (hh:PySem.W.hasDictIn K C=true)
  (ha:PySem.W.findIn K (.ref C) name=some none) (hv:mA name=some v) (hv':PySem.W.handedIn v=true) (h:Q v { s with toks:=s.toks+1 }) :
  wpAny (model prog w) A (getAttr (.ref x) name expr) Q E s:=by
 obtain ⟨od,J,hl⟩:=I.look
 exact PySem.W.get_value X J (PySem.W.plainGet_of hg).1 (PySem.W.findObj_own hh ha rfl (by rw [hl,hv])) hv' h
theorem S8 {pl:Sem Bool} {Q:Value × List Value->Shared->Prop} (X:K.In s.heap) (I:Mx s.heap x dx C mA) (hg:PySem.W.plainGet K C name=true)
  (hf:PySem.W.findIn K (.ref C) name=some (some (.ref f))) (ht:PySem.W.isFn K (.ref f)=true) (hv:mA name=none) (h:Q (.ref f,[.ref x]) s) :
  wpAny (model prog w) A (getMethod (.ref x) name pl) Q E s:=by
 obtain ⟨od,J,hl⟩:=I.look
 exact PySem.W.method_fn X J (PySem.W.plainGet_of hg).1 (PySem.W.plainGet_of hg).2 hf (beq_iff_eq.mp ht) (by show (PySem.W.lookIn name od).map (·.isSome)=some false; rw [hl,hv]; rfl) h
theorem UT {ns:List Str} {Q:Unit->Shared->Prop} (X:K.In s.heap) (I:Mx s.heap x dx C mA)
  (hs:PySem.W.findIn K (.ref C) "__setattr__" = some (some (.builtin "object.__setattr__"))) (hp:PySem.W.plainOver K C=true) (ht:PySem.W.takerIn K C name=some none) (hh:PySem.W.hasDictIn K C=true)
  (hw:PySem.Within mA ns) (hsz:ns.length<=sizeLine)
  (h:∀ h',Mx h' x dx C (fun y=>if y=name then some v else mA y)->Heap.SameBut dx s.heap h'->Q () { s with heap:=h',toks:=s.toks+2 }) :
  wpAny (model prog w) A (setAttr (.ref x) name v) Q E s:=by
 obtain ⟨od,J,hl⟩:=I.look
 refine PySem.W.set_plain X J hs (PySem.W.osa_open (s:={ s with toks:=s.toks+1 }) (r:=none) X J hp ht fun b=>?_)
 obtain ⟨cd,hc,hd'⟩:=PySem.W.any_some hh
 have hx:s.heap.get? x=some ⟨.ref C,some dx,.plain,#[]⟩:=I.obj
 refine wpAny_bind (wpAny_pure (wpAny_bind (wpAny_bind (wpAny_loadPart hx (wpAny_bind (PySem.W.Looks.here (s:={ s with toks:=s.toks+1 }) (PySem.W.looks_clsIn X hc) ?_))))))
 rw [hd']
 refine wpAny_pure (a:=some dx) (wpAny_bind (wpAny_pure (wpAny_bind ?_)))
 refine wpAny_nsSet1 (s:={ s with toks:=s.toks+1 }) I.ns fun h' hn2 hs2=>?_
 obtain ⟨oD,esD,epD,hoD,hdD,hcD⟩:=hn2.count (PySem.Within.cons name v hw)
 refine wpAny_bind (wpAny_lookBehind hoD (by rw [hdD]; exact pastItsLine_dict (Nat.le_trans hcD (by rw [List.length_cons]; omega))) ?_)
 exact wpAny_pure (h _ ⟨(hs2.2 _ (Ne.symm I.ne)).trans I.obj,hn2,I.ne⟩ hs2)
theorem S_ {R:Result->Shared->Prop} {vs:List Value} {kw:List (Str × Value)} (X:K.In s.heap) (hm:PySem.W.makesIn K C=true)
  (hi:PySem.W.findIn K (.ref C) "__init__" = some (some (.ref f))) (hf:PySem.W.typeIn K (.ref f)=some (.type "function"))
  (h:codeAny (model prog w) (A.under (.builtin "type.__call__" ⟨.ref C::vs,kw⟩)) (.call (.ref f) ⟨.ref (s.heap.objs.size+1)::vs,kw⟩) (PySem.W.InitBack (s.heap.objs.size+1) R)
   { s with heap:=(s.heap.push PySem.W.emptyDict).push (PySem.W.instObj C s.heap.objs.size) }) :
  codeAny (model prog w) A (.call (.ref C) ⟨vs,kw⟩) R s:=by
 obtain ⟨hh,g,d,t,os⟩:=s
 exact PySem.W.make_core (PySem.W.makes_of X hm) (PySem.W.looks_findIn X hi) (fun self=>PySem.W.bind_fn X self hf) (.inl rfl) h
end
noncomputable def BJ (f:Str) (v:V):List (Str × V)->List (Str × V)
 | []=>[(f,v)]
 | (g,x)::r=>if g=f then (g,v)::r else (g,x)::BJ f v r
theorem Ah (f g:Str) (v:V):∀ fs:List (Str × V),(BJ f v fs).lookup g=if g=f then some v else fs.lookup g
 | []=>by
  show List.lookup g [(f,v)]=_
  by_cases h:g=f
  ·have hb:(g == f)=true:=beq_iff_eq.mpr h
   simp only [List.lookup,hb,if_pos h]
  ·have hb:(g == f)=false:=beq_eq_false_iff_ne.mpr h
   simp only [List.lookup,hb,if_neg h]
 | (k,x)::r=>by
  have ih:=Ah f g v r
  rw [show BJ f v ((k,x)::r)=(if k=f then (k,v)::r else (k,x)::BJ f v r) from rfl]
  by_cases hk:k=f
  ·rw [if_pos hk]
   by_cases h:g=k
   ·have hb:(g == k)=true:=beq_iff_eq.mpr h
    simp only [List.lookup,hb,if_pos (h.trans hk)]
   ·have hb:(g == k)=false:=beq_eq_false_iff_ne.mpr h
    simp only [List.lookup,hb,if_neg (fun e:g=f=>h (e.trans hk.symm))]
  ·rw [if_neg hk]
   by_cases h:g=k
   ·have hb:(g == k)=true:=beq_iff_eq.mpr h
    simp only [List.lookup,hb,if_neg (fun e:g=f=>hk (h.symm.trans e))]
   ·have hb:(g == k)=false:=beq_eq_false_iff_ne.mpr h
    simp only [List.lookup,hb]
    exact ih
theorem Il (f:Str) (v:V):∀ fs:List (Str × V),f∈(BJ f v fs).map (·.1)/\∀ g,g∈fs.map (·.1)->g∈(BJ f v fs).map (·.1)
 | []=>⟨by simp [BJ],fun g h=>by simp at h⟩
 | (k,x)::r=>by
  obtain ⟨i1,i2⟩:=Il f v r
  rw [show BJ f v ((k,x)::r)=(if k=f then (k,v)::r else (k,x)::BJ f v r) from rfl]
  by_cases hk:k=f
  ·rw [if_pos hk]
   subst hk
   exact ⟨by simp,fun g h=>by simpa using h⟩
  ·rw [if_neg hk]
   refine ⟨?_,fun g h=>?_⟩
   ·rw [List.map_cons]
    exact List.mem_cons_of_mem _ i1
   ·rw [List.map_cons] at h ⊢
    rcases List.mem_cons.mp h with e | e
    ·exact List.mem_cons.mpr (.inl e)
    ·exact List.mem_cons_of_mem _ (i2 g e)
theorem Iu (f:Str) (v:V):∀ fs:List (Str × V),(BJ f v fs).length<=fs.length+1
 | []=>by simp [BJ]
 | (k,x)::r=>by
  have ih:=Iu f v r
  rw [show BJ f v ((k,x)::r)=(if k=f then (k,v)::r else (k,x)::BJ f v r) from rfl]
  by_cases hk:k=f
  ·rw [if_pos hk,List.length_cons,List.length_cons]; omega
  ·rw [if_neg hk,List.length_cons,List.length_cons]; omega
theorem Fx.some_of {v:V} {o:Option Value} (r:Fx (some v) o):∃ u,o=some u/\RelV v u:=by
 cases o with
 | none=>exact (show False from r).elim
 | some u=>exact ⟨u,rfl,r⟩
theorem Fx.none_of {o:Option Value} (r:Fx none o):o=none:=by
 cases o with
 | none=>rfl
 | some u=>exact (show False from r).elim
theorem Qm {v:V} {u:Value} (r:RelV v u):PySem.W.handedIn u=true:=by
 cases v with
 | non=>cases (show u=Value.none from r); rfl
 | bl b=>cases (show u=Value.bool b from r); rfl
 | int i=>obtain ⟨t,e⟩:=(show ∃ t,u=Value.int i t from r); cases e; rfl
 | str x=>obtain ⟨t,e⟩:=(show ∃ t,u=Value.str x t from r); cases e; rfl
 | byt b=>obtain ⟨t,e⟩:=(show ∃ t,u=Value.bytes b t from r); cases e; rfl
 | flt b=>obtain ⟨t,e⟩:=(show ∃ t,u=Value.float b t from r); cases e; rfl
 | ref a=>cases (show u=Value.ref a from r); rfl
 | ty n=>cases (show u=Value.type n from r); rfl
section
variable {P:Program} {w:World} {H H':Hp} {h h':Heap} {a C dx:Addr} {fs fs':List (Str × V)}
theorem JL (hok:Ex P w H h) (e:H a=some (.ins C dx fs)):∃ mA,Mx h a dx C mA/\(∀ f,Fx (fs.lookup f) (mA f))/\PySem.Within mA (fs.map (·.1))/\fs.length<=1000/\H dx=some (.own a):=by
 obtain ⟨d,z,ne,ob,mA,n,r,q⟩:=(show Bq P w H h a (.ins C dx fs) from hok a _ e)
 exact ⟨mA,⟨ob,n,ne⟩,r,q,z,d⟩
end
structure O_ (K:PySem.W.Frag) (C:Addr):Prop where
 pg:PySem.W.plainGet K C Str.empty=true
 hd:PySem.W.hasDictIn K C=true
 po:PySem.W.plainOver K C=true
 sa:PySem.W.findIn K (.ref C) "__setattr__" = some (some (.builtin "object.__setattr__"))
theorem O_.get {K:PySem.W.Frag} {C:Addr} (c:O_ K C) (f:Str):PySem.W.plainGet K C f=true:=c.pg
noncomputable def CJ (K:PySem.W.Frag) (C:Addr) (f:Str):Prop:=PySem.W.findIn K (.ref C) f=some none
theorem CJ.taker {K:PySem.W.Frag} {C:Addr} {f:Str} (n:CJ K C f):PySem.W.takerIn K C f=some none:=by
 unfold PySem.W.takerIn
 rw [show PySem.W.findIn K (.ref C) f=some none from n]
 rfl
structure j9 (K:PySem.W.Frag) (C:Addr) (f:Str) (v:V) (u:Value):Prop where
 at_:PySem.W.findIn K (.ref C) f=some (some u)
 rel:RelV v u
 get:PySem.W.specialIn K u "__get__" = some none
 cp:PySem.W.copiedNames.contains f=false
structure Meth (K:PySem.W.Frag) (C:Addr) (m:Str) (f:Addr):Prop where
 at_:PySem.W.findIn K (.ref C) m=some (some (.ref f))
 fn:PySem.W.isFn K (.ref f)=true
 kp:PySem.W.keepIn K (.ref f)=true
section
variable {X:Cx} {pins:List (Addr × Obj)} {σ:St} {H:Hp} {s:Shared} {a C dx:Addr} {fs:List (Str × V)} {f:Str} {v:V} {A:Around} {E:Value->Shared->Prop}
theorem Mw {b:Bool} {Q:Value->Shared->Prop} (I:Inv X pins σ H s) (e:H a=some (.ins C dx fs)) (c:O_ X.K C) (n:CJ X.K C f) (l:fs.lookup f=some v)
  (h:∀ u s',Inv X pins σ H s'->RelV v u->Q u s'):wpAny (model X.prog X.w) A (getAttr (.ref a) f b) Q E s:=by
 obtain ⟨mA,O,r,_,_,_⟩:=JL I.hok e
 obtain ⟨u,hu,ru⟩:=Fx.some_of (v:=v) (o:=mA f) (by rw [← l]; exact r f)
 exact U3 I.Gw O (c.get f) c.hd n hu (Qm ru) (h u _ (I.tok _) ru)
theorem G8 {m:Str} {g:Addr} {pl:Sem Bool} {Q:Value × List Value->Shared->Prop} (I:Inv X pins σ H s) (e:H a=some (.ins C dx fs)) (c:O_ X.K C) (k:Meth X.K C m g) (l:fs.lookup m=none)
  (h:Q (.ref g,[.ref a]) s):wpAny (model X.prog X.w) A (getMethod (.ref a) m pl) Q E s:=by
 obtain ⟨mA,O,r,_,_,_⟩:=JL I.hok e
 have hn:mA m=none:=Fx.none_of (by rw [← l]; exact r m)
 exact S8 I.Gw O (c.get m) k.at_ k.fn hn h
theorem Nh {y:V} {u:Value} {Q:Unit->Shared->Prop} (I:Inv X pins σ H s) (e:H a=some (.ins C dx fs)) (c:O_ X.K C) (n:CJ X.K C f) (hl:fs.length<1000) (ry:RelV y u)
  (h:∀ s',Inv X pins σ (upd H a (.ins C dx (BJ f y fs))) s'->Q () s'):wpAny (model X.prog X.w) A (setAttr (.ref a) f u) Q E s:=by
 obtain ⟨mA,O,r,wi,_,ho⟩:=JL I.hok e
 have hz:(fs.map (·.1)).length<=sizeLine:=by rw [List.length_map,sizeLine_eq]; omega
 refine UT I.Gw O c.sa c.po n.taker c.hd wi hz fun h' O' sb=>h _ ?_
 have hd:∃ o,h'.get? dx=some o:=let ⟨o,_,_,e',_⟩:=O'.ns; ⟨o,e'⟩
 refine I.write (x:=a) (e:=dx) (by rw [e]; exact True.intro) (.inr ho) (fun b q hb z=>(sb.2 b hb).trans z) hd ?_
 refine ⟨by rw [Aq O.ne]; exact ho,?_,O.ne,O'.obj,_,O'.ns,fun g=>?_,fun g hg=>?_⟩
 ·have:=Iu f y fs; omega
 ·show Fx ((BJ f y fs).lookup g) (if g=f then some u else mA g)
  rw [Ah]
  by_cases q:g=f
  ·rw [if_pos q,if_pos q]; exact ry
  ·rw [if_neg q,if_neg q]; exact r g
 ·by_cases q:g=f
  ·rw [q]; exact (Il f y fs).1
  ·refine (Il f y fs).2 g (wi g fun z=>hg ?_)
   show (if g=f then some u else mA g)=none
   rw [if_neg q]; exact z
theorem Inv.made (I:Inv X pins σ H s):Inv X pins σ (upd (upd H s.heap.objs.size (.own (s.heap.objs.size+1))) (s.heap.objs.size+1) (.ins C s.heap.objs.size []))
  { s with heap:=(s.heap.push PySem.W.emptyDict).push (PySem.W.instObj C s.heap.objs.size) }:=by
 have e1:(s.heap.push PySem.W.emptyDict).get? s.heap.objs.size=some PySem.W.emptyDict:=Heap.get?_push_size s.heap rfl
 have e2:((s.heap.push PySem.W.emptyDict).push (PySem.W.instObj C s.heap.objs.size)).get? (s.heap.objs.size+1)=some (PySem.W.instObj C s.heap.objs.size):=by
  have:=Heap.get?_push_size (s.heap.push PySem.W.emptyDict) (o:=PySem.W.instObj C s.heap.objs.size) rfl
  rwa [Heap.size_push] at this
 have e3:(s.heap.push PySem.W.emptyDict).Ns s.heap.objs.size (fun _=>none):=⟨PySem.W.emptyDict,#[],_,e1,rfl,(fun e he=>absurd he (by simp)),fun _=>rfl⟩
 have I1:=I.laid (a:=s.heap.objs.size) (o:=.own (s.heap.objs.size+1)) (h':=s.heap.push PySem.W.emptyDict) (t':=s.toks) (fun b u q=>Heap.get?_push_of_some _ q) (Nat.le_refl _) ⟨_,e1⟩
 refine I1.laid (a:=s.heap.objs.size+1) (o:=.ins C s.heap.objs.size []) (t':=s.toks) (fun b u q=>Heap.get?_push_of_some _ q) (Nat.le_of_eq (Heap.size_push _ _)) ?_
 have ne:s.heap.objs.size ≠ s.heap.objs.size+1:=Nat.ne_of_lt (Nat.lt_succ_self _)
 refine ⟨by rw [Aq ne,Ai],Nat.zero_le _,ne,e2,fun _=>none,(Heap.Ns1.of_empty e3).at fun o q=>Heap.get?_push_of_some _ q,fun _=>True.intro,fun y hy=>absurd rfl hy⟩
theorem U5 {prog:Program} {w:World} {env:Env} {e:Expr} {f:Str} {pos:Pos} {s:Shared} {Q:Value->Shared->Prop} (hb:attributeBase e f env (eval e env)=eval e env)
  (h:wpAny (model prog w) A (eval e env) (fun o s₁=>wpAny (model prog w) A (getAttr o f true) Q E s₁) E s):wpAny (model prog w) A (eval (.Attribute e f pos) env) Q E s :=
 Attribute_any_ h (by rw [arm_eval_Attribute,hb])
end
noncomputable def dG (K:PySem.W.Frag) (ta:TE) (f:Str):TE:=fun σ H Q=>ta σ H fun x H1=>∃ a C dx fs v,x=.ref a/\H1 a=some (.ins C dx fs)/\O_ K C/\CJ K C f/\fs.lookup f=some v/\Q v H1
noncomputable def my (K:PySem.W.Frag) (ta tv:TE) (f:Str):TS:=fun D σ H=>tv σ H fun y H1=>ta σ H1 fun x H2=>∃ a C dx fs,x=.ref a/\H2 a=some (.ins C dx fs)/\O_ K C/\CJ K C f/\fs.length<1000 /\
 D.nx σ (upd H2 a (.ins C dx (BJ f y fs)))
section
variable {X:Cx} {o e value:Expr} {f:Str} {pos pos' tpos:Pos} {ta tv:TE}
theorem Bg (he:PE X e ta) (hb:attributeBase e f X.env (eval e X.env)=eval e X.env):PE X (.Attribute e f pos) (dG X.K ta f):=by
 intro pins s σ H Q I h
 refine U5 hb (Br (he pins s σ H _ I h) fun u s1 hq0=>?_)
 obtain ⟨x,H1,I1,rx,a,C,dx,fs,v,ex,ea,c,n,l,q⟩:=hq0
 subst ex
 obtain rfl:u=Value.ref a:=rx
 exact Mw I1 ea c n l fun u' s2 I2 ru=>⟨v,H1,I2,ru,q⟩
theorem Cr (ha:PE X o ta) (hv:PE X value tv) (hs:swapsWith value (some (.Attribute o f pos')) pos.line X.env=pure false):PS X (.Assign [.Attribute o f pos'] value pos) (my X.K ta tv f):=by
 intro pins s σ H D I h
 refine plainObj_wpAny_Assign_Attribute (Br (hv pins s σ H _ I h) fun u s1 ⟨y,H1,I1,ry,q⟩=>Br (ha pins s1 σ H1 _ I1 q) fun ov s2 ⟨x,H2,I2,rx,a,C,dx,fs,ex,ea,c,n,l,q2⟩=>?_) hs
 subst ex
 obtain rfl:ov=Value.ref a:=rx
 exact Nh I2 ea c n l ry fun s3 I3=>⟨σ,_,I3,q2⟩
end
section
variable {X:Cx} {pins:List (Addr × Obj)} {σ:St} {H:Hp} {s:Shared} {A:Around} {E:Value->Shared->Prop} {Q:Value->Shared->Prop} {c:Value} {b:Bool}
inductive Hd (K:PySem.W.Frag) (H:Hp):V->Value->Prop where
 | non:Hd K H .non (.type "NoneType")
 | bl (x:Bool):Hd K H (.bl x) (.type "bool")
 | int (i:Int):Hd K H (.int i) (.type "int")
 | str (x:Str):Hd K H (.str x) (.type "str")
 | flt (x:UInt64):Hd K H (.flt x) (.type "float")
 | lst {a:Addr} {xs:List V} (e:H a=some (.lst xs)):Hd K H (.ref a) (.type "list")
 | frz {a:Addr} {o:Obj} {xs:List V} (e:H a=some (.frz o (.lst xs))):Hd K H (.ref a) (.type "list")
 | tup {a:Addr} {xs:List V} (e:H a=some (.tup xs)):Hd K H (.ref a) (.type "tuple")
 | dK {a:Addr} {kvs:List (Key × V)} (e:H a=some (.dK kvs)):Hd K H (.ref a) (.type "dict")
 | dT {a:Addr} {kvs:List (List Key × V)} (e:H a=some (.dT kvs)):Hd K H (.ref a) (.type "dict")
 | ins {a C dx:Addr} {fs:List (Str × V)} (e:H a=some (.ins C dx fs)) (cl:O_ K C) (ha:PySem.W.findIn K (.ref C) "__class__" = some (some (.builtin "object.__class__")))
   (hn:PySem.W.specialIn K (.builtin "object.__class__") "__get__" = some (some (.builtin "getset_descriptor.__get__"))) (htk:PySem.W.takesIn K (.builtin "object.__class__")=some true)
   (hm:PySem.W.mroIn K C (.type "object")=some true):Hd K H (.ref a) (.ref C)
theorem Pj {x:V} {u t:Value} (I:Inv X pins σ H s) (rx:RelV x u) (ty:Hd X.K H x t) (e:PySem.W.kitOne X.K t c=some b) (h:∀ tk,Q (.bool b) { s with toks:=tk }) :
  wpAny (model X.prog X.w) A (call (.builtin "isinstance") [u,c]) Q E s:=by
 cases ty with
 | non=>cases (show u=Value.none from rx); exact PySem.W.kia_one PySem.W.kitx_none I.Gw True.intro e (fun z=>nomatch z) h
 | bl y=>cases (show u=Value.bool y from rx); exact PySem.W.kia_one PySem.W.kitx_bool I.Gw True.intro e (fun z=>nomatch z) h
 | int i=>obtain ⟨t,q⟩:=(show ∃ t,u=Value.int i t from rx); cases q; exact PySem.W.kia_one PySem.W.kitx_int I.Gw True.intro e (fun z=>nomatch z) h
 | str y=>obtain ⟨t,q⟩:=(show ∃ t,u=Value.str y t from rx); cases q; exact PySem.W.kia_one PySem.W.kitx_str I.Gw True.intro e (fun z=>nomatch z) h
 | flt y=>obtain ⟨t,q⟩:=(show ∃ t,u=Value.float y t from rx); cases q; exact PySem.W.kia_one PySem.W.kitx_float I.Gw True.intro e (fun z=>nomatch z) h
 | @lst a xs ea =>
  cases (show u=Value.ref a from rx)
  obtain ⟨_,_,n,_,h1⟩:=(show Bq X.prog X.w H s.heap a (.lst xs) from I.hok a _ ea)
  exact PySem.W.kia_one PySem.W.kitx_list I.Gw ⟨_,h1,rfl⟩ e (fun z=>nomatch z) h
 | @frz a ob xs ea =>
  cases (show u=Value.ref a from rx)
  obtain ⟨_,_,_,n,_,h1⟩:=(show Bq X.prog X.w H s.heap a (.frz ob (.lst xs)) from I.hok a _ ea)
  exact PySem.W.kia_one PySem.W.kitx_list I.Gw ⟨_,h1,rfl⟩ e (fun z=>nomatch z) h
 | @tup a xs ea =>
  cases (show u=Value.ref a from rx)
  obtain ⟨_,_,_,p⟩:=(show Bq X.prog X.w H s.heap a (.tup xs) from I.hok a _ ea)
  obtain ⟨o,h1,h2,_⟩:=p
  exact PySem.W.kia_one PySem.W.kitx_tuple I.Gw ⟨o,h1,h2⟩ e (fun z=>nomatch z) h
 | @dK a kvs ea =>
  cases (show u=Value.ref a from rx)
  obtain ⟨_,_,vs,_,p⟩:=(show Bq X.prog X.w H s.heap a (.dK kvs) from I.hok a _ ea)
  obtain ⟨o,es,ep,h1,h2,_⟩:=p
  exact PySem.W.kia_one PySem.W.kitx_dict I.Gw ⟨o,h1,h2.1⟩ e (fun z=>nomatch z) h
 | @dT a kvs ea =>
  cases (show u=Value.ref a from rx)
  obtain ⟨_,_,xs,_,o,es,ep,h1,h2,_⟩:=(show Bq X.prog X.w H s.heap a (.dT kvs) from I.hok a _ ea)
  exact PySem.W.kia_one PySem.W.kitx_dict I.Gw ⟨o,h1,h2.1⟩ e (fun z=>nomatch z) h
 | @ins a C dx fs ea cl ha hn htk hm =>
  cases (show u=Value.ref a from rx)
  obtain ⟨mA,O,_⟩:=JL I.hok ea
  obtain ⟨od,J,_⟩:=O.look
  exact PySem.W.kia_one (PySem.W.kitx_own (cl.get _) cl.hd ha hn htk hm) I.Gw J e (fun z=>nomatch z) h
end
end L2
namespace L2
open PySem PySem.Spec PyProof.Rows
structure A_ (k:Nat) (A:Around):Prop where
 hd:A.handled=none
 dp:A.depth+3 * k+5<recursionLimit
 un:A.units+16 * k+200<cLine
theorem A_.mono {j k:Nat} {A:Around} (r:A_ k A) (h:j<=k):A_ j A:=⟨r.hd,by have:=r.dp; omega,by have:=r.un; omega⟩
theorem A_.deeper {k:Nat} {A:Around} (r:A_ (k+1) A) (env:Env):A_ k (A.deeper env) :=
 ⟨r.hd,by have:=r.dp; show A.depth+1+3 * k+5<_; omega,by have:=r.un; show A.units+3+16 * k+200<_; omega⟩
theorem M_ {A:Around} {C:Addr} {us:List Value} {kw:List (Str × Value)}:(A.under (.builtin "type.__call__" ⟨.ref C::us,kw⟩)).depth=A.depth+1:=by
 first | rfl | simp [Around.under,Code.weight,Code.isCreation,Code.isGuard,Code.isCaller,Code.frames,Code.isFrame,guardIds]
theorem M3 {A:Around} {C:Addr} {us:List Value} {kw:List (Str × Value)}:(A.under (.builtin "type.__call__" ⟨.ref C::us,kw⟩)).units=A.units+1:=by
 first | rfl | simp [Around.under,Code.cUnits,Code.frames,Code.isFrame]
theorem A_.make {k:Nat} {A:Around} (r:A_ (k+1) A) (C:Addr) (us:List Value) (kw:List (Str × Value)):A_ k (A.under (.builtin "type.__call__" ⟨.ref C::us,kw⟩)) :=
 ⟨r.hd,by have:=r.dp; rw [M_]; omega,by have:=r.un; rw [M3]; omega⟩
theorem A_.depth {k:Nat} {A:Around} (r:A_ k A):A.depth<recursionLimit:=by have:=r.dp; omega
theorem A_.units {k:Nat} {A:Around} (r:A_ k A):A.units+64<cLine:=by have:=r.un; omega
noncomputable def d_:TA:=fun _ H Q=>Q [] H
noncomputable def V2 (ta:TE) (tr:TA):TA:=fun σ H Q=>ta σ H fun x H1=>tr σ H1 fun xs H2=>Q (x::xs) H2
section
variable {X:Cx} {e:Expr} {es:List Expr} {te:TE} {t:TA} {pos:Pos}
theorem Ab:PA X [] d_:=fun _ _ _ _ H Q I h=>Calls.spliced_nil ⟨[],H,I,.nil,h⟩
theorem Aa (ha:PE X e te) (hr:PA X es t) (hs:starEach (e::es) X.env=(false,eval e X.env)::starEach es X.env:=by rfl):PA X (e::es) (V2 te t):=by
 intro pos pins s σ H Q I h
 rw [hs]
 show wpAny _ _ (spliced ((false,eval e X.env)::backTo pos (starEach es X.env))) _ _ s
 refine Calls.spliced_cons (Br (ha pins s σ H _ I h) fun u s1 hq0=>?_)
 obtain ⟨x,H1,I1,r1,q1⟩:=hq0
 exact Br (hr pos pins s1 σ H1 _ I1 q1) fun us s2 ⟨xs,H2,I2,r2,q2⟩=>⟨x::xs,H2,I2,.cons r1 r2,q2⟩
noncomputable def j8 (t:TA):TE:=fun σ H Q=>t σ H fun xs H1=>xs.length<=sizeLine/\∀ p,H1 p=none->Q (.ref p) (upd H1 p (.tup xs))
noncomputable def jz (t:TA):TE:=fun σ H Q=>t σ H fun xs H1=>xs.length<=sizeLine/\∀ p,H1 p=none->Q (.ref p) (upd H1 p (.lst xs))
theorem DY {x1} (h:PA X es t):PE X (.Tuple es x1 pos) (j8 t):=by
 intro pins s σ H Q I hq
 refine wpAny_Tuple_spliced (Br (h pos pins s σ H _ I hq) fun us s1 ⟨xs,H1,I1,r,z,q⟩=>⟨by rw [← r.length]; exact z,?_⟩)
 have hf:H1 s1.heap.objs.size=none:=I1.hok.fresh (Nat.le_refl _)
 refine ⟨.ref s1.heap.objs.size,upd H1 s1.heap.objs.size (.tup xs),I1.laid (t':=s1.toks) (fun b u e=>Heap.get?_push_of_some _ e) (Nat.le_refl _) ?_,rfl,q _ hf⟩
 exact ⟨z,us,r,⟨_,Heap.get?_push_size _ rfl,rfl,_,rfl⟩⟩
theorem FQ (h:PA X es t):PE X (.List es pos) (jz t):=by
 intro pins s σ H Q I hq
 refine wpAny_List_spliced (Br (h pos pins s σ H _ I hq) fun us s1 ⟨xs,H1,I1,r,z,q⟩=>⟨by rw [← r.length]; exact z,?_⟩)
 have hf:H1 s1.heap.objs.size=none:=I1.hok.fresh (Nat.le_refl _)
 refine ⟨.ref s1.heap.objs.size,upd H1 s1.heap.objs.size (.lst xs),I1.laid (t':=s1.toks) (fun b u e=>Heap.get?_push_of_some _ e) (Nat.le_refl _) ?_,rfl,q _ hf⟩
 exact ⟨z,us,0,r,Heap.get?_push_size _ rfl⟩
end
noncomputable abbrev Sp:=List V->Hp->VK->XK->Prop
noncomputable abbrev O9:=List Env->Hp->Shared->XK->Value->Shared->Prop
structure MT (P:Program) (w:World) (K:PySem.W.Frag) (mg:Str->Option Value) (base:Heap) (A:Around) (outer:List Env) (s:Shared) (H:Hp):Prop where
 frames:A.frames=some outer
 mod:Mod K mg base
 bs:∀ b o,base.get? b=some o->s.heap.get? b=some o/\H b=none
 bsz:base.objs.size<=s.heap.objs.size
 Ib:s.heap.FunFrames base outer
 frf:∀ b∈frs outer,H b=none
 hok:Ex P w H s.heap
 bare:AllBare s.gens
noncomputable def CE (outer:List Env) (P:Program) (w:World) (H:Hp) (s:Shared) (Q:VK) (u:Value) (s':Shared):Prop :=
 ∃ v H',s'.os=s.os/\AllBare s'.gens/\Un (frs outer) [] H H' s.heap s'.heap/\Ex P w H' s'.heap/\RelV v u/\Q v H'
noncomputable def CR (CX:O9) (outer:List Env) (P:Program) (w:World) (H:Hp) (s:Shared) (Q:VK) (E:XK) (r:Result) (s':Shared):Prop :=
 match r with
 | .ok (.ret u)=>CE outer P w H s Q u s'
 | .ok _=>False
 | .error e=>CX outer H s E e s'
structure Ao (P:Program) (w:World) (K:PySem.W.Frag) (mg:Str->Option Value) (base:Heap) (CX:O9) (k:Nat) (f:Addr) (fd:FuncData) (ps:List Str) (sp:Sp):Prop where
 len:∀ vs H Q E,sp vs H Q E->vs.length=ps.length
 run:∀ (A:Around) (outer:List Env) (s:Shared) (H:Hp) (args:Args) (us:List Value) (vs:List V) (Q:VK) (E:XK),A_ k A->MT P w K mg base A outer s H->BindsTo s fd args (ps.zip us)->Vals vs us->sp vs H Q E ->
  codeAny (model P w) A (.call (.ref f) args) (CR CX outer P w H s Q E) s
theorem MT.make {P:Program} {w:World} {K:PySem.W.Frag} {mg:Str->Option Value} {base:Heap} {A:Around} {outer:List Env} {s:Shared} {H:Hp} (e:MT P w K mg base A outer s H) (C:Addr) (us:List Value) (kw:List (Str × Value)) :
  MT P w K mg base (A.under (.builtin "type.__call__" ⟨.ref C::us,kw⟩)) outer s H:=⟨by first | exact e.frames | (simpa [Around.under,Code.envs,Code.isFrame,pushEnvs] using e.frames),e.mod,e.bs,e.bsz,e.Ib,e.frf,e.hok,e.bare⟩
section
variable {X:Cx} {pins:List (Addr × Obj)} {σ:St} {H:Hp} {s s':Shared}
theorem Inv.env0 (I:Inv X pins σ H s):MT X.prog X.w X.K X.mg X.base X.A X.stack s H :=
 ⟨I.ok.frames,I.ok.mod,I.bs,Nat.le_trans I.ok.bsz I.sz,I.stack,I.Gx,I.hok,I.bare⟩
theorem Inv.after {Q:VK} {u:Value} (I:Inv X pins σ H s) (h:CE X.stack X.prog X.w H s Q u s'):EP X pins σ Q u s':=by
 obtain ⟨v,H',os,bare,un,hok,r,q⟩:=h
 obtain ⟨hh,g,d,t,os'⟩:=s'
 obtain rfl:os'=s.os:=os
 exact ⟨v,H',I.call (h':=hh) (g':=g) (d':=d) (t':=t) (ch:=[]) un hok bare (fun b z=>absurd z (by simp)),r,q⟩
end
noncomputable def b8 (sp:Sp) (dvs:List V) (E:XK) (t:TA):TE:=fun σ H Q=>t σ H fun vs H1=>sp (vs++dvs) H1 Q E
noncomputable def RK (C:Addr) (m:Str) (sp:Sp) (dvs:List V) (E:XK) (ta:TE) (t:TA):TE:=fun σ H Q=>ta σ H fun x H1=>∃ a dx fs,x=.ref a/\H1 a=some (.ins C dx fs)/\fs.lookup m=none /\
 t σ H1 fun vs H2=>sp (x::(vs++dvs)) H2 Q E
noncomputable def aj (C:Addr) (sp:Sp) (dvs:List V) (E:XK) (t:TA):TE:=fun σ H Q=>t σ H fun vs H1=>∀ x dx,H1 x=none->H1 dx=none->dx ≠ x ->
 sp (.ref x::(vs++dvs)) (upd (upd H1 dx (.own x)) x (.ins C dx [])) (fun v H2=>v=.non/\Q (.ref x) H2) E
noncomputable def Binds (K:PySem.W.Frag) (fd:FuncData) (ps:List Str) (ds:List Value):Prop :=
 ∀ (s:Shared) (us:List Value),K.In s.heap->(us++ds).length=ps.length->BindsTo s fd ⟨us,[]⟩ (ps.zip (us++ds))
theorem Binds.all {K:PySem.W.Frag} {fd:FuncData} {ps:List Str} (h:∀ us:List Value,us.length=ps.length->bindArgs fd ⟨us,[]⟩=pure (ps.zip us)):Binds K fd ps []:=fun s us _ hl=>by
 rw [List.append_nil] at hl ⊢
 exact .of_eq (h us hl)
noncomputable def GQ (CX:O9) (X:Cx) (E:XK):Prop:=∀ (pins:List (Addr × Obj)) (σ:St) (H:Hp) (s:Shared) (e:Value) (s':Shared),Inv X pins σ H s->CX X.stack H s E e s'->X.xe e s'
section
variable {X:Cx} {CX:O9} {k:Nat} {f C:Addr} {fd:FuncData} {ps:List Str} {sp:Sp} {dvs:List V} {ds:List Value} {E:XK} {x m:Str} {p pos apos:Pos} {e o:Expr} {es:List Expr} {ta:TE} {t:TA}
theorem Np {pins:List (Addr × Obj)} {σ:St} {H:Hp} {s:Shared} {Q:VK} {us:List Value} {vs:List V} (F:Ao X.prog X.w X.K X.mg X.base CX k f fd ps sp) (hr:A_ k X.A) (hb:Binds X.K fd ps ds) (hd:Vals dvs ds) (hx:GQ CX X E)
  (I:Inv X pins σ H s) (r:Vals vs us) (h:sp (vs++dvs) H Q E):wpAny (model X.prog X.w) X.A (call (.ref f) us) (EP X pins σ Q) X.xe s:=by
 have r2:Vals (vs++dvs) (us++ds):=r.append hd
 have hl:(us++ds).length=ps.length:=by rw [← r2.length]; exact F.len _ _ _ _ h
 refine wpAny_call (codeAny_mono (F.run X.A X.stack s H ⟨us,[]⟩ (us++ds) (vs++dvs) Q E hr I.env0 (hb s us I.Gw hl) r2 h) fun r s' hq=>?_)
 cases r with
 | error e=>exact hx pins σ H s e s' I hq
 | ok fl =>
  cases fl with
  | ret u=>exact I.after hq
  | next=>exact False.elim hq
  | brk=>exact False.elim hq
  | cont=>exact False.elim hq
theorem Al (F:Ao X.prog X.w X.K X.mg X.base CX k f fd ps sp) (hr:A_ k X.A) (hg:Gl X x) (hm:X.mg x=some (.ref f)) (hk:PySem.W.keepIn X.K (.ref f)=true) (hb:Binds X.K fd ps ds) (hd:Vals dvs ds) (hx:GQ CX X E)
  (ha:PA X (e::es) t) (hdb:(x == ("__debug__" : Str))=false:=by decide) (he:starEach (e::es) X.env=(false,eval e X.env)::starEach es X.env:=by rfl) (hpl:(backTo pos (starEach es X.env)).any (·.1)=false:=by rfl) :
  PE X (.Call (.Name x p) (e::es) [] pos) (b8 sp dvs E t):=by
 intro pins s σ H Q I h
 refine wpAny_Call_Name_kw (Hs I hg hm ?_ hdb)
 refine PySem.W.callWith_K (h₀:=X.base) I.ok.mod.kin hk (Br (ha pos pins s σ H _ I h) fun us s1 ⟨vs,H1,I1,r,q⟩=>⟨I1.Gw,?_⟩) he hpl
 exact Np F hr hb hd hx I1 r q
theorem CV {pl:Sem Bool} (he:PE X o ta) (c:O_ X.K C) (hm:Meth X.K C m f) (F:Ao X.prog X.w X.K X.mg X.base CX k f fd ps sp) (hr:A_ k X.A) (hb:Binds X.K fd ps ds) (hd:Vals dvs ds) (hx:GQ CX X E) (ha:PA X (e::es) t)
  (hst:starEach (e::es) X.env=(false,eval e X.env)::starEach es X.env:=by rfl) (hpl:(backTo pos (starEach es X.env)).any (·.1)=false:=by rfl)
  (ht:eval (.Call (.Attribute o m apos) (e::es) [] pos) X.env=(do
   let ov ← eval o X.env
   standAt apos.atName
   let (f,first) ← holding [ov] (getMethod ov m pl)
   callWith pos f first (backTo pos (starEach (e::es) X.env)) (backToKw pos (keywordEach [] X.env))):=by rfl) :
  PE X (.Call (.Attribute o m apos) (e::es) [] pos) (RK C m sp dvs E ta t):=by
 intro pins s σ H Q I h
 refine PySem.W.methodCall_KW (pl:=pl) (Br (he pins s σ H _ I h) fun u s1 ⟨x,H1,I1,rx,a,dx,fs,ex,ea,l,q⟩=>?_) ht
 subst ex
 obtain rfl:u=Value.ref a:=rx
 refine G8 I1 ea c hm l ?_
 refine PySem.W.callWith_K (first:=[.ref a]) (h₀:=X.base) I.ok.mod.kin hm.kp (Br (ha pos pins s1 σ H1 _ I1 q) fun us s2 ⟨vs,H2,I2,r,q2⟩=>⟨I2.Gw,?_⟩) hst hpl
 exact Np (us:=.ref a::us) (vs:=.ref a::vs) F hr hb hd hx I2 (.cons rfl r) q2
theorem Bv {pl:Sem Bool} (he:PE X o ta) (c:O_ X.K C) (hm:Meth X.K C m f) (F:Ao X.prog X.w X.K X.mg X.base CX k f fd ps sp) (hr:A_ k X.A) (hb:Binds X.K fd ps ds) (hd:Vals dvs ds) (hx:GQ CX X E)
  (ht:eval (.Call (.Attribute o m apos) [] [] pos) X.env=(do
   let ov ← eval o X.env
   standAt apos.atName
   let (f,first) ← holding [ov] (getMethod ov m pl)
   callWith pos f first (backTo pos (starEach [] X.env)) (backToKw pos (keywordEach [] X.env))):=by rfl) :
  PE X (.Call (.Attribute o m apos) [] [] pos) (RK C m sp dvs E ta d_):=by
 intro pins s σ H Q I h
 refine PySem.W.methodCall_KW (pl:=pl) (Br (he pins s σ H _ I h) fun u s1 ⟨x,H1,I1,rx,a,dx,fs,ex,ea,l,q⟩=>?_) ht
 subst ex
 obtain rfl:u=Value.ref a:=rx
 refine G8 I1 ea c hm l ?_
 exact PySem.W.callWith_K0 (first:=[.ref a]) I1.Gw hm.kp (Np (us:=[.ref a]) (vs:=[.ref a]) F hr hb hd hx I1 (.cons rfl .nil) q)
structure Mk (K:PySem.W.Frag) (C f:Addr):Prop where
 makes:PySem.W.makesIn K C=true
 init:PySem.W.findIn K (.ref C) "__init__" = some (some (.ref f))
 fn:PySem.W.isFn K (.ref f)=true
 kp:PySem.W.keepIn K (.ref C)=true
theorem TF {pins:List (Addr × Obj)} {σ:St} {H:Hp} {s:Shared} {Q:VK} {us:List Value} {vs:List V} (M:Mk X.K C f) (F:Ao X.prog X.w X.K X.mg X.base CX k f fd ps sp) (hr:A_ (k+1) X.A) (hb:Binds X.K fd ps ds) (hd:Vals dvs ds)
  (hx:GQ CX X E) (I:Inv X pins σ H s) (r:Vals vs us)
  (h:∀ x dx,H x=none->H dx=none->dx ≠ x->sp (.ref x::(vs++dvs)) (upd (upd H dx (.own x)) x (.ins C dx [])) (fun v H2=>v=.non/\Q (.ref x) H2) E) :
  wpAny (model X.prog X.w) X.A (call (.ref C) us) (EP X pins σ Q) X.xe s:=by
 have hq:=h (s.heap.objs.size+1) s.heap.objs.size (I.hok.fresh (Nat.le_succ _)) (I.hok.fresh (Nat.le_refl _)) (Nat.ne_of_lt (Nat.lt_succ_self _))
 have I2:=Inv.made (C:=C) I
 have r2:Vals (V.ref (s.heap.objs.size+1)::(vs++dvs)) (Value.ref (s.heap.objs.size+1)::(us++ds)):=.cons rfl (r.append hd)
 have hl:(Value.ref (s.heap.objs.size+1)::us++ds).length=ps.length:=by
  have e:=r2.length
  rw [F.len _ _ _ _ hq] at e
  exact e.symm
 refine wpAny_call (S_ (f:=f) I.Gw M.makes M.init (beq_iff_eq.mp M.fn) (codeAny_mono (F.run _ X.stack _ _ ⟨Value.ref (s.heap.objs.size+1)::us,[]⟩ (Value.ref (s.heap.objs.size+1)::(us++ds)) _ _ E (hr.make C us [])
  (I2.env0.make C us []) (hb _ (Value.ref (s.heap.objs.size+1)::us) I2.Gw hl) r2 hq) fun r s' hq'=>?_))
 cases r with
 | error e=>exact hx pins σ _ _ e s' I2 hq'
 | ok fl =>
  cases fl with
  | ret u =>
   obtain ⟨v,H',I3,rv,ev,q3⟩:=I2.after hq'
   subst ev
   exact ⟨rv,⟨V.ref (s.heap.objs.size+1),H',I3,rfl,q3⟩⟩
  | next=>exact False.elim hq'
  | brk=>exact False.elim hq'
  | cont=>exact False.elim hq'
theorem JC (M:Mk X.K C f) (F:Ao X.prog X.w X.K X.mg X.base CX k f fd ps sp) (hr:A_ (k+1) X.A) (hg:Gl X x) (hm:X.mg x=some (.ref C)) (hb:Binds X.K fd ps ds) (hd:Vals dvs ds) (hx:GQ CX X E)
  (ha:PA X (e::es) t) (hdb:(x == ("__debug__" : Str))=false:=by decide) (he:starEach (e::es) X.env=(false,eval e X.env)::starEach es X.env:=by rfl) (hpl:(backTo pos (starEach es X.env)).any (·.1)=false:=by rfl) :
  PE X (.Call (.Name x p) (e::es) [] pos) (aj C sp dvs E t):=by
 intro pins s σ H Q I h
 refine wpAny_Call_Name_kw (Hs I hg hm ?_ hdb)
 refine PySem.W.callWith_K (h₀:=X.base) I.ok.mod.kin M.kp (Br (ha pos pins s σ H _ I h) fun us s1 ⟨vs,H1,I1,r,q⟩=>⟨I1.Gw,?_⟩) he hpl
 exact TF M F hr hb hd hx I1 r q
end
section
variable {X:Cx} {CX:O9} {k:Nat} {f C:Addr} {fd:FuncData} {ps ks:List Str} {sp:Sp} {E:XK} {x m:Str} {p pos apos kpos:Pos} {e o:Expr} {es:List Expr} {kws:List Keyword} {te ta:TE} {t tk:TA} {nm:Option Str}
variable {g:List Value->List Value->List Value} {gV:List V->List V->List V}
end
structure An (N P:List Str) (sc:Scope):Prop where
 kind:sc.kind=.function
 co:sc.isCoroutine=false
 gen:sc.isGenerator=false
 nd:N.Nodup
 pre:N.take P.length=P
 par:∀ x∈P,sc.names.lookup x=some .local \/ sc.names.lookup x=some .cell
 nofree:∀ y∈sc.names,y.2 ≠ .free
theorem Be {N P:List Str} {sc:Scope} (a:sc.kind=.function:=by rfl) (b:sc.isCoroutine=false:=by rfl) (c:sc.isGenerator=false:=by rfl) (d:N.Nodup:=by decide +kernel) (e:N.take P.length=P:=by rfl) (f:∀ x∈P,sc.names.lookup x=some .local \/ sc.names.lookup x=some .cell:=by decide +kernel) (g:∀ y∈sc.names,y.2 ≠ .free:=by decide +kernel):An N P sc:=⟨a,b,c,d,e,f,g⟩
theorem J5 {kindOf:Str->Option NameKind} {x:Str}:∀ {binds:List (Str × Value)} {m:Str->Option Value},(∀ v,(x,v) ∉ binds)->bindL kindOf binds m x=m x
 | [],_,_=>rfl
 | (n,v)::r,m,h=>by
  unfold bindL
  rw [J5 fun w hw=>h w (List.mem_cons_of_mem _ hw)]
  split
  ·have:x ≠ n:=by rintro rfl; exact h v List.mem_cons_self
   simp [this]
  ·rfl
theorem J9 {kindOf:Str->Option NameKind} {x:Str}:∀ {binds:List (Str × Value)} {m:Str->Option Value},(∀ v,(x,v) ∉ binds)->bindC kindOf binds m x=m x
 | [],_,_=>rfl
 | (n,v)::r,m,h=>by
  unfold bindC
  rw [J9 fun w hw=>h w (List.mem_cons_of_mem _ hw)]
  split
  ·rfl
  ·have:x ≠ n:=by rintro rfl; exact h v List.mem_cons_self
   simp [this]
theorem Kf {kindOf:Str->Option NameKind} {x:Str} {v:Value}:∀ {P:List Str} {vs:List Value} {i:Nat} {m:Str->Option Value},P.Nodup->P[i]? = some x->vs[i]? = some v->kindOf x=some .local ->
  bindL kindOf (P.zip vs) m x=some v
 | [],_,_,_,_,h,_,_=>by simp at h
 | _::_,[],_,_,_,_,h,_=>by simp at h
 | p::P,w::vs,0,m,nd,h1,h2,hk=>by
  simp at h1 h2; subst h1; subst h2
  show bindL kindOf ((p,w)::P.zip vs) m p=_
  unfold bindL
  rw [J5 fun v hv=>(List.nodup_cons.mp nd).1 (List.of_mem_zip hv).1,if_pos hk]
  simp
 | p::P,w::vs,i+1,m,nd,h1,h2,hk=>by
  show bindL kindOf ((p,w)::P.zip vs) m x=_
  unfold bindL
  exact Kf (i:=i) (List.nodup_cons.mp nd).2 (by simpa using h1) (by simpa using h2) hk
theorem J8 {kindOf:Str->Option NameKind} {x:Str} {v:Value}:∀ {P:List Str} {vs:List Value} {i:Nat} {m:Str->Option Value},P.Nodup->P[i]? = some x->vs[i]? = some v->kindOf x ≠ some .local ->
  bindC kindOf (P.zip vs) m x=some v
 | [],_,_,_,_,h,_,_=>by simp at h
 | _::_,[],_,_,_,_,h,_=>by simp at h
 | p::P,w::vs,0,m,nd,h1,h2,hk=>by
  simp at h1 h2; subst h1; subst h2
  show bindC kindOf ((p,w)::P.zip vs) m p=_
  unfold bindC
  rw [J9 fun v hv=>(List.nodup_cons.mp nd).1 (List.of_mem_zip hv).1,if_neg hk]
  simp
 | p::P,w::vs,i+1,m,nd,h1,h2,hk=>by
  show bindC kindOf ((p,w)::P.zip vs) m x=_
  unfold bindC
  exact J8 (i:=i) (List.nodup_cons.mp nd).2 (by simpa using h1) (by simpa using h2) hk
noncomputable def start (N:List Str) (vs:List V):St:=vs.map some++List.replicate (N.length - vs.length) none
noncomputable def K7 (CX:O9) (P:Program) (w:World) (K:PySem.W.Frag) (mg:Str->Option Value) (base:Heap) (N:List Str) (qual:Str) (scope:Scope) (f:Addr) (cd:Value) (A:Around) (outer:List Env) (s:Shared) (H:Hp) (E:XK):Cx where
 prog:=P
 w:=w
 K:=K
 mg:=mg
 base:=base
 A:=A.deeper (envOfC qual scope s.heap.objs.size f cd)
 N:=N
 s₀:=s
 H₀:=H
 env:=envOfC qual scope s.heap.objs.size f cd
 outer:=outer
 stack:=envOfC qual scope s.heap.objs.size f cd::outer
 ex:=[]
 calm:=true
 fn:=fun _=>true
 pn:=[]
 xe:=fun e s'=>wpAny (model P w) (A.deeper (envOfC qual scope s.heap.objs.size f cd)) (leaving (envOfC qual scope s.heap.objs.size f cd) e) (fun _ s''=>CX outer H s E e s'') (fun e' s''=>CX outer H s E e' s'') s'
theorem Lw {sc:Scope} {n:Nat} {x:Str} (h:sc.names.lookup x=some .cell):∃ c,(cellsFrom n sc.names []).lookup x=some c:=by
 have q:=PySem.W.cellsFrom_some sc.names n [] (.inl h)
 exact Option.isSome_iff_exists.mp q
theorem Pg {CX:O9} {P:Program} {w:World} {K:PySem.W.Frag} {mg:Str->Option Value} {base:Heap} {N ps:List Str} {qual:Str} {scope:Scope} {f:Addr} {cd:Value} {A:Around} {outer:List Env} {s s1:Shared} {H:Hp} {E:XK} {us:List Value} {vs:List V}
  (S:An N ps scope) (hd:A.handled=none) (e0:MT P w K mg base A outer s H) (hl:vs.length=ps.length) (r:Vals vs us)
  (x:InCallC s s.heap.objs.size (bindL (envOfC qual scope s.heap.objs.size f cd).kindOf (ps.zip us) fun _=>none) (cellsFrom (s.heap.objs.size+1) scope.names []) (bindC (envOfC qual scope s.heap.objs.size f cd).kindOf (ps.zip us) fun _=>none) s1) :
  Inv (K7 CX P w K mg base N qual scope f cd A outer s H E) [] (start N vs) H s1:=by
 have hpl:ps.length<=N.length:=by have:=congrArg List.length S.pre; rw [List.length_take] at this; omega
 obtain ⟨h1,tk,rfl,hk⟩:=x.done
 have noA:∀ b:Addr,b ∉ (K7 CX P w K mg base N qual scope f cd A outer s H E).ex:=fun b z=>absurd (show b∈([]:List Addr) from z) (by simp)
 refine ⟨⟨e0.mod,S.kind,rfl,rfl,Nat.le_refl _,fun y z c h1 h2=>?_,fun y hy=>?_,fun y c _ h=>?_,fun _=>hd,Around.frames_deeper e0.frames,.inr ⟨rfl,rfl⟩,fun b z=>absurd z (noA b),e0.bs,e0.bsz,fun b _ _=>noA b,fun b z=>absurd z (noA b),e0.Ib,e0.frf⟩,
  rfl,e0.bare,Un.kept hk,⟨_,x.toInCall.ns,fun i y v h1 h2 h3=>?_⟩,fun y c h=>⟨_,x.cell y c h⟩,e0.hok.fresh (Nat.le_refl _),fun y c h=>?_,fun p hp=>absurd (show p∈([]:List (Addr × Obj)) from hp) (by simp),e0.hok.kept hk,?_⟩
 ·exact name_of_addr x.apart (PySem.mem_of_lookup h1) (PySem.mem_of_lookup h2)
 ·have hy:scope.names.lookup y=some .cell \/ scope.names.lookup y=some .free:=hy
  rcases hy with hy | hy
  ·exact Lw hy
  ·exact absurd rfl (S.nofree _ (PySem.mem_of_lookup hy))
 ·exact Nat.le_of_lt (x.above y c (PySem.mem_of_lookup h))
 ·have hi:i<vs.length:=by
   unfold start at h2
   by_cases hi:i<vs.length
   ·exact hi
   ·rw [List.getElem?_append_right (by simpa using hi)] at h2
    rw [List.getElem?_replicate] at h2
    split at h2 <;> cases h2
  have ha:vs[i]? = some v:=by
   unfold start at h2
   rw [List.getElem?_append_left (by simpa using hi),List.getElem?_map] at h2
   cases e:vs[i]? with
   | none=>rw [e] at h2; cases h2
   | some a=>rw [e] at h2; cases h2; rfl
  obtain ⟨u,hu,rv⟩:=r.get ha
  have hp:ps[i]? = some y:=by
   rw [← S.pre,List.getElem?_take_of_lt (by omega)]; exact h1
  have ndP:ps.Nodup:=by rw [← S.pre]; exact S.nd.sublist (List.take_sublist _ _)
  refine ⟨u,rv,?_⟩
  rcases S.par y (List.mem_of_getElem? hp) with k | k
  ·exact .inl ⟨k,Kf ndP hp hu k⟩
  ·obtain ⟨c,e⟩:=Lw (n:=s.heap.objs.size+1) k
   refine .inr ⟨.inl k,c,e,?_⟩
   have q:=x.cell y c e
   rw [J8 ndP hp hu (by show scope.names.lookup y ≠ _; rw [k]; decide)] at q
   exact q
 ·exact e0.hok.fresh (Nat.le_of_lt (x.above y c (PySem.mem_of_lookup h)))
 ·unfold start
  show _=N.length
  rw [List.length_append,List.length_map,List.length_replicate]
  omega
theorem V7 {CX:O9} {P:Program} {w:World} {K:PySem.W.Frag} {mg:Str->Option Value} {base:Heap} {k:Nat} {f:Addr} {name qual:Str} {params:Arguments} {body:List Stmt} {scope:Scope} {dV kV doc pm cdv ct oc:Value} {an od:Option Addr}
  {osl:Array (Option Value)} {N ps:List Str} {sp:Sp} (lk:K.lookup f=some ⟨oc,od,.func (PySem.W.fnOf name qual params body scope dV kV doc pm an cdv ct),osl⟩) (hcd:PySem.W.codeIn K cdv qual=true) (S:An N ps scope)
  (len:∀ vs H Q E,sp vs H Q E->vs.length=ps.length)
  (hbody:∀ (A:Around) (outer:List Env) (s:Shared) (H:Hp) (vs:List V) (Q:VK) (E:XK),A_ k (A.deeper (envOfC qual scope s.heap.objs.size f cdv))->sp vs H Q E ->
   ∃ t,Ny (K7 CX P w K mg base N qual scope f cdv A outer s H E) body t/\t { nx:=fun _ H'=>Q .non H',rt:=Q } (start N vs) H) :
  Ao P w K mg base CX (k+1) f (PySem.W.fnOf name qual params body scope dV kV doc pm an cdv ct) ps sp:=by
 refine ⟨len,fun A outer s H args us vs Q E hr e0 hb r hsp=>?_⟩
 have hl:=len _ _ _ _ hsp
 have KX:K.In s.heap:=e0.mod.kin.keeps fun b o e=>(e0.bs b o e).1
 have lim:s.heap.NoLimit:=e0.mod.nolimit.keeps fun b o e=>(e0.bs b o e).1
 have hkind:∀ y∈ps.zip us,scope.names.lookup y.1=some .local \/ (scope.names.lookup y.1=some .cell/\((cellsFrom (s.heap.objs.size+1) scope.names []).lookup y.1).isSome=true):=fun ⟨n,v⟩ hy=>by
  rcases S.par n (List.of_mem_zip hy).1 with q | q
  ·exact .inl q
  ·exact .inr ⟨q,PySem.W.cellsFrom_some _ _ _ (.inl q)⟩
 refine codeAny_call_function hr.depth (KX _ _ lk) rfl S.co S.gen rfl (PySem.W.codeRec_of KX hcd) (hb _ _ _ _ ?_)
 refine wpAny_newFunctionEnv_cells S.kind hkind fun env he s1 x=>?_
 subst he
 refine ⟨lim.keeps x.toInCall.keep,codeAny_func ?_⟩
 obtain ⟨t,ht,hq⟩:=hbody A outer s H vs Q E (hr.deeper _) hsp
 have I:Inv (K7 CX P w K mg base N qual scope f cdv A outer s H E) [] (start N vs) H s1:=Pg S hr.hd e0 hl r x
 refine wpAny_mono (ht [] s1 (start N vs) H _ I hq) (fun fl s' hs=>?_) fun e s' hs=>hs
 have fin:∀ {σ':St} {H':Hp} {v:V} {u:Value},Inv (K7 CX P w K mg base N qual scope f cdv A outer s H E) [] σ' H' s'->RelV v u->Q v H'->CE outer P w H s Q u s' :=
  fun {σ' H' v u} J rv q=>⟨v,H',J.os,J.bare,J.base,J.hok,rv,q⟩
 cases fl with
 | ret u =>
  obtain ⟨v,σ',H',J,rv,q⟩:=hs
  exact fin J rv q
 | next =>
  obtain ⟨σ',H',J,q⟩:=hs
  exact fin (v:=V.non) (u:=Value.none) J rfl q
 | brk =>
  obtain ⟨_,_,_,q⟩:=hs
  exact False.elim q
 | cont =>
  obtain ⟨_,_,_,q⟩:=hs
  exact False.elim q
end L2
namespace L2
open PySem PySem.Spec PyProof.Rows
section
variable {X:Cx} {x:Str} {p pos:Pos} {e:Expr} {es:List Expr} {t:TA} {id T:String} {r:List V->Hp->VK->Prop}
noncomputable def oF (r:List V->Hp->VK->Prop) (t:TA):TE:=fun σ H Q=>t σ H fun vs H1=>r vs H1 Q
theorem Az (hc:Eu X (.builtin id) r) (hg:Gl X x) (hm:X.mg x=none) (hv:bootBuiltins x=some (.builtin id)) (ha:PA X (e::es) t) (hn:x ≠ "__name__":=by decide) (hdb:(x == ("__debug__" : Str))=false:=by decide)
  (he:starEach (e::es) X.env=(false,eval e X.env)::starEach es X.env:=by rfl) (hpl:(backTo pos (starEach es X.env)).any (·.1)=false:=by rfl):PE X (.Call (.Name x p) (e::es) [] pos) (oF r t):=by
 intro pins s σ H Q I h
 refine wpAny_Call_Name_kw (HQ I hg hm hv ?_ hn hdb)
 exact PyProof.Rows.callWith_builtin1 (Br (ha pos pins s σ H _ I h) fun us s1 ⟨vs,H1,I1,r1,q1⟩=>hc pins s1 σ H1 vs us Q I1 r1 q1) he hpl
theorem De (hc:Eu X (.type T) r) (hg:Gl X x) (hm:X.mg x=none) (hv:bootBuiltins x=some (.type T)) (ha:PA X (e::es) t) (hn:x ≠ "__name__":=by decide) (hdb:(x == ("__debug__" : Str))=false:=by decide)
  (he:starEach (e::es) X.env=(false,eval e X.env)::starEach es X.env:=by rfl) (hpl:(backTo pos (starEach es X.env)).any (·.1)=false:=by rfl):PE X (.Call (.Name x p) (e::es) [] pos) (oF r t):=by
 intro pins s σ H Q I h
 refine wpAny_Call_Name_kw (HQ I hg hm hv ?_ hn hdb)
 exact PyProof.Rows.callWith_type1 (Br (ha pos pins s σ H _ I h) fun us s1 ⟨vs,H1,I1,r1,q1⟩=>hc pins s1 σ H1 vs us Q I1 r1 q1) he hpl
end
end L2
namespace L2
open PySem PySem.Spec PyProof.Rows
section
variable {κ:Type} [DecidableEq κ]
noncomputable def Bx (kvs:List (κ × V)) (k:κ):Option V:=(kvs.find? fun kv=>decide (kv.1=k)).map (·.2)
noncomputable def putK (kvs:List (κ × V)) (k:κ) (v:V):List (κ × V) :=
 if (kvs.any fun kv=>decide (kv.1=k))=true then kvs.map (fun kv=>if kv.1=k then (kv.1,v) else kv) else kvs++[(k,v)]
noncomputable def nZ (kvs:List (κ × V)) (k:κ):List (κ × V):=kvs.filter fun kv=>decide (kv.1 ≠ k)
theorem Ry {k:κ}:Bx ([]:List (κ × V)) k=none:=rfl
theorem DP {p:κ × V} {r:List (κ × V)} {k:κ} (e:p.1=k):Bx (p::r) k=some p.2:=by simp [Bx,List.find?_cons,e]
theorem Cz {p:κ × V} {r:List (κ × V)} {k:κ} (e:¬ p.1=k):Bx (p::r) k=Bx r k:=by simp [Bx,List.find?_cons,e]
theorem Fj (k:κ):∀ kvs:List (κ × V),(kvs.any fun kv=>decide (kv.1=k))=(Bx kvs k).isSome
 | []=>rfl
 | p::r=>by
  rw [List.any_cons]
  by_cases e:p.1=k
  ·simp only [DP e,decide_eq_true e,Bool.true_or,Option.isSome_some]
  ·rw [Cz e,decide_eq_false e,Bool.false_or]; exact Fj k r
theorem MK (k j:κ) (y:V):∀ kvs:List (κ × V),Bx (kvs.map fun kv=>if kv.1=k then (kv.1,y) else kv) j=(Bx kvs j).map fun x=>if j=k then y else x
 | []=>rfl
 | p::r=>by
  have ih:=MK k j y r
  rw [List.map_cons]
  by_cases h:p.1=k
  ·rw [if_pos h]
   by_cases e:p.1=j
   ·rw [DP (p:=(p.1,y)) e,DP e,Option.map_some,if_pos (e.symm.trans h)]
   ·rw [Cz (p:=(p.1,y)) e,Cz e,ih]
  ·rw [if_neg h]
   by_cases e:p.1=j
   ·rw [DP (p:=p) e,DP e,Option.map_some,if_neg (fun z=>h (e.trans z))]
   ·rw [Cz (p:=p) e,Cz e,ih]
theorem Gq (k j:κ) (y:V):∀ kvs:List (κ × V),Bx kvs k=none->Bx (kvs++[(k,y)]) j=if j=k then some y else Bx kvs j
 | [],_=>by
  by_cases e:k=j
  ·rw [if_pos e.symm]; exact DP (p:=(k,y)) e
  ·rw [if_neg (fun z=>e z.symm)]; exact Cz (p:=(k,y)) e
 | p::r,hn=>by
  rw [List.cons_append]
  have hk:¬ p.1=k:=fun z=>by rw [DP z] at hn; cases hn
  rw [Cz hk] at hn
  have ih:=Gq k j y r hn
  by_cases e:p.1=j
  ·rw [DP e,DP e,if_neg (fun z=>hk (e.trans z))]
  ·rw [Cz e,Cz e,ih]
theorem Jc (kvs:List (κ × V)) (k j:κ) (y:V):Bx (putK kvs k y) j=if j=k then some y else Bx kvs j:=by
 unfold putK
 by_cases a:(kvs.any fun kv=>decide (kv.1=k))=true
 ·rw [if_pos a,MK]
  rw [Fj] at a
  by_cases e:j=k
  ·obtain ⟨x,hx⟩:=Option.isSome_iff_exists.mp a
   rw [if_pos e,e,hx,Option.map_some,if_pos rfl]
  ·rw [if_neg e]
   cases Bx kvs j with
   | none=>rfl
   | some x=>rw [Option.map_some,if_neg e]
 ·rw [if_neg a]
  refine Gq k j y kvs ?_
  rw [Fj] at a
  cases q:Bx kvs k with
  | none=>rfl
  | some x=>rw [q] at a; exact (a rfl).elim
theorem GJ (kvs:List (κ × V)) (k:κ) (v:V):(putK kvs k v).length<=kvs.length+1:=by
 unfold putK
 split
 ·rw [List.length_map]; omega
 ·rw [List.length_append,List.length_cons,List.length_nil]; omega
theorem TV {kvs:List (κ × V)} {k:κ} (v:V) (h:Bx kvs k=none):putK kvs k v=kvs++[(k,v)]:=by
 unfold putK
 rw [Fj,h]
 exact if_neg (by decide)
theorem Fx.Ik {o:Option V} {u:Option Value} (r:Fx o u):o.isSome=u.isSome:=by
 cases o with
 | none=>cases u with
  | none=>rfl
  | some _=>exact (show False from r).elim
 | some _=>cases u with
  | none=>exact (show False from r).elim
  | some _=>rfl
theorem Fx.getD {o:Option V} {u:Option Value} {d:V} {d':Value} (r:Fx o u) (rd:RelV d d'):RelV (o.getD d) (u.getD d'):=by
 cases o with
 | none=>cases u with
  | none=>exact rd
  | some _=>exact (show False from r).elim
 | some _=>cases u with
  | none=>exact (show False from r).elim
  | some _=>exact r
theorem KV.val {kvs:List (κ × V)} {vs:List (κ × Value)} (r:KV kvs vs) (k:κ):Fx (Bx kvs k) (valueAt vs k):=by
 unfold KV at r
 induction r with
 | nil=>exact True.intro
 | @cons p q ps qs h t ih =>
  obtain ⟨h1,h2⟩:=h
  by_cases e:p.1=k
  ·have e':q.1=k:=h1.symm.trans e
   have b:valueAt (q::qs) k=some q.2:=by simp [valueAt,List.find?_cons,e']
   rw [DP e,b]; exact h2
  ·have e':¬ q.1=k:=fun z=>e (h1.trans z)
   have b:valueAt (q::qs) k=valueAt qs k:=by simp [valueAt,List.find?_cons,e']
   rw [Cz e,b]; exact ih
theorem KV.any {kvs:List (κ × V)} {vs:List (κ × Value)} (r:KV kvs vs) (k:κ):(kvs.any fun kv=>decide (kv.1=k))=vs.any fun kv=>decide (kv.1=k):=by
 unfold KV at r
 induction r with
 | nil=>rfl
 | cons h t ih=>rw [List.any_cons,List.any_cons,ih,h.1]
theorem KV.repl {kvs:List (κ × V)} {vs:List (κ × Value)} (r:KV kvs vs) (k:κ) {y:V} {u:Value} (ry:RelV y u) :
  KV (kvs.map fun kv=>if kv.1=k then (kv.1,y) else kv) (vs.map fun kv=>if kv.1=k then (kv.1,u) else kv):=by
 unfold KV at r ⊢
 induction r with
 | nil=>exact .nil
 | @cons p q ps qs h t ih =>
  rw [List.map_cons,List.map_cons]
  refine .cons ?_ ih
  obtain ⟨h1,h2⟩:=h
  by_cases e:p.1=k
  ·rw [if_pos e,if_pos (h1.symm.trans e)]; exact ⟨h1,ry⟩
  ·rw [if_neg e,if_neg (fun z=>e (h1.trans z))]; exact ⟨h1,h2⟩
theorem KV.put {kvs:List (κ × V)} {vs:List (κ × Value)} (r:KV kvs vs) (k:κ) {y:V} {u:Value} (ry:RelV y u):KV (putK kvs k y) (stored vs k u):=by
 unfold putK stored
 rw [r.any k]
 by_cases e:(vs.any fun kv=>decide (kv.1=k))=true
 ·rw [if_pos e,if_pos e]; exact r.repl k ry
 ·rw [if_neg e,if_neg e]; exact Paired.snoc r ⟨rfl,ry⟩
theorem KV.length {kvs:List (κ × V)} {vs:List (κ × Value)} (r:KV kvs vs):kvs.length=vs.length:=Paired.length r
end
theorem J4 {P:Program} {w:World} {k:Key} {u:Value} (r:RelV (kV k) u):(Bl P w).is k u=true:=by
 cases k with
 | inl i=>obtain ⟨t,e⟩:=(show ∃ t,u=Value.int i t from r); subst e; exact Lk P w i t
 | inr x=>obtain ⟨t,e⟩:=(show ∃ t,u=Value.str x t from r); subst e; exact Ml P w x t
theorem Kc {P:Program} {w:World}:∀ {ks:List Key} {us:List Value},Vals (ks.map kV) us->ItemsAre (Bl P w) ks us
 | [],_,r=>by rw [List.map_nil] at r; cases r; exact .nil
 | k::ks,_,r=>by
  rw [List.map_cons] at r
  cases r with
  | cons h t=>exact .cons (J4 h) (Kc t)
noncomputable abbrev KT (H:Hp):List (List Key × V)->List (List Key × Addr × Value)->Prop:=Paired fun p q=>p.1=q.1/\H q.2.1=some (.tup (p.1.map kV))/\RelV p.2 q.2.2
theorem KT.val {H:Hp} {kvs:List (List Key × V)} {xs:List (List Key × Addr × Value)} (r:KT H kvs xs) (k:List Key):Fx (Bx kvs k) ((atKey xs k).map (·.2)):=by
 induction r with
 | nil=>exact True.intro
 | @cons p q ps qs h t ih =>
  obtain ⟨h1,_,h2⟩:=h
  by_cases e:p.1=k
  ·have e':q.1=k:=h1.symm.trans e
   have b:atKey (q::qs) k=some q.2:=by simp [atKey,List.find?_cons,e']
   rw [DP e,b]; exact h2
  ·have e':¬ q.1=k:=fun z=>e (h1.trans z)
   have b:atKey (q::qs) k=atKey qs k:=by simp [atKey,List.find?_cons,e']
   rw [Cz e,b]; exact ih
theorem KT.repl {H:Hp} {kvs:List (List Key × V)} {xs:List (List Key × Addr × Value)} (r:KT H kvs xs) (k:List Key) {y:V} {u:Value} (ry:RelV y u) :
  KT H (kvs.map fun kv=>if kv.1=k then (kv.1,y) else kv) (xs.map (putAt k u)):=by
 induction r with
 | nil=>exact .nil
 | @cons p q ps qs h t ih =>
  rw [List.map_cons,List.map_cons]
  refine .cons ?_ ih
  obtain ⟨h1,h2,h3⟩:=h
  unfold putAt
  by_cases e:p.1=k
  ·rw [if_pos e,if_pos (h1.symm.trans e)]; exact ⟨h1,h2,ry⟩
  ·rw [if_neg e,if_neg (fun z=>e (h1.trans z))]; exact ⟨h1,h2,h3⟩
theorem KT.put {H:Hp} {kvs:List (List Key × V)} {xs:List (List Key × Addr × Value)} (r:KT H kvs xs) (k:List Key) {b:Addr} {y:V} {u:Value} (hb:H b=some (.tup (k.map kV))) (ry:RelV y u) :
  KT H (putK kvs k y) (storedH xs k b u):=by
 have e:(kvs.any fun kv=>decide (kv.1=k))=(atKey xs k).isSome:=by
  rw [Fj,(r.val k).Ik,Option.isSome_map]
 unfold putK storedH
 rw [e]
 by_cases q:(atKey xs k).isSome=true
 ·rw [if_pos q,if_pos q]; exact r.repl k ry
 ·rw [if_neg q,if_neg q]; exact Paired.snoc r ⟨rfl,hb,ry⟩
theorem KT.keeps {H H':Hp} {kvs:List (List Key × V)} {xs:List (List Key × Addr × Value)} (r:KT H kvs xs) (ht:∀ b ys,H b=some (.tup ys)->H' b=some (.tup ys)):KT H' kvs xs :=
 Paired.Jd r fun _ _ z=>⟨z.1,ht _ _ z.2.1,z.2.2⟩
section
variable {P:Program} {w:World} {H:Hp} {h:Heap} {a:Addr}
theorem WX {u:HO} (ok:Ex P w H h) (e:Rd H a u):Bq P w H h a u:=e.ok ok
theorem JT {kvs:List (Key × V)} (ok:Ex P w H h) (e:Rd H a (.dK kvs)):kvs.length<=sizeLine/\(a == sysModules)=false/\∃ vs,KV kvs vs/\h.DictOf (Bl P w) a vs :=
 show Bq P w H h a (.dK kvs) from WX ok e
theorem b_ {kvs:List (Key × V)} (ok:Ex P w H h) (e:H a=some (.dK kvs)):kvs.length<=sizeLine/\(a == sysModules)=false/\∃ vs,KV kvs vs/\h.DictOf (Bl P w) a vs:=JT ok (.inl e)
theorem IW {ks:List Key} (ok:Ex P w H h) (e:H a=some (.tup (ks.map kV))):(tupleKind (Bl P w)).is h ks a:=by
 obtain ⟨_,its,r,o,h1,h2,n,h3⟩:=(show Bq P w H h a (.tup (ks.map kV)) from ok a _ e)
 exact ⟨o,its.toArray,n,h1,h2,h3,by simpa using Kc r⟩
theorem Ji {kvs:List (List Key × V)} (ok:Ex P w H h) (e:Rd H a (.dT kvs)):kvs.length<=sizeLine/\(a == sysModules)=false /\
  ∃ xs,KT H kvs xs/\h.DictOfH (tupleKind (Bl P w)) a xs:=by
 obtain ⟨z,y,xs,r,o,es,ep,h1,h2,h3,h4,h5⟩:=(show Bq P w H h a (.dT kvs) from WX ok e)
 refine ⟨z,y,xs,r,o,es,ep,h1,h2,h3,h4,fun x hx=>?_,h5⟩
 have all:∀ {l:List (List Key × V)} {m:List (List Key × Addr × Value)},KT H l m->∀ x∈m,(tupleKind (Bl P w)).is h x.1 x.2.1:=by
  intro l m q
  induction q with
  | nil=>intro x hx; exact nomatch hx
  | @cons p q ps qs hq t ih =>
   intro x hx
   rcases List.mem_cons.mp hx with e | hx
   ·subst e
    exact IW ok (by rw [← hq.1]; exact hq.2.1)
   ·exact ih x hx
 exact all r x hx
theorem dO {kvs:List (List Key × V)} (ok:Ex P w H h) (e:H a=some (.dT kvs)):kvs.length<=sizeLine/\(a == sysModules)=false /\
  ∃ xs,KT H kvs xs/\h.DictOfH (tupleKind (Bl P w)) a xs:=Ji ok (.inl e)
end
noncomputable def En (H:Hp) (a:Addr) (y:V) (r:Option V):Prop :=
 (∃ kvs k,Rd H a (.dK kvs)/\y=kV k/\r=Bx kvs k) \/ ∃ kvs k b,Rd H a (.dT kvs)/\y=.ref b/\H b=some (.tup (k.map kV))/\r=Bx kvs k
noncomputable def Lq (H:Hp) (a:Addr) (y v:V) (H':Hp):Prop :=
 (∃ kvs k,H a=some (.dK kvs)/\y=kV k/\kvs.length<sizeLine/\H'=upd H a (.dK (putK kvs k v))) \/
 ∃ kvs k b,H a=some (.dT kvs)/\y=.ref b/\H b=some (.tup (k.map kV))/\kvs.length<sizeLine/\H'=upd H a (.dT (putK kvs k v))
theorem En.k {H:Hp} {a:Addr} {kvs:List (Key × V)} {k:Key} (e:H a=some (.dK kvs)):En H a (kV k) (Bx kvs k):=.inl ⟨kvs,k,.inl e,rfl,rfl⟩
theorem Lq.k {H:Hp} {a:Addr} {kvs:List (Key × V)} {k:Key} {v:V} (e:H a=some (.dK kvs)) (hl:kvs.length<sizeLine):Lq H a (kV k) v (upd H a (.dK (putK kvs k v))):=.inl ⟨kvs,k,e,rfl,hl,rfl⟩
section
variable {X:Cx} {pins:List (Addr × Obj)} {σ:St} {H:Hp} {s:Shared} {a:Addr} {y v:V} {u r:Value} {o:Option V} {A:Around} {E:Value->Shared->Prop}
theorem Inv.big (I:Inv X pins σ H s):sysModules<s.heap.objs.size:=by
 have h:mainGlobals<s.heap.objs.size:=(I.mod.glob.keeps I.bk).lt
 exact Nat.lt_trans (by decide) h
theorem QZ {Q:Value->Shared->Prop} (hu:A.units+1<cLine) (I:Inv X pins σ H s) (g:En H a y (some v)) (ry:RelV y u) (h:∀ w' s',Inv X pins σ H s'->RelV v w'->Q w' s') :
  wpAny (model X.prog X.w) A (getItem (.ref a) u) Q E s:=by
 rcases g with ⟨kvs,k,e,ey,l⟩ | ⟨kvs,k,b,e,ey,eb,l⟩
 ·subst ey
  obtain ⟨z,hd,vs,rel,dd⟩:=JT I.hok e
  obtain ⟨w',hw,rw'⟩:=Fx.some_of (v:=v) (o:=valueAt vs k) (by rw [l]; exact rel.val k)
  exact wpAny_getItem_of (J4 ry) dd.mapOf hw (h w' _ (I.tok _) rw')
 ·subst ey
  cases (show u=Value.ref b from ry)
  obtain ⟨z,hd,xs,rel,dd⟩:=Ji I.hok e
  obtain ⟨w',hw,rw'⟩:=Fx.some_of (v:=v) (o:=(atKey xs k).map (·.2)) (by rw [l]; exact rel.val k)
  obtain ⟨p,hp,hp2⟩:=Option.map_eq_some_iff.mp hw
  refine wpAny_getItem_heap (tupleKind_room_in1 hu) (IW I.hok eb) dd hp ?_
  rw [hp2]
  exact h w' _ (I.tok _) rw'
theorem VH {Q:Value->Shared->Prop} (hu:A.units+1<cLine) (I:Inv X pins σ H s) (g:En H a y o) (ry:RelV y u) (h:∀ s',Inv X pins σ H s'->Q (.bool (!o.isSome)) s') :
  wpAny (model X.prog X.w) A (compareOp .NotIn u (.ref a)) Q E s:=by
 rcases g with ⟨kvs,k,e,ey,l⟩ | ⟨kvs,k,b,e,ey,eb,l⟩
 ·subst ey
  obtain ⟨z,hd,vs,rel,dd⟩:=JT I.hok e
  refine wpAny_notIn_of (J4 ry) hd dd.mapOf ?_
  rw [← (rel.val k).Ik,← l]
  exact h _ (I.tok _)
 ·subst ey
  cases (show u=Value.ref b from ry)
  obtain ⟨z,hd,xs,rel,dd⟩:=Ji I.hok e
  refine wpAny_notIn_heap (tupleKind_room_in1 hu) (IW I.hok eb) hd dd ?_
  have q:=(rel.val k).Ik
  rw [Option.isSome_map] at q
  rw [← q,← l]
  exact h _ (I.tok _)
theorem OJ {h':Heap} {t':Nat} {ob:HO} (I:Inv X pins σ H s) (mu:ZG (H a)) (hs:Heap.SameBut a s.heap h') (he:∃ q,h'.get? a=some q) (new:Bq X.prog X.w (upd H a ob) h' a ob) :
  Inv X pins σ (upd H a ob) { s with heap:=h',toks:=t' } :=
 I.write (x:=a) (e:=a) mu (.inl rfl) (fun b q hb z=>(hs.2 b hb).trans z) he new
theorem X_ {P:Program} {w:World} {H':Hp} {h':Heap} {kvs:List (Key × V)} {vs:List (Key × Value)} (z:kvs.length<=sizeLine) (hd:(a == sysModules)=false) (rel:KV kvs vs) (dd:h'.DictOf (Bl P w) a vs) :
  Bq P w H' h' a (.dK kvs):=⟨z,hd,vs,rel,dd⟩
theorem Pr {H':Hp} {Q:Unit->Shared->Prop} (hu:A.units+1<cLine) (I:Inv X pins σ H s) (g:Lq H a y v H') (ry:RelV y u) (rv:RelV v r) (h:∀ s',Inv X pins σ H' s'->Q () s') :
  wpAny (model X.prog X.w) A (setItem (.ref a) u r) Q E s:=by
 rcases g with ⟨kvs,k,e,ey,l,eH⟩ | ⟨kvs,k,b,e,ey,eb,l,eH⟩
 ·subst ey eH
  obtain ⟨z,hd,vs,rel,dd⟩:=b_ I.hok e
  have hz:vs.length<=sizeLine:=by rw [← rel.length]; exact z
  have hl:(putK kvs k v).length<=sizeLine:=by have:=GJ kvs k v; omega
  refine wpAny_setItem_pairs (hsz:=hz) (J4 ry) dd fun h' dd' hs=>h _ ?_
  have he:∃ q,h'.get? a=some q:=let ⟨q,_,_,hq,_⟩:=dd'; ⟨q,hq⟩
  exact OJ I (by rw [e]; exact True.intro) hs he (X_ hl hd (rel.put k rv) dd')
 ·subst ey eH
  cases (show u=Value.ref b from ry)
  obtain ⟨z,hd,xs,rel,dd⟩:=dO I.hok e
  have hz:xs.length<=sizeLine:=by rw [← Paired.length rel]; exact z
  have hl:(putK kvs k v).length<=sizeLine:=by have:=GJ kvs k v; omega
  refine wpAny_setItem_heap (hsz:=hz) (tupleKind_room_in1 hu) (IW I.hok eb) dd fun h' dd' hs=>h _ ?_
  obtain ⟨q,es,ep,hq,h2,h3,h4,_,h5⟩:=dd'
  refine OJ I (by rw [e]; exact True.intro) hs ⟨q,hq⟩ ⟨hl,hd,_,(rel.put k eb rv).keeps fun c ys ec=>?_,q,es,ep,hq,h2,h3,h4,h5⟩
  rw [Aq (V1 ec e (fun z=>nomatch z))]
  exact ec
end
section
variable {X:Cx} {pins:List (Addr × Obj)} {σ:St} {H:Hp} {s:Shared} {a:Addr} {kvs:List (Key × V)} {k:Key} {u:Value} {A:Around} {E:Value->Shared->Prop}
end
noncomputable def Wq (i:Expr):Prop:=∀ ov iv,subscripted i false ov iv=operate [ov,iv] (getItem ov iv)
theorem Pa {prog:Program} {w:World} {A:Around} {E:Value->Shared->Prop} {s:Shared} {env:Env} {value slice:Expr} {pos:Pos} {T id:String} {Q:Value->Shared->Prop}
  (hl:typeLookup (.type T) "__getitem__" = pure (some (.builtin id))) (hs:Wq slice)
  (h:wpAny (model prog w) A (eval value env) (fun o s₁=>wpAny (model prog w) A (eval slice env) (fun i s₂=>s₂.TypeIs o T/\wpAny (model prog w) A (getItem o i) Q E s₂) E s₁) E s) :
  wpAny (model prog w) A (eval (.Subscript value slice pos) env) Q E s:=by
 refine Subscript_ (wpAny_mono h (fun o s₁ h₁=>wpAny_mono h₁ (fun i s₂ h₂=>?_) fun _ _ x=>x) fun _ _ x=>x)
 obtain ⟨hT,h₂⟩:=h₂
 unfold subscriptTail
 refine wpAny_bind ?_
 rw [getitemInPython_of_ne hT.not_modules]
 refine wpAny_bind (wpAny_specialOf hT hl ?_)
 have fin:wpAny (model prog w) A (subscripted slice false o i) (fun r s₃=>wpAny (model prog w) A (letTemporaryGo value o r >>= fun _=>pure r) Q E s₃) E s₂:=by
  rw [hs o i]
  exact wpAny_operating (wpAny_mono h₂ (fun r s₃ h₃=>wpAny_bind (wpAny_letTemporaryGo (wpAny_pure h₃))) fun _ _ x=>x)
 first
  | exact wpAny_pure (wpAny_bind fin)
  | exact wpAny_bind (wpAny_pure (wpAny_bind fin))
  | exact wpAny_bind fin
theorem Lr {X:Cx} {pins:List (Addr × Obj)} {σ:St} {H:Hp} {s:Shared} {a:Addr} {y:V} {o:Option V} (I:Inv X pins σ H s) (g:En H a y o):s.TypeIs (.ref a) "dict":=by
 rcases g with ⟨kvs,k,e,_,_⟩ | ⟨kvs,k,b,e,_,_,_⟩
 ·obtain ⟨_,_,vs,_,dd⟩:=JT I.hok e
  exact dd.typeIs
 ·obtain ⟨_,_,xs,_,dd⟩:=Ji I.hok e
  exact dd.typeIs
noncomputable def bU (td ty:TE):TE:=fun σ H Q=>td σ H fun x H1=>ty σ H1 fun y H2=>∃ a v,x=.ref a/\En H2 a y (some v)/\Q v H2
noncomputable def VN (ty td:TE):TE:=fun σ H Q=>ty σ H fun y H1=>td σ H1 fun x H2=>∃ a o,x=.ref a/\En H2 a y o/\Q (.bl (!o.isSome)) H2
noncomputable def eO (td ty tv:TE):TS:=fun D σ H=>tv σ H fun v H1=>td σ H1 fun x H2=>ty σ H2 fun y H3=>∃ a H4,x=.ref a/\Lq H3 a y v H4/\D.nx σ H4
section
variable {X:Cx} {o i e value:Expr} {pos pos' tpos:Pos} {td ty tv:TE}
theorem Fy (hu:X.A.units+1<cLine) (ho:PE X o td) (hi:PE X i ty) (hs:Wq i):PE X (.Subscript o i pos) (bU td ty):=by
 intro pins s σ H Q I h
 refine Pa PySem.F.slot_dict_getitem.lookup hs (Br (ho pins s σ H _ I h) fun u s1 ⟨x,H1,I1,rx,q1⟩=>Br (hi pins s1 σ H1 _ I1 q1) fun iv s2 hq0=>?_)
 obtain ⟨y,H2,I2,ry,a,v,ex,g,q2⟩:=hq0
 subst ex
 obtain rfl:u=Value.ref a:=rx
 exact ⟨Lr I2 g,QZ hu I2 g ry fun w' s3 I3 rw'=>⟨v,H2,I3,rw',q2⟩⟩
theorem Pb (hu:X.A.units+1<cLine) (hi:PE X i ty) (ho:PE X o td):PC X .NotIn i o (VN ty td):=by
 intro pins s σ H Q I h
 refine Br (hi pins s σ H _ I h) fun iv s1 ⟨y,H1,I1,ry,q1⟩=>Br (ho pins s1 σ H1 _ I1 q1) fun u s2 hq0=>?_
 obtain ⟨x,H2,I2,rx,a,ov,ex,g,q2⟩:=hq0
 subst ex
 obtain rfl:u=Value.ref a:=rx
 exact VH hu I2 g ry fun s3 I3=>⟨.bl (!ov.isSome),H2,I3,rfl,q2⟩
theorem JK (hu:X.A.units+1<cLine) (ho:PE X o td) (hi:PE X i ty) (hv:PE X value tv) (hs:swapsWith value (some (.Subscript o i pos')) pos.line X.env=pure false) :
  PS X (.Assign [.Subscript o i pos'] value pos) (eO td ty tv):=by
 intro pins s σ H D I h
 refine wpAny_Assign_Subscript (Br (hv pins s σ H _ I h) fun r s1 ⟨v,H1,I1,rv,q1⟩=>Br (ho pins s1 σ H1 _ I1 q1) fun u s2 ⟨x,H2,I2,rx,q2⟩=>Br (hi pins s2 σ H2 _ I2 q2) fun iv s3 ⟨y,H3,I3,ry,a,H4,ex,g,q3⟩=>?_) hs
 subst ex
 obtain rfl:u=Value.ref a:=rx
 exact Pr hu I3 g ry rv fun s4 I4=>⟨σ,H4,I4,q3⟩
end
theorem SM {P:Program} {w:World} {H:Hp} (h:Heap) (hb:sysModules<h.objs.size):Bq P w H (h.push { cls:=.type "dict",data:=.dict #[] }) h.objs.size (.dK []) :=
 ⟨Nat.zero_le _,beq_eq_false_iff_ne.mpr (Ne.symm (Nat.ne_of_lt hb)),[],.nil,Heap.DictOf.new h⟩
noncomputable def Wh:TE:=fun _ H Q=>∀ p,H p=none->Q (.ref p) (upd H p (.dK []))
section
variable {X:Cx} {pos:Pos}
theorem Ht:PE X (.Dict [] [] pos) Wh:=fun pins s σ H Q I h =>
 wpAny_Dict_empty ⟨.ref s.heap.objs.size,_,I.laid (a:=s.heap.objs.size) (o:=.dK []) (t':=s.toks) (fun _ _ q=>Heap.get?_push_of_some _ q) (Nat.le_refl _) (SM s.heap I.big),rfl,h _ (I.hok.fresh (Nat.le_refl _))⟩
end
noncomputable def m_ (kvs more:List (Key × V)):List (Key × V):=more.foldl (fun acc kv=>putK acc kv.1 kv.2) kvs
structure M1 (X:Cx) (o:Expr) (m:Str) (apos:Pos) (e:Expr) (cpos:Pos):Prop where
 base:attributeBase o m X.env (eval o X.env)=eval o X.env
 few:((backTo cpos (starEach [e] X.env)).all (fun x=>!x.1) && (backToKw cpos (keywordEach [] X.env)).all (fun x=>x.1.isSome)
  && decide (([e]:List Expr).length+([]:List Keyword).length+(if ([]:List Keyword).isEmpty then 0 else 1)<30))=true
 line:(apos.endLine == cpos.line)=true
 trees:backTo cpos (starEach [e] X.env)=[(false,eval e X.env)]
structure M2 (X:Cx) (o:Expr) (m:Str) (apos:Pos) (e f:Expr) (cpos:Pos):Prop where
 base:attributeBase o m X.env (eval o X.env)=eval o X.env
 few:((backTo cpos (starEach [e,f] X.env)).all (fun x=>!x.1) && (backToKw cpos (keywordEach [] X.env)).all (fun x=>x.1.isSome)
  && decide (([e,f]:List Expr).length+([]:List Keyword).length+(if ([]:List Keyword).isEmpty then 0 else 1)<30))=true
 line:(apos.endLine == cpos.line)=true
 trees:backTo cpos (starEach [e,f] X.env)=[(false,eval e X.env),(false,eval f X.env)]
noncomputable def gr (H:Hp) (a:Addr):Prop:=(∃ kvs,Rd H a (.dK kvs)) \/ ∃ kvs,Rd H a (.dT kvs)
theorem My {X:Cx} {pins:List (Addr × Obj)} {σ:St} {H:Hp} {s:Shared} {a:Addr} (I:Inv X pins σ H s) (d:gr H a) :
  s.TypeIs (.ref a) "dict" /\ (∀ b,Value.ref a=.ref b->∃ ob,s.heap.get? b=some ob/\ob.dict=none)/\(a == sysModules)=false:=by
 rcases d with ⟨kvs,e⟩ | ⟨kvs,e⟩
 ·obtain ⟨_,hd,vs,_,dd⟩:=JT I.hok e
  refine ⟨dd.typeIs,fun b q=>?_,hd⟩
  cases q
  obtain ⟨ob,_,_,h1,h2,_⟩:=dd
  exact ⟨ob,h1,h2.2.1⟩
 ·obtain ⟨_,hd,xs,_,dd⟩:=Ji I.hok e
  refine ⟨dd.typeIs,fun b q=>?_,hd⟩
  cases q
  obtain ⟨ob,_,_,h1,h2,_⟩:=dd
  exact ⟨ob,h1,h2.2.1⟩
section
variable {X:Cx} {pins:List (Addr × Obj)} {σ:St} {H:Hp} {s:Shared} {a:Addr} {y d:V} {u r:Value} {o:Option V} {A:Around} {E:Value->Shared->Prop}
theorem Xd {Q:Value->Shared->Prop} (hu:A.units+1<cLine) (I:Inv X pins σ H s) (g:En H a y o) (ry:RelV y u) (h:∀ w' s',Inv X pins σ H s'->RelV (o.getD .non) w'->Q w' s') :
  wpAny (model X.prog X.w) A (call (.builtin "dict.get") [.ref a,u]) Q E s:=by
 rcases g with ⟨kvs,k,e,ey,l⟩ | ⟨kvs,k,b,e,ey,eb,l⟩
 ·subst ey
  obtain ⟨z,hd,vs,rel,dd⟩:=JT I.hok e
  refine call_meetsIn PySem.F.slot_dict_get dd.typeIs PySem.F.entry_dict_get (PySem.F.args_dict_get_2 _ _) (meets_dict_get (Bl X.prog X.w) a (J4 ry) hd) ⟨_,dd.mapOf,h _ _ (I.tok _) ?_⟩
  rw [l]
  exact (rel.val k).getD rfl
 ·subst ey
  cases (show u=Value.ref b from ry)
  obtain ⟨z,hd,xs,rel,dd⟩:=Ji I.hok e
  refine call_meetsIn PySem.F.slot_dict_get dd.typeIs PySem.F.entry_dict_get (PySem.F.args_dict_get_2 _ _) (meetsH_dict_get (tupleKind (Bl X.prog X.w)) a b hd) ⟨tupleKind_room_in1 hu,k,xs,IW I.hok eb,dd,h _ _ (I.tok _) ?_⟩
  rw [l]
  exact (rel.val k).getD rfl
theorem Wo {Q:Value->Shared->Prop} (hu:A.units+1<cLine) (I:Inv X pins σ H s) (g:En H a y o) (ry:RelV y u) (rd:RelV d r) (h:∀ w' s',Inv X pins σ H s'->RelV (o.getD d) w'->Q w' s') :
  wpAny (model X.prog X.w) A (call (.builtin "dict.get") [.ref a,u,r]) Q E s:=by
 rcases g with ⟨kvs,k,e,ey,l⟩ | ⟨kvs,k,b,e,ey,eb,l⟩
 ·subst ey
  obtain ⟨z,hd,vs,rel,dd⟩:=JT I.hok e
  refine call_meetsIn PySem.F.slot_dict_get dd.typeIs PySem.F.entry_dict_get (PySem.F.args_dict_get_3 _ _ _) (meets_dict_get_default (Bl X.prog X.w) a (J4 ry) hd r) ⟨_,dd.mapOf,h _ _ (I.tok _) ?_⟩
  rw [l]
  exact (rel.val k).getD rd
 ·subst ey
  cases (show u=Value.ref b from ry)
  obtain ⟨z,hd,xs,rel,dd⟩:=Ji I.hok e
  refine call_meetsIn PySem.F.slot_dict_get dd.typeIs PySem.F.entry_dict_get (PySem.F.args_dict_get_3 _ _ _) (meetsH_dict_get_default (tupleKind (Bl X.prog X.w)) a b hd r) ⟨tupleKind_room_in1 hu,k,xs,IW I.hok eb,dd,h _ _ (I.tok _) ?_⟩
  rw [l]
  exact (rel.val k).getD rd
end
noncomputable def W6 (td ty:TE):TE:=fun σ H Q=>td σ H fun x H1=>∃ a,x=.ref a/\gr H1 a/\ty σ H1 fun y H2=>∃ o,En H2 a y o/\Q (o.getD .non) H2
noncomputable def X8 (td ty tx:TE):TE:=fun σ H Q=>td σ H fun x H1=>∃ a,x=.ref a/\gr H1 a/\ty σ H1 fun y H2=>tx σ H2 fun z H3=>∃ o,En H3 a y o/\Q (o.getD z) H3
section
variable {X:Cx} {o e f:Expr} {apos cpos:Pos} {td ty tx:TE}
theorem Rp (hu:X.A.units+1<cLine) (ho:PE X o td) (he:PE X e ty) (m:M1 X o "get" apos e cpos):PE X (.Call (.Attribute o "get" apos) [e] [] cpos) (W6 td ty):=by
 intro pins s σ H Q I h
 refine wpAny_Call_method m.base m.few m.line PySem.F.plainAttrs_dict PySem.F.slot_dict_get PySem.F.type_dict_get (Br (ho pins s σ H _ I h) fun u s1 hq0=>?_)
 obtain ⟨x,H1,I1,rx,a,ex,d,q1⟩:=hq0
 subst ex
 obtain rfl:u=Value.ref a:=rx
 obtain ⟨t1,t2,_⟩:=My I1 d
 refine ⟨t1,t2,?_⟩
 rw [m.trees]
 refine Calls.callWith_builtin rfl (Calls.evalArgs_plain (Calls.spliced_cons (Br (he pins s1 σ H1 _ I1 q1) fun iv s2 ⟨y,H2,I2,ry,ov,g,q2⟩=>Calls.spliced_nil ?_)))
 exact Xd hu I2 g ry fun w' s3 I3 rw'=>⟨_,H2,I3,rw',q2⟩
theorem Mp (hu:X.A.units+1<cLine) (ho:PE X o td) (he:PE X e ty) (hf:PE X f tx) (m:M2 X o "get" apos e f cpos):PE X (.Call (.Attribute o "get" apos) [e,f] [] cpos) (X8 td ty tx):=by
 intro pins s σ H Q I h
 refine wpAny_Call_method m.base m.few m.line PySem.F.plainAttrs_dict PySem.F.slot_dict_get PySem.F.type_dict_get (Br (ho pins s σ H _ I h) fun u s1 hq0=>?_)
 obtain ⟨x,H1,I1,rx,a,ex,d,q1⟩:=hq0
 subst ex
 obtain rfl:u=Value.ref a:=rx
 obtain ⟨t1,t2,_⟩:=My I1 d
 refine ⟨t1,t2,?_⟩
 rw [m.trees]
 refine Calls.callWith_builtin rfl (Calls.evalArgs_plain (Calls.spliced_cons (Br (he pins s1 σ H1 _ I1 q1) fun iv s2 ⟨y,H2,I2,ry,q2⟩ =>
  Calls.spliced_cons (Br (hf pins s2 σ H2 _ I2 q2) fun fv s3 ⟨z,H3,I3,rz,ov,g,q3⟩=>Calls.spliced_nil ?_))))
 exact Wo hu I3 g ry rz fun w' s4 I4 rw'=>⟨_,H3,I4,rw',q3⟩
end
section
variable {X:Cx} {pins:List (Addr × Obj)} {σ:St} {H:Hp} {s:Shared} {a:Addr} {kvs:List (Key × V)} {A:Around} {E:Value->Shared->Prop}
end
section
variable {X:Cx} {pins:List (Addr × Obj)} {σ:St} {H:Hp} {s:Shared} {a:Addr} {y:V} {u:Value} {A:Around} {E:Value->Shared->Prop}
end
end L2
namespace HT
open PySem PyProof.Rows
section
open PySem.SeqAt
open PySem.AutoSeq1 (wpAny_loadPart')
open PySem.MeetsSeq PySem.MeetsSeq2 PySem.MeetsSeq3
end
section
variable {prog:Program} {w:World} {A:Around} {E:Value->Shared->Prop} {s:Shared}
noncomputable def Dg (n d:Nat):Option Int->Nat
 | none=>d
 | some v=>if v<0 then (v+(n:Int)).toNat else min v.toNat n
theorem Jo (n d:Nat):Dg n d none=d:=rfl
theorem Gp (n d k:Nat):Dg n d (some (k:Int))=min k n:=by
 show (if (k:Int)<0 then ((k:Int)+(n:Int)).toNat else min (k:Int).toNat n)=min k n
 rw [if_neg (by omega),Int.toNat_natCast]
theorem W3 (n d:Nat) (hd:d<=n) (o:Option Int):Dg n d o<=n:=by
 cases o with
 | none=>exact hd
 | some v =>
  show (if v<0 then (v+(n:Int)).toNat else min v.toNat n)<=n
  by_cases hv:v<0
  ·rw [if_pos hv]; omega
  ·rw [if_neg hv]; exact Nat.min_le_right _ _
theorem O4 (v:Int) (n d:Nat):(if v<0 then max (v+(n:Int)) 0 else min v (n:Int))=((Dg n d (some v):Nat):Int):=by
 show (if v<0 then max (v+(n:Int)) 0 else min v (n:Int))=(((if v<0 then (v+(n:Int)).toNat else min v.toNat n):Nat):Int)
 by_cases hv:v<0
 ·simp only [if_pos hv]; omega
 ·simp only [if_neg hv]; omega
theorem Nb (lo hi:Option Int) (n:Nat):Builtin.Slice.sliceAdjust lo hi 1 (n:Int)=(((Dg n 0 lo:Nat):Int),((Dg n n hi:Nat):Int)):=by
 have h1:¬ ((1:Int)<0):=by omega
 unfold Builtin.Slice.sliceAdjust
 simp only [h1,if_false]
 refine Prod.ext ?_ ?_
 ·cases lo with
  | none=>rfl
  | some v=>exact O4 v n 0
 ·cases hi with
  | none=>rfl
  | some v=>exact O4 v n n
theorem Nm (i j:Nat):Builtin.Slice.slicePlaces (i:Int) (j:Int) 1=j - i:=by
 unfold Builtin.Slice.slicePlaces
 have h1:(1:Int) > 0:=by omega
 simp only [h1,if_true,Int.ediv_one]
 split <;> omega
theorem JQ {v:Value} {o:Option Int} {Q:Option Int->Shared->Prop} (p:IsPart v o) (h:Q o s):wpAny (model prog w) A (Builtin.Slice.slicePartIndex v) Q E s:=by
 cases p with
 | none=>exact slicePart_none h
 | int i t=>exact slicePart_int h
theorem Hz {sl:Addr} {vl vu:Value} {lo hi:Option Int} {n:Nat} {Q:Int × Int × Nat->Shared->Prop} (hs:s.heap.IsSliceOf sl vl vu .none) (pl:IsPart vl lo) (pu:IsPart vu hi)
  (h:Q (((Dg n 0 lo:Nat):Int),1,Dg n n hi - Dg n 0 lo) s):wpAny (model prog w) A (Builtin.Slice.sliceApplied (.ref sl) (pure (n:Int))) Q E s:=by
 obtain ⟨os,hos,hcs,hds⟩:=id hs
 unfold Builtin.Slice.sliceApplied Builtin.Slice.sliceFields
 refine wpAny_bind (wpAny_bind (wpAny_field hos hds (x:=vl) rfl (wpAny_bind (wpAny_field hos hds (x:=vu) rfl (wpAny_bind (wpAny_field hos hds (x:=.none) rfl (wpAny_pure ?_)))))))
 refine wpAny_bind (slicePart_none ?_)
 show wpAny _ _ (if ((1:Int) == 0)=true then _ else _) _ _ s
 rw [if_neg (by decide)]
 refine wpAny_bind (JQ pl (wpAny_bind (JQ pu (wpAny_bind (wpAny_pure ?_)))))
 show wpAny _ _ (match Builtin.Slice.sliceAdjust lo hi 1 (n:Int) with | (lo,hi)=>pure (lo,(1:Int),Builtin.Slice.slicePlaces lo hi 1)) _ _ s
 rw [Nb lo hi n]
 show wpAny _ _ (pure (((Dg n 0 lo:Nat):Int),(1:Int),Builtin.Slice.slicePlaces ((Dg n 0 lo:Nat):Int) ((Dg n n hi:Nat):Int) 1)) _ _ s
 rw [Nm]
 exact wpAny_pure h
theorem Ri (xs:Array Value) (i k:Nat):((List.range k).filterMap fun (m:Nat)=>xs[((i:Int)+(m:Int) * 1).toNat]?).toArray=((xs.toList.drop i).take k).toArray:=by
 have e:(fun (m:Nat)=>xs[((i:Int)+(m:Int) * 1).toNat]?)=fun m=>xs[i+m]?:=by
  funext m
  have:((i:Int)+(m:Int) * 1).toNat=i+m:=by omega
  rw [this]
 rw [e]
 have:=pick_run xs i k
 rw [List.filterMap_map] at this
 have e2:((fun x=>xs[x]?) ∘ fun x=>i+x)=fun m=>xs[i+m]?:=rfl
 rw [e2] at this
 rw [this]
theorem Hh {t sl:Addr} {items:Array Value} {vl vu:Value} {lo hi:Option Int} {Q:Value->Shared->Prop} (ht:IsTup s.heap t items) (hs:s.heap.IsSliceOf sl vl vu .none) (pl:IsPart vl lo) (pu:IsPart vu hi)
  (hw:¬ (Dg items.size 0 lo=0/\Dg items.size items.size hi=items.size))
  (h:Q (.ref s.heap.objs.size) { s with heap:=s.heap.push { cls:=.type "tuple",data:=.seq ((items.toList.drop (Dg items.size 0 lo)).take (Dg items.size items.size hi - Dg items.size 0 lo)).toArray } })
  (hsz:items.size<=sizeLine):wpAny (model prog w) A (getItem (.ref t) (.ref sl)) Q E s:=by
 have htake:sizeOk (.seq ((items.toList.drop (Dg items.size 0 lo)).take (Dg items.size items.size hi - Dg items.size 0 lo)).toArray):=by
  show ((items.toList.drop (Dg items.size 0 lo)).take (Dg items.size items.size hi - Dg items.size 0 lo)).toArray.size<=sizeLine
  rw [List.size_toArray,List.length_take,List.length_drop,Array.length_toList]
  omega
 have hj:Dg items.size items.size hi<=items.size:=W3 _ _ (Nat.le_refl _) hi
 obtain ⟨os,hos,hcs,hds⟩:=id hs
 have hTs:s.TypeIs (.ref sl) "slice":=⟨os,hos,hcs⟩
 unfold getItem
 try with_reducible refine wpAny_holding ?_
 first | refine wpAny_bind (wpAny_pure ?_) | skip
 refine wpAny_bind (wpAny_sequenceKey ht.typeIs (by decide) ?_)
 refine wpAny_bind (wpAny_callSpecial?_slot (name:=Str.ofString "__getitem__") ht.typeIs PyProof.Rows.slot_tuple_getitem
  (wpAny_call_entry PyProof.Rows.slot_tuple_getitem ht.typeIs entry_tuple_getitem ?_ (args_tuple_getitem _ _)))
 show wpAny _ _ (Builtin.Tuple.tupleItemsOf (.ref t) >>= _) _ _ s
 refine wpAny_bind (tupleItemsOf_ ht ?_)
 refine wpAny_bind (wpAny_typeOf hTs ?_)
 rw [if_pos (by decide)]
 refine wpAny_bind (Hz hs pl pu ?_)
 have hno:¬ ((((Dg items.size 0 lo:Nat):Int) == 0 && (1:Int) == 1 && (Dg items.size items.size hi - Dg items.size 0 lo) == items.size)=true):=by
  intro q
  rw [Bool.and_eq_true,Bool.and_eq_true] at q
  have q1:((Dg items.size 0 lo:Nat):Int)=0:=eq_of_beq q.1.1
  have q2:Dg items.size items.size hi - Dg items.size 0 lo=items.size:=eq_of_beq q.2
  exact hw ⟨by omega,by omega⟩
 show wpAny _ _ (if (((Dg items.size 0 lo:Nat):Int) == 0 && (1:Int) == 1 && (Dg items.size items.size hi - Dg items.size 0 lo) == items.size)=true then _ else _) _ _ s
 rw [if_neg hno,Ri]
 first
  | exact wpAny_bind (m:=Builtin.Tuple.tupleExact _) (wpAny_newObj_type (wpAny_pure ⟨_,rfl,wpAny_pure h⟩) htake)
  | exact wpAny_bind (m:=Builtin.Tuple.tupleExact _) (wpAny_newObj_type (wpAny_bind (wpAny_pure (wpAny_pure ⟨_,rfl,wpAny_pure h⟩))) htake)
  | exact wpAny_bind (wpAny_bind (m:=Builtin.Tuple.tupleExact _) (wpAny_newObj_type (wpAny_pure (wpAny_pure ⟨_,rfl,wpAny_pure h⟩)) htake))
  | exact wpAny_bind (wpAny_bind (m:=Builtin.Tuple.tupleExact _) (wpAny_newObj_type (wpAny_pure ⟨_,rfl,wpAny_pure h⟩) htake))
end
end HT
namespace L2
open PySem PySem.Spec PyProof.Rows
noncomputable abbrev TO:=St->Hp->(Option Int->Hp->Prop)->Prop
noncomputable def PO (X:Cx) (e:Option Expr) (t:TO):Prop :=
 ∀ (pins:List (Addr × Obj)) (s:Shared) (σ:St) (H:Hp) (Q:Option Int->Hp->Prop),Inv X pins σ H s->t σ H Q ->
  wpAny (model X.prog X.w) X.A (evalPart e X.env) (fun u s'=>∃ o H',Inv X pins σ H' s'/\IsPart u o/\Q o H') X.xe s
noncomputable def Uw:TO:=fun _ H Q=>Q none H
noncomputable def az (t:TE):TO:=fun σ H Q=>t σ H fun x H1=>∃ i,x=.int i/\Q (some i) H1
section
variable {X:Cx} {e:Expr} {te:TE} {lo hi:Option Expr} {tl th:TO} {pos p2:Pos}
theorem Ej:PO X none Uw:=by
 intro pins s σ H Q I h
 rw [evalPart_none]
 exact wpAny_pure ⟨none,H,I,.none,h⟩
theorem Eg (h:PE X e te):PO X (some e) (az te):=by
 intro pins s σ H Q I hw
 rw [evalPart_some]
 refine Br (h pins s σ H _ I hw) fun u s1 hq0=>?_
 obtain ⟨x,H1,I1,r1,q1⟩:=hq0
 obtain ⟨i,rfl,q⟩:=q1
 obtain ⟨t,rfl⟩:=r1
 exact ⟨some i,H1,I1,.int i t,q⟩
noncomputable def jx (X:Cx) (r:V->Option Int->Option Int->Hp->VK->Prop):Prop :=
 ∀ (pins:List (Addr × Obj)) (s:Shared) (σ:St) (H:Hp) (x:V) (v vl vu:Value) (lo hi:Option Int) (sl:Addr) (Q:VK),Inv X pins σ H s->RelV x v->s.heap.IsSliceOf sl vl vu .none->IsPart vl lo->IsPart vu hi->r x lo hi H Q ->
  ∃ T id,typeLookup (.type T) "__getitem__" = pure (some (.builtin id))/\s.TypeIs v T/\wpAny (model X.prog X.w) X.A (getItem v (.ref sl)) (EP X pins σ Q) X.xe s
noncomputable def o8 (r:V->Option Int->Option Int->Hp->VK->Prop) (te:TE) (tl th:TO):TE:=fun σ H Q=>te σ H fun x H1=>tl σ H1 fun l H2=>th σ H2 fun u H3=>r x l u H3 Q
theorem Di {r:V->Option Int->Option Int->Hp->VK->Prop} (hr:jx X r) (he:PE X e te) (hl:PO X lo tl) (hu:PO X hi th):PE X (.Subscript e (.Slice lo hi none p2) pos) (o8 r te tl th):=by
 intro pins s σ H Q I h
 refine Subscript_ (Br (he pins s σ H _ I h) fun v s1 hq0=>?_)
 obtain ⟨x,H1,I1,r1,q1⟩:=hq0
 refine wpAny_Slice (Br (hl pins s1 σ H1 _ I1 q1) fun vl s2 ⟨l,H2,I2,pl,q2⟩=>Br (hu pins s2 σ H2 _ I2 q2) fun vu s3 hq0=>?_)
 obtain ⟨u,H3,I3,pu,q3⟩:=hq0
 rw [evalPart_none]
 refine wpAny_pure ?_
 have I4:Inv X pins σ H3 { s3 with heap:=s3.heap.push { cls:=.type "slice",data:=.fields #[vl,vu,.none] } }:=I3.kept (t':=s3.toks) fun b ob q=>Heap.get?_push_of_some _ q
 obtain ⟨T,id,hT,ht,hg⟩:=hr pins { s3 with heap:=s3.heap.push { cls:=.type "slice",data:=.fields #[vl,vu,.none] } } σ H3 x v vl vu l u s3.heap.objs.size Q I4 r1 (Heap.IsSliceOf.new ..) pl pu q3
 show wpAny (model X.prog X.w) X.A (subscriptTail e (.Slice lo hi none p2) v (.ref s3.heap.objs.size)) (EP X pins σ Q) X.xe { s3 with heap:=s3.heap.push { cls:=.type "slice",data:=.fields #[vl,vu,.none] } }
 exact tail_any (ops:=[.ref s3.heap.objs.size,v]) ht hT hg (by with_unfolding_all rfl)
noncomputable def Dq (xs:List V) (lo hi:Option Int):List V:=(xs.drop (HT.Dg xs.length 0 lo)).take (HT.Dg xs.length xs.length hi - HT.Dg xs.length 0 lo)
theorem Iv (xs:List V) (lo hi:Option Int):(Dq xs lo hi).length<=xs.length:=by
 unfold Dq
 rw [List.length_take,List.length_drop]
 omega
noncomputable def jL (K:PySem.W.Frag):V->Option Int->Option Int->Hp->VK->Prop:=fun x lo hi H Q=>∃ a xs,x=.ref a/\GD K H a xs /\
 ¬ (HT.Dg xs.length 0 lo=0/\HT.Dg xs.length xs.length hi=xs.length)/\∀ p,H p=none->Q (.ref p) (upd H p (.tup (Dq xs lo hi)))
theorem Mz:jx X (jL X.K):=by
 intro pins s σ H x v vl vu lo hi sl Q I rx hs pl pu h
 obtain ⟨a,xs,rfl,hx,hw,q⟩:=h
 cases rx
 obtain ⟨its,r,ht,hz⟩:=I.tuple hx
 have hlen:its.toArray.size=xs.length:=by rw [List.size_toArray]; exact r.length.symm
 refine ⟨"tuple",_,PyProof.Rows.slot_tuple_getitem.lookup,ht.typeIs,?_⟩
 refine HT.Hh ht hs pl pu (by rw [hlen]; exact hw) ?_ (by rw [hlen]; exact hz)
 rw [hlen]
 refine ⟨.ref s.heap.objs.size,_,I.laid (t':=s.toks) (o:=.tup (Dq xs lo hi)) (fun b ob q=>Heap.get?_push_of_some _ q) (Nat.le_refl _) ?_,rfl,q _ (I.hok.fresh (Nat.le_refl _))⟩
 exact ⟨Nat.le_trans (Iv xs lo hi) hz,_,(r.drop (HT.Dg xs.length 0 lo)).take (HT.Dg xs.length xs.length hi - HT.Dg xs.length 0 lo),IsTup.new _ _⟩
end
end L2
namespace L2
open PySem PySem.Spec PyProof.Rows
noncomputable def Xo (n:Nat) (i:Int):Option Nat:=if 0<=i then (if i<n then some i.toNat else none) else if -(n:Int)<=i then some (i+n).toNat else none
noncomputable def Ud {α:Type} (xs:List α) (i:Int):Option α:=(Xo xs.length i).bind fun j=>xs[j]?
theorem Ul {n:Nat} {i:Int} {j:Nat} (h:Xo n i=some j):seqIndex? i n=some j/\j<n /\ -(n:Int)<=i/\i<n:=by
 unfold Xo at h
 by_cases h0:0<=i
 ·rw [if_pos h0] at h
  by_cases h1:i<n
  ·rw [if_pos h1] at h
   have e:i.toNat=j:=Option.some.inj h
   exact ⟨by rw [seqIndex_of h0 h1,e],by omega,by omega,h1⟩
  ·rw [if_neg h1] at h; cases h
 ·rw [if_neg h0] at h
  by_cases h1 : -(n:Int)<=i
  ·rw [if_pos h1] at h
   have e:(i+n).toNat=j:=Option.some.inj h
   exact ⟨by rw [seqIndex_neg (by omega) h1,e],by omega,h1,by omega⟩
  ·rw [if_neg h1] at h; cases h
theorem Kz {α:Type} {xs:List α} {i:Int} {v:α} (h:Ud xs i=some v):∃ j,seqIndex? i xs.length=some j/\xs[j]? = some v/\j<xs.length /\ -(xs.length:Int)<=i/\i<xs.length:=by
 unfold Ud at h
 cases e:Xo xs.length i with
 | none=>rw [e] at h; cases h
 | some j =>
  rw [e] at h
  obtain ⟨h1,h2,h3,h4⟩:=Ul e
  exact ⟨j,h1,h,h2,h3,h4⟩
theorem Aj {α:Type} {xs:List α} {j:Nat} {v:α} (h:xs[j]? = some v):Ud xs (j:Int)=some v:=by
 have hj:j<xs.length:=(List.getElem?_eq_some_iff.mp h).1
 have e:Xo xs.length (j:Int)=some j:=by
  unfold Xo
  rw [if_pos (by omega),if_pos (by omega)]; simp
 unfold Ud; rw [e]; exact h
noncomputable def VG (b:Expr):Prop:=∀ o i,subscripted b false o i=operate [o,i] (getItem o i)
noncomputable def YL (X:Cx) (r:R2):Prop :=
 ∀ (value slice:Expr) (pins:List (Addr × Obj)) (s:Shared) (σ:St) (H:Hp) (x y:V) (v u:Value) (Q:VK),Inv X pins σ H s->RelV x v->RelV y u->r x y H Q ->
  subscripted slice false v u=operate [v,u] (getItem v u)->wpAny (model X.prog X.w) X.A (subscriptTail value slice v u) (EP X pins σ Q) X.xe s
noncomputable def nO (X:Cx) (id:String) (r:V->List V->Hp->VK->Prop):Prop :=
 ∀ (pins:List (Addr × Obj)) (s:Shared) (σ:St) (H:Hp) (x:V) (xs:List V) (v:Value) (us:List Value) (Q:VK),Inv X pins σ H s->RelV x v->Vals xs us->r x xs H Q ->
  wpAny (model X.prog X.w) X.A (call (.builtin id) (v::us)) (EP X pins σ Q) X.xe s
section
variable {X:Cx} {a b:Expr} {ta tb:TE} {pos:Pos}
theorem Ay {r:R2} (hr:YL X r) (ha:PE X a ta) (hb:PE X b tb) (hs:VG b):PE X (.Subscript a b pos) (YT r ta tb):=by
 intro pins s σ H Q I h
 exact Subscript_ (Xr ha hb I h fun v u s2 x y H2 I2 rx ry q=>hr a b pins s2 σ H2 x y v u Q I2 rx ry q (hs _ _))
noncomputable def cD (K:PySem.W.Frag):R2:=fun x y H Q=>∃ p xs i v,x=.ref p/\y=.int i/\Cu K H p xs/\Ud xs i=some v/\Q v H
noncomputable def Z8 (K:PySem.W.Frag):R2:=fun x y H Q=>∃ p xs i v,x=.ref p/\y=.int i/\GD K H p xs/\Ud xs i=some v/\Q v H
noncomputable def jJ:R2:=fun x y H Q=>∃ z i c,x=.str z/\y=.int i/\z.length<=sizeLine/\Ud z.cps.toList i=some c/\Q (.str ⟨#[c]⟩) H
theorem DQ:YL X (cD X.K):=by
 intro value slice pins s σ H x y v u Q I rx ry h hs
 obtain ⟨p,xs,i,z,rfl,rfl,hq,he,q⟩:=h
 cases rx
 obtain ⟨t,rfl⟩:=ry
 obtain ⟨its,r,pl,hz⟩:=I.list hq
 obtain ⟨j,h1,h2,h3,h4,h5⟩:=Kz he
 obtain ⟨w,ew,rw'⟩:=r.get h2
 have hl:=r.length
 have hn:=Ih
 have fin:EP X pins σ Q w s:=⟨z,H,I,rw',q⟩
 by_cases h0:0<=i
 ·have hj:i.toNat=j:=by
   rw [seqIndex_of h0 h5] at h1
   exact Option.some.inj h1
  exact item_listR pl.isList h0 (by omega) (by rw [hj]; simpa using ew) fin hs
 ·have hj:(i+(its.toArray.size:Int)).toNat=j:=by
   rw [seqIndex_neg (by omega) h4] at h1
   rw [List.size_toArray,← hl]
   exact Option.some.inj h1
  exact subscriptTail_builtinR (x:=w) pl.isList.typeIs slot_list_getitem.lookup
   (wpAny_getItem_list_neg (Q:=fun r s'=>r=w/\EP X pins σ Q r s') pl.isList (by omega) (by rw [List.size_toArray] <;> omega) (by omega) (by rw [hj]; simpa using ew) ⟨rfl,fin⟩) hs
theorem Xc:YL X (Z8 X.K):=by
 intro value slice pins s σ H x y v u Q I rx ry h hs
 obtain ⟨p,xs,i,z,rfl,rfl,hq,he,q⟩:=h
 cases rx
 obtain ⟨t,rfl⟩:=ry
 obtain ⟨its,r,pl,hz⟩:=I.tuple hq
 obtain ⟨j,h1,h2,h3,h4,h5⟩:=Kz he
 obtain ⟨w,ew,rw'⟩:=r.get h2
 have hl:=r.length
 have hn:=Ih
 have fin:EP X pins σ Q w s:=⟨z,H,I,rw',q⟩
 exact subscriptTail_builtinR (x:=w) pl.typeIs slot_tuple_getitem.lookup
  (getItem_tuple (j:=j) (Q:=fun r s'=>r=w/\EP X pins σ Q r s') pl (by omega) (by omega) (by rw [List.size_toArray,← hl]; exact h1) (by simpa using ew) ⟨rfl,fin⟩) hs
theorem Qw:YL X jJ:=by
 intro value slice pins s σ H x y v u Q I rx ry h hs
 obtain ⟨z,i,c,rfl,rfl,hz,he,q⟩:=h
 obtain ⟨t,rfl⟩:=rx
 obtain ⟨t',rfl⟩:=ry
 obtain ⟨j,h1,h2,h3,h4,h5⟩:=Kz he
 have hl:z.cps.toList.length=z.length:=by simp [Str.length]
 rw [hl] at h1 h4 h5
 have hn:=Ih
 exact tail_any (typeIs_str s z t) slot_str_getitem.lookup (getItem_str (c:=c) (by
  have e1:decide (i < -(2 ^ 63:Int))=false:=decide_eq_false (by omega)
  have e2:decide (i ≥ 2 ^ 63)=false:=decide_eq_false (by omega)
  rw [e1,e2,Bool.or_false]) (by rw [h1]; simpa using h2) ⟨.str ⟨#[c]⟩,H,I.tok _,⟨_,rfl⟩,q⟩) hs
theorem Kw (lo hi:Option Int) (n:Nat):(sliceBounds lo hi none n).1=((HT.Dg n 0 lo:Nat):Int)/\(sliceBounds lo hi none n).2.1=((HT.Dg n n hi:Nat):Int)/\(sliceBounds lo hi none n).2.2=1:=by
 refine ⟨?_,?_,rfl⟩
 ·cases lo with
  | none=>simp [sliceBounds,HT.Dg]
  | some i =>
   simp only [sliceBounds,HT.Dg,Option.getD_none,show (1:Int) > 0 by decide,if_true]
   by_cases h:i<0
   ·simp only [h,if_true] <;> omega
   ·simp only [h,if_false] <;> omega
 ·cases hi with
  | none=>simp [sliceBounds,HT.Dg]
  | some i =>
   simp only [sliceBounds,HT.Dg,Option.getD_none,show (1:Int) > 0 by decide,if_true]
   by_cases h:i<0
   ·simp only [h,if_true] <;> omega
   ·simp only [h,if_false] <;> omega
theorem J3 (its:List Value) (lo hi:Option Int):slicePick its.toArray lo hi none=((its.drop (HT.Dg its.length 0 lo)).take (HT.Dg its.length its.length hi - HT.Dg its.length 0 lo)).toArray:=by
 obtain ⟨h1,h2,h3⟩:=Kw lo hi its.toArray.size
 unfold slicePick
 rw [h1,h2,h3]
 simp only [sliceRange_one,pick_run,List.size_toArray] <;> rfl
noncomputable def k_ (K:PySem.W.Frag):V->Option Int->Option Int->Hp->VK->Prop:=fun x lo hi H Q=>∃ a xs,x=.ref a/\Cu K H a xs/\∀ p,H p=none->Q (.ref p) (upd H p (.lst (Dq xs lo hi)))
theorem Gr:jx X (k_ X.K):=by
 intro pins s σ H x v vl vu lo hi sl Q I rx hs pl pu h
 obtain ⟨a,xs,rfl,hx,q⟩:=h
 cases rx
 obtain ⟨its,r,ht,hz⟩:=I.list hx
 have hlen:=r.length
 refine ⟨"list",_,slot_list_getitem.lookup,ht.isList.typeIs,?_⟩
 refine wpAny_getItem_list_slice ht.isList hs pl pu .none (by simp) ?_ (by rw [List.size_toArray] <;> omega)
 rw [J3,← hlen]
 refine ⟨.ref s.heap.objs.size,_,I.laid (t':=s.toks) (o:=.lst (Dq xs lo hi)) (fun b ob q=>Heap.get?_push_of_some _ q) (Nat.le_refl _) ?_,rfl,q _ (I.hok.fresh (Nat.le_refl _))⟩
 exact ⟨Nat.le_trans (Iv xs lo hi) hz,_,0,(r.drop (HT.Dg xs.length 0 lo)).take (HT.Dg xs.length xs.length hi - HT.Dg xs.length 0 lo),Heap.get?_push_size _ rfl⟩
noncomputable def GC:V->Bool
 | .non=>true
 | .bl _=>true
 | .int _=>true
 | .str _=>true
 | _=>false
noncomputable def Qo:V->V->Bool
 | .non,.non=>true
 | .bl a,.bl b=>a == b
 | .bl a,.int b=>(if a then 1 else 0) == b
 | .int a,.bl b=>a == (if b then 1 else 0)
 | .int a,.int b=>a == b
 | .str a,.str b=>a == b
 | _,_=>false
theorem M9 {A:Around} {s:Shared} {y x:V} {u v:Value} (ry:RelV y u) (rx:RelV x v) (fy:GC y=true) (fx:GC x=true):SeqAt.EqAt A s u v (Qo y x):=by
 cases y with
 | non =>
  cases ry
  cases x with
  | non=>cases rx; exact SeqAt.EqAt.same _
  | bl b=>cases rx; exact SeqAt.EqAt.none_bool b
  | int b=>obtain ⟨t,rfl⟩:=rx; exact SeqAt.EqAt.none_int b t
  | str b=>obtain ⟨t,rfl⟩:=rx; exact SeqAt.EqAt.none_str b t
  | _=>exact absurd (show false=true from fx) Bool.false_ne_true
 | bl a =>
  cases ry
  cases x with
  | non=>cases rx; exact SeqAt.EqAt.bool_none a
  | bl b=>cases rx; exact SeqAt.EqAt.bool_bool a b
  | int b=>obtain ⟨t,rfl⟩:=rx; exact SeqAt.EqAt.bool_int a b t
  | str b=>obtain ⟨t,rfl⟩:=rx; exact SeqAt.EqAt.bool_str a b t
  | _=>exact absurd (show false=true from fx) Bool.false_ne_true
 | int a =>
  obtain ⟨t',rfl⟩:=ry
  cases x with
  | non=>cases rx; exact SeqAt.EqAt.int_none a t'
  | bl b=>cases rx; exact SeqAt.EqAt.int_bool a t' b
  | int b=>obtain ⟨t,rfl⟩:=rx; exact SeqAt.EqAt.int_int a t' b t
  | str b=>obtain ⟨t,rfl⟩:=rx; exact SeqAt.EqAt.int_str a t' b t
  | _=>exact absurd (show false=true from fx) Bool.false_ne_true
 | str a =>
  obtain ⟨t',rfl⟩:=ry
  cases x with
  | non=>cases rx; exact SeqAt.EqAt.str_none a t'
  | bl b=>cases rx; exact SeqAt.EqAt.str_bool a t' b
  | int b=>obtain ⟨t,rfl⟩:=rx; exact SeqAt.EqAt.str_int a t' b t
  | str b=>obtain ⟨t,rfl⟩:=rx; exact SeqAt.EqAt.str_str a t' b t
  | _=>exact absurd (show false=true from fx) Bool.false_ne_true
 | _=>exact absurd (show false=true from fy) Bool.false_ne_true
noncomputable def Nq (x:V) (u:Value):Bool:=match u with
 | .none=>Qo .non x
 | .bool b=>Qo (.bl b) x
 | .int i _=>Qo (.int i) x
 | .str z _=>Qo (.str z) x
 | _=>false
theorem RL {x y:V} {u:Value} (r:RelV y u) (f:GC y=true):Nq x u=Qo y x:=by
 cases y with
 | non=>cases r; rfl
 | bl b=>cases r; rfl
 | int i=>obtain ⟨t,rfl⟩:=r; rfl
 | str z=>obtain ⟨t,rfl⟩:=r; rfl
 | _=>exact absurd (show false=true from f) Bool.false_ne_true
theorem Hr {x:V}:∀ {xs:List V} {us:List Value},Vals xs us->xs.all GC=true->us.any (Nq x)=xs.any fun y=>Qo y x
 | _,_,.nil,_=>rfl
 | y::xs,u::us,.cons r t,f=>by
  rw [List.all_cons,Bool.and_eq_true] at f
  rw [List.any_cons,List.any_cons,RL r f.1,Hr t f.2]
theorem Ga {A:Around} {s:Shared} {x:V} {v:Value} (rx:RelV x v) (fx:GC x=true):∀ {xs:List V} {us:List Value},Vals xs us->xs.all GC=true->∀ u∈us,SeqAt.EqAt A s u v (Nq x u)
 | _,_,.nil,_=>fun u hu=>by cases hu
 | y::xs,u::us,.cons r t,f=>fun u' hu=>by
  rw [List.all_cons,Bool.and_eq_true] at f
  rcases List.mem_cons.mp hu with rfl | hu
  ·rw [RL r f.1]; exact M9 r rx f.1 fx
  ·exact Ga rx fx t f.2 u' hu
noncomputable def inV (x:V) (xs:List V):Bool:=xs.any fun y=>Qo y x
noncomputable def fH (K:PySem.W.Frag) (neg:Bool):R2:=fun x y H Q=>∃ p xs,y=.ref p/\(Cu K H p xs \/ GD K H p xs)/\GC x=true/\xs.all GC=true/\Q (.bl (if neg then !inV x xs else inV x xs)) H
theorem J_:GF X (compareOp .In) (fH X.K false):=by
 intro pins s σ H x y v u Q I rx ry h
 obtain ⟨p,xs,rfl,hq,fx,fs,q⟩:=h
 cases ry
 rcases hq with hq | hq
 ·obtain ⟨its,r,pl,hz⟩:=I.list hq
  refine SeqAt.in_listAt (Nq x) pl.isList (fun w hw=>Ga rx fx r fs w (by simpa using hw)) ⟨.bl _,H,I,rfl,?_⟩
  rw [show its.toArray.any (Nq x)=its.any (Nq x) by simp,Hr r fs]
  exact q
 ·obtain ⟨its,r,pl,hz⟩:=I.tuple hq
  refine SeqAt.in_tupleAt (Nq x) pl (fun w hw=>Ga rx fx r fs w (by simpa using hw)) ⟨.bl _,H,I,rfl,?_⟩
  rw [show its.toArray.any (Nq x)=its.any (Nq x) by simp,Hr r fs]
  exact q
theorem Ku:GF X (compareOp .NotIn) (fH X.K true):=by
 intro pins s σ H x y v u Q I rx ry h
 obtain ⟨p,xs,rfl,hq,fx,fs,q⟩:=h
 cases ry
 rcases hq with hq | hq
 ·obtain ⟨its,r,pl,hz⟩:=I.list hq
  refine SeqAt.notIn_listAt (Nq x) pl.isList (fun w hw=>Ga rx fx r fs w (by simpa using hw)) ⟨.bl _,H,I,rfl,?_⟩
  rw [show its.toArray.any (Nq x)=its.any (Nq x) by simp,Hr r fs]
  exact q
 ·obtain ⟨its,r,pl,hz⟩:=I.tuple hq
  refine SeqAt.notIn_tupleAt (Nq x) pl (fun w hw=>Ga rx fx r fs w (by simpa using hw)) ⟨.bl _,H,I,rfl,?_⟩
  rw [show its.toArray.any (Nq x)=its.any (Nq x) by simp,Hr r fs]
  exact q
theorem BV:Eu X (.builtin "len") (fun xs H Q=>∃ p ys,xs=[.ref p]/\(Cu X.K H p ys \/ GD X.K H p ys)/\Q (.int ys.length) H):=by
 intro pins s σ H xs us Q I r h
 obtain ⟨p,ys,rfl,hq,q⟩:=h
 obtain ⟨u,rfl,rx⟩:=vals1 r
 cases rx
 have hn:=Ih
 rcases hq with hq | hq
 ·obtain ⟨its,r',pl,hz⟩:=I.list hq
  have hlen:=r'.length
  exact Calls.call_len_list pl.isList (by simp only [List.size_toArray] <;> omega) ⟨.int ys.length,H,I.tok _,⟨s.toks+1,by rw [List.size_toArray,hlen]⟩,q⟩
 ·obtain ⟨its,r',pl,hz⟩:=I.tuple hq
  have hlen:=r'.length
  exact len_tuple pl (by simp only [List.size_toArray] <;> omega) ⟨.int ys.length,H,I.tok _,⟨s.toks+1,by rw [List.size_toArray,hlen]⟩,q⟩
theorem Hf:Eu X (.builtin "len") (fun xs H Q=>∃ z,xs=[.str z]/\z.length<=sizeLine/\Q (.int z.length) H):=by
 intro pins s σ H xs us Q I r h
 obtain ⟨z,rfl,hz,q⟩:=h
 obtain ⟨u,rfl,t,rfl⟩:=vals1 r
 have hn:=Ih
 exact len_str (by omega) ⟨.int z.length,H,I.tok _,⟨_,rfl⟩,q⟩
theorem Dh:Eu X (.type "list") (fun xs H Q=>∃ p ys,xs=[.ref p]/\(Cu X.K H p ys \/ GD X.K H p ys)/\∀ l,H l=none->Q (.ref l) (upd H l (.lst ys))):=by
 intro pins s σ H xs us Q I r h
 obtain ⟨p,ys,rfl,hq,q⟩:=h
 obtain ⟨u,rfl,rx⟩:=vals1 r
 cases rx
 have fin:∀ (its:List Value),Vals ys its->ys.length<=sizeLine->∀ (h':Heap) (c':Nat),(∀ b o',s.heap.get? b=some o'->h'.get? b=some o') ->
   h'.get? s.heap.objs.size=some { cls:=.type "list",dict:=none,data:=.seq its.toArray c',slots:=#[] }->EP X pins σ Q (.ref s.heap.objs.size) { s with heap:=h' }:=fun its r' hz h' c' kp e =>
  ⟨.ref s.heap.objs.size,_,I.laid (t':=s.toks) kp (Nat.le_refl _) (show Bq X.prog X.w _ h' _ (.lst ys) from ⟨hz,its,c',r',e⟩),rfl,q _ (I.hok.fresh (Nat.le_refl _))⟩
 rcases hq with hq | hq
 ·obtain ⟨its,r',pl,hz⟩:=I.list hq
  have hlen:=r'.length
  obtain ⟨o,ho,hc,n,hd⟩:=pl.isList
  exact call_list_seq p (.inl rfl) ho hc hd (fun h' c' kp e=>fin its r' hz h' c' kp e) (by simp only [List.size_toArray] <;> omega)
 ·obtain ⟨its,r',pl,hz⟩:=I.tuple hq
  have hlen:=r'.length
  obtain ⟨o,ho,hc,n,hd⟩:=pl
  exact call_list_seq p (.inr rfl) ho hc hd (fun h' c' kp e=>fin its r' hz h' c' kp e) (by simp only [List.size_toArray] <;> omega)
noncomputable def ig (K:PySem.W.Frag) (T:String) (x:V) (H:Hp):Prop:=match x with
 | .str _=>T = "str"
 | .int _=>T = "int"
 | .ref p=>(T = "list" /\ ∃ xs,Cu K H p xs) \/ (T = "tuple" /\ ∃ o,K.lookup p=some o/\o.cls=.type "tuple" /\ o.dict=none) \/
   (T = "dict" /\ ((∃ kvs,H p=some (.dK kvs)) \/ ∃ kvs,H p=some (.dT kvs))) \/ (T = "set" /\ ∃ S n,H p=some (.set S n))
 | _=>False
theorem R1 {pins:List (Addr × Obj)} {σ:St} {H:Hp} {s:Shared} {T:String} {x:V} {v:Value} (I:Inv X pins σ H s) (r:RelV x v) (ty:ig X.K T x H) :
  s.TypeIs v T/\∀ a,v=.ref a->∃ ob,s.heap.get? a=some ob/\ob.dict=none:=by
 cases x with
 | str z =>
  obtain ⟨t,rfl⟩:=r
  cases (show T = "str" from ty)
  exact ⟨typeIs_str s z t,fun _ e=>nomatch e⟩
 | int i =>
  obtain ⟨t,rfl⟩:=r
  cases (show T = "int" from ty)
  exact ⟨typeIs_int s i t,fun _ e=>nomatch e⟩
 | ref p =>
  cases r
  rcases ty with ⟨rfl,xs,hq⟩ | ⟨rfl,o,hk,hc,hd⟩ | ⟨rfl,hk⟩ | ⟨rfl,S,n,hk⟩
  ·obtain ⟨its,_,pl,_⟩:=I.list hq
   refine ⟨pl.isList.typeIs,fun a e=>?_⟩
   cases e
   obtain ⟨o,n,e,c,hd,_⟩:=pl
   exact ⟨o,e,hd⟩
  ·refine ⟨⟨o,I.Gw p o hk,hc⟩,fun a e=>?_⟩
   cases e
   exact ⟨o,I.Gw _ o hk,hd⟩
  ·have z:∃ o,s.heap.get? p=some o/\o.ExactDict:=by
    rcases hk with ⟨kvs,hk⟩ | ⟨kvs,hk⟩
    ·obtain ⟨_,_,_,_,o,_,_,e,ex,_⟩:=I.hok p _ hk
     exact ⟨o,e,ex⟩
    ·obtain ⟨_,_,_,_,o,_,_,e,ex,_⟩:=I.hok p _ hk
     exact ⟨o,e,ex⟩
   obtain ⟨o,e,ex⟩:=z
   refine ⟨⟨o,e,ex.1⟩,fun a e2=>?_⟩
   cases e2
   exact ⟨o,e,ex.2.1⟩
  ·obtain ⟨o,_,_,_,e,ex,_⟩:=I.hok p _ hk
   refine ⟨⟨o,e,ex.1⟩,fun a e2=>?_⟩
   cases e2
   exact ⟨o,e,ex.2.1⟩
 | _=>exact False.elim ty
noncomputable def mq (K:PySem.W.Frag) (T:String) (r:V->List V->Hp->VK->Prop) (to:TE):TE:=fun σ H Q=>to σ H fun x H1=>ig K T x H1/\r x [] H1 Q
noncomputable def o_ (K:PySem.W.Frag) (T:String) (r:V->List V->Hp->VK->Prop) (to:TE) (t:TA):TE:=fun σ H Q=>to σ H fun x H1=>ig K T x H1/\t σ H1 fun xs H2=>r x xs H2 Q
variable {o e:Expr} {es:List Expr} {to:TE} {t:TA} {name:Str} {apos cpos:Pos} {T id:String} {r:V->List V->Hp->VK->Prop}
theorem RV (pa:PlainAttrs T) (slot:Slot T name id) (hty:typeOf (.builtin id)=pure (.type "method_descriptor")) (hm:nO X id r) (ho:PE X o to)
  (hbase:attributeBase o name X.env (eval o X.env)=eval o X.env:=by rfl) (hline:(apos.endLine == cpos.line)=true:=by rfl):PE X (.Call (.Attribute o name apos) [] [] cpos) (mq X.K T r to):=by
 intro pins s σ H Q I h
 refine wpAny_Call_method0_late hbase hline (Br (ho pins s σ H _ I h) fun v s1 hq0=>?_)
 obtain ⟨x,H1,I1,r1,ty,q1⟩:=hq0
 obtain ⟨h1,h2⟩:=R1 I1 r1 ty
 exact ⟨T,id,pa,slot,hty,h1,h2,Calls.callWith_builtin rfl (PySem.evalArgs_none (hm pins s1 σ H1 x [] v [] Q I1 r1 .nil q1))⟩
theorem KD (pa:PlainAttrs T) (slot:Slot T name id) (hty:typeOf (.builtin id)=pure (.type "method_descriptor")) (hm:nO X id r) (ho:PE X o to) (ha:PA X (e::es) t)
  (hbase:attributeBase o name X.env (eval o X.env)=eval o X.env:=by rfl)
  (hfew:((backTo cpos (starEach (e::es) X.env)).all (fun x=>!x.1) && (backToKw cpos (keywordEach [] X.env)).all (fun x=>x.1.isSome)
   && decide ((e::es).length+([]:List Keyword).length+(if ([]:List Keyword).isEmpty then 0 else 1)<30))=true:=by rfl)
  (hline:(apos.endLine == cpos.line)=true:=by rfl) (hs:starEach (e::es) X.env=(false,eval e X.env)::starEach es X.env:=by rfl) (hplain:(backTo cpos (starEach es X.env)).any (·.1)=false:=by rfl) :
  PE X (.Call (.Attribute o name apos) (e::es) [] cpos) (o_ X.K T r to t):=by
 intro pins s σ H Q I h
 refine wpAny_Call_method_late hbase hfew hline rfl (Br (ho pins s σ H _ I h) fun v s1 hq0=>?_)
 obtain ⟨x,H1,I1,r1,ty,q1⟩:=hq0
 obtain ⟨h1,h2⟩:=R1 I1 r1 ty
 refine ⟨T,id,pa,slot,hty,h1,h2,?_⟩
 have hA:=ha cpos pins s1 σ H1 _ I1 q1
 rw [hs] at hA ⊢
 refine Calls.callWith_builtin (by show (false || (backTo cpos (starEach es X.env)).any (·.1))=false; rw [hplain] <;> rfl) (Calls.evalArgs_plain ?_)
 exact Br hA fun us s2 ⟨vs,H2,I2,r2,q2⟩=>hm pins s2 σ H2 x vs v us Q I2 r1 r2 q2
end
end L2
namespace L2
open PySem PySem.Spec PyProof.Rows
noncomputable def kJ (X:Cx) (id:String) (r:V->List V->Hp->VK->Prop):Prop :=
 ∀ (pins:List (Addr × Obj)) (s:Shared) (σ:St) (H:Hp) (x:V) (xs:List V) (v:Value) (us:List Value) (Q:VK),Inv X pins σ H s->RelV x v->Vals xs us->r x xs H Q ->
  wpAny (model X.prog X.w) X.A (call (.builtin id) (v::us)) (EP X pins σ Q) X.xe s
theorem Vals.one:∀ {x:V} {us:List Value},Vals [x] us->∃ u,us=[u]/\RelV x u:=fun h=>by cases h with | cons r t=>cases t; exact ⟨_,rfl,r⟩
theorem Vals.two:∀ {x y:V} {us:List Value},Vals [x,y] us->∃ u v,us=[u,v]/\RelV x u/\RelV y v:=fun h=>by cases h with | cons r t=>cases t with | cons q t=>cases t; exact ⟨_,_,rfl,r,q⟩
theorem Vals.eraseIdx:∀ {xs:List V} {us:List Value} (i:Nat),Vals xs us->Vals (xs.eraseIdx i) (us.eraseIdx i)
 | _,_,_,.nil=>.nil
 | _,_,0,.cons _ t=>t
 | _,_,i+1,.cons r t=>.cons r (Vals.eraseIdx i t)
theorem Vals.rep {xs:List V} {us:List Value} (h:Vals xs us):∀ k:Nat,Vals (List.replicate k xs).flatten (List.replicate k us).flatten
 | 0=>.nil
 | k+1=>by
  rw [List.replicate_succ,List.replicate_succ,List.flatten_cons,List.flatten_cons]
  exact Vals.append h (Vals.rep h k)
theorem Kg {α:Type}:∀ (l:List α) (i:Nat),(l.eraseIdx i).length<=l.length
 | [],_=>Nat.le_refl _
 | _::_,0=>Nat.le_succ _
 | _::r,i+1=>Nat.succ_le_succ (Kg r i)
theorem foldl_rep (its:List Value):∀ (k:Nat) (acc:List Value),
  List.foldl (fun x1 x2=>x1++x2) acc.toArray (List.replicate k its.toArray)=(acc++(List.replicate k its).flatten).toArray
 | 0,acc=>by simp
 | k+1,acc=>by
  have e:acc.toArray++its.toArray=(acc++its).toArray:=by simp
  have e2:(acc++its)++(List.replicate k its).flatten=acc++(List.replicate (k+1) its).flatten:=by
   rw [List.replicate_succ,List.flatten_cons,List.append_assoc]
  rw [← e2,← foldl_rep its k (acc++its),← e,List.replicate_succ,List.foldl_cons]
section
variable {X:Cx} {pins:List (Addr × Obj)} {σ:St} {H:Hp} {s:Shared} {l b:Addr} {xs ys zs:List V}
theorem Inv.U6 {its its':List Value} {n:Nat} {f:Array Value->Array Value} {t':Nat} (I:Inv X pins σ H s) (hH:H l=some (.lst xs))
  (e:s.heap.get? l=some { cls:=.type "list",data:=.seq its.toArray n }) (hf:f its.toArray=its'.toArray) (hv:Vals ys its') (hz:ys.length<=sizeLine) :
  Inv X pins σ (upd H l (.lst ys)) { s with heap:=s.heap.update l (Obj.mapSeq f),toks:=t' }:=by
 have q:=PySem.IsL.update e f
 rw [hf] at q
 refine I.write (x:=l) (e:=l) (by rw [hH]; exact trivial) (.inl rfl) (fun b' u hb hu=>(Heap.get?_update_other s.heap (Obj.mapSeq f) (Ne.symm hb)).trans hu) ⟨_,q⟩ ?_
 exact ⟨hz,its',_,hv,q⟩
theorem Inv.VM {its:List Value} {t':Nat} (I:Inv X pins σ H s) (hv:Vals ys its) (hz:ys.length<=sizeLine) :
  Inv X pins σ (upd H s.heap.objs.size (.lst ys)) { s with heap:=s.heap.push { cls:=.type "list",data:=.seq its.toArray },toks:=t' } :=
 I.laid (fun _ _ q=>Heap.get?_push_of_some _ q) (Nat.le_refl _) ⟨hz,its,0,hv,Heap.get?_push_size _ rfl⟩
theorem Inv.fresh (I:Inv X pins σ H s):H s.heap.objs.size=none:=I.hok.fresh (Nat.le_refl _)
theorem Inv.MF (I:Inv X pins σ H s) (hH:H l=some (.lst xs)):xs.length<=sizeLine/\∃ (its:List Value) (n:Nat),Vals xs its/\xs.length=its.length/\s.heap.get? l=some { cls:=.type "list",data:=.seq its.toArray n }:=by
 obtain ⟨z,its,n,r,e⟩:=I.hok l _ hH
 exact ⟨z,its,n,r,r.length,e⟩
theorem Ly {n:Nat} (h:n<=sizeLine):Builtin.List.listTooLong n=false:=by
 unfold Builtin.List.listTooLong
 exact decide_eq_false (by omega)
end
section
variable {X:Cx}
noncomputable def Vc:V->List V->Hp->VK->Prop:=fun x vs H Q=>∃ l xs y,x=.ref l/\vs=[y]/\H l=some (.lst xs)/\xs.length<sizeLine/\Q .non (upd H l (.lst (xs++[y])))
theorem El:kJ X "list.append" Vc:=by
 intro pins s σ H x vs v us Q I rx rv h
 obtain ⟨l,xs,y,rfl,rfl,hH,hz,q⟩:=h
 cases rx
 obtain ⟨u,rfl,ru⟩:=rv.one
 obtain ⟨z,its,n,r,hl,e⟩:=I.MF hH
 refine call_meets F.slot_list_append ⟨_,e,rfl⟩ F.entry_list_append (F.args_list_append_2 _ _) (PySem.list_append l its.toArray n u (by rw [List.size_toArray]; omega)) ⟨e,?_⟩
 refine ⟨.non,_,I.U6 (its':=its++[u]) hH e (by simp) (r.append (.cons ru .nil)) ?_,rfl,q⟩
 rw [List.length_append,List.length_singleton]
 omega
noncomputable def Vr:V->List V->Hp->VK->Prop:=fun x vs H Q=>∃ l b xs zs,x=.ref l/\vs=[.ref b]/\H l=some (.lst xs)/\H b=some (.lst zs)/\xs.length+zs.length<=sizeLine/\Q .non (upd H l (.lst (xs++zs)))
theorem Qh:kJ X "list.extend" Vr:=by
 intro pins s σ H x vs v us Q I rx rv h
 obtain ⟨l,b,xs,zs,rfl,rfl,hH,hB,hz,q⟩:=h
 cases rx
 obtain ⟨u,rfl,ru⟩:=rv.one
 cases ru
 obtain ⟨z,its,n,r,hl,e⟩:=I.MF hH
 obtain ⟨z2,its2,n2,r2,hl2,e2⟩:=I.MF hB
 have hsz:its.toArray.size+its2.toArray.size<=sizeLine:=by rw [List.size_toArray,List.size_toArray]; omega
 have hlong:¬ (!its.toArray.isEmpty && Builtin.List.listTooLong (its.toArray.size+its2.toArray.size))=true:=by
  rw [Ly hsz,Bool.and_false]
  exact Bool.false_ne_true
 refine call_meets F.slot_list_extend ⟨_,e,rfl⟩ F.entry_list_extend (F.args_list_extend_2 _ _)
  (AutoSeq1.list_extend_list_list_0 l its.toArray n b its2.toArray n2 hlong (by rw [List.size_toArray]; omega) (by omega)) ⟨e,e2,?_⟩
 refine ⟨.non,_,I.U6 (its':=its++its2) hH e (by simp) (r.append r2) ?_,rfl,q⟩
 rw [List.length_append]
 omega
noncomputable def YF:V->List V->Hp->VK->Prop:=fun x vs H Q=>∃ l xs i k y,x=.ref l/\vs=[.int i]/\H l=some (.lst xs) /\ -(2 ^ 63)<=i/\i<2 ^ 63/\seqIndex? i xs.length=some k/\xs[k]? = some y/\Q y (upd H l (.lst (xs.eraseIdx k)))
theorem Sd:kJ X "list.pop" YF:=by
 intro pins s σ H x vs v us Q I rx rv h
 obtain ⟨l,xs,i,k,y,rfl,rfl,hH,h1,h2,hk,hy,q⟩:=h
 cases rx
 obtain ⟨u,rfl,ru⟩:=rv.one
 obtain ⟨t,rfl⟩:=ru
 obtain ⟨z,its,n,r,hl,e⟩:=I.MF hH
 obtain ⟨w,hw,rw'⟩:=r.get hy
 refine call_meets F.slot_list_pop ⟨_,e,rfl⟩ F.entry_list_pop (F.args_list_pop_2 _ _)
  (MeetsSeq.list_pop_at l its.toArray n i t k w (fitsIndex_both h1 h2) (by rw [List.size_toArray,← hl]; exact hk) (by rw [← Array.getElem?_toList]; exact hw) (by rw [List.size_toArray]; omega)) ⟨e,?_⟩
 refine ⟨y,_,I.U6 (its':=its.eraseIdx k) hH e ?_ (r.eraseIdx k) ?_,rw',q⟩
 ·show its.toArray.eraseIdxIfInBounds k=(its.eraseIdx k).toArray
  rw [List.eraseIdxIfInBounds_toArray]
 ·have:=Kg xs k
  omega
noncomputable def jQ:R2:=fun x y H Q=>∃ l b xs zs,x=.ref l/\y=.ref b/\H l=some (.lst xs)/\H b=some (.lst zs)/\xs.length+zs.length<=sizeLine/\∀ p,H p=none->Q (.ref p) (upd H p (.lst (xs++zs)))
theorem X6:GF X (binaryOp .Add) jQ:=by
 intro pins s σ H x y v u Q I rx ry h
 obtain ⟨l,b,xs,zs,rfl,rfl,hH,hB,hz,q⟩:=h
 cases rx
 cases ry
 obtain ⟨z,its,n,r,hl,e⟩:=I.MF hH
 obtain ⟨z2,its2,n2,r2,hl2,e2⟩:=I.MF hB
 refine PySem.P.add_list e e2 ?_ (by rw [List.size_toArray,List.size_toArray]; omega)
 have ea:its.toArray++its2.toArray=(its++its2).toArray:=by simp
 rw [ea]
 exact ⟨.ref _,_,I.VM (t':=s.toks) (r.append r2) (by rw [List.length_append]; omega),rfl,q _ I.fresh⟩
noncomputable def nU:R2:=fun x y H Q=>∃ l k xs,x=.ref l/\y=.int k/\H l=some (.lst xs) /\ -(2 ^ 63)<=k/\k<2 ^ 63/\xs.length * k.toNat<=sizeLine /\
 ∀ p,H p=none->Q (.ref p) (upd H p (.lst (List.replicate k.toNat xs).flatten))
theorem len_rep {α:Type} (xs:List α) (k:Nat):(List.replicate k xs).flatten.length=k * xs.length:=by
 induction k with
 | zero=>simp
 | succ k ih=>rw [List.replicate_succ,List.flatten_cons,List.length_append,ih,Nat.succ_mul,Nat.add_comm]
theorem XC:GF X (binaryOp .Mult) nU:=by
 intro pins s σ H x y v u Q I rx ry h
 obtain ⟨l,k,xs,rfl,rfl,hH,h1,h2,hz,q⟩:=h
 cases rx
 obtain ⟨t,rfl⟩:=ry
 obtain ⟨z,its,n,r,hl,e⟩:=I.MF hH
 have hlen:its.toArray.size * k.toNat<=sizeLine:=by rw [List.size_toArray,← hl]; exact hz
 have hcap:¬ its.toArray.size * k.toNat > (2 ^ 63 - 1) / 8:=by
  have:(sizeLine:Nat)<=(2 ^ 63 - 1) / 8:=by decide
  omega
 have hfit:¬ (!Builtin.List.listFitsIndex k)=true:=by
  rw [fitsIndex_both h1 h2]
  exact Bool.false_ne_true
 have hlong:¬ Builtin.List.listTooLong (its.toArray.size * k.toNat)=true:=by
  rw [Ly hlen]
  exact Bool.false_ne_true
 have hnew:List.foldl (fun x1 x2=>x1++x2) #[] (List.replicate (if its.toArray.isEmpty=true then 0 else k.toNat) its.toArray)=(List.replicate k.toNat its).flatten.toArray:=by
  have f0:∀ m:Nat,List.foldl (fun x1 x2=>x1++x2) #[] (List.replicate m its.toArray)=(List.replicate m its).flatten.toArray:=fun m=>by
   have:=foldl_rep its m []
   rw [List.nil_append] at this
   exact this
  rw [f0]
  cases its with
  | nil=>simp
  | cons a r'=>rw [if_neg (by simp)]
 refine wpAny_binaryOp_repeat_ref (T:="list") (U:="int") (by decide) ⟨_,e,rfl⟩ (fun s'=>typeIs_int s' k t) noFill_list_mul F.fills_int_mul F.slot_int_rmul repeat_list F.slot_int_index.lookup
  (call_meets F.slot_int_rmul (typeIs_int s k t) F.entry_int_rmul (F.args_int_rmul_2 _ _) (int___rmul___int_list k t l its.toArray n)
   ⟨e,rfl,⟨_,e,rfl⟩,call_meets F.slot_list_mul ⟨_,e,rfl⟩ F.entry_list_mul (F.args_list_mul_2 _ _) (AutoListH.list___mul___list_int_3 l its.toArray n k t hfit hcap hlong) ⟨e,?_⟩⟩)
 rw [hnew]
 exact ⟨.ref _,_,I.VM (t':=s.toks) (r.rep k.toNat) (by rw [len_rep,Nat.mul_comm]; exact hz),rfl,q _ I.fresh⟩
end
section
variable {prog:Program} {w:World} {A:Around} {E:Value->Shared->Prop} {s:Shared}
end
section
variable {X:Cx}
end
end L2
namespace Att
open PySem PySem.W PySem.Calls PyProof.Rows
theorem I_ {P:Params} {h:Heap}:∀ (ns:List Int) (vs:List Value),WellAll P h vs (ns.map WData.int)->IntsAre vs ns:=by
 intro ns
 induction ns with
 | nil =>
  intro vs w
  rw [List.map_nil] at w
  cases w
  exact .nil
 | cons n ns ih =>
  intro vs w
  rw [List.map_cons] at w
  cases w with
  | cons a b =>
   cases a
   exact .cons _ _ (ih _ b)
theorem Py {l:OpenLaw} {n:Nat} (hn:l.most=some n) {P:Params} {h:Heap} {args:List WData} {vals:List Value}
  (hpre:l.row.toRowW.claim.pre args=true) (hwl:WellAll P h vals args) :
  ∃ a vs ns,vals=[Value.ref a]/\args=[WData.list (ns.map WData.int)]/\h.get? a=some { cls:=.type "list",data:=.seq vs.toArray }/\IntsAre vs ns/\ns.length<=n:=by
 have hsh:WShape.hasAll [] args [.list .int]=true:=(pre_splitW hpre).1
 have hc:l.pre.holds [] { args:=args }=true:=(pre_splitW hpre).2
 obtain ⟨d,r,rfl,h1,h2⟩:=hasAllW_cons hsh
 obtain rfl:=hasAllW_nil h2
 obtain ⟨xs,rfl,h3⟩:=hasW_list h1
 obtain ⟨ns,rfl⟩:=items_int h3
 have hlen:ns.length<=n:=by
  unfold OpenLaw.pre at hc
  have h4:(WTm.not (.lt (.lit (.int (n:Int))) (.len (.arg 0)))).holds [] { args:=[.list (ns.map .int)] }=true:=by
   have h4:=(holds_andW hc).1
   rw [hn] at h4
   exact h4
  have h5:=condW_of h4 (w_not (w_lt w_lit (w_len_list (w_arg rfl))))
  rw [List.length_map] at h5
  refine Nat.le_of_not_lt fun q=>?_
  have q':(n:Int)<((ns.length:Nat):Int):=by omega
  first
   | (rw [decide_eq_true q'] at h5; exact absurd h5 (by decide))
   | (simp at h5; omega)
 cases hwl with
 | cons w1 w2 =>
  cases w2
  cases w1 with
  | list ho hall=>exact ⟨_,_,ns,rfl,rfl,ho,I_ ns _ hall,hlen⟩
theorem QT (l:OpenLaw) (args:List WData):l.row.toRowW.claim.post args (.bool true) args=true :=
 postW_of (r:=l.row.toRowW) (X:=(true == true))
  (show WShape.has [] (.bool true) .bool=true by first | rfl | decide | simp [WShape.has,WShape.arms,WShape.armsAll])
  (show (WTm.eq .res (.lit (.bool true))).value [] { args:=args,res:=some (.bool true),after:=args }=some (.bool (true == true)) from w_eq_bool (w_res rfl) w_lit) rfl
theorem Ma {l:OpenLaw} {n:Nat} {q:Program} {loose:List Str} {XP:(Str->Option Value)->Heap->Prop} {YP:World->Heap->Prop} {d:DefRec}
  (hn:l.most=some n) (hdf:d.params.defaults=[])
  (call:∀ (w:World) (s₀ s₁:Shared) (mg mb:Str->Option Value) (fa:Addr) (o:Obj) (pm cd doc:Value) (a:Addr) (vs:List Value) (ns:List Int),
   Ground q loose [] XP w s₀ mg mb s₁.heap->YP w s₁.heap ->
   s₁.heap.get? fa=some o->o.data=.func (docDef d.name d.params d.body d.scope pm cd doc)->s₁.heap.CodeRec cd d.name->mg d.name=some (.ref fa) ->
   s₁.heap.get? a=some { cls:=.type "list",data:=.seq vs.toArray }->IntsAre vs ns->ns.length<=n->s₁.gens = #[] ->
   codeAny (model l.prog w) callerA (.call (.ref fa) ⟨[.ref a],[]⟩) (fun r s'=>r=.ok (.ret (.bool true))/\OldK s₁.heap s'.heap/\s'.os=s₁.os/\AllBare s'.gens) s₁) :
  WalkO q loose XP YP l.row.toRowW d [] (fun f vs=>PySem.call f vs):=by
 intro w s₀ s₁ mg mb G Y fa o pm cd doc dV kV ho hd hcd hD hmg hg args vals as hpre hlay hrd hwl hlo
 obtain rfl:dV=.none:=Dflts.none hD hdf
 obtain rfl:kV=.none:=Dflts.noKw hD
 obtain ⟨a,vs,ns,rfl,rfl,hobj,hints,hlen⟩:=Py hn hpre hwl
 refine enter_call (codeAny_mono (call w s₀ s₁ mg mb fa o pm cd doc a vs ns G Y ho (fd_plain hd) hcd hmg hobj hints hlen hg) fun r s' hq=>?_)
 obtain ⟨rfl,h2,h3,h4⟩:=hq
 exact ⟨.inl ⟨.bool true,.bool true,[],rfl,fun _=>rfl,.bool true,QT l _,fun _=>⟨List.Pairwise.nil,fun _ hm=>(nomatch hm)⟩⟩,h2,h3,h4⟩
section
variable {prog:Program} {w:World} {A:Around} {E:Value->Shared->Prop} {s:Shared} {K:Frag}
end
end Att
namespace L2
open PySem PySem.Spec PyProof.Rows
theorem KR:∀ {vs:List Value} {ns:List Int},IntsAre vs ns->Vals (ns.map V.int) vs
 | _,_,.nil=>.nil
 | _,_,.cons n t h=>.cons ⟨t,rfl⟩ (KR h)
noncomputable def Only (H:Hp):Prop:=∀ b,H b=none \/ ∃ o xs,H b=some (.frz o (.lst xs))
theorem Ti {P:Program} {w:World} {K:PySem.W.Frag} {mg mb:Str->Option Value} {CX:O9} {k:Nat} {fa a:Addr} {fd:FuncData} {x:Str} {sp:Sp} {s₁:Shared} {vs:List Value} {ns:List Int}
  (KX:K.In s₁.heap) (hns:s₁.heap.Ns mainGlobals mg) (hb:s₁.heap.Ns builtinsNs mb) (hbb:∀ x:Str,x ≠ "__name__"->mb x=bootBuiltins x) (hlim:s₁.heap.NoLimit) (hg:s₁.gens = #[])
  (ha:s₁.heap.get? a=some { cls:=.type "list",data:=.seq vs.toArray }) (hi:IntsAre vs ns) (hl:ns.length<=sizeLine) (hr:A_ k callerA)
  (F:∀ base:Heap,K.In base->base.Ns mainGlobals mg->Ao P w K mg base CX k fa fd [x] sp) (hbind:∀ (s:Shared) (u:Value),BindsTo s fd ⟨[u],[]⟩ [(x,u)])
  (hsp:∀ H:Hp,Only H->Cu K H a (ns.map V.int)->sp [.ref a] H (fun v _=>v=.bl true) fun _ _ _=>False)
  (hCX:∀ H e s',CX [] H s₁ (fun _ _ _=>False) e s'->False) :
  codeAny (model P w) callerA (.call (.ref fa) ⟨[.ref a],[]⟩) (fun r s'=>r=.ok (.ret (.bool true))/\OldK s₁.heap s'.heap/\s'.os=s₁.os/\AllBare s'.gens) s₁:=by
 have rv:=KR hi
 have lenV:=hi.length
 have core:∀ H:Hp,Only H->Cu K H a (ns.map V.int)->Ex P w H s₁.heap->(∀ b,H b ≠ none->b=a)->(H a ≠ none->K.lookup a=none) ->
   codeAny (model P w) callerA (.call (.ref fa) ⟨[.ref a],[]⟩) (fun r s'=>r=.ok (.ret (.bool true))/\OldK s₁.heap s'.heap/\s'.os=s₁.os/\AllBare s'.gens) s₁:=by
  intro H hO hS hok hA hK
  have base_of:∀ {b:Addr} {o:Obj},s₁.heap.get? b=some o->H b=none->(K9 s₁.heap H).get? b=some o:=fun e n=>Qy e n
  have noA:∀ {b:Addr} {o:Obj} {es:Array DictEntry} {ep:Nat},s₁.heap.get? b=some o->o.data=.dict es ep->H b=none:=fun {b o es ep} e d=>by
   cases q:H b with
   | none=>rfl
   | some u =>
    have e':b=a:=hA b (by rw [q]; simp)
    subst e'
    rw [ha] at e; cases e
    have d':Data.seq vs.toArray _=Data.dict es ep:=d
    cases d'
  have nsK:∀ {b:Addr} {m:Str->Option Value},s₁.heap.Ns b m->(K9 s₁.heap H).Ns b m:=fun {b m} ⟨o,es,ep,e,d,r⟩=>⟨o,es,ep,base_of e (noA e d),d,r⟩
  have hKb:K.In (K9 s₁.heap H):=fun b o e=>base_of (KX b o e) (by
   cases q:H b with
   | none=>rfl
   | some u =>
    have e':b=a:=hA b (by rw [q]; simp)
    subst e'
    rw [hK (by rw [q]; simp)] at e; cases e)
  have hM:Mod K mg (K9 s₁.heap H):=⟨hKb,nsK hns,⟨mb,nsK hb,hbb⟩,let ⟨mc,h1,h2⟩:=hlim; ⟨mc,nsK h1,h2⟩⟩
  have e0:MT P w K mg (K9 s₁.heap H) callerA [] s₁ H:=⟨rfl,hM,fun b o e=>U8 e,Nat.le_of_eq (Qj _ _),trivial,fun b hb=>absurd (show b∈([]:List Addr) from hb) (by simp),hok,.of_eq hg⟩
  refine codeAny_mono ((F _ hKb (nsK hns)).run callerA [] s₁ H ⟨[.ref a],[]⟩ [.ref a] [.ref a] _ _ hr e0 (hbind s₁ (.ref a)) (.cons rfl .nil) (hsp H hO hS)) fun r s' h=>?_
  cases r with
  | error e=>exact (hCX H e s' h).elim
  | ok fl =>
   cases fl with
   | next=>exact False.elim h
   | brk=>exact False.elim h
   | cont=>exact False.elim h
   | ret u =>
    obtain ⟨v,H',os,bare,un,hok',r',q⟩:=h
    have q':v=.bl true:=q
    subst q'
    obtain rfl:u=Value.bool true:=r'
    refine ⟨rfl,OldK.of_keep fun b o e=>?_,os,bare⟩
    cases q:H b with
    | none=>exact un.keep b o e q (by intro z; exact absurd (show b∈([]:List Addr) from z) (by simp)) (by simp)
    | some u =>
     rcases hO b with z | ⟨ob,xs,z⟩
     ·rw [q] at z; cases z
     ·have z2:=un.frzs b ob _ z
      obtain ⟨e1,_⟩:=hok b _ z
      obtain ⟨e2,_⟩:=hok' b _ z2
      rw [e] at e1; cases e1
      exact e2
 cases hk:K.lookup a with
 | some o =>
  have e:=KX a o hk
  rw [ha] at e
  cases e
  refine core (fun _=>none) (fun _=>.inl rfl) (.inr ⟨_,vs.toArray,_,hk,rfl,rfl,rfl,by rw [List.size_toArray,lenV]; exact hl,by simpa using rv⟩) (fun b u z=>by have z':(none:Option HO)=some u:=z; cases z') (fun b z=>absurd rfl z) fun z=>absurd rfl z
 | none =>
  refine core (fun b=>if b=a then some (.frz { cls:=.type "list",data:=.seq vs.toArray } (.lst (ns.map V.int))) else none) (fun b=>?_) (.inl (.inr ⟨{ cls:=.type "list",data:=.seq vs.toArray },if_pos rfl⟩)) (fun b u z=>?_) (fun b z=>?_) fun _=>hk
  ·by_cases hb:b=a
   ·exact .inr ⟨_,_,if_pos hb⟩
   ·exact .inl (if_neg hb)
  ·by_cases hb:b=a
   ·have z':=(if_pos hb).symm.trans z
    cases z'
    subst hb
    exact ⟨ha,by rw [List.length_map]; exact hl,vs,_,rv,ha⟩
   ·have z':=(if_neg hb).symm.trans z
    cases z'
  ·by_cases hb:b=a
   ·exact hb
   ·exact absurd (if_neg hb) z
end L2
namespace L2
open PySem PySem.Spec PyProof.Rows
theorem U_ {l:PySem.W.OpenLaw} {n k:Nat} {q:Program} {loose:List Str} {XP:(Str->Option Value)->Heap->Prop} {YP:World->Heap->Prop} {d:DefRec} {K:Params->PySem.W.Frag} {CX:World->O9} {sp:World->Sp} {x:Str}
  (hn:l.most=some n) (hn2:n<=sizeLine) (hdf:d.params.defaults=[]) (hr:A_ k callerA)
  (hY:∀ (w:World) (h:Heap),YP w h->(K w.params).In h)
  (F:∀ (w:World) (mg:Str->Option Value) (fa:Addr) (h:Heap),(K w.params).In h->h.Ns mainGlobals mg->mg d.name=some (.ref fa) ->
   ∃ fd:FuncData,(∀ (s:Shared) (u:Value),BindsTo s fd ⟨[u],[]⟩ [(x,u)]) /\
    ∀ base:Heap,(K w.params).In base->base.Ns mainGlobals mg->Ao l.prog w (K w.params) mg base (CX w) k fa fd [x] (sp w))
  (hsp:∀ (w:World) (H:Hp) (a:Addr) (ns:List Int),ns.length<=n->Only H->Cu (K w.params) H a (ns.map V.int)->sp w [.ref a] H (fun v _=>v=.bl true) fun _ _ _=>False)
  (hCX:∀ (w:World) (H:Hp) (s:Shared) (e:Value) (s':Shared),CX w [] H s (fun _ _ _=>False) e s'->False) :
  PySem.W.WalkO q loose XP YP l.row.toRowW d [] (fun f vs=>PySem.call f vs):=by
 refine Att.Ma hn hdf fun w s₀ s₁ mg mb fa o pm cd doc a vs ns G Y ho hd hcd hmg hobj hints hlen hg=>?_
 have KX:=hY w _ Y
 obtain ⟨fd,hb,hF⟩:=F w mg fa _ KX G.T.g hmg
 exact Ti KX G.T.g G.T.b G.T.builtins G.T.nolimit hg hobj hints (Nat.le_trans hlen hn2) hr hF hb (fun H hO hS=>hsp w H a ns hlen hO hS) fun H e s'=>hCX w H s₁ e s'
end L2
namespace L2
open PySem PySem.Spec PyProof.Rows
noncomputable def inClass (s:Stmt) (j:Nat):Stmt:=match s with
 | .ClassDef _ _ _ body _ _ _ _ _ _ _=>body.getD j (.Pass ⟨0,0,0,0⟩)
 | _=>.Pass ⟨0,0,0,0⟩
noncomputable def Eh (s:Stmt):Arguments:=match s with
 | .FunctionDef _ a _ _ _ _ _ _ _ _=>a
 | _=>{ posonlyargs:=[],args:=[],vararg:=none,kwonlyargs:=[],kw_defaults:=[],kwarg:=none,defaults:=[] }
noncomputable def Dl (s:Stmt):List Stmt:=match s with
 | .FunctionDef _ _ b _ _ _ _ _ _ _=>b
 | _=>[]
noncomputable def Ac (s:Stmt):Scope:=match s with
 | .FunctionDef _ _ _ _ _ _ sc _ _ _=>sc
 | _=>{ kind:=.function,names:=[],isGenerator:=false,isCoroutine:=false }
noncomputable abbrev BR:O9:=fun _ _ _ _ _ _=>False
noncomputable abbrev E0:XK:=fun _ _ _=>False
theorem Av {X:Cx}:GQ BR X E0:=fun _ _ _ _ _ _ _ h=>h.elim
structure CQ (K:PySem.W.Frag) (x qual:Str) (st:Stmt) (f:Addr) (fd:FuncData):Prop where
 ex:∃ (oc:Value) (od:Option Addr) (kV doc pm:Value) (an:Option Addr) (cdv ct:Value) (osl:Array (Option Value)),
  fd=PySem.W.fnOf x qual (Eh st) (Dl st) (Ac st) .none kV doc pm an cdv ct/\K.lookup f=some ⟨oc,od,.func fd,osl⟩/\PySem.W.codeIn K cdv qual=true
 kp:PySem.W.keepIn K (.ref f)=true
section
variable {P:Program} {w:World} {K:PySem.W.Frag} {mg:Str->Option Value} {base:Heap}
theorem CQ.ok {x qual:Str} {st:Stmt} {f:Addr} {fd:FuncData} {N ps:List Str} {k:Nat} {sp:Sp} (F:CQ K x qual st f fd) (S:An N ps (Ac st)) (len:∀ vs H Q E,sp vs H Q E->vs.length=ps.length)
  (hbody:∀ (cdv:Value) (A:Around) (outer:List Env) (s:Shared) (H:Hp) (vs:List V) (Q:VK) (E:XK),A_ k (A.deeper (envOfC qual (Ac st) s.heap.objs.size f cdv))->sp vs H Q E ->
   ∃ t,Ny (K7 BR P w K mg base N qual (Ac st) f cdv A outer s H E).fP (Dl st) t/\t { nx:=fun _ H'=>Q .non H',rt:=Q } (start N vs) H):Ao P w K mg base BR (k+1) f fd ps sp:=by
 obtain ⟨oc,od,kV,doc,pm,an,cdv,ct,osl,rfl,lk,hcd⟩:=F.ex
 refine V7 lk hcd S len fun A outer s H vs Q E hr hsp=>?_
 obtain ⟨t,h,q⟩:=hbody cdv A outer s H vs Q E hr hsp
 exact ⟨t,h.fP,q⟩
theorem CQ.binds {x qual:Str} {st:Stmt} {f:Addr} {fd:FuncData} {ps:List Str} (F:CQ K x qual st f fd)
  (h:∀ (kV doc pm:Value) (an:Option Addr) (cdv ct:Value) (us:List Value),us.length=ps.length->bindArgs (PySem.W.fnOf x qual (Eh st) (Dl st) (Ac st) .none kV doc pm an cdv ct) ⟨us,[]⟩=pure (ps.zip us)):Binds K fd ps []:=by
 obtain ⟨oc,od,kV,doc,pm,an,cdv,ct,osl,rfl,lk,hcd⟩:=F.ex
 exact .all (h kV doc pm an cdv ct)
theorem N5 {x qual:Str} {st:Stmt} {f:Addr} {oc:Value} {od an:Option Addr} {osl:Array (Option Value)} {kV doc pm cdv ct:Value} (l:K.lookup f=some ⟨oc,od,.func (PySem.W.fnOf x qual (Eh st) (Dl st) (Ac st) .none kV doc pm an cdv ct),osl⟩)
  (c:PySem.W.codeIn K cdv qual=true) (k:PySem.W.keepIn K (.ref f)=true):CQ K x qual st f (PySem.W.fnOf x qual (Eh st) (Dl st) (Ac st) .none kV doc pm an cdv ct):=⟨⟨oc,od,kV,doc,pm,an,cdv,ct,osl,rfl,l,c⟩,k⟩
end
theorem DR {A:Around} {k:Nat} (hr:A_ k A):A.units+1<cLine:=Nat.lt_of_le_of_lt (Nat.add_le_add_left (by decide:1<=64) _) hr.units
theorem BK {n:Nat} (h:n<=1000):n<sizeLine:=Nat.lt_of_le_of_lt h (by decide)
section
variable {X:Cx}
theorem pv (i:Nat) {x:Str} {pos:Pos} (hN:X.N[i]? = some x:=by rfl) (hv:m9 X.env.scope x:=by first | exact Or.inl rfl | exact Or.inr (Or.inl rfl) | exact Or.inr (Or.inr rfl)) (hd:(x == ("__debug__" : Str))=false:=by decide)
  (hcd:(x == ("__classdict__" : Str))=false:=by decide):PE X (.Name x pos) (Z1 i):=XD hN hv hd hcd
end
theorem Cv {A B:Prop} (h:B):if false=true then A else B:=by
 rw [if_neg Bool.false_ne_true]
 exact h
theorem EY {A B:Prop} (h:A):if true=true then A else B:=by
 rw [if_pos rfl]
 exact h
theorem CN {c A B:Prop} [Decidable c] (h1:c->A) (h2:¬ c->B):if c then A else B:=by
 by_cases h:c
 ·rw [if_pos h]
  exact h1 h
 ·rw [if_neg h]
  exact h2 h
theorem WK {c A B:Prop} [Decidable c] (hc:c) (h:B):if (!decide c)=true then A else B:=by
 rw [decide_eq_true hc]
 exact Cv h
noncomputable def Ak (H H':Hp):Prop:=∀ b o,H b=some o->H' b=some o
theorem Ak.refl (H:Hp):Ak H H:=fun _ _ h=>h
theorem Ak.trans {H H1 H2:Hp} (a:Ak H H1) (b:Ak H1 H2):Ak H H2:=fun c o h=>b c o (a c o h)
theorem Ak.free {H H':Hp} (e:Ak H H') {l:Addr} (h:H' l=Option.none):H l=Option.none:=by
 cases q:H l with
 | none=>rfl
 | some o =>
  rw [e l o q] at h
  cases h
theorem Ak.seq {K:PySem.W.Frag} {H H':Hp} {a:Addr} {xs:List V} (e:Ak H H') (h:Cu K H a xs):Cu K H' a xs:=by
 rcases h with (h | ⟨o,h⟩) | h
 ·exact .inl (.inl (e _ _ h))
 ·exact .inl (.inr ⟨o,e _ _ h⟩)
 ·exact .inr h
end L2
namespace L2
open PySem PySem.Spec PyProof.Rows
section
variable {X:Cx}
end
section
variable {κ:Type} [DecidableEq κ]
theorem PN:∀ {l:List κ} {k:κ},l.Nodup->¬ k∈l->(l++[k]).Nodup
 | [],k,_,_=>by simp
 | a::r,k,h,hk=>by
  obtain ⟨h1,h2⟩:=List.nodup_cons.mp h
  show (a::(r++[k])).Nodup
  refine List.nodup_cons.mpr ⟨fun m=>?_,PN h2 fun m=>hk (List.mem_cons.mpr (Or.inr m))⟩
  rcases List.mem_append.mp m with q | q
  ·exact h1 q
  ·exact hk (List.mem_cons.mpr (Or.inl (List.mem_singleton.mp q).symm))
end
end L2
namespace L2
open PySem PySem.Spec PyProof.Rows
section
variable {prog:Program} {w:World} {A:Around} {E:Value->Shared->Prop} {s:Shared}
theorem JP {it a:Addr} {i:Nat} {items:Array Value} {x:Value} {Q:Value->Shared->Prop} (j:s.heap.IsTupleIter it a i) (ht:s.heap.IsTuple a items) (hx:items[i]? = some x)
  (q:∀ h',h'.IsTupleIter it a (i+1)->Heap.SameBut it s.heap h'->Q x { s with heap:=h' }):wpAny (model prog w) A (Builtin.SmallTypes.nextOf (.ref it)) Q E s:=by
 have j0:=j
 obtain ⟨o,e,c,d⟩:=j
 obtain ⟨oa,ea,_,n,da⟩:=ht
 unfold Builtin.SmallTypes.nextOf
 refine wpAny_bind (wpAny_callSpecial?_slot (name:=Str.ofString "__next__") j0.typeIs F.slot_tuple_iterator_next (wpAny_call_entry F.slot_tuple_iterator_next j0.typeIs F.entry_tuple_iterator_next ?_ (F.args_tuple_iterator_next_1 _)))
 refine (show wpAny _ _ (field (.ref it) 0 >>= _) _ _ s from wpAny_bind (wpAny_field e d (x:=.ref a) rfl ?_))
 refine (show wpAny _ _ (if (Value.ref a == Value.none)=true then _ else _) _ _ s from ?_)
 rw [if_neg (by exact Bool.false_ne_true)]
 refine (show wpAny _ _ (field (.ref it) 1 >>= _) _ _ s from wpAny_bind (wpAny_field e d (x:=.int i 0) rfl ?_))
 refine (show wpAny _ _ (seqItems? (.ref a) >>= _) _ _ s from wpAny_bind (wpAny_seqItems ea da ?_))
 simp only [Int.toNat_natCast,hx]
 exact wpAny_bind (wpAny_setField e d (by simp) (wpAny_pure ⟨x,rfl,wpAny_pure (q _ ⟨_,Heap.get?_update_self _ e (Obj.isFreed_of_fields (Obj.data_mapFields d _)),(Obj.cls_mapFields ..).trans c,by rw [Obj.data_mapFields d]; simp [rawInt]⟩ (Heap.SameBut.update ..))⟩))
theorem Jg {it a:Addr} {i:Nat} {items:Array Value} {Q:Value->Shared->Prop} (hh:A.handled=none) (j:s.heap.IsTupleIter it a i) (ht:s.heap.IsTuple a items) (hx:items[i]? = none)
  (q:∀ h' e,Heap.ExtBut it s.heap h'->(∃ o,h'.get? e=some o/\o.cls=.type "StopIteration")->E (.ref e) { s with heap:=h' }):wpAny (model prog w) A (Builtin.SmallTypes.nextOf (.ref it)) Q E s:=by
 have j0:=j
 obtain ⟨o,e,c,d⟩:=j
 obtain ⟨oa,ea,_,n,da⟩:=ht
 unfold Builtin.SmallTypes.nextOf
 refine wpAny_bind (wpAny_callSpecial?_slot (name:=Str.ofString "__next__") j0.typeIs F.slot_tuple_iterator_next (wpAny_call_entry F.slot_tuple_iterator_next j0.typeIs F.entry_tuple_iterator_next ?_ (F.args_tuple_iterator_next_1 _)))
 refine (show wpAny _ _ (field (.ref it) 0 >>= _) _ _ s from wpAny_bind (wpAny_field e d (x:=.ref a) rfl ?_))
 refine (show wpAny _ _ (if (Value.ref a == Value.none)=true then _ else _) _ _ s from ?_)
 rw [if_neg (by exact Bool.false_ne_true)]
 refine (show wpAny _ _ (field (.ref it) 1 >>= _) _ _ s from wpAny_bind (wpAny_field e d (x:=.int i 0) rfl ?_))
 refine (show wpAny _ _ (seqItems? (.ref a) >>= _) _ _ s from wpAny_bind (wpAny_seqItems ea da ?_))
 simp only [Int.toNat_natCast,hx]
 refine wpAny_bind (wpAny_rule (wpAny_bind (wpAny_setField e d (by simp) (show wpAny _ _ (newExc (.type "StopIteration") [] >>= _) _ _ _ from wpAny_bind ?_))))
 simp only [newExc,newTuple]
 refine wpAny_bind (wpAny_newObj_type (wpAny_bind (m:=firstArgMember _ _) (wpAny_of_eq (a:=Value.none) (by first | rfl | (simp only [firstArgMember]; rfl)) (wpAny_newObj_type ?_ (by size_fits)))) (by size_fits))
 simp only [raiseNew]
 refine wpAny_bind (wpAny_handled ?_)
 first | rw [show A.in1.handled=none from hh] | rw [hh]
 exact wpAny_bind (wpAny_pure (wpAny_throw (q _ _ (((Heap.SameBut.update ..).extBut.push _).push _) ⟨_,Heap.get?_push_size _ rfl,rfl⟩)))
theorem Qg {z TI TO i1 i2 a1 a2:Addr} {k:Nat} {xs ys:Array Value} {x y a b:Value} {Q:Value->Shared->Prop} (D:ZipApart z TI TO i1 i2 a1 a2)
  (hz:IsZip s.heap z TI TO .none) (hI:IsPair s.heap TI (.ref i1) (.ref i2)) (hO:IsPair s.heap TO a b)
  (j1:s.heap.IsTupleIter i1 a1 k) (j2:s.heap.IsTupleIter i2 a2 k) (t1:s.heap.IsTuple a1 xs) (t2:s.heap.IsTuple a2 ys) (hx:xs[k]? = some x) (hy:ys[k]? = some y)
  (q:∀ h',IsZip h' z TI TO (rawInt s.heap.objs.size)->IsPair h' TO x y->h'.IsTupleIter i1 a1 (k+1)->h'.IsTupleIter i2 a2 (k+1)->IsPair h' s.heap.objs.size x y->h'.objs.size=s.heap.objs.size+1 ->
   (∀ c o,c ≠ z->c ≠ TO->c ≠ i1->c ≠ i2->s.heap.get? c=some o->h'.get? c=some o)->Q (.ref s.heap.objs.size) { s with heap:=h' }) :
  wpAny (model prog w) A (Builtin.«zip.__next__» ⟨[.ref z],[]⟩) (fun fin s'=>∃ v,fin=.done (.ret v)/\Q v s') E s:=by
 refine (show wpAny _ _ (field (.ref z) 2 >>= _) _ _ _ from wpAny_bind (wpAny_field hz rfl (x:=.bool false) rfl (show wpAny _ _ (field (.ref z) 3 >>= _) _ _ _ from wpAny_bind (wpAny_field hz rfl (x:=.ref TI) rfl (wpAny_bind (wpAny_seqItems hI rfl ?_))))))
 refine (show wpAny _ _ (Builtin.SmallTypes.ownedTupleIsFree (.ref z) >>= _) _ _ _ from wpAny_bind ?_)
 unfold Builtin.SmallTypes.ownedTupleIsFree
 refine wpAny_bind (wpAny_field hz rfl (x:=.none) rfl (wpAny_pure ?_))
 simp only [if_true]
 refine wpAny_bind (wpAny_rule (wpAny_bind (wpAny_field hz rfl (x:=.ref TO) rfl (wpAny_bind (wpAny_setField_rec hz (by simp) fun h1 z1 s1=>?_)))))
 have y1:IsZip h1 z TI TO .ellipsis:=z1
 refine wpAny_bind ?_
 simp only [List.zipIdx_cons,List.zipIdx_nil,List.forIn_cons,List.forIn_nil]
 refine wpAny_bind (wpAny_bind (wpAny_onRaise (show wpAny _ _ (Builtin.SmallTypes.nextOf (.ref i1) >>= _) _ _ _ from wpAny_bind (JP (j1.at fun o e=>s1.extBut _ _ D.i1z e) (t1.at fun o e=>s1.extBut _ _ D.l1z e) hx fun h2 n1 s2=>wpAny_pure ?_))))
 have o2:IsPair h2 TO a b:=s2.extBut _ _ D.TOi1 (s1.extBut _ _ D.TOz hO)
 refine wpAny_bind (wpAny_seqItems o2 rfl (wpAny_bind (wpAny_updateSeq_pair o2 fun h3 p3 s3=>?_)))
 have o3:IsPair h3 TO x b:=p3
 refine wpAny_bind (wpAny_letGo (wpAny_pure ?_))
 refine wpAny_bind (wpAny_bind (wpAny_onRaise (show wpAny _ _ (Builtin.SmallTypes.nextOf (.ref i2) >>= _) _ _ _ from wpAny_bind (JP (j2.at fun o e=>s3.extBut _ _ D.TOi2.symm (s2.extBut _ _ D.i12.symm (s1.extBut _ _ D.i2z e)))
  (t2.at fun o e=>s3.extBut _ _ D.l2TO (s2.extBut _ _ D.l2i1 (s1.extBut _ _ D.l2z e))) hy fun h4 n2 s4=>wpAny_pure ?_))))
 have o4:IsPair h4 TO x b:=s4.extBut _ _ D.TOi2 o3
 refine wpAny_bind (wpAny_seqItems o4 rfl (wpAny_bind (wpAny_updateSeq_pair o4 fun h5 p5 s5=>?_)))
 have o5:IsPair h5 TO x y:=p5
 refine wpAny_bind (wpAny_letGo (wpAny_pure (wpAny_pure (wpAny_bind (wpAny_seqItems o5 rfl (wpAny_bind (wpAny_newTuple ?_)))))))
 have zs:h5.objs.size=s.heap.objs.size:=by rw [s5.1,s4.1,s3.1,s2.1,s1.1]
 have y5:IsZip h5 z TI TO .ellipsis:=s5.extBut _ _ D.TOz.symm (s4.extBut _ _ D.i2z.symm (s3.extBut _ _ D.TOz.symm (s2.extBut _ _ D.i1z.symm y1)))
 have k5:∀ c o,c ≠ z->c ≠ TO->c ≠ i1->c ≠ i2->s.heap.get? c=some o->h5.get? c=some o:=fun c o c1 c2 c3 c4 e=>s5.extBut _ _ c2 (s4.extBut _ _ c4 (s3.extBut _ _ c2 (s2.extBut _ _ c3 (s1.extBut _ _ c1 e))))
 have m1:h5.IsTupleIter i1 a1 (k+1):=n1.at fun o e=>s5.extBut _ _ D.TOi1.symm (s4.extBut _ _ D.i12 (s3.extBut _ _ D.TOi1.symm e))
 have m2:h5.IsTupleIter i2 a2 (k+1):=n2.at fun o e=>s5.extBut _ _ D.TOi2.symm e
 have lz:z<h5.objs.size:=Heap.lt_size y5
 refine (show wpAny _ _ (Builtin.SmallTypes.ownedTupleHandOut (.ref z) (.ref h5.objs.size) >>= _) _ _ _ from wpAny_bind ?_)
 unfold Builtin.SmallTypes.ownedTupleHandOut
 have y6:IsZip (h5.push { cls:=.type "tuple",data:=.seq #[x,y] }) z TI TO .ellipsis:=Heap.get?_push_of_some _ y5
 refine wpAny_bind (wpAny_setField_rec y6 (by simp) fun h7 p7 s7=>?_)
 have y7:IsZip h7 z TI TO (rawInt h5.objs.size):=p7
 refine wpAny_setField_rec y7 (by simp) fun h8 p8 s8=>?_
 have y8:IsZip h8 z TI TO (rawInt h5.objs.size):=p8
 have up:∀ c o,c ≠ z->h5.get? c=some o->h8.get? c=some o:=fun c o c1 e=>s8.extBut _ _ c1 (s7.extBut _ _ c1 (Heap.get?_push_of_some _ e))
 have t8:IsPair h8 h5.objs.size x y:=s8.extBut _ _ (Nat.ne_of_gt lz) (s7.extBut _ _ (Nat.ne_of_gt lz) (Heap.get?_push_size _ rfl))
 have z8:h8.objs.size=h5.objs.size+1:=by rw [s8.1,s7.1,Heap.size_push]
 rw [zs] at y8 t8 z8
 refine wpAny_pure ⟨_,rfl,?_⟩
 show Q (.ref h5.objs.size) _
 rw [zs]
 exact q h8 y8 (up _ _ D.TOz o5) (m1.at fun o e=>up _ o D.i1z e) (m2.at fun o e=>up _ o D.i2z e) t8 z8 fun c o c1 c2 c3 c4 e=>up c o c1 (k5 c o c1 c2 c3 c4 e)
theorem Tv {z TI TO i1 i2 a1 a2:Addr} {k:Nat} {xs:Array Value} {a b:Value} {Q:Fin->Shared->Prop} (hh:A.handled=none) (D:ZipApart z TI TO i1 i2 a1 a2)
  (hz:IsZip s.heap z TI TO .none) (hI:IsPair s.heap TI (.ref i1) (.ref i2)) (hO:IsPair s.heap TO a b)
  (j1:s.heap.IsTupleIter i1 a1 k) (t1:s.heap.IsTuple a1 xs) (hx:xs[k]? = none)
  (q:∀ h' e,(∀ c o,c ≠ z->c ≠ TO->c ≠ i1->c ≠ i2->s.heap.get? c=some o->h'.get? c=some o)->(∃ o,h'.get? e=some o/\o.cls=.type "StopIteration")->E (.ref e) { s with heap:=h' }) :
  wpAny (model prog w) A (Builtin.«zip.__next__» ⟨[.ref z],[]⟩) Q E s:=by
 refine (show wpAny _ _ (field (.ref z) 2 >>= _) _ _ _ from wpAny_bind (wpAny_field hz rfl (x:=.bool false) rfl (show wpAny _ _ (field (.ref z) 3 >>= _) _ _ _ from wpAny_bind (wpAny_field hz rfl (x:=.ref TI) rfl (wpAny_bind (wpAny_seqItems hI rfl ?_))))))
 refine (show wpAny _ _ (Builtin.SmallTypes.ownedTupleIsFree (.ref z) >>= _) _ _ _ from wpAny_bind ?_)
 unfold Builtin.SmallTypes.ownedTupleIsFree
 refine wpAny_bind (wpAny_field hz rfl (x:=.none) rfl (wpAny_pure ?_))
 simp only [if_true]
 refine wpAny_bind (wpAny_rule (wpAny_bind (wpAny_field hz rfl (x:=.ref TO) rfl (wpAny_bind (wpAny_setField_rec hz (by simp) fun h1 z1 s1=>?_)))))
 have y1:IsZip h1 z TI TO .ellipsis:=z1
 refine wpAny_bind ?_
 simp only [List.zipIdx_cons,List.zipIdx_nil,List.forIn_cons,List.forIn_nil]
 refine wpAny_bind (wpAny_bind (wpAny_onRaise (show wpAny _ _ (Builtin.SmallTypes.nextOf (.ref i1) >>= _) _ _ _ from wpAny_bind (Jg hh (j1.at fun o e=>s1.extBut _ _ D.i1z e) (t1.at fun o e=>s1.extBut _ _ D.l1z e) hx fun h2 x s2 hx2=>?_))))
 obtain ⟨ox,ex,cx⟩:=hx2
 have y2:IsZip h2 z TI TO .ellipsis:=s2 _ _ D.i1z.symm y1
 have nz:x ≠ z:=fun u=>by subst u; rw [y2] at ex; cases ex; simp at cx
 exact wpAny_setField_rec y2 (by simp) fun h3 _ s3=>q h3 x (fun c o c1 _ c3 _ e=>s3.extBut _ _ c1 (s2 _ _ c3 (s1.extBut _ _ c1 e))) ⟨ox,s3.extBut _ _ nz ex,cx⟩
end
noncomputable abbrev gH (h:Heap) (a1:Addr):Heap:=h.push { cls:=.type "tuple_iterator",data:=.fields #[.ref a1,.int 0 0] }
noncomputable abbrev fO (h:Heap) (a1 a2:Addr):Heap:=(gH h a1).push { cls:=.type "tuple_iterator",data:=.fields #[.ref a2,.int 0 0] }
noncomputable abbrev gD (h:Heap) (a1 a2:Addr):Heap:=(fO h a1 a2).push { cls:=.type "tuple",data:=.seq #[.ref h.objs.size,.ref (gH h a1).objs.size] }
noncomputable abbrev eZ (h:Heap) (a1 a2:Addr):Heap:=(gD h a1 a2).push { cls:=.type "tuple",data:=.seq #[.none,.none] }
noncomputable abbrev XF (h:Heap) (a1 a2:Addr):Heap:=(eZ h a1 a2).push { cls:=.type "zip",data:=.fields #[.none,.bool false,.bool false,.ref (fO h a1 a2).objs.size,.ref (gD h a1 a2).objs.size] }
theorem Ra (a1 a2:Addr) (xs ys:Array Value):Meets (Builtin.«zip.__new__» ⟨[.type "zip",.ref a1,.ref a2],[]⟩) (fun _ R s=>s.heap.IsTuple a1 xs/\s.heap.IsTuple a2 ys /\
   R (.ok (.ret (.ref (eZ s.heap a1 a2).objs.size))) { s with heap:=XF s.heap a1 a2 }) :=
 .of_wp fun prog w A R s h=>by
  obtain ⟨hp,g,d,tk,os⟩:=s
  obtain ⟨t1,t2,h⟩:=h
  have hsub:=sub_zip
  have u1:Heap.IsTuple (Shared.heap ⟨hp,g,d,tk,os⟩) a1 xs:=t1
  have u2:Heap.IsTuple (Shared.heap ⟨hp.push { cls:=.type "tuple_iterator",data:=.fields #[.ref a1,.int 0 0] },g,d,tk,os⟩) a2 ys:=Heap.IsTuple.at t2 fun o e=>Heap.get?_push_of_some _ e
  wp_walk using wpAny_pyIter_tuple u1,wpAny_pyIter_tuple u2
  exact ⟨_,rfl,h⟩
section
variable {prog:Program} {w:World} {A:Around} {E:Value->Shared->Prop} {s:Shared}
theorem QJ {a1 a2:Addr} {xs ys:Array Value} {Q:Value->Shared->Prop} (t1:s.heap.IsTuple a1 xs) (t2:s.heap.IsTuple a2 ys)
  (q:∀ h' n,n=s.heap.objs.size->IsZip h' (n+4) (n+2) (n+3) .none->IsPair h' (n+2) (.ref n) (.ref (n+1))->IsPair h' (n+3) .none .none->h'.IsTupleIter n a1 0->h'.IsTupleIter (n+1) a2 0->h'.objs.size=n+5 ->
   (∀ c o,s.heap.get? c=some o->h'.get? c=some o)->Q (.ref (n+4)) { s with heap:=h' }):wpAny (model prog w) A (call (.type "zip") [.ref a1,.ref a2]) Q E s:=by
 refine callType_new F.called_zip (by decide) (F.typeCall_zip_2 _ _) (F.newCall_zip_2 _ _) (fun obj=>F.args_object_init_3 obj _ _) F.entry_zip_new (Ra a1 a2 xs ys) ⟨t1,t2,?_⟩
 have z1:(gH s.heap a1).objs.size=s.heap.objs.size+1:=Heap.size_push ..
 have z2:(fO s.heap a1 a2).objs.size=s.heap.objs.size+2:=by rw [Heap.size_push,z1]
 have z3:(gD s.heap a1 a2).objs.size=s.heap.objs.size+3:=by rw [Heap.size_push,z2]
 have z4:(eZ s.heap a1 a2).objs.size=s.heap.objs.size+4:=by rw [Heap.size_push,z3]
 have z5:(XF s.heap a1 a2).objs.size=s.heap.objs.size+5:=by rw [Heap.size_push,z4]
 have g5:(XF s.heap a1 a2).get? (eZ s.heap a1 a2).objs.size=some _:=Heap.get?_push_size _ rfl
 have g4:(XF s.heap a1 a2).get? (gD s.heap a1 a2).objs.size=some _:=Heap.get?_push_of_some _ (Heap.get?_push_size _ rfl)
 have g3:(XF s.heap a1 a2).get? (fO s.heap a1 a2).objs.size=some _:=Heap.get?_push_of_some _ (Heap.get?_push_of_some _ (Heap.get?_push_size _ rfl))
 have g2:(XF s.heap a1 a2).get? (gH s.heap a1).objs.size=some _:=Heap.get?_push_of_some _ (Heap.get?_push_of_some _ (Heap.get?_push_of_some _ (Heap.get?_push_size _ rfl)))
 have g1:(XF s.heap a1 a2).get? s.heap.objs.size=some _:=Heap.get?_push_of_some _ (Heap.get?_push_of_some _ (Heap.get?_push_of_some _ (Heap.get?_push_of_some _ (Heap.get?_push_size _ rfl))))
 refine (show _/\_ from ?_)
 rw [z2,z3,z4] at g5
 rw [z1,z2] at g3
 rw [z3] at g4
 rw [z1] at g2
 rw [z4]
 exact ⟨⟨_,g5,rfl⟩,q _ _ rfl g5 g3 g4 ⟨_,g1,rfl,rfl⟩ ⟨_,g2,rfl,rfl⟩ z5 fun c o e=>Heap.get?_push_of_some _ (Heap.get?_push_of_some _ (Heap.get?_push_of_some _ (Heap.get?_push_of_some _ (Heap.get?_push_of_some _ e))))⟩
end
end L2
namespace L2
open PySem PySem.Spec PyProof.Rows
noncomputable def Cm (env:Env):List (Str × NameKind)->List (Str × Addr)->List (Str × Addr)
 | [],acc=>acc
 | (n,k)::r,acc=>if k == .free then (match env.cells.lookup n with | some a=>Cm env r ((n,a)::acc) | none=>Cm env r acc) else Cm env r acc
theorem G9 {scope:Scope} {env:Env} (h:∀ y∈scope.names,y.2=.free->∃ c,env.cells.lookup y.1=some c):closureFor scope env=pure (Cm env scope.names []):=by
 unfold closureFor
 have key:∀ (l:List (Str × NameKind)) (acc:List (Str × Addr)),(∀ y∈l,y.2=.free->∃ c,env.cells.lookup y.1=some c) ->
   (forIn l acc fun (x:Str × NameKind) (cs:List (Str × Addr))=>(match x with | (name,kind)=>if (kind == NameKind.free)=true then (do let a ← cellOf env name; pure (ForInStep.yield ((name,a)::cs))) else pure (ForInStep.yield cs):Sem (ForInStep (List (Str × Addr)))))=(pure (Cm env l acc):Sem _):=by
  intro l
  induction l with
  | nil=>intro acc _; rfl
  | cons x r ih =>
   intro acc hl
   obtain ⟨n,k⟩:=x
   rw [List.forIn_cons]
   unfold Cm
   by_cases hk:(k == NameKind.free)=true
   ·obtain ⟨c,hc⟩:=hl (n,k) List.mem_cons_self (by simpa using hk)
    have hc':env.cells.lookup n=some c:=hc
    have e:cellOf env n=pure c:=by unfold cellOf; rw [hc']
    simp only [hk,if_true,e,hc']
    exact ih _ fun y hy=>hl y (List.mem_cons_of_mem _ hy)
   ·simp only [hk]
    exact ih _ fun y hy=>hl y (List.mem_cons_of_mem _ hy)
 have:=key scope.names [] h
 exact (congrArg (fun (m:Sem (List (Str × Addr)))=>m >>= fun z=>pure z) this).trans rfl
theorem Fo (env:Env):∀ (l:List (Str × NameKind)) (acc:List (Str × Addr)) (y:Str) (c:Addr),(Cm env l acc).lookup y=some c->acc.lookup y=some c \/ env.cells.lookup y=some c
 | [],_,_,_,h=>.inl h
 | (n,k)::r,acc,y,c,h=>by
  unfold Cm at h
  split at h
  ·split at h
   ·rename_i a ha
    rcases Fo env r _ y c h with z | z
    ·rw [List.lookup_cons] at z
     split at z
     ·rename_i e
      cases z
      have e':y=n:=by simpa using e
      subst e'
      exact .inr ha
     ·exact .inl z
    ·exact .inr z
   ·exact Fo env r _ y c h
  ·exact Fo env r _ y c h
theorem Gu (env:Env):∀ (l:List (Str × NameKind)) (acc:List (Str × Addr)) (y:Str),(acc.lookup y).isSome=true->((Cm env l acc).lookup y).isSome=true
 | [],_,_,h=>h
 | (n,k)::r,acc,y,h=>by
  unfold Cm
  split
  ·split
   ·refine Gu env r _ y ?_
    rw [List.lookup_cons]
    split
    ·rfl
    ·exact h
   ·exact Gu env r _ y h
  ·exact Gu env r _ y h
theorem Dv (env:Env):∀ (l:List (Str × NameKind)) (acc:List (Str × Addr)) (y:Str),(y,NameKind.free)∈l->(env.cells.lookup y).isSome=true->((Cm env l acc).lookup y).isSome=true
 | [],_,_,h,_=>nomatch h
 | (n,k)::r,acc,y,h,hc=>by
  unfold Cm
  rcases List.mem_cons.mp h with e | h
  ·obtain ⟨e1,e2⟩:=Prod.mk.inj e
   subst e1
   subst e2
   rw [if_pos (by decide)]
   split
   ·refine Gu env r _ y ?_
    rw [List.lookup_cons]
    simp
   ·rename_i e
    rw [e] at hc
    cases hc
  ·split
   ·split
    ·exact Dv env r _ y h hc
    ·exact Dv env r _ y h hc
   ·exact Dv env r _ y h hc
end L2
namespace L2
open PySem PySem.Spec PyProof.Rows
noncomputable def G4 (x:Str) (N:List Str):List Str:=N.map fun y=>if y=x then "" else y
noncomputable def B_ (X:Cx) (x:Str) (scope:Scope) (C:Addr) (s₀:Shared) (H₀:Hp) (fp:List Addr):Cx where
 prog:=X.prog
 w:=X.w
 K:=X.K
 mg:=X.mg
 base:=X.base
 A:=X.A
 N:=x::G4 x X.N
 s₀:=s₀
 H₀:=H₀
 env:=compEnvC scope (Cm X.env scope.names []) C X.env
 outer:=X.stack
 stack:=X.stack
 ex:=fp
 fn:=fun _=>false
 calm:=X.calm
 pn:=[]
 xe:=fun _ _=>False
theorem Ep (env:Env) (y:Str):∀ names:List (Str × NameKind),
  (names.map fun (n,k)=>if (k == NameKind.free && env.scope.kind == .function && env.kindOf n == some .cell) then (n,NameKind.cell) else (n,k)).lookup y =
   (names.lookup y).map fun k=>if (k == NameKind.free && env.scope.kind == .function && env.kindOf y == some .cell) then NameKind.cell else k
 | []=>rfl
 | (n,k)::r=>by
  have ih:=Ep env y r
  rw [List.map_cons]
  show List.lookup y ((if (k == NameKind.free && env.scope.kind == .function && env.kindOf n == some .cell)=true then (n,NameKind.cell) else (n,k))::_)=_
  have e0:(if (k == NameKind.free && env.scope.kind == .function && env.kindOf n == some .cell)=true then (n,NameKind.cell) else (n,k))=(n,if (k == NameKind.free && env.scope.kind == .function && env.kindOf n == some .cell)=true then NameKind.cell else k):=by split <;> rfl
  rw [e0,List.lookup_cons,List.lookup_cons]
  cases hx:y == n with
  | true =>
   have e:y=n:=by simpa using hx
   subst e
   rfl
  | false=>exact ih
structure Fq (X:Cx) (x:Str) (scope:Scope):Prop where
 kind:scope.kind=.function
 nocell:∀ y∈scope.names,y.2 ≠ .cell
 names:∀ y∈scope.names,y.2=.local->scope.names.lookup y.1=some .local
 loc:scope.names.lookup x=some .local
 free:∀ y∈scope.names,y.2=.free->X.env.kindOf y.1=some .cell \/ X.env.kindOf y.1=some .free
 nd:(x::G4 x X.N).Nodup
 only:∀ y∈G4 x X.N,scope.names.lookup y ≠ some .local
 noE:scope.names.lookup ("" : Str)=none
section
variable {X:Cx} {pins:List (Addr × Obj)} {σ:St} {H:Hp} {s:Shared} {x:Str} {scope:Scope} {fp:List Addr} {C:Addr}
theorem Nt {h':Heap} {tk:Nat} {m:Str->Option Value} (I:Inv X pins σ H s) (S:Fq X x scope) (hf:∀ b∈fp,Ft X pins H b) (hlt:∀ b∈fp,b<s.heap.objs.size) (hC:s.heap.objs.size<=C) (hn:h'.Ns C m)
  (hk:∀ b o,s.heap.get? b=some o->h'.get? b=some o):Inv (B_ X x scope C s H fp) [] (none::σ) H { s with heap:=h',toks:=tk }:=by
 have cl:∀ y c,(Cm X.env scope.names []).lookup y=some c->X.env.cells.lookup y=some c:=fun y c e=>by
  rcases Fo X.env scope.names [] y c e with z | z
  ·cases z
  ·exact z
 have cellK:∀ c v,s.heap.IsCell c v->h'.IsCell c v:=fun c v ⟨o,ho,hd⟩=>⟨o,hk c o ho,hd⟩
 have look:∀ y,(B_ X x scope C s H fp).env.scope.names.lookup y=(scope.names.lookup y).map fun k=>if (k == NameKind.free && X.env.scope.kind == .function && X.env.kindOf y == some .cell) then NameKind.cell else k:=fun y=>Ep X.env y scope.names
 refine ⟨⟨I.ok.mod,S.kind,I.ok.glob,I.ok.blt,hC,fun y z c e1 e2=>I.ok.inj y z c (cl y c e1) (cl z c e2),fun y hy=>?_,fun y c e _=>(by cases e),fun h=>I.ok.hd h,I.ok.frames,.inl rfl,fun b hb=>?_,I.bs,Nat.le_trans I.ok.bsz I.sz,fun b o e hb=>?_,fun b hb hb'=>?_,I.stack,I.Gx⟩,
  rfl,I.bare,Un.kept hk,⟨m,hn,fun i y v h1 h2 h3=>?_⟩,fun y c e=>?_,I.hok.fresh hC,fun y c e=>I.freeC y c (cl y c e),fun p hp=>absurd (show p∈([]:List (Addr × Obj)) from hp) (by simp),I.hok.kept hk,?_⟩
 ·-- every cell of the block is there
  have hy':(B_ X x scope C s H fp).env.scope.names.lookup y=some .cell \/ (B_ X x scope C s H fp).env.scope.names.lookup y=some .free:=hy
  rw [look y] at hy'
  cases e:scope.names.lookup y with
  | none=>rw [e] at hy'; rcases hy' with z | z <;> cases z
  | some k =>
   have hm:=PySem.mem_of_lookup e
   have hfree:k=.free:=by
    rw [e] at hy'
    cases k with
    | free=>rfl
    | cell=>exact absurd rfl (S.nocell _ hm)
    | _=>rcases hy' with z | z <;> simp at z
   subst hfree
   obtain ⟨c,hc⟩:=I.ok.has y (S.free _ hm rfl)
   exact Option.isSome_iff_exists.mp (Dv X.env scope.names [] y hm (by rw [hc]; rfl))
 ·obtain ⟨f0,f1,f2,f3,f4,f5⟩:=hf b hb
  exact ⟨Nat.ne_of_lt (Nat.lt_of_lt_of_le (hlt b hb) hC),fun y c e=>f4 y c (cl y c e)⟩
 ·obtain ⟨f0,f1,f2,f3,f4,f5⟩:=hf b hb
  rcases f3 with z | z
  ·exact I.ok.noex b o e z
  ·exact absurd (Nat.lt_of_lt_of_le (Heap.lt_size e) (Nat.le_trans I.ok.bsz z)) (Nat.lt_irrefl _)
 ·obtain ⟨f0,f1,f2,f3,f4,f5⟩:=hf b hb
  rcases List.mem_cons.mp (I.K_ b hb') with e | e
  ·exact f1 e
  ·exact f2 e
 ·cases i with
  | zero =>
   have h2':(some none:Option (Option V))=some (some v):=h2
   cases h2'
  | succ i =>
   have h1':(G4 x X.N)[i]? = some y:=h1
   have h2':σ[i]? = some (some v):=h2
   have hmem:y∈G4 x X.N:=List.mem_of_getElem? h1'
   unfold G4 at h1'
   rw [List.getElem?_map] at h1'
   cases e0:X.N[i]? with
   | none=>rw [e0] at h1'; cases h1'
   | some y0 =>
    rw [e0] at h1'
    have h1'':(if y0=x then ("" : Str) else y0)=y:=Option.some.inj h1'
    have h3':(B_ X x scope C s H fp).env.scope.names.lookup y=some .local \/ (B_ X x scope C s H fp).env.scope.names.lookup y=some .cell \/ (B_ X x scope C s H fp).env.scope.names.lookup y=some .free:=h3
    rw [look y] at h3'
    have hy0:y0=y:=by
     by_cases q:y0=x
     ·rw [if_pos q] at h1''
      rw [← h1'',S.noE] at h3'
      rcases h3' with z | z | z <;> cases z
     ·rw [if_neg q] at h1''
      exact h1''
    subst hy0
    cases e:scope.names.lookup y0 with
    | none=>rw [e] at h3'; rcases h3' with z | z | z <;> cases z
    | some k =>
     have hm:=PySem.mem_of_lookup e
     have hfree:k=.free:=by
      rw [e] at h3'
      cases k with
      | free=>rfl
      | cell=>exact absurd rfl (S.nocell _ hm)
      | «local»=>exact absurd e (S.only y0 hmem)
      | _=>rcases h3' with z | z | z <;> simp at z
     subst hfree
     have kd:=S.free _ hm rfl
     obtain ⟨m0,hn0,hl0⟩:=I.loc
     obtain ⟨u,r,l⟩:=hl0 i y0 v e0 h2' (by rcases kd with z | z; exact .inr (.inl z); exact .inr (.inr z))
     refine ⟨u,r,.inr ⟨?_,?_⟩⟩
     ·have hk':(B_ X x scope C s H fp).env.scope.names.lookup y0=some (if (NameKind.free == NameKind.free && X.env.scope.kind == .function && X.env.kindOf y0 == some .cell) then NameKind.cell else NameKind.free):=by
       rw [look y0,e]; rfl
      by_cases c:(NameKind.free == NameKind.free && X.env.scope.kind == .function && X.env.kindOf y0 == some .cell)=true
      ·rw [if_pos c] at hk'; exact .inl hk'
      ·rw [if_neg c] at hk'; exact .inr hk'
     ·rcases l with ⟨lk,_⟩ | ⟨_,c,hc,hcell⟩
      ·exfalso
       rcases kd with z | z <;> (rw [show X.env.kindOf y0=some NameKind.local from lk] at z; cases z)
      ·obtain ⟨c',hc'⟩:=Option.isSome_iff_exists.mp (Dv X.env scope.names [] y0 hm (by rw [hc]; rfl))
       have:=cl y0 c' hc'
       rw [hc] at this
       cases this
       exact ⟨c,hc',cellK c _ hcell⟩
 ·obtain ⟨v,z⟩:=I.cell y c (cl y c e)
  exact ⟨v,cellK c v z⟩
 ·show (none::σ).length=(x::G4 x X.N).length
  simp [G4,I.len]
end
noncomputable def Ld (X:Cx) (ifs:List Expr) (t:TT):Prop :=
 ∀ (pins:List (Addr × Obj)) (s:Shared) (σ:St) (H:Hp) (Q:Bool->Hp->Prop),Inv X pins σ H s->t σ H Q ->
  wpAny (model X.prog X.w) X.A (forIn ifs true fun c r=>if r=true then do let ok ← isTrue c X.env (eval c X.env); pure (ForInStep.yield ok) else pure (ForInStep.yield r)) (TP X pins σ Q) X.xe s
noncomputable def VP:TT:=fun _ H Q=>Q true H
theorem CK {X:Cx}:Ld X [] VP:=fun _ _ _ H _ I h=>wpAny_tests_nil ⟨H,I,h⟩
theorem Im {X:Cx} {c:Expr} {t:TT} (h:PT X c t):Ld X [c] t:=fun pins s σ H Q I q=>wpAny_tests_one (h pins s σ H Q I q)
noncomputable def Fw (J:It) (σ:St) (H1:Hp) (Q:VK) (tt:TT) (te:TE):Prop:=∀ D,H1 D=none->∃ W:Nat->Nat->List V->Hp->Prop,(∃ m,W 0 m [] (upd H1 D (.lst [])))/\∀ i m ys H2,W i m ys H2 ->
 (J.stop i H2/\Q (.ref D) H2) \/ (J.go i H2/\∀ x H3,J.yld i H2 x H3->tt (some x::σ) H3 fun b H4 =>
  if b=true then te (some x::σ) H4 fun y H5=>H5 D=some (.lst ys)/\ys.length<sizeLine/\∃ m',m'<m/\W (i+1) m' (ys++[y]) (upd H5 D (.lst (ys++[y])))
  else ∃ m',m'<m/\W (i+1) m' ys H4)
noncomputable def WD (wi:TI) (tt:TT) (te:TE):TE:=fun σ H Q=>wi σ H fun J H1=>Fw J σ H1 Q tt te
theorem Nr {α:Type} {t:Sem α} {Q Q':α->Shared->Prop} {M:Model} {A:Around} {E:Value->Shared->Prop} {s:Shared} (h:wpAny M A t Q (fun _ _=>False) s) (hQ:∀ a s,Q a s->Q' a s):wpAny M A t Q' E s:=wpAny_mono h hQ fun _ _ x=>x.elim
theorem Inv.sameBut {X:Cx} {pins:List (Addr × Obj)} {σ:St} {H:Hp} {s:Shared} {h':Heap} {C:Addr} (I:Inv X pins σ H s) (f:Ft X pins H C) (sb:Heap.SameBut C s.heap h'):Inv X pins σ H { s with heap:=h' } :=
 I.turned (t':=s.toks) (fun b o hb e=>(sb.2 b hb).trans e) f.1 f.2.1 f.2.2.2.1 f.2.2.2.2.1 f.2.2.2.2.2
section
variable {X:Cx} {x:Str} {scope:Scope}
theorem Js {px pos:Pos} {iter elt:Expr} {ifs:List Expr} {tt:TT} {te:TE} {pins:List (Addr × Obj)} {σ:St} {s2:Shared} {H2:Hp} {it:Addr} {fp:List Addr} {tn:Nat->Heap->Prop} {J:It} {E:Value->Shared->Prop}
  {RR:Value->Addr->Result->Shared->Prop} {Q:VK}
  (hc:X.calm=true) (S:Fq X x scope) (ht:∀ C s₀ H₀ fp,Ld (B_ X x scope C s₀ H₀ fp) ifs tt) (he:∀ C s₀ H₀ fp,PE (B_ X x scope C s₀ H₀ fp) elt te)
  (I2:Inv X pins σ H2 s2) (T:Turn X.prog X.w X.K (.Name x px) J fp it tn) (st2:tn 0 s2.heap) (f2:∀ b∈fp,Ft X pins H2 b)
  (q:∀ D,H2 D=none->∃ W:Nat->Nat->List V->Hp->Prop,(∃ m,W 0 m [] (upd H2 D (.lst [])))/\∀ i m ys H2,W i m ys H2 ->
   (J.stop i H2/\Q (.ref D) H2) \/ (J.go i H2/\∀ x H3,J.yld i H2 x H3->tt (some x::σ) H3 fun b H4 =>
    if b=true then te (some x::σ) H4 fun y H5=>H5 D=some (.lst ys)/\ys.length<sizeLine/\∃ m',m'<m/\W (i+1) m' (ys++[y]) (upd H5 D (.lst (ys++[y])))
    else ∃ m',m'<m/\W (i+1) m' ys H4))
  (hRR:∀ D C s' H' m,s'.heap.Ns C m->Ft X pins H' C->Inv X pins σ H' s'->Q (.ref D) H'->RR (.ref D) C (.ok .next) s') :
  wpAny (model X.prog X.w) X.A (newList []) (fun acc s₃=>wpAny (model X.prog X.w) X.A (newFunctionEnv scope X.env.globals (Cm X.env scope.names []) [] X.env.qual none .none (some X.env)) (fun cenv s₄ =>
   codeAny (model X.prog X.w) X.A (.compStart (.ListComp elt [⟨.Name x px,iter,ifs,0⟩] scope pos) 0 (.ref it) acc { cenv with scope:=relabel scope X.env }) (RR acc cenv.locals) s₄) E s₃) E s2:=by
 refine wpAny_newObj_type (wpAny_newFunctionEnv S.nocell (by intro y hy; simp at hy) (fun h₁ hns₁ hsb₁=>?_) S.kind)
 have I3:=I2.VM (its:=[]) (ys:=[]) (t':=s2.toks) .nil (Nat.zero_le _)
 have hD0:H2 s2.heap.objs.size=none:=I2.fresh
 obtain ⟨W,⟨m0,w0⟩,turn⟩:=q _ hD0
 generalize hs3:({ s2 with heap:=s2.heap.push { cls:=.type "list",data:=.seq ([]:List Value).toArray },toks:=s2.toks }:Shared)=s3 at I3
 have e3:s3.heap=s2.heap.push { cls:=.type "list",data:=.seq ([]:List Value).toArray }:=by rw [← hs3]
 have hlt:∀ b∈fp,b<s2.heap.objs.size:=fun b hb=>let ⟨_,e,_⟩:=T.obj _ _ st2 b hb; Heap.lt_size e
 have hlt3:∀ b∈fp,b<s3.heap.objs.size:=fun b hb=>by rw [e3,Heap.size_push]; exact Nat.lt_succ_of_lt (hlt b hb)
 have f3:∀ b∈fp,Ft X pins (upd H2 s2.heap.objs.size (.lst [])) b:=fun b hb=>⟨by rw [Aq (Nat.ne_of_lt (hlt b hb))]; exact (f2 b hb).1,(f2 b hb).2⟩
 have hk1:∀ b o,s3.heap.get? b=some o->h₁.get? b=some o:=fun b o e=>by
  have hne:b ≠ s3.heap.objs.size:=Nat.ne_of_lt (Heap.lt_size e)
  rw [e3] at e hne
  exact hsb₁.extBut b o hne (Heap.get?_push_of_some _ e)
 have hC:s3.heap.objs.size=(s2.heap.push { cls:=.type "list",data:=.seq ([]:List Value).toArray }).objs.size:=by rw [e3]
 have hns:h₁.Ns s3.heap.objs.size (fun x=>([]:List (Str × Value)).reverse.lookup x):=by rw [hC]; exact hns₁
 have st3:tn 0 h₁:=T.keep _ _ _ st2 fun b hb o e=>hk1 b o (by rw [e3]; exact Heap.get?_push_of_some _ e)
 have hDC:s2.heap.objs.size ≠ s3.heap.objs.size:=by rw [e3,Heap.size_push]; exact Nat.ne_of_lt (Nat.lt_succ_self _)
 have start:∀ tk,Inv (B_ X x scope s3.heap.objs.size s3 (upd H2 s2.heap.objs.size (.lst [])) fp) [] (none::σ) (upd H2 s2.heap.objs.size (.lst [])) { s3 with heap:=h₁,toks:=tk }:=fun tk =>
  Nt I3 S f3 hlt3 (Nat.le_refl _) hns hk1
 generalize hX:B_ X x scope s3.heap.objs.size s3 (upd H2 s2.heap.objs.size (.lst [])) fp=X' at start
 have eA:X'.A=X.A:=by rw [← hX]; rfl
 have eP:X'.prog=X.prog:=by rw [← hX]; rfl
 have eW:X'.w=X.w:=by rw [← hX]; rfl
 have eK:X'.K=X.K:=by rw [← hX]; rfl
 have eC:X'.env.locals=s3.heap.objs.size:=by rw [← hX]; rfl
 have loop:∀ tk,codeAny (model X.prog X.w) X.A (.compLoop (.ListComp elt [⟨.Name x px,iter,ifs,0⟩] scope pos) 0 (.ref it) (.ref s2.heap.objs.size) (compEnvC scope (Cm X.env scope.names []) s3.heap.objs.size X.env))
   (RR (.ref s2.heap.objs.size) s3.heap.objs.size) { s3 with heap:=h₁,toks:=tk }:=by
  intro tk
  subst hX
  refine codeAny_compLoop_tests (fun n s'=>∃ i ys v0 H',Inv (B_ X x scope s3.heap.objs.size s3 (upd H2 s2.heap.objs.size (.lst [])) fp) [] (v0::σ) H' s'/\tn i s'.heap/\(∀ b∈fp,H' b=none)/\W i n ys H') ?_ m0
   ⟨0,[],none,_,start tk,st3,fun b hb=>(f3 b hb).1,w0⟩
  rintro n s4 ⟨i,ys,v0,H4,I4,st4,fr4,w4⟩
  have stat:∀ {H':Hp},(∀ b∈fp,H' b=none)->∀ b∈fp,Ft (B_ X x scope s3.heap.objs.size s3 (upd H2 s2.heap.objs.size (.lst [])) fp) [] H' b:=fun hn b hb=>by
   refine ⟨hn b hb,(I4.ok.exf b hb).1,I4.ok.exfs b hb,.inl hb,(I4.ok.exf b hb).2,fun p hp=>absurd (show p∈([]:List (Addr × Obj)) from hp) (by simp)⟩
  rcases turn i n ys H4 w4 with ⟨stop,qn⟩ | ⟨go,step⟩
  ·refine Br (T.done (B_ X x scope s3.heap.objs.size s3 (upd H2 s2.heap.objs.size (.lst [])) fp) rfl rfl rfl hc i [] s4 (v0::σ) H4 _ I4 (stat fr4) st4 stop) fun r s5 ⟨hr,I5⟩=>?_
   subst hr
   obtain ⟨m,hn,_⟩:=I5.loc
   refine hRR _ _ s5 H4 m hn (I3.J2 (Nat.le_refl _) I5.free) (I3.call' (s':=s5) (ch:=fp) I5.os I5.base I5.hok I5.bare (fun b hb=>?_)) qn
   obtain ⟨_,g1,_,g3,g4,g5⟩:=f3 b hb
   exact ⟨g3,g1,g4,g5⟩
  ·refine Br (T.item (B_ X x scope s3.heap.objs.size s3 (upd H2 s2.heap.objs.size (.lst [])) fp) rfl rfl rfl hc i [] s4 (v0::σ) H4 _ I4 (stat fr4) st4 go) fun r s5 ⟨u,hr,h5⟩=>?_
   subst hr
   intro Γ p hΓ
   obtain ⟨xv,H6,I6,r6,y6,st6,fr6⟩:=h5 Γ p hΓ
   refine (?_:wpAny _ _ _ _ _ _) Γ p hΓ
   have I6':=I6.pinned (stat fr6) (T.obj _ _ st6)
   have hloc:(B_ X x scope s3.heap.objs.size s3 (upd H2 s2.heap.objs.size (.lst [])) fp).env.scope.names.lookup x=some .local:=lookup_relabel_local S.loc
   have again:∀ {s7:Shared} {H7:Hp} {ys':List V},Inv (B_ X x scope s3.heap.objs.size s3 (upd H2 s2.heap.objs.size (.lst [])) fp) ([]++Ia fp s5.heap) (some xv::σ) H7 s7->(∃ m',m'<n/\W (i+1) m' ys' H7) ->
     ∃ m,m<n/\∃ i ys v0 H',Inv (B_ X x scope s3.heap.objs.size s3 (upd H2 s2.heap.objs.size (.lst [])) fp) [] (v0::σ) H' s7/\tn i s7.heap/\(∀ b∈fp,H' b=none)/\W i m ys H':=fun {s7 H7 ys'} I7 hw=>by
    obtain ⟨m',hm,w7⟩:=hw
    refine ⟨m',hm,i+1,ys',some xv,H7,I7.Gk,T.keep _ _ _ st6 fun b hb o e=>(I7.pin (b,o) (List.mem_append_right _ (List.mem_append_right _ (Ds hb e)))).1,fun b hb=>?_,w7⟩
    obtain ⟨o,e,d⟩:=T.obj _ _ st6 b hb
    exact (I7.pin (b,o) (List.mem_append_right _ (List.mem_append_right _ (Ds hb e)))).2.1
   refine wpAny_assign_Name (HY (X:=B_ X x scope s3.heap.objs.size s3 (upd H2 s2.heap.objs.size (.lst [])) fp) (i:=0) I6' S.nd rfl (.inl hloc) r6 (fun s7 I7=>?_) (.inr hloc))
   refine Nr (ht _ _ _ _ _ s7 (some xv::σ) H6 _ I7 (step xv H6 y6)) fun b s8 hq0=>?_
   obtain ⟨H8,I8,q8⟩:=hq0
   cases b with
   | false =>
    rw [if_neg Bool.false_ne_true] at q8 ⊢
    exact again I8 q8
   | true =>
    rw [if_pos rfl] at q8 ⊢
    refine Nr (he _ _ _ _ _ s8 (some xv::σ) H8 _ I8 q8) fun y s9 hq0=>?_
    obtain ⟨yv,H9,I9,r9,hD9,hz9,q9⟩:=hq0
    refine Nr (El (X:=B_ X x scope s3.heap.objs.size s3 (upd H2 s2.heap.objs.size (.lst [])) fp) _ s9 (some xv::σ) H9 (.ref s2.heap.objs.size) [yv] (.ref s2.heap.objs.size) [y] (fun _ H'=>H'=upd H9 s2.heap.objs.size (.lst (ys++[yv]))) I9 rfl (.cons r9 .nil)
     ⟨_,ys,yv,rfl,rfl,hD9,hz9,rfl⟩) fun _ s10 ⟨_,H10,I10,_,e10⟩=>?_
    subst e10
    exact again I10 q9
 have key:=fun tk=>codeAny_compStart_list (R:=RR (.ref s2.heap.objs.size) s3.heap.objs.size) (loop tk) (T.self X.A 0 { s3 with heap:=h₁,toks:=tk } (fun it' s'=>codeAny (model X.prog X.w) X.A (.compLoop (.ListComp elt [⟨.Name x px,iter,ifs,0⟩] scope pos) 0 it' (.ref s2.heap.objs.size) (compEnvC scope (Cm X.env scope.names []) s3.heap.objs.size X.env)) (RR (.ref s2.heap.objs.size) s3.heap.objs.size) s') _ st3 (loop tk))
 subst hs3
 exact key _
theorem Bo {px pos:Pos} {iter elt:Expr} {ifs:List Expr} {wi:TI} {tt:TT} {te:TE} (hc:X.calm=true) (S:Fq X x scope) (hi:PI X (.Name x px) iter wi)
  (ht:∀ C s₀ H₀ fp,Ld (B_ X x scope C s₀ H₀ fp) ifs tt) (he:∀ C s₀ H₀ fp,PE (B_ X x scope C s₀ H₀ fp) elt te) (hs:∀ x,foldedSetIterable iter X.env x=pure x:=by intro _; rfl) :
  PE X (.ListComp elt [⟨.Name x px,iter,ifs,0⟩] scope pos) (WD wi tt te):=by
 intro pins s σ H Q I h
 rw [eval_ListComp]
 refine wpAny_comprehension_free (use:=none) (cl:=Cm X.env scope.names []) rfl hs (G9 fun y hy hk=>I.ok.has y.1 (S.free y hy hk)) S.kind S.names (Br (hi pins s σ H _ I h) fun v s1 h1=>Br h1 fun itv s2 h2=>?_)
 obtain ⟨it,fp,tn,J,H2,e,I2,T,st2,f2,q⟩:=h2
 subst e
 refine Js (RR:=fun acc C=>compPost (model X.prog X.w) X.A X.xe none (EP X pins σ Q) acc C) (Q:=Q) hc S ht he I2 T st2 f2 q ?_
 intro D C s' H' m hn hf hI hq
 exact ⟨m,hn,fun h' sb=>⟨.ref D,H',hI.sameBut hf sb,rfl,hq⟩⟩
theorem Oi {i:Nat} {y:Str} {px py pos spos:Pos} {iter elt:Expr} {ifs:List Expr} {wi:TI} {tt:TT} {te:TE} (hN:X.N.Nodup) (hi':X.N[i]? = some y) (hy:X.env.scope.names.lookup y=some .local) (hc:X.calm=true) (S:Fq X x scope) (hi:PI X (.Name x px) iter wi)
  (ht:∀ C s₀ H₀ fp,Ld (B_ X x scope C s₀ H₀ fp) ifs tt) (he:∀ C s₀ H₀ fp,PE (B_ X x scope C s₀ H₀ fp) elt te) (hsw:swapsWith (.ListComp elt [⟨.Name x px,iter,ifs,0⟩] scope pos) (some (.Name y py)) spos.line X.env=pure true:=by rfl) (hs:∀ x,foldedSetIterable iter X.env x=pure x:=by intro _; rfl) :
  PS X (.Assign [.Name y py] (.ListComp elt [⟨.Name x px,iter,ifs,0⟩] scope pos) spos) (Vl (WD wi tt te) (Cw i)):=by
 intro pins s σ H D' I h
 rw [exec_Assign_Name_used _ _ _ _ hsw]
 refine wpAny_bind (wpAny_standAt (wpAny_bind ?_))
 show wpAny _ X.A (do let _ ← comprehension (.ListComp elt [⟨.Name x px,iter,ifs,0⟩] scope pos) scope X.env _ (newList []) false (eval iter X.env) (some (assign (.Name y py) X.env))) _ _ s
 refine wpAny_bind (wpAny_mono (wpAny_comprehension_free (use:=some (assign (.Name y py) X.env)) (cl:=Cm X.env scope.names []) (Q:=fun _ s'=>SP X pins D' .next s') rfl hs (G9 fun y hy hk=>I.ok.has y.1 (S.free y hy hk)) S.kind S.names
  (Br (hi pins s σ H _ I h) fun v s1 h1=>Br h1 fun itv s2 h2=>?_)) (fun _ s' hq=>wpAny_pure (wpAny_pure hq)) fun _ _ e=>e)
 obtain ⟨it,fp,tn,J,H2,e,I2,T,st2,f2,q⟩:=h2
 subst e
 refine Js (RR:=fun acc C=>compPost (model X.prog X.w) X.A X.xe (some (assign (.Name y py) X.env)) (fun _ s'=>SP X pins D' .next s') acc C) (Q:=fun x H1=>Cw i x σ H1 D'.nx) hc S ht he I2 T st2 f2 q ?_
 intro D C s' H' m hn hf hI hq
 show wpAny _ X.A (assign (.Name y py) X.env (.ref D)) _ _ _
 refine wpAny_assign_Name (Ke hI hN hi' (.inl hy) (v:=.ref D) rfl (fun s6 I6 hch=>?_) (.inr hy))
 obtain ⟨a,sb,ha⟩:=hch
 have hCa:C ≠ a:=by
  rcases ha with z | z
  ·rw [z]; exact hf.2.1
  ·exact Ne.symm (hf.2.2.2.2.1 y a z)
 exact ⟨m,hn.sameBut sb hCa,fun h' sb'=>⟨_,H',I6.sameBut hf sb',hq⟩⟩
end
end L2
namespace L2
open PySem PySem.Spec PyProof.Rows
section
variable {σ:St} {H1:Hp} {Q:VK} {tt:TT} {te:TE}
theorem Gi {J:It} {xs:List V} (p:V->Bool) (f:V->V) (hz:xs.length<sizeLine)
  (hgo:∀ i H x,Ak H1 H->xs[i]? = some x->J.go i H) (hy:∀ i H y H',Ak H1 H->i<xs.length->J.yld i H y H'->H'=H/\xs[i]? = some y) (hstop:∀ H,Ak H1 H->J.stop xs.length H)
  (ht:∀ x∈xs,∀ H,Ak H1 H->∀ R:Bool->Hp->Prop,(∀ H',Ak H H'->R (p x) H')->tt (some x::σ) H R)
  (he:∀ x∈xs,p x=true->∀ H,Ak H1 H->∀ R:VK,(∀ H',Ak H H'->R (f x) H')->te (some x::σ) H R)
  (hq:∀ D H,H1 D=none->Ak H1 H->H D=some (.lst ((xs.filter p).map f))->Q (.ref D) H):Fw J σ H1 Q tt te:=by
 intro D hD
 have s0:Ak H1 (upd H1 D (.lst [])):=fun b o e=>by rw [Aq (Am e hD)]; exact e
 refine ⟨fun i m ys H=>m=xs.length - i/\i<=xs.length/\ys=((xs.take i).filter p).map f/\H D=some (.lst ys)/\Ak H1 H,⟨xs.length,by simp,Nat.zero_le _,by simp,Ai,s0⟩,?_⟩
 rintro i m ys H ⟨rfl,hi,rfl,hd,hs⟩
 by_cases hlt:i<xs.length
 ·obtain ⟨x,hx⟩:∃ x,xs[i]? = some x:=⟨xs[i],by simp [hlt]⟩
  refine .inr ⟨hgo i H x hs hx,fun y H3 hyl=>?_⟩
  obtain ⟨rfl,hy'⟩:=hy i H y H3 hs hlt hyl
  rw [hx] at hy'
  cases hy'
  have hm:x∈xs:=List.mem_of_getElem? hx
  have hlen:(((xs.take i).filter p).map f).length<sizeLine:=by
   rw [List.length_map]
   refine Nat.lt_of_le_of_lt (List.length_filter_le _ _) (Nat.lt_of_le_of_lt ?_ hz)
   rw [List.length_take]; omega
  refine ht x hm _ hs _ fun H4 s4=>?_
  by_cases hp:p x=true
  ·rw [if_pos hp]
   refine he x hm hp H4 (hs.trans s4) _ fun H5 s5=>?_
   refine ⟨s5 _ _ (s4 _ _ hd),hlen,xs.length - (i+1),by omega,rfl,hlt,?_,Ai,fun b o e=>?_⟩
   ·rw [take_succ_filter p xs i x hx,if_pos hp,List.map_append]; rfl
   ·rw [Aq (Am e hD)]; exact s5 _ _ (s4 _ _ (hs _ _ e))
  ·rw [if_neg hp]
   refine ⟨xs.length - (i+1),by omega,rfl,hlt,?_,s4 _ _ hd,hs.trans s4⟩
   rw [take_succ_filter p xs i x hx,if_neg hp,List.append_nil]
 ·have e:i=xs.length:=by omega
  subst e
  rw [List.take_length] at hd
  exact .inl ⟨hstop H hs,hq D H hD hs hd⟩
theorem Nk {lo:Int} {n:Nat} (p:Int->Bool) (f:Int->V) (hz:n<sizeLine)
  (ht:∀ i:Nat,i<n->∀ H,Ak H1 H->∀ R:Bool->Hp->Prop,(∀ H',Ak H H'->R (p (lo+i)) H')->tt (some (.int (lo+i))::σ) H R)
  (he:∀ i:Nat,i<n->p (lo+i)=true->∀ H,Ak H1 H->∀ R:VK,(∀ H',Ak H H'->R (f (lo+i)) H')->te (some (.int (lo+i))::σ) H R)
  (hq:∀ D H,H1 D=none->Ak H1 H->H D=some (.lst ((((List.range n).map fun (i:Nat)=>lo+(i:Int)).filter p).map f))->Q (.ref D) H):Fw (V6 lo n) σ H1 Q tt te:=by
 let g:V->Int:=fun v=>match v with | .int i=>i | _=>0
 have hxs:∀ i:Nat,i<n->((List.range n).map fun (i:Nat)=>V.int (lo+(i:Int)))[i]? = some (.int (lo+i)):=fun i hi=>by simp [hi]
 refine Gi (xs:=(List.range n).map fun (i:Nat)=>V.int (lo+(i:Int))) (fun v=>p (g v)) (fun v=>f (g v)) (by simpa using hz) (fun i H x _ hx=>?_) (fun i H y H' _ hi hy=>?_) (fun H _=>?_) (fun x hx=>?_) (fun x hx=>?_) (fun D H h1 h2 h3=>?_)
 ·have:i<((List.range n).map fun (i:Nat)=>V.int (lo+(i:Int))).length:=(List.getElem?_eq_some_iff.mp hx).1
  show i<n
  simpa using this
 ·have hi':i<n:=by simpa using hi
  obtain ⟨e1,e2⟩:=hy
  subst e2
  exact ⟨e1,hxs i hi'⟩
 ·show n<=_
  simp
 ·obtain ⟨i,hi,rfl⟩:=List.mem_map.mp hx
  exact ht i (List.mem_range.mp hi)
 ·obtain ⟨i,hi,rfl⟩:=List.mem_map.mp hx
  exact he i (List.mem_range.mp hi)
 ·refine hq D H h1 h2 ?_
  rw [h3,List.filter_map,List.map_map,List.filter_map,List.map_map]
  rfl
noncomputable def fQ (z:Str):It:=⟨fun i _=>i<z.cps.size,fun i H x H'=>H'=H/\∃ c,z.cps[i]? = some c/\x=.str ⟨#[c]⟩,fun i _=>z.cps.size<=i⟩
theorem TQ {P:Program} {w:World} {K:PySem.W.Frag} {tg:Expr} {z:Str} {t0:Tok} {it:Addr} {ty:String} (hty:ty = "str_ascii_iterator" \/ ty = "str_iterator"):Turn P w K tg (fQ z) [it] it (fun i h=>h.IsStrIter it ty z t0 i) where
 mem:=by simp
 obj:=fun i h st b hb=>by
  have e:b=it:=by simpa using hb
  subst e
  obtain ⟨o,ho,hc,hd⟩:=st
  exact ⟨o,ho,fun v q=>by rw [hd] at q; cases q⟩
 keep:=fun i h h' st k=>let ⟨o,ho,r⟩:=st; ⟨o,k it (by simp) o ho,r⟩
 item:=by
  intro X hP hw hK hc i pins s σ H E I hf st hg
  subst hP hw hK
  obtain ⟨f0,f1,f2,f3,f4,f5⟩:=hf it (by simp)
  have hg':i<z.cps.size:=hg
  have hx:z.cps[i]? = some z.cps[i]:=Array.getElem?_eq_getElem hg'
  have fin:∀ h',h'.IsStrIter it ty z t0 (i+1)->Heap.SameBut it s.heap h'->∃ u,some (Value.str ⟨#[z.cps[i]]⟩ s.toks)=some u /\
    wpAny (model X.prog X.w) X.A (letOwnedTupleGo tg (.ref it) u) (fun _ s2=>∃ x H',Inv X pins σ H' s2/\RelV x u/\(fQ z).yld i H x H'/\s2.heap.IsStrIter it ty z t0 (i+1)/\∀ b∈[it],H' b=none) E { s with heap:=h',toks:=s.toks+1 }:=fun h' st' sb=>by
   have I1:Inv X pins σ H { s with heap:=h',toks:=s.toks+1 }:=I.turned (fun b o hb e=>(sb.2 b hb).trans e) f0 f1 f3 f4 f5
   obtain ⟨o,e,c,d⟩:=id st'
   refine ⟨_,rfl,Mq (s:={ s with heap:=h',toks:=s.toks+1 }) e c d (by rcases hty with rfl | rfl <;> decide) ⟨.str ⟨#[z.cps[i]]⟩,H,I1,⟨_,rfl⟩,⟨rfl,_,hx,rfl⟩,st',fun b hb=>(hf b hb).1⟩⟩
  rcases hty with rfl | rfl
  ·exact wpAny_pyNext_ascii_item st hx fin
  ·exact wpAny_pyNext_wide_item st hx fin
 done:=by
  intro X hP hw hK hc i pins s σ H E I hf st hg
  subst hP hw hK
  obtain ⟨f0,f1,f2,f3,f4,f5⟩:=hf it (by simp)
  have hx:z.cps[i]? = none:=by
   have hg':z.cps.size<=i:=hg
   simpa using hg'
  rcases hty with rfl | rfl
  ·exact wpAny_pyNext_ascii_end (I.ok.hd hc) st hx fun h' eb=>⟨rfl,I.turned (t':=s.toks) (fun b o hb e=>eb b o hb e) f0 f1 f3 f4 f5⟩
  ·exact wpAny_pyNext_wide_end (I.ok.hd hc) st hx fun h' eb=>⟨rfl,I.turned (t':=s.toks) (fun b o hb e=>eb b o hb e) f0 f1 f3 f4 f5⟩
 self:=fun A i s Q E st h=>by
  rcases hty with rfl | rfl
  ·exact wpAny_pyIter_striter_ascii st h
  ·exact wpAny_pyIter_striter_wide st h
end
section
variable {X:Cx} {tg:Expr}
noncomputable def je (tl:TE):TI:=fun σ H R=>tl σ H fun x H1=>∃ z,x=.str z/\R (fQ z) H1
theorem S6 {l:Expr} {tl:TE} (hl:PE X l tl):PI X tg l (je tl):=by
 intro pins s σ H R I h
 refine Br (hl pins s σ H _ I h) fun v s1 hq0=>?_
 obtain ⟨x,H1,I1,r1,q1⟩:=hq0
 obtain ⟨z,e,q⟩:=q1
 subst e
 obtain ⟨t,rfl⟩:=r1
 have fin:∀ ty,(ty = "str_ascii_iterator" \/ ty = "str_iterator")->PIE X pins σ tg R (.ref s1.heap.objs.size) { s1 with heap:=s1.heap.push { cls:=.type ty,data:=.fields #[.str z t,.int 0 0] } }:=fun ty hty=>by
  refine ⟨s1.heap.objs.size,[s1.heap.objs.size],_,_,H1,rfl,I1.kept (t':=s1.toks) fun b o e=>Heap.get?_push_of_some _ e,TQ (z:=z) (t0:=t) hty,⟨_,Heap.get?_push_size _ rfl,rfl,rfl⟩,fun b hb=>?_,q⟩
  have e:b=s1.heap.objs.size:=by simpa using hb
  subst e
  exact I1.J2 (Nat.le_refl _) (I1.hok.fresh (Nat.le_refl _))
 cases ha:z.cps.all (· < 128)
 ·exact wpAny_pyIter_wide ha (fin _ (.inr rfl))
 ·exact wpAny_pyIter_ascii ha (fin _ (.inl rfl))
end
section
variable {σ:St} {H1:Hp} {Q:VK} {tt:TT} {te:TE}
noncomputable def sgn (c:Nat):V:=.str ⟨#[c]⟩
theorem Mh {z:Str} (p:Nat->Bool) (f:Nat->V) (hz:z.length<sizeLine)
  (ht:∀ c∈z.cps.toList,∀ H,Ak H1 H->∀ R:Bool->Hp->Prop,(∀ H',Ak H H'->R (p c) H')->tt (some (sgn c)::σ) H R)
  (he:∀ c∈z.cps.toList,p c=true->∀ H,Ak H1 H->∀ R:VK,(∀ H',Ak H H'->R (f c) H')->te (some (sgn c)::σ) H R)
  (hq:∀ D H,H1 D=none->Ak H1 H->H D=some (.lst ((z.cps.toList.filter p).map f))->Q (.ref D) H):Fw (fQ z) σ H1 Q tt te:=by
 let g:V->Nat:=fun v=>match v with | .str y=>y.cps.getD 0 0 | _=>0
 refine Gi (xs:=z.cps.toList.map sgn) (fun v=>p (g v)) (fun v=>f (g v)) (by simpa [Str.length] using hz) (fun i H x _ hx=>?_) (fun i H y H' _ hi hy=>?_) (fun H _=>?_) (fun x hx=>?_) (fun x hx=>?_) (fun D H h1 h2 h3=>?_)
 ·have:i<(z.cps.toList.map sgn).length:=(List.getElem?_eq_some_iff.mp hx).1
  show i<z.cps.size
  simpa using this
 ·obtain ⟨e1,c,hc,rfl⟩:=hy
  refine ⟨e1,?_⟩
  rw [List.getElem?_map,Array.getElem?_toList,hc]; rfl
 ·show z.cps.size<=_
  simp
 ·obtain ⟨c,hc,rfl⟩:=List.mem_map.mp hx
  exact ht c hc
 ·obtain ⟨c,hc,rfl⟩:=List.mem_map.mp hx
  exact he c hc
 ·refine hq D H h1 h2 ?_
  rw [h3,List.filter_map,List.map_map]
  rfl
end
section
variable {X:Cx}
theorem range_all (bs:List Bool):((List.range bs.length).all fun i=>(bs[i]?).getD true)=bs.all id:=by
 rw [Bool.eq_iff_iff,List.all_eq_true,List.all_eq_true]
 constructor
 ·intro h b hb
  obtain ⟨i,hi,e⟩:=List.mem_iff_getElem.mp hb
  have:=h i (List.mem_range.mpr hi)
  rw [List.getElem?_eq_getElem hi,e] at this
  exact this
 ·intro h i hi
  have hi':=List.mem_range.mp hi
  rw [List.getElem?_eq_getElem hi']
  exact h _ (List.getElem_mem hi')
theorem Ge (hc:X.calm=true):Eu X (.builtin "all") (fun xs H Q=>∃ (p:Addr) (bs:List Bool),xs=[V.ref p]/\Cu X.K H p (bs.map V.bl)/\Q (.bl (bs.all id)) H):=by
 intro pins s σ H xs us Q I r h
 obtain ⟨p,bs,rfl,hp,q⟩:=h
 obtain ⟨u,rfl,ru⟩:=vals1 r
 cases ru
 obtain ⟨its,rv,pl,hz⟩:=I.list hp
 have hlen:bs.length=its.length:=by have:=rv.length; rw [List.length_map] at this; exact this
 have hlt:p<s.heap.objs.size:=by obtain ⟨_,e,_⟩:=pl.isList; exact Heap.lt_size e
 refine call_all_walk (wpAny_pyIter_list pl.isList ?_)
 refine ⟨s.heap.objs.size,[s.heap.objs.size,p],[s.heap.objs.size],its.toArray.size,_,_,fun i=>(bs[i]?).getD true,rfl,Walks.list (A:=X.A.in1) (I.ok.hd hc) _ p (Nat.ne_of_lt hlt) its.toArray,
  ⟨⟨_,Heap.get?_push_size _ rfl,rfl,rfl⟩,pl.isList.push _⟩,fun i v s' Q' E' hP hQ=>?_,fun h' tk hk=>?_⟩
 ·have hP':its[i]? = some v:=by simpa using hP
  have hi:i<its.length:=(List.getElem?_eq_some_iff.mp hP').1
  have hb:bs[i]? = some bs[i]:=by simp [hlen,hi]
  obtain ⟨u,hu,ru⟩:=rv.get (i:=i) (x:=.bl bs[i]) (by rw [List.getElem?_map,hb]; rfl)
  rw [hP'] at hu
  cases hu
  cases ru
  dsimp only at hQ
  rw [hb] at hQ
  exact wpAny_truthy_bool hQ
 ·have e:((List.range its.toArray.size).all fun i=>(bs[i]?).getD true)=bs.all id:=by rw [List.size_toArray,← hlen]; exact range_all bs
  rw [e]
  refine ⟨.bl (bs.all id),H,I.kept (t':=tk) fun b o eb=>hk b o (fun hm=>?_) (Heap.get?_push_of_some _ eb),rfl,q⟩
  rw [List.mem_singleton.mp hm] at eb
  exact Nat.lt_irrefl _ (Heap.lt_size eb)
theorem Bt:Eu X (.builtin "isinstance") (fun xs H Q=>∃ x T t b,xs=[x,V.ty T]/\Hd X.K H x t/\PySem.W.kitOne X.K t (.type T)=some b/\Q (.bl b) H):=by
 intro pins s σ H xs us Q I r h
 obtain ⟨x,T,t,b,rfl,ty,e,q⟩:=h
 obtain ⟨u,v,rfl,ru,rv⟩:=Vals.two r
 cases rv
 exact Pj I ru ty e fun tk=>⟨.bl b,H,I.tok _,rfl,q⟩
theorem Jw:GF X (binaryOp .Mult) (fun x y H Q=>∃ z n,x=.str z/\y=.int n/\MulOk z n/\Q (.str (Txt.mul z n)) H):=by
 intro pins s σ H x y v u Q I rx ry h
 obtain ⟨z,n,rfl,rfl,hok,q⟩:=h
 obtain ⟨t,rfl⟩:=rx
 obtain ⟨t',rfl⟩:=ry
 exact SB.mul hok fun t' k=>⟨.str _,H,I.tok _,⟨_,rfl⟩,q⟩
end
noncomputable def PX (x:Str) (scope osc:Scope) (N:List Str):Bool :=
 (scope.kind == .function) && scope.names.all (fun y=>y.2 != .cell) && scope.names.all (fun y=>y.2 != .local || scope.names.lookup y.1 == some .local) && (scope.names.lookup x == some .local) &&
 scope.names.all (fun y=>y.2 != .free || osc.names.lookup y.1 == some .cell || osc.names.lookup y.1 == some .free) && decide ((x::G4 x N).Nodup) && (G4 x N).all (fun y=>scope.names.lookup y != some .local) && (scope.names.lookup ("" : Str) == none)
theorem BP {X:Cx} {x:Str} {scope osc:Scope} {N:List Str} (hsc:X.env.scope=osc) (hN:X.N=N) (h:PX x scope osc N=true):Fq X x scope:=by
 unfold PX at h
 simp only [Bool.and_eq_true] at h
 obtain ⟨⟨⟨⟨⟨⟨⟨h1,h2⟩,h3⟩,h4⟩,h5⟩,h6⟩,h7⟩,h8⟩:=h
 rw [List.all_eq_true] at h2 h3 h5 h7
 have kd:∀ y,X.env.kindOf y=osc.names.lookup y:=fun y=>by rw [← hsc]; rfl
 refine ⟨by simpa using h1,fun y hy=>by simpa using h2 y hy,fun y hy e=>?_,by simpa using h4,fun y hy e=>?_,by rw [hN]; exact of_decide_eq_true h6,fun y hy=>?_,by simpa using h8⟩
 ·have:=h3 y hy
  rw [e] at this
  simpa using this
 ·have:=h5 y hy
  rw [e] at this
  rw [kd]
  simpa using this
 ·rw [hN] at hy
  simpa using h7 y hy
end L2
namespace L2
open PySem PySem.Spec PyProof.Rows
section
variable {X:Cx} {pins:List (Addr × Obj)} {σ:St} {H:Hp} {s:Shared} {h':Heap}
theorem Inv.Jb {ch:List Addr} {a:Addr} {o:HO} {t':Nat} (I:Inv X pins σ H s) (hf:∀ b∈ch,Ft X pins H b) (k:∀ b u,b ∉ ch->s.heap.get? b=some u->h'.get? b=some u) (hp:s.heap.objs.size<=a)
  (new:Bq X.prog X.w (upd H a o) h' a o):Inv X pins σ (upd H a o) { s with heap:=h',toks:=t' }:=by
 have hn:H a=none:=I.hok.fresh hp
 have up:∀ b u,H b=some u->upd H a o b=some u:=fun b u e=>by rw [Aq (Am e hn)]; exact e
 refine I.step (g':=s.gens) (d':=s.drawn) (ch:=ch) (fun b hb=>?_) (fun b u _ _ hc e _=>k b u hc e) (fun b u _ _ hc e _=>⟨u.slots,k b u hc e⟩) (fun b u _ e n=>?_)
  (fun b u hc e=>⟨u,k b u hc e⟩) (fun b xs e=>up _ _ e) (fun b u x e=>up _ _ e) (fun b ps e=>⟨#[],by rw [up _ _ e]; simp⟩) (fun m hm=>?_) (fun b u e=>?_) I.bare
 ·obtain ⟨f0,f1,f2,f3,f4,f5⟩:=hf b hb
  exact ⟨f3,f1,f4,f5⟩
 ·rw [Aq (Nat.ne_of_lt (Nat.lt_of_lt_of_le (Heap.lt_size e) hp))]
  exact n
 ·obtain ⟨u,es,ep,ho,r⟩:=hm
  exact ⟨u,es,ep,k _ u (fun z=>(hf _ z).2.1 rfl) ho,r⟩
 ·by_cases hb:b=a
  ·subst hb
   rw [Ai] at e
   cases e
   exact new
  ·rw [Aq hb] at e
   refine (I.hok b u e).stay (fun c v hc q=>k c v (fun z=>?_) q) (fun _ q=>up _ _ q) fun _ _ q=>up _ _ q
   have z1:=(hf c z).1
   rcases hc with hc | hc
   ·rw [hc,e] at z1
    cases z1
   ·rw [hc] at z1
    cases z1
theorem Inv.Kh {ch:List Addr} {t':Nat} (I:Inv X pins σ H s) (hf:∀ b∈ch,Ft X pins H b) (k:∀ b u,b ∉ ch->s.heap.get? b=some u->h'.get? b=some u):Inv X pins σ H { s with heap:=h',toks:=t' }:=by
 refine I.step (g':=s.gens) (d':=s.drawn) (ch:=ch) (fun b hb=>?_) (fun b u _ _ hc e _=>k b u hc e) (fun b u _ _ hc e _=>⟨u.slots,k b u hc e⟩) (fun b u _ e n=>n)
  (fun b u hc e=>⟨u,k b u hc e⟩) (fun b xs e=>e) (fun b u x e=>e) (fun b ps e=>⟨#[],by rw [e]; simp⟩) (fun m hm=>?_) (fun b u e=>?_) I.bare
 ·obtain ⟨f0,f1,f2,f3,f4,f5⟩:=hf b hb
  exact ⟨f3,f1,f4,f5⟩
 ·obtain ⟨u,es,ep,ho,r⟩:=hm
  exact ⟨u,es,ep,k _ u (fun z=>(hf _ z).2.1 rfl) ho,r⟩
 ·refine (I.hok b u e).stay (fun c v hc q=>k c v (fun z=>?_) q) (fun _ q=>q) fun _ _ q=>q
  have z1:=(hf c z).1
  rcases hc with hc | hc
  ·rw [hc,e] at z1
   cases z1
  ·rw [hc] at z1
   cases z1
end
noncomputable def YK (K:PySem.W.Frag) (a:Addr):It :=
 ⟨fun i H=>∃ xs x,Cu K H a xs/\xs[i]? = some x,fun i H v H'=>∃ T,H T=none/\v=.ref T/\∀ xs,Cu K H a xs->∃ x,xs[i]? = some x/\H'=upd H T (.tup [.int (i:Int),x]),fun i H=>∃ xs,Cu K H a xs/\xs.length<=i⟩
noncomputable def jb (K:PySem.W.Frag) (a b:Addr):It :=
 ⟨fun i H=>∃ xs ys x y,GD K H a xs/\GD K H b ys/\xs[i]? = some x/\ys[i]? = some y,fun i H v H'=>∃ T,H T=none/\v=.ref T/\∀ xs ys,GD K H a xs->GD K H b ys->∃ x y,xs[i]? = some x/\ys[i]? = some y/\H'=upd H T (.tup [x,y]),
  fun i H=>∃ xs,GD K H a xs/\xs.length<=i⟩
theorem P0 {P:Program} {w:World} {K:PySem.W.Frag} {es:List Expr} {k1:Nat} {pos:Pos} (a e it:Addr) (hne:e ≠ it) :
  Turn P w K (.Tuple es k1 pos) (YK K a) [e,it] e (fun i h=>(∃ old,IsEnum h e it i old)/\h.IsListIter it a i) where
 mem:=by simp
 obj:=fun i h st b hb=>by
  obtain ⟨⟨old,he⟩,o,ho,c,d⟩:=st
  rcases List.mem_cons.mp hb with rfl | hb
  ·exact ⟨_,he,fun v z=>by
    have z':Data.fields _=Data.cell v:=z
    cases z'⟩
  ·have q:b=it:=by simpa using hb
   subst q
   exact ⟨o,ho,fun v z=>by rw [d] at z; cases z⟩
 keep:=fun i h h' st k=>by
  obtain ⟨⟨old,he⟩,hi⟩:=st
  exact ⟨⟨old,k e (by simp) _ he⟩,hi.at fun o q=>k it (by simp) o q⟩
 item:=by
  intro X hP hw hK hc i pins s σ H E I hf st hg
  subst hP hw hK
  obtain ⟨xs,x,hq,hx⟩:=hg
  obtain ⟨its,rv,p,hz⟩:=I.list hq
  obtain ⟨u,hu,ru⟩:=rv.get hx
  obtain ⟨⟨old,he⟩,hi⟩:=st
  refine wpAny_pyNext_enum_item he hi p.isList (x:=u) (by simpa using hu) hne fun h1 n1 n2 n3 n4 n5=>?_
  refine ⟨_,rfl,wpAny_letOwnedTupleGo_enum (s:={ s with heap:=h1,toks:=s.toks+1 }) n1 fun h2 m1 m2=>?_⟩
  have hT:s.heap.objs.size ≠ e:=Nat.ne_of_gt (Heap.lt_size he)
  have hI:s.heap.objs.size ≠ it:=by obtain ⟨_,q,_⟩:=hi; exact Nat.ne_of_gt (Heap.lt_size q)
  have fr:H s.heap.objs.size=none:=I.hok.fresh (Nat.le_refl _)
  have nw:Bq X.prog X.w (upd H s.heap.objs.size (.tup [.int (i:Int),x])) h2 s.heap.objs.size (.tup [.int (i:Int),x]) :=
   ⟨by show 2<=sizeLine; decide,[.int i s.toks,u],.cons ⟨_,rfl⟩ (.cons ru .nil),_,m2.extBut _ _ hT n3,rfl,_,rfl⟩
  refine ⟨.ref s.heap.objs.size,_,I.Jb (t':=s.toks+1) (ch:=[e,it]) hf (fun b o hb q=>?_) (Nat.le_refl _) nw,rfl,⟨_,fr,rfl,fun ys hy=>⟨x,by rw [I.Mj hy hq]; exact hx,rfl⟩⟩,⟨⟨u,?_⟩,n2.at fun o q=>m2.extBut _ _ (Ne.symm hne) q⟩,fun b hb=>?_⟩
  ·exact m2.extBut _ _ (fun z=>hb (by simp [z])) (n5 b o (fun z=>hb (by simp [z])) (fun z=>hb (by simp [z])) q)
  ·have e1:((i:Int)+1)=((i+1:Nat):Int):=by omega
   rw [← e1]
   exact m1
  ·have hb':=hb
   rcases List.mem_cons.mp hb with rfl | hb
   ·rw [Aq (Ne.symm hT)]
    exact (hf _ hb').1
   ·have q:b=it:=by simpa using hb
    subst q
    rw [Aq (Ne.symm hI)]
    exact (hf _ hb').1
 done:=by
  intro X hP hw hK hc i pins s σ H E I hf st hg
  subst hP hw hK
  obtain ⟨xs,hq,hx⟩:=hg
  obtain ⟨its,rv,p,hz⟩:=I.list hq
  obtain ⟨⟨old,he⟩,hi⟩:=st
  have hl:=rv.length
  exact wpAny_pyNext_enum_end (I.ok.hd hc) he hi p.isList (by simp; omega) fun h1 eb=>⟨rfl,I.Kh (t':=s.toks) (ch:=[e,it]) hf fun b o hb q=>eb b o (fun z=>hb (by simp [z])) q⟩
 self:=fun _ _ _ _ _ st h=>by
  obtain ⟨⟨old,he⟩,_⟩:=st
  exact wpAny_pyIter_enum he h
theorem Rx {n a b:Nat} (ha:a<n) (hb:b<n):ZipApart (n+4) (n+2) (n+3) n (n+1) a b:=by
 constructor <;> (refine (show @Ne Nat _ _ from ?_); omega)
theorem YH {n b:Nat} {P:Nat->Prop} (h0:P n) (h1:P (n+1)) (h2:P (n+2)) (h3:P (n+3)) (h4:P (n+4)) (hb:b∈[n,n+1,n+2,n+3,n+4]):P b:=by
 simp at hb
 rcases hb with rfl | rfl | rfl | rfl | rfl <;> assumption
theorem QV {P:Program} {w:World} {K:PySem.W.Frag} {es:List Expr} {k1:Nat} {pos:Pos} (a b n:Nat) (ha:a<n) (hb:b<n) :
  Turn P w K (.Tuple es k1 pos) (jb K a b) [n,n+1,n+2,n+3,n+4] (n+4) (fun i h=>IsZip h (n+4) (n+2) (n+3) .none/\IsPair h (n+2) (.ref n) (.ref (n+1))/\(∃ x y,IsPair h (n+3) x y)/\h.IsTupleIter n a i/\h.IsTupleIter (n+1) b i) where
 mem:=by simp
 obj:=fun i h st c hc=>by
  obtain ⟨hz,hI,⟨x,y,hO⟩,⟨o1,e1,_,d1⟩,⟨o2,e2,_,d2⟩⟩:=st
  refine YH (P:=fun c=>∃ o,h.get? c=some o/\∀ v,o.data ≠ .cell v) ⟨_,e1,fun v z=>?_⟩ ⟨_,e2,fun v z=>?_⟩ ⟨_,hI,fun v z=>?_⟩ ⟨_,hO,fun v z=>?_⟩ ⟨_,hz,fun v z=>?_⟩ hc
  ·rw [d1] at z; cases z
  ·rw [d2] at z; cases z
  ·have z':Data.seq _ _=Data.cell v:=z
   cases z'
  ·have z':Data.seq _ _=Data.cell v:=z
   cases z'
  ·have z':Data.fields _=Data.cell v:=z
   cases z'
 keep:=fun i h h' st k=>by
  obtain ⟨hz,hI,⟨x,y,hO⟩,j1,j2⟩:=st
  exact ⟨k _ (by simp) _ hz,k _ (by simp) _ hI,⟨x,y,k _ (by simp) _ hO⟩,j1.at fun o q=>k _ (by simp) o q,j2.at fun o q=>k _ (by simp) o q⟩
 item:=by
  intro X hP hw hK hc i pins s σ H E I hf st hg
  subst hP hw hK
  obtain ⟨xs,ys,x,y,q1,q2,hx,hy⟩:=hg
  obtain ⟨it1,r1,p1,_⟩:=I.tuple q1
  obtain ⟨it2,r2,p2,_⟩:=I.tuple q2
  obtain ⟨u,hu,ru⟩:=r1.get hx
  obtain ⟨v,hv,rv⟩:=r2.get hy
  obtain ⟨hz,hI,⟨x0,y0,hO⟩,j1,j2⟩:=st
  have D:=Rx ha hb
  have hT:s.TypeIs (.ref (n+4)) "zip":=⟨_,hz,rfl⟩
  have sz:n+4<s.heap.objs.size:=Heap.lt_size hz
  unfold pyNext
  refine wpAny_bind (wpAny_attempt (wpAny_callSpecial?_slot (name:=Str.ofString "__next__") hT F.slot_zip_next (wpAny_call_entry F.slot_zip_next hT F.entry_zip_next
   (Qg D hz hI hO j1 j2 (show s.heap.IsTuple a it1.toArray from p1) (show s.heap.IsTuple b it2.toArray from p2) (x:=u) (y:=v) (by simpa using hu) (by simpa using hv) fun h1 n1 n2 n3 n4 n5 n6 n7=>wpAny_pure ?_) (F.args_zip_next_1 _))))
  refine ⟨_,rfl,wpAny_letOwnedTupleGo_zip (s:={ s with heap:=h1 }) n1 fun h2 m1 m2=>?_⟩
  have fr:H s.heap.objs.size=none:=I.hok.fresh (Nat.le_refl _)
  have nw:Bq X.prog X.w (upd H s.heap.objs.size (.tup [x,y])) h2 s.heap.objs.size (.tup [x,y]) :=
   ⟨by show 2<=sizeLine; decide,[u,v],.cons ru (.cons rv .nil),_,m2.extBut _ _ (Nat.ne_of_gt sz) n5,rfl,_,rfl⟩
  have hI2:IsPair h1 (n+2) (.ref n) (.ref (n+1)):=n7 _ _ D.TIz D.TITO D.TIi1 D.TIi2 hI
  refine ⟨.ref s.heap.objs.size,_,I.Jb (t':=s.toks) (ch:=[n,n+1,n+2,n+3,n+4]) hf (fun c o hc q=>?_) (Nat.le_refl _) nw,rfl,⟨_,fr,rfl,fun xs' ys' h1 h2=>⟨x,y,by rw [I.Ie h1 q1]; exact hx,by rw [I.Ie h2 q2]; exact hy,rfl⟩⟩,
   ⟨m1,m2.extBut _ _ D.TIz hI2,⟨u,v,m2.extBut _ _ D.TOz n2⟩,n3.at fun o q=>m2.extBut _ _ D.i1z q,n4.at fun o q=>m2.extBut _ _ D.i2z q⟩,fun c hc=>?_⟩
  ·have z:∀ d,d∈[n,n+1,n+2,n+3,n+4]->c ≠ d:=fun d hd q=>hc (q ▸ hd)
   exact m2.extBut _ _ (z _ (by simp)) (n7 c o (z _ (by simp)) (z _ (by simp)) (z _ (by simp)) (z _ (by simp)) q)
  ·rw [Aq ?_]
   ·exact (hf c hc).1
   ·have lt:c<=n+4:=YH (P:=fun c=>c<=n+4) (by omega) (by omega) (by omega) (by omega) (Nat.le_refl _) hc
    exact Nat.ne_of_lt (Nat.lt_of_le_of_lt lt sz)
 done:=by
  intro X hP hw hK hc i pins s σ H E I hf st hg
  subst hP hw hK
  obtain ⟨xs,q1,hx⟩:=hg
  obtain ⟨it1,r1,p1,_⟩:=I.tuple q1
  obtain ⟨hz,hI,⟨x0,y0,hO⟩,j1,j2⟩:=st
  have D:=Rx ha hb
  have hT:s.TypeIs (.ref (n+4)) "zip":=⟨_,hz,rfl⟩
  have hl:=r1.length
  unfold pyNext
  refine wpAny_bind (wpAny_attempt (wpAny_callSpecial?_slot (name:=Str.ofString "__next__") hT F.slot_zip_next (wpAny_call_entry F.slot_zip_next hT F.entry_zip_next
   (Tv (I.ok.hd hc) D hz hI hO j1 (show s.heap.IsTuple a it1.toArray from p1) (by simp; omega) fun h1 x k1 hx1=>?_) (F.args_zip_next_1 _))))
  obtain ⟨o,ho,hco⟩:=hx1
  refine wpAny_bind (wpAny_isInstance (T:="StopIteration") (b:=true) ⟨o,ho,hco⟩ isSubtype_stop (wpAny_pure ?_))
  refine ⟨rfl,I.Kh (t':=s.toks) (ch:=[n,n+1,n+2,n+3,n+4]) hf fun c o hc q=>?_⟩
  have z:∀ d,d∈[n,n+1,n+2,n+3,n+4]->c ≠ d:=fun d hd q=>hc (q ▸ hd)
  exact k1 c o (z _ (by simp)) (z _ (by simp)) (z _ (by simp)) (z _ (by simp)) q
 self:=fun _ _ _ _ _ st h=>wpAny_pyIter_zip st.1 h
section
variable {X:Cx} {es:List Expr} {k1:Nat} {tpos:Pos}
noncomputable def cL (K:PySem.W.Frag) (ta:TA):TI:=fun σ H R=>ta σ H fun vs H1=>∃ a,vs=[.ref a]/\(∃ xs,Cu K H1 a xs)/\R (YK K a) H1
noncomputable def jB (K:PySem.W.Frag) (ta:TA):TI:=fun σ H R=>ta σ H fun vs H1=>∃ a b,vs=[.ref a,.ref b]/\(∃ xs,GD K H1 a xs)/\(∃ ys,GD K H1 b ys)/\R (jb K a b) H1
theorem JG {l:Expr} {ta:TA} {p pos:Pos} (hg:Gl X "enumerate") (hm:X.mg "enumerate" = none) (ha:PA X [l] ta) (hs:starEach [l] X.env=[(false,eval l X.env)]:=by rfl) :
  PI X (.Tuple es k1 tpos) (.Call (.Name "enumerate" p) [l] [] pos) (cL X.K ta):=by
 intro pins s σ H R I h
 refine Call_ (HQ I hg hm boot_enumerate (PyProof.Rows.callWith_type1 (Br (ha pos pins s σ H _ I h) fun us s1 ⟨vs,H1,I1,r1,q1⟩=>?_) hs rfl))
 obtain ⟨a,e,⟨xs,hq⟩,q⟩:=q1
 subst e
 obtain ⟨u,rfl,ru⟩:=vals1 r1
 cases ru
 obtain ⟨its,rv,pl,hz⟩:=I1.list hq
 refine call_enumerate_list pl.isList fun h1 n1 n2 n3 n4=>?_
 refine wpAny_pyIter_enum (s:={ s1 with heap:=h1 }) n1 ?_
 refine ⟨_,[s1.heap.objs.size+1,s1.heap.objs.size],_,_,H1,rfl,I1.kept (t':=s1.toks) n4,P0 a _ _ (Nat.succ_ne_self _),⟨⟨_,n1⟩,n2⟩,fun b hb=>?_,q⟩
 have lt:s1.heap.objs.size<=b:=by
  rcases List.mem_cons.mp hb with rfl | hb
  ·exact Nat.le_succ _
  ·exact Nat.le_of_eq ((List.mem_singleton.mp hb).symm)
 exact I1.J2 lt (I1.hok.fresh lt)
theorem Vf {x y:Expr} {ta:TA} {p pos:Pos} (hg:Gl X "zip") (hm:X.mg "zip" = none) (ha:PA X [x,y] ta) (hs:starEach [x,y] X.env=[(false,eval x X.env),(false,eval y X.env)]:=by rfl) (hs2:starEach [y] X.env=[(false,eval y X.env)]:=by rfl) :
  PI X (.Tuple es k1 tpos) (.Call (.Name "zip" p) [x,y] [] pos) (jB X.K ta):=by
 intro pins s σ H R I h
 refine Call_ (HQ I hg hm boot_zip (PyProof.Rows.callWith_type1 (Br (ha pos pins s σ H _ I h) fun us s1 ⟨vs,H1,I1,r1,q1⟩=>?_) (by rw [hs,hs2]) (by rw [hs2]; rfl)))
 obtain ⟨a,b,e,⟨xs,q1⟩,⟨ys,q2⟩,q⟩:=q1
 subst e
 obtain ⟨u,v,rfl,ru,rv⟩:=Vals.two r1
 cases ru
 cases rv
 obtain ⟨it1,r1,p1,_⟩:=I1.tuple q1
 obtain ⟨it2,r2,p2,_⟩:=I1.tuple q2
 refine QJ (show s1.heap.IsTuple a it1.toArray from p1) (show s1.heap.IsTuple b it2.toArray from p2) fun h1 n hn n1 n2 n3 n4 n5 n6 n7=>?_
 refine wpAny_pyIter_zip (s:={ s1 with heap:=h1 }) n1 ?_
 have la:a<n:=by rw [hn]; exact p1.lt
 have lb:b<n:=by rw [hn]; exact p2.lt
 refine ⟨_,[n,n+1,n+2,n+3,n+4],_,_,H1,rfl,I1.kept (t':=s1.toks) n7,QV a b n la lb,⟨n1,n2,⟨_,_,n3⟩,n4,n5⟩,fun c hc=>?_,q⟩
 have lt:s1.heap.objs.size<=c:=by
  rw [← hn]
  exact YH (P:=fun c=>n<=c) (by omega) (by omega) (by omega) (by omega) (by omega) hc
 exact I1.J2 lt (I1.hok.fresh lt)
end
end L2
namespace L2
open PySem PySem.Spec PyProof.Rows
theorem Ut {prog:Program} {w:World} {A:Around} {R:Result->Shared->Prop} {s:Shared} {elt tg iter:Expr} {ifs:List Expr} {scope:Scope} {pos:Pos} {it acc:Value} {env:Env} (J:Nat->Shared->Prop) {E:Value->Shared->Prop} (hE:E=notedBy (model prog w) A env fun e s'=>R (.error e) s')
  (turn:∀ n s,J n s->wpAny (model prog w) A (pyNext it) (fun r s1=>match r with
   | none=>R (.ok .next) s1
   | some v=>wpAny (model prog w) A (letOwnedTupleGo tg it v) (fun _ s2=>wpAny (model prog w) A (assign tg env v) (fun _ s3 =>
     wpAny (model prog w) A (forIn ifs true fun c r=>if r=true then do let ok ← isTrue c env (eval c env); pure (ForInStep.yield ok) else pure (ForInStep.yield r)) (fun ok s4 =>
      if ok=true then wpAny (model prog w) A (eval elt env) (fun x s5=>wpAny (model prog w) A (call (.builtin "list.append") [acc,x]) (fun _ s6=>∃ m,m<n/\J m s6) E s5) E s4
      else ∃ m,m<n/\J m s4) E s3) E s2) E s1) E s) (n:Nat) (h:J n s) :
  codeAny (model prog w) A (.compLoop (.ListComp elt [⟨tg,iter,ifs,0⟩] scope pos) 0 it acc env) R s:=by
 subst hE
 refine codeAny_loop rfl J (fun n s hJ=>(show wpAny _ A ((compTurn (.ListComp elt [⟨tg,iter,ifs,0⟩] scope pos) 0 it acc env).onRaise (fun x=>do noteFrame x env; theTreesLotGoes x)) _ _ s from wpAny_noted ?_)) n h
 rw [compTurn_list]
 refine wpAny_bind (wpAny_standAt (wpAny_bind (wpAny_mono (turn n s hJ) (fun r s1 h1=>?_) fun _ _ q=>q)))
 cases r with
 | none=>exact wpAny_pure h1
 | some v =>
  refine wpAny_bind (wpAny_mono h1 (fun _ s2 h2=>wpAny_bind (wpAny_mono h2 (fun _ s3 h3=>wpAny_bind (wpAny_mono h3 (fun ok s4 h4=>?_) fun _ _ q=>q)) fun _ _ q=>q)) fun _ _ q=>q)
  cases ok with
  | false=>exact wpAny_pure ⟨rfl,h4⟩
  | true=>exact wpAny_bind (wpAny_bind (wpAny_mono h4 (fun x s5 h5=>wpAny_bind (wpAny_mono h5 (fun _ s6 h6=>wpAny_pure (wpAny_pure ⟨rfl,h6⟩)) fun _ _ q=>q)) fun _ _ q=>q))
noncomputable def Bc (X:Cx) (x z:Str) (scope:Scope) (C:Addr) (s₀:Shared) (H₀:Hp) (fp:List Addr):Cx where
 prog:=X.prog
 w:=X.w
 K:=X.K
 mg:=X.mg
 base:=X.base
 A:=X.A
 N:=x::z::X.N
 s₀:=s₀
 H₀:=H₀
 env:=compEnvC scope (Cm X.env scope.names []) C X.env
 outer:=X.stack
 stack:=X.stack
 ex:=fp
 fn:=fun _=>false
 calm:=X.calm
 pn:=[]
 xe:=fun _ _=>False
structure Du (X:Cx) (x z:Str) (scope:Scope):Prop where
 kind:scope.kind=.function
 nocell:∀ y∈scope.names,y.2 ≠ .cell
 names:∀ y∈scope.names,y.2=.local->scope.names.lookup y.1=some .local
 loc:scope.names.lookup x=some .local
 loz:scope.names.lookup z=some .local
 free:∀ y∈scope.names,y.2=.free->X.env.kindOf y.1=some .cell \/ X.env.kindOf y.1=some .free
 nd:(x::z::X.N).Nodup
 only:∀ y∈X.N,scope.names.lookup y ≠ some .local
section
variable {X:Cx} {pins:List (Addr × Obj)} {σ:St} {H:Hp} {s:Shared} {x z:Str} {scope:Scope} {fp:List Addr} {C:Addr}
theorem Mr {h':Heap} {tk:Nat} {m:Str->Option Value} (I:Inv X pins σ H s) (S:Du X x z scope) (hf:∀ b∈fp,Ft X pins H b) (hlt:∀ b∈fp,b<s.heap.objs.size) (hC:s.heap.objs.size<=C) (hn:h'.Ns C m)
  (hk:∀ b o,s.heap.get? b=some o->h'.get? b=some o):Inv (Bc X x z scope C s H fp) [] (none::none::σ) H { s with heap:=h',toks:=tk }:=by
 have cl:∀ y c,(Cm X.env scope.names []).lookup y=some c->X.env.cells.lookup y=some c:=fun y c e=>by
  rcases Fo X.env scope.names [] y c e with z | z
  ·cases z
  ·exact z
 have cellK:∀ c v,s.heap.IsCell c v->h'.IsCell c v:=fun c v ⟨o,ho,hd⟩=>⟨o,hk c o ho,hd⟩
 have look:∀ y,(Bc X x z scope C s H fp).env.scope.names.lookup y=(scope.names.lookup y).map fun k=>if (k == NameKind.free && X.env.scope.kind == .function && X.env.kindOf y == some .cell) then NameKind.cell else k:=fun y=>Ep X.env y scope.names
 refine ⟨⟨I.ok.mod,S.kind,I.ok.glob,I.ok.blt,hC,fun y z c e1 e2=>I.ok.inj y z c (cl y c e1) (cl z c e2),fun y hy=>?_,fun y c e _=>(by cases e),fun h=>I.ok.hd h,I.ok.frames,.inl rfl,fun b hb=>?_,I.bs,Nat.le_trans I.ok.bsz I.sz,fun b o e hb=>?_,fun b hb hb'=>?_,I.stack,I.Gx⟩,
  rfl,I.bare,Un.kept hk,⟨m,hn,fun i y v h1 h2 h3=>?_⟩,fun y c e=>?_,I.hok.fresh hC,fun y c e=>I.freeC y c (cl y c e),fun p hp=>absurd (show p∈([]:List (Addr × Obj)) from hp) (by simp),I.hok.kept hk,?_⟩
 ·have hy':(Bc X x z scope C s H fp).env.scope.names.lookup y=some .cell \/ (Bc X x z scope C s H fp).env.scope.names.lookup y=some .free:=hy
  rw [look y] at hy'
  cases e:scope.names.lookup y with
  | none=>rw [e] at hy'; rcases hy' with z | z <;> cases z
  | some k =>
   have hm:=PySem.mem_of_lookup e
   have hfree:k=.free:=by
    rw [e] at hy'
    cases k with
    | free=>rfl
    | cell=>exact absurd rfl (S.nocell _ hm)
    | _=>rcases hy' with z | z <;> simp at z
   subst hfree
   obtain ⟨c,hc⟩:=I.ok.has y (S.free _ hm rfl)
   exact Option.isSome_iff_exists.mp (Dv X.env scope.names [] y hm (by rw [hc]; rfl))
 ·obtain ⟨f0,f1,f2,f3,f4,f5⟩:=hf b hb
  exact ⟨Nat.ne_of_lt (Nat.lt_of_lt_of_le (hlt b hb) hC),fun y c e=>f4 y c (cl y c e)⟩
 ·obtain ⟨f0,f1,f2,f3,f4,f5⟩:=hf b hb
  rcases f3 with z | z
  ·exact I.ok.noex b o e z
  ·exact absurd (Nat.lt_of_lt_of_le (Heap.lt_size e) (Nat.le_trans I.ok.bsz z)) (Nat.lt_irrefl _)
 ·obtain ⟨f0,f1,f2,f3,f4,f5⟩:=hf b hb
  rcases List.mem_cons.mp (I.K_ b hb') with e | e
  ·exact f1 e
  ·exact f2 e
 ·match i,h1,h2 with
  | 0,h1,h2 =>
   have h2':(some none:Option (Option V))=some (some v):=h2
   cases h2'
  | 1,h1,h2 =>
   have h2':(some none:Option (Option V))=some (some v):=h2
   cases h2'
  | i+2,h1,h2 =>
   have e0:X.N[i]? = some y:=h1
   have h2':σ[i]? = some (some v):=h2
   have hmem:y∈X.N:=List.mem_of_getElem? e0
   have h3':(Bc X x z scope C s H fp).env.scope.names.lookup y=some .local \/ (Bc X x z scope C s H fp).env.scope.names.lookup y=some .cell \/ (Bc X x z scope C s H fp).env.scope.names.lookup y=some .free:=h3
   rw [look y] at h3'
   cases e:scope.names.lookup y with
   | none=>rw [e] at h3'; rcases h3' with z | z | z <;> cases z
   | some k =>
    have hm:=PySem.mem_of_lookup e
    have hfree:k=.free:=by
     rw [e] at h3'
     cases k with
     | free=>rfl
     | cell=>exact absurd rfl (S.nocell _ hm)
     | «local»=>exact absurd e (S.only y hmem)
     | _=>rcases h3' with z | z | z <;> simp at z
    subst hfree
    have kd:=S.free _ hm rfl
    obtain ⟨m0,hn0,hl0⟩:=I.loc
    obtain ⟨u,r,l⟩:=hl0 i y v e0 h2' (by rcases kd with z | z; exact .inr (.inl z); exact .inr (.inr z))
    refine ⟨u,r,.inr ⟨?_,?_⟩⟩
    ·have hk':(Bc X x z scope C s H fp).env.scope.names.lookup y=some (if (NameKind.free == NameKind.free && X.env.scope.kind == .function && X.env.kindOf y == some .cell) then NameKind.cell else NameKind.free):=by
      rw [look y,e]; rfl
     by_cases c:(NameKind.free == NameKind.free && X.env.scope.kind == .function && X.env.kindOf y == some .cell)=true
     ·rw [if_pos c] at hk'; exact .inl hk'
     ·rw [if_neg c] at hk'; exact .inr hk'
    ·rcases l with ⟨lk,_⟩ | ⟨_,c,hc,hcell⟩
     ·exfalso
      rcases kd with z | z <;> (rw [show X.env.kindOf y=some NameKind.local from lk] at z; cases z)
     ·obtain ⟨c',hc'⟩:=Option.isSome_iff_exists.mp (Dv X.env scope.names [] y hm (by rw [hc]; rfl))
      have:=cl y c' hc'
      rw [hc] at this
      cases this
      exact ⟨c,hc',cellK c _ hcell⟩
 ·obtain ⟨v,z⟩:=I.cell y c (cl y c e)
  exact ⟨v,cellK c v z⟩
 ·show (none::none::σ).length=(x::z::X.N).length
  simp [I.len]
end
noncomputable def Hm (J:It) (σ:St) (H1:Hp) (Q:VK) (g:TG) (tt:TT) (te:TE):Prop:=∀ D,H1 D=none->∃ W:Nat->Nat->List V->Hp->Prop,(∃ m,W 0 m [] (upd H1 D (.lst [])))/\∀ i m ys H2,W i m ys H2 ->
 (J.stop i H2/\Q (.ref D) H2) \/ (J.go i H2/\∀ x H3,J.yld i H2 x H3->∀ v0 v1,g x (v0::v1::σ) H3 fun σ' H3'=>(∃ w0 w1,σ'=w0::w1::σ)/\tt σ' H3' fun b H4 =>
  if b=true then te σ' H4 fun y H5=>H5 D=some (.lst ys)/\ys.length<sizeLine/\∃ m',m'<m/\W (i+1) m' (ys++[y]) (upd H5 D (.lst (ys++[y])))
  else ∃ m',m'<m/\W (i+1) m' ys H4)
noncomputable def Rw (wi:TI) (g:TG) (tt:TT) (te:TE):TE:=fun σ H Q=>wi σ H fun J H1=>Hm J σ H1 Q g tt te
section
variable {X:Cx} {x z:Str} {scope:Scope}
theorem Lx {tg:Expr} {pos:Pos} {iter elt:Expr} {ifs:List Expr} {g:TG} {tt:TT} {te:TE} {pins:List (Addr × Obj)} {σ:St} {s2:Shared} {H2:Hp} {it:Addr} {fp:List Addr} {tn:Nat->Heap->Prop} {J:It} {E:Value->Shared->Prop}
  {RR:Value->Addr->Result->Shared->Prop} {Q:VK}
  (hc:X.calm=true) (S:Du X x z scope) (hg:∀ C s₀ H₀ fp,PG (Bc X x z scope C s₀ H₀ fp) tg g) (ht:∀ C s₀ H₀ fp,Ld (Bc X x z scope C s₀ H₀ fp) ifs tt) (he:∀ C s₀ H₀ fp,PE (Bc X x z scope C s₀ H₀ fp) elt te)
  (I2:Inv X pins σ H2 s2) (T:Turn X.prog X.w X.K tg J fp it tn) (st2:tn 0 s2.heap) (f2:∀ b∈fp,Ft X pins H2 b) (q:Hm J σ H2 Q g tt te)
  (hRR:∀ D C s' H' m,s'.heap.Ns C m->Ft X pins H' C->Inv X pins σ H' s'->Q (.ref D) H'->RR (.ref D) C (.ok .next) s') :
  wpAny (model X.prog X.w) X.A (newList []) (fun acc s₃=>wpAny (model X.prog X.w) X.A (newFunctionEnv scope X.env.globals (Cm X.env scope.names []) [] X.env.qual none .none (some X.env)) (fun cenv s₄ =>
   codeAny (model X.prog X.w) X.A (.compStart (.ListComp elt [⟨tg,iter,ifs,0⟩] scope pos) 0 (.ref it) acc { cenv with scope:=relabel scope X.env }) (RR acc cenv.locals) s₄) E s₃) E s2:=by
 refine wpAny_newObj_type (wpAny_newFunctionEnv S.nocell (by intro y hy; simp at hy) (fun h₁ hns₁ hsb₁=>?_) S.kind)
 have I3:=I2.VM (its:=[]) (ys:=[]) (t':=s2.toks) .nil (Nat.zero_le _)
 have hD0:H2 s2.heap.objs.size=none:=I2.fresh
 obtain ⟨W,⟨m0,w0⟩,turn⟩:=q _ hD0
 generalize hs3:({ s2 with heap:=s2.heap.push { cls:=.type "list",data:=.seq ([]:List Value).toArray },toks:=s2.toks }:Shared)=s3 at I3
 have e3:s3.heap=s2.heap.push { cls:=.type "list",data:=.seq ([]:List Value).toArray }:=by rw [← hs3]
 have hlt:∀ b∈fp,b<s2.heap.objs.size:=fun b hb=>let ⟨_,e,_⟩:=T.obj _ _ st2 b hb; Heap.lt_size e
 have hlt3:∀ b∈fp,b<s3.heap.objs.size:=fun b hb=>by rw [e3,Heap.size_push]; exact Nat.lt_succ_of_lt (hlt b hb)
 have f3:∀ b∈fp,Ft X pins (upd H2 s2.heap.objs.size (.lst [])) b:=fun b hb=>⟨by rw [Aq (Nat.ne_of_lt (hlt b hb))]; exact (f2 b hb).1,(f2 b hb).2⟩
 have hk1:∀ b o,s3.heap.get? b=some o->h₁.get? b=some o:=fun b o e=>by
  have hne:b ≠ s3.heap.objs.size:=Nat.ne_of_lt (Heap.lt_size e)
  rw [e3] at e hne
  exact hsb₁.extBut b o hne (Heap.get?_push_of_some _ e)
 have hC:s3.heap.objs.size=(s2.heap.push { cls:=.type "list",data:=.seq ([]:List Value).toArray }).objs.size:=by rw [e3]
 have hns:h₁.Ns s3.heap.objs.size (fun x=>([]:List (Str × Value)).reverse.lookup x):=by rw [hC]; exact hns₁
 have st3:tn 0 h₁:=T.keep _ _ _ st2 fun b hb o e=>hk1 b o (by rw [e3]; exact Heap.get?_push_of_some _ e)
 have start:∀ tk,Inv (Bc X x z scope s3.heap.objs.size s3 (upd H2 s2.heap.objs.size (.lst [])) fp) [] (none::none::σ) (upd H2 s2.heap.objs.size (.lst [])) { s3 with heap:=h₁,toks:=tk }:=fun tk =>
  Mr I3 S f3 hlt3 (Nat.le_refl _) hns hk1
 have loop:∀ tk,codeAny (model X.prog X.w) X.A (.compLoop (.ListComp elt [⟨tg,iter,ifs,0⟩] scope pos) 0 (.ref it) (.ref s2.heap.objs.size) (compEnvC scope (Cm X.env scope.names []) s3.heap.objs.size X.env))
   (RR (.ref s2.heap.objs.size) s3.heap.objs.size) { s3 with heap:=h₁,toks:=tk }:=by
  intro tk
  refine Ut (fun n s'=>∃ i ys v0 v1 H',Inv (Bc X x z scope s3.heap.objs.size s3 (upd H2 s2.heap.objs.size (.lst [])) fp) [] (v0::v1::σ) H' s'/\tn i s'.heap/\(∀ b∈fp,H' b=none)/\W i n ys H') rfl ?_ m0
   ⟨0,[],none,none,_,start tk,st3,fun b hb=>(f3 b hb).1,w0⟩
  rintro n s4 ⟨i,ys,v0,v1,H4,I4,st4,fr4,w4⟩
  have stat:∀ {H':Hp},(∀ b∈fp,H' b=none)->∀ b∈fp,Ft (Bc X x z scope s3.heap.objs.size s3 (upd H2 s2.heap.objs.size (.lst [])) fp) [] H' b:=fun hn b hb=>by
   refine ⟨hn b hb,(I4.ok.exf b hb).1,I4.ok.exfs b hb,.inl hb,(I4.ok.exf b hb).2,fun p hp=>absurd (show p∈([]:List (Addr × Obj)) from hp) (by simp)⟩
  rcases turn i n ys H4 w4 with ⟨stop,qn⟩ | ⟨go,step⟩
  ·refine Br (T.done (Bc X x z scope s3.heap.objs.size s3 (upd H2 s2.heap.objs.size (.lst [])) fp) rfl rfl rfl hc i [] s4 (v0::v1::σ) H4 _ I4 (stat fr4) st4 stop) fun r s5 ⟨hr,I5⟩=>?_
   subst hr
   obtain ⟨m,hn,_⟩:=I5.loc
   refine hRR _ _ s5 H4 m hn (I3.J2 (Nat.le_refl _) I5.free) (I3.call' (s':=s5) (ch:=fp) I5.os I5.base I5.hok I5.bare (fun b hb=>?_)) qn
   obtain ⟨_,g1,_,g3,g4,g5⟩:=f3 b hb
   exact ⟨g3,g1,g4,g5⟩
  ·refine Br (T.item (Bc X x z scope s3.heap.objs.size s3 (upd H2 s2.heap.objs.size (.lst [])) fp) rfl rfl rfl hc i [] s4 (v0::v1::σ) H4 _ I4 (stat fr4) st4 go) fun r s5 ⟨u,hr,h5⟩=>?_
   subst hr
   refine Br h5 fun _ s6 h6=>?_
   obtain ⟨xv,H6,I6,r6,y6,st6,fr6⟩:=h6
   have I6':=I6.pinned (stat fr6) (T.obj _ _ st6)
   have again:∀ {s7:Shared} {H7:Hp} {ys':List V} {w0 w1:Option V},Inv (Bc X x z scope s3.heap.objs.size s3 (upd H2 s2.heap.objs.size (.lst [])) fp) ([]++Ia fp s6.heap) (w0::w1::σ) H7 s7->(∃ m',m'<n/\W (i+1) m' ys' H7) ->
     ∃ m,m<n/\∃ i ys v0 v1 H',Inv (Bc X x z scope s3.heap.objs.size s3 (upd H2 s2.heap.objs.size (.lst [])) fp) [] (v0::v1::σ) H' s7/\tn i s7.heap/\(∀ b∈fp,H' b=none)/\W i m ys H':=fun {s7 H7 ys' w0 w1} I7 hw=>by
    obtain ⟨m',hm,w7⟩:=hw
    refine ⟨m',hm,i+1,ys',w0,w1,H7,I7.Gk,T.keep _ _ _ st6 fun b hb o e=>(I7.pin (b,o) (List.mem_append_right _ (List.mem_append_right _ (Ds hb e)))).1,fun b hb=>?_,w7⟩
    obtain ⟨o,e,d⟩:=T.obj _ _ st6 b hb
    exact (I7.pin (b,o) (List.mem_append_right _ (List.mem_append_right _ (Ds hb e)))).2.1
   refine Nr (hg _ _ _ _ _ s6 (v0::v1::σ) H6 xv u _ I6' r6 (step xv H6 y6 v0 v1)) fun _ s7 ⟨σ7,H7,I7,⟨w0,w1,e7⟩,q7⟩=>?_
   subst e7
   refine Nr (ht _ _ _ _ _ s7 (w0::w1::σ) H7 _ I7 q7) fun b s8 hq0=>?_
   obtain ⟨H8,I8,q8⟩:=hq0
   cases b with
   | false =>
    rw [if_neg Bool.false_ne_true] at q8 ⊢
    exact again I8 q8
   | true =>
    rw [if_pos rfl] at q8 ⊢
    refine Nr (he _ _ _ _ _ s8 (w0::w1::σ) H8 _ I8 q8) fun y s9 hq0=>?_
    obtain ⟨yv,H9,I9,r9,hD9,hz9,q9⟩:=hq0
    refine Nr (El (X:=Bc X x z scope s3.heap.objs.size s3 (upd H2 s2.heap.objs.size (.lst [])) fp) _ s9 (w0::w1::σ) H9 (.ref s2.heap.objs.size) [yv] (.ref s2.heap.objs.size) [y] (fun _ H'=>H'=upd H9 s2.heap.objs.size (.lst (ys++[yv]))) I9 rfl (.cons r9 .nil)
     ⟨_,ys,yv,rfl,rfl,hD9,hz9,rfl⟩) fun _ s10 ⟨_,H10,I10,_,e10⟩=>?_
    subst e10
    exact again I10 q9
 have key:=fun tk=>codeAny_compStart_list (R:=RR (.ref s2.heap.objs.size) s3.heap.objs.size) (loop tk) (T.self X.A 0 { s3 with heap:=h₁,toks:=tk } (fun it' s'=>codeAny (model X.prog X.w) X.A (.compLoop (.ListComp elt [⟨tg,iter,ifs,0⟩] scope pos) 0 it' (.ref s2.heap.objs.size) (compEnvC scope (Cm X.env scope.names []) s3.heap.objs.size X.env)) (RR (.ref s2.heap.objs.size) s3.heap.objs.size) s') _ st3 (loop tk))
 subst hs3
 exact key _
theorem R5 {tg:Expr} {pos:Pos} {iter elt:Expr} {ifs:List Expr} {wi:TI} {g:TG} {tt:TT} {te:TE} (hc:X.calm=true) (S:Du X x z scope) (hi:PI X tg iter wi) (hg:∀ C s₀ H₀ fp,PG (Bc X x z scope C s₀ H₀ fp) tg g)
  (ht:∀ C s₀ H₀ fp,Ld (Bc X x z scope C s₀ H₀ fp) ifs tt) (he:∀ C s₀ H₀ fp,PE (Bc X x z scope C s₀ H₀ fp) elt te) (hs:∀ x,foldedSetIterable iter X.env x=pure x:=by intro _; rfl) :
  PE X (.ListComp elt [⟨tg,iter,ifs,0⟩] scope pos) (Rw wi g tt te):=by
 intro pins s σ H Q I h
 rw [eval_ListComp]
 refine wpAny_comprehension_free (use:=none) (cl:=Cm X.env scope.names []) rfl hs (G9 fun y hy hk=>I.ok.has y.1 (S.free y hy hk)) S.kind S.names (Br (hi pins s σ H _ I h) fun v s1 h1=>Br h1 fun itv s2 h2=>?_)
 obtain ⟨it,fp,tn,J,H2,e,I2,T,st2,f2,q⟩:=h2
 subst e
 refine Lx (RR:=fun acc C=>compPost (model X.prog X.w) X.A X.xe none (EP X pins σ Q) acc C) (Q:=Q) hc S hg ht he I2 T st2 f2 q ?_
 intro D C s' H' m hn hf hI hq
 exact ⟨m,hn,fun h' sb=>⟨.ref D,H',hI.sameBut hf sb,rfl,hq⟩⟩
end
end L2
namespace L2
open PySem PySem.Spec PySem.Calls PyProof.Rows
theorem Ak.tup {K:PySem.W.Frag} {H H':Hp} {a:Addr} {xs:List V} (e:Ak H H') (h:GD K H a xs):GD K H' a xs:=by
 rcases h with (h | ⟨o,h⟩) | h
 ·exact .inl (.inl (e _ _ h))
 ·exact .inl (.inr ⟨o,e _ _ h⟩)
 ·exact .inr h
noncomputable def TupAt (H:Hp) (zs:List V) (y:V):Prop:=∃ T,y=.ref T/\H T=some (.tup zs)
theorem TupAt.mono {H H':Hp} {zs:List V} {y:V} (s:Ak H H') (h:TupAt H zs y):TupAt H' zs y:=let ⟨T,e,q⟩:=h; ⟨T,e,s _ _ q⟩
theorem TupAt.upd {H:Hp} {zs ys ws:List V} {y:V} {D:Addr} (h:TupAt H zs y) (hD:H D=some (.lst ys)):TupAt (upd H D (.lst ws)) zs y:=by
 obtain ⟨T,e,q⟩:=h
 refine ⟨T,e,?_⟩
 rw [Aq fun z=>by rw [z,hD] at q; cases q]
 exact q
theorem Eo {α:Type} {H:Hp} {f:α->List V} {l:List α} {vs ys ws:List V} {D:Addr} (h:Paired (fun a y=>TupAt H (f a) y) l vs) (hD:H D=some (.lst ys)):Paired (fun a y=>TupAt (upd H D (.lst ws)) (f a) y) l vs:=Paired.Jd h fun _ _ q=>q.upd hD
theorem Ar {α:Type} {H H':Hp} {f:α->List V} {l:List α} {vs:List V} (s:Ak H H') (h:Paired (fun a y=>TupAt H (f a) y) l vs):Paired (fun a y=>TupAt H' (f a) y) l vs:=Paired.Jd h fun _ _ q=>q.mono s
noncomputable def Mf (x z:Str) (scope osc:Scope) (N:List Str):Bool :=
 (scope.kind == .function) && scope.names.all (fun y=>y.2 != .cell && (y.2 != .local || scope.names.lookup y.1 == some .local) && (y.2 != .free || osc.names.lookup y.1 == some .cell || osc.names.lookup y.1 == some .free)) && (scope.names.lookup x == some .local) && (scope.names.lookup z == some .local) &&
 decide ((x::z::N).Nodup) && N.all (fun y=>scope.names.lookup y != some .local)
theorem HB {X:Cx} {x z:Str} {scope osc:Scope} {N:List Str} (hsc:X.env.scope=osc) (hN:X.N=N) (h:Mf x z scope osc N=true):Du X x z scope:=by
 unfold Mf at h
 simp only [Bool.and_eq_true] at h
 obtain ⟨⟨⟨⟨⟨h1,h2⟩,h3⟩,h3'⟩,h4⟩,h5⟩:=h
 rw [List.all_eq_true] at h2 h5
 have kind:∀ y,X.env.kindOf y=osc.names.lookup y:=fun y=>by show X.env.scope.names.lookup y=_; rw [hsc]
 refine ⟨by simpa using h1,fun y hy=>?_,fun y hy hk=>?_,by simpa using h3,by simpa using h3',fun y hy hk=>?_,by rw [hN]; exact of_decide_eq_true h4,fun y hy=>?_⟩
 ·have:=h2 y hy
  simp only [Bool.and_eq_true,bne_iff_ne] at this
  exact this.1.1
 ·have:=h2 y hy
  simp only [Bool.and_eq_true] at this
  simpa [hk] using this.1.2
 ·have:=h2 y hy
  simp only [Bool.and_eq_true] at this
  rw [kind]
  simpa [hk] using this.2
 ·have:=h5 y (by rw [← hN]; exact hy)
  simpa using this
section
variable {X:Cx} {x z:Str} {scope:Scope}
theorem Ue {px pz pos:Pos} {k:Nat} {C:Addr} {s₀:Shared} {H₀:Hp} {fp:List Addr} (hc:X.calm=true) (S:Du X x z scope) :
  PG (Bc X x z scope C s₀ H₀ fp) (.Tuple [.Name x px,.Name z pz] k pos) (Qn X.K 2 (Gj (Cw 0) (Gj (Cw 1) Ph))):=by
 have l1:(Bc X x z scope C s₀ H₀ fp).env.scope.names.lookup x=some .local:=lookup_relabel_local S.loc
 have l2:(Bc X x z scope C s₀ H₀ fp).env.scope.names.lookup z=some .local:=lookup_relabel_local S.loz
 exact Kr (X:=Bc X x z scope C s₀ H₀ fp) (n:=2) hc (Dz (CW (X:=Bc X x z scope C s₀ H₀ fp) (i:=0) S.nd rfl (.inl l1) (.inr l1)) (Dz (CW (X:=Bc X x z scope C s₀ H₀ fp) (i:=1) S.nd rfl (.inl l2) (.inr l2)) JF))
theorem K1 {px pz tpos:Pos} {k:Nat} {pos:Pos} {iter elt:Expr} {ifs:List Expr} {wi:TI} {tt:TT} {te:TE} (hc:X.calm=true) (S:Du X x z scope) (hi:PI X (.Tuple [.Name x px,.Name z pz] k tpos) iter wi)
  (ht:∀ C s₀ H₀ fp,Ld (Bc X x z scope C s₀ H₀ fp) ifs tt) (he:∀ C s₀ H₀ fp,PE (Bc X x z scope C s₀ H₀ fp) elt te) (hs:∀ x,foldedSetIterable iter X.env x=pure x:=by intro _; rfl) :
  PE X (.ListComp elt [⟨.Tuple [.Name x px,.Name z pz] k tpos,iter,ifs,0⟩] scope pos) (Rw wi (Qn X.K 2 (Gj (Cw 0) (Gj (Cw 1) Ph))) tt te) :=
 R5 hc S hi (fun _ _ _ _=>Ue hc S) ht he hs
end
section
variable {σ:St} {H1:Hp} {Q:VK} {tt:TT} {te:TE}
theorem Cg {K:PySem.W.Frag} {a:Addr} {xs:List V} (p:V->Bool) (f:V->V) (hl:Cu K H1 a xs) (hz:xs.length<sizeLine)
  (ht:∀ x∈xs,∀ H,Ak H1 H->∀ R:Bool->Hp->Prop,(∀ H',Ak H H'->R (p x) H')->tt (some x::σ) H R)
  (he:∀ x∈xs,p x=true->∀ H,Ak H1 H->∀ R:VK,(∀ H',Ak H H'->R (f x) H')->te (some x::σ) H R)
  (hq:∀ D H,H1 D=none->Ak H1 H->H D=some (.lst ((xs.filter p).map f))->Q (.ref D) H):Fw (W8 K a) σ H1 Q tt te :=
 Gi p f hz (fun i H x hs hx=>⟨xs,x,hs.seq hl,hx⟩) (fun i H y H' hs _ hy=>⟨hy.1,hy.2 xs (hs.seq hl)⟩) (fun H hs=>⟨xs,hs.seq hl,Nat.le_refl _⟩) ht he hq
theorem Kd {J:It} {xs:List V} (p:V->Bool) (f:V->List V) (hz:xs.length<sizeLine)
  (hgo:∀ i H x,Ak H1 H->xs[i]? = some x->J.go i H) (hy:∀ i H y H',Ak H1 H->i<xs.length->J.yld i H y H'->H'=H/\xs[i]? = some y) (hstop:∀ H,Ak H1 H->J.stop xs.length H)
  (ht:∀ x∈xs,∀ H,Ak H1 H->∀ R:Bool->Hp->Prop,(∀ H',Ak H H'->R (p x) H')->tt (some x::σ) H R)
  (he:∀ x∈xs,p x=true->∀ H,Ak H1 H->∀ R:VK,(∀ y H',Ak H H'->TupAt H' (f x) y->R y H')->te (some x::σ) H R)
  (hq:∀ D H ys,H1 D=none->Ak H1 H->H D=some (.lst ys)->Paired (fun x y=>TupAt H (f x) y) (xs.filter p) ys->Q (.ref D) H):Fw J σ H1 Q tt te:=by
 intro D hD
 have s0:Ak H1 (upd H1 D (.lst [])):=fun b o e=>by rw [Aq (Am e hD)]; exact e
 refine ⟨fun i m ys H=>m=xs.length - i/\i<=xs.length/\H D=some (.lst ys)/\Paired (fun x y=>TupAt H (f x) y) ((xs.take i).filter p) ys/\Ak H1 H,⟨xs.length,by simp,Nat.zero_le _,Ai,by simpa using Paired.nil,s0⟩,?_⟩
 rintro i m ys H ⟨rfl,hi,hd,hp,hs⟩
 by_cases hlt:i<xs.length
 ·obtain ⟨x,hx⟩:∃ x,xs[i]? = some x:=⟨xs[i],by simp [hlt]⟩
  refine .inr ⟨hgo i H x hs hx,fun y H3 hyl=>?_⟩
  obtain ⟨rfl,hy'⟩:=hy i H y H3 hs hlt hyl
  rw [hx] at hy'
  cases hy'
  have hm:x∈xs:=List.mem_of_getElem? hx
  have hlen:ys.length<sizeLine:=by
   rw [← hp.length]
   refine Nat.lt_of_le_of_lt (List.length_filter_le _ _) (Nat.lt_of_le_of_lt ?_ hz)
   rw [List.length_take]; omega
  refine ht x hm _ hs _ fun H4 s4=>?_
  by_cases hpx:p x=true
  ·rw [if_pos hpx]
   refine he x hm hpx H4 (hs.trans s4) _ fun y H5 s5 hφ=>?_
   refine ⟨s5 _ _ (s4 _ _ hd),hlen,xs.length - (i+1),by omega,rfl,hlt,Ai,?_,fun b o e=>?_⟩
   ·rw [take_succ_filter p xs i x hx,if_pos hpx]
    exact (Eo (Ar (s4.trans s5) hp) (s5 _ _ (s4 _ _ hd))).snoc (hφ.upd (s5 _ _ (s4 _ _ hd)))
   ·rw [Aq (Am e hD)]; exact s5 _ _ (s4 _ _ (hs _ _ e))
  ·rw [if_neg hpx]
   refine ⟨xs.length - (i+1),by omega,rfl,hlt,s4 _ _ hd,?_,hs.trans s4⟩
   rw [take_succ_filter p xs i x hx,if_neg hpx,List.append_nil]
   exact Ar s4 hp
 ·have e:i=xs.length:=by omega
  subst e
  rw [List.take_length] at hp
  exact .inl ⟨hstop H hs,hq D H ys hD hs hd hp⟩
theorem Jt {K:PySem.W.Frag} {a:Addr} {xs:List V} (p:V->Bool) (f:V->List V) (hl:Cu K H1 a xs) (hz:xs.length<sizeLine)
  (ht:∀ x∈xs,∀ H,Ak H1 H->∀ R:Bool->Hp->Prop,(∀ H',Ak H H'->R (p x) H')->tt (some x::σ) H R)
  (he:∀ x∈xs,p x=true->∀ H,Ak H1 H->∀ R:VK,(∀ y H',Ak H H'->TupAt H' (f x) y->R y H')->te (some x::σ) H R)
  (hq:∀ D H ys,H1 D=none->Ak H1 H->H D=some (.lst ys)->Paired (fun x y=>TupAt H (f x) y) (xs.filter p) ys->Q (.ref D) H):Fw (W8 K a) σ H1 Q tt te :=
 Kd p f hz (fun i H x hs hx=>⟨xs,x,hs.seq hl,hx⟩) (fun i H y H' hs _ hy=>⟨hy.1,hy.2 xs (hs.seq hl)⟩) (fun H hs=>⟨xs,hs.seq hl,Nat.le_refl _⟩) ht he hq
theorem K5 {α β:Type} {F:α->β->Prop} (g:Nat->α):∀ {n:Nat} {l:List α} {ys:List β},Paired F l ys->l=(List.range n).map g->Paired (fun i y=>F (g i) y) (List.range n) ys:=by
 intro n
 have key:∀ (js:List Nat) (ys:List β),Paired F (js.map g) ys->Paired (fun i y=>F (g i) y) js ys:=by
  intro js
  induction js with
  | nil=>intro ys h; cases h; exact .nil
  | cons j js ih =>
   intro ys h
   cases h with
   | cons a b=>exact .cons a (ih _ b)
 intro l ys h e
 subst e
 exact key _ _ h
theorem J6 {n:Nat} (f:Nat->List V) (hz:n<sizeLine)
  (he:∀ i:Nat,i<n->∀ H,Ak H1 H->∀ R:VK,(∀ y H',Ak H H'->TupAt H' (f i) y->R y H')->te (some (.int (i:Int))::σ) H R)
  (hq:∀ D H ys,H1 D=none->Ak H1 H->H D=some (.lst ys)->Paired (fun i y=>TupAt H (f i) y) (List.range n) ys->Q (.ref D) H):Fw (V6 0 n) σ H1 Q VP te:=by
 let g:V->Nat:=fun v=>match v with | .int i=>i.toNat | _=>0
 have hxs:∀ i:Nat,i<n->((List.range n).map fun (i:Nat)=>V.int (i:Int))[i]? = some (.int i):=fun i hi=>by simp [hi]
 refine Kd (xs:=(List.range n).map fun (i:Nat)=>V.int (i:Int)) (fun _=>true) (fun v=>f (g v)) (by simpa using hz) (fun i H x _ hx=>?_) (fun i H y H' _ hi hy=>?_) (fun H _=>?_) (fun x hx H hs R k=>k H (Ak.refl H)) (fun x hx _ H hs R k=>?_) (fun D H ys h1 h2 h3 h4=>?_)
 ·have:i<((List.range n).map fun (i:Nat)=>V.int (i:Int)).length:=(List.getElem?_eq_some_iff.mp hx).1
  show i<n
  simpa using this
 ·obtain ⟨e1,e2⟩:=hy
  have hi':i<n:=by simpa using hi
  refine ⟨e1,?_⟩
  rw [hxs i hi',e2,Int.zero_add]
 ·show n<=_
  simp
 ·obtain ⟨i,hi,rfl⟩:=List.mem_map.mp hx
  exact he i (List.mem_range.mp hi) H hs R k
 ·rw [List.filter_eq_self.mpr (fun _ _=>rfl)] at h4
  exact hq D H ys h1 h2 h3 (K5 (F:=fun x y=>TupAt H (f (g x)) y) (fun i=>V.int (i:Int)) h4 rfl)
theorem RM {K:PySem.W.Frag} {a b:Addr} {xs ys:List V} (f:V->V->V) (hx:GD K H1 a xs) (hy:GD K H1 b ys) (hl:xs.length=ys.length) (hz:xs.length<sizeLine)
  (he:∀ (i:Nat) x y,xs[i]? = some x->ys[i]? = some y->∀ H,Ak H1 H->∀ R:VK,(∀ H',Ak H H'->R (f x y) H')->te (some x::some y::σ) H R)
  (hq:∀ D H,H1 D=none->Ak H1 H->H D=some (.lst (List.zipWith f xs ys))->Q (.ref D) H):Hm (jb K a b) σ H1 Q (Qn K 2 (Gj (Cw 0) (Gj (Cw 1) Ph))) VP te:=by
 intro D hD
 have s0:Ak H1 (upd H1 D (.lst [])):=fun b o e=>by rw [Aq (Am e hD)]; exact e
 refine ⟨fun i m zs H=>m=xs.length - i/\i<=xs.length/\zs=(List.zipWith f xs ys).take i/\H D=some (.lst zs)/\Ak H1 H,⟨xs.length,by simp,Nat.zero_le _,by simp,Ai,s0⟩,?_⟩
 rintro i m zs H ⟨rfl,hi,rfl,hd,hs⟩
 have hzl:(List.zipWith f xs ys).length=xs.length:=by rw [List.length_zipWith]; omega
 by_cases hlt:i<xs.length
 ·have ex:xs[i]? = some xs[i]:=List.getElem?_eq_getElem hlt
  have ey:ys[i]? = some ys[i]:=List.getElem?_eq_getElem (hl ▸ hlt)
  refine .inr ⟨⟨xs,ys,_,_,hs.tup hx,hs.tup hy,ex,ey⟩,fun v H3 hv v0 v1=>?_⟩
  obtain ⟨T,hT,rfl,hv⟩:=hv
  obtain ⟨x,y,qx,qy,rfl⟩:=hv xs ys (hs.tup hx) (hs.tup hy)
  have s3:Ak H (upd H T (.tup [x,y])):=fun b o e=>by rw [Aq (Am e hT)]; exact e
  refine ⟨T,[x,y],rfl,.inl (.inl Ai),rfl,x,[y],rfl,y,[],rfl,rfl,⟨_,_,rfl⟩,?_⟩
  unfold VP
  dsimp only
  rw [if_pos rfl]
  refine he i x y qx qy _ (hs.trans s3) _ fun H5 s5=>?_
  refine ⟨s5 _ _ (s3 _ _ hd),?_,xs.length - (i+1),by omega,rfl,hlt,?_,Ai,fun b o e=>?_⟩
  ·rw [List.length_take,hzl]
   omega
  ·rw [List.take_add_one,List.getElem?_zipWith,qx,qy]
   rfl
  ·rw [Aq (Am e hD)]
   exact s5 _ _ (s3 _ _ (hs _ _ e))
 ·have e:i=xs.length:=by omega
  subst e
  rw [← hzl,List.take_length] at hd
  exact .inl ⟨⟨xs,hs.tup hx,Nat.le_refl _⟩,hq D H hD hs hd⟩
theorem Pu {K:PySem.W.Frag} {a:Addr} {xs:List V} (p:Nat->V->Bool) (f:Nat->V->V) (hx:Cu K H1 a xs) (hz:xs.length<sizeLine)
  (ht:∀ (i:Nat) x,xs[i]? = some x->∀ H,Ak H1 H->∀ R:Bool->Hp->Prop,(∀ H',Ak H H'->R (p i x) H')->tt (some (.int (i:Int))::some x::σ) H R)
  (he:∀ (i:Nat) x,xs[i]? = some x->p i x=true->∀ H,Ak H1 H->∀ R:VK,(∀ H',Ak H H'->R (f i x) H')->te (some (.int (i:Int))::some x::σ) H R)
  (hq:∀ D H,H1 D=none->Ak H1 H->H D=some (.lst ((xs.zipIdx.filter fun q=>p q.2 q.1).map fun q=>f q.2 q.1))->Q (.ref D) H):Hm (YK K a) σ H1 Q (Qn K 2 (Gj (Cw 0) (Gj (Cw 1) Ph))) tt te:=by
 intro D hD
 have s0:Ak H1 (upd H1 D (.lst [])):=fun b o e=>by rw [Aq (Am e hD)]; exact e
 refine ⟨fun i m zs H=>m=xs.length - i/\i<=xs.length/\zs=(((xs.zipIdx.take i).filter fun q=>p q.2 q.1).map fun q=>f q.2 q.1)/\H D=some (.lst zs)/\Ak H1 H,⟨xs.length,by simp,Nat.zero_le _,by simp,Ai,s0⟩,?_⟩
 rintro i m zs H ⟨rfl,hi,rfl,hd,hs⟩
 by_cases hlt:i<xs.length
 ·have ex:xs[i]? = some xs[i]:=List.getElem?_eq_getElem hlt
  refine .inr ⟨⟨xs,_,hs.seq hx,ex⟩,fun v H3 hv v0 v1=>?_⟩
  obtain ⟨T,hT,rfl,hv⟩:=hv
  obtain ⟨x,qx,rfl⟩:=hv xs (hs.seq hx)
  have s3:Ak H (upd H T (.tup [.int (i:Int),x])):=fun b o e=>by rw [Aq (Am e hT)]; exact e
  have ez:xs.zipIdx[i]? = some (x,i):=by rw [List.getElem?_zipIdx,qx]; simp
  have hlen:(((xs.zipIdx.take i).filter fun q=>p q.2 q.1).map fun q=>f q.2 q.1).length<sizeLine:=by
   rw [List.length_map]
   refine Nat.lt_of_le_of_lt (List.length_filter_le _ _) (Nat.lt_of_le_of_lt ?_ hz)
   rw [List.length_take,List.length_zipIdx]; omega
  refine ⟨T,[.int (i:Int),x],rfl,.inl (.inl Ai),rfl,_,[x],rfl,x,[],rfl,rfl,⟨_,_,rfl⟩,?_⟩
  refine ht i x qx _ (hs.trans s3) _ fun H4 s4=>?_
  by_cases hp:p i x=true
  ·rw [if_pos hp]
   refine he i x qx hp _ (hs.trans (s3.trans s4)) _ fun H5 s5=>?_
   refine ⟨s5 _ _ (s4 _ _ (s3 _ _ hd)),hlen,xs.length - (i+1),by omega,rfl,hlt,?_,Ai,fun b o e=>?_⟩
   ·rw [take_succ_filter (fun q:V × Nat=>p q.2 q.1) xs.zipIdx i (x,i) ez,if_pos hp,List.map_append]
    rfl
   ·rw [Aq (Am e hD)]
    exact s5 _ _ (s4 _ _ (s3 _ _ (hs _ _ e)))
  ·rw [if_neg hp]
   refine ⟨xs.length - (i+1),by omega,rfl,hlt,?_,s4 _ _ (s3 _ _ hd),hs.trans (s3.trans s4)⟩
   rw [take_succ_filter (fun q:V × Nat=>p q.2 q.1) xs.zipIdx i (x,i) ez,if_neg hp,List.append_nil]
 ·have e:i=xs.length:=by omega
  subst e
  rw [List.take_of_length_le (by simp)] at hd
  exact .inl ⟨⟨xs,hs.seq hx,Nat.le_refl _⟩,hq D H hD hs hd⟩
end
theorem JN {K:PySem.W.Frag} {a:Addr} {xs:List V} {g:TG} {tb:TS} {D:Ends} {σ:St} {H:Hp} (Pv:Nat->St->Hp->Prop) (h0:Pv 0 σ H) (hl:∀ i σ H,i<=xs.length->Pv i σ H->Cu K H a xs)
  (hb:∀ (i:Nat) x σ H T,xs[i]? = some x->Pv i σ H->H T=none->g (.ref T) σ (upd H T (.tup [.int (i:Int),x])) fun σ' H'=>tb { D with nx:=Pv (i+1),ct:=Pv (i+1),bk:=D.nx } σ' H')
  (hn:∀ σ H,Pv xs.length σ H->D.nx σ H):∃ W:Nat->Nat->St->Hp->Prop,(∃ m,W 0 m σ H)/\∀ i m σ H,W i m σ H ->
   ((YK K a).stop i H/\D.nx σ H) \/ ((YK K a).go i H/\∃ N:St->Hp->Prop,(∀ σ H,N σ H->∃ m',m'<m/\W (i+1) m' σ H)/\∀ x H',(YK K a).yld i H x H'->g x σ H' fun σ' H''=>tb { D with nx:=N,ct:=N,bk:=D.nx } σ' H''):=by
 refine ⟨fun i m σ H=>m=xs.length - i/\i<=xs.length/\Pv i σ H,⟨_,rfl,Nat.zero_le _,h0⟩,?_⟩
 rintro i m σ H ⟨rfl,hi,hp⟩
 by_cases hlt:i<xs.length
 ·refine .inr ⟨⟨xs,_,hl i σ H hi hp,List.getElem?_eq_getElem hlt⟩,Pv (i+1),fun σ' H' h=>⟨xs.length - (i+1),by omega,rfl,hlt,h⟩,fun v H' hv=>?_⟩
  obtain ⟨T,hT,rfl,hv⟩:=hv
  obtain ⟨x,qx,rfl⟩:=hv xs (hl i σ H hi hp)
  exact hb i x σ H T qx hp hT
 ·have e:i=xs.length:=by omega
  subst e
  exact .inl ⟨⟨xs,hl _ σ H hi hp,Nat.le_refl _⟩,hn σ H hp⟩
end L2
namespace L2
open PySem PySem.Spec PySem.Calls PyProof.Rows
structure Zo (K:PySem.W.Frag) (C:Addr):Prop where
 ga:PySem.W.findIn K (.ref C) "__getattribute__" = some (some (.builtin "BaseException.__getattribute__"))
 gt:PySem.W.findIn K (.ref C) "__getattr__" = some none
 mb:PySem.W.mroIn K C (.type "BaseException")=some true
 hd:PySem.W.hasDictIn K C=true
 ca:PySem.W.findIn K (.ref C) "__class__" = some (some (.builtin "object.__class__"))
 cg:PySem.W.specialIn K (.builtin "object.__class__") "__get__" = some (some (.builtin "getset_descriptor.__get__"))
 ct:PySem.W.takesIn K (.builtin "object.__class__")=some true
 mo:PySem.W.mroIn K C (.type "object")=some true
section
variable {prog:Program} {w:World} {A:Around} {E:Value->Shared->Prop} {s:Shared} {K:PySem.W.Frag} {x C:Addr} {ox:Obj} {od:Option Obj} {name:Str} {tk:Tok} {R:Result->Shared->Prop}
end
end L2
namespace L2
open PySem PySem.Spec PySem.Calls PyProof.Rows
noncomputable abbrev Uy:List Value:=[.type "ValueError",.type "Exception",.type "BaseException",.type "object"]
section
variable {prog:Program} {w:World} {A:Around} {E:Value->Shared->Prop} {K:PySem.W.Frag} {C:Addr} {h:Heap} {g:Array GenState} {d:Drawn} {t:Nat} {os:OsState}
end
end L2
namespace L2
open PySem PySem.Spec PySem.Calls PyProof.Rows
noncomputable def Yc (x C:Addr) (od:Option Addr):HO:=.ext fun h=>∃ (d:Data) (sl:Array (Option Value)),h.get? x=some ⟨.ref C,od,d,sl⟩/\PySem.W.notCls ⟨.ref C,od,d,sl⟩=true
noncomputable def oK (dx:Addr) (fs:List (Str × V)):HO:=.ext fun h=>∃ mA,h.Ns1 dx mA/\∀ f,Fx (fs.lookup f) (mA f)
section
variable {P:Program} {w:World} {H H':Hp} {h:Heap} {x C dx:Addr} {od:Option Addr} {fs:List (Str × V)}
inductive Vz (H:Hp) (x C:Addr):List (Str × V)->Prop where
 | bare (e:H x=some (Yc x C none)):Vz H x C []
 | full {dx:Addr} {fs:List (Str × V)} (e:H x=some (Yc x C (some dx))) (d:H dx=some (oK dx fs)):Vz H x C fs
end
section
variable {P:Program} {w:World} {X:Cx} {pins:List (Addr × Obj)} {σ:St} {H:Hp} {s:Shared} {h':Heap} {a:Addr} {o:HO}
theorem Ex.none_of {h:Heap} (x:Ex P w H h) (e:h.get? a=none):H a=none:=by
 cases q:H a with
 | none=>rfl
 | some u =>
  exfalso
  obtain ⟨o,ho⟩:∃ o,h.get? a=some o:=by
   have z:=x a u q
   cases u with
   | lst xs=>obtain ⟨_,_,_,_,e⟩:=z; exact ⟨_,e⟩
   | tup xs=>obtain ⟨_,_,_,o,e,_⟩:=z; exact ⟨_,e⟩
   | dK kvs=>obtain ⟨_,_,_,_,o,_,_,e,_⟩:=z; exact ⟨_,e⟩
   | dT kvs=>obtain ⟨_,_,_,_,o,_,_,e,_⟩:=z; exact ⟨_,e⟩
   | set S n=>obtain ⟨o,_,_,_,e,_⟩:=z; exact ⟨_,e⟩
   | ins C dx fs=>obtain ⟨_,_,_,e,_⟩:=z; exact ⟨_,e⟩
   | own y=>obtain ⟨_,e⟩:=z; exact ⟨_,e⟩
   | xd fs=>obtain ⟨_,⟨_,_,_,e,_⟩,_⟩:=z; exact ⟨_,e⟩
   | rng lo hi=>obtain ⟨_,_,_,e⟩:=z; exact ⟨_,e⟩
   | frz ob u=>obtain ⟨e,_⟩:=z; exact ⟨_,e⟩
   | tbl ps=>exact ⟨_,(show h.get? a=some _ from z)⟩
   | met f y=>exact ⟨_,(show h.get? a=some _ from z)⟩
   | ext φ=>obtain ⟨_,⟨_,e⟩,_⟩:=z; exact ⟨_,e⟩
  rw [e] at ho; cases ho
end
theorem O3 {K:PySem.W.Frag} {h:Heap} {C:Addr} (X:K.In h) (q:PySem.W.excIn K C Uy "ValueError.__new__" = true) :
  ∃ bm N nm qn bs hdct sn sub ab col dd k0 k1 k2 k3 k5 mN,h.get? C=some (excClassObj nm qn C N bs bm hdct sn sub ab col dd k0 k1 k2 k3 k5 "ValueError.__new__")/\h.Ns N mN/\mN "__init__" = none/\OwnTail h Uy bm:=by
 unfold PySem.W.excIn at q
 split at q
 ·rename_i dd cd sl ho
  split at q
  ·rename_i C' bm k0 k1 k2 k3 n k5 hm hs
   simp only [Bool.and_eq_true,beq_iff_eq,Bool.not_eq_true'] at q
   obtain ⟨⟨⟨⟨⟨rfl,rfl⟩,hdel⟩,ht⟩,hok⟩,hni⟩:=q
   obtain ⟨nm,bs,mro,ns,qn,hd,sn,sub,ab,col,del⟩:=cd
   dsimp only at hm hdel hok hni
   subst hm hdel
   have hsl:sl = #[k0,k1,k2,k3,some (.builtin "ValueError.__new__"),k5]:=by
    obtain ⟨l⟩:=sl
    simp only at hs
    rw [hs]
   subst hsl
   exact ⟨bm,ns,nm,qn,bs,hd,sn,sub,ab,col,dd,k0,k1,k2,k3,k5,_,X _ _ ho,.of_isNs (PySem.W.isNs_of_in X hok),PySem.W.nsMap_none_of_in X hok hni,PySem.W.tail_of_in X ht⟩
  ·cases q
 ·cases q
section
variable {X:Cx} {C:Addr} {x:Str} {e:Expr} {es:List Expr} {t:TA} {p pos:Pos}
end
section
variable {X:Cx} {e:Expr} {f:Str} {pos:Pos} {ta:TE}
end
section
variable {prog:Program} {w:World} {A:Around} {E:Value->Shared->Prop} {s:Shared} {K:PySem.W.Frag} {x C:Addr} {name:Str} {v:Value} {R:Result->Shared->Prop} {d:Data} {sl:Array (Option Value)}
end
section
variable {X:Cx} {pins:List (Addr × Obj)} {σ:St} {H:Hp} {s:Shared} {h':Heap} {x C dx:Addr} {f:Str} {y:V} {u:Value}
end
section
variable {X:Cx} {o value:Expr} {f:Str} {pos pos':Pos} {ta tv:TE}
end
section
variable {X:Cx} {C f:Addr} {fd:FuncData} {ps:List Str} {sp:Sp} {k:Nat} {x:Str} {e:Expr} {es:List Expr} {t:TA} {p pos:Pos}
end
theorem La {x:V} (h:GC x=true):Qo x x=true:=by
 cases x with
 | non=>rfl
 | bl b=>simp [Qo]
 | int i=>simp [Qo]
 | str z=>simp [Qo]
 | _=>exact absurd (show false=true from h) Bool.false_ne_true
section
variable {X:Cx}
theorem GP {xs:List V} {us:List Value} {j:Nat} (r:Vals xs us) (hj:j<us.length):RelV (xs.getD j .non) us[j]:=by
 have hl:=r.length
 have hx:xs[j]? = some xs[j]:=by simp [hl,hj]
 obtain ⟨u,hu,ru⟩:=r.get hx
 rw [List.getElem?_eq_getElem hj] at hu
 cases hu
 have e:xs.getD j .non=xs[j]:=by simp [hl,hj]
 rw [e]
 exact ru
end
end L2
namespace Wd
noncomputable def mk (l:List Nat):Nat:=l.foldl (fun s n=>s ||| 2 ^ n) 0
theorem QW (l:List Nat):∀ (s i:Nat),(l.foldl (fun s n=>s ||| 2 ^ n) s).testBit i=(s.testBit i || decide (i∈l)):=by
 induction l with
 | nil=>intro s i; simp
 | cons n l ih =>
  intro s i
  rw [List.foldl_cons,ih,Nat.testBit_or,Nat.testBit_two_pow]
  by_cases h:n=i
  ·subst h; simp
  ·have h':¬ i=n:=fun e=>h e.symm
   simp [h,h']
theorem HD (l:List Nat) (i:Nat):(mk l).testBit i=decide (i∈l):=by
 unfold mk; rw [QW]; simp
noncomputable def len (n:Nat):Nat:=if n=0 then 0 else n.log2+1
theorem Q_ {n i:Nat} (h:n.testBit i=true):i<len n:=by
 unfold len
 have h0:n ≠ 0:=by intro e; subst e; simp at h
 rw [if_neg h0]
 have h1:2 ^ i<=n:=Nat.ge_two_pow_of_testBit h
 have h2:i<=n.log2:=(Nat.le_log2 h0).mpr h1
 omega
noncomputable def mem (n:Nat):List Nat:=(List.range (len n)).filter n.testBit
theorem mem_iff {n i:Nat}:i∈mem n ↔ n.testBit i=true:=by
 unfold mem
 rw [List.mem_filter,List.mem_range]
 exact ⟨fun h=>h.2,fun h=>⟨Q_ h,h⟩⟩
theorem K8 {n k:Nat} (h:n<2 ^ k):len n<=k:=by
 unfold len
 split
 ·omega
 ·rename_i h0
  have:n.log2<k:=(Nat.log2_lt h0).mpr h
  omega
noncomputable def mv (n:Nat) (k:Int) (c:Nat):Nat:=(if 0<k then n * 2 ^ k.toNat else n / 2 ^ (-k).toNat) % 2 ^ c
theorem Wb (n:Nat) (k:Int) (c i:Nat):(mv n k c).testBit i=(decide (i<c) && (decide (0<=(i:Int) - k) && n.testBit ((i:Int) - k).toNat)):=by
 unfold mv
 rw [Nat.testBit_mod_two_pow]
 congr 1
 split
 ·rename_i h
  rw [Nat.testBit_mul_two_pow]
  by_cases h1:k.toNat<=i
  ·have e:((i:Int) - k).toNat=i - k.toNat:=by omega
   have e2:(0:Int)<=i - k:=by omega
   rw [decide_eq_true e2,e]; simp [h1]
  ·have e2:¬ (0:Int)<=i - k:=by omega
   rw [decide_eq_false e2]; simp [h1]
 ·rename_i h
  rw [Nat.testBit_div_two_pow]
  have e:((i:Int) - k).toNat=i+(-k).toNat:=by omega
  have e2:(0:Int)<=i - k:=by omega
  rw [decide_eq_true e2,e]; simp
noncomputable def stay (l:List Nat) (k:Int) (c:Nat):List Nat:=l.filter fun n=>decide (0<=(n:Int)+k) && decide ((n:Int)+k<c)
theorem Zv {l:List Nat} (hb:∀ n∈l,n<1200):mk l<2 ^ 1200:=by
 refine Nat.lt_pow_two_of_testBit _ fun i hi=>?_
 rw [HD]
 exact decide_eq_false fun h=>absurd (hb i h) (by omega)
theorem Od (l:List Nat) (n:Nat):mk (l++[n])=mk l ||| 2 ^ n:=by
 unfold mk; rw [List.foldl_append]; rfl
end Wd
namespace L2
open PySem PySem.Spec PySem.Calls PyProof.Rows
theorem Ox:∀ {xs:List V} {us:List Value},xs.length=us.length->(∀ (j:Nat) x u,xs[j]? = some x->us[j]? = some u->RelV x u)->Vals xs us
 | [],[],_,_=>.nil
 | [],_::_,h,_=>by simp at h
 | _::_,[],h,_=>by simp at h
 | x::xs,u::us,h,f=>.cons (f 0 x u rfl rfl) (Ox (by simpa using h) fun j y v hy hv=>f (j+1) y v (by simpa using hy) (by simpa using hv))
section
variable {X:Cx} {es:List Expr} {k1:Nat} {tpos:Pos}
theorem Jy (hc:X.calm=true):Eu X (.type "list") (fun xs H Q=>∃ (a:Addr) (kvs:List (Key × V)) (js:List Int),xs=[V.ref a]/\H a=some (.dK kvs)/\kvs.map (·.1)=js.map Sum.inl/\∀ l,H l=none->Q (.ref l) (upd H l (.lst (js.map V.int)))):=by
 intro pins s σ H xs us Q I r h
 obtain ⟨a,kvs,js,rfl,ha,hj,q⟩:=h
 obtain ⟨u,rfl,ru⟩:=vals1 r
 cases ru
 obtain ⟨hz,lo,vs,rel,o,es,ep,e1,e2,e3,e4,e5,e6⟩:=I.hok a _ ha
 have hl:kvs.length=vs.length:=Paired.length rel
 have hda:s.heap.DictAt (Bl X.prog X.w) a vs ep:=⟨o,es,e1,e2,e3,e4,e5,e6⟩
 refine PySem.W.kdl_call (PySem.W.kdl_dict (knd:=Bl X.prog X.w) (kvs:=vs) (ep:=ep) lo) (I.ok.hd hc) hda (by omega) ?_
 intro h' tk acc' c' hk hD hacc
 have hjl:js.length=vs.length:=by
  have:=congrArg List.length hj
  rw [List.length_map,List.length_map] at this
  omega
 have hv:Vals (js.map V.int) acc'.toList:=by
  refine Ox (by have h1:acc'.toList.length=acc'.size:=Array.length_toList; have h2:=hacc.1; rw [List.length_map]; omega) fun j x u hx hu=>?_
  rw [Array.getElem?_toList] at hu
  obtain ⟨k,y,hk1,hk2⟩:=hacc.2 j u hu
  rw [List.getElem?_map] at hx
  obtain ⟨i,hi,rfl⟩:=Option.map_eq_some_iff.mp hx
  have e1:(kvs.map (·.1))[j]? = some (Sum.inl i):=by rw [hj,List.getElem?_map,hi]; rfl
  rw [List.getElem?_map] at e1
  obtain ⟨kv,hkv,ekv⟩:=Option.map_eq_some_iff.mp e1
  have rel':∀ {l:List (Key × V)} {m:List (Key × Value)},KV l m->∀ {j:Nat} {p q},l[j]? = some p->m[j]? = some q->p.1=q.1:=by
   intro l m h
   unfold KV at h
   induction h with
   | nil=>intro j p q hp; simp at hp
   | cons a b ih =>
    intro j p q hp hq
    cases j with
    | zero =>
     simp at hp hq
     subst hp hq
     exact a.1
    | succ j=>exact ih (by simpa using hp) (by simpa using hq)
  have e2:=rel' rel hkv hk1
  rw [ekv] at e2
  have e3:k=Sum.inl i:=e2.symm
  subst e3
  rcases Bw (show Ir (Sum.inl i) u=true from hk2) with ⟨i',t,e,rfl⟩ | ⟨x,t,e,_⟩
  ·cases e
   exact ⟨t,rfl⟩
  ·cases e
 refine ⟨.ref s.heap.objs.size,_,I.laid (t':=tk) (o:=.lst (js.map V.int)) hk (Nat.le_refl _) ⟨by rw [List.length_map]; omega,acc'.toList,c',hv,by simpa using hD⟩,rfl,q _ (I.hok.fresh (Nat.le_refl _))⟩
theorem Li:nO X "int.bit_length" (fun x xs H Q=>∃ i,x=V.int i/\xs=[]/\Q (.int (Builtin.Int.intBits i)) H):=by
 intro pins s σ H x xs v us Q I rx r h
 obtain ⟨i,rfl,rfl,q⟩:=h
 obtain ⟨t,rfl⟩:=rx
 cases r
 exact PyProof.Rows.call_int_bit_length ⟨.int _,H,I.tok _,⟨_,rfl⟩,q⟩
end
theorem JM (a b:Nat):Builtin.bitOr (a:Int) (b:Int)=((a ||| b:Nat):Int):=by
 have h1:¬ 0<=Builtin.bitNot (a:Int):=by unfold Builtin.bitNot; omega
 have h2:¬ 0<=Builtin.bitNot (b:Int):=by unfold Builtin.bitNot; omega
 have nn:∀ x:Int,Builtin.bitNot (Builtin.bitNot x)=x:=fun x=>by unfold Builtin.bitNot; omega
 unfold Builtin.bitOr
 rw [bitAnd_nn h1 h2,nn,nn,nn]
 simp
theorem Mi (a b:Nat):Builtin.bitAnd (a:Int) (b:Int)=((a &&& b:Nat):Int):=by
 rw [bitAnd_pp (Int.natCast_nonneg a) (Int.natCast_nonneg b)]
 simp
theorem Hu (n:Nat):Builtin.Int.intBits (n:Int)=Wd.len n:=by
 unfold Builtin.Int.intBits Wd.len
 by_cases h:n=0
 ·subst h; rfl
 ·have h':((n:Int) == 0)=false:=by simpa using h
  rw [h',if_neg h]
  simp
theorem Fg (k:Nat):(2:Int) ^ k=((2 ^ k:Nat):Int):=by simp
end L2
namespace Wd
open PySem
noncomputable abbrev VF (xs:Array Nat):Prop:=xs.toList.Pairwise (· < ·)
theorem Ni {xs:Array Nat} (r:VF xs) {i k:Nat} (h:i<k) (hk:k<xs.size):xs.getD i 0<xs.getD k 0:=by
 have hi:i<xs.size:=Nat.lt_trans h hk
 have:=(List.pairwise_iff_getElem.mp r) i k (by simpa using hi) (by simpa using hk) h
 simpa [Array.getD,hi,hk] using this
structure Cut (xs:Array Nat) (j p:Nat):Prop where
 le:p<=xs.size
 lo:∀ i,i<p->xs.getD i 0<j
 hi:∀ i,p<=i->i<xs.size->j<=xs.getD i 0
theorem Je {xs:Array Nat} (r:VF xs) (j:Nat):∀ (fuel lo hi:Nat),hi<=xs.size->hi - lo<=fuel->lo<=hi->(∀ i,i<lo->xs.getD i 0<j)->(∀ i,hi<=i->i<xs.size->j<=xs.getD i 0)->Cut xs j (SetTable.below.go xs j fuel lo hi)
 | 0,lo,hi,h1,h2,h3,a,b=>by
  have e:lo=hi:=by omega
  subst e
  exact ⟨h1,a,b⟩
 | fuel+1,lo,hi,h1,h2,h3,a,b=>by
  unfold SetTable.below.go
  split
  ·rename_i hlt
   have hm:(lo+hi) / 2<xs.size:=by omega
   have e:xs.getD ((lo+hi) / 2) j=xs.getD ((lo+hi) / 2) 0:=by simp [Array.getD,hm]
   dsimp only
   rw [e]
   by_cases hj:xs.getD ((lo+hi) / 2) 0<j
   ·rw [if_pos hj]
    refine Je r j fuel ((lo+hi) / 2+1) hi h1 (by omega) (by omega) (fun i hi'=>?_) b
    by_cases q:i=(lo+hi) / 2
    ·rw [q]; exact hj
    ·have:=Ni r (i:=i) (k:=(lo+hi) / 2) (by omega) hm
     omega
   ·rw [if_neg hj]
    refine Je r j fuel lo ((lo+hi) / 2) (by omega) (by omega) (by omega) a fun i hi' hs=>?_
    by_cases q:i=(lo+hi) / 2
    ·rw [q]; omega
    ·have:=Ni r (i:=(lo+hi) / 2) (k:=i) (by omega) hs
     omega
  ·have e:lo=hi:=by omega
   subst e
   exact ⟨h1,a,b⟩
theorem KJ {xs:Array Nat} (r:VF xs) (j:Nat):Cut xs j (SetTable.below xs j) :=
 Je r j xs.size 0 xs.size (Nat.le_refl _) (by omega) (Nat.zero_le _) (fun i h=>absurd h (Nat.not_lt_zero _)) (fun i h1 h2=>absurd h2 (by omega))
theorem N6 {xs:Array Nat} {j:Nat} (r:VF xs) (h:xs[SetTable.below xs j]? ≠ some j):j ∉ xs.toList:=fun hm=>by
 have c:=KJ r j
 obtain ⟨i,hi,e⟩:=List.mem_iff_getElem.mp hm
 have hi':i<xs.size:=by simpa using hi
 have ei:xs.getD i 0=j:=by simpa [Array.getD,hi'] using e
 have h1:SetTable.below xs j<=i:=by
  rcases Nat.lt_or_ge i (SetTable.below xs j) with q | q
  ·have:=c.lo i q; omega
  ·exact q
 have h2:SetTable.below xs j<xs.size:=Nat.lt_of_le_of_lt h1 hi'
 have h3:=c.hi _ (Nat.le_refl _) h2
 have h4:SetTable.below xs j=i:=by
  rcases Nat.lt_or_ge (SetTable.below xs j) i with q | q
  ·have:=Ni r q hi'; omega
  ·omega
 refine h ?_
 have e':xs[i]=j:=by simpa [Array.getD,hi'] using ei
 rw [h4,Array.getElem?_eq_getElem hi',e']
theorem Nj {xs:Array Nat} {j:Nat} (r:VF xs) (h:xs[SetTable.below xs j]? ≠ some j):VF (SetTable.insertAt xs (SetTable.below xs j) j):=by
 have c:=KJ r j
 have nm:=N6 r h
 show (SetTable.insertAt xs (SetTable.below xs j) j).toList.Pairwise _
 rw [SetTable.toList_insertAt,List.pairwise_append,List.pairwise_cons]
 have lt1:∀ a∈xs.toList.take (SetTable.below xs j),a<j:=fun a ha=>by
  obtain ⟨i,hi,e⟩:=List.mem_iff_getElem.mp ha
  rw [List.length_take] at hi
  have hi2:i<xs.size:=by simp at hi; omega
  have:=c.lo i (by omega)
  simp [Array.getD,hi2] at this
  rw [List.getElem_take] at e
  rw [← e]
  simpa using this
 have lt2:∀ a∈xs.toList.drop (SetTable.below xs j),j<a:=fun a ha=>by
  obtain ⟨i,hi,e⟩:=List.mem_iff_getElem.mp ha
  rw [List.length_drop] at hi
  have hi2:SetTable.below xs j+i<xs.size:=by simp at hi; omega
  have:=c.hi (SetTable.below xs j+i) (Nat.le_add_right _ _) hi2
  simp [Array.getD,hi2] at this
  rw [List.getElem_drop] at e
  have hle:j<=a:=by rw [← e]; simpa using this
  have hne:j ≠ a:=fun z=>nm (by rw [z]; exact List.mem_of_mem_drop ha)
  omega
 exact ⟨r.sublist (List.take_sublist _ _),⟨lt2,r.sublist (List.drop_sublist _ _)⟩,fun a ha b hb=>by
  rcases List.mem_cons.mp hb with e | hb
  ·rw [e]; exact lt1 a ha
  ·have:=lt1 a ha; have:=lt2 b hb; omega⟩
theorem QG {t:SetTable} {j:Nat} (h:∀ i,t.slot j ≠ .live i):t.place[SetTable.below t.place j]? ≠ some j:=fun e=>by
 refine h (SetTable.below t.place j) ?_
 unfold SetTable.slot
 dsimp only
 rw [e]
 simp
theorem G7 (t:SetTable) (p:SetTable.Probe):(t.advance p).dummy=p.dummy:=by
 unfold SetTable.advance
 split <;> rfl
theorem HJ {t:SetTable} {f:Nat->Int} {h:Int}:∀ (fuel:Nat) (p:SetTable.Probe) (j:Nat) (dm:Option Nat),(∀ d,p.dummy=some d->t.slot d=.dummy)->SetTable.probe.go t f h fuel p=some (.empty j dm) ->
  t.slot j=.empty/\∀ d,dm=some d->t.slot d=.dummy
 | 0,p,j,dm,hd,e=>by unfold SetTable.probe.go at e; cases e
 | fuel+1,p,j,dm,hd,e=>by
  unfold SetTable.probe.go at e
  split at e
  ·rename_i hs
   cases e
   exact ⟨hs,hd⟩
  ·rename_i hs
   refine HJ fuel _ j dm (fun d q=>?_) e
   rw [G7] at q
   cases q
   exact hs
  ·split at e
   ·cases e
   ·refine HJ fuel _ j dm (fun d q=>?_) e
    rw [G7] at q
    exact hd d q
theorem QM {t:SetTable} {h:Int} {j:Nat} {d:Bool} (e:t.freeSlot h=some (j,d)):∀ i,t.slot j ≠ .live i:=by
 unfold SetTable.freeSlot at e
 split at e
 ·rename_i j' dm q
  unfold SetTable.probe at q
  obtain ⟨h1,h2⟩:=HJ _ _ _ _ (fun d hd=>by simp [SetTable.probeStart] at hd) q
  cases dm with
  | none=>cases e; intro i z; rw [show (none:Option Nat).getD j'=j' from rfl,h1] at z; cases z
  | some d' =>
   cases e
   intro i z
   rw [show (some d').getD j'=d' from rfl,h2 d' rfl] at z
   cases z
 ·cases e
structure Good (t:SetTable) (led:Bool):Prop where
 led:t.led=led
 ris:t.plain=true->VF t.place
theorem Nz (led:Bool):Good (.fresh 0 0 led) led:=⟨rfl,fun _=>by simp [SetTable.fresh,VF]⟩
theorem F_ {t:SetTable} {led:Bool} (g:Good t led) (n:Nat):Good (t.standIn n) led:=⟨g.led,fun h=>by simp [SetTable.standIn] at h⟩
theorem Ua {t:SetTable} {led:Bool} (g:Good t led) (n:Nat):Good (t.orStandIn n) led:=by
 unfold SetTable.orStandIn
 split
 ·exact g
 ·exact F_ g n
theorem Q8 {t:SetTable} {led:Bool} (g:Good t led) (es:Array (Int × Value)) (h:Int) (x:Value):Good (layNew t es h x).2.1 led:=by
 unfold layNew
 split
 ·rename_i slot wd e
  refine Ua (t:=(t.put slot).1) ⟨g.led,fun hp=>?_⟩ _
  exact Nj (g.ris hp) (QG (QM e))
 ·exact F_ g _
theorem Pz {mask finger moves:Nat} {led plain:Bool} {hs:Array Int} {t:SetTable} {o:Array Nat} (e:SetTable.laid mask finger moves led plain hs=some (t,o)):Good t led/\t.plain=plain:=by
 unfold SetTable.laid at e
 simp only [Option.bind_eq_bind,Option.bind_eq_some_iff] at e
 obtain ⟨owner,_,e⟩:=e
 cases e
 refine ⟨⟨rfl,fun _=>?_⟩,rfl⟩
 show List.Pairwise _ ((List.map _ _).toArray).toList
 rw [List.pairwise_map,List.pairwise_filterMap]
 refine List.pairwise_lt_range.imp fun {a b} hab x hx y hy=>?_
 obtain ⟨u,_,rfl⟩:=Option.map_eq_some_iff.mp hx
 obtain ⟨v,_,rfl⟩:=Option.map_eq_some_iff.mp hy
 exact hab
theorem Nf {t:SetTable} {led:Bool} (g:Good t led) (es:Array (Int × Value)) (n:Nat):Good (relayAll t es n).2.1 led:=by
 unfold relayAll
 split
 ·rename_i t' order e
  dsimp only
  split
  ·have:=Pz e
   rw [g.led] at this
   exact this.1
  ·exact F_ g _
 ·exact F_ g _
end Wd
namespace Wd
open PySem PySem.Spec PyProof.Rows
noncomputable def iD (prog:Program) (w:World) (h:Heap) (a:Addr) (led:Bool) (σ:List Int):Prop :=
 ∃ es ep t,h.get? a=some { cls:=.type "set",dict:=none,data:=.set es ep t }/\ElemsOf (intKind prog w) es.toList/\(∀ k,k∈σ ↔ ∃ e∈es.toList,(intKind prog w).is k e.2=true)/\es.size=σ.length/\σ.Nodup /\
  σ.length<scanBound/\t.fits es.size=true/\Good t led
section
variable {prog:Program} {w:World} {A:Around} {E:Value->Shared->Prop} {s:Shared} {a:Addr} {led:Bool} {σ:List Int} {k:Int} {tk:Tok}
theorem O6 {h:Heap} {es es':Array (Int × Value)} {ep:Nat} {t t':SetTable} (ho:h.get? a=some { cls:=.type "set",dict:=none,data:=.set es ep t }) :
  (h.update a (Obj.putSet es' t')).get? a=some { cls:=.type "set",dict:=none,data:=.set es' (ep+1) t' } :=
 (Heap.get?_update_self (Obj.putSet es' t') ho (by rw [putSet_of es' t' rfl]; rfl)).trans (by rw [putSet_of es' t' rfl])
end
end Wd
namespace Wd
open PySem PySem.Spec PyProof.Rows
section
variable {prog:Program} {w:World} {A:Around} {R:Result->Shared->Prop} {I:Addr} {fp wr:List Addr} {G:Array GenState->Array GenState->Prop} {n:Nat} {P:Nat->Value->Prop} {St:Nat->Shared->Prop} {led:Bool}
end
section
variable {prog:Program} {w:World} {A:Around} {E:Value->Shared->Prop} {s:Shared}
noncomputable abbrev Dr (w:World):Bool:=!w.params.followText "set-order"
theorem bF (a:Value) {Q1:Value->Shared->Prop} (h:Q1 (.ref s.heap.objs.size) { s with heap:=s.heap.push { cls:=.type "set",dict:=none,data:=.set #[] 0 (.fresh 0 0 (Dr w)) } }) :
  codeAny (model prog w) A (.call (.builtin "set.__new__") ⟨[.type "set",a],[]⟩) (wants Q1 E) s:=by
 refine codeAny_of_tree ?_
 show wpAny _ A.in1 (do checkBuiltinCall "set.__new__" ⟨[.type "set",a],[]⟩; again (.builtin "set.__new__" ⟨[.type "set",a],[]⟩)) _ _ s
 refine wpAny_bind (wpAny_of_eq (F.newCall_set_1 a) (wpAny_pure ⟨plainId_quiet F.plain_set_new _,codeAny_builtin F.entry_set_new ?_⟩))
 rw [Around.under_plainId F.plain_set_new _]
 unfold Builtin.«set.__new__» Builtin.Frozenset.newClass
 have hsub:=sub_set_self
 obtain ⟨hp,g,d,tk,os⟩:=s
 dsimp only
 wp_walk
 refine wpAny_askSetting (wpAny_pure ?_)
 dsimp only
 simp only [newObj]
 exact wpAny_bind (wpAny_alloc (wpAny_pure (wpAny_pure h)))
end
end Wd
namespace Wd
open PySem PySem.Spec PyProof.Rows
end Wd
namespace Wd
open PySem PySem.Spec PyProof.Rows
section
variable {M:Model} {A:Around} {E:Value->Shared->Prop}
end
inductive Way (w:World) (a:Addr) (es:Array (Int × Value)) (ep:Nat) (t:SetTable) (h:Heap):(Nat->Value)->List Value->List Addr->Prop where
 | text (hb:w.params.followText "set-order" = true):Way w a es ep t h (fun _=>rawInt 0) ((pickOrder (w.params.setOrder a ep) es).toList.map (·.2)) []
 | drawn {tp:Addr} {ps:List Nat} (hb:w.params.followText "set-order" = false) (hp:ps.Perm (List.range es.size)) (ht:∃ n,h.get? tp=some { cls:=.type "tuple",data:=.seq (ps.map fun (i:Nat)=>rawInt i).toArray n }) :
   Way w a es ep t h (fun _=>.ref tp) (ps.map fun i=>(es.getD i (0,.none)).2) [tp]
 | plain (hb:w.params.followText "set-order" = false) (hd:(!t.plain && decide (es.size > 1))=false) (hl:t.led=true) (hr:VF t.place) (hs:t.place.size=es.size) :
   Way w a es ep t h (fun i=>rawInt (if i=0 then 0 else t.place.getD (i - 1) 0+1:Nat)) (es.toList.map (·.2)) []
section
variable {prog:Program} {w:World} {A:Around} {E:Value->Shared->Prop} {s:Shared} {a it:Addr} {es:Array (Int × Value)} {ep:Nat} {t:SetTable} {first:Nat->Value} {vs:List Value} {more:List Addr}
end
end Wd
section PartSetJ
set_option maxHeartbeats 1000000
namespace Wd
open PySem PySem.Spec PyProof.Rows
section
variable {prog:Program} {w:World} {A:Around} {E:Value->Shared->Prop} {s:Shared} {a:Addr} {σ:List Int}
end
end Wd
end PartSetJ
section PartSetK
set_option maxHeartbeats 1000000
namespace Wd
open PySem PySem.Spec PyProof.Rows
section
variable {prog:Program} {w:World} {A:Around} {E:Value->Shared->Prop} {s:Shared} {a:Addr} {σ:List Int}
end
end Wd
end PartSetK
namespace L2
open PySem PySem.Spec PyProof.Rows
noncomputable def pA (P:Program) (w:World) (a:Addr) (τ:List Int):HO:=.ext fun h=>Wd.iD P w h a (Wd.Dr w) τ
section
variable {X:Cx} {pins:List (Addr × Obj)} {σ:St} {H:Hp} {s:Shared} {h':Heap} {a:Addr} {o:HO}
theorem Vs:GF X (binaryOp .LShift) (rI (fun i j=>0<=j/\(Builtin.Int.intBits i:Int)+j<=2 ^ 27) fun i j=>.int (i * 2 ^ j.toNat)):=YS fun _ _ _ _ _ _ _ hc q=>lshift_int hc.1 hc.2 q
end
end L2
namespace L2
open PySem PySem.Spec PyProof.Rows
section
variable {X:Cx}
end
section
variable {prog:Program} {w:World} {A:Around} {E:Value->Shared->Prop} {s:Shared} {r l:Addr}
end
section
variable {X:Cx} {p1 p2 q1 q2:Pos} {e:Expr} {te:TE}
end
end L2
namespace L2
open PySem PySem.Spec PyProof.Rows
noncomputable def cM (K:PySem.W.Frag) (a:Addr) (xs:List V):It :=
 ⟨fun i H=>Cu K H a xs/\i<xs.length,fun i H x H'=>H'=H/\xs[xs.length - 1 - i]? = some x,fun i H=>Cu K H a xs/\i=xs.length⟩
theorem R4 {P:Program} {w:World} {K:PySem.W.Frag} {tg:Expr} (a it:Addr) (xs:List V):Turn P w K tg (cM K a xs) [it] it (fun i h=>h.IsRevIter it a ((xs.length:Int) - 1 - (i:Nat))) where
 mem:=by simp
 obj:=fun i h st b hb=>by
  have e:b=it:=by simpa using hb
  subst e
  obtain ⟨o,e,c,d⟩:=st
  exact ⟨o,e,fun v z=>by rw [d] at z; cases z⟩
 keep:=fun i h h' st k=>st.at fun o e=>k it (by simp) o e
 item:=by
  intro X hP hw hK hc i pins s σ H E I hf st hg
  subst hP hw hK
  obtain ⟨hq,hlt⟩:=hg
  obtain ⟨its,rv,p,hz⟩:=I.list hq
  have hx:xs[xs.length - 1 - i]? = some (xs[xs.length - 1 - i]'(by omega)):=List.getElem?_eq_getElem (by omega)
  obtain ⟨u,hu,ru⟩:=rv.get hx
  obtain ⟨f0,f1,f2,f3,f4,f5⟩:=hf it (by simp)
  have e:(xs.length:Int) - 1 - ((i:Nat):Int)=((xs.length - 1 - i:Nat):Int):=by omega
  rw [e] at st
  refine wpAny_pyNext_rev_item st p.isList (x:=u) (by simpa using hu) fun h' st' sb=>?_
  have I1:Inv X pins σ H { s with heap:=h' }:=I.turned (t':=s.toks) (fun b o hb e=>(sb.2 b hb).trans e) f0 f1 f3 f4 f5
  have e2:((xs.length - 1 - i:Nat):Int) - 1=(xs.length:Int) - 1 - ((i+1:Nat):Int):=by omega
  rw [e2] at st'
  obtain ⟨o,eo,c,d⟩:=id st'
  exact ⟨u,rfl,Mq (s:={ s with heap:=h' }) eo c d (by decide) ⟨_,H,I1,ru,⟨rfl,hx⟩,st',fun b hb=>(hf b hb).1⟩⟩
 done:=by
  intro X hP hw hK hc i pins s σ H E I hf st hg
  subst hP hw hK
  obtain ⟨hq,rfl⟩:=hg
  obtain ⟨f0,f1,f2,f3,f4,f5⟩:=hf it (by simp)
  have e:(xs.length:Int) - 1 - ((xs.length:Nat):Int) = -1:=by omega
  rw [e] at st
  exact wpAny_pyNext_rev_end (I.ok.hd hc) st fun h' eb=>⟨rfl,I.turned (t':=s.toks) (fun b o hb e=>eb b o hb e) f0 f1 f3 f4 f5⟩
 self:=fun _ _ _ _ _ st h=>wpAny_pyIter_revIter st h
section
variable {X:Cx} {tg:Expr}
noncomputable def gW (K:PySem.W.Frag) (ta:TA):TI:=fun σ H R=>ta σ H fun vs H1=>∃ a xs,vs=[.ref a]/\Cu K H1 a xs/\R (cM K a xs) H1
theorem Xy {l:Expr} {ta:TA} {p pos:Pos} (hg:Gl X "reversed") (hm:X.mg "reversed" = none) (ha:PA X [l] ta) (hs:starEach [l] X.env=[(false,eval l X.env)]:=by rfl):PI X tg (.Call (.Name "reversed" p) [l] [] pos) (gW X.K ta):=by
 intro pins s σ H R I h
 refine Call_ (HQ I hg hm PyProof.Rows.boot_reversed (PyProof.Rows.callWith_type1 (Br (ha pos pins s σ H _ I h) fun us s1 ⟨vs,H1,I1,r1,q1⟩=>?_) hs rfl))
 obtain ⟨a,xs,e,hq,q⟩:=q1
 subst e
 obtain ⟨u,rfl,ru⟩:=vals1 r1
 cases ru
 obtain ⟨its,rv,pl,hz⟩:=I1.list hq
 refine call_reversed_list pl.isList ?_
 have hit:(s1.heap.push (revObj a ((its.toArray.size:Int) - 1))).IsRevIter s1.heap.objs.size a ((its.toArray.size:Int) - 1):=⟨_,Heap.get?_push_size _ rfl,rfl,rfl⟩
 refine wpAny_pyIter_revIter (s:={ s1 with heap:=s1.heap.push (revObj a ((its.toArray.size:Int) - 1)) }) hit ?_
 refine ⟨s1.heap.objs.size,[s1.heap.objs.size],_,_,H1,rfl,I1.kept (t':=s1.toks) fun b o e=>Heap.get?_push_of_some _ e,R4 a _ xs,?_,fun b hb=>?_,q⟩
 ·have hl:=rv.length
  have e2:((its.toArray.size:Nat):Int) - 1=(xs.length:Int) - 1 - ((0:Nat):Int):=by
   rw [List.size_toArray]
   omega
  show (s1.heap.push (revObj a ((its.toArray.size:Int) - 1))).IsRevIter s1.heap.objs.size a ((xs.length:Int) - 1 - ((0:Nat):Int))
  rw [← e2]
  exact hit
 ·have e:b=s1.heap.objs.size:=by simpa using hb
  subst e
  exact I1.J2 (Nat.le_refl _) (I1.hok.fresh (Nat.le_refl _))
theorem Ui {K:PySem.W.Frag} {a:Addr} {xs:List V} {g:TG} {tb:TS} {D:Ends} {σ:St} {H:Hp} (Pv:Nat->St->Hp->Prop) (h0:Pv 0 σ H) (hl:∀ i σ H,i<=xs.length->Pv i σ H->Cu K H a xs)
  (hs:∀ i x σ H,i<xs.length->xs[xs.length - 1 - i]? = some x->Pv i σ H->g x σ H fun σ2 H2=>tb { D with nx:=Pv (i+1),ct:=Pv (i+1),bk:=D.nx } σ2 H2) (hd:∀ σ H,Pv xs.length σ H->D.nx σ H) :
  ∃ W:Nat->Nat->St->Hp->Prop,(∃ m,W 0 m σ H)/\∀ i m σ H,W i m σ H ->
   ((cM K a xs).stop i H/\D.nx σ H) \/ ((cM K a xs).go i H/\∃ N:St->Hp->Prop,(∀ σ' H',N σ' H'->∃ m',m'<m/\W (i+1) m' σ' H')/\∀ x H',(cM K a xs).yld i H x H'->g x σ H' fun σ2 H2=>tb { D with nx:=N,ct:=N,bk:=D.nx } σ2 H2):=by
 refine ⟨fun i m σ H=>m=xs.length - i/\i<=xs.length/\Pv i σ H,⟨xs.length,by simp,Nat.zero_le _,h0⟩,?_⟩
 rintro i m σ H ⟨rfl,hi,p⟩
 have q:=hl i σ H hi p
 by_cases hlt:i<xs.length
 ·refine .inr ⟨⟨q,hlt⟩,Pv (i+1),fun σ' H' p'=>⟨xs.length - (i+1),by omega,rfl,by omega,p'⟩,?_⟩
  rintro x H' ⟨rfl,hx⟩
  exact hs i x σ H' hlt hx p
 ·have e:i=xs.length:=by omega
  subst e
  exact .inl ⟨⟨q,rfl⟩,hd σ H p⟩
end
end L2
namespace L2
open PySem PySem.Spec PySem.Calls PyProof.Rows
section
variable {X:Cx}
theorem range_any (bs:List Bool):((List.range bs.length).any fun i=>(bs[i]?).getD false)=bs.any id:=by
 rw [Bool.eq_iff_iff,List.any_eq_true,List.any_eq_true]
 constructor
 ·rintro ⟨i,hi,e⟩
  have hi':=List.mem_range.mp hi
  rw [List.getElem?_eq_getElem hi'] at e
  exact ⟨_,List.getElem_mem hi',e⟩
 ·rintro ⟨b,hb,e⟩
  obtain ⟨i,hi,q⟩:=List.mem_iff_getElem.mp hb
  refine ⟨i,List.mem_range.mpr hi,?_⟩
  rw [List.getElem?_eq_getElem hi,q]
  exact e
theorem Jl (hc:X.calm=true):Eu X (.builtin "any") (fun xs H Q=>∃ (p:Addr) (bs:List Bool),xs=[V.ref p]/\Cu X.K H p (bs.map V.bl)/\Q (.bl (bs.any id)) H):=by
 intro pins s σ H xs us Q I r h
 obtain ⟨p,bs,rfl,hp,q⟩:=h
 obtain ⟨u,rfl,ru⟩:=vals1 r
 cases ru
 obtain ⟨its,rv,pl,hz⟩:=I.list hp
 have hlen:bs.length=its.length:=by have:=rv.length; rw [List.length_map] at this; exact this
 have hlt:p<s.heap.objs.size:=by obtain ⟨_,e,_⟩:=pl.isList; exact Heap.lt_size e
 refine call_any_walk (wpAny_pyIter_list pl.isList ?_)
 refine ⟨s.heap.objs.size,[s.heap.objs.size,p],[s.heap.objs.size],its.toArray.size,_,_,fun i=>(bs[i]?).getD false,rfl,Walks.list (A:=X.A.in1) (I.ok.hd hc) _ p (Nat.ne_of_lt hlt) its.toArray,
  ⟨⟨_,Heap.get?_push_size _ rfl,rfl,rfl⟩,pl.isList.push _⟩,fun i v s' Q' E' hP hQ=>?_,fun h' tk hk=>?_⟩
 ·have hP':its[i]? = some v:=by simpa using hP
  have hi:i<its.length:=(List.getElem?_eq_some_iff.mp hP').1
  have hb:bs[i]? = some bs[i]:=by simp [hlen,hi]
  obtain ⟨u,hu,ru⟩:=rv.get (i:=i) (x:=.bl bs[i]) (by rw [List.getElem?_map,hb]; rfl)
  rw [hP'] at hu
  cases hu
  cases ru
  dsimp only at hQ
  rw [hb] at hQ
  exact wpAny_truthy_bool hQ
 ·have e:((List.range its.toArray.size).any fun i=>(bs[i]?).getD false)=bs.any id:=by rw [List.size_toArray,← hlen]; exact range_any bs
  rw [e]
  refine ⟨.bl (bs.any id),H,I.kept (t':=tk) fun b o eb=>hk b o (fun hm=>?_) (Heap.get?_push_of_some _ eb),rfl,q⟩
  rw [List.mem_singleton.mp hm] at eb
  exact Nat.lt_irrefl _ (Heap.lt_size eb)
theorem GZ (ns:List Int):∀ j,j<=ns.length->preSum (fun i=>(ns[i]?).getD 0) j=(ns.take j).sum
 | 0,_=>rfl
 | j+1,h=>by
  have ih:=GZ ns j (by omega)
  show preSum _ j+(ns[j]?).getD 0=_
  rw [ih,List.take_add_one,List.getElem?_eq_getElem (by omega),List.sum_append]
  simp
theorem Ro (M:Int):∀ ns:List Int,(∀ n∈ns,0<=n/\n<=M)->0<=ns.sum/\ns.sum<=ns.length * M
 | [],_=>by simp
 | n::r,h=>by
  have h1:=h n (List.mem_cons_self ..)
  have h2:=Ro M r fun x hx=>h x (List.mem_cons_of_mem _ hx)
  have e:((n::r).length:Int) * M=r.length * M+M:=by rw [List.length_cons]; push_cast; rw [Int.add_mul,Int.one_mul]
  rw [e,List.sum_cons]
  omega
theorem JV (hc:X.calm=true):Eu X (.builtin "sum") (fun xs H Q=>∃ (p:Addr) (ns:List Int),xs=[V.ref p]/\Cu X.K H p (ns.map V.int)/\(∀ n∈ns,0<=n/\n<=100000)/\ns.length<=1000/\Q (.int ns.sum) H):=by
 intro pins s σ H xs us Q I r h
 obtain ⟨p,ns,rfl,hp,hb,hl,q⟩:=h
 obtain ⟨u,rfl,ru⟩:=vals1 r
 cases ru
 obtain ⟨its,rv,pl,hz⟩:=I.list hp
 have hlen:ns.length=its.length:=by have:=rv.length; rw [List.length_map] at this; exact this
 have hlt:p<s.heap.objs.size:=by obtain ⟨_,e,_⟩:=pl.isList; exact Heap.lt_size e
 refine call_sum_walk (wpAny_pyIter_list pl.isList ?_)
 refine ⟨s.heap.objs.size,[s.heap.objs.size,p],[s.heap.objs.size],its.toArray.size,_,_,fun i=>(ns[i]?).getD 0,rfl,Walks.list (A:=X.A.in1) (I.ok.hd hc) _ p (Nat.ne_of_lt hlt) its.toArray,
  ⟨⟨_,Heap.get?_push_size _ rfl,rfl,rfl⟩,pl.isList.push _⟩,fun b hb=>?_,fun i v hP=>?_,fun j hj=>?_,fun h' tk t' hk=>?_⟩
 ·rw [Heap.size_push]
  rcases List.mem_cons.mp hb with rfl | hb
  ·exact Nat.lt_succ_self _
  ·rw [List.mem_singleton.mp hb]
   exact Nat.lt_succ_of_lt hlt
 ·have hP':its[i]? = some v:=by simpa using hP
  have hi:i<its.length:=(List.getElem?_eq_some_iff.mp hP').1
  have hb:ns[i]? = some ns[i]:=by simp [hlen,hi]
  obtain ⟨u,hu,ru⟩:=rv.get (i:=i) (x:=.int ns[i]) (by rw [List.getElem?_map,hb]; rfl)
  rw [hP'] at hu
  cases hu
  obtain ⟨t,rfl⟩:=ru
  exact ⟨t,by dsimp only; rw [hb]; rfl⟩
 ·have hj':j<ns.length:=by rw [hlen]; simpa using hj
  rw [GZ ns (j+1) (by omega)]
  have h1:=hb ns[j] (List.getElem_mem hj')
  have h2:=Ro 100000 (ns.take (j+1)) fun n hn=>hb n (List.mem_of_mem_take hn)
  have h3:(ns.take (j+1)).length<=1000:=by rw [List.length_take]; omega
  unfold InLong
  dsimp only
  rw [List.getElem?_eq_getElem hj']
  rw [Option.getD_some]
  refine ⟨⟨?_,?_⟩,⟨?_,?_⟩⟩ <;> omega
 ·have e:preSum (fun i=>(ns[i]?).getD 0) its.toArray.size=ns.sum:=by rw [List.size_toArray,← hlen,GZ ns _ (Nat.le_refl _),List.take_length]
  rw [e]
  refine ⟨.int ns.sum,H,I.kept (t':=tk) fun b o eb=>hk b o (fun hm=>?_) (Heap.get?_push_of_some _ eb),⟨_,rfl⟩,q⟩
  rw [List.mem_singleton.mp hm] at eb
  exact Nat.lt_irrefl _ (Heap.lt_size eb)
structure KDict (K:PySem.W.Frag) (P:Params) (a:Addr):Prop where
 is:∃ es n,K.lookup a=some ⟨.type "dict",none,.dict es n,#[]⟩/\PySem.W.KeysLit P es.toList
 lo:(a == sysModules)=false
noncomputable def Zu (K:PySem.W.Frag) (P:Params) (td ty:TE):TE:=fun σ H Q=>td σ H fun x H1=>ty σ H1 fun y H2=>∃ a z v u,x=.ref a/\y=.str z/\KDict K P a/\PySem.W.nsIn K a z=some (some u)/\RelV v u/\Q v H2
noncomputable def aq (K:PySem.W.Frag) (P:Params) (neg:Bool) (ty td:TE):TE:=fun σ H Q=>ty σ H fun y H1=>td σ H1 fun x H2=>∃ a z r,x=.ref a/\y=.str z/\KDict K P a/\PySem.W.nsIn K a z=some r/\Q (.bl (if neg then !r.isSome else r.isSome)) H2
variable {o i:Expr} {pos:Pos} {td ty:TE}
theorem Ko (ho:PE X o td) (hi:PE X i ty) (hs:Wq i):PE X (.Subscript o i pos) (Zu X.K X.w.params td ty):=by
 intro pins s σ H Q I h
 refine Pa PySem.F.slot_dict_getitem.lookup hs (Br (ho pins s σ H _ I h) fun u s1 ⟨x,H1,I1,rx,q1⟩=>Br (hi pins s1 σ H1 _ I1 q1) fun iv s2 hq0=>?_)
 obtain ⟨y,H2,I2,ry,a,z,v,w,ex,ey,kd,hw,rw',q2⟩:=hq0
 subst ex ey
 cases rx
 obtain ⟨t,rfl⟩:=ry
 obtain ⟨⟨es,n,hl,hk⟩,lo⟩:=kd
 have hm:=PySem.W.mapOf_K (prog:=X.prog) I2.Gw hl hk
 exact ⟨hm.typeIs,wpAny_getItem_of (strKind_is X.prog X.w z t) hm (PySem.W.find_K hl hw) ⟨v,H2,I2.tok _,rw',q2⟩⟩
theorem Q9 (hi:PE X i ty) (ho:PE X o td):PC X .In i o (aq X.K X.w.params false ty td):=by
 intro pins s σ H Q I h
 refine Br (hi pins s σ H _ I h) fun iv s1 ⟨y,H1,I1,ry,q1⟩=>Br (ho pins s1 σ H1 _ I1 q1) fun u s2 hq0=>?_
 obtain ⟨x,H2,I2,rx,a,z,r,ex,ey,kd,hw,q2⟩:=hq0
 subst ex ey
 cases rx
 obtain ⟨t,rfl⟩:=ry
 obtain ⟨⟨es,n,hl,hk⟩,lo⟩:=kd
 refine wpAny_in_of (strKind_is X.prog X.w z t) lo (PySem.W.mapOf_K (prog:=X.prog) I2.Gw hl hk) ?_
 rw [PySem.W.find_K hl hw]
 exact ⟨.bl r.isSome,H2,I2.tok _,rfl,q2⟩
theorem Qi (hi:PE X i ty) (ho:PE X o td):PC X .NotIn i o (aq X.K X.w.params true ty td):=by
 intro pins s σ H Q I h
 refine Br (hi pins s σ H _ I h) fun iv s1 ⟨y,H1,I1,ry,q1⟩=>Br (ho pins s1 σ H1 _ I1 q1) fun u s2 hq0=>?_
 obtain ⟨x,H2,I2,rx,a,z,r,ex,ey,kd,hw,q2⟩:=hq0
 subst ex ey
 cases rx
 obtain ⟨t,rfl⟩:=ry
 obtain ⟨⟨es,n,hl,hk⟩,lo⟩:=kd
 refine wpAny_notIn_of (strKind_is X.prog X.w z t) lo (PySem.W.mapOf_K (prog:=X.prog) I2.Gw hl hk) ?_
 rw [PySem.W.find_K hl hw]
 exact ⟨.bl (!r.isSome),H2,I2.tok _,rfl,q2⟩
end
section
variable {X:Cx} {e st:Expr} {lo hi:Option Expr} {te ts:TE} {tl th:TO} {p2 pos:Pos}
end
end L2
namespace Og
open PySem L2
theorem Aw {X:Cx} {K:PySem.W.Frag} (h:X.K=K):YL X (Z8 K):=h ▸ Xc
theorem Em {X:Cx} {K:PySem.W.Frag} (h:X.K=K):YL X (cD K):=h ▸ DQ
theorem JR {X:Cx} {K:PySem.W.Frag} (h:X.K=K):GF X (compareOp .In) (fH K false):=h ▸ J_
structure R where
 w:Str
 nm:Str
 rest:List V
noncomputable abbrev R.v (r:R):List V:=.str r.w :: .str r.nm::r.rest
noncomputable def isNm (z:Str):Prop:=1<=z.length/\z.length<=8/\∀ c∈z.cps.toList,97<=c/\c<=122
noncomputable def Rows (H:Hp) (ρ:V->R) (vs:List V):Prop:=∀ v∈vs,TupAt H (ρ v).v v
theorem Rows.mono {H H':Hp} {ρ:V->R} {vs:List V} (s:Ak H H') (h:Rows H ρ vs):Rows H' ρ vs:=fun v hv=>(h v hv).mono s
theorem Rows.sub {H:Hp} {ρ:V->R} {vs us:List V} (h:Rows H ρ vs) (hs:∀ v∈us,v∈vs):Rows H ρ us:=fun v hv=>h v (hs v hv)
noncomputable abbrev pw (ρ:V->R) (w:Str) (v:V):Bool:=decide (V.str (ρ v).w=V.str w)
noncomputable abbrev pn (ρ:V->R) (t:Str) (v:V):Bool:=decide (V.str (ρ v).nm=V.str t)
noncomputable def UG (ρ:V->R) (vs:List V) (w t:Str):Bool:=(vs.filter (pw ρ w)).any (pn ρ t)
noncomputable def KTup (K:PySem.W.Frag) (a:Addr) (xs:List V):Prop:=∃ (o:Obj) (its:Array Value) (n:Nat),K.lookup a=some o/\o.cls=.type "tuple" /\ o.data=.seq its n/\its.size<=sizeLine/\Vals xs its.toList
theorem KTup.sq {K:PySem.W.Frag} {a:Addr} {xs:List V} (h:KTup K a xs) (H:Hp):GD K H a xs:=.inr h
noncomputable abbrev named:List Str:=["board","rank","stop","coupler","mute"]
noncomputable def G_ (K:PySem.W.Frag) (aB:Addr) (ρ:V->R) (vs:List V) (x:V) (part:Str):Prop :=
 (∃ (i lo hi:Int) (b:Addr),x=.int i/\PySem.W.nsIn K aB part=some (some (.ref b))/\KTup K b [.int lo,.int hi]/\lo<=i/\i<=hi) \/
 (PySem.W.nsIn K aB part=some none/\part = "new" /\ ∃ t,x=.str t/\isNm t/\∀ w∈named,UG ρ vs w t=false) \/
 (PySem.W.nsIn K aB part=some none/\¬ part = "new" /\ ∃ t,x=.str t/\isNm t/\UG ρ vs part t=true)
structure Mm (K:PySem.W.Frag) (aB aP aM:Addr) (ρ:V->R) (vs:List V) (r:R):Prop where
 ns:¬ r.w = "step"
 nl:¬ r.w = "line"
 parts:∃ (ap:Addr) (ps:List Str),PySem.W.nsIn K aP r.w=some (some (.ref ap))/\KTup K ap (ps.map V.str)/\(V.str r.nm::r.rest).length=ps.length/\ps.length<=10 /\
  ∀ (i:Nat) x y,(V.str r.nm::r.rest)[i]? = some x->ps[i]? = some y->G_ K aB ρ vs x y
 room:∃ (m:Int) (t:Tok),PySem.W.nsIn K aM r.w=some (some (.int m t))/\(((vs.filter (pw ρ r.w)).length:Nat):Int)<m
noncomputable def letters:Str:="abcdefghijklmnopqrstuvwxyz"
noncomputable abbrev Vw (y:Str) (c:Nat):Bool:=!(Builtin.Str.occurrences y ⟨#[c]⟩ 0 y.length 1).isEmpty
theorem Km:∀ c<128,Vw letters c=decide (97<=c/\c<=122):=by decide +kernel
theorem BL {H:Hp} {p:Addr} {o:HO} (h:H p=none):Ak H (upd H p o):=fun b u e=>by rw [Aq (Am e h)]; exact e
theorem Hj {H:Hp} {p:Addr} {o:HO} (h:H p=none):∃ H',upd H p o=H'/\Ak H H'/\H' p=some o:=⟨_,rfl,BL h,Ai⟩
theorem Ew {n:Nat} (h:n<=1000):n<=sizeLine:=Nat.le_of_lt (BK h)
theorem ty_int {K:PySem.W.Frag}:PySem.W.kitOne K (.type "int") (.type "int")=some true:=by kernel_rfl
theorem V5 {K:PySem.W.Frag}:PySem.W.kitOne K (.type "int") (.type "bool")=some false:=by kernel_rfl
theorem Ov {K:PySem.W.Frag}:PySem.W.kitOne K (.type "list") (.type "list")=some true:=by kernel_rfl
theorem Qt {K:PySem.W.Frag}:PySem.W.kitOne K (.type "tuple") (.type "tuple")=some true:=by kernel_rfl
theorem Oq {K:PySem.W.Frag}:PySem.W.kitOne K (.type "str") (.type "str")=some true:=by kernel_rfl
theorem GX (vs:List V) (n:Nat) (h:n<=vs.length):Dq vs none (some (n:Int))=vs.take n:=by
 unfold Dq
 have e1:HT.Dg vs.length 0 none=0:=rfl
 have e2:HT.Dg vs.length vs.length (some (n:Int))=n:=by
  rw [HT.Gp]
  omega
 rw [e1,e2]
 simp
theorem G6 {α:Type} (p:α->Bool) (l:List α):(l.filter p).length<=l.length:=List.length_filter_le _ _
noncomputable abbrev bV (b:Str × Nat):List V:=[.str b.1,.int (b.2:Nat)]
noncomputable abbrev FT (b:Str × Nat):R:=⟨"board",b.1,[.int (b.2:Nat)]⟩
noncomputable abbrev qV (q:Nat × Nat):List V:=[.int (q.1:Nat),.int (q.2:Nat)]
noncomputable def FN (bs:List (Str × Nat)):List (Nat × Nat):=bs.zipIdx.flatMap fun p=>(List.range p.1.2).map fun e=>(p.2,e)
theorem Tn (bs:List (Str × Nat)) (b:Str × Nat):FN (bs++[b])=FN bs++(List.range b.2).map fun e=>(bs.length,e):=by
 unfold FN
 rw [List.zipIdx_append]
 simp
theorem Hc {bs:List (Str × Nat)} {i:Nat} {b:Str × Nat} (h:bs[i]? = some b):FN (bs.take (i+1))=FN (bs.take i)++(List.range b.2).map fun e=>(i,e):=by
 have hi:i<bs.length:=(List.getElem?_eq_some_iff.mp h).1
 rw [List.take_add_one,h]
 show FN (bs.take i++[b])=_
 rw [Tn,List.length_take,Nat.min_eq_left (by omega)]
theorem K6 (bs:List (Str × Nat)) (M:Nat):(∀ b∈bs,b.2<=M)->(FN bs).length<=bs.length * M:=by
 intro h
 have key:∀ i,i<=bs.length->(FN (bs.take i)).length<=i * M:=by
  intro i
  induction i with
  | zero=>intro _; simp [FN]
  | succ i ih =>
   intro hi
   have hlt:i<bs.length:=by omega
   rw [Hc (List.getElem?_eq_getElem hlt),List.length_append,List.length_map,List.length_range]
   have h1:=ih (by omega)
   have h2:=h bs[i] (List.getElem_mem hlt)
   have:(i+1) * M=i * M+M:=by rw [Nat.add_mul,Nat.one_mul]
   omega
 have:=key bs.length (Nat.le_refl _)
 rw [List.take_length] at this
 exact this
theorem DK {α β:Type} {F:α->β->Prop} {l:List α} {vs:List β} (h:Paired F l vs):∀ {v},v∈vs->∃ a∈l,F a v:=by
 induction h with
 | nil=>intro v hv; cases hv
 | cons a b ih =>
  intro v hv
  rcases List.mem_cons.mp hv with rfl | hv
  ·exact ⟨_,List.mem_cons_self ..,a⟩
  ·obtain ⟨x,hx,q⟩:=ih hv
   exact ⟨x,List.mem_cons_of_mem _ hx,q⟩
theorem DG {α β:Type} {F:α->β->Prop} {l:List α} {vs:List β} (h:Paired F l vs):∀ {i:Nat} {a},l[i]? = some a->∃ v,vs[i]? = some v/\F a v:=by
 induction h with
 | nil=>intro i a ha; simp at ha
 | cons x y ih =>
  intro i a ha
  cases i with
  | zero =>
   simp at ha
   subst ha
   exact ⟨_,rfl,x⟩
  | succ i=>exact ih (by simpa using ha)
theorem Ms {α β:Type} {F:α->β->Prop} {l:List α} {vs:List β} (h:Paired F l vs):∀ {i:Nat} {v},vs[i]? = some v->∃ a,l[i]? = some a/\F a v:=by
 induction h with
 | nil=>intro i a ha; simp at ha
 | cons x y ih =>
  intro i a ha
  cases i with
  | zero =>
   simp at ha
   subst ha
   exact ⟨_,rfl,x⟩
  | succ i=>exact ih (by simpa using ha)
theorem Io {α β:Type} {F:α->β->Prop} {l:List α} {vs:List β} (h:Paired F l vs):∀ n:Nat,Paired F (l.take n) (vs.take n):=by
 induction h with
 | nil=>intro n; simp; exact .nil
 | cons x y ih =>
  intro n
  cases n with
  | zero=>exact .nil
  | succ n=>exact .cons x (ih n)
theorem Er {α β:Type} {F:α->β->Prop} {l l':List α} {vs vs':List β} (h:Paired F l vs) (h':Paired F l' vs'):Paired F (l++l') (vs++vs'):=by
 induction h with
 | nil=>exact h'
 | cons x y ih=>exact .cons x ih
theorem Bu {α β γ:Type} {F:γ->β->Prop} (g:α->γ) {l:List α} {vs:List β} (h:Paired (fun a v=>F (g a) v) l vs):Paired F (l.map g) vs:=by
 induction h with
 | nil=>exact .nil
 | cons x y ih=>exact .cons x ih
theorem FW {α β γ:Type} {F:γ->β->Prop} (g:α->γ):∀ {l:List α} {vs:List β},Paired F (l.map g) vs->Paired (fun a v=>F (g a) v) l vs
 | [],_,h=>by cases h; exact .nil
 | a::l,_,h=>by
  cases h with
  | cons x y=>exact .cons x (FW g y)
noncomputable def Ql (H:Hp) (k:Nat):V->V
 | .ref T=>match H T with
  | some (.tup xs)=>xs.getD k .non
  | _=>.non
 | _=>.non
theorem HS {H:Hp} {zs:List V} {v:V} (h:TupAt H zs v) (k:Nat):Ql H k v=zs.getD k .non:=by
 obtain ⟨T,rfl,e⟩:=h
 show (match H T with | some (.tup xs)=>xs.getD k V.non | _=>V.non)=_
 rw [e]
theorem JB {α:Type} {H:Hp} {g:α->List V} (k:Nat) {l:List α} {vs:List V} (h:Paired (fun a v=>TupAt H (g a) v) l vs):vs.map (Ql H k)=l.map fun a=>(g a).getD k .non:=by
 induction h with
 | nil=>rfl
 | cons x y ih=>rw [List.map_cons,List.map_cons,ih,HS x]
noncomputable def SX (x:Addr) (H H':Hp):Prop:=∀ b o,H b=some o->b ≠ x->H' b=some o
theorem SX.trans {x:Addr} {H H1 H2:Hp} (a:SX x H H1) (b:SX x H1 H2):SX x H H2:=fun c o h n=>b c o (a c o h n) n
theorem SX.refl {x:Addr} {H:Hp}:SX x H H:=fun _ _ h _=>h
theorem SX.of {x:Addr} {H H':Hp} (s:Ak H H'):SX x H H':=fun b o h _=>s b o h
theorem SX.up {x:Addr} {H:Hp} {o:HO}:SX x H (upd H x o):=fun b u h n=>by rw [Aq n]; exact h
theorem SX.tup {x:Addr} {H H':Hp} {zs:List V} {y:V} {C dx:Addr} {fs:List (Str × V)} (s:SX x H H') (hx:H x=some (.ins C dx fs)) (h:TupAt H zs y):TupAt H' zs y:=by
 obtain ⟨T,e,q⟩:=h
 exact ⟨T,e,s _ _ q fun z=>by rw [z,hx] at q; cases q⟩
theorem SX.pair {α:Type} {x:Addr} {H H':Hp} {f:α->List V} {l:List α} {vs:List V} {C dx:Addr} {fs:List (Str × V)} (s:SX x H H') (hx:H x=some (.ins C dx fs)) (h:Paired (fun a y=>TupAt H (f a) y) l vs):Paired (fun a y=>TupAt H' (f a) y) l vs:=Paired.Jd h fun _ _ q=>s.tup hx q
theorem SX.lst {x a:Addr} {H H':Hp} {xs:List V} {C dx:Addr} {fs:List (Str × V)} (s:SX x H H') (hx:H x=some (.ins C dx fs)) (h:H a=some (.lst xs)):H' a=some (.lst xs):=s _ _ h fun z=>by rw [z,hx] at h; cases h
theorem SX.dk {x a:Addr} {H H':Hp} {kvs:List (Key × V)} {C dx:Addr} {fs:List (Str × V)} (s:SX x H H') (hx:H x=some (.ins C dx fs)) (h:H a=some (.dK kvs)):H' a=some (.dK kvs):=s _ _ h fun z=>by rw [z,hx] at h; cases h
noncomputable abbrev meths:List Str:=["ranks","pipe_count","pipe","rank_of","board_of_knob","boards","key_count","key","board_of","coupler","knobs","knob_number","board_number","stop","mute","steps","rows"]
structure DN (C:Addr) (H:Hp) (x:Addr) (bs:List (Str × Nat)) (ks:List R):Prop where
 ob:∃ (dx:Addr) (fs:List (Str × V)) (bl bn kp kr:Addr) (bvs pvs uvs:List V) (kvs:List (Key × V)),H x=some (.ins C dx fs)/\fs.lookup ("board_list" : Str)=some (.ref bl)/\fs.lookup ("board_numbers" : Str)=some (.ref bn)/\fs.lookup ("key_places" : Str)=some (.ref kp)/\fs.lookup ("knob_rows" : Str)=some (.ref kr) /\
  (∀ m∈meths,fs.lookup m=none)/\H bl=some (.lst bvs)/\Paired (fun b y=>TupAt H (bV b) y) bs bvs/\H bn=some (.dK kvs)/\(∀ (i:Nat) b,bs[i]? = some b->Bx kvs (Sum.inr b.1)=some (.int (i:Nat))) /\
  H kp=some (.lst pvs)/\Paired (fun q y=>TupAt H (qV q) y) (FN bs) pvs/\H kr=some (.lst uvs)/\Paired (fun (r:R) y=>TupAt H r.v y) ks uvs
 nb:bs.length<=5
 sz:∀ b∈bs,b.2<=61
 nk:ks.length<=200
theorem DN.mono {C:Addr} {H H':Hp} {x:Addr} {bs:List (Str × Nat)} {ks:List R} (s:Ak H H') (h:DN C H x bs ks):DN C H' x bs ks:=by
 obtain ⟨⟨dx,fs,bl,bn,kp,kr,bvs,pvs,uvs,kvs,h1,l1,l2,l3,l4,lm,h2,h3,h4,h5,h6,h7,h8,h9⟩,a,b,c⟩:=h
 exact ⟨⟨dx,fs,bl,bn,kp,kr,bvs,pvs,uvs,kvs,s _ _ h1,l1,l2,l3,l4,lm,s _ _ h2,Ar s h3,s _ _ h4,h5,s _ _ h6,Ar s h7,s _ _ h8,Ar s h9⟩,a,b,c⟩
end Og
namespace L2
open PySem PySem.Spec PyProof.Rows
section
variable {X:Cx}
end
end L2
namespace L2
open PySem PySem.Spec PyProof.Rows
section
variable {σ:St} {H1:Hp} {Q:VK} {tt:TT} {te:TE}
theorem Lp {K:PySem.W.Frag} {a:Addr} {xs:List V} (p:V->Bool) (f:V->V) (hl:GD K H1 a xs) (hz:xs.length<sizeLine)
  (ht:∀ x∈xs,∀ H,Ak H1 H->∀ R:Bool->Hp->Prop,(∀ H',Ak H H'->R (p x) H')->tt (some x::σ) H R)
  (he:∀ x∈xs,p x=true->∀ H,Ak H1 H->∀ R:VK,(∀ H',Ak H H'->R (f x) H')->te (some x::σ) H R)
  (hq:∀ D H,H1 D=none->Ak H1 H->H D=some (.lst ((xs.filter p).map f))->Q (.ref D) H):Fw (lE K a) σ H1 Q tt te :=
 Gi p f hz (fun i H x hs hx=>⟨xs,x,hs.tup hl,hx⟩) (fun i H y H' hs _ hy=>⟨hy.1,hy.2 xs (hs.tup hl)⟩) (fun H hs=>⟨xs,hs.tup hl,Nat.le_refl _⟩) ht he hq
end
end L2
namespace Og
open PySem L2 PyProof.Rows
inductive Kb where
 | cp (i j:Nat) (s:Int)
 | pl (w:Str) (i:Nat)
noncomputable def Kb.w:Kb->Str
 | .cp _ _ _=>"coupler"
 | .pl w _=>w
noncomputable def Kb.v:Kb->List V
 | .cp i j s=>[.str "coupler",.int (i:Nat),.int (j:Nat),.int s]
 | .pl w i=>[.str w,.int (i:Nat)]
noncomputable def Kb.ok (n:Nat):Kb->Prop
 | .cp i j s=>i<n/\j<n /\ -60<=s/\s<=60
 | .pl w i=>i<n/\(w = "mute" \/ w = "stop")
noncomputable def Lg (w:Str):Nat:=if w = "coupler" then 12 else if w = "mute" then 5 else 24
noncomputable abbrev Z5 (w:Str) (z:Kb):Bool:=decide (V.str z.w=V.str w)
structure T9 (n:Nat) (kbs:List Kb):Prop where
 ok:∀ k∈kbs,k.ok n
 room:∀ (i:Nat) k,kbs[i]? = some k->((kbs.take i).filter (Z5 k.w)).length<Lg k.w
 len:kbs.length<=70
noncomputable def Rv (c:Nat->Str) (k:Nat):Kb->R
 | .cp i j s=>⟨"coupler",c (30+k),[.str (c i),.str (c j),.int s]⟩
 | .pl w i=>⟨w,c (30+k),[.str (c i)]⟩
theorem Ig (c:Nat->Str) (k:Nat) (z:Kb):(Rv c k z).w=z.w:=by cases z <;> rfl
noncomputable def BW (c:Nat->Str) (sz:List Nat):List (Str × Nat):=sz.zipIdx.map fun p=>(c p.2,p.1)
noncomputable def CZ (c:Nat->Str) (kbs:List Kb):List R:=kbs.zipIdx.map fun p=>Rv c p.2 p.1
theorem Dn {c:Nat->Str} {sz:List Nat} {i z:Nat} (h:sz[i]? = some z):(BW c sz)[i]? = some (c i,z):=by
 unfold BW
 rw [List.getElem?_map,List.getElem?_zipIdx,h]
 simp
theorem Px {c:Nat->Str} {sz:List Nat} {i:Nat} {b:Str × Nat} (h:(BW c sz)[i]? = some b):∃ z,sz[i]? = some z/\b=(c i,z):=by
 have hi:i<(BW c sz).length:=(List.getElem?_eq_some_iff.mp h).1
 have hi':i<sz.length:=by simpa [BW] using hi
 refine ⟨sz[i],List.getElem?_eq_getElem hi',?_⟩
 rw [Dn (List.getElem?_eq_getElem hi')] at h
 exact (Option.some.inj h).symm
theorem GK (c:Nat->Str) (sz:List Nat):(BW c sz).length=sz.length:=by simp [BW]
theorem DW (c:Nat->Str) (sz:List Nat):(BW c sz).map (·.2)=sz:=by
 unfold BW
 rw [List.map_map]
 refine List.ext_getElem? fun i=>?_
 rw [List.getElem?_map,List.getElem?_zipIdx]
 cases sz[i]? <;> simp
theorem Fp {c:Nat->Str} {kbs:List Kb} {i:Nat} {z:Kb} (h:kbs[i]? = some z):(CZ c kbs)[i]? = some (Rv c i z):=by
 unfold CZ
 rw [List.getElem?_map,List.getElem?_zipIdx,h]
 simp
theorem Fe {c:Nat->Str} {kbs:List Kb} {i:Nat} {r:R} (h:(CZ c kbs)[i]? = some r):∃ z,kbs[i]? = some z/\r=Rv c i z:=by
 have hi:i<(CZ c kbs).length:=(List.getElem?_eq_some_iff.mp h).1
 have hi':i<kbs.length:=by simpa [CZ] using hi
 refine ⟨kbs[i],List.getElem?_eq_getElem hi',?_⟩
 rw [Fp (List.getElem?_eq_getElem hi')] at h
 exact (Option.some.inj h).symm
theorem Ru (c:Nat->Str) (kbs:List Kb):(CZ c kbs).length=kbs.length:=by simp [CZ]
structure KF (K:PySem.W.Frag) (aB aP aM:Addr):Prop where
 pB:∃ a,PySem.W.nsIn K aP "board" = some (some (.ref a))/\KTup K a (["new","keys"].map fun s:String=>V.str s)
 pS:∃ a,PySem.W.nsIn K aP "stop" = some (some (.ref a))/\KTup K a (["new","board"].map fun s:String=>V.str s)
 pM:∃ a,PySem.W.nsIn K aP "mute" = some (some (.ref a))/\KTup K a (["new","board"].map fun s:String=>V.str s)
 pC:∃ a,PySem.W.nsIn K aP "coupler" = some (some (.ref a))/\KTup K a (["new","board","board","leap"].map fun s:String=>V.str s)
 bK:∃ a,PySem.W.nsIn K aB "keys" = some (some (.ref a))/\KTup K a [.int 1,.int 61]
 bL:∃ a,PySem.W.nsIn K aB "leap" = some (some (.ref a))/\KTup K a [.int (-60),.int 60]
 bN:PySem.W.nsIn K aB "new" = some none
 bB:PySem.W.nsIn K aB "board" = some none
 mB:∃ t,PySem.W.nsIn K aM "board" = some (some (.int 5 t))
 mS:∃ t,PySem.W.nsIn K aM "stop" = some (some (.int 24 t))
 mC:∃ t,PySem.W.nsIn K aM "coupler" = some (some (.int 12 t))
 mM:∃ t,PySem.W.nsIn K aM "mute" = some (some (.int 5 t))
noncomputable def Ky (H:Hp):V->R
 | .ref T=>match H T with
  | some (.tup (.str w :: .str n::r))=>⟨w,n,r⟩
  | _=>⟨"","",[]⟩
 | _=>⟨"","",[]⟩
theorem M5 {H:Hp} {r:R} {v:V} (h:TupAt H r.v v):Ky H v=r:=by
 obtain ⟨T,rfl,e⟩:=h
 show (match H T with | some (.tup (.str w :: .str n::r))=>(⟨w,n,r⟩:R) | _=>⟨"","",[]⟩)=r
 rw [e]
theorem Ol {H:Hp} {rs:List R} {vs:List V} (h:Paired (fun (r:R) v=>TupAt H r.v v) rs vs):vs.map (Ky H)=rs:=by
 induction h with
 | nil=>rfl
 | cons x y ih=>rw [List.map_cons,ih,M5 x]
theorem Bm (f:Str) (v:V):∀ l:List (Str × V),(BJ f v l).length<=l.length+1
 | []=>Nat.le_refl _
 | p::r=>by
  unfold BJ
  split
  ·simp
  ·have:=Bm f v r
   simp only [List.length_cons]
   omega
noncomputable abbrev G5 (s:Str):Bool:=inV (.str s) [.str "stop",.str "coupler",.str "mute"]
structure pO (K:PySem.W.Frag) (aB aP aM:Addr) (ρ:V->R) (us:List V) (bs:List (Str × Nat)) (ks:List R):Prop where
 kinds:∀ v∈us,(ρ v).w = "board" \/ (ρ v).w = "stop" \/ (ρ v).w = "coupler" \/ (ρ v).w = "mute"
 eb:(us.filter (pw ρ "board")).map ρ=bs.map FT
 ek:(us.filter (fun v=>G5 (ρ v).w)).map ρ=ks
 b0:1<=bs.length
 b5:bs.length<=5
 sz:∀ b∈bs,b.2<=61
 nk:ks.length<=100
 nb:(bs.map (·.1)).Nodup
 nn:(ks.map (·.nm)).Nodup
 len:us.length<=105
 ok:∀ (i:Nat) v,us[i]? = some v->Mm K aB aP aM ρ (us.take i) (ρ v)
noncomputable def Gz (ρ:V->R) (vs:List V):List (Str × Str):=vs.map fun v=>((ρ v).w,(ρ v).nm)
noncomputable abbrev TX (wn:List (Str × Str)) (w t:Str):Bool:=(wn.filter fun p=>decide (p.1=w)).any fun p=>decide (p.2=t)
noncomputable abbrev VL (wn:List (Str × Str)) (w:Str):Nat:=(wn.filter fun p=>decide (p.1=w)).length
theorem Gy (a b:Str):decide (V.str a=V.str b)=decide (a=b):=by
 rw [Bool.eq_iff_iff,decide_eq_true_eq,decide_eq_true_eq]
 exact ⟨V.str.inj,congrArg V.str⟩
theorem H_ (ρ:V->R) (vs:List V) (w t:Str):UG ρ vs w t=TX (Gz ρ vs) w t:=by
 unfold UG Gz
 show _=((vs.map fun v=>((ρ v).w,(ρ v).nm)).filter fun p=>decide (p.1=w)).any fun p=>decide (p.2=t)
 rw [List.filter_map,List.any_map]
 have e1:pw ρ w=(fun p:Str × Str=>decide (p.1=w)) ∘ fun v=>((ρ v).w,(ρ v).nm):=by
  funext v
  exact Gy _ _
 have e2:pn ρ t=(fun p:Str × Str=>decide (p.2=t)) ∘ fun v=>((ρ v).w,(ρ v).nm):=by
  funext v
  exact Gy _ _
 rw [e1,e2]
theorem IV (ρ:V->R) (vs:List V) (w:Str):(vs.filter (pw ρ w)).length=VL (Gz ρ vs) w:=by
 unfold Gz
 show _=((vs.map fun v=>((ρ v).w,(ρ v).nm)).filter fun p=>decide (p.1=w)).length
 rw [List.filter_map,List.length_map]
 have e1:pw ρ w=(fun p:Str × Str=>decide (p.1=w)) ∘ fun v=>((ρ v).w,(ρ v).nm):=by
  funext v
  exact Gy _ _
 rw [e1]
section
variable {K:PySem.W.Frag} {aB aP aM:Addr} {ρ:V->R} {vs:List V} {wn:List (Str × Str)} {t:Str}
theorem JZ (F:KF K aB aP aM) (e:Gz ρ vs=wn) (ht:isNm t) (h:∀ w∈named,TX wn w t=false):G_ K aB ρ vs (.str t) "new" :=
 .inr (.inl ⟨F.bN,rfl,_,rfl,ht,fun w hw=>by rw [H_,e]; exact h w hw⟩)
theorem NT (F:KF K aB aP aM) (e:Gz ρ vs=wn) (ht:isNm t) (h:TX wn "board" t=true):G_ K aB ρ vs (.str t) "board" :=
 .inr (.inr ⟨F.bB,by decide +kernel,_,rfl,ht,by rw [H_,e]; exact h⟩)
theorem QB (F:KF K aB aP aM) (e:Gz ρ vs=wn) (ht:isNm t) (h:∀ w∈named,TX wn w t=false) (hc:VL wn "board" < 5) {n:Nat} (h1:1<=n) (h2:n<=61):Mm K aB aP aM ρ vs (FT (t,n)):=by
 obtain ⟨ap,g1,g2⟩:=F.pB
 obtain ⟨ab,g3,g4⟩:=F.bK
 obtain ⟨tk,g5⟩:=F.mB
 refine ⟨by show ¬ ("board" : Str) = "step"; decide +kernel,by show ¬ ("board" : Str) = "line"; decide +kernel,⟨ap,["new","keys"],g1,g2,rfl,by decide,fun j x y hx hy=>?_⟩,⟨5,tk,g5,?_⟩⟩
 ·match j,hx,hy with
  | 0,hx,hy =>
   cases (Option.some.inj hx)
   cases (Option.some.inj hy)
   exact JZ F e ht h
  | 1,hx,hy =>
   cases (Option.some.inj hx)
   cases (Option.some.inj hy)
   exact .inl ⟨_,1,61,ab,rfl,g3,g4,by omega,by omega⟩
  | j+2,hx,hy=>simp at hy
 ·rw [IV,e]
  show ((VL wn "board" : Nat):Int)<5
  omega
end
theorem KC {α:Type} {l:List α} (h:∀ (i j:Nat) x,l[i]? = some x->l[j]? = some x->i=j):l.Nodup:=by
 refine List.pairwise_iff_getElem.mpr fun i j hi hj hij e=>?_
 have:=h i j l[i] (List.getElem?_eq_getElem hi) (by rw [e]; exact List.getElem?_eq_getElem hj)
 omega
theorem VB {bs:List (Str × Nat)}:∀ {i a n:Nat},(FN bs)[i]? = some (a,n)->∃ b,bs[a]? = some b/\n<b.2/\i=((bs.map (·.2)).take a).sum+n:=by
 have key:∀ m,m<=bs.length->∀ {i a n:Nat},(FN (bs.take m))[i]? = some (a,n)->∃ b,bs[a]? = some b/\n<b.2/\i=((bs.map (·.2)).take a).sum+n:=by
  intro m
  induction m with
  | zero =>
   intro _ i a n h
   simp [FN] at h
  | succ m ih =>
   intro hm i a n h
   have hlt:m<bs.length:=by omega
   have hb:=List.getElem?_eq_getElem hlt
   rw [Hc hb] at h
   have hlen:(FN (bs.take m)).length=((bs.map (·.2)).take m).sum:=by
    have g:∀ m,m<=bs.length->(FN (bs.take m)).length=((bs.map (·.2)).take m).sum:=by
     intro m
     induction m with
     | zero=>intro _; simp [FN]
     | succ m ih =>
      intro hm
      have hlt:m<bs.length:=by omega
      rw [Hc (List.getElem?_eq_getElem hlt),List.length_append,ih (by omega),List.length_map,List.length_range,List.take_add_one,List.getElem?_map,List.getElem?_eq_getElem hlt,List.sum_append]
      simp
    exact g m (by omega)
   by_cases hi:i<(FN (bs.take m)).length
   ·rw [List.getElem?_append_left hi] at h
    exact ih (by omega) h
   ·rw [List.getElem?_append_right (by omega),List.getElem?_map] at h
    obtain ⟨e,he,q⟩:=Option.map_eq_some_iff.mp h
    have he':i - (FN (bs.take m)).length<bs[m].2/\e=i - (FN (bs.take m)).length:=by
     obtain ⟨h1,h2⟩:=List.getElem?_eq_some_iff.mp he
     rw [List.length_range] at h1
     rw [List.getElem_range] at h2
     exact ⟨h1,h2.symm⟩
    obtain ⟨q1,q2⟩:=Prod.mk.inj q
    subst q1 q2
    refine ⟨bs[m],hb,by omega,?_⟩
    rw [← hlen]
    omega
 intro i a n h
 refine key bs.length (Nat.le_refl _) ?_
 rw [List.take_length]
 exact h
theorem Fz (bs:List (Str × Nat)):(FN bs).length=(bs.map (·.2)).sum:=by
 unfold FN
 rw [List.length_flatMap]
 have:(bs.zipIdx.map fun p=>((List.range p.1.2).map fun e=>(p.2,e)).length)=bs.map (·.2):=by
  refine List.ext_getElem? fun i=>?_
  rw [List.getElem?_map,List.getElem?_map,List.getElem?_zipIdx]
  cases bs[i]? <;> simp
 rw [this]
end Og
namespace Og
open PySem L2
noncomputable def Lf (bs:List (Str × Nat)) (j1 j2:Nat) (s:Int) (qd:Nat × Nat) (z2:Nat):V :=
 if qd.1=j1/\0<=(qd.2:Int)+s/\(qd.2:Int)+s<z2 then .int ((((bs.take j2).map (·.2)).sum:Nat)+((qd.2:Int)+s)) else .non
noncomputable def gl (bs:List (Str × Nat)):Kb->Nat->Option Nat
 | .cp j1 j2 s,i=>match (FN bs)[i]?,bs[j2]? with
  | some qd,some b2=>match Lf bs j1 j2 s qd b2.2 with
   | .int v=>some v.toNat
   | _=>none
  | _,_=>none
 | .pl _ _,_=>none
theorem Kq (l:List Nat):∀ {a b:Nat},a<=b->(l.take a).sum<=(l.take b).sum:=by
 intro a b h
 have e:l.take a=(l.take b).take a:=by rw [List.take_take,Nat.min_eq_left h]
 rw [e]
 have:=congrArg List.sum (List.take_append_drop a (l.take b))
 rw [List.sum_append] at this
 omega
theorem Te {bs:List (Str × Nat)} {j1 j2 i:Nat} {s:Int} {qd:Nat × Nat} {b2:Str × Nat} (hq:(FN bs)[i]? = some qd) (hb:bs[j2]? = some b2) :
  (Lf bs j1 j2 s qd b2.2=.non/\gl bs (.cp j1 j2 s) i=none) \/ ∃ j:Nat,Lf bs j1 j2 s qd b2.2=.int (j:Nat)/\gl bs (.cp j1 j2 s) i=some j/\j<(bs.map (·.2)).sum:=by
 have e:gl bs (.cp j1 j2 s) i=match Lf bs j1 j2 s qd b2.2 with | .int v=>some v.toNat | _=>none:=by
  simp only [gl,hq,hb]
 rw [e]
 unfold Lf
 by_cases h:qd.1=j1/\0<=(qd.2:Int)+s/\(qd.2:Int)+s<b2.2
 ·rw [if_pos h]
  obtain ⟨h1,h2,h3⟩:=h
  have hs:((bs.map (·.2)).take (j2+1)).sum=(((bs.take j2).map (·.2)).sum+b2.2):=by
   rw [List.take_add_one,List.getElem?_map,hb,List.sum_append,List.map_take]
   simp
  have hle:((bs.map (·.2)).take (j2+1)).sum<=(bs.map (·.2)).sum:=by
   have:=congrArg List.sum (List.take_append_drop (j2+1) (bs.map (·.2)))
   rw [List.sum_append] at this
   omega
  refine .inr ⟨((((bs.take j2).map (·.2)).sum:Nat)+((qd.2:Int)+s)).toNat,?_,rfl,by omega⟩
  rw [Int.toNat_of_nonneg (by omega)]
 ·rw [if_neg h]
  exact .inl ⟨rfl,rfl⟩
theorem WT {bs:List (Str × Nat)} {z:Kb} {i j:Nat} (h:gl bs z i=some j):j<(bs.map (·.2)).sum:=by
 cases z with
 | pl w a=>cases h
 | cp j1 j2 s =>
  cases hq:(FN bs)[i]? with
  | none =>
   simp only [gl,hq] at h
   cases h
  | some qd =>
   cases hb:bs[j2]? with
   | none =>
    simp only [gl,hq,hb] at h
    cases h
   | some b2 =>
    rcases Te (j1:=j1) (s:=s) hq hb with ⟨_,e⟩ | ⟨j',_,e,lt⟩
    ·rw [e] at h
     cases h
    ·rw [e] at h
     cases h
     exact lt
noncomputable abbrev Wc (z:Kb):Bool:=decide (V.str z.w=V.str "coupler")
theorem Z0 {bs:List (Str × Nat)} {z:Kb} {i j:Nat} (h:gl bs z i=some j):Wc z=true:=by
 cases z with
 | pl w a=>cases h
 | cp j1 j2 s=>exact decide_eq_true rfl
theorem Uk {n:Nat} {z:Kb} (ho:z.ok n) (h:Wc z=true):∃ i j s,z=.cp i j s:=by
 cases z with
 | cp i j s=>exact ⟨i,j,s,rfl⟩
 | pl w i =>
  exfalso
  have h':=V.str.inj (of_decide_eq_true h)
  rcases ho.2 with rfl | rfl
  ·exact absurd h' (by show ¬ ("mute" : Str) = "coupler"; decide +kernel)
  ·exact absurd h' (by show ¬ ("stop" : Str) = "coupler"; decide +kernel)
noncomputable def stp (bs:List (Str × Nat)) (kbs:List Kb) (D:Nat) (i j:Nat):Prop:=∃ k z,D.testBit k=true/\kbs[k]? = some z/\gl bs z i=some j
inductive Lj (st:Nat->Nat->Prop) (hd:Nat->Prop):Nat->Prop
 | one {i j:Nat}:hd i->st i j->Lj st hd j
 | more {i j:Nat}:Lj st hd i->st i j->Lj st hd j
theorem Lj.lt {bs:List (Str × Nat)} {kbs:List Kb} {D:Nat} {h:Nat->Prop} {j:Nat} (r:Lj (stp bs kbs D) h j):j<(bs.map (·.2)).sum:=by
 cases r with
 | one a b=>obtain ⟨k,z,_,_,e⟩:=b; exact WT e
 | more a b=>obtain ⟨k,z,_,_,e⟩:=b; exact WT e
theorem Lj.all {st:Nat->Nat->Prop} {hd:Nat->Prop} {W:Nat->Prop} (h1:∀ j,W j->Lj st hd j) (h2:∀ i,(hd i \/ W i)->∀ j,st i j->W j) (j:Nat):W j ↔ Lj st hd j:=by
 refine ⟨h1 j,fun h=>?_⟩
 induction h with
 | one a b=>exact h2 _ (.inl a) _ b
 | more a b ih=>exact h2 _ (.inr ih) _ b
theorem Ek:∀ (T:Nat) {l:List Nat},l.Nodup->(∀ x∈l,x<T)->l.length<=T
 | 0,l,_,h=>by
  cases l with
  | nil=>exact Nat.le_refl _
  | cons a l=>exact absurd (h a (List.mem_cons_self ..)) (Nat.not_lt_zero _)
 | T+1,l,nd,h=>by
  have ih:=Ek T (l:=l.erase T) (nd.erase T) fun x hx=>by
   have h1:=h x (List.mem_of_mem_erase hx)
   have h2:x ≠ T:=fun z=>by
    subst z
    exact nd.not_mem_erase hx
   omega
  have:=List.length_erase (a:=T) (l:=l)
  split at this <;> omega
theorem Xh (a b i:Nat):(a ||| b).testBit i=true ↔ a.testBit i=true \/ b.testBit i=true:=by
 rw [Nat.testBit_or,Bool.or_eq_true]
theorem Vi {a b:Nat} (h:∀ i,a.testBit i=true ↔ b.testBit i=true):a=b:=Nat.eq_of_testBit_eq fun i=>Bool.eq_iff_iff.mpr (h i)
end Og
namespace Og
open PySem L2 PyProof.Rows
noncomputable abbrev Th:=Str × Nat × List V
noncomputable abbrev tV (a:Th):List V:=.str a.1 :: .int (a.2.1:Nat)::a.2.2
noncomputable abbrev tN (a:Th):Str × Nat:=(a.1,a.2.1)
noncomputable abbrev Rq (r:Str × Nat × Int):Th:=(r.1,r.2.1,[.int r.2.2])
noncomputable abbrev YJ (b:Str × Nat):Th:=(b.1,b.2,[])
noncomputable abbrev W4 (r:Str × Nat × Int):Str × Nat:=(r.1,r.2.1)
noncomputable abbrev G3 (r:Str × Nat × Int):R:=⟨"rank",r.1,[.int (r.2.1:Nat),.int r.2.2]⟩
structure Ln where
 r:Nat
 sh:Int
 lo:Int
 hi:Int
noncomputable abbrev YW (l:Ln):List V:=[.int (l.r:Nat),.int l.sh,.int l.lo,.int l.hi]
noncomputable def Gm (H:Hp) (l:List Ln) (v:V):Prop:=∃ (A:Addr) (ts:List V),v=.ref A/\H A=some (.lst ts)/\Paired (fun x y=>TupAt H (YW x) y) l ts
noncomputable def Hl (H:Hp) (D:Addr) (ls:List (List Ln)):Prop:=∃ lv,H D=some (.lst lv)/\Paired (fun l v=>Gm H l v) ls lv
theorem Gm.mono {H H':Hp} {l:List Ln} {v:V} (s:Ak H H') (h:Gm H l v):Gm H' l v:=by
 obtain ⟨A,ts,e,h1,h2⟩:=h
 exact ⟨A,ts,e,s _ _ h1,Ar s h2⟩
theorem Hl.mono {H H':Hp} {D:Addr} {ls:List (List Ln)} (s:Ak H H') (h:Hl H D ls):Hl H' D ls:=by
 obtain ⟨lv,h1,h2⟩:=h
 exact ⟨lv,s _ _ h1,Paired.Jd h2 fun _ _ q=>q.mono s⟩
structure Do (C:Addr) (H:Hp) (x:Addr) (bs:List (Str × Nat)) (rk:List (Str × Nat × Int)) (ks:List R) (ls:List (List Ln)):Prop where
 o:DN C H x bs ks
 r:∃ (dx:Addr) (fs:List (Str × V)) (rl rn pp kl:Addr) (rvs pvs:List V) (kvs:List (Key × V)),H x=some (.ins C dx fs)/\fs.lookup ("rank_list" : Str)=some (.ref rl)/\fs.lookup ("rank_numbers" : Str)=some (.ref rn)/\fs.lookup ("pipe_places" : Str)=some (.ref pp)/\fs.lookup ("knob_lines" : Str)=some (.ref kl) /\
  H rl=some (.lst rvs)/\Paired (fun (a:Th) y=>TupAt H (tV a) y) (rk.map Rq) rvs/\H rn=some (.dK kvs)/\(∀ (i:Nat) r,rk[i]? = some r->Bx kvs (Sum.inr r.1)=some (.int (i:Nat))) /\
  H pp=some (.lst pvs)/\Paired (fun q y=>TupAt H (qV q) y) (FN (rk.map W4)) pvs/\Hl H kl ls
 nr:rk.length<=12
 nz:∀ r∈rk,r.2.1<=97
 nl:ls.length=ks.length
theorem Do.mono {C:Addr} {H H':Hp} {x:Addr} {bs:List (Str × Nat)} {rk:List (Str × Nat × Int)} {ks:List R} {ls:List (List Ln)} (s:Ak H H') (h:Do C H x bs rk ks ls):Do C H' x bs rk ks ls:=by
 obtain ⟨o,⟨dx,fs,rl,rn,pp,kl,rvs,pvs,kvs,h1,l1,l2,l3,l4,h2,h3,h4,h5,h6,h7,h8⟩,a,b,c⟩:=h
 exact ⟨o.mono s,⟨dx,fs,rl,rn,pp,kl,rvs,pvs,kvs,s _ _ h1,l1,l2,l3,l4,s _ _ h2,Ar s h3,s _ _ h4,h5,s _ _ h6,Ar s h7,h8.mono s⟩,a,b,c⟩
structure V_ (ρ:V->R) (us:List V) (i:Nat):Prop where
 all:∀ j,j<i->∃ v,us[us.length - 1 - j]? = some v/\(ρ v).w = "line"
 lt:i<us.length
 no:∃ v,us[us.length - 1 - i]? = some v/\¬ (ρ v).w = "line"
noncomputable def XX (r:R):Int:=match r.rest with
 | [.int m]=>m
 | _=>0
noncomputable abbrev keyOf (ρ:V->R) (us:List V) (bd:Str) (n:Int):Bool:=(us.filter (pw ρ "board")).any fun v=>pn ρ bd v && decide (n<XX (ρ v))
structure M6 (ρ:V->R) (us:List V) (ro:R):Prop where
 ex:∃ (cnt:Nat) (v:V) (sh lo hi:Int) (bd:Str) (rs:List V),ro.rest=[.int sh,.int lo,.int hi]/\V_ ρ us cnt/\cnt<4/\us[us.length - 1 - cnt]? = some v/\(ρ v).w = "stop" /\ (ρ v).rest=.str bd::rs/\lo<=hi/\keyOf ρ us bd hi=true
noncomputable abbrev Et (ρ:V->R) (us:List V):Prop:=∀ v∈us,(ρ v).w = "board"->∃ m,(ρ v).rest=[.int m]
structure IK (K:PySem.W.Frag) (aB aP aM:Addr) (ρ:V->R) (vs:List V) (r:R):Prop where
 ns:¬ r.w = "step"
 parts:∃ (ap:Addr) (ps:List Str),PySem.W.nsIn K aP r.w=some (some (.ref ap))/\KTup K ap (ps.map V.str)/\(V.str r.nm::r.rest).length=ps.length/\ps.length<=10 /\
  ∀ (i:Nat) x y,(V.str r.nm::r.rest)[i]? = some x->ps[i]? = some y->G_ K aB ρ vs x y
 room:(r.w = "line" /\ PySem.W.nsIn K aM r.w=some none) \/ ∃ (m:Int) (t:Tok),PySem.W.nsIn K aM r.w=some (some (.int m t))/\(((vs.filter (pw ρ r.w)).length:Nat):Int)<m
 line:r.w = "line"->M6 ρ vs r
 YQ:Et ρ vs
noncomputable def lnOf (rk:List (Str × Nat × Int)) (r:R):Ln:=match r.rest with
 | [.int sh,.int lo,.int hi]=>⟨(rk.map (·.1)).idxOf r.nm,sh,lo,hi⟩
 | _=>⟨0,0,0,0⟩
noncomputable def putL (acc:List (List Ln)) (l:Ln):List (List Ln):=match acc.getLast? with
 | some z=>acc.dropLast++[z++[l]]
 | none=>[]
noncomputable def C_ (rk:List (Str × Nat × Int)) (acc:List (List Ln)) (r:R):List (List Ln):=if G5 r.w=true then acc++[[]] else if r.w = "line" then putL acc (lnOf rk r) else acc
noncomputable def linesOf (rk:List (Str × Nat × Int)) (rs:List R):List (List Ln):=rs.foldl (C_ rk) []
theorem Cd (rk:List (Str × Nat × Int)) (rs:List R) (r:R):linesOf rk (rs++[r])=C_ rk (linesOf rk rs) r:=by
 unfold linesOf
 rw [List.foldl_append]
 rfl
theorem Gv (acc:List (List Ln)) (z:List Ln) (l:Ln):putL (acc++[z]) l=acc++[z++[l]]:=by
 unfold putL
 rw [List.getLast?_concat,List.dropLast_concat]
structure pJ (K:PySem.W.Frag) (aB aP aM:Addr) (ρ:V->R) (us:List V) (bs:List (Str × Nat)) (rk:List (Str × Nat × Int)) (ks:List R):Prop where
 kinds:∀ v∈us,(ρ v).w = "board" \/ (ρ v).w = "rank" \/ (ρ v).w = "line" \/ (ρ v).w = "stop" \/ (ρ v).w = "coupler" \/ (ρ v).w = "mute"
 eb:(us.filter (pw ρ "board")).map ρ=bs.map FT
 er:(us.filter (pw ρ "rank")).map ρ=rk.map G3
 ek:(us.filter (fun v=>G5 (ρ v).w)).map ρ=ks
 ln:∀ (i:Nat) v,us[i]? = some v->(ρ v).w = "line"->(∃ (j:Nat) (r:Str × Nat × Int) (sh lo hi:Int),rk[j]? = some r/\r.1=(ρ v).nm/\(ρ v).rest=[.int sh,.int lo,.int hi])/\∃ u∈us.take i,G5 (ρ u).w=true
 b0:1<=bs.length
 b5:bs.length<=5
 sz:∀ b∈bs,b.2<=61
 nr:rk.length<=12
 nz:∀ r∈rk,r.2.1<=97
 nk:ks.length<=100
 nb:(bs.map (·.1)).Nodup
 nrr:(rk.map (·.1)).Nodup
 nn:(ks.map (·.nm)).Nodup
 len:us.length<=150
 ok:∀ (i:Nat) v,us[i]? = some v->IK K aB aP aM ρ (us.take i) (ρ v)
end Og
namespace Ws
open PySem PySem.Spec PyProof.Rows Wd
noncomputable def HW (prog:Program) (w:World) (h:Heap) (a:Addr) (led:Bool) (σ:List Str):Prop :=
 ∃ es ep t,h.get? a=some { cls:=.type "set",dict:=none,data:=.set es ep t }/\ElemsOf (strKind prog w) es.toList/\(∀ k,k∈σ ↔ ∃ e∈es.toList,(strKind prog w).is k e.2=true)/\es.size=σ.length/\σ.Nodup /\
  σ.length<scanBound/\t.fits es.size=true/\Good t led
noncomputable def FP (σ:List Str) (k:Str):List Str:=if k∈σ then σ else σ++[k]
section
variable {prog:Program} {w:World} {A:Around} {E:Value->Shared->Prop} {s:Shared} {a:Addr} {led:Bool} {σ:List Str} {k:Str} {tk:Tok}
theorem ZQ {Q:Bool->Shared->Prop} (hS:HW prog w s.heap a led σ) (room:σ.length+1<scanBound)
  (h:∀ b h',Heap.SameBut a s.heap h'->HW prog w h' a led (FP σ k)->Q b { s with heap:=h' }):wpAny (model prog w) A (setAddHashed a (.str k tk) ((strKind prog w).hash k)) Q E s:=by
 obtain ⟨es,ep,t,ho,hel,hmem,hn,nd,hb,hf,g⟩:=hS
 have hkey:(strKind prog w).is k (.str k tk)=true:=strKind_is _ _ _ _
 have hbe:es.size<scanBound:=by rw [hn]; exact hb
 unfold setAddHashed setAddHashedIn
 refine wpAny_holding (wpAny_bind (wpAny_setState_of ho rfl hf ?_))
 dsimp only
 rw [byScan_of rfl hbe hel,if_pos rfl]
 unfold setAddByScan
 refine wpAny_bind (wpAny_bind (wpAny_rule (wpAny_bind (wpAny_setScan_of hkey ho rfl hf hel ?_))))
 cases hr:List.findIdx? (fun e=>(strKind prog w).is k e.2) es.toList with
 | some j =>
  obtain ⟨hj,hpj,_⟩:=List.findIdx?_eq_some_iff_getElem.mp hr
  have hk:k∈σ:=(hmem k).mpr ⟨_,List.getElem_mem hj,hpj⟩
  refine wpAny_pure (wpAny_pure ?_)
  have:=h false s.heap (Heap.SameBut.refl a s.heap) (by unfold FP; rw [if_pos hk]; exact ⟨es,ep,t,ho,hel,hmem,hn,nd,hb,hf,g⟩)
  exact this
 | none =>
  have hk:k ∉ σ:=fun q=>by
   obtain ⟨e,he,hp⟩:=(hmem k).mp q
   have:=List.findIdx?_eq_none_iff.mp hr e he
   rw [hp] at this
   cases this
  dsimp only
  have hperm:=layNew_perm t es ((strKind prog w).hash k) (.str k tk)
  have hfits:=layNew_fits t es ((strKind prog w).hash k) (.str k tk)
  have hgood:=Q8 g es ((strKind prog w).hash k) (.str k tk)
  generalize layNew t es ((strKind prog w).hash k) (.str k tk)=L at hperm hfits hgood ⊢
  obtain ⟨es1,t1,wd,gave⟩:=L
  dsimp only at hperm hfits hgood ⊢
  rw [Array.toList_push] at hperm
  have hel1:ElemsOf (strKind prog w) es1.toList:=(hel.push hkey rfl).perm hperm
  have sz1:es1.size=(σ++[k]).length:=by
   have:=hperm.length_eq
   simp only [List.length_append,Array.length_toList,List.length_singleton] at this
   simp only [List.length_append,List.length_singleton]
   omega
  have mem1:∀ k',k'∈σ++[k] ↔ ∃ e∈es1.toList,(strKind prog w).is k' e.2=true:=fun k'=>by
   have:=mem_push_iff (knd:=strKind prog w) (S:=fun k'=>decide (k'∈σ)) hkey (fun k'=>by rw [decide_eq_true_eq]; exact hmem k') hperm k'
   rw [← this]
   simp
  have nd1:(σ++[k]).Nodup:=List.nodup_append.mpr ⟨nd,by simp,fun x hx y hy=>by
   rw [List.mem_singleton.mp hy]
   intro q
   exact hk (q ▸ hx)⟩
  have hb1:(σ++[k]).length<scanBound:=by simp only [List.length_append,List.length_singleton]; exact room
  have hb1':es1.size<scanBound:=by rw [sz1]; exact hb1
  have fin:∀ (es2:Array (Int × Value)) (t2:SetTable) (ep2:Nat) (h2:Heap),Heap.SameBut a s.heap h2->h2.get? a=some { cls:=.type "set",dict:=none,data:=.set es2 ep2 t2 }->es2.toList.Perm es1.toList->t2.fits es2.size=true->Good t2 led ->
    Q true { s with heap:=h2 }:=fun es2 t2 ep2 h2 sb e2 p2 f2 g2=>by
   refine h true h2 sb ?_
   unfold FP
   rw [if_neg hk]
   refine ⟨es2,ep2,t2,e2,hel1.perm p2,fun k'=>(mem1 k').trans ⟨fun ⟨e,he,q⟩=>⟨e,p2.mem_iff.mpr he,q⟩,fun ⟨e,he,q⟩=>⟨e,p2.mem_iff.mp he,q⟩⟩,?_,nd1,hb1,f2,g2⟩
   rw [← Array.length_toList,p2.length_eq,Array.length_toList,sz1]
  have tail:∀ (t2:SetTable),t2.fits es1.size=true->Good t2 led->wpAny (model prog w) A (do
    storeSet a es1 t2
    if (!wd && t2.tooFull)=true then do
      (match (relayAll t2 es1 (SetTable.grown es1.size)).2.2 with | true=>rule "set.scan.the-table-gave-way" | false=>pure ())
      storeSet a (relayAll t2 es1 (SetTable.grown es1.size)).1 (relayAll t2 es1 (SetTable.grown es1.size)).2.1
      pure (some true)
     else pure (some true)) (fun r s'=>match r with | some b=>Q b s' | none=>False) E s:=fun t2 f2 g2=>by
   refine wpAny_bind (wpAny_storeSet_of ho rfl ?_ (fits_of_scanBound hb1'))
   have sb1:=Heap.SameBut.update s.heap a (Obj.putSet es1 t2)
   have e1:=O6 (es':=es1) (t':=t2) ho
   split
   ·have hp:=relayAll_perm t2 es1 (SetTable.grown es1.size)
    have hq:=relayAll_fits t2 es1 (SetTable.grown es1.size)
    have hg:=Nf g2 es1 (SetTable.grown es1.size)
    generalize relayAll t2 es1 (SetTable.grown es1.size)=R at hp hq hg ⊢
    obtain ⟨es2,t3,gv⟩:=R
    dsimp only at hp hq hg ⊢
    have hb2:es2.size<scanBound:=by rw [← Array.length_toList,hp.length_eq,Array.length_toList]; exact hb1'
    have last:wpAny (model prog w) A (do storeSet a es2 t3; pure (some true)) (fun r s'=>match r with | some b=>Q b s' | none=>False) E { s with heap:=s.heap.update a (Obj.putSet es1 t2) }:=by
     refine wpAny_bind (wpAny_storeSet_of e1 rfl ?_ (fits_of_scanBound hb2))
     exact wpAny_pure (fin es2 t3 _ _ (sb1.trans (Heap.SameBut.update _ a _)) (O6 e1) hp hq hg)
    cases gv
    ·exact wpAny_bind (wpAny_pure last)
    ·exact wpAny_bind (wpAny_rule last)
   ·exact wpAny_pure (fin es1 t2 _ _ sb1 e1 (List.Perm.refl _) f2 g2)
  have tail':∀ (t2:SetTable),t2.fits es1.size=true->Good t2 led->wpAny (model prog w) A (do
    storeSet a es1 t2
    if (!wd && t2.tooFull)=true then do
      (match (relayAll t2 es1 (SetTable.grown es1.size)).2.2 with | true=>rule "set.scan.the-table-gave-way" | false=>pure ())
      storeSet a (relayAll t2 es1 (SetTable.grown es1.size)).1 (relayAll t2 es1 (SetTable.grown es1.size)).2.1
      pure (some true)
     else pure (some true)) (fun r s'=>wpAny (model prog w) A (match r with | some added=>pure added | none=>setAddHashedIn a (.str k tk) ((strKind prog w).hash k) 99999) Q E s') E s:=fun t2 f2 g2 =>
   wpAny_mono (tail t2 f2 g2) (fun r s' q=>by
    cases r with
    | none=>exact q.elim
    | some b=>exact wpAny_pure q) fun _ _ e=>e
  have mid:wpAny (model prog w) A (do
    let byValue ← if t1.plain then hashByValue 8 (.str k tk) else pure true
    let t2:=if byValue=true then t1 else { t1 with plain:=false }
    storeSet a es1 t2
    if (!wd && t2.tooFull)=true then do
      (match (relayAll t2 es1 (SetTable.grown es1.size)).2.2 with | true=>rule "set.scan.the-table-gave-way" | false=>pure ())
      storeSet a (relayAll t2 es1 (SetTable.grown es1.size)).1 (relayAll t2 es1 (SetTable.grown es1.size)).2.1
      pure (some true)
     else pure (some true)) (fun r s'=>wpAny (model prog w) A (match r with | some added=>pure added | none=>setAddHashedIn a (.str k tk) ((strKind prog w).hash k) 99999) Q E s') E s:=by
   split
   ·rw [hashByValue_scannable 8 rfl]
    exact wpAny_bind (wpAny_pure (tail' { t1 with plain:=false } hfits ⟨hgood.led,fun h=>by cases h⟩))
   ·exact wpAny_bind (wpAny_pure (tail' t1 hfits hgood))
  cases gave
  ·exact wpAny_bind (wpAny_pure mid)
  ·exact wpAny_bind (wpAny_rule mid)
end
inductive StrsAre:List Value->List Str->Prop
 | nil:StrsAre [] []
 | cons (z:Str) (t:Tok) {us:List Value} {zs:List Str}:StrsAre us zs->StrsAre (.str z t::us) (z::zs)
theorem StrsAre.length:∀ {us:List Value} {zs:List Str},StrsAre us zs->us.length=zs.length
 | _,_,.nil=>rfl
 | _,_,.cons z t r=>congrArg (· + 1) r.length
theorem StrsAre.Tf:∀ {us:List Value} {zs:List Str},StrsAre us zs->∀ (i:Nat) (v:Value),us[i]? = some v->∃ t,v=.str (zs.getD i "") t
 | _,_,.nil,i,v,h=>by simp at h
 | _,_,.cons z t r,0,v,h=>by simp at h; exact ⟨t,h.symm⟩
 | _,_,.cons z t r,i+1,v,h=>by
  have h':_:=h
  rw [List.getElem?_cons_succ] at h'
  obtain ⟨t',e⟩:=r.Tf i v h'
  exact ⟨t',by rw [e]; rfl⟩
theorem HW.keep {prog:Program} {w:World} {h h':Heap} {a:Addr} {led:Bool} {σ:List Str} (g:HW prog w h a led σ) (k:∀ o,h.get? a=some o->h'.get? a=some o):HW prog w h' a led σ :=
 let ⟨es,ep,t,e,r⟩:=g; ⟨es,ep,t,k _ e,r⟩
theorem Rg (σ:List Str) (k:Str):(FP σ k).length<=σ.length+1:=by
 unfold FP
 split
 ·omega
 ·simp
theorem KH:∀ (ns:List Str) (σ:List Str),(ns.foldl FP σ).length<=σ.length+ns.length
 | [],σ=>by simp
 | k::ns,σ=>by
  have h1:=KH ns (FP σ k)
  have h2:=Rg σ k
  simp only [List.foldl_cons,List.length_cons]
  omega
section
variable {prog:Program} {w:World} {A:Around} {R:Result->Shared->Prop} {I:Addr} {fp wr:List Addr} {G:Array GenState->Array GenState->Prop} {n:Nat} {P:Nat->Value->Prop} {St:Nat->Shared->Prop} {led:Bool}
theorem Wg (W:WalksS prog w A.in1 I fp wr G n P St) (S:Addr) (hSf:S ∉ fp) (ns:List Str) (hn:ns.length=n) (hval:∀ i v,P i v->∃ t,v=.str (ns.getD i "") t) (hb:n+1<scanBound) :
  ∀ (k i:Nat) (s:Shared),n - i=k->i<=n->St i s->HW prog w s.heap S led ((ns.take i).foldl FP []) ->
   (∀ s',Moved (S::wr) G s s'->HW prog w s'.heap S led (ns.foldl FP [])->R (.ok (.ret .none)) s')->codeAny (model prog w) A (.builtin "set.update.loop" ⟨[.ref S,.ref I],[]⟩) R s:=by
 have nw:S ∉ wr:=fun z=>hSf (W.sub _ z)
 have up:∀ b∈wr,b∈S::wr:=fun b z=>List.mem_cons_of_mem _ z
 intro k
 induction k with
 | zero =>
  intro i s hk hi st g hR
  obtain rfl:i=n:=by omega
  refine codeAny_builtin F.entry_set_update_loop ?_
  rw [Around.under_plainId F.plain_set_update_loop _]
  refine wpAny_bind (W.done s _ _ st fun s' m=>wpAny_pure (hR s' (m.mono up) ?_))
  rw [List.take_of_length_le (by omega)] at g
  exact g.keep fun o e=>m.heap S o nw e
 | succ k ih =>
  intro i s hk hi st g hR
  have lt:i<n:=by omega
  refine codeAny_builtin F.entry_set_update_loop ?_
  rw [Around.under_plainId F.plain_set_update_loop _]
  refine wpAny_bind (W.item i s _ _ lt st fun v s' p st' m=>?_)
  obtain ⟨t,rfl⟩:=hval i v p
  have g':=g.keep (h':=s'.heap) fun o e=>m.heap S o nw e
  refine wpAny_bind (wpAny_holding (wpAny_holding (wpAny_bind ((strKind prog w).pyHash (k:=ns.getD i "") (strKind_is _ _ _ _) ?_))))
  have room:((ns.take i).foldl FP []).length+1<scanBound:=by
   have:=KH (ns.take i) []
   rw [List.length_take] at this
   simp at this
   omega
  have tk:ns.take (i+1)=ns.take i++[ns.getD i ""]:=by
   have hl:i<ns.length:=by omega
   rw [List.take_add_one,List.getElem?_eq_getElem hl]
   simp [hl]
  refine ZQ (s:={ s' with toks:=s'.toks+1 }) g' room fun b h' sb g2=>?_
  have g3:HW prog w h' S led ((ns.take (i+1)).foldl FP []):=by
   rw [tk,List.foldl_append]
   exact g2
  refine wpAny_pure ⟨plainId_quiet F.plain_set_update_loop _,ih (i+1) _ (by omega) lt (W.frame _ s' _ _ st' (Nat.le_succ _) fun b hb o e=>?_) g3 fun s'' m2 g4=>?_⟩
  ·rw [sb.2 b (fun z:b=S=>hSf (z ▸ hb))]
   exact e
  ·refine hR s'' (Moved.trans W.gtrans ((m.mono up).then_heap (Nat.le_succ _) fun b o hb e=>?_) m2) g4
   rw [sb.2 b (fun z:b=S=>hb (by rw [z]; exact List.mem_cons_self))]
   exact e
end
section
variable {prog:Program} {w:World} {A:Around} {E:Value->Shared->Prop} {s:Shared}
theorem Uv (h:Heap):HW prog w (h.push { cls:=.type "set",dict:=none,data:=.set #[] 0 (.fresh 0 0 (Dr w)) }) h.objs.size (Dr w) [] :=
 ⟨#[],0,_,Heap.get?_push_size _ rfl,fun e he=>by simp at he,fun k=>by simp,rfl,.nil,by decide,by rfl,Nz _⟩
set_option maxHeartbeats 4000000 in
theorem cB {l:Addr} {items:Array Value} {ns:List Str} {Q:Value->Shared->Prop} (hh:A.handled=none) (hl:s.heap.IsTuple l items) (hi:StrsAre items.toList ns) (hb:ns.length+1<scanBound)
  (h:∀ h' tk,HW prog w h' s.heap.objs.size (Dr w) (ns.foldl FP [])->(∀ b o,s.heap.get? b=some o->h'.get? b=some o)->Q (.ref s.heap.objs.size) { s with heap:=h',toks:=tk }) :
  wpAny (model prog w) A (call (.type "set") [.ref l]) Q E s:=by
 obtain ⟨c,tl,hmro⟩:=F.called_set.mro
 have hmade:=F.called_set.made
 have hsub:=F.called_set.sub
 have hlen:items.size=ns.length:=by rw [← StrsAre.length hi]; simp
 refine wpAny_call (codeAny_of_tree ?_)
 show wpAny _ _ (callAny (.type "set") _) _ _ _
 refine wpAny_pure ⟨Code.quiet_builtin _ (by decide +kernel),codeAny_builtin F.entry_type_call ?_⟩
 rw [Around.under_plain (weight_type_call_type "set" [.ref l] []) rfl]
 have h1:=F.called_set.notType
 have h2:=F.called_set.canCreate
 have hct:=F.typeCall_set_1 (.ref l)
 repeat (any_goals (first | assumption | wp_step))
 refine codeAny_mono (bF (.ref l) (E:=E) (Q1:=fun obj s1=>obj=.ref s.heap.objs.size/\s1 = { s with heap:=s.heap.push { cls:=.type "set",dict:=none,data:=.set #[] 0 (.fresh 0 0 (Dr w)) } }) ⟨rfl,rfl⟩) fun r s1 hr=>?_
 rcases r with e | fl
 ·exact hr
 obtain ⟨obj,rfl,hr⟩:∃ obj,fl=.ret obj/\(obj=.ref s.heap.objs.size/\s1 = { s with heap:=s.heap.push { cls:=.type "set",dict:=none,data:=.set #[] 0 (.fresh 0 0 (Dr w)) } }):=by
  cases fl with
  | ret v=>exact ⟨v,rfl,hr⟩
  | _=>exact hr.elim
 obtain ⟨rfl,rfl⟩:=hr
 have hS:(s.heap.push { cls:=.type "set",dict:=none,data:=.set #[] 0 (.fresh 0 0 (Dr w)) }).get? s.heap.objs.size=some { cls:=.type "set",dict:=none,data:=.set #[] 0 (.fresh 0 0 (Dr w)) }:=Heap.get?_push_size _ rfl
 have hT:Shared.TypeIs { s with heap:=s.heap.push { cls:=.type "set",dict:=none,data:=.set #[] 0 (.fresh 0 0 (Dr w)) } } (.ref s.heap.objs.size) "set":=⟨_,hS,rfl⟩
 have hli:=F.called_set.init.lookup
 have hbi:=F.called_set.init.bind (.ref s.heap.objs.size)
 repeat (any_goals (first | assumption | wp_step))
 refine codeAny_mono (codeAny_call_builtin (R:=wants (fun r s2=>r=.none/\∃ h' tk,s2 = { s with heap:=h',toks:=tk }/\HW prog w h' s.heap.objs.size (Dr w) (ns.foldl FP [])/\∀ b o,s.heap.get? b=some o->h'.get? b=some o) E)
  F.called_set.init.plain F.entry_set_init (check_set_init_1 hT ?_)) fun r2 s2 hr2=>?_
 ·obtain ⟨ol,hol,hcl,nl,hdl⟩:=hl
  obtain ⟨ocls,odict,odata,oslots⟩:=ol
  simp only at hcl hdl
  subst hcl; subst hdl
  have hol':(s.heap.push { cls:=.type "set",dict:=none,data:=.set #[] 0 (.fresh 0 0 (Dr w)) }).get? l=some { cls:=.type "tuple",dict:=odict,data:=.seq items nl,slots:=oslots }:=Heap.get?_push_of_some _ hol
  have hsls:=F.sub_tuple_set
  have hslf:=F.sub_tuple_frozenset
  have hne:(Value.type "tuple" == Value.type "dict")=false:=by decide
  have hl1:(s.heap.push { cls:=.type "set",dict:=none,data:=.set #[] 0 (.fresh 0 0 (Dr w)) }).IsTuple l items:=⟨_,hol',rfl,nl,rfl⟩
  unfold Builtin.«set.__init__» noKeywords Builtin.Frozenset.updateFrom
  generalize hPI:pyIter=PI
  wp_walk
  subst hPI
  refine wpAny_pyIter_tuple hl1 (wpAny_bind (wpAny_runValue ?_))
  have lS:l<s.heap.objs.size:=Heap.lt_size hol
  have h3:A.in1.in1.in1.handled=none:=by simp [hh]
  have nI:l ≠ (s.heap.push { cls:=.type "set",dict:=none,data:=.set #[] 0 (.fresh 0 0 (Dr w)) }).objs.size:=by
   rw [Heap.size_push]
   exact Nat.ne_of_lt (Nat.lt_succ_of_lt lS)
  have nf:s.heap.objs.size ∉ [(s.heap.push { cls:=.type "set",dict:=none,data:=.set #[] 0 (.fresh 0 0 (Dr w)) }).objs.size,l]:=by
   rw [Heap.size_push]
   intro z
   rcases List.mem_cons.mp z with q | q
   ·exact absurd q (Nat.ne_of_lt (Nat.lt_succ_self _))
   ·exact absurd (List.mem_singleton.mp q) (Nat.ne_of_gt lS)
  refine Wg ((Walks.tuple h3 _ l nI items).toS) s.heap.objs.size nf ns hlen.symm (fun i v hv=>StrsAre.Tf hi i v (by rw [Array.getElem?_toList]; exact hv)) (by rw [hlen]; exact hb) (items.size - 0) 0 _ rfl (Nat.zero_le _)
   ⟨⟨_,Heap.get?_push_size _ rfl,rfl,rfl⟩,(hl1.push _)⟩ ((Uv s.heap).keep fun o e=>Heap.get?_push_of_some _ e) fun s' m g=>?_
  obtain ⟨h',g',d',tk',os'⟩:=s'
  obtain rfl:g'=s.gens:=m.gens
  obtain rfl:d'=s.drawn:=m.drawn
  obtain rfl:os'=s.os:=m.os
  show wpAny _ _ _ _ _ _
  refine wpAny_pure ?_
  show wpAny _ _ (ret Value.none) _ _ _
  refine wpAny_pure ⟨rfl,h',tk',rfl,g,fun b o e=>?_⟩
  have b1:=Heap.lt_size e
  refine m.heap b o (fun z=>?_) (Heap.get?_push_of_some _ (Heap.get?_push_of_some _ e))
  rcases List.mem_cons.mp z with q | q
  ·exact absurd q (Nat.ne_of_lt b1)
  ·have:=List.mem_singleton.mp q
   rw [Heap.size_push] at this
   exact absurd this (Nat.ne_of_lt (Nat.lt_succ_of_lt b1))
 ·rcases r2 with e | fl2
  ·exact hr2
  obtain ⟨r,rfl,hr2⟩:∃ r,fl2=.ret r/\(r=.none/\∃ h' tk,s2 = { s with heap:=h',toks:=tk }/\HW prog w h' s.heap.objs.size (Dr w) (ns.foldl FP [])/\∀ b o,s.heap.get? b=some o->h'.get? b=some o):=by
   cases fl2 with
   | ret v=>exact ⟨v,rfl,hr2⟩
   | _=>exact hr2.elim
  obtain ⟨rfl,h',tk,rfl,g,hk⟩:=hr2
  repeat (any_goals (first | assumption | wp_step))
  exact h _ _ g hk
end
end Ws
namespace L2
open PySem PySem.Spec PyProof.Rows
noncomputable def LQ (P:Program) (w:World) (a:Addr) (τ:List Str):HO:=.ext fun h=>Ws.HW P w h a (Wd.Dr w) τ
theorem RD {P:Program} {w:World} {H:Hp} {h:Heap} {a:Addr} {τ:List Str} (g:Ws.HW P w h a (Wd.Dr w) τ):Bq P w H h a (LQ P w a τ) :=
 ⟨g,(let ⟨_,_,_,e,_⟩:=g; ⟨_,e⟩),fun _ _ g k=>g.keep k⟩
theorem KN:∀ {ts:List Str} {us:List Value},Vals (ts.map V.str) us->Ws.StrsAre us ts
 | [],_,r=>by cases r; exact .nil
 | n::ns,_,r=>by
  cases r with
  | cons r t =>
   obtain ⟨tk,rfl⟩:=r
   exact .cons n tk (KN t)
section
variable {X:Cx}
theorem Qd (hc:X.calm=true):Eu X (.type "set") (fun xs H Q=>∃ (l:Addr) (ts:List Str),xs=[V.ref l]/\GD X.K H l (ts.map V.str)/\ts.length<=1000/\∀ p,H p=none->Q (.ref p) (upd H p (LQ X.prog X.w p (ts.foldl Ws.FP [])))):=by
 intro pins s σ H xs us Q I r h
 obtain ⟨l,ts,rfl,hl,hz,q⟩:=h
 obtain ⟨u,rfl,ru⟩:=vals1 r
 cases ru
 obtain ⟨its,rv,pl,_⟩:=I.tuple hl
 have hn:H s.heap.objs.size=none:=I.hok.fresh (Nat.le_refl _)
 refine Ws.cB (I.ok.hd hc) pl (by simpa using KN rv) (by unfold scanBound; omega) fun h' tk g k=>?_
 exact ⟨.ref s.heap.objs.size,_,I.laid (t':=tk) k (Nat.le_refl _) (RD g),rfl,q _ hn⟩
theorem Jz:Eu X (.builtin "len") (fun xs H Q=>∃ (a:Addr) (τ:List Str),xs=[V.ref a]/\H a=some (LQ X.prog X.w a τ)/\Q (.int (τ.length:Nat)) H):=by
 intro pins s σ H xs us Q I r h
 obtain ⟨a,τ,rfl,ha,q⟩:=h
 obtain ⟨u,rfl,ru⟩:=vals1 r
 cases ru
 obtain ⟨⟨es,ep,t,e1,e2,e3,e4,e5,e6,e7,e8⟩,_,_⟩:=(show Bq X.prog X.w H s.heap a (LQ X.prog X.w a τ) from I.hok a _ ha)
 unfold scanBound at e6
 refine call_len_set e1 ⟨rfl,rfl,rfl⟩ rfl e7 (by omega) ⟨.int ((es.size:Nat):Int),H,I.tok _,⟨_,rfl⟩,?_⟩
 rw [e4]
 exact q
end
theorem KZ:∀ (ts τ:List Str),(τ++ts).Nodup->(ts.foldl Ws.FP τ)=τ++ts
 | [],τ,_=>(List.append_nil _).symm
 | t::ts,τ,h=>by
  have hn:t ∉ τ:=fun z=>by
   rw [List.nodup_append] at h
   exact h.2.2 t z t (List.mem_cons_self ..) rfl
  rw [List.foldl_cons]
  have e:Ws.FP τ t=τ++[t]:=by unfold Ws.FP; rw [if_neg hn]
  rw [e,KZ ts (τ++[t]) (by rw [List.append_assoc]; exact h),List.append_assoc]
  rfl
end L2
namespace Og
open PySem L2
theorem Us {X:Cx} {K:PySem.W.Frag} {e:Expr} {f:Str} {pos:Pos} {ta:TE} (hK:X.K=K) (he:PE X e ta) (hb:attributeBase e f X.env (eval e X.env)=eval e X.env):PE X (.Attribute e f pos) (dG K ta f):=by
 rw [← hK]
 exact Bg he hb
structure Xe (K:PySem.W.Frag) (aM:Addr) (ρ:V->R) (vs:List V) (r:R):Prop where
 w:r.w = "step"
 ts:∃ ts:List Str,V.str r.nm::r.rest=ts.map V.str/\ts.Nodup/\ts.length<=24/\∀ t∈ts,isNm t/\UG ρ vs "stop" t=true
 room:∃ (m:Int) (t:Tok),PySem.W.nsIn K aM r.w=some (some (.int m t))/\(((vs.filter (pw ρ r.w)).length:Nat):Int)<m
noncomputable abbrev Gh (K:PySem.W.Frag) (aB aP aM:Addr) (ρ:V->R) (vs:List V) (r:R):Prop:=IK K aB aP aM ρ vs r \/ Xe K aM ρ vs r
theorem Gh.room {K:PySem.W.Frag} {aB aP aM:Addr} {ρ:V->R} {vs:List V} {r:R} (h:Gh K aB aP aM ρ vs r):PySem.W.nsIn K aM r.w=some none \/ ∃ (m:Int) (t:Tok),PySem.W.nsIn K aM r.w=some (some (.int m t))/\(((vs.filter (pw ρ r.w)).length:Nat):Int)<m :=
 h.elim (fun h=>h.room.elim (fun z=>.inl z.2) .inr) (fun h=>.inr h.room)
noncomputable def Kv (r:R):List Str:=(V.str r.nm::r.rest).map fun v=>match v with | .str t=>t | _=>""
theorem KY {r:R} {ts:List Str} (h:V.str r.nm::r.rest=ts.map V.str):Kv r=ts:=by
 unfold Kv
 rw [h,List.map_map]
 exact List.map_id ts
noncomputable def stN (ks:List R) (r:R):Nat:=Wd.mk ((Kv r).map fun t=>(ks.map (·.nm)).idxOf t)
structure iz (K:PySem.W.Frag) (aB aP aM:Addr) (ρ:V->R) (us:List V) (bs:List (Str × Nat)) (rk:List (Str × Nat × Int)) (ks:List R):Prop where
 eb:(us.filter (pw ρ "board")).map ρ=bs.map FT
 er:(us.filter (pw ρ "rank")).map ρ=rk.map G3
 ek:(us.filter (fun v=>G5 (ρ v).w)).map ρ=ks
 ln:∀ (i:Nat) v,us[i]? = some v->(ρ v).w = "line"->(∃ (j:Nat) (r:Str × Nat × Int) (sh lo hi:Int),rk[j]? = some r/\r.1=(ρ v).nm/\(ρ v).rest=[.int sh,.int lo,.int hi])/\∃ u∈us.take i,G5 (ρ u).w=true
 st:∀ v∈us,(ρ v).w = "step"->∃ ts:List Str,V.str (ρ v).nm::(ρ v).rest=ts.map V.str/\ts.length<=24/\∀ t∈ts,t∈ks.map (·.nm)
 b0:1<=bs.length
 b5:bs.length<=5
 sz:∀ b∈bs,b.2<=61
 nr:rk.length<=12
 nz:∀ r∈rk,r.2.1<=97
 nk:ks.length<=100
 nb:(bs.map (·.1)).Nodup
 nrr:(rk.map (·.1)).Nodup
 nn:(ks.map (·.nm)).Nodup
 len:us.length<=150
 ok:∀ (i:Nat) v,us[i]? = some v->Gh K aB aP aM ρ (us.take i) (ρ v)
structure Jk (C:Addr) (H:Hp) (x:Addr) (us:List V) (bs:List (Str × Nat)) (rk:List (Str × Nat × Int)) (ks:List R) (ls:List (List Ln)) (sts:List Nat):Prop where
 o:Do C H x bs rk ks ls
 m:∃ (dx:Addr) (fs:List (Str × V)) (rl kd ss:Addr) (kvs:List (Key × V)),H x=some (.ins C dx fs)/\fs.lookup ("row_list" : Str)=some (.ref rl)/\fs.lookup ("knob_numbers" : Str)=some (.ref kd)/\fs.lookup ("step_sets" : Str)=some (.ref ss) /\
  H rl=some (.lst us)/\H kd=some (.dK kvs)/\(∀ (i:Nat) t,(ks.map (·.nm))[i]? = some t->Bx kvs (Sum.inr t)=some (.int (i:Nat)))/\(∀ t,t ∉ ks.map (·.nm)->Bx kvs (Sum.inr t)=none)/\H ss=some (.lst (sts.map fun n:Nat=>V.int (n:Int))) /\
  ∃ (bn:Addr) (kb:List (Key × V)),fs.lookup ("board_numbers" : Str)=some (.ref bn)/\H bn=some (.dK kb)/\∀ t,t ∉ bs.map (·.1)->Bx kb (Sum.inr t)=none
theorem Jk.mono {C:Addr} {H H':Hp} {x:Addr} {us:List V} {bs:List (Str × Nat)} {rk:List (Str × Nat × Int)} {ks:List R} {ls:List (List Ln)} {sts:List Nat} (s:Ak H H') (h:Jk C H x us bs rk ks ls sts):Jk C H' x us bs rk ks ls sts:=by
 obtain ⟨o,dx,fs,rl,kd,ss,kvs,h1,l1,l2,l3,h2,h3,h4,h5,h6,bn,kb,h7,h8,h9⟩:=h
 exact ⟨o.mono s,dx,fs,rl,kd,ss,kvs,s _ _ h1,l1,l2,l3,s _ _ h2,s _ _ h3,h4,h5,s _ _ h6,bn,kb,h7,s _ _ h8,h9⟩
noncomputable def Dj (p:Addr) (H:Hp) (D:Addr) (ls:List (List Ln)):Prop:=∃ lv,H D=some (.lst lv)/\D ≠ p/\Paired (fun l v=>Gm H l v/\v ≠ .ref p) ls lv
theorem Dj.mono {p:Addr} {H H':Hp} {D:Addr} {ls:List (List Ln)} (s:Ak H H') (h:Dj p H D ls):Dj p H' D ls:=by
 obtain ⟨lv,h1,h2,h3⟩:=h
 exact ⟨lv,s _ _ h1,h2,Paired.Jd h3 fun _ _ q=>⟨q.1.mono s,q.2⟩⟩
theorem Dj.sx {p x C dx:Addr} {fs:List (Str × V)} {H H':Hp} {D:Addr} {ls:List (List Ln)} (h:Dj p H D ls) (s:SX x H H') (hx:H x=some (.ins C dx fs)):Dj p H' D ls:=by
 obtain ⟨lv,h1,h2,h3⟩:=h
 refine ⟨lv,s.lst hx h1,h2,Paired.Jd h3 fun _ _ q=>⟨?_,q.2⟩⟩
 obtain ⟨A,ts,e,h4,h5⟩:=q.1
 exact ⟨A,ts,e,s.lst hx h4,s.pair hx h5⟩
theorem RN {p:Addr} {H H':Hp} {us zs:List V} {y:V} (s:SX p H H') (hp:H p=some (.lst us)) (h:TupAt H zs y):TupAt H' zs y:=by
 obtain ⟨T,rfl,e⟩:=h
 exact ⟨T,rfl,s _ _ e fun z=>by rw [z,hp] at e; cases e⟩
theorem Hi {α:Type} {f:α->List V} {p:Addr} {H H':Hp} {us vs:List V} {l:List α} (s:SX p H H') (hp:H p=some (.lst us)) (h:Paired (fun a y=>TupAt H (f a) y) l vs):Paired (fun a y=>TupAt H' (f a) y) l vs:=Paired.Jd h fun _ _ q=>RN s hp q
theorem Oh {p a:Addr} {H H':Hp} {us:List V} {kvs:List (Key × V)} (s:SX p H H') (hp:H p=some (.lst us)) (h:H a=some (.dK kvs)):H' a=some (.dK kvs):=s _ _ h fun z=>by rw [z,hp] at h; cases h
theorem Dj.sp {p:Addr} {H H':Hp} {us:List V} {D:Addr} {ls:List (List Ln)} (h:Dj p H D ls) (s:SX p H H') (hp:H p=some (.lst us)):Hl H' D ls:=by
 obtain ⟨lv,h1,h2,h3⟩:=h
 refine ⟨lv,s _ _ h1 h2,Paired.Jd h3 fun _ v q=>?_⟩
 obtain ⟨⟨A,ts,rfl,h4,h5⟩,hn⟩:=q
 exact ⟨A,ts,rfl,s _ _ h4 (fun z=>hn (by rw [z])),Hi s hp h5⟩
end Og
namespace L2
open PySem PySem.Spec PyProof.Rows
noncomputable def Dp:Nat->Hp->V->V->Prop
 | 0,_,x,y=>x=y/\GC x=true
 | n+1,H,x,y=>(x=y/\GC x=true) \/ ∃ a b xs ys,x=V.ref a/\y=V.ref b/\((H a=some (.lst xs)/\H b=some (.lst ys)) \/ (H a=some (.tup xs)/\H b=some (.tup ys)))/\Paired (Dp n H) xs ys
theorem Dy {R:V->V->Prop}:∀ {xs ys:List V},Paired R xs ys->∀ j,j<xs.length->R (xs.getD j .non) (ys.getD j .non)
 | _,_,.nil,j,h=>absurd h (Nat.not_lt_zero _)
 | _,_,.cons a b,0,_=>a
 | _,_,.cons a b,j+1,h=>Dy b j (Nat.lt_of_succ_lt_succ h)
section
variable {X:Cx} {pins:List (Addr × Obj)} {σ:St} {H:Hp} {s:Shared}
theorem JD (I:Inv X pins σ H s):∀ (n:Nat) (A:Around) (x y:V) (u v:Value),A.units+n<cLine->Dp n H x y->RelV x u->RelV y v->SeqAt.EqAt A s u v true
 | 0,A,x,y,u,v,hu,h,rx,ry=>by
  obtain ⟨rfl,hf⟩:=h
  have:=M9 (A:=A) (s:=s) rx ry hf hf
  rw [La hf] at this
  exact this
 | n+1,A,x,y,u,v,hu,h,rx,ry=>by
  rcases h with ⟨rfl,hf⟩ | ⟨a,b,xs,ys,rfl,rfl,hab,p⟩
  ·have:=M9 (A:=A) (s:=s) rx ry hf hf
   rw [La hf] at this
   exact this
  ·cases rx
   cases ry
   by_cases hne:a=b
   ·subst hne
    exact SeqAt.EqAt.same _
   ·refine SeqAt.EqAt.of_refs hne ?_
    have pl:=p.length
    rcases hab with ⟨ha,hb⟩ | ⟨ha,hb⟩
    ·obtain ⟨i1,r1,p1,_⟩:=I.list (show Cu X.K H a xs from .inl (.inl ha))
     obtain ⟨i2,r2,p2,_⟩:=I.list (show Cu X.K H b ys from .inl (.inl hb))
     have l1:=r1.length
     have l2:=r2.length
     have h:=SeqAt.RcAt.lists (A:=A) (e:=fun _=>true) p1.isList p2.isList (by simp; omega) (by omega) (fun j h1 h2=>by
      have h1':j<i1.length:=by simpa using h1
      have h2':j<i2.length:=by simpa using h2
      simp only [List.getElem_toArray]
      exact JD I n A.in1 _ _ _ _ (by show A.units+1+n<cLine; omega) (Dy p j (by omega)) (GP r1 h1') (GP r2 h2'))
     have e:((List.range i1.toArray.size).all fun _=>true)=true:=List.all_eq_true.mpr fun _ _=>rfl
     rw [e] at h
     exact h
    ·obtain ⟨i1,r1,p1,_⟩:=I.tuple (show GD X.K H a xs from .inl (.inl ha))
     obtain ⟨i2,r2,p2,_⟩:=I.tuple (show GD X.K H b ys from .inl (.inl hb))
     have l1:=r1.length
     have l2:=r2.length
     have h:=SeqAt.RcAt.tuples (A:=A) (e:=fun _=>true) p1 p2 (by omega) (fun j h1 h2=>by
      have h1':j<i1.length:=by simpa using h1
      have h2':j<i2.length:=by simpa using h2
      simp only [List.getElem_toArray]
      exact JD I n A.in1 _ _ _ _ (by show A.units+1+n<cLine; omega) (Dy p j (by omega)) (GP r1 h1') (GP r2 h2'))
     have e:((List.range (min i1.toArray.size i2.toArray.size)).all fun _=>true)=true:=List.all_eq_true.mpr fun _ _=>rfl
     have e2:(i1.toArray.size == i2.toArray.size)=true:=beq_iff_eq.mpr (by simp; omega)
     rw [e,e2] at h
     exact h
end
section
variable {X:Cx}
theorem LR (n:Nat) (hu:X.A.units+(n+1)<cLine):GF X (compareOp .Eq) (fun x y H Q=>∃ a b,x=V.ref a/\y=V.ref b/\Dp (n+1) H x y/\Q (.bl true) H):=by
 intro pins s σ H x y v u Q I rx ry h
 obtain ⟨a,b,rfl,rfl,h,k⟩:=h
 rcases h with ⟨_,hf⟩ | ⟨a',b',xs,ys,ea,eb,hab,p⟩
 ·cases hf
 cases ea
 cases eb
 cases rx
 cases ry
 have pl:=p.length
 rcases hab with ⟨ha,hb⟩ | ⟨ha,hb⟩
 ·obtain ⟨i1,r1,p1,_⟩:=I.list (show Cu X.K H a xs from .inl (.inl ha))
  obtain ⟨i2,r2,p2,_⟩:=I.list (show Cu X.K H b ys from .inl (.inl hb))
  have l1:=r1.length
  have l2:=r2.length
  refine SeqAt.eq_listAt (e:=fun _=>true) p1.isList p2.isList (by simp; omega) (by omega) (fun j h1 h2=>by
   have h1':j<i1.length:=by simpa using h1
   have h2':j<i2.length:=by simpa using h2
   simp only [List.getElem_toArray]
   exact JD I n X.A.in1 _ _ _ _ (by show X.A.units+1+n<cLine; omega) (Dy p j (by omega)) (GP r1 h1') (GP r2 h2')) ⟨.bl true,H,I,?_,k⟩
  have e:((List.range i1.toArray.size).all fun _=>true)=true:=List.all_eq_true.mpr fun _ _=>rfl
  rw [e]
  exact rfl
 ·obtain ⟨i1,r1,p1,_⟩:=I.tuple (show GD X.K H a xs from .inl (.inl ha))
  obtain ⟨i2,r2,p2,_⟩:=I.tuple (show GD X.K H b ys from .inl (.inl hb))
  have l1:=r1.length
  have l2:=r2.length
  refine SeqAt.eq_tupleAt (e:=fun _=>true) p1 p2 (by omega) (fun j h1 h2=>by
   have h1':j<i1.length:=by simpa using h1
   have h2':j<i2.length:=by simpa using h2
   simp only [List.getElem_toArray]
   exact JD I n X.A.in1 _ _ _ _ (by show X.A.units+1+n<cLine; omega) (Dy p j (by omega)) (GP r1 h1') (GP r2 h2')) ⟨.bl true,H,I,?_,k⟩
  have e:((List.range (min i1.toArray.size i2.toArray.size)).all fun _=>true)=true:=List.all_eq_true.mpr fun _ _=>rfl
  have e2:(i1.toArray.size == i2.toArray.size)=true:=beq_iff_eq.mpr (by simp; omega)
  rw [e,e2]
  exact rfl
end
end L2
namespace L2
open PySem PySem.Spec PySem.Calls PyProof.Rows
noncomputable def Xf (h:Heap) (x T C:Addr) (od:Option Addr) (fl:Value):Prop :=
 ∃ (vs ts:Array Value) (sl:Array (Option Value)) (oT:Obj),h.get? x=some ⟨.ref C,od,.fields vs,sl⟩/\vs[1]? = some (.ref T)/\T ≠ x/\h.get? T=some oT/\oT.data=.fields ts/\ts[3]? = some fl
structure Mv (fs:List Addr) (x T:Addr) (h h':Heap):Prop where
 keep:∀ b o,h.get? b=some o->b ≠ x->b ≠ T->b ∉ fs->h'.get? b=some o
 any:∀ b o,h.get? b=some o->b ≠ x->b ≠ T->∃ sl,h'.get? b=some { o with slots:=sl }
section
variable {M:Model} {A:Around} {E:Value->Shared->Prop} {s:Shared} {base:Heap} {env:Env} {outer:List Env} {L x T C:Addr} {od:Option Addr} {Q:Unit->Shared->Prop}
theorem Jr {vs:Array Value} {sl:Array (Option Value)} {head:Value} {hadNext:Bool} (hfr:A.frames=some (env::outer)) (hl:s.heap.FunFrames base (env::outer)) (hf:env.frame=some L)
  (he:s.heap.get? x=some ⟨.ref C,od,.fields vs,sl⟩) (hsz:1<vs.size)
  (h:∀ h' T',Xf h' x T' C od (rawInt L)->Mv (frs (env::outer)) x x s.heap h'->s.heap.get? T'=none->Q () { s with heap:=h' }) :
  wpAny M A (do let a ← frameOf env; let pl ← entryPlaceOf L hadNext; let b ← EntryCells.newEntry head a .none (rawInt L) .none pl; setField (.ref x) 1 b) Q E s:=by
 have hene:x ∉ (env::outer).filterMap (·.frame):=fun hm=>by
  obtain ⟨_,o,ho,hnf⟩:=hl.mem hm
  rw [he] at ho; injection ho with ho; subst ho; exact hnf vs rfl
 refine wpAny_bind (wpAny_frameOf_fun hfr hl hf fun h₁ hs₁=>?_)
 refine wpAny_bind (wpAny_entryPlaceOf fun pl hpl=>?_)
 unfold EntryCells.newEntry newFields
 refine wpAny_bind (wpAny_newObj_type ?_ (hpl.sizeOk5 _ _ _ _ _))
 have he₁:h₁.get? x=some ⟨.ref C,od,.fields vs,sl⟩:=(hs₁.2.1 x hene).trans he
 have he₂:=Heap.get?_push_of_some (h:=h₁) { cls:=.type "traceback",dict:=none,data:=.fields ([head,.ref L,.none,rawInt L,.none]++(if pl.isEmpty then List.replicate 6 Value.none else pl)).toArray } he₁
 refine wpAny_setField he₂ rfl hsz ?_
 have hTe:h₁.objs.size ≠ x:=Nat.ne_of_gt (Heap.lt_size he₁)
 have hd₃:=Obj.data_mapFields (o:=⟨.ref C,od,.fields vs,sl⟩) rfl (·.setIfInBounds 1 (Value.ref h₁.objs.size))
 have he₃:=Heap.get?_update_self (Obj.mapFields (·.setIfInBounds 1 (Value.ref h₁.objs.size))) he₂ (Obj.isFreed_of_fields hd₃)
 have hT₃:=(Heap.get?_update_other (h₁.push { cls:=.type "traceback",dict:=none,data:=.fields ([head,.ref L,.none,rawInt L,.none]++(if pl.isEmpty then List.replicate 6 Value.none else pl)).toArray })
  (Obj.mapFields (·.setIfInBounds 1 (Value.ref h₁.objs.size))) (Ne.symm hTe)).trans (Heap.get?_push_size h₁ rfl)
 refine h _ h₁.objs.size ⟨_,_,sl,_,he₃,by simp [hsz],hTe,hT₃,rfl,by first | (simp; done) | (rcases hpl with rfl | ⟨_,_,_,_,_,_,_,rfl⟩ <;> simp)⟩ ⟨fun b o hb hx _ hn=>?_,fun b o hb hx _=>?_⟩ ?_
 ·rw [Heap.get?_update_other _ _ (Ne.symm hx)]
  exact Heap.get?_push_of_some _ ((hs₁.2.1 b hn).trans hb)
 ·obtain ⟨sl',hs⟩:=hs₁.2.2 b o hb
  rw [Heap.get?_update_other _ _ (Ne.symm hx)]
  exact ⟨sl',Heap.get?_push_of_some _ hs⟩
 ·refine Heap.get?_none_of_le ?_
  rw [hs₁.1]
  exact Nat.le_refl _
theorem Nx {vs:Array Value} {sl:Array (Option Value)} (hfr:A.frames=some (env::outer)) (hl:s.heap.FunFrames base (env::outer)) (hf:env.frame=some L)
  (he:s.heap.get? x=some ⟨.ref C,od,.fields vs,sl⟩) (h1:vs[1]? = some .none)
  (h:∀ h' T',Xf h' x T' C od (rawInt L)->Mv (frs (env::outer)) x x s.heap h'->s.heap.get? T'=none->Q () { s with heap:=h' }):wpAny M A (noteFrame (.ref x) env) Q E s:=by
 unfold noteFrame
 simp only [hf]
 refine wpAny_bind (wpAny_field he rfl h1 ?_)
 rw [if_neg (by decide)]
 exact Jr hfr hl hf he (Array.getElem?_eq_some_iff.mp h1).1 h
theorem PK (hfr:A.frames=some (env::outer)) (hl:s.heap.FunFrames base (env::outer)) (hf:env.frame=some L) (hy:Xf s.heap x T C od .none)
  (h:∀ h' T',Xf h' x T' C od (rawInt L)->Mv (frs (env::outer)) x T s.heap h'->s.heap.get? T'=none->Q () { s with heap:=h' }):wpAny M A (noteFrame (.ref x) env) Q E s:=by
 obtain ⟨vs,ts,sl,oT,he,h1,hTe,hT,hdT,h3⟩:=hy
 have hsz3:=(Array.getElem?_eq_some_iff.mp h3).1
 unfold noteFrame
 simp only [hf]
 refine wpAny_bind (wpAny_field he rfl h1 ?_)
 rw [if_pos (show (Value.ref T != Value.none)=true from by simp)]
 refine wpAny_bind (wpAny_field hT hdT h3 ?_)
 rw [if_neg (show ¬ ((Value.none == rawInt L)=true) from by simp [rawInt])]
 refine wpAny_bind (wpAny_setField hT hdT hsz3 ?_)
 have other:∀ b,b ≠ T->(s.heap.update T (Obj.mapFields (·.setIfInBounds 3 Value.none))).get? b=s.heap.get? b:=fun b hb=>Heap.get?_update_other _ _ (Ne.symm hb)
 have hTn:=Heap.get?_update_self (Obj.mapFields (·.setIfInBounds 3 Value.none)) hT (Obj.isFreed_of_fields (Obj.data_mapFields hdT _))
 have noRecord:∀ b o,s.heap.get? b=some o->(∀ vs,o.data ≠ .fields vs)->b ≠ T:=fun b o hb hnf q=>by
  rw [q,hT] at hb; injection hb with hb; subst hb; exact hnf ts hdT
 refine Jr (s:={ s with heap:=s.heap.update T (Obj.mapFields (·.setIfInBounds 3 Value.none)) }) hfr (hl.of_keeps fun b o hb hnf=>⟨o,(other b (noRecord b o hb hnf)).trans hb,rfl⟩) hf ((other x (Ne.symm hTe)).trans he) (Array.getElem?_eq_some_iff.mp h1).1 fun h' T' y m n=>?_
 have nT:T' ≠ T:=fun z=>by
  subst z
  have n':(s.heap.update T' (Obj.mapFields (·.setIfInBounds 3 Value.none))).get? T'=none:=n
  rw [hTn] at n'; cases n'
 exact h h' T' y ⟨fun b o hb hx ht hn=>m.keep b o ((other b ht).trans hb) hx hx hn,fun b o hb hx ht=>m.any b o ((other b ht).trans hb) hx hx⟩ ((other T' nT).symm.trans n)
theorem Ey {fl:Value} (hy:Xf s.heap x T C od fl) (h:∀ h',Xf h' x T C od .none->Mv [] x T s.heap h'->Q () { s with heap:=h' }):wpAny M A (setFlight (.ref x) none) Q E s:=by
 obtain ⟨vs,ts,sl,oT,he,h1,hTe,hT,hdT,h3⟩:=hy
 have hsz3:3<ts.size:=(Array.getElem?_eq_some_iff.mp h3).1
 have other:∀ b,b ≠ T->(s.heap.update T (Obj.mapFields (·.setIfInBounds 3 ((none:Option Addr).elim Value.none fun f=>rawInt f)))).get? b=s.heap.get? b :=
  fun b hb=>Heap.get?_update_other _ _ (Ne.symm hb)
 unfold setFlight
 refine wpAny_bind (wpAny_field he rfl h1 ?_)
 rw [if_pos (show (Value.ref T != Value.none)=true from by simp)]
 refine wpAny_setField hT hdT hsz3 (h _ ?_ ⟨fun b o hb _ ht _=>(other b ht).trans hb,fun b o hb _ ht=>⟨o.slots,(other b ht).trans hb⟩⟩)
 exact ⟨vs,_,sl,_,(other x (Ne.symm hTe)).trans he,h1,hTe,Heap.get?_update_self _ hT (Obj.isFreed_of_fields (Obj.data_mapFields hdT _)),Obj.data_mapFields hdT _,by simp [hsz3]⟩
end
section
variable {P:Program} {w:World} {fs:List Addr} {H H':Hp} {h h1 h2 h3:Heap} {x T T':Addr}
theorem S9 {h:Heap} {b y:Addr} {o:Obj} (e:h.get? b=some o) (n:h.get? y=none):b ≠ y:=fun z=>by
 rw [z,n] at e
 cases e
theorem Ex.mv (k:Ex P w H h) (m:Mv fs x T h h1) (hx:H x=none) (hT:H T=none) (hf:∀ b∈fs,H b=none):Ex P w H h1:=fun b u e=>by
 have ne:∀ c,H c ≠ none->c ≠ x/\c ≠ T/\c ∉ fs:=fun c q=>⟨fun z=>q (z ▸ hx),fun z=>q (z ▸ hT),fun z=>q (hf c z)⟩
 refine (k b u e).stay (fun c v hc q=>?_) (fun _ q=>q) fun _ _ q=>q
 have hq:H c ≠ none:=by
  rcases hc with z | z
  ·rw [z,e]; simp
  ·rw [z]; simp
 obtain ⟨a1,a2,a3⟩:=ne c hq
 exact m.keep c v q a1 a2 a3
theorem Un.mv {gs:List Addr} (u:Un gs [] H H' h h1) (m:Mv fs x T h1 h2) (hx:h.get? x=none) (hT:h.get? T=none) (hf:∀ b∈fs,b ∉ gs->h.get? b=none):Un gs [] H H' h h2:=by
 have ne:∀ b o,h.get? b=some o->b ≠ x/\b ≠ T:=fun b o e=>⟨S9 e hx,S9 e hT⟩
 refine ⟨fun b o e n hb hx'=>?_,fun b o e n hb hx'=>?_,u.free,fun b o e hx'=>?_,u.tups,u.frzs,u.tbls⟩
 ·obtain ⟨a1,a2⟩:=ne b o e
  refine m.keep b o (u.keep b o e n hb hx') a1 a2 fun z=>?_
  have:=hf b z hb
  rw [e] at this; cases this
 ·obtain ⟨a1,a2⟩:=ne b o e
  obtain ⟨sl,e1⟩:=u.slot b o e n hb hx'
  obtain ⟨sl',e2⟩:=m.any b _ e1 a1 a2
  exact ⟨sl',e2⟩
 ·obtain ⟨a1,a2⟩:=ne b o e
  obtain ⟨o',e1⟩:=u.there b o e hx'
  obtain ⟨sl,e2⟩:=m.any b o' e1 a1 a2
  exact ⟨_,e2⟩
end
noncomputable def Ow (P:Program) (w:World):O9:=fun outer H s E e s'=>∃ (x T C:Addr) (od:Option Addr) (H':Hp),e=.ref x/\s'.os=s.os/\AllBare s'.gens/\Xf s'.heap x T C od .none/\s.heap.get? x=none/\s.heap.get? T=none /\
 H' x=none/\H' T=none/\Ex P w H' s'.heap/\Un (frs outer) [] H H' s.heap s'.heap/\E (.ref C) od H'
noncomputable def cI (X:Cx) (C:Addr) (E:XK):Prop:=∀ (pins:List (Addr × Obj)) (σ:St) (H:Hp) (s:Shared) (h':Heap) (x:Addr) (as:List Value),Inv X pins σ H s->Heap.MadeExcOf s.heap h' x (.ref C) as->E (.ref C) none H->X.xe (.ref x) { s with heap:=h' }
theorem U0 {P:Program} {w:World} {K:PySem.W.Frag} {mg:Str->Option Value} {base:Heap} {N:List Str} {qual:Str} {scope:Scope} {f:Addr} {cd:Value} {A:Around} {outer:List Env} {s:Shared} {H:Hp} {E:XK} {C:Addr} :
  cI (K7 (Ow P w) P w K mg base N qual scope f cd A outer s H E) C E:=by
 intro pins σ H1 s1 h' x as I hm q
 obtain ⟨t,he,htn,ht⟩:=hm.there
 have gone:∀ b,s1.heap.get? b=none->s.heap.get? b=none:=fun b e=>by
  cases z:s.heap.get? b with
  | none=>rfl
  | some o =>
   obtain ⟨o',e'⟩:=I.base.there b o z (by show b ∉ ([]:List Addr); simp)
   rw [e] at e'; cases e'
 have hx1:H1 x=none:=I.hok.none_of hm.new
 have frees:∀ b∈frs (envOfC qual scope s.heap.objs.size f cd::outer),H1 b=none:=I.Gx
 have hfr:(A.deeper (envOfC qual scope s.heap.objs.size f cd)).frames=some (envOfC qual scope s.heap.objs.size f cd::outer):=I.ok.frames
 have hff:s1.heap.FunFrames base (envOfC qual scope s.heap.objs.size f cd::outer):=I.stack
 have u0:Un (frs outer) [] H H1 s.heap s1.heap:=I.base
 have hok1:Ex P w H1 s1.heap:=I.hok
 have fsN:∀ b∈frs (envOfC qual scope s.heap.objs.size f cd::outer),b ∉ frs outer->s.heap.get? b=none:=fun b hb hn=>by
  rcases List.mem_cons.mp (show b∈s.heap.objs.size::frs outer from hb) with z | z
  ·rw [z]; exact Heap.get?_none_of_le (Nat.le_refl _)
  ·exact absurd z hn
 show wpAny (model P w) (A.deeper (envOfC qual scope s.heap.objs.size f cd)) (leaving (envOfC qual scope s.heap.objs.size f cd) (.ref x)) _ _ _
 unfold leaving
 refine wpAny_bind (Nx (s:={ s1 with heap:=h' }) (L:=s.heap.objs.size) hfr (hff.of_keeps fun b o hb _=>⟨o,hm.keeps b o hb,rfl⟩) rfl he rfl fun h2 T y m n=>?_)
 refine Ey (s:={ s1 with heap:=h2 }) y fun h3 y3 m3=>?_
 have nT1:s1.heap.get? T=none:=by
  cases z:s1.heap.get? T with
  | none=>rfl
  | some o =>
   have n':h'.get? T=none:=n
   rw [hm.keeps T o z] at n'; cases n'
 have hT1:H1 T=none:=hok1.none_of nT1
 have hokA:Ex P w H1 h':=hok1.kept hm.keeps
 have hokB:Ex P w H1 h2:=hokA.mv m hx1 hx1 frees
 have hokC:Ex P w H1 h3:=hokB.mv m3 hx1 hT1 (fun _ z=>nomatch z)
 have uA:Un (frs outer) [] H H1 s.heap h':=u0.trans (Un.kept hm.keeps)
 have uB:Un (frs outer) [] H H1 s.heap h2:=uA.mv m (gone x hm.new) (gone x hm.new) fsN
 have uC:Un (frs outer) [] H H1 s.heap h3:=uB.mv m3 (gone x hm.new) (gone T nT1) (fun _ z=>nomatch z)
 exact ⟨x,T,C,none,H1,rfl,I.os,I.bare,y3,gone x hm.new,gone T nT1,hx1,hT1,hokC,uC,q⟩
section
variable {X:Cx} {C:Addr} {x:Str} {e:Expr} {es:List Expr} {t:TA} {np cpos pos:Pos} {E:XK}
noncomputable def We (C:Addr) (E:XK) (t:TA):TS:=fun _ σ H=>t σ H fun vs H1=>vs.length<=1000/\E (.ref C) none H1
theorem RJ (q:PySem.W.excIn X.K C Uy "ValueError.__new__" = true) (hg:Gl X x) (hm:X.mg x=some (.ref C)) (hc:X.calm=true) (hl:cI X C E) (ha:PA X (e::es) t)
  (hdb:(x == ("__debug__" : Str))=false:=by decide) (he:starEach (e::es) X.env=(false,eval e X.env)::starEach es X.env:=by rfl) (hpl:(backTo cpos (starEach es X.env)).any (·.1)=false:=by rfl) :
  PS X (.Raise (some (.Call (.Name x np) (e::es) [] cpos)) none pos) (We C E t):=by
 intro pins s σ H D I h
 obtain ⟨bm,N,nm,qn,bs,hdct,sn,sub,ab,col,dd,k0,k1,k2,k3,k5,mN,hC,hN,hni,TL⟩:=O3 I.ok.mod.kin q
 have hplain:(backTo cpos (starEach (e::es) X.env)).any (·.1)=false:=by
  rw [he]
  show (false || (backTo cpos (starEach es X.env)).any (·.1))=false
  rw [hpl]; rfl
 refine wpAny_Raise_call_subU (nm:=nm) (q:=qn) (C:=C) (N:=N) (bs:=bs) (bm:=bm) (hdct:=hdct) (sn:=sn) (sub:=sub) (ab:=ab) (col:=col) (dd:=dd) (k0:=k0) (k1:=k1) (k2:=k2) (k3:=k3) (k5:=k5) (mN:=mN)
  PySem.F.excBase_ValueError (by decide) PySem.F.excBase_ValueError (TL.hasType (by decide)) (I.ok.hd hc) hplain hni (Hs I hg hm ⟨rfl,?_⟩ hdb)
 have:=ha cpos pins s σ H _ I h
 rw [he] at this ⊢
 refine Calls.evalArgs_plain (Br this fun us s1 ⟨vs,H1,I1,r,hz,q1⟩=>⟨rfl,?_,I1.bk _ _ hC,hN.keeps I1.bk,TL.keeps I1.bk,fun h' x hm'=>?_⟩)
 ·show us.length<=sizeLine
  rw [← r.length]
  exact Nat.le_of_lt (BK hz)
 ·exact hl pins σ H1 s1 h' x _ I1 hm' q1
end
theorem MP {prog:Program} {w:World} {A:Around} {E:Value->Shared->Prop} {s:Shared} {K:PySem.W.Frag} {x C O:Addr} {od:Option Addr} {d:Data} {sl:Array (Option Value)} {b:Bool} {Q:Bool->Shared->Prop}
  (X:K.In s.heap) (he:s.heap.get? x=some ⟨.ref C,od,d,sl⟩) (q:PySem.W.excIn K O Uy "ValueError.__new__" = true) (hm:PySem.W.mroIn K C (.ref O)=some b) (h:Q b s):wpAny (model prog w) A (excMatches (.ref x) (.ref O)) Q E s:=by
 obtain ⟨bm,N,nm,qn,bs,hdct,sn,sub,ab,col,dd,k0,k1,k2,k3,k5,mN,hC,hN,hni,TL⟩:=O3 X q
 have hbase:bm.contains (.type "BaseException")=true:=TL.hasType (by decide)
 have hcB:(Value.ref O::bm).contains (.type "BaseException")=true:=by rw [List.contains_cons,hbase,Bool.or_true]
 have L:=PySem.W.looks_mroIn (M:=model prog w) X hm
 have f:=tc_notTuple
 obtain ⟨hp,g,dr,tk,os⟩:=s
 unfold excMatches
 repeat (first | with_reducible refine wpAny_loadPart_at he ?_ | with_reducible refine wpAny_loadPart_at hC ?_ | (with_reducible refine wpAny_isSubtype_exc hC ?_; rw [hcB]) | with_reducible refine L.at ?_ | wp_step)
 cases b <;> (wp_walk; exact h)
noncomputable abbrev Cx.inX (X:Cx) (x:Addr):Cx:={ X with A:=X.A.mark (some (.ref x)),calm:=false }
section
variable {X:Cx} {pins:List (Addr × Obj)} {σ:St} {H:Hp} {s:Shared}
theorem Inv.inX (I:Inv X pins σ H s) (x:Addr):Inv (X.inX x) pins σ H s :=
 ⟨⟨I.ok.mod,I.ok.kind,I.ok.glob,I.ok.blt,I.ok.above,I.ok.inj,I.ok.has,I.ok.cab,(fun z=>nomatch z),I.ok.frames,I.ok.stk,I.ok.exf,I.ok.bs,I.ok.bsz,I.ok.noex,I.ok.exfs,I.ok.Ib,I.ok.frf⟩,
  I.os,I.bare,I.base,I.loc,I.cell,I.free,I.freeC,I.pin,I.hok,I.len⟩
theorem Inv.UL {x:Addr} (ok:X.Ok) (I:Inv (X.inX x) pins σ H s):Inv X pins σ H s:=⟨ok,I.os,I.bare,I.base,I.loc,I.cell,I.free,I.freeC,I.pin,I.hok,I.len⟩
end
noncomputable def Ends.drop (D:Ends) (i:Nat):Ends:={ nx:=fun σ H=>D.nx (σ.set i none) H,rt:=D.rt,bk:=fun σ H=>D.bk (σ.set i none) H,ct:=fun σ H=>D.ct (σ.set i none) H }
section
variable {X:Cx} {k i:Nat} {f O:Addr} {fd:FuncData} {ps:List Str} {sp:Sp} {dvs:List V} {ds:List Value} {fx cn n:Str} {p np cpos epos hpos pos:Pos} {e:Expr} {es:List Expr} {t:TA} {b0:Stmt} {suite:List Stmt} {ts:TS}
end
structure Zw (k:Nat) (A:Around):Prop where
 dp:A.depth+3 * k+5<recursionLimit
 un:A.units+16 * k+200<cLine
structure nq (P:Program) (w:World) (K:PySem.W.Frag) (mg:Str->Option Value) (base:Heap) (CX:O9) (k:Nat) (f:Addr) (fd:FuncData) (ps:List Str) (sp:Sp):Prop where
 len:∀ vs H Q E,sp vs H Q E->vs.length=ps.length
 run:∀ (A:Around) (outer:List Env) (s:Shared) (H:Hp) (args:Args) (us:List Value) (vs:List V) (Q:VK) (E:XK),Zw k A->MT P w K mg base A outer s H->BindsTo s fd args (ps.zip us)->Vals vs us->sp vs H Q E ->
  codeAny (model P w) A (.call (.ref f) args) (CR CX outer P w H s Q E) s
section
variable {P:Program} {w:World} {K:PySem.W.Frag} {mg:Str->Option Value} {base:Heap}
theorem CQ.jN {x qual:Str} {st:Stmt} {f:Addr} {fd:FuncData} {N ps:List Str} {k:Nat} {sp:Sp} (F:CQ K x qual st f fd) (S:An N ps (Ac st)) (len:∀ vs H Q E,sp vs H Q E->vs.length=ps.length)
  (hbody:∀ (cdv:Value) (A:Around) (outer:List Env) (s:Shared) (H:Hp) (vs:List V) (Q:VK) (E:XK),A_ k (A.deeper (envOfC qual (Ac st) s.heap.objs.size f cdv))->sp vs H Q E ->
   ∃ t,Ny (K7 (Ow P w) P w K mg base N qual (Ac st) f cdv A outer s H E) (Dl st) t/\t { nx:=fun _ H'=>Q .non H',rt:=Q } (start N vs) H):Ao P w K mg base (Ow P w) (k+1) f fd ps sp:=by
 obtain ⟨oc,od,kV,doc,pm,an,cdv,ct,osl,rfl,lk,hcd⟩:=F.ex
 refine V7 lk hcd S len fun A outer s H vs Q E hr hsp=>?_
 obtain ⟨t,h,q⟩:=hbody cdv A outer s H vs Q E hr hsp
 exact ⟨t,h,q⟩
end
section
variable {X:Cx} {CX:O9} {k:Nat} {f:Addr} {fd:FuncData} {ps:List Str} {sp:Sp} {dvs:List V} {ds:List Value} {E:XK} {x:Str} {p pos:Pos} {e:Expr} {es:List Expr} {t:TA}
end
end L2
namespace L2
open PySem PySem.Spec PySem.Calls PyProof.Rows
theorem Un.mG {fs gs:List Addr} {H H1 H2:Hp} {h h1 h2:Heap} (a:Un fs [] H H1 h h1) (b:Un gs [] H1 H2 h1 h2) (hs:∀ x∈gs,x∈fs \/ h.get? x=none):Un fs [] H H2 h h2 where
 keep:=fun c o q n hc hx=>by
  have hg:c ∉ gs:=fun z=>by
   rcases hs c z with e | e
   ·exact hc e
   ·rw [q] at e; cases e
  exact b.keep c o (a.keep c o q n hc hx) (a.free c o q n hx) hg hx
 slot:=fun c o q n hc hx=>by
  obtain ⟨sl,e⟩:=a.slot c o q n hc hx
  obtain ⟨sl',e'⟩:=b.any e (a.free c o q n hx) hx
  exact ⟨sl',e'⟩
 free:=fun c o q n hx=>by
  obtain ⟨o',e⟩:=a.there c o q hx
  exact b.free c o' e (a.free c o q n hx) hx
 there:=fun c o q hx=>by
  obtain ⟨o',e⟩:=a.there c o q hx
  exact b.there c o' e hx
 tups:=fun c xs q=>b.tups c xs (a.tups c xs q)
 frzs:=fun c o u q=>b.frzs c o u (a.frzs c o u q)
 tbls:=fun c ps q=>by
  obtain ⟨m1,e1⟩:=a.tbls c ps q
  obtain ⟨m2,e2⟩:=b.tbls c _ e1
  exact ⟨m1++m2,by rw [e2,Array.append_assoc]⟩
theorem Ob {P:Program} {w:World} {K:PySem.W.Frag} {mg:Str->Option Value} {base:Heap} {N:List Str} {qual:Str} {scope:Scope} {f:Addr} {cd:Value} {A:Around} {outer:List Env} {s:Shared} {H:Hp} {E:XK} :
  GQ (Ow P w) (K7 (Ow P w) P w K mg base N qual scope f cd A outer s H E) E:=by
 rintro pins σ H1 s1 e s' I ⟨x,T,C,od,H2,rfl,os,bare,y,nx,nT,hx2,hT2,hok2,un2,q⟩
 have gone:∀ b,s1.heap.get? b=none->s.heap.get? b=none:=fun b e=>by
  cases z:s.heap.get? b with
  | none=>rfl
  | some o =>
   obtain ⟨o',e'⟩:=I.base.there b o z (by show b ∉ ([]:List Addr); simp)
   rw [e] at e'; cases e'
 have os1:s1.os=s.os:=I.os
 obtain ⟨h1,g,dr,tk,os'⟩:=s'
 obtain rfl:os'=s1.os:=os
 have I2:=I.call (h':=h1) (g':=g) (d':=dr) (t':=tk) (ch:=[]) un2 hok2 bare (fun b z=>absurd z (by simp))
 have hfr:(A.deeper (envOfC qual scope s.heap.objs.size f cd)).frames=some (envOfC qual scope s.heap.objs.size f cd::outer):=I.ok.frames
 have hff:h1.FunFrames base (envOfC qual scope s.heap.objs.size f cd::outer):=I2.stack
 have frees:∀ b∈frs (envOfC qual scope s.heap.objs.size f cd::outer),H2 b=none:=I2.Gx
 have fsN:∀ b∈frs (envOfC qual scope s.heap.objs.size f cd::outer),b∈frs outer \/ s.heap.get? b=none:=fun b hb=>by
  rcases List.mem_cons.mp (show b∈s.heap.objs.size::frs outer from hb) with z | z
  ·rw [z]; exact .inr (Heap.get?_none_of_le (Nat.le_refl _))
  ·exact .inl z
 have u0:Un (frs outer) [] H H1 s.heap s1.heap:=I.base
 have u2:Un (frs outer) [] H H2 s.heap h1:=u0.mG (show Un (frs (envOfC qual scope s.heap.objs.size f cd::outer)) [] H1 H2 s1.heap h1 from un2) fsN
 show wpAny (model P w) (A.deeper (envOfC qual scope s.heap.objs.size f cd)) (leaving (envOfC qual scope s.heap.objs.size f cd) (.ref x)) _ _ _
 unfold leaving
 refine wpAny_bind (PK (s:=⟨h1,g,dr,tk,s1.os⟩) (L:=s.heap.objs.size) hfr hff rfl y fun h3 T3 y3 m3 n3=>?_)
 refine Ey (s:=⟨h3,g,dr,tk,s1.os⟩) y3 fun h4 y4 m4=>?_
 have nT3:s.heap.get? T3=none:=by
  cases z:s.heap.get? T3 with
  | none=>rfl
  | some o =>
   obtain ⟨o',e'⟩:=u2.there T3 o z (by simp)
   have n3':h1.get? T3=none:=n3
   rw [n3'] at e'; cases e'
 have hT3:H2 T3=none:=hok2.none_of n3
 have fs2:∀ b∈frs (envOfC qual scope s.heap.objs.size f cd::outer),b ∉ frs outer->s.heap.get? b=none:=fun b hb hn=>(fsN b hb).resolve_left hn
 have u3:=u2.mv m3 (gone x nx) (gone T nT) fs2
 have u4:=u3.mv m4 (gone x nx) nT3 (fun _ z=>nomatch z)
 have k3:Ex P w H2 h3:=Ex.mv (P:=P) (w:=w) hok2 m3 hx2 hT2 frees
 have k4:Ex P w H2 h4:=k3.mv m4 hx2 hT3 (fun _ z=>nomatch z)
 exact ⟨x,T3,C,od,H2,rfl,os1,bare,y4,gone x nx,nT3,hx2,hT3,k4,u4,q⟩
end L2
namespace L2
open PySem PySem.Spec PySem.Calls PyProof.Rows
noncomputable def ZV (td ty tv:TE):TS:=fun D σ H=>tv σ H fun v H1=>td σ H1 fun x H2=>ty σ H2 fun y H3=>∃ a xs,∃ k:Int,x=.ref a/\y=.int k/\H3 a=some (.lst xs)/\0<=k/\k<xs.length/\k<2 ^ 62/\D.nx σ (upd H3 a (.lst (xs.set k.toNat v)))
section
variable {X:Cx} {o i value:Expr} {td ty tv:TE} {pos pos':Pos}
theorem UV (ho:PE X o td) (hi:PE X i ty) (hv:PE X value tv) (hs:swapsWith value (some (.Subscript o i pos')) pos.line X.env=pure false):PS X (.Assign [.Subscript o i pos'] value pos) (ZV td ty tv):=by
 intro pins s σ H D I h
 refine wpAny_Assign_Subscript (Br (hv pins s σ H _ I h) fun r s1 ⟨v,H1,I1,rv,q1⟩=>Br (ho pins s1 σ H1 _ I1 q1) fun u s2 ⟨x,H2,I2,rx,q2⟩=>Br (hi pins s2 σ H2 _ I2 q2) fun iv s3 ⟨y,H3,I3,ry,a,xs,k,ex,ey,ha,k0,k1,k2,q3⟩=>?_) hs
 subst ex ey
 cases rx
 obtain ⟨t,rfl⟩:=ry
 obtain ⟨z,its,n,w,hl,e⟩:=I3.MF ha
 refine PySem.W.ki_setAt (n:=n) e k0 (by omega) (by rw [List.size_toArray]; omega) ⟨σ,_,I3.U6 (its':=its.set k.toNat r) (t':=s3.toks) ha e (by simp) (w.set rv _) (by rw [List.length_set]; exact z),q3⟩
end
section
variable {X:Cx} {k i:Nat} {f O:Addr} {fd:FuncData} {ps:List Str} {sp:Sp} {dvs:List V} {ds:List Value} {fx cn n:Str} {p np cpos epos hpos pos:Pos} {e:Expr} {es:List Expr} {t:TA} {b0:Stmt} {suite:List Stmt} {ts:TS}
end
end L2
namespace L2
open PySem PySem.Spec PySem.Calls PyProof.Rows
noncomputable abbrev XR:=Value->Option Addr->St->Hp->Prop
noncomputable def XT (X:Cx) (pins:List (Addr × Obj)) (ER:XR) (e:Value) (s':Shared):Prop:=∃ σ H1 s1,Inv X pins σ H1 s1/\Ow X.prog X.w X.stack H1 s1 (fun C od H2=>ER C od σ H2) e s'
noncomputable def oG (X:Cx) (ER:XR) (st:Stmt) (t:TS):Prop :=
 ∀ (pins:List (Addr × Obj)) (s:Shared) (σ:St) (H:Hp) (D:Ends),Inv X pins σ H s->t D σ H->wpAny (model X.prog X.w) X.A (exec st X.env) (SP X pins D) (XT X pins ER) s
noncomputable def cW (X:Cx) (ER:XR) (st:List Stmt) (t:TS):Prop :=
 ∀ (pins:List (Addr × Obj)) (s:Shared) (σ:St) (H:Hp) (D:Ends),Inv X pins σ H s->t D σ H->wpAny (model X.prog X.w) X.A (execs st X.env) (SP X pins D) (XT X pins ER) s
noncomputable def PET (X:Cx) (ER:XR) (e:Expr) (t:TE):Prop :=
 ∀ (pins:List (Addr × Obj)) (s:Shared) (σ:St) (H:Hp) (Q:VK),Inv X pins σ H s->t σ H Q->wpAny (model X.prog X.w) X.A (eval e X.env) (EP X pins σ Q) (XT X pins ER) s
section
variable {X:Cx} {ER:XR} {st:Stmt} {sts:List Stmt} {t u:TS} {pos:Pos}
theorem S7 (h1:oG X ER st t):cW X ER [st] t:=by
 intro pins s σ H D I h
 refine wpAny_execs_cons (Br (h1 pins s σ H D I h) fun f s1 q=>?_)
 cases f with
 | next=>exact wpAny_execs_nil q
 | brk=>exact q
 | cont=>exact q
 | ret u=>exact q
theorem Vm {i:Nat} {x:Str} {e:Expr} {te:TE} {pos':Pos} (hN:X.N.Nodup) (hi:X.N[i]? = some x) (hx:Loc X.env.scope x) (he:PET X ER e te) (hs:swapsWith e (some (.Name x pos')) pos.line X.env=pure false:=by rfl)
  (hf:X.fn x=true \/ X.env.scope.names.lookup x=some .local:=by first | exact .inl rfl | exact .inr rfl | assumption):oG X ER (.Assign [.Name x pos'] e pos) (Vl te (Cw i)):=by
 intro pins s σ H D I h
 refine wpAny_Assign_Name (Br (he pins s σ H _ I h) fun v s1 ⟨y,H1,I1,r1,q1⟩=>?_) hs
 exact HY I1 hN hi hx r1 (fun s2 I2=>⟨_,H1,I2,q1⟩) hf
end
section
variable {X:Cx} {ER:XR} {k:Nat} {f C:Addr} {fd:FuncData} {ps:List Str} {sp:Sp} {dvs:List V} {ds:List Value} {x m:Str} {p pos apos:Pos} {e o:Expr} {es:List Expr} {ta:TE} {t:TA}
noncomputable def W9 (C:Addr) (m:Str) (sp:Sp) (dvs:List V) (ER:XR) (ta:TE) (t:TA):TE:=fun σ H Q=>RK C m sp dvs (fun C od H2=>ER C od σ H2) ta t σ H Q
theorem Vk {pins:List (Addr × Obj)} {σ:St} {H:Hp} {s:Shared} {Q:VK} {us:List Value} {vs:List V} (F:Ao X.prog X.w X.K X.mg X.base (Ow X.prog X.w) k f fd ps sp) (hr:A_ k X.A) (hb:Binds X.K fd ps ds) (hd:Vals dvs ds)
  (I:Inv X pins σ H s) (r:Vals vs us) (h:sp (vs++dvs) H Q (fun C od H2=>ER C od σ H2)):wpAny (model X.prog X.w) X.A (call (.ref f) us) (EP X pins σ Q) (XT X pins ER) s:=by
 have r2:Vals (vs++dvs) (us++ds):=r.append hd
 have hl:(us++ds).length=ps.length:=by rw [← r2.length]; exact F.len _ _ _ _ h
 refine wpAny_call (codeAny_mono (F.run X.A X.stack s H ⟨us,[]⟩ (us++ds) (vs++dvs) Q _ hr I.env0 (hb s us I.Gw hl) r2 h) fun r s' hq=>?_)
 cases r with
 | error e=>exact ⟨σ,H,s,I,hq⟩
 | ok fl =>
  cases fl with
  | ret u=>exact I.after hq
  | next=>exact False.elim hq
  | brk=>exact False.elim hq
  | cont=>exact False.elim hq
theorem Rh {pl:Sem Bool} (he:PE X o ta) (c:O_ X.K C) (hm:Meth X.K C m f) (F:Ao X.prog X.w X.K X.mg X.base (Ow X.prog X.w) k f fd ps sp) (hr:A_ k X.A) (hb:Binds X.K fd ps ds) (hd:Vals dvs ds) (ha:PA X (e::es) t)
  (hxe:X.xe=fun _ _=>False) (hst:starEach (e::es) X.env=(false,eval e X.env)::starEach es X.env:=by rfl) (hpl:(backTo pos (starEach es X.env)).any (·.1)=false:=by rfl)
  (ht:eval (.Call (.Attribute o m apos) (e::es) [] pos) X.env=(do
   let ov ← eval o X.env
   standAt apos.atName
   let (f,first) ← holding [ov] (getMethod ov m pl)
   callWith pos f first (backTo pos (starEach (e::es) X.env)) (backToKw pos (keywordEach [] X.env))):=by rfl) :
  PET X ER (.Call (.Attribute o m apos) (e::es) [] pos) (W9 C m sp dvs ER ta t):=by
 intro pins s σ H Q I h
 refine PySem.W.methodCall_KW (pl:=pl) (wpAny_mono (he pins s σ H _ I h) (fun u s1 ⟨x,H1,I1,rx,a,dx,fs,ex,ea,l,q⟩=>?_) fun e s' z=>?_) ht
 ·subst ex
  obtain rfl:u=Value.ref a:=rx
  refine G8 I1 ea c hm l ?_
  refine PySem.W.callWith_K (first:=[.ref a]) (h₀:=X.base) I.ok.mod.kin hm.kp (wpAny_mono (ha pos pins s1 σ H1 _ I1 q) (fun us s2 ⟨vs,H2,I2,r,q2⟩=>⟨I2.Gw,?_⟩) fun e s' z=>?_) hst hpl
  ·exact Vk (us:=.ref a::us) (vs:=.ref a::vs) F hr hb hd I2 (.cons rfl r) q2
  ·rw [hxe] at z
   exact z.elim
 ·rw [hxe] at z
  exact z.elim
end
section
variable {X:Cx} {i:Nat} {O:Addr} {cn n:Str} {np hpos pos:Pos} {body:List Stmt} {b0:Stmt} {suite:List Stmt} {ts:TS} {tb:XR->TS}
end
end L2
namespace Og
open PySem L2 PyProof.Rows
end Og
namespace Og
open PySem L2 PyProof.Rows
variable {K:PySem.W.Frag}
structure WY (K:PySem.W.Frag) (aB aP aM:Addr):Prop where
 f:KF K aB aP aM
 pR:∃ a,PySem.W.nsIn K aP "rank" = some (some (.ref a))/\KTup K a (["new","pipes","wind"].map fun s:String=>V.str s)
 pL:∃ a,PySem.W.nsIn K aP "line" = some (some (.ref a))/\KTup K a (["rank","shift","low","high"].map fun s:String=>V.str s)
 bP:∃ a,PySem.W.nsIn K aB "pipes" = some (some (.ref a))/\KTup K a [.int 1,.int 97]
 bW:∃ a,PySem.W.nsIn K aB "wind" = some (some (.ref a))/\KTup K a [.int 0,.int 1000000000]
 bS:∃ a,PySem.W.nsIn K aB "shift" = some (some (.ref a))/\KTup K a [.int (-200),.int 200]
 bLo:∃ a,PySem.W.nsIn K aB "low" = some (some (.ref a))/\KTup K a [.int 0,.int 60]
 bHi:∃ a,PySem.W.nsIn K aB "high" = some (some (.ref a))/\KTup K a [.int 0,.int 60]
 bR:PySem.W.nsIn K aB "rank" = some none
 mR:∃ t,PySem.W.nsIn K aM "rank" = some (some (.int 12 t))
 mL:PySem.W.nsIn K aM "line" = some none
section
variable {aB aP aM:Addr} {ρ:V->R} {vs:List V} {wn:List (Str × Str)} {t:Str}
theorem Ot {r:R} (h:Mm K aB aP aM ρ vs r) (hb:Et ρ vs):IK K aB aP aM ρ vs r:=⟨h.ns,h.parts,.inr h.room,fun z=>absurd z h.nl,hb⟩
theorem Qf (F:KF K aB aP aM) {wd:Str} (hw:wd = "stop" \/ wd = "mute") (e:Gz ρ vs=wn) (ht:isNm t) (h:∀ w∈named,TX wn w t=false) (hc:VL wn wd<Lg wd) {a:Str} (ha:isNm a) (ha':TX wn "board" a=true):Mm K aB aP aM ρ vs ⟨wd,t,[.str a]⟩:=by
 have parts:∀ (j:Nat) x (y:Str),[V.str t,.str a][j]? = some x->(["new","board"]:List Str)[j]? = some y->G_ K aB ρ vs x y:=fun j x y hx hy=>by
  match j,hx,hy with
  | 0,hx,hy =>
   cases (Option.some.inj hx)
   cases (Option.some.inj hy)
   exact JZ F e ht h
  | 1,hx,hy =>
   cases (Option.some.inj hx)
   cases (Option.some.inj hy)
   exact NT F e ha ha'
  | j+2,hx,hy=>simp at hy
 have hcnt:=IV ρ vs wd
 rw [e] at hcnt
 rcases hw with rfl | rfl
 ·obtain ⟨ap,g1,g2⟩:=F.pS
  obtain ⟨tk,g5⟩:=F.mS
  have hm:Lg "stop" = 24:=by decide +kernel
  refine ⟨by show ¬ ("stop" : Str) = "step"; decide +kernel,by show ¬ ("stop" : Str) = "line"; decide +kernel,⟨ap,["new","board"],g1,g2,rfl,by decide,parts⟩,⟨24,tk,g5,?_⟩⟩
  show (((vs.filter (pw ρ "stop")).length:Nat):Int)<24
  omega
 ·obtain ⟨ap,g1,g2⟩:=F.pM
  obtain ⟨tk,g5⟩:=F.mM
  have hm:Lg "mute" = 5:=by decide +kernel
  refine ⟨by show ¬ ("mute" : Str) = "step"; decide +kernel,by show ¬ ("mute" : Str) = "line"; decide +kernel,⟨ap,["new","board"],g1,g2,rfl,by decide,parts⟩,⟨5,tk,g5,?_⟩⟩
  show (((vs.filter (pw ρ "mute")).length:Nat):Int)<5
  omega
theorem Qc (F:WY K aB aP aM) (e:Gz ρ vs=wn) (ht:isNm t) (h:∀ w∈named,TX wn w t=false) (hc:VL wn "rank" < 12) {n:Nat} {wi:Int} (h1:1<=n) (h2:n<=97) (h3:0<=wi) (h4:wi<=1000000000) (hb:Et ρ vs):IK K aB aP aM ρ vs (G3 (t,n,wi)):=by
 obtain ⟨ap,g1,g2⟩:=F.pR
 obtain ⟨ab,g3,g4⟩:=F.bP
 obtain ⟨aw,g6,g7⟩:=F.bW
 obtain ⟨tk,g5⟩:=F.mR
 refine ⟨by show ¬ ("rank" : Str) = "step"; decide +kernel,⟨ap,["new","pipes","wind"],g1,g2,rfl,by decide,fun j x y hx hy=>?_⟩,.inr ⟨12,tk,g5,?_⟩,fun z=>absurd z (by show ¬ ("rank" : Str) = "line"; decide +kernel),hb⟩
 ·match j,hx,hy with
  | 0,hx,hy =>
   cases (Option.some.inj hx)
   cases (Option.some.inj hy)
   exact JZ F.f e ht h
  | 1,hx,hy =>
   cases (Option.some.inj hx)
   cases (Option.some.inj hy)
   exact .inl ⟨((n:Nat):Int),1,97,ab,rfl,g3,g4,by omega,by omega⟩
  | 2,hx,hy =>
   cases (Option.some.inj hx)
   cases (Option.some.inj hy)
   exact .inl ⟨_,0,1000000000,aw,rfl,g6,g7,h3,h4⟩
  | j+3,hx,hy=>simp at hy
 ·rw [IV,e]
  show ((VL wn "rank" : Nat):Int)<12
  omega
theorem QX (F:WY K aB aP aM) (e:Gz ρ vs=wn) (ht:isNm t) (h:TX wn "rank" t=true) {sh lo hi:Int} (b1 : -200<=sh) (b2:sh<=200) (b3:0<=lo) (b4:lo<=60) (b5:0<=hi) (b6:hi<=60) (hb:Et ρ vs) (hl:M6 ρ vs ⟨"line",t,[.int sh,.int lo,.int hi]⟩):IK K aB aP aM ρ vs ⟨"line",t,[.int sh,.int lo,.int hi]⟩:=by
 obtain ⟨ap,g1,g2⟩:=F.pL
 obtain ⟨a1,g3,g4⟩:=F.bS
 obtain ⟨a2,g5,g6⟩:=F.bLo
 obtain ⟨a3,g7,g8⟩:=F.bHi
 refine ⟨by show ¬ ("line" : Str) = "step"; decide +kernel,⟨ap,["rank","shift","low","high"],g1,g2,rfl,by decide,fun j x y hx hy=>?_⟩,.inl ⟨rfl,F.mL⟩,fun _=>hl,hb⟩
 match j,hx,hy with
 | 0,hx,hy =>
  cases (Option.some.inj hx)
  cases (Option.some.inj hy)
  exact .inr (.inr ⟨F.bR,by decide +kernel,_,rfl,ht,by rw [H_,e]; exact h⟩)
 | 1,hx,hy =>
  cases (Option.some.inj hx)
  cases (Option.some.inj hy)
  exact .inl ⟨_,-200,200,a1,rfl,g3,g4,b1,b2⟩
 | 2,hx,hy =>
  cases (Option.some.inj hx)
  cases (Option.some.inj hy)
  exact .inl ⟨_,0,60,a2,rfl,g5,g6,b3,b4⟩
 | 3,hx,hy =>
  cases (Option.some.inj hx)
  cases (Option.some.inj hy)
  exact .inl ⟨_,0,60,a3,rfl,g7,g8,b5,b6⟩
 | j+4,hx,hy=>simp at hy
end
structure pH (K:PySem.W.Frag) (aB aP aM:Addr) (ρ:V->R) (us:List V) (bs:List (Str × Nat)) (rk:List (Str × Nat × Int)) (ks:List R):Prop where
 kinds:∀ v∈us,(ρ v).w = "board" \/ (ρ v).w = "rank" \/ (ρ v).w = "line" \/ (ρ v).w = "stop" \/ (ρ v).w = "coupler" \/ (ρ v).w = "mute"
 eb:(us.filter (pw ρ "board")).map ρ=bs.map FT
 er:(us.filter (pw ρ "rank")).map ρ=rk.map G3
 ek:(us.filter (fun v=>G5 (ρ v).w)).map ρ=ks
 ln:∀ (i:Nat) v,us[i]? = some v->(ρ v).w = "line"->(∃ (j:Nat) (r:Str × Nat × Int) (sh lo hi:Int),rk[j]? = some r/\r.1=(ρ v).nm/\(ρ v).rest=[.int sh,.int lo,.int hi])/\∃ u∈us.take i,G5 (ρ u).w=true
 ok:∀ (i:Nat) v,us[i]? = some v->IK K aB aP aM ρ (us.take i) (ρ v)
section
variable {aB aP aM:Addr} {ρ:V->R} {us:List V} {v:V} {bs bs':List (Str × Nat)} {rk rk':List (Str × Nat × Int)} {ks ks':List R}
theorem LC {w t:Str}:UG ρ us w t=true ↔ ∃ v∈us,(ρ v).w=w/\(ρ v).nm=t:=by
 unfold UG
 rw [List.any_eq_true]
 constructor
 ·rintro ⟨v,hv,hn⟩
  obtain ⟨h1,h2⟩:=List.mem_filter.mp hv
  exact ⟨v,h1,V.str.inj (of_decide_eq_true h2),V.str.inj (of_decide_eq_true hn)⟩
 ·rintro ⟨v,hv,h1,h2⟩
  exact ⟨v,List.mem_filter.mpr ⟨hv,decide_eq_true (congrArg V.str h1)⟩,decide_eq_true (congrArg V.str h2)⟩
theorem JS {w:Str} (h:w = "stop" \/ w = "coupler" \/ w = "mute"):G5 w=true:=by rcases h with rfl | rfl | rfl <;> decide +kernel
theorem JW {p:V->Bool} (h:p v=true):(us++[v]).filter p=us.filter p++[v]:=by
 rw [List.filter_append,List.filter_cons,if_pos h]
 rfl
theorem Ef {p:V->Bool} (h:p v=false):(us++[v]).filter p=us.filter p:=by
 rw [List.filter_append,List.filter_cons,if_neg (by rw [h]; decide)]
 simp
end
structure pP (K:PySem.W.Frag) (aB aP aM:Addr) (rows:List R) (bs:List (Str × Nat)) (rk:List (Str × Nat × Int)) (ks:List R) (ls:List (List Ln)):Prop where
 ok:∀ (ρ:V->R) (us:List V),us.map ρ=rows->pH K aB aP aM ρ us bs rk ks
 ln0:ks=[]->∀ rk',linesOf rk' rows=[]
 ln:linesOf rk rows=ls
section
variable {aB aP aM:Addr} {rows:List R} {bs:List (Str × Nat)} {rk:List (Str × Nat × Int)} {ks:List R} {ls:List (List Ln)}
theorem JH {ρ:V->R} {us:List V} {r:R} (e:us.map ρ=rows++[r]):∃ us' v,us=us'++[v]/\us'.map ρ=rows/\ρ v=r:=by
 obtain ⟨a,b,rfl,h1,h2⟩:=List.map_eq_append_iff.mp e
 obtain ⟨v,l,rfl,h3,h4⟩:=List.map_eq_cons_iff.mp h2
 rw [List.map_eq_nil_iff.mp h4]
 exact ⟨a,v,rfl,h1,h3⟩
noncomputable def Tl (rows:List R) (bd:Str) (cnt:Nat):Prop:=∃ (r0:List R) (st:R) (lr:List R),rows=r0++st::lr/\st.w = "stop" /\ st.rest=[.str bd]/\lr.length=cnt/\∀ r∈lr,r.w = "line"
theorem Tl.stop (rows:List R) (t bd:Str):Tl (rows++[⟨"stop",t,[.str bd]⟩]) bd 0:=⟨rows,_,[],rfl,rfl,rfl,rfl,fun _ h=>nomatch h⟩
end
end Og
namespace Og
open PySem L2 PyProof.Rows
variable {K:PySem.W.Frag}
structure HF (K:PySem.W.Frag) (aB aP aM:Addr) (ρ:V->R) (us:List V) (bs:List (Str × Nat)) (rk:List (Str × Nat × Int)) (ks:List R):Prop where
 eb:(us.filter (pw ρ "board")).map ρ=bs.map FT
 er:(us.filter (pw ρ "rank")).map ρ=rk.map G3
 ek:(us.filter (fun v=>G5 (ρ v).w)).map ρ=ks
 ln:∀ (i:Nat) v,us[i]? = some v->(ρ v).w = "line"->(∃ (j:Nat) (r:Str × Nat × Int) (sh lo hi:Int),rk[j]? = some r/\r.1=(ρ v).nm/\(ρ v).rest=[.int sh,.int lo,.int hi])/\∃ u∈us.take i,G5 (ρ u).w=true
 ok:∀ (i:Nat) v,us[i]? = some v->Gh K aB aP aM ρ (us.take i) (ρ v)
section
variable {aB aP aM:Addr} {ρ:V->R} {us:List V} {v:V} {bs bs':List (Str × Nat)} {rk rk':List (Str × Nat × Int)} {ks ks':List R}
theorem HF.nil:HF K aB aP aM ρ [] [] [] []:=⟨rfl,rfl,rfl,(fun i v h=>by simp at h),(fun i v h=>by simp at h)⟩
theorem HF.WL (h:HF K aB aP aM ρ us bs rk ks) (hv:v∈us) (hw:(ρ v).w = "board"):∃ b∈bs,FT b=ρ v:=by
 have:ρ v∈(us.filter (pw ρ "board")).map ρ:=List.mem_map_of_mem (List.mem_filter.mpr ⟨hv,decide_eq_true (congrArg V.str hw)⟩)
 rw [h.eb] at this
 exact List.mem_map.mp this
theorem HF.Z7 (h:HF K aB aP aM ρ us bs rk ks) (hv:v∈us) (hw:(ρ v).w = "rank"):∃ b∈rk,G3 b=ρ v:=by
 have:ρ v∈(us.filter (pw ρ "rank")).map ρ:=List.mem_map_of_mem (List.mem_filter.mpr ⟨hv,decide_eq_true (congrArg V.str hw)⟩)
 rw [h.er] at this
 exact List.mem_map.mp this
theorem HF.Qz (h:HF K aB aP aM ρ us bs rk ks) (hv:v∈us) (hw:G5 (ρ v).w=true):ρ v∈ks:=by
 have:ρ v∈(us.filter (fun v=>G5 (ρ v).w)).map ρ:=List.mem_map_of_mem (List.mem_filter.mpr ⟨hv,hw⟩)
 rw [h.ek] at this
 exact this
theorem HF.YQ (h:HF K aB aP aM ρ us bs rk ks):Et ρ us:=fun v hv hw=>by
 obtain ⟨b,_,e⟩:=h.WL hv hw
 exact ⟨_,by rw [← e]⟩
theorem HF.WM (h:HF K aB aP aM ρ us bs rk ks) {b:Str × Nat} (hb:b∈bs):∃ v∈us,ρ v=FT b:=by
 have:FT b∈(us.filter (pw ρ "board")).map ρ:=by rw [h.eb]; exact List.mem_map_of_mem hb
 obtain ⟨v,hv,e⟩:=List.mem_map.mp this
 exact ⟨v,(List.mem_filter.mp hv).1,e⟩
theorem HF.aG (h:HF K aB aP aM ρ us bs rk ks) {r:Str × Nat × Int} (hr:r∈rk):∃ v∈us,ρ v=G3 r:=by
 have:G3 r∈(us.filter (pw ρ "rank")).map ρ:=by rw [h.er]; exact List.mem_map_of_mem hr
 obtain ⟨v,hv,e⟩:=List.mem_map.mp this
 exact ⟨v,(List.mem_filter.mp hv).1,e⟩
theorem HF.W7 (h:HF K aB aP aM ρ us bs rk ks) {b:Str × Nat} (hb:b∈bs):TX (Gz ρ us) "board" b.1=true:=by
 obtain ⟨v,hv,e⟩:=h.WM hb
 rw [← H_,LC]
 exact ⟨v,hv,by rw [e],by rw [e]⟩
theorem HF.Xu (h:HF K aB aP aM ρ us bs rk ks) {r:Str × Nat × Int} (hr:r∈rk):TX (Gz ρ us) "rank" r.1=true:=by
 obtain ⟨v,hv,e⟩:=h.aG hr
 rw [← H_,LC]
 exact ⟨v,hv,by rw [e],by rw [e]⟩
theorem HF.fresh (h:HF K aB aP aM ρ us bs rk ks) {t:Str} (hb:∀ b∈bs,b.1 ≠ t) (hr:∀ r∈rk,r.1 ≠ t) (hk:∀ k∈ks,k.nm ≠ t):∀ w∈named,TX (Gz ρ us) w t=false:=by
 intro w hw
 rw [← H_,← Bool.not_eq_true,LC]
 rintro ⟨v,hv,hw',hn⟩
 simp only [List.mem_cons,List.mem_singleton,List.not_mem_nil,or_false] at hw
 rcases hw with rfl | rfl | rfl | rfl | rfl
 ·obtain ⟨b,hb',e⟩:=h.WL hv hw'
  exact hb b hb' (by rw [← hn,← e])
 ·obtain ⟨b,hb',e⟩:=h.Z7 hv hw'
  exact hr b hb' (by rw [← hn,← e])
 ·exact hk _ (h.Qz hv (JS (.inl hw'))) hn
 ·exact hk _ (h.Qz hv (JS (.inr (.inl hw')))) hn
 ·exact hk _ (h.Qz hv (JS (.inr (.inr hw')))) hn
theorem HF.bO (h:HF K aB aP aM ρ us bs rk ks):VL (Gz ρ us) "board" = bs.length:=by
 rw [← IV,← List.length_map (f:=ρ),h.eb,List.length_map]
theorem HF.cj (h:HF K aB aP aM ρ us bs rk ks):VL (Gz ρ us) "rank" = rk.length:=by
 rw [← IV,← List.length_map (f:=ρ),h.er,List.length_map]
theorem HF.ZP (h:HF K aB aP aM ρ us bs rk ks) {w:Str} (hw:w = "stop" \/ w = "coupler" \/ w = "mute"):VL (Gz ρ us) w=(ks.filter fun r=>decide (V.str r.w=V.str w)).length:=by
 rw [← IV,← h.ek,List.filter_map,List.length_map,List.filter_filter]
 refine congrArg List.length (List.filter_congr fun v _=>?_)
 show pw ρ w v=(pw ρ w v && G5 (ρ v).w)
 by_cases e:(ρ v).w=w
 ·rw [JS (by rw [e]; exact hw),Bool.and_true]
 ·have:pw ρ w v=false:=decide_eq_false fun z=>e (V.str.inj z)
  rw [this,Bool.false_and]
theorem HF.snoc (h:HF K aB aP aM ρ us bs rk ks)
  (eb:((us++[v]).filter (pw ρ "board")).map ρ=bs'.map FT) (er:((us++[v]).filter (pw ρ "rank")).map ρ=rk'.map G3) (ek:((us++[v]).filter (fun v=>G5 (ρ v).w)).map ρ=ks')
  (hr:∀ (j:Nat) r,rk[j]? = some r->rk'[j]? = some r)
  (hl:(ρ v).w = "line"->(∃ (j:Nat) (r:Str × Nat × Int) (sh lo hi:Int),rk'[j]? = some r/\r.1=(ρ v).nm/\(ρ v).rest=[.int sh,.int lo,.int hi])/\∃ u∈us,G5 (ρ u).w=true)
  (ok:Gh K aB aP aM ρ us (ρ v)):HF K aB aP aM ρ (us++[v]) bs' rk' ks':=by
 have at_:∀ {i:Nat} {u:V},(us++[v])[i]? = some u->us[i]? = some u/\(us++[v]).take i=us.take i \/ u=v/\(us++[v]).take i=us:=fun {i u} hi=>by
  by_cases hlt:i<us.length
  ·rw [List.getElem?_append_left hlt] at hi
   exact .inl ⟨hi,List.take_append_of_le_length (Nat.le_of_lt hlt)⟩
  ·have h2:=(List.getElem?_eq_some_iff.mp hi).1
   rw [List.length_append,List.length_singleton] at h2
   have hil:i=us.length:=by omega
   subst hil
   rw [List.getElem?_append_right (Nat.le_refl _),Nat.sub_self] at hi
   exact .inr ⟨(Option.some.inj hi).symm,by rw [List.take_append_of_le_length (Nat.le_refl _),List.take_length]⟩
 refine ⟨eb,er,ek,fun i u hi hw=>?_,fun i u hi=>?_⟩
 ·rcases at_ hi with ⟨h1,h2⟩ | ⟨rfl,h2⟩
  ·rw [h2]
   obtain ⟨⟨j,r,sh,lo,hi',g1,g2,g3⟩,g4⟩:=h.ln i u h1 hw
   exact ⟨⟨j,r,sh,lo,hi',hr j r g1,g2,g3⟩,g4⟩
  ·rw [h2]
   exact hl hw
 ·rcases at_ hi with ⟨h1,h2⟩ | ⟨rfl,h2⟩
  ·rw [h2]
   exact h.ok i u h1
  ·rw [h2]
   exact ok
end
theorem M8 {rk:List (Str × Nat × Int)} {x:Str × Nat × Int}:∀ {rows:List R},(∀ r∈rows,r.w = "line"->r.nm∈rk.map (·.1))->linesOf (rk++[x]) rows=linesOf rk rows:=by
 have key:∀ (rows:List R),(∀ r∈rows,r.w = "line"->r.nm∈rk.map (·.1))->∀ acc,rows.foldl (C_ (rk++[x])) acc=rows.foldl (C_ rk) acc:=by
  intro rows
  induction rows with
  | nil=>intro _ _; rfl
  | cons r rs ih =>
   intro h acc
   have e:C_ (rk++[x]) acc r=C_ rk acc r:=by
    unfold C_
    by_cases h1:G5 r.w=true
    ·rw [if_pos h1,if_pos h1]
    ·rw [if_neg h1,if_neg h1]
     by_cases h2:r.w = "line"
     ·rw [if_pos h2,if_pos h2]
      have hm:=h r (List.mem_cons_self ..) h2
      have:lnOf (rk++[x]) r=lnOf rk r:=by
       unfold lnOf
       rw [List.map_append,List.idxOf_append,if_pos hm]
      rw [this]
     ·rw [if_neg h2,if_neg h2]
   show rs.foldl _ (C_ (rk++[x]) acc r)=rs.foldl _ (C_ rk acc r)
   rw [e]
   exact ih (fun r hr=>h r (List.mem_cons_of_mem _ hr)) _
 exact fun {rows} h=>key rows h []
theorem TJ {ks:List R} {k r:R} (h:∀ t∈Kv r,t∈ks.map (·.nm)):stN (ks++[k]) r=stN ks r:=by
 unfold stN
 refine congrArg Wd.mk (List.map_congr_left fun t ht=>?_)
 rw [List.map_append,List.idxOf_append,if_pos (h t ht)]
noncomputable abbrev Xl (r:R):Bool:=decide (V.str r.w=V.str "step")
structure Jq (K:PySem.W.Frag) (aB aP aM:Addr) (rows:List R) (bs:List (Str × Nat)) (rk:List (Str × Nat × Int)) (ks:List R) (ls:List (List Ln)) (sts:List Nat):Prop where
 ok:∀ (ρ:V->R) (us:List V),us.map ρ=rows->HF K aB aP aM ρ us bs rk ks
 ln:linesOf rk rows=ls
 st:(rows.filter Xl).map (stN ks)=sts
 lm:∀ r∈rows,r.w = "line"->r.nm∈rk.map (·.1)
 sm:∀ r∈rows,r.w = "step"->∃ ts:List Str,V.str r.nm::r.rest=ts.map V.str/\ts.length<=24/\∀ t∈ts,t∈ks.map (·.nm)
section
variable {aB aP aM:Addr} {rows:List R} {bs:List (Str × Nat)} {rk:List (Str × Nat × Int)} {ks:List R} {ls:List (List Ln)} {sts:List Nat}
theorem Jq.nil:Jq K aB aP aM [] [] [] [] [] []:=⟨fun ρ us e=>by rw [List.map_eq_nil_iff.mp e]; exact HF.nil,rfl,rfl,(fun _ z=>nomatch z),(fun _ z=>nomatch z)⟩
theorem PQ {r:R} (h:r.w ≠ "step"):(rows++[r]).filter Xl=rows.filter Xl:=by
 rw [List.filter_append,List.filter_cons,if_neg (by intro z; exact h (V.str.inj (of_decide_eq_true z)))]
 simp
theorem Lb {r:R} {Q:R->Prop} (h:∀ r∈rows,Q r) (hr:Q r):∀ x∈rows++[r],Q x:=fun x hx=>by
 rcases List.mem_append.mp hx with z | z
 ·exact h x z
 ·rw [List.mem_singleton.mp z]
  exact hr
theorem Jq.Yl (F:WY K aB aP aM) (h:Jq K aB aP aM rows bs rk ks ls sts) {t:Str} {n:Nat} (ht:isNm t) (hf:∀ b∈bs,b.1 ≠ t) (hr:∀ r∈rk,r.1 ≠ t) (hk:∀ k∈ks,k.nm ≠ t) (hb:bs.length<5) (h1:1<=n) (h2:n<=61):Jq K aB aP aM (rows++[FT (t,n)]) (bs++[(t,n)]) rk ks ls sts:=by
 refine ⟨fun ρ us e=>?_,?_,?_,Lb h.lm (fun z=>absurd z (by show ¬ ("board" : Str) = "line"; decide +kernel)),Lb h.sm (fun z=>absurd z (by show ¬ ("board" : Str) = "step"; decide +kernel))⟩
 ·obtain ⟨us',v,rfl,e',hv⟩:=JH e
  have O:=h.ok ρ us' e'
  refine O.snoc ?_ ?_ ?_ (fun _ _ h=>h) (fun z=>absurd (hv ▸ z) (by show ¬ ("board" : Str) = "line"; decide +kernel)) ?_
  ·rw [JW (by unfold pw; rw [hv]; exact decide_eq_true rfl),List.map_append,O.eb,List.map_append,List.map_singleton,hv]
   rfl
  ·rw [Ef (by unfold pw; rw [hv]; show decide (V.str "board" = V.str "rank")=false; decide +kernel),O.er]
  ·rw [Ef (by rw [hv]; show G5 "board" = false; decide +kernel),O.ek]
  ·rw [hv]
   exact .inl (Ot (QB F.f rfl ht (O.fresh hf hr hk) (by rw [O.bO]; exact hb) h1 h2) O.YQ)
 ·rw [Cd,h.ln]
  rfl
 ·rw [PQ (by show ¬ ("board" : Str) = "step"; decide +kernel)]
  exact h.st
theorem Jq.rank (F:WY K aB aP aM) (h:Jq K aB aP aM rows bs rk ks ls sts) {t:Str} {n:Nat} {wi:Int} (ht:isNm t) (hf:∀ b∈bs,b.1 ≠ t) (hr:∀ r∈rk,r.1 ≠ t) (hk:∀ k∈ks,k.nm ≠ t) (hc:rk.length<12) (h1:1<=n) (h2:n<=97) (h3:0<=wi) (h4:wi<=1000000000):Jq K aB aP aM (rows++[G3 (t,n,wi)]) bs (rk++[(t,n,wi)]) ks ls sts:=by
 have lm':∀ r∈rows,r.w = "line"->r.nm∈(rk++[(t,n,wi)]).map (·.1):=fun r hr z=>by
  rw [List.map_append]
  exact List.mem_append_left _ (h.lm r hr z)
 refine ⟨fun ρ us e=>?_,?_,?_,Lb lm' (fun z=>absurd z (by show ¬ ("rank" : Str) = "line"; decide +kernel)),Lb h.sm (fun z=>absurd z (by show ¬ ("rank" : Str) = "step"; decide +kernel))⟩
 ·obtain ⟨us',v,rfl,e',hv⟩:=JH e
  have O:=h.ok ρ us' e'
  refine O.snoc ?_ ?_ ?_ (fun j r h=>by rw [List.getElem?_append_left (List.getElem?_eq_some_iff.mp h).1]; exact h) (fun z=>absurd (hv ▸ z) (by show ¬ ("rank" : Str) = "line"; decide +kernel)) ?_
  ·rw [Ef (by unfold pw; rw [hv]; show decide (V.str "rank" = V.str "board")=false; decide +kernel),O.eb]
  ·rw [JW (by unfold pw; rw [hv]; exact decide_eq_true rfl),List.map_append,O.er,List.map_append,List.map_singleton,hv]
   rfl
  ·rw [Ef (by rw [hv]; show G5 "rank" = false; decide +kernel),O.ek]
  ·rw [hv]
   exact .inl (Qc F rfl ht (O.fresh hf hr hk) (by rw [O.cj]; exact hc) h1 h2 h3 h4 O.YQ)
 ·rw [Cd,M8 h.lm,h.ln]
  rfl
 ·rw [PQ (by show ¬ ("rank" : Str) = "step"; decide +kernel)]
  exact h.st
theorem Jq.aJ (h:Jq K aB aP aM rows bs rk ks ls sts) {r:R} (hw:r.w = "stop" \/ r.w = "coupler" \/ r.w = "mute") (hr:∀ (ρ:V->R) (us:List V),us.map ρ=rows->Mm K aB aP aM ρ us r):Jq K aB aP aM (rows++[r]) bs rk (ks++[r]) (ls++[[]]) sts:=by
 have hK:=JS hw
 have sm':∀ r'∈rows,r'.w = "step"->∃ ts:List Str,V.str r'.nm::r'.rest=ts.map V.str/\ts.length<=24/\∀ t∈ts,t∈(ks++[r]).map (·.nm):=fun r' hr' z=>by
  obtain ⟨ts,g1,g2,g3⟩:=h.sm r' hr' z
  exact ⟨ts,g1,g2,fun t ht=>by rw [List.map_append]; exact List.mem_append_left _ (g3 t ht)⟩
 refine ⟨fun ρ us e=>?_,?_,?_,Lb h.lm (fun z=>?_),Lb sm' (fun z=>?_)⟩
 ·obtain ⟨us',v,rfl,e',hv⟩:=JH e
  have O:=h.ok ρ us' e'
  refine O.snoc ?_ ?_ ?_ (fun _ _ h=>h) (fun z=>?_) ?_
  ·rw [Ef (by unfold pw; rw [hv]; rcases hw with e | e | e <;> rw [e] <;> decide +kernel),O.eb]
  ·rw [Ef (by unfold pw; rw [hv]; rcases hw with e | e | e <;> rw [e] <;> decide +kernel),O.er]
  ·rw [JW (by rw [hv]; exact hK),List.map_append,O.ek,List.map_singleton,hv]
  ·rw [hv] at z
   rcases hw with e | e | e <;> rw [e] at z <;> exact absurd z (by decide +kernel)
  ·rw [hv]
   exact .inl (Ot (hr ρ us' e') O.YQ)
 ·rw [Cd,h.ln]
  unfold C_
  rw [if_pos hK]
 ·rw [PQ (by rcases hw with e | e | e <;> rw [e] <;> decide +kernel),← h.st]
  refine List.map_congr_left fun r' hr'=>TJ fun t ht=>?_
  obtain ⟨g1,g2⟩:=List.mem_filter.mp hr'
  obtain ⟨ts,g3,_,g5⟩:=h.sm r' g1 (V.str.inj (of_decide_eq_true g2))
  rw [KY g3] at ht
  exact g5 t ht
 ·rcases hw with e | e | e <;> rw [e] at z <;> exact absurd z (by decide +kernel)
 ·rcases hw with e | e | e <;> rw [e] at z <;> exact absurd z (by decide +kernel)
theorem Jq.plain (F:WY K aB aP aM) (h:Jq K aB aP aM rows bs rk ks ls sts) {wd t a:Str} {n:Nat} (hw:wd = "stop" \/ wd = "mute") (ht:isNm t) (hb:∀ b∈bs,b.1 ≠ t) (hr:∀ r∈rk,r.1 ≠ t) (hk:∀ k∈ks,k.nm ≠ t) (hc:(ks.filter fun r=>decide (V.str r.w=V.str wd)).length<Lg wd) (ha:isNm a) (ha':(a,n)∈bs) :
  Jq K aB aP aM (rows++[⟨wd,t,[.str a]⟩]) bs rk (ks++[⟨wd,t,[.str a]⟩]) (ls++[[]]) sts:=by
 have hw3:wd = "stop" \/ wd = "coupler" \/ wd = "mute":=by rcases hw with e | e; exact .inl e; exact .inr (.inr e)
 exact h.aJ hw3 fun ρ us e=>by
  have O:=h.ok ρ us e
  exact Qf F.f hw rfl ht (O.fresh hb hr hk) (by rw [O.ZP hw3]; exact hc) ha (O.W7 ha')
theorem Jq.line (F:WY K aB aP aM) {l0:List Ln} (h:Jq K aB aP aM rows bs rk ks (ls++[l0]) sts) {bd:Str} {cnt:Nat} (T:Tl rows bd cnt) (hc:cnt<4) {j n m:Nat} {t:Str} {wi sh lo hi:Int} (hj:rk[j]? = some (t,m,wi)) (hnd:(rk.map (·.1)).Nodup) (ht:isNm t) (hbd:(bd,n)∈bs) (hle:lo<=hi) (hn:hi<(n:Int)) (b1 : -200<=sh) (b2:sh<=200) (b3:0<=lo) (b6:hi<=60) :
  Jq K aB aP aM (rows++[⟨"line",t,[.int sh,.int lo,.int hi]⟩]) bs rk ks (ls++[l0++[⟨j,sh,lo,hi⟩]]) sts:=by
 obtain ⟨r0,st,lr,er,g1,g2,g3,g4⟩:=T
 have nK:G5 "line" = false:=by decide +kernel
 refine ⟨fun ρ us e=>?_,?_,?_,Lb h.lm (fun _=>List.mem_map.mpr ⟨_,List.mem_of_getElem? hj,rfl⟩),Lb h.sm (fun z=>absurd z (by show ¬ ("line" : Str) = "step"; decide +kernel))⟩
 ·obtain ⟨us',v,rfl,e',hv⟩:=JH e
  have O:=h.ok ρ us' e'
  obtain ⟨u0,u1,eu,m1,m2⟩:=List.map_eq_append_iff.mp (e'.trans er)
  obtain ⟨sv,lv,e1,m3,m4⟩:=List.map_eq_cons_iff.mp m2
  subst e1
  have hsv:sv∈us':=by rw [eu]; simp
  have hlv:lv.length=cnt:=by rw [← g3,← m4,List.length_map]
  have hus:us'.length=u0.length+(cnt+1):=by rw [eu,List.length_append,List.length_cons,hlv]
  refine O.snoc ?_ ?_ ?_ (fun _ _ h=>h) (fun _=>⟨⟨j,_,sh,lo,hi,hj,by rw [hv],by rw [hv]⟩,sv,hsv,by rw [m3,g1]; decide +kernel⟩) ?_
  ·rw [Ef (by unfold pw; rw [hv]; show decide (V.str "line" = V.str "board")=false; decide +kernel),O.eb]
  ·rw [Ef (by unfold pw; rw [hv]; show decide (V.str "line" = V.str "rank")=false; decide +kernel),O.er]
  ·rw [Ef (by rw [hv]; exact nK),O.ek]
  ·rw [hv]
   have hst:us'[us'.length - 1 - cnt]? = some sv:=by
    have:us'.length - 1 - cnt=u0.length:=by omega
    rw [this,eu,List.getElem?_append_right (Nat.le_refl _),Nat.sub_self]
    rfl
   refine .inl ?_
   refine QX F rfl ht (O.Xu (List.mem_of_getElem? hj)) b1 b2 b3 (by omega) (by omega) b6 O.YQ ⟨cnt,sv,sh,lo,hi,bd,[],rfl,⟨fun i hi'=>?_,by omega,sv,hst,by rw [m3,g1]; decide +kernel⟩,hc,hst,by rw [m3,g1],by rw [m3,g2],hle,?_⟩
   ·have hi2:cnt - 1 - i<lv.length:=by omega
    refine ⟨lv[cnt - 1 - i],?_,?_⟩
    ·have:us'.length - 1 - i=u0.length+((cnt - 1 - i)+1):=by omega
     rw [this,eu,List.getElem?_append_right (Nat.le_add_right _ _),Nat.add_sub_cancel_left,List.getElem?_cons_succ]
     exact List.getElem?_eq_getElem hi2
    ·refine g4 _ ?_
     rw [← m4]
     exact List.mem_map_of_mem (List.getElem_mem hi2)
   ·obtain ⟨u,hu,hub⟩:=O.WM hbd
    rw [List.any_eq_true]
    refine ⟨u,List.mem_filter.mpr ⟨hu,?_⟩,?_⟩
    ·unfold pw
     rw [hub]
     exact decide_eq_true rfl
    ·show (pn ρ bd u && decide (hi<XX (ρ u)))=true
     unfold pn
     rw [hub,Bool.and_eq_true]
     exact ⟨decide_eq_true rfl,decide_eq_true hn⟩
 ·rw [Cd,h.ln]
  unfold C_
  rw [if_neg (by show ¬ G5 "line" = true; rw [nK]; decide),if_pos rfl,Gv]
  have hjl:=(List.getElem?_eq_some_iff.mp hj).1
  have:(rk.map (·.1)).idxOf t=j:=by
   have hl:j<(rk.map (·.1)).length:=by rw [List.length_map]; exact hjl
   have e2:(rk.map (·.1))[j]=t:=by
    rw [List.getElem_map]
    have:=(List.getElem?_eq_some_iff.mp hj).2
    rw [this]
   rw [← e2]
   exact hnd.idxOf_getElem j hl
  show ls++[l0++[⟨(rk.map (·.1)).idxOf t,sh,lo,hi⟩]]=_
  rw [this]
 ·rw [PQ (by show ¬ ("line" : Str) = "step"; decide +kernel)]
  exact h.st
theorem Jq.fin {H:Hp} {vs:List V} (h:Jq K aB aP aM rows bs rk ks ls sts) (hv:Paired (fun (r:R) v=>TupAt H r.v v) rows vs) (b0:1<=bs.length) (b5:bs.length<=5) (sz:∀ b∈bs,b.2<=61) (nr:rk.length<=12) (nz:∀ r∈rk,r.2.1<=97) (nk:ks.length<=100) (nb:(bs.map (·.1)).Nodup) (nrr:(rk.map (·.1)).Nodup) (nn:(ks.map (·.nm)).Nodup) (len:rows.length<=150) :
  Rows H (Ky H) vs/\iz K aB aP aM (Ky H) vs bs rk ks/\linesOf rk (vs.map (Ky H))=ls/\((vs.filter (pw (Ky H) "step")).map fun v=>stN ks (Ky H v))=sts:=by
 have em:=Ol hv
 have O:=h.ok (Ky H) vs em
 have hR:Rows H (Ky H) vs:=fun v hv'=>by
  obtain ⟨r,_,hr⟩:=DK hv hv'
  rw [M5 hr]
  exact hr
 refine ⟨hR,⟨O.eb,O.er,O.ek,O.ln,fun v hv' hw=>?_,b0,b5,sz,nr,nz,nk,nb,nrr,nn,by rw [← hv.length]; exact len,O.ok⟩,by rw [em]; exact h.ln,?_⟩
 ·refine h.sm (Ky H v) ?_ hw
  rw [← em]
  exact List.mem_map_of_mem hv'
 ·rw [← h.st,← em,List.filter_map,List.map_map]
  rfl
end
end Og
namespace Og
open PySem L2 PyProof.Rows
noncomputable def oZ (b:Str):Prop:=b.length<=6/\∀ c∈b.cps.toList,97<=c/\c<=122
noncomputable def fM (n:Nat):Str:=⟨#[97+n]⟩
noncomputable def iB (b:Str) (k:Nat):Str:=if 26<=k then b++fM (k % 26)++fM (k / 26 * 5 % 26) else b++fM (k % 26)
end Og
namespace Og
open PySem L2
structure oA where
 p:Addr
 r:Addr
 b:Addr
 k:Addr
 n:Addr
 d:Addr
 s:Addr
inductive Dt where
 | stop (b:Nat) (L:Addr)
 | coup (a b:Nat) (s:Int)
 | mute (b:Nat)
noncomputable def Dt.L:Dt->List Addr
 | .stop _ L=>[L]
 | _=>[]
structure Pl where
 rows:List R
 bs:List (Str × Nat)
 rk:List (Str × Nat × Int)
 ks:List R
 ls:List (List Ln)
 ds:List Dt
 ch:List (List Nat)
noncomputable abbrev Pl.Ls (S:Pl):List Addr:=S.ds.flatMap Dt.L
noncomputable def jG (H:Hp) (L:Addr) (l:List Ln):Prop:=∃ ts,H L=some (.lst ts)/\Paired (fun (y:Ln) z=>TupAt H (YW y) z) l ts
noncomputable def gb (H:Hp) (x:Dt × List Ln) (v:V):Prop:=match x.1 with
 | .stop b L=>TupAt H [.int (b:Nat),.ref L] v/\jG H L x.2
 | .coup a b s=>TupAt H [.int (a:Nat),.int (b:Nat),.int s] v
 | .mute b=>v=.int (b:Nat)
noncomputable abbrev pD (r:Str × Nat × Int):List V:=[.str r.1,.int (r.2.1:Nat),.int r.2.2]
noncomputable abbrev oN (r:R):List V:=[.str r.w,.str r.nm]
structure o6 (H0 H:Hp) (A:oA) (S:Pl) (Cs:List Addr) (lo:V):Prop where
 dp:∃ kvs:List (Key × V),H A.p=some (.dK kvs)/\kvs.length<=7/\Bx kvs (Sum.inr "rows")=some (.ref A.r)/\Bx kvs (Sum.inr "boards")=some (.ref A.b)/\Bx kvs (Sum.inr "ranks")=some (.ref A.k)/\Bx kvs (Sum.inr "knobs")=some (.ref A.n)/\Bx kvs (Sum.inr "details")=some (.ref A.d)/\Bx kvs (Sum.inr "steps")=some (.ref A.s)/\Bx kvs (Sum.inr "lines")=some lo
 nd:(A.r::A.b::A.k::A.n::A.d::A.s::(S.Ls++Cs)).Nodup
 sm:Ak H0 H
 f0:H0 A.p=none
 fr:∀ a∈A.r::A.b::A.k::A.n::A.d::A.s::S.Ls,H0 a=none
 r:∃ vs,H A.r=some (.lst vs)/\Paired (fun (r:R) v=>TupAt H r.v v) S.rows vs
 b:∃ vs,H A.b=some (.lst vs)/\Paired (fun b v=>TupAt H (bV b) v) S.bs vs
 k:∃ vs,H A.k=some (.lst vs)/\Paired (fun r v=>TupAt H (pD r) v) S.rk vs
 n:∃ vs,H A.n=some (.lst vs)/\Paired (fun (r:R) v=>TupAt H (oN r) v) S.ks vs
 d:∃ vs,H A.d=some (.lst vs)/\S.ds.length=S.ls.length/\Paired (gb H) (S.ds.zip S.ls) vs
 s:H A.s=some (.lst (Cs.map V.ref))
 c:Paired (fun C (l:List Nat)=>H C=some (.lst (l.map fun n:Nat=>V.int (n:Int)))) Cs S.ch
section
variable {H0 H H':Hp} {A:oA} {S:Pl} {Cs:List Addr} {lo:V}
end
end Og
namespace Og
open PySem L2
variable {K:PySem.W.Frag} {aB aP aM:Addr}
noncomputable def lw (bs:List (Str × Nat)) (r:R):Dt->Prop
 | .stop b _=>r.w = "stop" /\ ∃ x,bs[b]? = some x/\r.rest=[.str x.1]
 | .coup a b s=>r.w = "coupler" /\ ∃ x y,bs[a]? = some x/\bs[b]? = some y/\r.rest=[.str x.1,.str y.1,.int s]
 | .mute b=>r.w = "mute" /\ ∃ x,bs[b]? = some x/\r.rest=[.str x.1]
structure pF (K:PySem.W.Frag) (aB aP aM:Addr) (base:Str) (S:Pl) (lo:V):Prop where
 bl:Jq K aB aP aM S.rows S.bs S.rk S.ks S.ls (S.ch.map Wd.mk)
 nb:∀ x∈S.bs,∃ i,i<S.rows.length/\x.1=iB base i
 nr:∀ x∈S.rk,∃ i,i<S.rows.length/\x.1=iB base i
 nk:∀ x∈S.ks,∃ i,i<S.rows.length/\x.nm=iB base i
 db:(S.bs.map (·.1)).Nodup
 dr:(S.rk.map (·.1)).Nodup
 dk:(S.ks.map (·.nm)).Nodup
 b5:S.bs.length<=5
 sb:∀ x∈S.bs,1<=x.2/\x.2<=61
 r12:S.rk.length<=12
 sr:∀ x∈S.rk,1<=x.2.1/\x.2.1<=97
 lk:S.ks.length<=S.rows.length
 pd:Paired (lw S.bs) S.ks S.ds
 ch:∀ l∈S.ch,l.Nodup/\∀ i∈l,∃ k,S.ks[i]? = some k/\k.w = "stop"
 op:lo=.non \/ ∃ ds0 b L x ls0 l0,S.ds=ds0++[.stop b L]/\S.ls=ls0++[l0]/\lo=.ref L/\S.bs[b]? = some x/\Tl S.rows x.1 l0.length
section
variable {base:Str} {S:Pl} {lo:V}
noncomputable def pQ (ks:List R) (i:Nat):Str:=((ks[i]?).map (·.nm)).getD ""
noncomputable abbrev o9 (a1 a2 a3 a4 a5 a6:Addr):List (Key × V):=[(Sum.inr "rows",.ref a1),(Sum.inr "boards",.ref a2),(Sum.inr "ranks",.ref a3),(Sum.inr "knobs",.ref a4),(Sum.inr "details",.ref a5),(Sum.inr "steps",.ref a6),(Sum.inr "lines",.non)]
end
end Og
namespace Og
open PySem L2
noncomputable def o7 (x:V):Prop:=(∃ t,x=.str t) \/ ∃ i,x=.int i
noncomputable def oY (H:Hp) (vs:List V):Prop:=∀ v∈vs,∃ (T:Addr) (xs:List V),v=.ref T/\H T=some (.tup xs)/\∀ x∈xs,o7 x
variable {K:PySem.W.Frag} {aB aP aM:Addr}
noncomputable def oX (rows:List R):V->R
 | .int i=>(rows[i.toNat]?).getD ⟨"","",[]⟩
 | _=>⟨"","",[]⟩
end Og
namespace L2
open PySem PySem.Spec PyProof.Rows
section
variable {X:Cx}
end
end L2
namespace L2
open PySem PySem.Spec PySem.Calls PySem.Builtin PySem.Builtin.Str PyProof.Rows
section
variable {X:Cx}
end
end L2
namespace Og
open PySem L2
noncomputable def Tx (t:Str):Prop:=t.length<=1000/\∀ c∈t.cps.toList,c<128
theorem isNm.tx {t:Str} (h:isNm t):Tx t:=⟨by have:=h.2.1; omega,fun c hc=>by have:=h.2.2 c hc; omega⟩
inductive Ks (H:Hp):V->Prop where
 | non:Ks H .non
 | bl (b:Bool):Ks H (.bl b)
 | int (i:Int):Ks H (.int i)
 | lst {a:Addr} {xs:List V} (h:H a=some (.lst xs)):Ks H (.ref a)
 | tup {a:Addr} {xs:List V} (h:H a=some (.tup xs)):Ks H (.ref a)
 | str {t:Str} (h:Tx t):Ks H (.str t)
noncomputable def Uh (ns:List Str):V->V
 | .str t=>if t∈ns then .int ((ns.idxOf t:Nat):Int) else .non
 | _=>.non
theorem Vd {ns:List Str} {t:Str} (h:t∈ns):ns[ns.idxOf t]? = some t:=by
 have hl:=List.idxOf_lt_length_of_mem h
 rw [List.getElem?_eq_getElem hl,List.getElem_idxOf hl]
end Og
namespace Og
open PySem L2
noncomputable def Rz (K:PySem.W.Frag) (C:Addr):Bool:=(PySem.W.findIn K (.ref C) "__getattribute__" == some (some (.builtin "BaseException.__getattribute__"))) && (PySem.W.findIn K (.ref C) "__getattr__" == some none) &&
 (PySem.W.mroIn K C (.type "BaseException") == some true) && PySem.W.hasDictIn K C && (PySem.W.findIn K (.ref C) "__class__" == some (some (.builtin "object.__class__"))) &&
 (PySem.W.specialIn K (.builtin "object.__class__") "__get__" == some (some (.builtin "getset_descriptor.__get__"))) && (PySem.W.takesIn K (.builtin "object.__class__") == some true) && (PySem.W.mroIn K C (.type "object") == some true) && PySem.W.keepIn K (.ref C)
theorem L_ {K:PySem.W.Frag} {C:Addr} (h:Rz K C=true):Zo K C/\PySem.W.keepIn K (.ref C)=true:=by
 simp only [Rz,Bool.and_eq_true,beq_iff_eq] at h
 obtain ⟨⟨⟨⟨⟨⟨⟨⟨h1,h2⟩,h3⟩,h4⟩,h5⟩,h6⟩,h7⟩,h8⟩,h9⟩:=h
 exact ⟨⟨h1,h2,h3,h4,h5,h6,h7,h8⟩,h9⟩
noncomputable def Qu (K:PySem.W.Frag) (C cO:Addr) (ds:List Addr):Bool :=
 Rz K C && (PySem.W.kitOne K (.ref C) (.ref C) == some true) && (PySem.W.kitOne K (.ref C) (.type "ValueError") == some true) && (PySem.W.kitAny K (.ref C) (ds.map Value.ref) == some false) && (ds.all fun D=>PySem.W.kitOne K (.ref C) (.ref D) == some false) &&
 PySem.W.excIn K C Uy "ValueError.__new__" && (PySem.W.mroIn K C (.ref cO) == some true)
structure Rc (K:PySem.W.Frag) (C cO:Addr) (ds:List Addr):Prop where
 xc:Zo K C
 kp:PySem.W.keepIn K (.ref C)=true
 k0:PySem.W.kitOne K (.ref C) (.ref C)=some true
 kv:PySem.W.kitOne K (.ref C) (.type "ValueError")=some true
 ka:PySem.W.kitAny K (.ref C) (ds.map Value.ref)=some false
 kf:∀ D∈ds,PySem.W.kitOne K (.ref C) (.ref D)=some false
 ex:PySem.W.excIn K C Uy "ValueError.__new__" = true
 mro:PySem.W.mroIn K C (.ref cO)=some true
theorem Rc.of {K:PySem.W.Frag} {C cO:Addr} {ds:List Addr} (h:Qu K C cO ds=true):Rc K C cO ds:=by
 unfold Qu at h
 simp only [Bool.and_eq_true,beq_iff_eq,List.all_eq_true] at h
 obtain ⟨⟨⟨⟨⟨⟨a1,a2⟩,a3⟩,a4⟩,a5⟩,a6⟩,a7⟩:=h
 exact ⟨(L_ a1).1,(L_ a1).2,a2,a3,a4,a5,a6,a7⟩
noncomputable abbrev Tu:List Str:=["__init__","draw","pull","push","store","press","cancel","shoe","drawn","knobs","step"]
structure Gf (Cy:Addr) (H:Hp) (y x:Addr) (dr sh:Nat) (sd:Addr):Prop where
 ex:∃ dy fs,H y=some (.ins Cy dy fs)/\fs.lookup ("organ" : Str)=some (.ref x)/\fs.lookup ("drawn_set" : Str)=some (.int (dr:Nat))/\fs.lookup ("shoe_step" : Str)=some (.int (sh:Nat))/\fs.lookup ("stored" : Str)=some (.ref sd)/\fs.length<=4/\∀ m∈Tu,fs.lookup m=none
theorem Gf.mono {Cy:Addr} {H H':Hp} {y x:Addr} {dr sh:Nat} {sd:Addr} (s:Ak H H') (h:Gf Cy H y x dr sh sd):Gf Cy H' y x dr sh sd:=by
 obtain ⟨dy,fs,h1,h2⟩:=h.ex
 exact ⟨dy,fs,s _ _ h1,h2⟩
structure j9 (C Cy:Addr) (Ho H:Hp) (y x:Addr) (us:List V) (bs:List (Str × Nat)) (rk:List (Str × Nat × Int)) (ks:List R) (ls:List (List Ln)) (sts:List Nat) (dr sh:Nat) (sd:Addr):Prop where
 o:Jk C Ho x us bs rk ks ls sts
 s:Ak Ho H
 n:Ho y=none
 c:Gf Cy H y x dr sh sd
theorem Dw (f:Str) (v:V):∀ fs:List (Str × V),(BJ f v fs).length<=fs.length+1
 | []=>Nat.le_refl _
 | (g,x)::r=>by
  unfold BJ
  split
  ·exact Nat.le_succ _
  ·exact Nat.succ_le_succ (Dw f v r)
theorem Gf.new {Cy:Addr} {H:Hp} {y dy x sd:Addr} (h:H y=some (.ins Cy dy (BJ "stored" (.ref sd) (BJ "shoe_step" (.int 0) (BJ "drawn_set" (.int 0) (BJ "organ" (.ref x) [])))))):Gf Cy H y x 0 0 sd:=by
 refine ⟨dy,_,h,?_,?_,?_,?_,?_,fun m hm=>?_⟩
 ·rw [Ah,if_neg (by decide +kernel),Ah,if_neg (by decide +kernel),Ah,if_neg (by decide +kernel),Ah,if_pos rfl]
 ·rw [Ah,if_neg (by decide +kernel),Ah,if_neg (by decide +kernel),Ah,if_pos rfl]
  rfl
 ·rw [Ah,if_neg (by decide +kernel),Ah,if_pos rfl]
  rfl
 ·rw [Ah,if_pos rfl]
 ·have h1:=Dw "stored" (.ref sd) (BJ "shoe_step" (.int 0) (BJ "drawn_set" (.int 0) (BJ "organ" (.ref x) [])))
  have h2:=Dw "shoe_step" (.int 0) (BJ "drawn_set" (.int 0) (BJ "organ" (.ref x) []))
  have h3:=Dw "drawn_set" (.int 0) (BJ "organ" (.ref x) [])
  have h4:=Dw "organ" (.ref x) []
  have h5:([]:List (Str × V)).length=0:=rfl
  omega
 ·have ne:∀ f:Str,f ∉ Tu->¬ m=f:=fun f hf e=>hf (e ▸ hm)
  rw [Ah,if_neg (ne _ (by decide +kernel)),Ah,if_neg (ne _ (by decide +kernel)),Ah,if_neg (ne _ (by decide +kernel)),Ah,if_neg (ne _ (by decide +kernel))]
  rfl
end Og
namespace Og
open PySem L2
structure oO (K:PySem.W.Frag) (mg:Str->Option Value) (cH cO:Addr):Prop where
 verr:mg "ValueError" = none
 mH:mg "NotHeld" = some (.ref cH)
 mO:mg "OrganError" = some (.ref cO)
 exH:PySem.W.excIn K cH Uy "ValueError.__new__" = true
 rH:Rc K cH cO []
 mHH:PySem.W.mroIn K cH (.ref cH)=some true
noncomputable abbrev Tg:List Str:=["__init__","hold","leave","act","do","sound","held","knobs"]
structure HR (Cp:Addr) (H:Hp) (z x y hd:Addr):Prop where
 ex:∃ dz fs,H z=some (.ins Cp dz fs)/\fs.lookup ("organ" : Str)=some (.ref x)/\fs.lookup ("console" : Str)=some (.ref y)/\fs.lookup ("hands" : Str)=some (.ref hd)/\∀ m∈Tg,fs.lookup m=none
theorem HR.mono {Cp:Addr} {H H':Hp} {z x y hd:Addr} (s:Ak H H') (h:HR Cp H z x y hd):HR Cp H' z x y hd:=by
 obtain ⟨dz,fs,h1,l1,l2,l3,lm⟩:=h.ex
 exact ⟨dz,fs,s _ _ h1,l1,l2,l3,lm⟩
end Og
namespace Og
open PySem L2
noncomputable abbrev Pt:=Nat × Nat
noncomputable def pK (nx:Pt->Option Pt) (p0:Pt) (ps:List Pt):Prop:=∀ (i:Nat) (p q:Pt),(p0::ps)[i]? = some p->(p0::ps)[i+1]? = some q->nx p=some q
noncomputable def oE (s0 s1 b:Nat):Nat:=if b=0 then s0 else s1
noncomputable def enc (s0:Nat) (p:Pt):Nat:=p.1 * s0+p.2
noncomputable abbrev Way:=Option (Nat × Int)
noncomputable def wy (w0 w1:Way) (b:Nat):Way:=if b=0 then w0 else w1
noncomputable def nxt (s0 s1:Nat) (w0 w1:Way) (p:Pt):Option Pt:=match wy w0 w1 p.1 with
 | none=>none
 | some (g,s)=>if 0<=(p.2:Int)+s/\(p.2:Int)+s<(oE s0 s1 g:Nat) then some (g,((p.2:Int)+s).toNat) else none
structure pN (s0 s1:Nat) (p:Pt):Prop where
 b:p.1<2
 n:p.2<oE s0 s1 p.1
structure pI (kbs:List Kb) (D:Nat) (w0 w1:Way):Prop where
 out:∀ k z,D.testBit k=true->kbs[k]? = some z->∃ j1 j2 s,z=.cp j1 j2 s/\wy w0 w1 j1=some (j2,s)/\j2<2
 back:∀ b g s,b<2->wy w0 w1 b=some (g,s)->∃ k,D.testBit k=true/\kbs[k]? = some (.cp b g s)
end Og
namespace Og
open PySem L2
inductive Xq (nx:Pt->Option Pt) (hd:Pt->Prop):Pt->Prop
 | one {p q:Pt}:hd p->nx p=some q->Xq nx hd q
 | more {p q:Pt}:Xq nx hd p->nx p=some q->Xq nx hd q
structure oW (kbs:List Kb) (D:Nat) (w0 w1:Way):Prop where
 out:∀ (k:Nat) (z:Kb),D.testBit k=true->kbs[k]? = some z->(∃ w i,z=.pl w i) \/ ∃ j1 j2 s,z=.cp j1 j2 s/\wy w0 w1 j1=some (j2,s)/\j2<2
 back:∀ b g s,b<2->wy w0 w1 b=some (g,s)->∃ k:Nat,D.testBit k=true/\kbs[k]? = some (.cp b g s)
end Og
namespace L2
open PySem PySem.Spec PySem.Calls PyProof.Rows
section
variable {X:Cx}
end
end L2
namespace L2
open PySem PySem.Spec PySem.Calls PyProof.Rows
section
variable {X:Cx}
end
end L2
namespace Gn
end Gn
namespace L2
open PySem PySem.Spec PySem.Calls PyProof.Rows
noncomputable def iW (K:PySem.W.Frag) (O:Addr) (ts:TS) (D:Ends):XR:=fun C od σ H2=>∃ Ca,C=.ref Ca/\PySem.W.mroIn K Ca (.ref O)=some true/\ts D σ H2
noncomputable def ak (K:PySem.W.Frag) (tb:XR->TS) (O:Addr) (ts:TS):TS:=fun D σ H=>tb (iW K O ts D) D σ H
section
variable {X:Cx} {O:Addr} {cn:Str} {np hpos pos:Pos} {body:List Stmt} {b0:Stmt} {suite:List Stmt} {ts:TS} {tb:XR->TS}
theorem Vo (hb:∀ ER,cW X ER body (tb ER)) (hgO:Gl X cn) (hmO:X.mg cn=some (.ref O)) (qO:PySem.W.excIn X.K O Uy "ValueError.__new__" = true)
  (hs:∀ x,Ny (X.inX x) (b0::suite) ts) (hxe:X.xe=fun _ _=>False:=by rfl) (hst:X.stack=X.env::X.outer:=by rfl) (hfrm:X.env.frame=some X.env.locals:=by rfl) (hdO:(cn == ("__debug__" : Str))=false:=by decide) :
  PS X (.Try body [.ExceptHandler (some (.Name cn np)) none (b0::suite) hpos] [] [] pos) (ak X.K tb O ts):=by
 intro pins s₀ σ₀ H₀ D I₀ h₀
 refine wpAny_Try_except (wpAny_mono (hb _ pins s₀ σ₀ H₀ D I₀ h₀) (fun fl s' q=>?_) fun e' s' q=>?_)
 ·cases fl with
  | next=>exact wpAny_execs_nil q
  | brk=>exact q
  | cont=>exact q
  | ret u=>exact q
 ·obtain ⟨σ,H1,s1,I1,x,T,C,od,H2,rfl,os,bare,y,nx,nT,hx2,hT2,hok2,un2,Ca,eC,hmro,hts⟩:=q
  cases eC
  obtain ⟨h1,g,dr,tk,os'⟩:=s'
  obtain rfl:os'=s1.os:=os
  have I2:Inv X pins σ H2 ⟨h1,g,dr,tk,s1.os⟩:=I1.call (h':=h1) (g':=g) (d':=dr) (t':=tk) (ch:=[]) un2 hok2 bare (fun b z=>absurd z (by simp))
  have hfr:=I1.ok.frames
  have hff:=I2.stack
  rw [hst] at hfr hff
  refine PK (s:=⟨h1,g,dr,tk,s1.os⟩) hfr hff hfrm y fun h3 T3 y3 m3 n3=>?_
  refine Ey (s:=⟨h3,g,dr,tk,s1.os⟩) y3 fun h4 y4 m4=>?_
  have nT3:s1.heap.get? T3=none:=by
   cases z:s1.heap.get? T3 with
   | none=>rfl
   | some o =>
    obtain ⟨o',e'⟩:=un2.there T3 o z (by simp)
    have n3':h1.get? T3=none:=n3
    rw [n3'] at e'; cases e'
  have hT3:H2 T3=none:=hok2.none_of n3
  have m3':Mv (frs X.stack) x T h1 h3:=by rw [hst]; exact m3
  have u3:=un2.mv m3' nx nT (fun b z z'=>absurd z z')
  have u4:=u3.mv m4 nx nT3 (fun _ z=>nomatch z)
  have k3:Ex X.prog X.w H2 h3:=hok2.mv m3' hx2 hT2 I2.Gx
  have k4:Ex X.prog X.w H2 h4:=k3.mv m4 hx2 hT3 (fun _ z=>nomatch z)
  have I4:Inv X pins σ H2 ⟨h4,g,dr,tk,s1.os⟩:=I1.call (h':=h4) (g':=g) (d':=dr) (t':=tk) (ch:=[]) u4 k4 bare (fun b z=>absurd z (by simp))
  refine wpAny_handleBy_cons (codeAny_handlers_test (Hs (I4.inX x) hgO hmO ?_ hdO)) (by intro q; cases q)
  obtain ⟨ws,wt,sl,oT,ex,_⟩:=id y4
  refine MP (s:=⟨h4,g,dr,tk,s1.os⟩) I4.Gw ex qO hmro ?_
  refine codeAny_handlers_suite (Ey (s:=⟨h4,g,dr,tk,s1.os⟩) y4 fun h5 y5 m5=>?_)
  have u5:=u4.mv m5 nx nT3 (fun _ z=>nomatch z)
  have k5:Ex X.prog X.w H2 h5:=k4.mv m5 hx2 hT3 (fun _ z=>nomatch z)
  have I5:Inv X pins σ H2 ⟨h5,g,dr,tk,s1.os⟩:=I1.call (h':=h5) (g':=g) (d':=dr) (t':=tk) (ch:=[]) u5 k5 bare (fun b z=>absurd z (by simp))
  refine wpAny_mono (hs x pins _ _ _ _ (I5.inX x) hts) (fun fl s7 h7=>?_) fun e' s7 h7=>?_
  ·cases fl with
   | next=>obtain ⟨σ',H',J,qq⟩:=h7; exact ⟨_,_,J.UL I1.ok,qq⟩
   | brk=>obtain ⟨σ',H',J,qq⟩:=h7; exact ⟨_,_,J.UL I1.ok,qq⟩
   | cont=>obtain ⟨σ',H',J,qq⟩:=h7; exact ⟨_,_,J.UL I1.ok,qq⟩
   | ret u=>obtain ⟨v,σ',H',J,rv,qq⟩:=h7; exact ⟨_,_,_,J.UL I1.ok,rv,qq⟩
  ·have h7':X.xe e' s7:=h7
   rw [hxe] at h7'
   exact h7'.elim
end
end L2
namespace L2
open PySem PySem.Spec PySem.Calls PyProof.Rows
section
variable {X:Cx} {pins:List (Addr × Obj)} {σ:St} {H:Hp} {s:Shared}
theorem Inv.freeze {a:Addr} {kvs:List (Key × V)} (I:Inv X pins σ H s) (e:H a=some (.dK kvs)):∃ o,Inv X pins σ (upd H a (.frz o (.dK kvs))) s:=by
 have oa:Bq X.prog X.w H s.heap a (.dK kvs):=I.hok a _ e
 obtain ⟨_,_,vs,rel,ob,es,ep,ho,_⟩:=id oa
 have up1:∀ b x,H b=some (.own x)->upd H a (.frz ob (.dK kvs)) b=some (.own x):=fun b x q=>by
  rw [Aq fun z=>by rw [z,e] at q; cases q]; exact q
 have up2:∀ b xs,H b=some (.tup xs)->upd H a (.frz ob (.dK kvs)) b=some (.tup xs):=fun b x q=>by
  rw [Aq fun z=>by rw [z,e] at q; cases q]; exact q
 refine ⟨ob,I.step (h':=s.heap) (g':=s.gens) (d':=s.drawn) (t':=s.toks) (ch:=[]) (fun _ z=>nomatch z) (fun b o _ _ _ q _=>q) (fun b o _ _ _ q _=>⟨o.slots,q⟩) (fun b o _ _ n=>?_) (fun b o _ q=>⟨o,q⟩) up2 (fun b o u q=>?_) (fun b ps q=>⟨#[],?_⟩) (fun m q=>q) (fun b u q=>?_) I.bare⟩
 ·rw [Aq fun z=>by rw [z,e] at n; cases n]; exact n
 ·rw [Aq fun z=>by rw [z,e] at q; cases q]; exact q
 ·rw [Aq (fun z=>by rw [z,e] at q; cases q),q]; simp
 ·by_cases hb:b=a
  ·subst hb
   rw [Ai] at q
   cases q
   exact ⟨ho,oa.stay (fun _ _ _ q=>q) (fun c q=>up1 c _ q) up2⟩
  ·rw [Aq hb] at q
   exact (I.hok b u q).stay (fun _ _ _ q=>q) (fun c q=>up1 c _ q) up2
end
noncomputable def R_ (o:Obj):Nat:=match o.data with | .dict _ n=>n | _=>0
noncomputable def lu (a:Addr) (o:Obj) (kvs:List (Key × V)):It :=
 ⟨fun i H=>H a=some (.frz o (.dK kvs))/\i<kvs.length,fun i H v H'=>∃ T kv,H T=none/\v=.ref T/\kvs[i]? = some kv/\H'=upd H T (.tup [kV kv.1,kv.2]),fun i H=>H a=some (.frz o (.dK kvs))/\kvs.length<=i⟩
theorem aY {P:Program} {w:World} {k:Key} {u:Value} (h:(Bl P w).is k u=true):RelV (kV k) u:=by
 rcases Bw (show Ir k u=true from h) with ⟨i,t,rfl,rfl⟩ | ⟨x,t,rfl,rfl⟩
 ·exact ⟨t,rfl⟩
 ·exact ⟨t,rfl⟩
theorem Xw:∀ {l:List (Key × V)} {m:List (Key × Value)},KV l m->∀ {j:Nat} {p:Key × V},l[j]? = some p->∃ q,m[j]? = some q/\p.1=q.1/\RelV p.2 q.2:=by
 intro l m h
 unfold KV at h
 induction h with
 | nil=>intro j p hp; simp at hp
 | cons a b ih =>
  intro j p hp
  cases j with
  | zero =>
   simp at hp
   subst hp
   exact ⟨_,rfl,a⟩
  | succ j=>exact ih (by simpa using hp)
theorem M4 {P:Program} {w:World} {K:PySem.W.Frag} {es:List Expr} {k1:Nat} {pos:Pos} (a it:Addr) (o:Obj) (kvs:List (Key × V)) (hne:a ≠ it) :
  Turn P w K (.Tuple es k1 pos) (lu a o kvs) [it] it (fun i h=>∃ ok ov,IsItemIter h it a i kvs.length (R_ o) ok ov) where
 mem:=by simp
 obj:=fun i h st b hb=>by
  obtain ⟨ok,ov,he⟩:=st
  have q:b=it:=by simpa using hb
  subst q
  exact ⟨_,he,fun v z=>by
   have z':Data.fields _=Data.cell v:=z
   cases z'⟩
 keep:=fun i h h' st k=>by
  obtain ⟨ok,ov,he⟩:=st
  exact ⟨ok,ov,k it (by simp) _ he⟩
 item:=by
  intro X hP hw hK hc i pins s σ H E I hf st hg
  subst hP hw hK
  obtain ⟨ha,hi⟩:=hg
  obtain ⟨ok,ov,he⟩:=st
  have oa:Bq X.prog X.w H s.heap a (.frz o (.dK kvs)):=I.hok a _ ha
  obtain ⟨ho,_,_,vs,rel,ob,es',ep',ho',e2,e3,e4,e5,e6⟩:=oa
  rw [ho] at ho'
  cases ho'
  have eep:R_ o=ep':=by unfold R_; rw [e3]
  have hda:s.heap.DictAt (Bl X.prog X.w) a vs (R_ o):=⟨o,es',ho,e2,by rw [eep]; exact e3,e4,e5,e6⟩
  have hl:=rel.length
  obtain ⟨⟨k,x⟩,hx⟩:∃ p,kvs[i]? = some p:=⟨kvs[i],by simp [hi]⟩
  obtain ⟨⟨k',u⟩,hu,ek,ru⟩:∃ q,vs[i]? = some q/\k=q.1/\RelV x q.2:=by
   exact Xw rel hx
  have ek':k=k':=ek
  subst ek'
  rw [hl] at he
  refine wpAny_pyNext_items_item he hda hu fun key h1 hkey n1 n3 n4 n5=>?_
  refine ⟨_,rfl,wpAny_letOwnedTupleGo_items (s:={ s with heap:=h1 }) n1 fun h2 m1 m2=>?_⟩
  have hT:s.heap.objs.size ≠ it:=Nat.ne_of_gt (Heap.lt_size he)
  have fr:H s.heap.objs.size=none:=I.hok.fresh (Nat.le_refl _)
  have nw:Bq X.prog X.w (upd H s.heap.objs.size (.tup [kV k,x])) h2 s.heap.objs.size (.tup [kV k,x]) :=
   ⟨by show 2<=sizeLine; decide,[key,u],.cons (aY hkey) (.cons ru .nil),_,m2.extBut _ _ hT n3,rfl,_,rfl⟩
  refine ⟨.ref s.heap.objs.size,_,I.Jb (t':=s.toks) (ch:=[it]) hf (fun b o hb q=>?_) (Nat.le_refl _) nw,rfl,⟨_,(k,x),fr,rfl,hx,rfl⟩,⟨_,_,by rw [hl]; exact m1⟩,fun b hb=>?_⟩
  ·exact m2.extBut _ _ (fun z=>hb (by simp [z])) (n5 b o (fun z=>hb (by simp [z])) q)
  ·have q:b=it:=by simpa using hb
   subst q
   rw [Aq (Ne.symm hT)]
   exact (hf _ hb).1
 done:=by
  intro X hP hw hK hc i pins s σ H E I hf st hg
  subst hP hw hK
  obtain ⟨ha,hi⟩:=hg
  obtain ⟨ok,ov,he⟩:=st
  have oa:Bq X.prog X.w H s.heap a (.frz o (.dK kvs)):=I.hok a _ ha
  obtain ⟨ho,_,_,vs,rel,ob,es',ep',ho',e2,e3,e4,e5,e6⟩:=oa
  rw [ho] at ho'
  cases ho'
  have eep:R_ o=ep':=by unfold R_; rw [e3]
  have hda:s.heap.DictAt (Bl X.prog X.w) a vs (R_ o):=⟨o,es',ho,e2,by rw [eep]; exact e3,e4,e5,e6⟩
  have hl:=rel.length
  rw [hl] at he
  exact wpAny_pyNext_items_end (I.ok.hd hc) he hda (List.getElem?_eq_none (by omega)) fun h1 eb=>⟨rfl,I.Kh (t':=s.toks) (ch:=[it]) hf fun b o hb q=>eb b o (fun z=>hb (by simp [z])) q⟩
 self:=fun _ _ _ _ _ st h=>by
  obtain ⟨ok,ov,he⟩:=st
  exact PySem.W.kcp_self he h
noncomputable def Wz (td:TE):TI:=fun σ H R=>td σ H fun x H1=>∃ a o kvs,x=.ref a/\H1 a=some (.frz o (.dK kvs))/\R (lu a o kvs) H1
theorem SN {X:Cx} {es:List Expr} {k1:Nat} {tpos apos cpos:Pos} {o:Expr} {td:TE} (ho:PE X o td)
  (hbase:attributeBase o "items" X.env (eval o X.env)=eval o X.env:=by rfl) (hline:(apos.endLine == cpos.line)=true:=by rfl):PI X (.Tuple es k1 tpos) (.Call (.Attribute o "items" apos) [] [] cpos) (Wz td):=by
 intro pins s σ H R I h
 refine wpAny_Call_method0_late hbase hline (Br (ho pins s σ H _ I h) fun v s1 hq0=>?_)
 obtain ⟨x,H1,I1,r1,a,ob,kvs,ex,ea,q⟩:=hq0
 subst ex
 cases r1
 obtain ⟨t1,t2,t3⟩:=My I1 (.inl ⟨kvs,.inr ⟨ob,ea⟩⟩)
 refine ⟨"dict","dict.items",PySem.F.plainAttrs_dict,PySem.F.slot_dict_items,PySem.F.type_dict_items,t1,t2,Calls.callWith_builtin rfl (PySem.evalArgs_none ?_)⟩
 have oa:Bq X.prog X.w H1 s1.heap a (.frz ob (.dK kvs)):=I1.hok a _ ea
 obtain ⟨hob,_,_,vs,rel,ob',es',ep',ho',e2,e3,e4,e5,e6⟩:=oa
 rw [hob] at ho'
 cases ho'
 have eep:R_ ob=ep':=by unfold R_; rw [e3]
 have hda:s1.heap.DictAt (Bl X.prog X.w) a vs (R_ ob):=⟨ob,es',hob,e2,by rw [eep]; exact e3,e4,e5,e6⟩
 have hl:=rel.length
 refine call_meetsIn PySem.F.slot_dict_items t1 PySem.F.entry_dict_items (PySem.F.args_dict_items_1 _) (meets_dict_items (Bl X.prog X.w) a t3) ⟨⟨vs,hda.dictOf⟩,?_⟩
 have ha:a<s1.heap.objs.size:=Heap.lt_size hob
 refine wpAny_pyIter_items (v:=s1.heap.objs.size) (d:=a) (kvs:=vs) (ep:=R_ ob) ⟨_,Heap.get?_push_size _ rfl,rfl,rfl⟩ (hda.push _) ?_
 have I2:=I1.kept (h':=s1.heap.push { cls:=.type "dict_items",data:=.fields #[.ref a] }) (t':=s1.toks) fun b o e=>Heap.get?_push_of_some _ e
 refine ⟨_,[_],_,_,H1,rfl,I2.kept (t':=s1.toks) fun b o e=>Heap.get?_push_of_some _ e,M4 a _ ob kvs ?_,⟨_,_,by rw [hl]; exact Heap.get?_push_size _ rfl⟩,fun b hb=>?_,q⟩
 ·rw [Heap.size_push]
  exact Nat.ne_of_lt (Nat.lt_succ_of_lt ha)
 ·have e:b=(s1.heap.push { cls:=.type "dict_items",data:=.fields #[.ref a] }).objs.size:=by simpa using hb
  subst e
  exact I2.J2 (Nat.le_refl _) (I2.hok.fresh (Nat.le_refl _))
section
variable {σ:St} {H1:Hp} {Q:VK} {tt:TT} {te:TE}
theorem NZ {K:PySem.W.Frag} {a:Addr} {o:Obj} {kvs:List (Key × V)} (p:Key × V->Bool) (f:Key × V->V) (hx:H1 a=some (.frz o (.dK kvs))) (hz:kvs.length<sizeLine)
  (ht:∀ kv∈kvs,∀ H,Ak H1 H->∀ R:Bool->Hp->Prop,(∀ H',Ak H H'->R (p kv) H')->tt (some (kV kv.1)::some kv.2::σ) H R)
  (he:∀ kv∈kvs,p kv=true->∀ H,Ak H1 H->∀ R:VK,(∀ H',Ak H H'->R (f kv) H')->te (some (kV kv.1)::some kv.2::σ) H R)
  (hq:∀ D H,H1 D=none->Ak H1 H->H D=some (.lst ((kvs.filter p).map f))->Q (.ref D) H):Hm (lu a o kvs) σ H1 Q (Qn K 2 (Gj (Cw 0) (Gj (Cw 1) Ph))) tt te:=by
 intro D hD
 have s0:Ak H1 (upd H1 D (.lst [])):=fun b o e=>by rw [Aq (Am e hD)]; exact e
 refine ⟨fun i m zs H=>m=kvs.length - i/\i<=kvs.length/\zs=(((kvs.take i).filter p).map f)/\H D=some (.lst zs)/\Ak H1 H,⟨kvs.length,by simp,Nat.zero_le _,by simp,Ai,s0⟩,?_⟩
 rintro i m zs H ⟨rfl,hi,rfl,hd,hs⟩
 by_cases hlt:i<kvs.length
 ·refine .inr ⟨⟨hs _ _ hx,hlt⟩,fun v H3 hv v0 v1=>?_⟩
  obtain ⟨T,kv,hT,rfl,qx,rfl⟩:=hv
  have hkm:=List.mem_of_getElem? qx
  have s3:Ak H (upd H T (.tup [kV kv.1,kv.2])):=fun b o e=>by rw [Aq (Am e hT)]; exact e
  have hlen:(((kvs.take i).filter p).map f).length<sizeLine:=by
   rw [List.length_map]
   refine Nat.lt_of_le_of_lt (List.length_filter_le _ _) (Nat.lt_of_le_of_lt ?_ hz)
   rw [List.length_take]; omega
  refine ⟨T,[kV kv.1,kv.2],rfl,.inl (.inl Ai),rfl,_,[kv.2],rfl,kv.2,[],rfl,rfl,⟨_,_,rfl⟩,?_⟩
  refine ht kv hkm _ (hs.trans s3) _ fun H4 s4=>?_
  by_cases hp:p kv=true
  ·rw [if_pos hp]
   refine he kv hkm hp _ (hs.trans (s3.trans s4)) _ fun H5 s5=>?_
   refine ⟨s5 _ _ (s4 _ _ (s3 _ _ hd)),hlen,kvs.length - (i+1),by omega,rfl,hlt,?_,Ai,fun b o e=>?_⟩
   ·rw [take_succ_filter p kvs i kv qx,if_pos hp,List.map_append]
    rfl
   ·rw [Aq (Am e hD)]
    exact s5 _ _ (s4 _ _ (s3 _ _ (hs _ _ e)))
  ·rw [if_neg hp]
   refine ⟨kvs.length - (i+1),by omega,rfl,hlt,?_,s4 _ _ (s3 _ _ hd),hs.trans (s3.trans s4)⟩
   rw [take_succ_filter p kvs i kv qx,if_neg hp,List.append_nil]
 ·have e:i=kvs.length:=by omega
  subst e
  rw [List.take_length] at hd
  exact .inl ⟨⟨hs _ _ hx,Nat.le_refl _⟩,hq D H hD hs hd⟩
end
end L2
namespace L2
open PySem PySem.Spec PyProof.Rows
section
variable {σ:St} {H1:Hp} {Q:VK} {te:TE}
end
end L2
namespace L2
open PySem PySem.Spec PySem.Calls PyProof.Rows
section
variable {X:Cx} {pins:List (Addr × Obj)} {σ:St} {H:Hp} {s:Shared}
theorem Inv.nA {a:Addr} {o:Obj} {u:HO} (I:Inv X pins σ H s) (e:H a=some (.frz o u)) (nb:∀ o' u',X.H₀ a ≠ some (.frz o' u')):Inv X pins σ (upd H a u) s:=by
 have oa:Bq X.prog X.w H s.heap a (.frz o u):=I.hok a _ e
 obtain ⟨ho,ou⟩:=id oa
 have up1:∀ b x,H b=some (.own x)->upd H a u b=some (.own x):=fun b x q=>by
  rw [Aq fun z=>by rw [z,e] at q; cases q]; exact q
 have up2:∀ b xs,H b=some (.tup xs)->upd H a u b=some (.tup xs):=fun b x q=>by
  rw [Aq fun z=>by rw [z,e] at q; cases q]; exact q
 have nn:∀ b,H b=none->upd H a u b=none:=fun b n=>by rw [Aq fun z=>by rw [z,e] at n; cases n]; exact n
 refine ⟨I.ok,I.os,I.bare,⟨I.base.keep,I.base.slot,fun b o q n hx=>nn b (I.base.free b o q n hx),I.base.there,fun b xs q=>up2 b xs (I.base.tups b xs q),fun b o' u' q=>?_,fun b ps q=>?_⟩,I.loc,I.cell,nn _ I.free,fun x c q=>nn _ (I.freeC x c q),fun p hp=>?_,fun b u' q=>?_,I.len⟩
 ·have:=I.base.frzs b o' u' q
  rw [Aq fun z=>nb o' u' (by rw [← z]; exact q)]
  exact this
 ·obtain ⟨more,e1⟩:=I.base.tbls b ps q
  exact ⟨more,by rw [Aq fun z=>by rw [z,e] at e1; cases e1]; exact e1⟩
 ·obtain ⟨g1,g2,g3⟩:=I.pin p hp
  exact ⟨g1,nn _ g2,g3⟩
 ·by_cases hb:b=a
  ·subst hb
   rw [Ai] at q
   cases q
   exact ou.stay (fun _ _ _ q=>q) (fun c q=>up1 c _ q) up2
  ·rw [Aq hb] at q
   exact (I.hok b u' q).stay (fun _ _ _ q=>q) (fun c q=>up1 c _ q) up2
theorem Inv.Zn {a:Addr} {kvs:List (Key × V)} (I:Inv X pins σ H s) (e:H a=some (.dK kvs)):∀ o' u',X.H₀ a ≠ some (.frz o' u'):=fun o' u' q=>by
 have:=I.base.frzs a o' u' q
 rw [e] at this
 cases this
end
noncomputable def Xk (t:TE):TE:=fun σ H Q=>∃ a kvs,H a=some (.dK kvs)/\∀ o,t σ (upd H a (.frz o (.dK kvs))) fun v H'=>H' a=some (.frz o (.dK kvs))/\Q v (upd H' a (.dK kvs))
theorem Q6 {X:Cx} {e:Expr} {t:TE} (h:PE X e t):PE X e (Xk t):=by
 intro pins s σ H Q I q
 obtain ⟨a,kvs,ha,q⟩:=q
 have nb:=I.Zn ha
 obtain ⟨o,J⟩:=I.freeze ha
 refine Br (h pins s σ _ _ J (q o)) fun v s' hv=>?_
 obtain ⟨x,H',J',r,e',q'⟩:=hv
 exact ⟨x,_,J'.nA e' nb,r,q'⟩
end L2
namespace Og
open PySem L2
structure Ea (kvs:List (Key × V)) (c:Nat->Nat):Prop where
 e:∀ kv∈kvs,∃ k:Nat,kv=(Sum.inl (k:Int),V.int ((c k:Nat):Int))/\k<1200
 v:∀ k:Nat,Bx kvs (Sum.inl (k:Int))=some (.int ((c k:Nat):Int)) \/ (Bx kvs (Sum.inl (k:Int))=none/\c k=0)
theorem Ea.nil:Ea [] fun _=>0:=⟨(fun _ h=>nomatch h),fun k=>.inr ⟨rfl,rfl⟩⟩
theorem Ea.getD {kvs:List (Key × V)} {c:Nat->Nat} (h:Ea kvs c) (k:Nat):(Bx kvs (Sum.inl (k:Int))).getD (.int 0)=.int ((c k:Nat):Int):=by
 rcases h.v k with e | ⟨e,z⟩
 ·rw [e]; rfl
 ·rw [e,z]; rfl
theorem Ss {kvs:List (Key × V)} {k:Key} {v:V} {kv:Key × V} (h:kv∈putK kvs k v):kv=(k,v) \/ (kv∈kvs/\kv.1 ≠ k):=by
 unfold putK at h
 split at h
 ·obtain ⟨p,hp,e⟩:=List.mem_map.mp h
  by_cases hk:p.1=k
  ·rw [if_pos hk] at e
   first | exact .inl e.symm | (left; rw [← e,hk])
  ·rw [if_neg hk] at e
   exact .inr ⟨e ▸ hp,e ▸ hk⟩
 ·rename_i hn
  rcases List.mem_append.mp h with z | z
  ·refine .inr ⟨z,fun hk=>hn ?_⟩
   exact List.any_eq_true.mpr ⟨kv,z,decide_eq_true hk⟩
  ·exact .inl (List.mem_singleton.mp z)
theorem Lz {kvs:List (Key × V)} {k:Key} {v:V}:(putK kvs k v).length<=kvs.length+1:=by
 unfold putK
 split
 ·rw [List.length_map]; omega
 ·rw [List.length_append]; exact Nat.le_refl _
noncomputable abbrev setC (c:Nat->Nat) (k n:Nat):Nat->Nat:=fun j=>if j=k then n else c j
theorem Ea.put {kvs:List (Key × V)} {c:Nat->Nat} {k n:Nat} (h:Ea kvs c) (hk:k<1200):Ea (putK kvs (Sum.inl (k:Int)) (.int ((n:Nat):Int))) (setC c k n):=by
 refine ⟨fun kv hkv=>?_,fun j=>?_⟩
 ·rcases Ss hkv with rfl | ⟨h1,h2⟩
  ·exact ⟨k,by rw [show setC c k n k=n from if_pos rfl],hk⟩
  ·obtain ⟨j,rfl,hj⟩:=h.e kv h1
   refine ⟨j,?_,hj⟩
   rw [show setC c k n j=c j from if_neg fun z=>h2 (by rw [z])]
 ·rw [Jc]
  by_cases hj:j=k
  ·subst hj
   rw [if_pos rfl,show setC c j n j=n from if_pos rfl]
   exact .inl rfl
  ·rw [if_neg (fun z=>hj (by have:=Sum.inl.inj z; omega)),show setC c k n j=c j from if_neg hj]
   exact h.v j
noncomputable def Ec (kvs:List (Key × V)):List Nat:=(kvs.filter fun kv=>match kv.2 with | .int n=>decide (0<n) | _=>false).map fun kv=>match kv.1 with | .inl i=>i.toNat | _=>0
theorem Ea.mem {kvs:List (Key × V)} {c:Nat->Nat} (h:Ea kvs c) (k:Nat):k∈Ec kvs ↔ 0<c k:=by
 unfold Ec
 rw [List.mem_map]
 constructor
 ·rintro ⟨kv,hkv,e⟩
  obtain ⟨h1,h2⟩:=List.mem_filter.mp hkv
  obtain ⟨j,rfl,_⟩:=h.e kv h1
  have h3:decide (0<((c j:Nat):Int))=true:=h2
  have:0<((c j:Nat):Int):=of_decide_eq_true h3
  have e':(j:Int).toNat=k:=e
  rw [Int.toNat_natCast] at e'
  subst e'
  omega
 ·intro hc
  rcases h.v k with e | ⟨_,z⟩
  ·unfold Bx at e
   obtain ⟨kv,hf,e2⟩:=Option.map_eq_some_iff.mp e
   have hm:=List.mem_of_find?_eq_some hf
   have hk:kv.1=Sum.inl (k:Int):=of_decide_eq_true (List.find?_some (p:=fun kv:Key × V=>decide (kv.1=Sum.inl (k:Int))) hf)
   refine ⟨kv,List.mem_filter.mpr ⟨hm,?_⟩,?_⟩
   ·rw [e2]
    exact decide_eq_true (by omega)
   ·rw [hk]
    exact Int.toNat_natCast k
  ·omega
theorem Ea.bound {kvs:List (Key × V)} {c:Nat->Nat} (h:Ea kvs c):∀ k∈Ec kvs,k<1200:=fun k hk=>by
 obtain ⟨kv,hkv,e⟩:=List.mem_map.mp hk
 obtain ⟨j,rfl,hj⟩:=h.e kv (List.mem_filter.mp hkv).1
 have e':(j:Int).toNat=k:=e
 rw [Int.toNat_natCast] at e'
 omega
theorem QC (kvs:List (Key × V)):(Ec kvs).length<=kvs.length:=by
 unfold Ec
 rw [List.length_map]
 exact List.length_filter_le _ _
structure Jh (C Cy Cp:Addr) (Ho H:Hp) (z x y hd:Addr) (us:List V) (bs:List (Str × Nat)) (rk:List (Str × Nat × Int)) (ks:List R) (ls:List (List Ln)) (sts:List Nat) (dr sh:Nat) (sd:Addr) (kvs:List (Key × V)) (c:Nat->Nat):Prop where
 con:j9 C Cy Ho H y x us bs rk ks ls sts dr sh sd
 ply:HR Cp H z x y hd
 n:Ho hd=none
 d:H hd=some (.dK kvs)
 h:Ea kvs c
section
variable {C Cy Cp:Addr} {Ho H H':Hp} {z x y hd:Addr} {us:List V} {bs:List (Str × Nat)} {rk:List (Str × Nat × Int)} {ks:List R} {ls:List (List Ln)} {sts:List Nat} {dr sh:Nat} {sd:Addr} {kvs kvs':List (Key × V)} {c c':Nat->Nat}
theorem Jh.mono (s:Ak H H') (p:Jh C Cy Cp Ho H z x y hd us bs rk ks ls sts dr sh sd kvs c):Jh C Cy Cp Ho H' z x y hd us bs rk ks ls sts dr sh sd kvs c :=
 ⟨⟨p.con.o,p.con.s.trans s,p.con.n,p.con.c.mono s⟩,p.ply.mono s,p.n,s _ _ p.d,p.h⟩
theorem Jh.sx {a:Addr} (s:SX a H H') (p:Jh C Cy Cp Ho H z x y hd us bs rk ks ls sts dr sh sd kvs c) (h0:Ho a=none) (hz:a ≠ z) (hy:a ≠ y) (hh:a ≠ hd):Jh C Cy Cp Ho H' z x y hd us bs rk ks ls sts dr sh sd kvs c:=by
 obtain ⟨dy,fs,k1,k⟩:=p.con.c.ex
 obtain ⟨dz,gs,g1,g⟩:=p.ply.ex
 exact ⟨⟨p.con.o,fun b o e=>s b o (p.con.s b o e) (Am e h0),p.con.n,dy,fs,s _ _ k1 (Ne.symm hy),k⟩,⟨dz,gs,s _ _ g1 (Ne.symm hz),g⟩,p.n,s _ _ p.d (Ne.symm hh),p.h⟩
theorem Jh.put (p:Jh C Cy Cp Ho H z x y hd us bs rk ks ls sts dr sh sd kvs c) (h:Ea kvs' c'):Jh C Cy Cp Ho (upd H hd (.dK kvs')) z x y hd us bs rk ks ls sts dr sh sd kvs' c':=by
 obtain ⟨dy,fs,k1,k⟩:=p.con.c.ex
 obtain ⟨dz,gs,g1,g⟩:=p.ply.ex
 have n1:y ≠ hd:=fun e=>by rw [e,p.d] at k1; cases k1
 have n2:z ≠ hd:=fun e=>by rw [e,p.d] at g1; cases g1
 exact ⟨⟨p.con.o,fun b o e=>by rw [Aq (Am e p.n)]; exact p.con.s b o e,p.con.n,dy,fs,by rw [Aq n1]; exact k1,k⟩,⟨dz,gs,by rw [Aq n2]; exact g1,g⟩,p.n,Ai,h⟩
end
end Og
namespace L2
open PySem PySem.Spec PyProof.Rows
section
variable {X:Cx} {o e f:Expr} {apos cpos:Pos} {td ty tx:TE}
noncomputable def Xv (K:PySem.W.Frag) (P:Params) (td ty tx:TE):TE:=fun σ H Q=>td σ H fun x H1=>∃ a,x=.ref a/\KDict K P a/\ty σ H1 fun y H2=>tx σ H2 fun d H3=>∃ z r,y=.str z/\PySem.W.nsIn K a z=some r/\∃ v,RelV v (r.getD .none)/\(r.isSome=true->Q v H3)/\(r.isSome=false->Q d H3)
theorem SJ (ho:PE X o td) (he:PE X e ty) (hf:PE X f tx) (m:M2 X o "get" apos e f cpos):PE X (.Call (.Attribute o "get" apos) [e,f] [] cpos) (Xv X.K X.w.params td ty tx):=by
 intro pins s σ H Q I h
 refine wpAny_Call_method m.base m.few m.line PySem.F.plainAttrs_dict PySem.F.slot_dict_get PySem.F.type_dict_get (Br (ho pins s σ H _ I h) fun u s1 hq0=>?_)
 obtain ⟨x,H1,I1,rx,a,ex,d,q1⟩:=hq0
 subst ex
 obtain rfl:u=Value.ref a:=rx
 obtain ⟨⟨es,n,hl,hk⟩,lo⟩:=d
 have hm1:=PySem.W.mapOf_K (prog:=X.prog) I1.Gw hl hk
 refine ⟨hm1.typeIs,fun b q=>?_,?_⟩
 ·cases q
  exact ⟨_,I1.Gw _ _ hl,rfl⟩
 rw [m.trees]
 refine Calls.callWith_builtin rfl (Calls.evalArgs_plain (Calls.spliced_cons (Br (he pins s1 σ H1 _ I1 q1) fun iv s2 ⟨y,H2,I2,ry,q2⟩ =>
  Calls.spliced_cons (Br (hf pins s2 σ H2 _ I2 q2) fun fv s3 ⟨dv,H3,I3,rz,z,r,ey,hw,v,rv,q3,q4⟩=>Calls.spliced_nil ?_))))
 subst ey
 obtain ⟨t,rfl⟩:=ry
 have hm:=PySem.W.mapOf_K (prog:=X.prog) I3.Gw hl hk
 refine call_meetsIn PySem.F.slot_dict_get hm.typeIs PySem.F.entry_dict_get (PySem.F.args_dict_get_3 _ _ _) (meets_dict_get_default (strKind X.prog X.w) a (strKind_is X.prog X.w z t) lo fv) ⟨_,hm,?_⟩
 rw [PySem.W.find_K hl hw]
 cases r with
 | none=>exact ⟨dv,H3,I3.tok _,rz,q4 rfl⟩
 | some u=>exact ⟨v,H3,I3.tok _,rv,q3 rfl⟩
end
end L2
namespace L2
open PySem PySem.Spec PyProof.Rows
theorem DX {X:Cx} {x:Str} {e:Expr} {te:TE} {pos' pos:Pos} (i:Nat) (hN:X.N.Nodup) (hi:X.N[i]? = some x) (hx:Loc X.env.scope x) (he:PE X e te) (hs:swapsWith e (some (.Name x pos')) pos.line X.env=pure false) (hf:X.fn x=true \/ X.env.scope.names.lookup x=some .local) :
  PS X (.Assign [.Name x pos'] e pos) (Vl te (Cw i)):=BX hN hi hx he hs hf
end L2
namespace L2
open PySem PySem.Spec PyProof.Rows
theorem Bh {X:Cx} {e:Expr} {es:List Expr} {te:TE} {t:TA} (h:starEach (e::es) X.env=(false,eval e X.env)::starEach es X.env) (he:PE X e te) (ht:PA X es t):PA X (e::es) (V2 te t):=Aa he ht h
end L2
namespace L2
open PySem PySem.Spec PyProof.Rows
end L2
namespace Sm
open PySem PyProof.Rows
local macro_rules | `(tactic| delta gallopOpen)=>`(tactic| delta $(Lean.mkCIdent (Lean.mkPrivateNameCore `PySem.Builtin.List.W1All `PySem.Builtin.gallop)))
section
variable {prog:Program} {w:World} {A:Around} {E:Value->Shared->Prop} {s:Shared}
end
section
variable {α:Type} {L:α->α->Bool} {A B:List α}
structure pU (L:α->α->Bool):Prop where
 asym:∀ x y,L x y=true->L y x=false
 co:∀ x y z,L x z=true->L x y=true \/ L y z=true
noncomputable def V0 (L:α->α->Bool) (l:List α):Prop:=l.Pairwise fun x y=>L y x=false
structure Jm (L:α->α->Bool) (A B out:List α) (ia ib:Nat):Prop where
 la:ia<=A.length
 lb:ib<=B.length
 pm:out.Perm (A.take ia++B.take ib)
 rs:V0 L out
 lo:∀ x∈out,∀ y,y∈A.drop ia \/ y∈B.drop ib->L y x=false
noncomputable def Good (L:α->α->Bool) (A B r:List α):Prop:=r.Perm (A++B)/\V0 L r
end
section
variable {α:Type} {L:α->α->Bool} {A B:List α}
end
end Sm
section PartSortM2
set_option maxHeartbeats 800000
namespace Sm
open PySem PyProof.Rows
local macro_rules | `(tactic| delta mergeLoOpen)=>`(tactic| delta $(Lean.mkCIdent (Lean.mkPrivateNameCore `PySem.Builtin.List.W1All `PySem.Builtin.mergeLo)))
section
variable {prog:Program} {w:World} {A:Around} {E:Value->Shared->Prop} {s:Shared}
end
end Sm
end PartSortM2
section PartSortM3
set_option maxHeartbeats 800000
namespace Sm
open PySem PyProof.Rows
local macro_rules | `(tactic| delta mergeHiOpen)=>`(tactic| delta $(Lean.mkCIdent (Lean.mkPrivateNameCore `PySem.Builtin.List.W1All `PySem.Builtin.mergeHi)))
section
variable {α:Type} {L:α->α->Bool} {A B:List α}
noncomputable abbrev Fl (L:α->α->Bool):α->α->Bool:=fun x y=>L y x
end
section
variable {prog:Program} {w:World} {A:Around} {E:Value->Shared->Prop} {s:Shared}
end
end Sm
end PartSortM3
section PartSortN
set_option maxHeartbeats 800000
namespace Sm
open PySem PyProof.Rows
section
variable {prog:Program} {w:World} {A:Around} {E:Value->Shared->Prop} {s:Shared} {ρ:Keyed->Nat} {S:Keyed->Prop} {κ:SortKind} {p0:Array (Nat × Nat × Nat)} {a0:Array Keyed} {lo:Nat}
noncomputable def R (ρ:Keyed->Nat) (xs:Array Keyed) (i:Nat):Nat:=match xs[i]? with
 | some x=>ρ x
 | none=>0
structure Bs (κ:SortKind) (p0:Array (Nat × Nat × Nat)) (a0:Array Keyed) (lo:Nat) (st:SortSt):Prop where
 kind:kindOf st=κ
 pend:pendingOf st=p0
 fail:failedOf st=none
 perm:(arrOf st).Perm a0
 pre:∀ i,i<lo->(arrOf st)[i]? = a0[i]?
noncomputable def Up (ρ:Keyed->Nat) (xs:Array Keyed) (a b:Nat):Prop:=∀ i j,a<=i->i<=j->j<b->R ρ xs i<=R ρ xs j
end
end Sm
end PartSortN
section PartSortO
set_option maxHeartbeats 800000
namespace Sm
open PySem PyProof.Rows
local macro_rules | `(tactic| delta mergeAtOpen)=>`(tactic| delta $(Lean.mkCIdent (Lean.mkPrivateNameCore `PySem.Builtin.List.W1All `PySem.Builtin.mergeAt)))
section
variable {prog:Program} {w:World} {A:Around} {E:Value->Shared->Prop} {s:Shared} {ρ:Keyed->Nat} {S:Keyed->Prop} {κ:SortKind}
end
end Sm
end PartSortO
section PartSortP
set_option maxHeartbeats 800000
namespace Sm
open PySem PyProof.Rows
section
variable {prog:Program} {w:World} {A:Around} {E:Value->Shared->Prop} {s:Shared} {ρ:Keyed->Nat} {S:Keyed->Prop} {κ:SortKind}
noncomputable def nu (ρ:Keyed->Nat) (xs:Array Keyed):Nat->List (Nat × Nat × Nat)->Nat->Prop
 | a,[],b=>a=b
 | a,(p,n,_)::r,b=>p=a/\1<=n/\Up ρ xs a (a+n)/\nu ρ xs (a+n) r b
structure Gs (ρ:Keyed->Nat) (κ:SortKind) (a0:Array Keyed) (ps:List (Nat × Nat × Nat)) (hi:Nat) (st:SortSt):Prop where
 kind:kindOf st=κ
 pend:pendingOf st=ps.toArray
 fail:failedOf st=none
 perm:(arrOf st).Perm a0
 adj:nu ρ (arrOf st) 0 ps hi
end
end Sm
end PartSortP
namespace Sq
open PySem PySem.W PyProof.Rows
structure oH (lt:Nat->Nat->Bool):Prop where
 irr:∀ a,lt a a=false
 asy:∀ a b,lt a b=true->lt b a=false
 tr:∀ a b c,lt b a=false->lt c b=false->lt c a=false
noncomputable def run {α:Type} (lt:Nat->Nat->Bool):KasT α->α
 | .ret a=>a
 | .ask i j k=>run lt (k (lt i j))
noncomputable def K (p:Array Nat) (i:Nat):Nat:=(p[i]?).getD 0
section
variable {lt:Nat->Nat->Bool} (O:oH lt)
include O
noncomputable def Up (lt:Nat->Nat->Bool) (p:Array Nat) (n:Nat):Prop:=∀ i j,i<=j->j<n->lt (K p j) (K p i)=false
end
end Sq
namespace Sq
open PySem PySem.W PyProof.Rows
noncomputable def Rn {α:Type} (N:Nat):KasT α->(α->Prop)->Prop
 | .ret a,P=>P a
 | .ask i j k,P=>i<N/\j<N/\∀ b,Rn N (k b) P
noncomputable def Bd (N:Nat) (p:Array Nat):Prop:=0<N/\∀ x∈p.toList,x<N
section
variable {N:Nat}
end
end Sq
namespace Sq
open PySem PySem.W PyProof.Rows
noncomputable abbrev T3:=Int × Int × Int
noncomputable def pG (h:Heap) (v:Value) (t:T3):Prop:=∃ (x:Addr) (o:Obj) (k1 k2 k3:Tok) (n:Nat),v=.ref x/\h.get? x=some o/\o.cls=.type "tuple" /\ o.data=.seq #[.int t.1 k1,.int t.2.1 k2,.int t.2.2 k3] n
section
variable {prog:Program} {w:World} {A:Around} {E:Value->Shared->Prop} {s:Shared}
end
end Sq
namespace Sq
open PySem PySem.W PySem.Calls PyProof.Rows
section
variable {prog:Program} {w:World} {A:Around} {E:Value->Shared->Prop} {s:Shared}
end
end Sq
namespace Sq
open PySem PySem.W PySem.Calls PyProof.Rows
noncomputable abbrev T2:=Int × Int
noncomputable def oR (h:Heap) (v:Value) (t:T2):Prop:=∃ (x:Addr) (o:Obj) (k1 k2:Tok) (n:Nat),v=.ref x/\h.get? x=some o/\o.cls=.type "tuple" /\ o.data=.seq #[.int t.1 k1,.int t.2 k2] n
section
variable {prog:Program} {w:World} {A:Around} {E:Value->Shared->Prop} {s:Shared}
end
end Sq
namespace Sq
open PySem PySem.W PySem.Calls PyProof.Rows
section
variable {prog:Program} {w:World} {A:Around} {E:Value->Shared->Prop} {s:Shared}
end
end Sq
section PartSortX
set_option maxHeartbeats 800000
namespace Sx
open PySem PySem.W PySem.Calls PyProof.Rows Sm Sq
section
variable {β:Type} {blt:β->β->Bool}
structure Or (blt:β->β->Bool):Prop where
 irr:∀ a,blt a a=false
 asy:∀ a b,blt a b=true->blt b a=false
 tr:∀ a b c,blt b a=false->blt c b=false->blt c a=false
noncomputable def rk (blt:β->β->Bool) (ts:List β) (c:β):Nat:=ts.countP fun z=>blt z c
end
section
variable {prog:Program} {w:World} {A:Around} {E:Value->Shared->Prop} {s:Shared} {β:Type} {blt:β->β->Bool} {d:β}
end
end Sx
end PartSortX
section PartSortY
set_option maxHeartbeats 800000
namespace Sx
open PySem PySem.W PySem.Calls PyProof.Rows Sm Sq
section
variable {prog:Program} {w:World} {A:Around} {E:Value->Shared->Prop} {s:Shared} {β:Type} {blt:β->β->Bool} {d:β}
end
end Sx
end PartSortY
namespace L2
open PySem PySem.Spec PyProof.Rows
section
variable {X:Cx}
end
end L2
namespace Wd
open PySem PyProof.Rows
section
variable {prog:Program} {w:World} {A:Around} {E:Value->Shared->Prop} {s:Shared} {a:Addr} {σ:List Int}
end
end Wd
namespace L2
open PySem PySem.Spec PyProof.Rows
section
variable {X:Cx}
end
end L2
namespace L2
open PySem PySem.Spec PyProof.Rows
section
variable {X:Cx}
end
end L2
namespace Og
theorem YG {a n:Nat} (h:a.testBit n=false):a ||| 2 ^ n=a+2 ^ n:=by
 have e:=Nat.div_add_mod a (2 ^ n)
 have hr:a % 2 ^ n<2 ^ n:=Nat.mod_lt _ (Nat.two_pow_pos n)
 rw [Nat.testBit_eq_decide_div_mod_eq] at h
 have h2:a / 2 ^ n % 2=0:=by
  have:=of_decide_eq_false h
  omega
 obtain ⟨q,hq⟩:∃ q,a / 2 ^ n=2 * q:=⟨a / 2 ^ n / 2,by omega⟩
 rw [hq] at e
 generalize a % 2 ^ n=r at e hr
 have e1:2 ^ n * (2 * q)+r=2 ^ n * (2 * q) ||| r:=Nat.two_pow_add_eq_or_of_lt hr _
 have e2:2 ^ n * (2 * q+1)+r=2 ^ n * (2 * q+1) ||| r:=Nat.two_pow_add_eq_or_of_lt hr _
 have e3:2 * q ||| 1=2 * q+1:=by
  have:=Nat.two_pow_add_eq_or_of_lt (i:=1) (b:=1) (by decide) q
  rw [Nat.pow_one] at this
  exact this.symm
 have e4:2 ^ n * (2 * q) ||| 2 ^ n=2 ^ n * (2 * q+1):=by
  have e5:2 ^ n * (2 * q) ||| 2 ^ n * 1=2 ^ n * (2 * q ||| 1):=by
   rw [Nat.mul_comm,Nat.mul_comm (2 ^ n) 1,Nat.mul_comm (2 ^ n) (2 * q ||| 1),← Nat.shiftLeft_eq,← Nat.shiftLeft_eq,← Nat.shiftLeft_eq,Nat.shiftLeft_or_distrib]
  rw [Nat.mul_one,e3] at e5
  exact e5
 calc a ||| 2 ^ n=(2 ^ n * (2 * q) ||| r) ||| 2 ^ n:=by rw [← e1,e]
  _=(2 ^ n * (2 * q) ||| 2 ^ n) ||| r:=by rw [Nat.or_assoc,Nat.or_comm r,← Nat.or_assoc]
  _=2 ^ n * (2 * q+1)+r:=by rw [e4,e2]
  _=a+2 ^ n:=by rw [← e,Nat.mul_add,Nat.mul_one]; omega
end Og
section PartK42a
set_option maxHeartbeats 4000000
namespace K42
open PySem L2 Og
noncomputable def top (i:Nat):Stmt:=PySem.Challenge.pw_windchest_k42_hands_on_keys.main.body.getD i (.Pass ⟨0,0,0,0⟩)
noncomputable abbrev m6:Stmt:=top 19
noncomputable abbrev d7:Stmt:=top 20
noncomputable abbrev jZ:Stmt:=top 21
noncomputable abbrev gG:Stmt:=top 65
noncomputable abbrev fu:Stmt:=top 66
noncomputable abbrev jg:Stmt:=top 67
noncomputable abbrev fL:Stmt:=top 68
noncomputable abbrev gA:Stmt:=top 69
noncomputable abbrev lU:Stmt:=top 70
noncomputable abbrev fB:Stmt:=top 71
noncomputable abbrev ir:Stmt:=top 72
noncomputable abbrev fW:Stmt:=top 73
noncomputable abbrev gR:Stmt:=top 74
noncomputable abbrev m7:Stmt:=top 75
noncomputable abbrev j7:Stmt:=top 76
noncomputable abbrev iK:Stmt:=top 77
noncomputable abbrev j6:Stmt:=top 80
noncomputable abbrev fG:Stmt:=top 81
noncomputable abbrev fX:Stmt:=top 82
noncomputable abbrev iu:Stmt:=top 83
noncomputable abbrev fD:Stmt:=top 84
noncomputable abbrev mY:Stmt:=top 24
noncomputable abbrev gC:Stmt:=top 25
noncomputable abbrev kW:Stmt:=top 26
noncomputable abbrev fc:Stmt:=top 27
noncomputable abbrev jT:Stmt:=top 28
noncomputable abbrev iV:Stmt:=top 29
noncomputable abbrev jo:Stmt:=top 38
noncomputable abbrev ZL:Stmt:=top 39
noncomputable abbrev g_:Stmt:=top 40
noncomputable abbrev lC:Stmt:=top 41
noncomputable abbrev gf:Stmt:=top 42
noncomputable abbrev fV:Stmt:=top 44
noncomputable abbrev fK:Stmt:=top 45
noncomputable abbrev nJ:Stmt:=top 46
noncomputable abbrev iT:Stmt:=top 47
noncomputable abbrev kO:Stmt:=top 48
noncomputable abbrev fU:Stmt:=top 49
noncomputable abbrev fJ:Stmt:=top 50
noncomputable abbrev mW:Stmt:=top 51
noncomputable abbrev lO:Stmt:=top 33
noncomputable abbrev iU:Stmt:=top 55
noncomputable abbrev gj:Stmt:=top 56
noncomputable abbrev j4:Stmt:=top 54
noncomputable abbrev kE:Stmt:=top 87
noncomputable abbrev il:Stmt:=top 88
noncomputable abbrev gU:Stmt:=top 89
noncomputable abbrev lN:Stmt:=top 90
noncomputable abbrev lD:Stmt:=top 91
noncomputable abbrev UJ:Stmt:=inClass (top 85) 0
noncomputable abbrev jy:Stmt:=inClass (top 85) 2
noncomputable abbrev j_:Stmt:=inClass (top 85) 5
noncomputable abbrev mU:Stmt:=inClass (top 85) 7
noncomputable abbrev jA:Stmt:=inClass (top 85) 8
noncomputable abbrev mD:Stmt:=inClass (top 85) 13
noncomputable abbrev lX:Stmt:=inClass (top 85) 15
noncomputable abbrev lW:Stmt:=inClass (top 85) 3
noncomputable abbrev gM:Stmt:=inClass (top 85) 6
noncomputable abbrev m8:Stmt:=inClass (top 85) 9
noncomputable abbrev lG:Stmt:=inClass (top 85) 14
noncomputable abbrev jM:Stmt:=inClass (top 85) 16
noncomputable abbrev kj:Stmt:=inClass (top 85) 11
noncomputable abbrev l_:Stmt:=inClass (top 85) 17
noncomputable abbrev gJ:Stmt:=inClass (top 85) 4
noncomputable abbrev jm:Stmt:=inClass (top 36) 0
noncomputable abbrev mz:Stmt:=inClass (top 36) 9
noncomputable abbrev iY:Stmt:=inClass (top 57) 0
noncomputable abbrev lJ:Stmt:=inClass (top 57) 1
noncomputable abbrev gq:Stmt:=inClass (top 57) 2
noncomputable abbrev jO:Stmt:=inClass (top 57) 3
noncomputable abbrev mV:Stmt:=inClass (top 57) 4
noncomputable abbrev gO:Stmt:=inClass (top 57) 5
noncomputable abbrev gF:Stmt:=inClass (top 57) 6
noncomputable abbrev jt:Stmt:=inClass (top 57) 7
noncomputable abbrev J0:Stmt:=top 92
structure Txt (K:PySem.W.Frag) (P:Params) (mg:Str->Option Value) (C Cy Cp cH cO aQ aN aK aB aP aM:Addr):Prop where
 len:mg "len" = none
 isin:mg "isinstance" = none
 int:mg "int" = none
 bool:mg "bool" = none
 str:mg "str" = none
 list:mg "list" = none
 tuple:mg "tuple" = none
 all:mg "all" = none
 any:mg "any" = none
 sum:mg "sum" = none
 range:mg "range" = none
 zip:mg "zip" = none
 enumerate:mg "enumerate" = none
 max:mg "max" = none
 reversed:mg "reversed" = none
 set:mg "set" = none
 min:mg "min" = none
 letters:∃ t,mg "LETTERS" = some (.str letters t)
 mostL:∃ t,mg "MOST_LETTERS" = some (.int 8 t)
 mostR:∃ t,mg "MOST_ROWS" = some (.int 150 t)
 mostLn:∃ t,mg "MOST_LINES" = some (.int 4 t)
 below:∃ t,mg "MEMBERS_BELOW" = some (.int 1200 t)
 mN:mg "NAMED" = some (.ref aN)
 mK:mg "KNOBS" = some (.ref aK)
 mB:mg "BOUNDS" = some (.ref aB)
 mP:mg "PARTS" = some (.ref aP)
 mM:mg "MOST_OF" = some (.ref aM)
 tN:KTup K aN (named.map V.str)
 tK:KTup K aK [.str "stop",.str "coupler",.str "mute"]
 dB:KDict K P aB
 dP:KDict K P aP
 dM:KDict K P aM
 cl:O_ K C
 mC:mg "Organ" = some (.ref C)
 clR:O_ K Cy
 mCR:mg "Console" = some (.ref Cy)
 nr_organ:CJ K Cy "organ"
 nr_drawn_set:CJ K Cy "drawn_set"
 nr_shoe_step:CJ K Cy "shoe_step"
 nr_stored:CJ K Cy "stored"
 clP:O_ K Cp
 mCP:mg "Player" = some (.ref Cp)
 np_organ:CJ K Cp "organ"
 np_console:CJ K Cp "console"
 np_hands:CJ K Cp "hands"
 xH:oO K mg cH cO
 mQ:mg "PART_COUNTS" = some (.ref aQ)
 dQ:KDict K P aQ
 qh:∃ q,PySem.W.nsIn K aQ "hold" = some (some (.ref q))/\KTup K q [.int 3]
 ql:∃ q,PySem.W.nsIn K aQ "leave" = some (some (.ref q))/\KTup K q [.int 3]
 n_row_list:CJ K C "row_list"
 n_board_list:CJ K C "board_list"
 n_rank_list:CJ K C "rank_list"
 n_knob_rows:CJ K C "knob_rows"
 n_board_numbers:CJ K C "board_numbers"
 n_rank_numbers:CJ K C "rank_numbers"
 n_knob_numbers:CJ K C "knob_numbers"
 n_key_places:CJ K C "key_places"
 n_pipe_places:CJ K C "pipe_places"
 n_knob_lines:CJ K C "knob_lines"
 n_step_sets:CJ K C "step_sets"
theorem byC {p:Prop} (h:¬¬p):p:=Classical.byContradiction h
set_option genInjectivity false in
set_option genSizeOf false in
set_option genSizeOfSpec false in
structure Ad where
 (fWh fMd fNm fRo fTo fWi fPa fHp fCl fIk fSb fIs fWm fHr fIr fCk fNu fCa fPl fLi fSs fMy fSt fHa fMe fSh fUn fLe fDc fHk fWa fCq fMu fUk fSk fNb fLl fBs fBa fSo fBn fKy fDz fId fCe fMi fLx fQu fBz fOi fOb fOc fOk fOo fBk fOp fOr fOq fOe fOs fOm fOu fOy fOz fXi fXk fQi fQh fQl fQa fQd fQs fQe fQk:Addr)
 (dWh dMd dNm dRo dTo dWi dPa dHp dCl dIk dSb dIs dWm dHr dIr dCk dNu dCa dPl dLi dSs dMy dSt dHa dMe dSh dUn dLe dDc dHk dWa dCq dMu dUk dSk dNb dLl dBs dBa dSo dBn dKy dDz dId dCe dMi dLx dQu dBz dOi dOb dOc dOk dOo dBk dOp dOr dOq dOe dOs dOm dOu dOy dOz dXi dXk dQi dQh dQl dQa dQd dQs dQe dQk:FuncData)
structure iy (K:PySem.W.Frag) (mg:Str->Option Value) (C Cy Cp:Addr) (aD:Ad):Prop where
 FWh:CQ K "is_whole" "is_whole" m6 aD.fWh aD.dWh∧Binds K aD.dWh ["thing"] []∧mg "is_whole" = some (.ref aD.fWh)
 FMd:CQ K "is_made_of" "is_made_of" d7 aD.fMd aD.dMd∧Binds K aD.dMd ["text","signs","most"] []∧mg "is_made_of" = some (.ref aD.fMd)
 FNm:CQ K "is_name" "is_name" jZ aD.fNm aD.dNm∧Binds K aD.dNm ["thing"] []∧mg "is_name" = some (.ref aD.fNm)
 FRo:CQ K "rows_of" "rows_of" gG aD.fRo aD.dRo∧Binds K aD.dRo ["rows","word"] []∧mg "rows_of" = some (.ref aD.fRo)
 FTo:CQ K "is_told" "is_told" fu aD.fTo aD.dTo∧Binds K aD.dTo ["rows","word","thing"] []∧mg "is_told" = some (.ref aD.fTo)
 FWi:CQ K "is_within" "is_within" jg aD.fWi aD.dWi∧Binds K aD.dWi ["thing","bounds"] []∧mg "is_within" = some (.ref aD.fWi)
 FPa:CQ K "is_part" "is_part" fL aD.fPa aD.dPa∧Binds K aD.dPa ["thing","part","ahead"] []∧mg "is_part" = some (.ref aD.fPa)
 FHp:CQ K "has_parts" "has_parts" gA aD.fHp aD.dHp∧Binds K aD.dHp ["row","ahead"] []∧mg "has_parts" = some (.ref aD.fHp)
 FCl:CQ K "count_of_last_lines" "count_of_last_lines" lU aD.fCl aD.dCl∧Binds K aD.dCl ["rows"] []∧mg "count_of_last_lines" = some (.ref aD.fCl)
 FIk:CQ K "is_key_of" "is_key_of" fB aD.fIk aD.dIk∧Binds K aD.dIk ["number","board","ahead"] []∧mg "is_key_of" = some (.ref aD.fIk)
 FSb:CQ K "stands_behind_stop" "stands_behind_stop" ir aD.fSb aD.dSb∧Binds K aD.dSb ["line","ahead"] []∧mg "stands_behind_stop" = some (.ref aD.fSb)
 FIs:CQ K "is_step" "is_step" fW aD.fIs aD.dIs∧Binds K aD.dIs ["row","ahead"] []∧mg "is_step" = some (.ref aD.fIs)
 FWm:CQ K "is_well_made" "is_well_made" gR aD.fWm aD.dWm∧Binds K aD.dWm ["row","ahead"] []∧mg "is_well_made" = some (.ref aD.fWm)
 FHr:CQ K "has_room" "has_room" m7 aD.fHr aD.dHr∧Binds K aD.dHr ["word","ahead"] []∧mg "has_room" = some (.ref aD.fHr)
 FIr:CQ K "is_row" "is_row" j7 aD.fIr aD.dIr∧Binds K aD.dIr ["thing","ahead"] []∧mg "is_row" = some (.ref aD.fIr)
 FCk:CQ K "check_rows" "check_rows" iK aD.fCk aD.dCk∧Binds K aD.dCk ["rows"] []∧mg "check_rows" = some (.ref aD.fCk)
 FNu:CQ K "numbers_of" "numbers_of" j6 aD.fNu aD.dNu∧Binds K aD.dNu ["names"] []∧mg "numbers_of" = some (.ref aD.fNu)
 FCa:CQ K "count_in_all" "count_in_all" fG aD.fCa aD.dCa∧Binds K aD.dCa ["things"] []∧mg "count_in_all" = some (.ref aD.fCa)
 FPl:CQ K "places_of" "places_of" fX aD.fPl aD.dPl∧Binds K aD.dPl ["things"] []∧mg "places_of" = some (.ref aD.fPl)
 FLi:CQ K "lines_by_knob" "lines_by_knob" iu aD.fLi aD.dLi∧Binds K aD.dLi ["rows","rank_numbers"] []∧mg "lines_by_knob" = some (.ref aD.fLi)
 FSs:CQ K "set_of_step" "set_of_step" fD aD.fSs aD.dSs∧Binds K aD.dSs ["row","knob_numbers"] []∧mg "set_of_step" = some (.ref aD.fSs)
 FMy:CQ K "may_be_member" "may_be_member" mY aD.fMy aD.dMy∧Binds K aD.dMy ["thing"] []∧mg "may_be_member" = some (.ref aD.fMy)
 FSt:CQ K "set_of" "set_of" gC aD.fSt aD.dSt∧Binds K aD.dSt ["numbers"] []∧mg "set_of" = some (.ref aD.fSt)
 FHa:CQ K "has_member" "has_member" kW aD.fHa aD.dHa∧Binds K aD.dHa ["some","number"] []∧mg "has_member" = some (.ref aD.fHa)
 FMe:CQ K "members_of" "members_of" fc aD.fMe aD.dMe∧Binds K aD.dMe ["some"] []∧mg "members_of" = some (.ref aD.fMe)
 FSh:CQ K "shifted" "shifted" jT aD.fSh aD.dSh∧Binds K aD.dSh ["some","steps","count"] []∧mg "shifted" = some (.ref aD.fSh)
 FUn:CQ K "union_of" "union_of" iV aD.fUn aD.dUn∧Binds K aD.dUn ["sets"] []∧mg "union_of" = some (.ref aD.fUn)
 FLe:CQ K "led_to" "led_to" jo aD.fLe aD.dLe∧Binds K aD.dLe ["organ","knob","key"] []∧mg "led_to" = some (.ref aD.fLe)
 FDc:CQ K "drawn_of" "drawn_of" ZL aD.fDc aD.dDc∧Binds K aD.dDc ["organ","knobs","word"] []∧mg "drawn_of" = some (.ref aD.fDc)
 FHk:CQ K "held_keys" "held_keys" g_ aD.fHk aD.dHk∧Binds K aD.dHk ["organ","held"] []∧mg "held_keys" = some (.ref aD.fHk)
 FWa:CQ K "coupled_ways" "coupled_ways" lC aD.fWa aD.dWa∧Binds K aD.dWa ["organ","knobs","held"] []∧mg "coupled_ways" = some (.ref aD.fWa)
 FCq:CQ K "coupled_keys" "coupled_keys" gf aD.fCq aD.dCq∧Binds K aD.dCq ["organ","knobs","held"] []∧mg "coupled_keys" = some (.ref aD.fCq)
 FMu:CQ K "muted_boards" "muted_boards" fV aD.fMu aD.dMu∧Binds K aD.dMu ["organ","knobs"] []∧mg "muted_boards" = some (.ref aD.fMu)
 FUk:CQ K "unmuted_keys" "unmuted_keys" fK aD.fUk aD.dUk∧Binds K aD.dUk ["organ","knobs","keys"] []∧mg "unmuted_keys" = some (.ref aD.fUk)
 FSk:CQ K "speaking_keys" "speaking_keys" nJ aD.fSk aD.dSk∧Binds K aD.dSk ["organ","knobs","held"] []∧mg "speaking_keys" = some (.ref aD.fSk)
 FNb:CQ K "numbers_on_board" "numbers_on_board" iT aD.fNb aD.dNb∧Binds K aD.dNb ["organ","board","keys"] []∧mg "numbers_on_board" = some (.ref aD.fNb)
 FLl:CQ K "led_by_line" "led_by_line" kO aD.fLl aD.dLl∧Binds K aD.dLl ["organ","line","numbers"] []∧mg "led_by_line" = some (.ref aD.fLl)
 FBs:CQ K "brought_by_stop" "brought_by_stop" fU aD.fBs aD.dBs∧Binds K aD.dBs ["organ","knob","keys"] []∧mg "brought_by_stop" = some (.ref aD.fBs)
 FBa:CQ K "brought_in_all" "brought_in_all" fJ aD.fBa aD.dBa∧Binds K aD.dBa ["organ","knobs","keys"] []∧mg "brought_in_all" = some (.ref aD.fBa)
 FSo:CQ K "sounding_pipes" "sounding_pipes" mW aD.fSo aD.dSo∧Binds K aD.dSo ["organ","knobs","held"] []∧mg "sounding_pipes" = some (.ref aD.fSo)
 FBn:CQ K "board_named" "board_named" lO aD.fBn aD.dBn∧Binds K aD.dBn ["organ","name"] []∧mg "board_named" = some (.ref aD.fBn)
 FKy:CQ K "key_on_board" "key_on_board" iU aD.fKy aD.dKy∧Binds K aD.dKy ["organ","name","number"] []∧mg "key_on_board" = some (.ref aD.fKy)
 FDz:CQ K "do_at_console" "do_at_console" gj aD.fDz aD.dDz∧Binds K aD.dDz ["console","word","parts"] []∧mg "do_at_console" = some (.ref aD.fDz)
 FId:CQ K "is_deed" "is_deed" j4 aD.fId aD.dId∧Binds K aD.dId ["thing"] []∧mg "is_deed" = some (.ref aD.fId)
 FCe:CQ K "_law_cell_at" "_law_cell_at" kE aD.fCe aD.dCe∧Binds K aD.dCe ["_law_script","_law_k"] []∧mg "_law_cell_at" = some (.ref aD.fCe)
 FMi:CQ K "_law_mix" "_law_mix" il aD.fMi aD.dMi∧Binds K aD.dMi ["_law_cell","_law_by","_law_many"] []∧mg "_law_mix" = some (.ref aD.fMi)
 FLx:CQ K "_law_do" "_law_do" gU aD.fLx aD.dLx∧Binds K aD.dLx ["_law_player","_law_deed"] []∧mg "_law_do" = some (.ref aD.fLx)
 FQu:CQ K "_law_quiet" "_law_quiet" lN aD.fQu aD.dQu∧Binds K aD.dQu ["_law_told"] []∧mg "_law_quiet" = some (.ref aD.fQu)
 FBz:CQ K "_law_bits" "_law_bits" lD aD.fBz aD.dBz∧Binds K aD.dBz ["_law_hands"] []∧mg "_law_bits" = some (.ref aD.fBz)
 FOi:CQ K "__init__" "Organ.__init__" UJ aD.fOi aD.dOi∧Binds K aD.dOi ["self","rows"] []∧Mk K C aD.fOi
 FOb:CQ K "boards" "Organ.boards" jy aD.fOb aD.dOb∧Binds K aD.dOb ["self"] []∧Meth K C "boards" aD.fOb
 FOc:CQ K "key_count" "Organ.key_count" j_ aD.fOc aD.dOc∧Binds K aD.dOc ["self"] []∧Meth K C "key_count" aD.fOc
 FOk:CQ K "key" "Organ.key" mU aD.fOk aD.dOk∧Binds K aD.dOk ["self","board","number"] []∧Meth K C "key" aD.fOk
 FOo:CQ K "board_of" "Organ.board_of" jA aD.fOo aD.dOo∧Binds K aD.dOo ["self","key"] []∧Meth K C "board_of" aD.fOo
 FBk:CQ K "board_of_knob" "Organ.board_of_knob" mD aD.fBk aD.dBk∧Binds K aD.dBk ["self","knob"] []∧Meth K C "board_of_knob" aD.fBk
 FOp:CQ K "coupler" "Organ.coupler" lX aD.fOp aD.dOp∧Binds K aD.dOp ["self","knob"] []∧Meth K C "coupler" aD.fOp
 FOr:CQ K "ranks" "Organ.ranks" lW aD.fOr aD.dOr∧Binds K aD.dOr ["self"] []∧Meth K C "ranks" aD.fOr
 FOq:CQ K "pipe_count" "Organ.pipe_count" gM aD.fOq aD.dOq∧Binds K aD.dOq ["self"] []∧Meth K C "pipe_count" aD.fOq
 FOe:CQ K "pipe" "Organ.pipe" m8 aD.fOe aD.dOe∧Binds K aD.dOe ["self","rank","number"] []∧Meth K C "pipe" aD.fOe
 FOs:CQ K "stop" "Organ.stop" lG aD.fOs aD.dOs∧Binds K aD.dOs ["self","knob"] []∧Meth K C "stop" aD.fOs
 FOm:CQ K "mute" "Organ.mute" jM aD.fOm aD.dOm∧Binds K aD.dOm ["self","knob"] []∧Meth K C "mute" aD.fOm
 FOu:CQ K "board_number" "Organ.board_number" kj aD.fOu aD.dOu∧Binds K aD.dOu ["self","name"] []∧Meth K C "board_number" aD.fOu
 FOy:CQ K "steps" "Organ.steps" l_ aD.fOy aD.dOy∧Binds K aD.dOy ["self"] []∧Meth K C "steps" aD.fOy
 FOz:CQ K "knobs" "Organ.knobs" gJ aD.fOz aD.dOz∧Binds K aD.dOz ["self"] []∧Meth K C "knobs" aD.fOz
 FXi:CQ K "__init__" "Console.__init__" jm aD.fXi aD.dXi∧Binds K aD.dXi ["self","organ"] []∧Mk K Cy aD.fXi
 FXk:CQ K "knobs" "Console.knobs" mz aD.fXk aD.dXk∧Binds K aD.dXk ["self"] []∧Meth K Cy "knobs" aD.fXk
 FQi:CQ K "__init__" "Player.__init__" iY aD.fQi aD.dQi∧Binds K aD.dQi ["self","organ"] []∧Mk K Cp aD.fQi
 FQh:CQ K "hold" "Player.hold" lJ aD.fQh aD.dQh∧Binds K aD.dQh ["self","key"] []∧Meth K Cp "hold" aD.fQh
 FQl:CQ K "leave" "Player.leave" gq aD.fQl aD.dQl∧Binds K aD.dQl ["self","key"] []∧Meth K Cp "leave" aD.fQl
 FQa:CQ K "act" "Player.act" jO aD.fQa aD.dQa∧Binds K aD.dQa ["self","deed"] []∧Meth K Cp "act" aD.fQa
 FQd:CQ K "do" "Player.do" mV aD.fQd aD.dQd∧Binds K aD.dQd ["self","deed"] []∧Meth K Cp "do" aD.fQd
 FQs:CQ K "sound" "Player.sound" gO aD.fQs aD.dQs∧Binds K aD.dQs ["self"] []∧Meth K Cp "sound" aD.fQs
 FQe:CQ K "held" "Player.held" gF aD.fQe aD.dQe∧Binds K aD.dQe ["self"] []∧Meth K Cp "held" aD.fQe
 FQk:CQ K "knobs" "Player.knobs" jt aD.fQk aD.dQk∧Binds K aD.dQk ["self"] []∧Meth K Cp "knobs" aD.fQk
section
variable {P:Program} {w:World} {K:PySem.W.Frag} {mg:Str->Option Value} {base:Heap} {C Cy Cp cH cO aQ aN aK aB aP aM:Addr} {aD:Ad}
variable (N:iy K mg C Cy Cp aD) (T:Txt K w.params mg C Cy Cp cH cO aQ aN aK aB aP aM)
noncomputable def U4:Sp:=fun vs H Q _=>∃ i:Int,vs=[.int i]/\Q (.bl true) H
theorem jh:An ["thing"] ["thing"] (Ac m6):=Be
include N T in
theorem SQ:Ao P w K mg base BR 1 aD.fWh aD.dWh ["thing"] U4:=by
 refine N.FWh.1.ok jh (fun vs H Q E h=>?_) (fun cdv A outer s H vs Q E hr h=>?_)
 ·obtain ⟨i,rfl,_⟩:=h
  rfl
 ·obtain ⟨i,rfl,q⟩:=h
  refine ⟨_,(Ae (Ax (Cj (Az Bt rfl T.isin PyProof.Rows.boot_isinstance (Aa (pv 0) (Aa (Ci (v:=.ty "int") rfl T.int PyProof.Rows.boot_int rfl) Ab))) (Cq (Rf (Az Bt rfl T.isin PyProof.Rows.boot_isinstance (Aa (pv 0) (Aa (Ci (v:=.ty "bool") rfl T.bool PyProof.Rows.boot_bool rfl) Ab)))))))),?_⟩
  refine ⟨_,rfl,_,"int",_,_,rfl,.int i,ty_int,_,rfl,EY ?_⟩
  exact ⟨_,rfl,_,"bool",_,_,rfl,.int i,V5,_,rfl,q⟩
noncomputable def ZF:Sp:=fun vs H Q _=>∃ z:Str,vs=[.str z,.str letters,.int 8]/\isNm z/\∀ H',Ak H H'->Q (.bl true) H'
theorem Ym:An ["text","signs","most"] ["text","signs","most"] (Ac d7):=Be
include N T in
theorem di:Ao P w K mg base BR 1 aD.fMd aD.dMd ["text","signs","most"] ZF:=by
 refine N.FMd.1.ok Ym (fun vs H Q E h=>?_) (fun cdv A outer s H vs Q E hr h=>?_)
 ·obtain ⟨z,rfl,_⟩:=h
  rfl
 ·obtain ⟨z,rfl,hz,q⟩:=h
  refine ⟨_,(Ae (Ax (Cj (GR Ez Ez Af (Az Hf rfl T.len PySem.boot_len (Aa (pv 0) Ab)) (pv 2)) (Cq (Az (Ge rfl) rfl T.all PyProof.Rows.boot_all (Aa (Bo rfl (BP (osc:=Ac d7) (N:=["text","signs","most"]) rfl rfl (by decide +kernel)) (S6 (pv 0)) (fun _ _ _ _=>CK) (fun _ _ _ _=>(Ck Ka (pv 0) (pv 2) rfl))) Ab)))))),?_⟩
  have hzl:z.length<sizeLine:=BK (by have:=hz.2.1; omega)
  refine ⟨_,rfl,z,rfl,Nat.le_of_lt hzl,_,_,rfl,rfl,_,rfl,?_⟩
  refine CN (fun h1=>?_) (fun h1=>absurd (decide_eq_true (by have:=hz.1; omega)) h1)
  refine ⟨_,rfl,_,_,rfl,rfl,_,rfl,?_⟩
  refine CN (fun h2=>?_) (fun h2=>absurd (decide_eq_true (by have:=hz.2.1; omega)) h2)
  refine ⟨_,rfl,z,rfl,Mh (fun _=>true) (fun c=>.bl (Vw letters c)) hzl (fun c hc H' hs R k=>k H' (Ak.refl H')) (fun c hc _ H' hs R k=>⟨_,rfl,_,rfl,_,_,rfl,rfl,k H' (Ak.refl H')⟩) (fun D H' hD hs hl=>?_)⟩
  refine ⟨D,z.cps.toList.map (Vw letters),rfl,.inl (.inl ?_),?_⟩
  ·rw [hl,List.filter_eq_self.mpr (fun _ _=>rfl),List.map_map]
   rfl
  ·have e:(z.cps.toList.map (Vw letters)).all id=true:=by
    rw [List.all_map,List.all_eq_true]
    intro c hc
    have:=hz.2.2 c hc
    show Vw letters c=true
    rw [Km c (by omega)]
    exact decide_eq_true this
   rw [e]
   exact q H' hs
noncomputable def XQ:Sp:=fun vs H Q _=>∃ z:Str,vs=[.str z]/\isNm z/\∀ H',Ak H H'->Q (.bl true) H'
theorem cP:An ["thing"] ["thing"] (Ac jZ):=Be
include N T in
theorem WR:Ao P w K mg base BR 2 aD.fNm aD.dNm ["thing"] XQ:=by
 have GMd:Ao P w K mg base BR 1 aD.fMd aD.dMd ["text","signs","most"] ZF:=di N T
 refine N.FNm.1.ok cP (fun vs H Q E h=>?_) (fun cdv A outer s H vs Q E hr h=>?_)
 ·obtain ⟨z,rfl,_⟩:=h
  rfl
 ·obtain ⟨z,rfl,hz,q⟩:=h
  have hrMd:A_ 1 _:=hr.mono (by decide)
  obtain ⟨tLET,hLET⟩:=T.letters
  obtain ⟨tML,hML⟩:=T.mostL
  refine ⟨_,(Ae (Ax (Cj (Az Bt rfl T.isin PyProof.Rows.boot_isinstance (Aa (pv 0) (Aa (Ci (v:=.ty "str") rfl T.str PyProof.Rows.boot_str rfl) Ab))) (Cq (Al GMd hrMd rfl N.FMd.2.2 N.FMd.1.kp N.FMd.2.1 .nil Av (Aa (pv 0) (Aa (CP (v:=.str letters) rfl hLET ⟨tLET,rfl⟩) (Aa (CP (v:=.int 8) rfl hML ⟨tML,rfl⟩) Ab)))))))),?_⟩
  refine ⟨_,rfl,_,"str",_,_,rfl,.str z,Oq,_,rfl,EY ?_⟩
  exact ⟨_,rfl,z,rfl,hz,q⟩
noncomputable def QL:Sp:=fun vs H Q _=>∃ (p:Addr) (us:List V) (w:Str) (ρ:V->R),vs=[.ref p,.str w]/\H p=some (.lst us)/\Rows H ρ us/\us.length<=500/\∀ D H',H D=none->Ak H H'->H' D=some (.lst (us.filter (pw ρ w)))->Q (.ref D) H'
theorem jH:An ["rows","word"] ["rows","word"] (Ac gG):=Be
include N T in
theorem MJ:Ao P w K mg base BR 1 aD.fRo aD.dRo ["rows","word"] QL:=by
 refine N.FRo.1.ok jH (fun vs H Q E h=>?_) (fun cdv A outer s H vs Q E hr h=>?_)
 ·refine byC fun w_=>?_;obtain ⟨p,us,w,ρ,rfl,_⟩:=h;refine w_ ?_
  rfl
 ·refine byC fun w_=>?_;obtain ⟨p,us,w,ρ,rfl,hp,hR,hl,q⟩:=h;refine w_ ?_
  refine ⟨_,(Ae (Ax (Bo rfl (BP (osc:=Ac gG) (N:=["rows","word"]) rfl rfl (by decide +kernel)) (Bp (pv 0)) (fun _ _ _ _=>(Im (Ba Df (Ay (Aw (K:=K) rfl) (pv 0) Af (fun _ _=>rfl)) (pv 2) (BZ _)))) (fun _ _ _ _=>(pv 0))))),?_⟩
  have hS:Cu K H p us:=.inl (.inl hp)
  refine ⟨_,rfl,p,rfl,⟨_,hS⟩,Cg (K:=K) (xs:=us) (pw ρ w) id hS (BK (by omega)) (fun x hx H' hs R k=>?_) (fun x hx _ H' hs R k=>⟨_,rfl,k H' (Ak.refl H')⟩) (fun D H' hD hs hl'=>?_)⟩
  ·obtain ⟨T0,rfl,hT⟩:=(hR x hx).mono hs
   exact ⟨_,rfl,T0,_,_,_,rfl,rfl,.inl (.inl hT),Aj (j:=0) rfl,_,rfl,rfl,_,rfl,k H' (Ak.refl H')⟩
  ·rw [List.map_id] at hl'
   exact q D H' hD hs hl'
noncomputable def Wn:Sp:=fun vs H Q _=>∃ (p:Addr) (us:List V) (w t:Str) (ρ:V->R),vs=[.ref p,.str w,.str t]/\H p=some (.lst us)/\Rows H ρ us/\us.length<=500/\isNm t/\∀ H',Ak H H'->Q (.bl (UG ρ us w t)) H'
theorem nY:An ["rows","word","thing"] ["rows","word","thing"] (Ac fu):=Be
include N T in
theorem WF:Ao P w K mg base BR 3 aD.fTo aD.dTo ["rows","word","thing"] Wn:=by
 have GNm:Ao P w K mg base BR 2 aD.fNm aD.dNm ["thing"] XQ:=WR N T
 have GRo:Ao P w K mg base BR 1 aD.fRo aD.dRo ["rows","word"] QL:=MJ N T
 refine N.FTo.1.ok nY (fun vs H Q E h=>?_) (fun cdv A outer s H vs Q E hr h=>?_)
 ·refine byC fun w_=>?_;obtain ⟨p,us,w,t,ρ,rfl,_⟩:=h;refine w_ ?_
  rfl
 ·refine byC fun w_=>?_;obtain ⟨p,us,w,t,ρ,rfl,hp,hR,hl,ht,q⟩:=h;refine w_ ?_
  have hrNm:A_ 2 _:=hr.mono (by decide)
  have hrRo:A_ 1 _:=hr.mono (by decide)
  refine ⟨_,(Ae (Ax (Cj (Al GNm hrNm rfl N.FNm.2.2 N.FNm.1.kp N.FNm.2.1 .nil Av (Aa (pv 2) Ab)) (Cq (Az (Jl rfl) rfl T.any PyProof.Rows.boot_any (Aa (Bo rfl (BP (osc:=Ac fu) (N:=["rows","word","thing"]) rfl rfl (by decide +kernel)) (Bp (Al GRo hrRo rfl N.FRo.2.2 N.FRo.1.kp N.FRo.2.1 .nil Av (Aa (pv 0) (Aa (pv 1) Ab)))) (fun _ _ _ _=>CK) (fun _ _ _ _=>(Ck Df (Ay (Aw (K:=K) rfl) (pv 0) Af (fun _ _=>rfl)) (pv 3) (BZ _)))) Ab)))))),?_⟩
  refine ⟨_,rfl,t,rfl,ht,fun H1 s1=>⟨_,rfl,EY ?_⟩⟩
  refine ⟨_,rfl,_,rfl,p,us,w,ρ,rfl,s1 _ _ hp,hR.mono s1,hl,fun D H2 hD s2 hl2=>?_⟩
  have hS:Cu K H2 D (us.filter (pw ρ w)):=.inl (.inl hl2)
  refine ⟨D,rfl,⟨_,hS⟩,Cg (K:=K) (xs:=us.filter (pw ρ w)) (fun _=>true) (fun v=>.bl (pn ρ t v)) hS (BK (by have:=G6 (pw ρ w) us; omega)) (fun x hx H' hs R k=>k H' (Ak.refl H')) (fun x hx _ H' hs R k=>?_) (fun D3 H3 hD3 s3 hl3=>?_)⟩
  ·obtain ⟨T0,rfl,hT⟩:=(((hR.mono s1).mono s2).mono hs) x (List.mem_filter.mp hx).1
   exact ⟨_,rfl,T0,_,_,_,rfl,rfl,.inl (.inl hT),Aj (j:=1) rfl,_,rfl,rfl,k H' (Ak.refl H')⟩
  ·refine ⟨D3,(us.filter (pw ρ w)).map (pn ρ t),rfl,.inl (.inl ?_),?_⟩
   ·rw [hl3,List.filter_eq_self.mpr (fun _ _=>rfl),List.map_map]
    rfl
   ·have e:((us.filter (pw ρ w)).map (pn ρ t)).any id=UG ρ us w t:=by
     rw [List.any_map]
     rfl
    rw [e]
    exact q H3 ((s1.trans s2).trans s3)
noncomputable def bc (K:PySem.W.Frag):Sp:=fun vs H Q _=>∃ (i lo hi:Int) (b:Addr),vs=[.int i,.ref b]/\KTup K b [.int lo,.int hi]/\lo<=i/\i<=hi/\Q (.bl true) H
theorem kY:An ["thing","bounds"] ["thing","bounds"] (Ac jg):=Be
include N T in
theorem a_:Ao P w K mg base BR 2 aD.fWi aD.dWi ["thing","bounds"] (bc K):=by
 have GWh:Ao P w K mg base BR 1 aD.fWh aD.dWh ["thing"] U4:=SQ N T
 refine N.FWi.1.ok kY (fun vs H Q E h=>?_) (fun cdv A outer s H vs Q E hr h=>?_)
 ·refine byC fun w_=>?_;obtain ⟨i,lo,hi,b,rfl,_⟩:=h;refine w_ ?_
  rfl
 ·refine byC fun w_=>?_;obtain ⟨i,lo,hi,b,rfl,hb,h1,h2,q⟩:=h;refine w_ ?_
  have hrWh:A_ 1 _:=hr.mono (by decide)
  refine ⟨_,(Ae (Ax (Cj (Al GWh hrWh rfl N.FWh.2.2 N.FWh.1.kp N.FWh.2.1 .nil Av (Aa (pv 0) Ab)) (Cq (GR Ez Ez (Ay (Aw (K:=K) rfl) (pv 1) Af (fun _ _=>rfl)) (pv 0) (Ay (Aw (K:=K) rfl) (pv 1) Af (fun _ _=>rfl))))))),?_⟩
  refine ⟨_,rfl,i,rfl,_,rfl,EY ?_⟩
  refine ⟨_,rfl,b,_,_,_,rfl,rfl,hb.sq _,Aj (j:=0) rfl,_,rfl,_,_,rfl,rfl,_,rfl,?_⟩
  refine CN (fun _=>?_) (fun z=>absurd (decide_eq_true h1) z)
  refine ⟨_,rfl,b,_,_,_,rfl,rfl,hb.sq _,Aj (j:=1) rfl,_,_,rfl,rfl,?_⟩
  show Q (.bl (decide (i<=hi))) H
  rw [decide_eq_true h2]
  exact q
noncomputable def cu (K:PySem.W.Frag) (aB:Addr):Sp:=fun vs H Q _=>∃ (x:V) (part:Str) (p:Addr) (us:List V) (ρ:V->R),vs=[x,.str part,.ref p]/\H p=some (.lst us)/\Rows H ρ us/\us.length<=500/\G_ K aB ρ us x part/\∀ H',Ak H H'->Q (.bl true) H'
theorem gP:An ["thing","part","ahead"] ["thing","part","ahead"] (Ac fL):=Be
include N T in
theorem Y5:Ao P w K mg base BR 4 aD.fPa aD.dPa ["thing","part","ahead"] (cu K aB):=by
 have GNm:Ao P w K mg base BR 2 aD.fNm aD.dNm ["thing"] XQ:=WR N T
 have GTo:Ao P w K mg base BR 3 aD.fTo aD.dTo ["rows","word","thing"] Wn:=WF N T
 have GWi:Ao P w K mg base BR 2 aD.fWi aD.dWi ["thing","bounds"] (bc K):=a_ N T
 refine N.FPa.1.ok gP (fun vs H Q E h=>?_) (fun cdv A outer s H vs Q E hr h=>?_)
 ·refine byC fun w_=>?_;obtain ⟨x,part,p,us,ρ,rfl,_⟩:=h;refine w_ ?_
  rfl
 ·refine byC fun w_=>?_;obtain ⟨x,part,p,us,ρ,rfl,hp,hR,hl,hok,q⟩:=h;refine w_ ?_
  have hrNm:A_ 2 _:=hr.mono (by decide)
  have hrTo:A_ 3 _:=hr.mono (by decide)
  have hrWi:A_ 2 _:=hr.mono (by decide)
  refine ⟨_,(Ag (By (Sv (Q9 (pv 1) (CP (v:=.ref aB) rfl T.mB rfl))) (Ae (Ax (Al GWi hrWi rfl N.FWi.2.2 N.FWi.1.kp N.FWi.2.1 .nil Av (Aa (pv 0) (Aa (Ko (CP (v:=.ref aB) rfl T.mB rfl) (pv 1) (fun _ _=>rfl)) Ab))))) Bb)
   (Ag (By (Ba Df (pv 1) Bf (BZ _)) (Ae (Ax (Cj (Al GNm hrNm rfl N.FNm.2.2 N.FNm.1.kp N.FNm.2.1 .nil Av (Aa (pv 0) Ab)) (Cq (Rf (Az (Jl rfl) rfl T.any PyProof.Rows.boot_any (Aa (Bo rfl (BP (osc:=Ac fL) (N:=["thing","part","ahead"]) rfl rfl (by decide +kernel)) (NQ (CP (v:=.ref aN) rfl T.mN rfl)) (fun _ _ _ _=>CK) (fun _ _ _ _=>(Al GTo hrTo rfl N.FTo.2.2 N.FTo.1.kp N.FTo.2.1 .nil Av (Aa (pv 3) (Aa (pv 0) (Aa (pv 1) Ab)))))) Ab))))))) Bb)
   (Ae (Ax (Al GTo hrTo rfl N.FTo.2.2 N.FTo.1.kp N.FTo.2.1 .nil Av (Aa (pv 2) (Aa (pv 1) (Aa (pv 0) Ab)))))))),?_⟩
  rcases hok with ⟨i,lo,hi,b,rfl,hn,hb,h1,h2⟩ | ⟨hn,rfl,t,rfl,ht,hno⟩ | ⟨hn,hne,t,rfl,ht,hyes⟩
  ·refine ⟨_,rfl,aB,part,_,rfl,rfl,T.dB,hn,_,rfl,EY ?_⟩
   exact ⟨_,rfl,_,rfl,aB,part,.ref b,_,rfl,rfl,T.dB,hn,rfl,i,lo,hi,b,rfl,hb,h1,h2,q H (Ak.refl H)⟩
  ·refine ⟨_,rfl,aB,_,_,rfl,rfl,T.dB,hn,_,rfl,Cv ?_⟩
   refine ⟨_,rfl,rfl,_,rfl,EY ?_⟩
   refine ⟨_,rfl,t,rfl,ht,fun H1 s1=>⟨_,rfl,EY ?_⟩⟩
   have hS:GD K H1 aN (named.map V.str):=T.tN.sq _
   refine ⟨aN,rfl,⟨_,hS⟩,Gi (xs:=named.map V.str) (fun _=>true) (fun _=>.bl false) (by show 5<sizeLine; decide) (fun i H2 x hs hx=>⟨_,x,hs.tup hS,hx⟩) (fun i H2 y H3 hs _ hy=>⟨hy.1,hy.2 _ (hs.tup hS)⟩) (fun H2 hs=>⟨_,hs.tup hS,Nat.le_refl _⟩)
    (fun x hx H' hs R k=>k H' (Ak.refl H')) (fun x hx _ H' hs R k=>?_) (fun D H2 hD s2 hl2=>?_)⟩
   ·obtain ⟨w0,hw0,rfl⟩:=List.mem_map.mp hx
    refine ⟨_,rfl,_,rfl,_,rfl,p,us,w0,t,ρ,rfl,hs _ _ (s1 _ _ hp),(hR.mono s1).mono hs,hl,ht,fun H'' s''=>?_⟩
    rw [hno w0 hw0]
    exact k H'' s''
   ·refine ⟨D,[false,false,false,false,false],rfl,.inl (.inl hl2),_,rfl,?_⟩
    exact q H2 (s1.trans s2)
  ·refine ⟨_,rfl,aB,_,_,rfl,rfl,T.dB,hn,_,rfl,Cv ?_⟩
   refine ⟨_,rfl,rfl,_,rfl,?_⟩
   refine CN (fun z=>absurd (V.str.inj (of_decide_eq_true z)) hne) (fun _=>?_)
   refine ⟨_,rfl,_,rfl,_,rfl,p,us,part,t,ρ,rfl,hp,hR,hl,ht,fun H' hs=>?_⟩
   rw [hyes]
   exact q H' hs
noncomputable def bz (K:PySem.W.Frag) (aB aP:Addr):Sp:=fun vs H Q _=>∃ (r p:Addr) (w:Str) (xs:List V) (us:List V) (ρ:V->R) (ap:Addr) (ps:List Str),vs=[.ref r,.ref p]/\H r=some (.tup (.str w::xs))/\H p=some (.lst us)/\Rows H ρ us/\us.length<=500 /\
 PySem.W.nsIn K aP w=some (some (.ref ap))/\KTup K ap (ps.map V.str)/\xs.length=ps.length/\ps.length<=10/\(∀ (i:Nat) x y,xs[i]? = some x->ps[i]? = some y->G_ K aB ρ us x y)/\∀ H',Ak H H'->Q (.bl true) H'
theorem dN:An ["row","ahead","parts"] ["row","ahead"] (Ac gA):=Be
include N T in
theorem bJ:Ao P w K mg base BR 5 aD.fHp aD.dHp ["row","ahead"] (bz K aB aP):=by
 have GPa:Ao P w K mg base BR 4 aD.fPa aD.dPa ["thing","part","ahead"] (cu K aB):=Y5 N T
 refine N.FHp.1.ok dN (fun vs H Q E h=>?_) (fun cdv A outer s H vs Q E hr h=>?_)
 ·refine byC fun w_=>?_;obtain ⟨r,p,w,xs,us,ρ,ap,ps,rfl,_⟩:=h;refine w_ ?_
  rfl
 ·refine byC fun w_=>?_;obtain ⟨r,p,w,xs,us,ρ,ap,ps,rfl,hr0,hp,hR,hl,hn,hap,hlen,hps,hok,q⟩:=h;refine w_ ?_
  have hrPa:A_ 4 _:=hr.mono (by decide)
  refine ⟨_,(Ag (BX (i:=2) dN.nd rfl (Or.inl rfl) (Ko (CP (v:=.ref aP) rfl T.mP rfl) (Ay (Aw (K:=K) rfl) (pv 0) Af (fun _ _=>rfl)) (fun _ _=>rfl)))
   (Ag (By (Ba Jf (Az BV rfl T.len PySem.boot_len (Aa (pv 0) Ab)) (Bj Dc Af (Az BV rfl T.len PySem.boot_len (Aa (pv 2) Ab))) (BZ _)) (Ae (Ax Hn)) Bb)
   (Ae (Ax (Az (Ge rfl) rfl T.all PyProof.Rows.boot_all (Aa (K1 rfl (HB (osc:=Ac gA) (N:=["row","ahead","parts"]) rfl rfl (by decide +kernel)) (Vf rfl T.zip (Aa (Di Mz (pv 0) (Eg Af) Ej) (Aa (pv 2) Ab))) (fun _ _ _ _=>CK) (fun _ _ _ _=>(Al GPa hrPa rfl N.FPa.2.2 N.FPa.1.kp N.FPa.2.1 .nil Av (Aa (pv 0) (Aa (pv 1) (Aa (pv 3) Ab)))))) Ab)))))),?_⟩
  refine ⟨_,rfl,r,_,_,_,rfl,rfl,.inl (.inl hr0),Aj (j:=0) rfl,aP,w,.ref ap,_,rfl,rfl,T.dP,hn,rfl,?_⟩
  refine ⟨_,rfl,r,_,rfl,.inr (.inl (.inl hr0)),_,rfl,ap,_,rfl,.inr (hap.sq _),_,_,rfl,rfl,rfl,_,rfl,?_⟩
  refine CN (fun z=>?_) (fun _=>?_)
  ·exfalso
   have e:(((V.str w::xs).length:Nat):Int)=1+(((ps.map V.str).length:Nat):Int):=by
    rw [List.length_cons,List.length_map,hlen]
    omega
   rw [e] at z
   simp at z
  ·have hcut:Dq (V.str w::xs) (some 1) none=xs:=by
    unfold Dq
    have e1:HT.Dg (V.str w::xs).length 0 (some ((1:Nat):Int))=1:=by rw [HT.Gp,List.length_cons]; omega
    have e1':HT.Dg (V.str w::xs).length 0 (some (1:Int))=1:=e1
    rw [e1',HT.Jo,List.drop_succ_cons,List.drop_zero]
    exact List.take_of_length_le (by rw [List.length_cons]; omega)
   refine ⟨_,rfl,_,rfl,r,_,rfl,.inl (.inl hr0),(fun z=>?_),fun p2 hp2=>?_⟩
   ·have e1:HT.Dg (V.str w::xs).length 0 (some ((1:Nat):Int))=1:=by rw [HT.Gp,List.length_cons]; omega
    have:=z.1.symm.trans e1
    cases this
   rw [hcut]
   obtain ⟨H2,eqH,s2,a2⟩:=Hj (o:=HO.tup xs) hp2
   rw [eqH]
   have h1:GD K H2 p2 xs:=.inl (.inl a2)
   refine ⟨_,rfl,p2,ap,rfl,⟨_,h1⟩,⟨_,hap.sq _⟩,RM (K:=K) (xs:=xs) (ys:=ps.map V.str) (fun _ _=>.bl true) h1 (hap.sq _) (by rw [List.length_map]; exact hlen) (BK (by omega)) (fun i x y hx hy H3 s3 R k=>?_) (fun D H3 hD s3 hl3=>?_)⟩
   ·rw [List.getElem?_map] at hy
    obtain ⟨part,hpart,rfl⟩:=Option.map_eq_some_iff.mp hy
    exact ⟨_,rfl,_,rfl,_,rfl,x,part,p,us,ρ,rfl,s3 _ _ (s2 _ _ hp),(hR.mono s2).mono s3,hl,hok i x part hx hpart,fun H4 s4=>k H4 s4⟩
   ·have e:List.zipWith (fun _ _=>V.bl true) xs (ps.map V.str)=(List.replicate xs.length true).map V.bl:=by
     rw [List.map_replicate]
     refine List.ext_getElem? fun i=>?_
     rw [List.getElem?_zipWith]
     by_cases hi:i<xs.length
     ·rw [List.getElem?_eq_getElem hi,List.getElem?_eq_getElem (by rw [List.length_map]; omega),List.getElem?_eq_getElem (by rw [List.length_replicate]; exact hi)]
      simp
     ·rw [List.getElem?_eq_none (by omega),List.getElem?_eq_none (l:=List.replicate _ _) (by rw [List.length_replicate]; omega)]
    rw [e] at hl3
    refine ⟨D,List.replicate xs.length true,rfl,.inl (.inl hl3),?_⟩
    have e2:(List.replicate xs.length true).all id=true:=by simp
    rw [e2]
    exact q H3 (s2.trans s3)
noncomputable def Ye:Sp:=fun vs H Q _=>∃ (p:Addr) (us:List V) (ρ:V->R) (c:Nat),vs=[.ref p]/\H p=some (.lst us)/\Rows H ρ us/\us.length<=500/\V_ ρ us c/\Q (.int (c:Nat)) H
theorem UW:An ["rows","count","row"] ["rows"] (Ac lU):=Be
include N T in
theorem YZ:Ao P w K mg base BR 1 aD.fCl aD.dCl ["rows"] Ye:=by
 refine N.FCl.1.ok UW (fun vs H Q E h=>?_) (fun cdv A outer s H vs Q E hr h=>?_)
 ·refine byC fun w_=>?_;obtain ⟨p,us,ρ,c,rfl,_⟩:=h;refine w_ ?_
  rfl
 ·refine byC fun w_=>?_;obtain ⟨p,us,ρ,c,rfl,hp,hR,hl,hc,q⟩:=h;refine w_ ?_
  refine ⟨_,(Ag (BX (i:=1) UW.nd rfl (Or.inl rfl) Af)
   (Ag (Es PassesOwn.never rfl (Xy rfl T.reversed (Aa (pv 0) Ab)) (CW (i:=2) UW.nd rfl (Or.inl rfl)) (Ag (By (Ba Jf (Ay (Aw (K:=K) rfl) (pv 2) Af (fun _ _=>rfl)) Bf (BZ _)) (Ae Rj) Bb)
   (Ae (BX (i:=1) UW.nd rfl (Or.inl rfl) (Bj Dc (pv 1) Af)))))
   (Ae (Ax (pv 1))))),?_⟩
  have hS:Cu K H p us:=.inl (.inl hp)
  refine ⟨_,rfl,p,us,rfl,hS,Ui (K:=K) (a:=p) (xs:=us) (fun i σ H4=>H4=H/\i<=c/\∃ v2,σ=[some (.ref p),some (.int (i:Nat)),v2]) ⟨rfl,Nat.zero_le _,_,rfl⟩ (fun i σ H4 _ h=>by rw [h.1]; exact hS) ?_ ?_⟩
  ·rintro i x σ H4 hi hx ⟨rfl,hic,v2,rfl⟩
   obtain ⟨r,rfl,hr0⟩:=hR x (List.mem_of_getElem? hx)
   refine ⟨_,rfl,r,_,_,_,rfl,rfl,.inl (.inl hr0),Aj (j:=0) rfl,rfl,_,rfl,?_⟩
   by_cases e:(ρ (.ref r)).w = "line"
   ·have hne:i ≠ c:=fun z=>by
     obtain ⟨v,hv,hno⟩:=hc.no
     rw [← z,hx] at hv
     cases hv
     exact hno e
    refine WK (congrArg V.str e) ?_
    exact ⟨_,rfl,_,_,rfl,rfl,rfl,by omega,_,rfl⟩
   ·have hic':i=c:=by
     refine Classical.byContradiction fun z=>?_
     obtain ⟨v,hv,hyes⟩:=hc.all i (by omega)
     rw [hx] at hv
     cases hv
     exact e hyes
    subst hic'
    rw [decide_eq_false fun z=>e (V.str.inj z)]
    refine EY ?_
    exact ⟨_,rfl,q⟩
  ·rintro σ H4 ⟨rfl,hic,v2,rfl⟩
   have:=hc.lt
   omega
noncomputable def cG:Sp:=fun vs H Q _=>∃ (n:Int) (bd:Str) (p:Addr) (us:List V) (ρ:V->R),vs=[.int n,.str bd,.ref p]/\H p=some (.lst us)/\Rows H ρ us/\us.length<=500/\Et ρ us/\∀ H',Ak H H'->Q (.bl (keyOf ρ us bd n)) H'
theorem iZ:An ["number","board","ahead"] ["number","board","ahead"] (Ac fB):=Be
include N T in
theorem dJ:Ao P w K mg base BR 2 aD.fIk aD.dIk ["number","board","ahead"] cG:=by
 have GRo:Ao P w K mg base BR 1 aD.fRo aD.dRo ["rows","word"] QL:=MJ N T
 refine N.FIk.1.ok iZ (fun vs H Q E h=>?_) (fun cdv A outer s H vs Q E hr h=>?_)
 ·refine byC fun w_=>?_;obtain ⟨n,bd,p,us,ρ,rfl,_⟩:=h;refine w_ ?_
  rfl
 ·refine byC fun w_=>?_;obtain ⟨n,bd,p,us,ρ,rfl,hp,hR,hl,hB,q⟩:=h;refine w_ ?_
  have hrRo:A_ 1 _:=hr.mono (by decide)
  refine ⟨_,(Ae (Ax (Az (Jl rfl) rfl T.any PyProof.Rows.boot_any (Aa (Bo rfl (BP (osc:=Ac fB) (N:=["number","board","ahead"]) rfl rfl (by decide +kernel)) (Bp (Al GRo hrRo rfl N.FRo.2.2 N.FRo.1.kp N.FRo.2.1 .nil Av (Aa (pv 2) (Aa Bf Ab)))) (fun _ _ _ _=>CK) (fun _ _ _ _=>(Cj (Ck Df (Ay (Aw (K:=K) rfl) (pv 0) Af (fun _ _=>rfl)) (pv 2) (BZ _)) (Cq (Ck Ip (pv 1) (Ay (Aw (K:=K) rfl) (pv 0) Af (fun _ _=>rfl)) (BZ _)))))) Ab)))),?_⟩
  refine ⟨_,rfl,p,us,"board",ρ,rfl,hp,hR,hl,fun D H2 hD s2 hl2=>?_⟩
  have hS:Cu K H2 D (us.filter (pw ρ "board")):=.inl (.inl hl2)
  refine ⟨D,rfl,⟨_,hS⟩,Cg (K:=K) (xs:=us.filter (pw ρ "board")) (fun _=>true) (fun v=>.bl (pn ρ bd v && decide (n<XX (ρ v)))) hS (BK (by have:=G6 (pw ρ "board") us; omega)) (fun x hx H' hs R k=>k H' (Ak.refl H')) (fun x hx _ H' hs R k=>?_) (fun D3 H3 hD3 s3 hl3=>?_)⟩
  ·have hx':=List.mem_filter.mp hx
   obtain ⟨m,em⟩:=hB x hx'.1 (V.str.inj (of_decide_eq_true hx'.2))
   have hz:XX (ρ x)=m:=by unfold XX; rw [em]
   have hT:=((hR.mono s2).mono hs) x hx'.1
   have kk:=k H' (Ak.refl H')
   rw [hz] at kk
   obtain ⟨T0,rfl,hT⟩:=hT
   have kk:R (.bl (decide (V.str (ρ (.ref T0)).nm=V.str bd) && decide (n<m))) H':=kk
   have hT':H' T0=some (.tup (.str (ρ (.ref T0)).w :: .str (ρ (.ref T0)).nm::(ρ (.ref T0)).rest)):=hT
   rw [em] at hT'
   refine ⟨_,rfl,T0,_,_,_,rfl,rfl,.inl (.inl hT'),Aj (j:=1) rfl,_,rfl,rfl,_,rfl,?_⟩
   refine CN (fun g=>?_) (fun g=>?_)
   ·rw [g,Bool.true_and] at kk
    exact ⟨_,rfl,_,rfl,T0,_,_,_,rfl,rfl,.inl (.inl hT'),Aj (j:=2) rfl,_,_,rfl,rfl,kk⟩
   ·rw [(Bool.not_eq_true _).mp g,Bool.false_and] at kk
    exact kk
  ·refine ⟨D3,(us.filter (pw ρ "board")).map (fun v=>pn ρ bd v && decide (n<XX (ρ v))),rfl,.inl (.inl ?_),?_⟩
   ·rw [hl3,List.filter_eq_self.mpr (fun _ _=>rfl),List.map_map]
    rfl
   ·have e:((us.filter (pw ρ "board")).map (fun v=>pn ρ bd v && decide (n<XX (ρ v)))).any id=keyOf ρ us bd n:=by
     rw [List.any_map]
     rfl
    rw [e]
    exact q H3 (s2.trans s3)
noncomputable def Yd:Sp:=fun vs H Q _=>∃ (r p:Addr) (ro:R) (us:List V) (ρ:V->R),vs=[.ref r,.ref p]/\H r=some (.tup ro.v)/\H p=some (.lst us)/\Rows H ρ us/\us.length<=500/\M6 ρ us ro/\Et ρ us/\∀ H',Ak H H'->Q (.bl true) H'
theorem X3:An ["line","ahead","count","row"] ["line","ahead"] (Ac ir):=Be
include N T in
theorem d9:Ao P w K mg base BR 3 aD.fSb aD.dSb ["line","ahead"] Yd:=by
 have GCl:Ao P w K mg base BR 1 aD.fCl aD.dCl ["rows"] Ye:=YZ N T
 have GIk:Ao P w K mg base BR 2 aD.fIk aD.dIk ["number","board","ahead"] cG:=dJ N T
 refine N.FSb.1.ok X3 (fun vs H Q E h=>?_) (fun cdv A outer s H vs Q E hr h=>?_)
 ·refine byC fun w_=>?_;obtain ⟨r,p,ro,us,ρ,rfl,_⟩:=h;refine w_ ?_
  rfl
 ·refine byC fun w_=>?_;obtain ⟨r,p,ro,us,ρ,rfl,hr0,hp,hR,hl,hL,hB,q⟩:=h;refine w_ ?_
  have hrCl:A_ 1 _:=hr.mono (by decide)
  have hrIk:A_ 2 _:=hr.mono (by decide)
  obtain ⟨tML4,hML4⟩:=T.mostLn
  refine ⟨_,(Ag (BX (i:=2) X3.nd rfl (Or.inl rfl) (Al GCl hrCl rfl N.FCl.2.2 N.FCl.1.kp N.FCl.2.1 .nil Av (Aa (pv 1) Ab)))
   (Ag (BX (i:=3) X3.nd rfl (Or.inl rfl) (Ay DQ (pv 1) (Bj Ja (Bj Ja (Az BV rfl T.len PySem.boot_len (Aa (pv 1) Ab)) Af) (pv 2)) (fun _ _=>rfl)))
   (Ag (By (PW.pt (Ff (Ba Jf (Ay (Aw (K:=K) rfl) (pv 3) Af (fun _ _=>rfl)) Bf (BZ _)) (Fd (Ba dq (pv 2) (CP (v:=.int 4) rfl hML4 ⟨tML4,rfl⟩) (BZ _))))) (Ae (Ax Hn)) Bb)
   (Ae (Ax (Cj (Ck Ez (Ay (Aw (K:=K) rfl) (pv 0) Af (fun _ _=>rfl)) (Ay (Aw (K:=K) rfl) (pv 0) Af (fun _ _=>rfl)) (BZ _)) (Cq (Al GIk hrIk rfl N.FIk.2.2 N.FIk.1.kp N.FIk.2.1 .nil Av (Aa (Ay (Aw (K:=K) rfl) (pv 0) Af (fun _ _=>rfl)) (Aa (Ay (Aw (K:=K) rfl) (pv 3) Af (fun _ _=>rfl)) (Aa (pv 1) Ab))))))))))),?_⟩
  refine byC fun w_=>?_;obtain ⟨cnt,v,sh,lo,hi,bd,rs,er,hc,h4,hv,hw,hrest,hle,hk⟩:=hL.ex;refine w_ ?_
  have hr1:H r=some (.tup [.str ro.w,.str ro.nm,.int sh,.int lo,.int hi]):=by rw [hr0,← er]
  obtain ⟨r2,rfl,hr2⟩:=hR v (List.mem_of_getElem? hv)
  have hr2':H r2=some (.tup (.str (ρ (.ref r2)).w :: .str (ρ (.ref r2)).nm :: .str bd::rs)):=by rw [hr2,← hrest]
  have hlt:=hc.lt
  have ei:((us.length:Nat):Int) - 1 - ((cnt:Nat):Int)=((us.length - 1 - cnt:Nat):Int):=by omega
  have hS:Cu K H p us:=.inl (.inl hp)
  refine ⟨_,rfl,p,us,ρ,cnt,rfl,hp,hR,hl,hc,?_⟩
  refine ⟨_,rfl,_,rfl,p,us,rfl,.inl hS,_,_,rfl,rfl,_,rfl,_,_,rfl,rfl,p,us,_,_,rfl,rfl,hS,(by rw [ei]; exact Aj hv),?_⟩
  refine ⟨_,rfl,r2,_,_,_,rfl,rfl,.inl (.inl hr2'),Aj (j:=0) rfl,rfl,_,rfl,WK (congrArg V.str hw) ?_⟩
  refine ⟨_,rfl,_,_,rfl,rfl,_,rfl,?_⟩
  refine CN (fun z=>?_) (fun _=>?_)
  ·have:=of_decide_eq_true z
   omega
  refine ⟨_,rfl,r,_,_,_,rfl,rfl,.inl (.inl hr1),Aj (j:=3) rfl,_,rfl,r,_,_,_,rfl,rfl,.inl (.inl hr1),Aj (j:=4) rfl,_,_,rfl,rfl,_,rfl,?_⟩
  refine CN (fun _=>?_) (fun z=>absurd (decide_eq_true hle) z)
  refine ⟨_,rfl,r,_,_,_,rfl,rfl,.inl (.inl hr1),Aj (j:=4) rfl,_,rfl,r2,_,_,_,rfl,rfl,.inl (.inl hr2'),Aj (j:=2) rfl,_,rfl,hi,bd,p,us,ρ,rfl,hp,hR,hl,hB,fun H' s'=>?_⟩
  rw [hk]
  exact q H' s'
noncomputable def du:Sp:=fun vs H Q _=>∃ (r p:Addr) (ro:R) (us:List V) (ρ:V->R) (ts:List Str),vs=[.ref r,.ref p]/\H r=some (.tup ro.v)/\H p=some (.lst us)/\Rows H ρ us/\us.length<=500/\V.str ro.nm::ro.rest=ts.map V.str/\ts.Nodup/\ts.length<=24/\(∀ t∈ts,isNm t/\UG ρ us "stop" t=true)/\∀ H',Ak H H'->Q (.bl true) H'
theorem Ze:An ["row","ahead","names"] ["row","ahead"] (Ac fW):=Be
include N T in
theorem Yk:Ao P w K mg base BR 5 aD.fIs aD.dIs ["row","ahead"] du:=by
 have GTo:Ao P w K mg base BR 3 aD.fTo aD.dTo ["rows","word","thing"] Wn:=WF N T
 refine N.FIs.1.ok Ze (fun vs H Q E h=>?_) (fun cdv A outer s H vs Q E hr h=>?_)
 ·refine byC fun w_=>?_;obtain ⟨r,p,ro,us,ρ,ts,rfl,_⟩:=h;refine w_ ?_
  rfl
 ·refine byC fun w_=>?_;obtain ⟨r,p,ro,us,ρ,ts,rfl,hr0,hp,hR,hl,ets,nd,h24,hts,q⟩:=h;refine w_ ?_
  have hrTo:A_ 3 _:=hr.mono (by decide)
  refine ⟨_,(Ag (BX (i:=2) Ze.nd rfl (Or.inl rfl) (Di Mz (pv 0) (Eg Af) Ej))
   (Ag (By (PW.pt (Ff (Ba Df (Az BV rfl T.len PySem.boot_len (Aa (pv 2) Ab)) Af (BZ _)) (Fd (CT (Ce (Az (Ge rfl) rfl T.all PyProof.Rows.boot_all (Aa (Bo rfl (BP (osc:=Ac fW) (N:=["row","ahead","names"]) rfl rfl (by decide +kernel)) (NQ (pv 2)) (fun _ _ _ _=>CK) (fun _ _ _ _=>(Al GTo hrTo rfl N.FTo.2.2 N.FTo.1.kp N.FTo.2.1 .nil Av (Aa (pv 2) (Aa Bf (Aa (pv 0) Ab)))))) Ab))))))) (Ae (Ax Hn)) Bb)
   (Ae (Ax (Ck Df (Az Jz rfl T.len PySem.boot_len (Aa (De (Qd rfl) rfl T.set PyProof.Rows.boot_set (Aa (pv 2) Ab)) Ab)) (Az BV rfl T.len PySem.boot_len (Aa (pv 2) Ab)) (BZ _)))))),?_⟩
  have hv:ro.v=V.str ro.w::ts.map V.str:=by
   show V.str ro.w::(V.str ro.nm::ro.rest)=_
   rw [ets]
  rw [hv] at hr0
  have tne:1<=ts.length:=by
   cases ts with
   | nil=>cases ets
   | cons a b=>exact Nat.succ_le_succ (Nat.zero_le _)
  have hcut:Dq (V.str ro.w::ts.map V.str) (some 1) none=ts.map V.str:=by
   unfold Dq
   have e1:HT.Dg (V.str ro.w::ts.map V.str).length 0 (some 1)=1:=by
    rw [show (some (1:Int))=some ((1:Nat):Int) from rfl,HT.Gp]
    simp
   rw [e1,HT.Jo]
   simp
   exact List.take_of_length_le (by rw [List.length_map]; exact Nat.le_refl _)
  refine ⟨_,rfl,_,rfl,r,_,rfl,.inl (.inl hr0),?_,fun n0 hn0=>?_⟩
  ·rintro ⟨z,_⟩
   have e1:HT.Dg (V.str ro.w::ts.map V.str).length 0 (some 1)=1:=by
    rw [show (some (1:Int))=some ((1:Nat):Int) from rfl,HT.Gp]
    simp
   rw [e1] at z
   cases z
  rw [hcut]
  obtain ⟨H1,eqH,s1,a1⟩:=Hj (o:=HO.tup (ts.map V.str)) hn0
  rw [eqH]
  have hT:GD K H1 n0 (ts.map V.str):=.inl (.inl a1)
  have ltm:(ts.map V.str).length=ts.length:=List.length_map ..
  refine ⟨_,rfl,n0,_,rfl,.inr hT,rfl,_,rfl,CN (fun z=>?_) (fun _=>?_)⟩
  ·exfalso
   have:=V.int.inj (of_decide_eq_true z)
   omega
  refine ⟨_,rfl,n0,rfl,⟨_,hT⟩,Lp (K:=K) (xs:=ts.map V.str) (fun _=>true) (fun _=>.bl true) hT (BK (by omega)) (fun x hx H' hs R k=>k H' (Ak.refl H')) (fun x hx _ H' hs R k=>?_) (fun D H2 hD s2 hl2=>?_)⟩
  ·obtain ⟨z,hz,rfl⟩:=List.mem_map.mp hx
   obtain ⟨z1,z2⟩:=hts z hz
   refine ⟨_,rfl,_,rfl,p,us,"stop",z,ρ,rfl,hs _ _ (s1 _ _ hp),(hR.mono s1).mono hs,hl,z1,fun H3 s3=>?_⟩
   rw [z2]
   exact k H3 s3
  ·refine ⟨D,List.replicate ts.length true,rfl,.inl (.inl ?_),_,rfl,?_⟩
   ·rw [hl2,List.filter_eq_self.mpr (fun _ _=>rfl),List.map_map]
    congr 2
    refine List.ext_getElem? fun i=>?_
    rw [List.getElem?_map,List.getElem?_map,List.getElem?_replicate]
    by_cases hi:i<ts.length
    ·rw [List.getElem?_eq_getElem hi,if_pos hi]
     rfl
    ·rw [List.getElem?_eq_none (by omega),if_neg hi]
     rfl
   have ea:(List.replicate ts.length true).all id=true:=by simp
   rw [ea]
   refine Cv ?_
   have hT2:=s2 _ _ a1
   refine ⟨_,rfl,n0,ts,rfl,.inl (.inl hT2),by omega,fun S hS=>?_⟩
   have s3:=BL (o:=LQ P w S (ts.foldl Ws.FP [])) hS
   refine ⟨S,_,rfl,Ai,_,rfl,n0,_,rfl,.inr (.inl (.inl (s3 _ _ hT2))),rfl,?_⟩
   have e:ts.foldl Ws.FP []=ts:=(KZ ts [] (by rw [List.nil_append]; exact nd)).trans (List.nil_append _)
   have e2:decide (V.int (((ts.foldl Ws.FP []).length:Nat):Int)=V.int (((ts.map V.str).length:Nat):Int))=true:=decide_eq_true (by rw [e,ltm])
   rw [e2]
   exact q _ (s1.trans (s2.trans s3))
noncomputable def YD (K:PySem.W.Frag) (aB aP aM:Addr):Sp:=fun vs H Q _=>∃ (r p:Addr) (ro:R) (us:List V) (ρ:V->R),vs=[.ref r,.ref p]/\H r=some (.tup ro.v)/\H p=some (.lst us)/\Rows H ρ us/\us.length<=500/\Gh K aB aP aM ρ us ro/\∀ H',Ak H H'->Q (.bl true) H'
theorem iM:An ["row","ahead"] ["row","ahead"] (Ac gR):=Be
include N T in
theorem Y0:Ao P w K mg base BR 6 aD.fWm aD.dWm ["row","ahead"] (YD K aB aP aM):=by
 have GHp:Ao P w K mg base BR 5 aD.fHp aD.dHp ["row","ahead"] (bz K aB aP):=bJ N T
 have GSb:Ao P w K mg base BR 3 aD.fSb aD.dSb ["line","ahead"] Yd:=d9 N T
 have GIs:Ao P w K mg base BR 5 aD.fIs aD.dIs ["row","ahead"] du:=Yk N T
 refine N.FWm.1.ok iM (fun vs H Q E h=>?_) (fun cdv A outer s H vs Q E hr h=>?_)
 ·refine byC fun w_=>?_;obtain ⟨r,p,ro,us,ρ,rfl,_⟩:=h;refine w_ ?_
  rfl
 ·refine byC fun w_=>?_;obtain ⟨r,p,ro,us,ρ,rfl,hr0,hp,hR,hl,ok3,q⟩:=h;refine w_ ?_
  have hrHp:A_ 5 _:=hr.mono (by decide)
  have hrSb:A_ 3 _:=hr.mono (by decide)
  have hrIs:A_ 5 _:=hr.mono (by decide)
  refine ⟨_,(Ag (By (Ba Df (Ay (Aw (K:=K) rfl) (pv 0) Af (fun _ _=>rfl)) Bf (BZ _)) (Ae (Ax (Al GIs hrIs rfl N.FIs.2.2 N.FIs.1.kp N.FIs.2.1 .nil Av (Aa (pv 0) (Aa (pv 1) Ab))))) Bb)
   (Ag (By (Ba Df (Ay (Aw (K:=K) rfl) (pv 0) Af (fun _ _=>rfl)) Bf (BZ _)) (Ae (Ax (Cj (Al GHp hrHp rfl N.FHp.2.2 N.FHp.1.kp N.FHp.2.1 .nil Av (Aa (pv 0) (Aa (pv 1) Ab))) (Cq (Al GSb hrSb rfl N.FSb.2.2 N.FSb.1.kp N.FSb.2.1 .nil Av (Aa (pv 0) (Aa (pv 1) Ab))))))) Bb)
   (Ae (Ax (Cj (Tc (Q9 (Ay (Aw (K:=K) rfl) (pv 0) Af (fun _ _=>rfl)) (CP (v:=.ref aP) rfl T.mP rfl))) (Cq (Al GHp hrHp rfl N.FHp.2.2 N.FHp.1.kp N.FHp.2.1 .nil Av (Aa (pv 0) (Aa (pv 1) Ab))))))))),?_⟩
  refine ⟨_,rfl,r,_,_,_,rfl,rfl,.inl (.inl hr0),Aj (j:=0) rfl,rfl,_,rfl,?_⟩
  rcases ok3 with ok | ok
  case inr =>
   refine byC fun w_=>?_;obtain ⟨ts,ets,nd,h24,hts⟩:=ok.ts;refine w_ ?_
   refine CN (fun _=>?_) (fun z=>absurd (decide_eq_true (congrArg V.str ok.w)) z)
   exact ⟨_,rfl,_,rfl,r,p,ro,us,ρ,ts,rfl,hr0,hp,hR,hl,ets,nd,h24,hts,q⟩
  refine byC fun w_=>?_;obtain ⟨ap,ps,hn,hap,hlen,hps,hok⟩:=ok.parts;refine w_ ?_
  refine CN (fun z=>absurd (V.str.inj (of_decide_eq_true z)) ok.ns) (fun _=>?_)
  refine ⟨_,rfl,r,_,_,_,rfl,rfl,.inl (.inl hr0),Aj (j:=0) rfl,rfl,_,rfl,?_⟩
  refine CN (fun z=>?_) (fun _=>?_)
  ·have hline:=ok.line (V.str.inj (of_decide_eq_true z))
   refine ⟨_,rfl,_,rfl,r,p,ro.w,_,us,ρ,ap,ps,rfl,hr0,hp,hR,hl,hn,hap,hlen,hps,hok,fun H1 s1=>⟨_,rfl,EY ?_⟩⟩
   exact ⟨_,rfl,_,rfl,r,p,ro,us,ρ,rfl,s1 _ _ hr0,s1 _ _ hp,hR.mono s1,hl,hline,ok.YQ,fun H2 s2=>q H2 (s1.trans s2)⟩
  refine ⟨_,rfl,r,_,_,_,rfl,rfl,.inl (.inl hr0),Aj (j:=0) rfl,aP,_,_,rfl,rfl,T.dP,hn,_,rfl,EY ?_⟩
  exact ⟨_,rfl,_,rfl,r,p,ro.w,_,us,ρ,ap,ps,rfl,hr0,hp,hR,hl,hn,hap,hlen,hps,hok,q⟩
noncomputable def eF (K:PySem.W.Frag) (aM:Addr):Sp:=fun vs H Q _=>∃ (p:Addr) (w:Str) (us:List V) (ρ:V->R),vs=[.str w,.ref p]/\H p=some (.lst us)/\Rows H ρ us/\us.length<=500/\(PySem.W.nsIn K aM w=some none \/ ∃ (m:Int) (t:Tok),PySem.W.nsIn K aM w=some (some (.int m t))/\(((us.filter (pw ρ w)).length:Nat):Int)<m)/\∀ H',Ak H H'->Q (.bl true) H'
theorem iQ:An ["word","ahead"] ["word","ahead"] (Ac m7):=Be
include N T in
theorem dD:Ao P w K mg base BR 2 aD.fHr aD.dHr ["word","ahead"] (eF K aM):=by
 have GRo:Ao P w K mg base BR 1 aD.fRo aD.dRo ["rows","word"] QL:=MJ N T
 refine N.FHr.1.ok iQ (fun vs H Q E h=>?_) (fun cdv A outer s H vs Q E hr h=>?_)
 ·refine byC fun w_=>?_;obtain ⟨p,w,us,ρ,rfl,_⟩:=h;refine w_ ?_
  rfl
 ·refine byC fun w_=>?_;obtain ⟨p,w,us,ρ,rfl,hp,hR,hl,hroom,q⟩:=h;refine w_ ?_
  have hrRo:A_ 1 _:=hr.mono (by decide)
  refine ⟨_,(Ae (Ax (Zy (Tc (Qi (pv 0) (CP (v:=.ref aM) rfl T.mM rfl))) (Cq (Ck Ip (Az BV rfl T.len PySem.boot_len (Aa (Al GRo hrRo rfl N.FRo.2.2 N.FRo.1.kp N.FRo.2.1 .nil Av (Aa (pv 1) (Aa (pv 0) Ab))) Ab)) (Ko (CP (v:=.ref aM) rfl T.mM rfl) (pv 0) (fun _ _=>rfl)) (BZ _)))))),?_⟩
  rcases hroom with hn | ⟨m,t,hn,hm⟩
  ·refine ⟨_,rfl,aM,w,_,rfl,rfl,T.dM,hn,_,rfl,EY ?_⟩
   exact q H (Ak.refl H)
  refine ⟨_,rfl,aM,w,_,rfl,rfl,T.dM,hn,_,rfl,Cv ?_⟩
  refine ⟨_,rfl,_,rfl,p,us,w,ρ,rfl,hp,hR,hl,fun D H2 hD s2 hl2=>?_⟩
  refine ⟨D,_,rfl,.inl (.inl (.inl hl2)),_,rfl,aM,w,.int m,_,rfl,rfl,T.dM,hn,⟨t,rfl⟩,_,_,rfl,rfl,?_⟩
  show Q (.bl (decide ((((us.filter (pw ρ w)).length:Nat):Int)<m))) H2
  rw [decide_eq_true hm]
  exact q H2 s2
noncomputable def Z9 (K:PySem.W.Frag) (aB aP aM:Addr):Sp:=YD K aB aP aM
theorem nR:An ["thing","ahead"] ["thing","ahead"] (Ac j7):=Be
include N T in
theorem Y_:Ao P w K mg base BR 7 aD.fIr aD.dIr ["thing","ahead"] (Z9 K aB aP aM):=by
 have GWm:Ao P w K mg base BR 6 aD.fWm aD.dWm ["row","ahead"] (YD K aB aP aM):=Y0 N T
 have GHr:Ao P w K mg base BR 2 aD.fHr aD.dHr ["word","ahead"] (eF K aM):=dD N T
 refine N.FIr.1.ok nR (fun vs H Q E h=>?_) (fun cdv A outer s H vs Q E hr h=>?_)
 ·refine byC fun w_=>?_;obtain ⟨r,p,ro,us,ρ,rfl,_⟩:=h;refine w_ ?_
  rfl
 ·refine byC fun w_=>?_;obtain ⟨r,p,ro,us,ρ,rfl,hr0,hp,hR,hl,ok,q⟩:=h;refine w_ ?_
  have hrWm:A_ 6 _:=hr.mono (by decide)
  have hrHr:A_ 2 _:=hr.mono (by decide)
  refine ⟨_,(Ag (By (PW.pt (Ff (CT (Ce (Az Bt rfl T.isin PyProof.Rows.boot_isinstance (Aa (pv 0) (Aa (Ci (v:=.ty "tuple") rfl T.tuple PyProof.Rows.boot_tuple rfl) Ab))))) (Ff (Ba Df (Az BV rfl T.len PySem.boot_len (Aa (pv 0) Ab)) Af (BZ _)) (Fd (CT (Ce (Az Bt rfl T.isin PyProof.Rows.boot_isinstance (Aa (Ay (Aw (K:=K) rfl) (pv 0) Af (fun _ _=>rfl)) (Aa (Ci (v:=.ty "str") rfl T.str PyProof.Rows.boot_str rfl) Ab))))))))) (Ae (Ax Hn)) Bb)
   (Ae (Ax (Cj (Al GWm hrWm rfl N.FWm.2.2 N.FWm.1.kp N.FWm.2.1 .nil Av (Aa (pv 0) (Aa (pv 1) Ab))) (Cq (Al GHr hrHr rfl N.FHr.2.2 N.FHr.1.kp N.FHr.2.1 .nil Av (Aa (Ay (Aw (K:=K) rfl) (pv 0) Af (fun _ _=>rfl)) (Aa (pv 1) Ab)))))))),?_⟩
  have hroom:PySem.W.nsIn K aM ro.w=some none \/ ∃ (m:Int) (t:Tok),PySem.W.nsIn K aM ro.w=some (some (.int m t))/\(((us.filter (pw ρ ro.w)).length:Nat):Int)<m:=Gh.room ok
  refine ⟨_,rfl,_,"tuple",_,_,rfl,.tup hr0,Qt,_,rfl,Cv ?_⟩
  refine ⟨_,rfl,r,_,rfl,.inr (.inl (.inl hr0)),rfl,_,rfl,?_⟩
  refine CN (fun z=>?_) (fun _=>?_)
  ·exfalso
   have:=of_decide_eq_true z
   have:=V.int.inj this
   simp at this
   omega
  refine ⟨_,rfl,r,_,_,_,rfl,rfl,.inl (.inl hr0),Aj (j:=0) rfl,_,"str",_,_,rfl,.str _,Oq,_,rfl,Cv ?_⟩
  refine ⟨_,rfl,_,rfl,r,p,ro,us,ρ,rfl,hr0,hp,hR,hl,ok,fun H1 s1=>⟨_,rfl,EY ?_⟩⟩
  exact ⟨_,rfl,r,_,_,_,rfl,rfl,.inl (.inl (s1 _ _ hr0)),Aj (j:=0) rfl,_,rfl,p,ro.w,us,ρ,rfl,s1 _ _ hp,hR.mono s1,hl,hroom,fun H2 s2=>q H2 (s1.trans s2)⟩
noncomputable def Yq (K:PySem.W.Frag) (aB aP aM:Addr):Sp:=fun vs H Q _=>∃ (p:Addr) (us:List V) (ρ:V->R),vs=[.ref p]/\H p=some (.lst us)/\Rows H ρ us/\1<=us.length/\us.length<=150/\(∀ (i:Nat) v,us[i]? = some v->Gh K aB aP aM ρ (us.take i) (ρ v))/\(us.filter (pw ρ "board")).isEmpty=false/\∀ H',Ak H H'->Q .non H'
theorem Wf:An ["rows","at","row"] ["rows"] (Ac iK):=Be
include N T in
theorem eG:Ao P w K mg base BR 8 aD.fCk aD.dCk ["rows"] (Yq K aB aP aM):=by
 have GIr:Ao P w K mg base BR 7 aD.fIr aD.dIr ["thing","ahead"] (Z9 K aB aP aM):=Y_ N T
 have GRo:Ao P w K mg base BR 1 aD.fRo aD.dRo ["rows","word"] QL:=MJ N T
 refine N.FCk.1.ok Wf (fun vs H Q E h=>?_) (fun cdv A outer s H vs Q E hr h=>?_)
 ·refine byC fun w_=>?_;obtain ⟨p,us,ρ,rfl,_⟩:=h;refine w_ ?_
  rfl
 ·refine byC fun w_=>?_;obtain ⟨p,us,ρ,rfl,hp,hR,h1,h2,hok,hb,q⟩:=h;refine w_ ?_
  have hrIr:A_ 7 _:=hr.mono (by decide)
  have hrRo:A_ 1 _:=hr.mono (by decide)
  obtain ⟨tMR,hMR⟩:=T.mostR
  refine ⟨_,(Ag (By (PW.pt (Ff (CT (Ce (Az Bt rfl T.isin PyProof.Rows.boot_isinstance (Aa (pv 0) (Aa (Ci (v:=.ty "list") rfl T.list PyProof.Rows.boot_list rfl) Ab))))) (Fd (CT (Hk Ez Ez Af (Az BV rfl T.len PySem.boot_len (Aa (pv 0) Ab)) (CP (v:=.int 150) rfl hMR ⟨tMR,rfl⟩)))))) (Ae D_) Bb)
   (Ag (Es PassesOwn.never rfl (JG rfl T.enumerate (Aa (pv 0) Ab)) (Kr rfl (Dz (CW (i:=1) Wf.nd rfl (Or.inl rfl)) (Dz (CW (i:=2) Wf.nd rfl (Or.inl rfl)) JF))) (Ae (By (CT (Ce (Al GIr hrIr rfl N.FIr.2.2 N.FIr.1.kp N.FIr.2.1 .nil Av (Aa (pv 2) (Aa (Di Gr (pv 0) Ej (Eg (pv 1))) Ab))))) (Ae D_) Bb)))
   (Ae (By (CT (Jx (Al GRo hrRo rfl N.FRo.2.2 N.FRo.1.kp N.FRo.2.1 .nil Av (Aa (pv 0) (Aa Bf Ab))) (fun _=>rfl))) (Ae D_) Bb)))),?_⟩
  have hS:Cu K H p us:=.inl (.inl hp)
  refine ⟨_,rfl,_,"list",_,_,rfl,.lst hp,Ov,_,rfl,Cv ?_⟩
  refine ⟨_,rfl,p,_,rfl,.inl hS,_,_,rfl,rfl,_,rfl,?_⟩
  refine CN (fun _=>?_) (fun z=>absurd (decide_eq_true (by omega)) z)
  refine ⟨_,_,rfl,rfl,_,rfl,?_⟩
  have e150:decide ((us.length:Int)<=150)=true:=decide_eq_true (by omega)
  rw [e150]
  refine Cv ?_
  refine ⟨_,rfl,p,rfl,⟨_,hS⟩,JN (K:=K) (a:=p) (xs:=us) (fun i σ H4=>Ak H H4/\∃ v1 v2,σ=[some (.ref p),v1,v2]) ⟨Ak.refl H,_,_,rfl⟩ (fun i σ H4 _ h=>h.1.seq hS) ?_ ?_⟩
  ·rintro i x σ H4 T0 hx ⟨s4,v1,v2,rfl⟩ hT
   have s5:=BL (o:=HO.tup [.int (i:Int),x]) hT
   refine ⟨T0,_,rfl,.inl (.inl Ai),rfl,_,_,rfl,_,_,rfl,rfl,?_⟩
   generalize upd H4 T0 (HO.tup [.int (i:Int),x])=H5 at s5 ⊢
   have s05:=s4.trans s5
   have hi:i<us.length:=(List.getElem?_eq_some_iff.mp hx).1
   obtain ⟨r,rfl,hr0⟩:=(hR.mono s05) x (List.mem_of_getElem? hx)
   refine ⟨_,rfl,_,rfl,_,rfl,_,rfl,p,_,rfl,s05.seq hS,fun p6 hp6=>?_⟩
   have s6:=BL (o:=HO.lst (Dq us none (some (i:Int)))) hp6
   have a6:upd H5 p6 (HO.lst (Dq us none (some (i:Int)))) p6=_:=Ai
   generalize upd H5 p6 (HO.lst (Dq us none (some (i:Int))))=H6 at s6 a6 ⊢
   rw [GX us i (by omega)] at a6
   have s06:=s05.trans s6
   refine ⟨r,p6,ρ (.ref r),us.take i,ρ,rfl,s6 _ _ hr0,a6,(hR.mono s06).sub fun v hv=>List.mem_of_mem_take hv,by rw [List.length_take]; omega,hok i _ hx,fun H7 s7=>⟨_,rfl,Cv ?_⟩⟩
   exact ⟨s06.trans s7,_,_,rfl⟩
  ·rintro σ H4 ⟨s4,v1,v2,rfl⟩
   refine ⟨_,rfl,p,us,"board",ρ,rfl,s4 _ _ hp,hR.mono s4,by omega,fun D H5 hD s5 hl5=>?_⟩
   refine ⟨_,.inl ⟨_,.inl (.inl hl5),rfl⟩,?_⟩
   rw [hb]
   exact Cv (q H5 (s4.trans s5))
noncomputable def bD:Sp:=fun vs H Q _=>∃ (p:Addr) (ts:List Str),vs=[.ref p]/\H p=some (.lst (ts.map V.str))/\ts.length<=300/\ts.Nodup/\∀ D (kvs:List (Key × V)) H',H D=none->Ak H H'->H' D=some (.dK kvs)->(∀ (i:Nat) t,ts[i]? = some t->Bx kvs (Sum.inr t)=some (.int (i:Nat)))->(∀ t,t ∉ ts->Bx kvs (Sum.inr t)=none)->Q (.ref D) H'
theorem Vv:An ["names","numbers","number","name"] ["names"] (Ac j6):=Be
include N T in
theorem Yo:Ao P w K mg base BR 1 aD.fNu aD.dNu ["names"] bD:=by
 refine N.FNu.1.ok Vv (fun vs H Q E h=>?_) (fun cdv A outer s H vs Q E hr h=>?_)
 ·obtain ⟨p,ts,rfl,_⟩:=h
  rfl
 ·obtain ⟨p,ts,rfl,hp,hl,nd,q⟩:=h
  have hu:=DR hr
  refine ⟨_,(Ag (BX (i:=1) Vv.nd rfl (Or.inl rfl) Ht)
   (Ag (Es PassesOwn.never rfl (JG rfl T.enumerate (Aa (pv 0) Ab)) (Kr rfl (Dz (CW (i:=2) Vv.nd rfl (Or.inl rfl)) (Dz (CW (i:=3) Vv.nd rfl (Or.inl rfl)) JF))) (Ae (JK hu (pv 1) (pv 3) (pv 2) rfl)))
   (Ae (Ax (pv 1))))),?_⟩
  intro D hD
  have s0:=BL (o:=HO.dK []) hD
  have hS:Cu K H p (ts.map V.str):=.inl (.inl hp)
  refine ⟨_,rfl,p,rfl,⟨_,s0.seq hS⟩,JN (K:=K) (a:=p) (xs:=ts.map V.str) (fun i σ H4=>Ak H H4/\∃ (kvs:List (Key × V)),H4 D=some (.dK kvs)/\kvs.length<=i/\(∀ (j:Nat) t,j<i->ts[j]? = some t->Bx kvs (Sum.inr t)=some (.int (j:Nat)))/\(∀ t,t ∉ ts->Bx kvs (Sum.inr t)=none)/\∃ v2 v3,σ=[some (.ref p),some (.ref D),v2,v3])
   ⟨s0,[],Ai,Nat.le_refl _,fun j t hj=>absurd hj (Nat.not_lt_zero _),fun t _=>Ry,_,_,rfl⟩ (fun i σ H4 _ h=>h.1.seq hS) ?_ ?_⟩
  ·rintro i x σ H4 T0 hx ⟨s4,kvs,hd,hk,hv,hv0,v2,v3,rfl⟩ hT
   rw [List.getElem?_map] at hx
   obtain ⟨t,ht,rfl⟩:=Option.map_eq_some_iff.mp hx
   have hi:i<ts.length:=(List.getElem?_eq_some_iff.mp ht).1
   have s5:=BL (o:=HO.tup [.int (i:Int),.str t]) hT
   refine ⟨T0,_,rfl,.inl (.inl Ai),rfl,_,_,rfl,_,_,rfl,rfl,?_⟩
   generalize upd H4 T0 (HO.tup [.int (i:Int),.str t])=H5 at s5 ⊢
   refine ⟨_,rfl,_,rfl,_,rfl,D,_,rfl,Lq.k (k:=Sum.inr t) (s5 _ _ hd) (BK (by omega)),?_⟩
   refine ⟨fun b u e=>?_,putK kvs (Sum.inr t) (.int (i:Int)),Ai,Nat.le_trans (GJ _ _ _) (by omega),fun j t' hj ht'=>?_,fun t' ht'=>(by rw [Jc,if_neg fun z=>ht' (by rw [Sum.inr.inj z]; exact List.mem_of_getElem? ht)]; exact hv0 t' ht'),_,_,rfl⟩
   ·rw [Aq (Am e hD)]
    exact s5 _ _ (s4 _ _ e)
   ·rw [Jc]
    by_cases e:t'=t
    ·subst e
     have:j=i:=by
      obtain ⟨h1,e1⟩:=List.getElem?_eq_some_iff.mp ht'
      obtain ⟨h2,e2⟩:=List.getElem?_eq_some_iff.mp ht
      exact (List.getElem_inj nd).mp (e1.trans e2.symm)
     subst this
     rw [if_pos rfl]
    ·rw [if_neg fun z=>e (Sum.inr.inj z)]
     refine hv j t' ?_ ht'
     rcases Nat.lt_succ_iff_lt_or_eq.mp hj with z | z
     ·exact z
     ·subst z
      rw [ht] at ht'
      exact absurd (Option.some.inj ht').symm e
  ·rintro σ H4 ⟨s4,kvs,hd,hk,hv,hv0,v2,v3,rfl⟩
   refine ⟨_,rfl,q D kvs H4 hD s4 hd (fun i t ht=>hv i t ?_ ht) hv0⟩
   rw [List.length_map]
   exact (List.getElem?_eq_some_iff.mp ht).1
noncomputable def W_:Sp:=fun vs H Q _=>∃ (p:Addr) (as:List Th) (us:List V),vs=[.ref p]/\H p=some (.lst us)/\Paired (fun (a:Th) y=>TupAt H (tV a) y) as us/\as.length<=500/\(∀ a∈as,a.2.1<=100)/\∀ H',Ak H H'->Q (.int ((as.map fun a=>a.2.1).sum:Nat)) H'
theorem Oe:∀ l:List Nat,(l.map fun n:Nat=>(n:Int)).sum=((l.sum:Nat):Int)
 | []=>rfl
 | n::l=>by
  rw [List.map_cons,List.sum_cons,List.sum_cons,Oe l]
  omega
theorem lQ:An ["things"] ["things"] (Ac fG):=Be
include N T in
theorem WQ:Ao P w K mg base BR 1 aD.fCa aD.dCa ["things"] W_:=by
 refine N.FCa.1.ok lQ (fun vs H Q E h=>?_) (fun cdv A outer s H vs Q E hr h=>?_)
 ·obtain ⟨p,as,us,rfl,_⟩:=h
  rfl
 ·obtain ⟨p,as,us,rfl,hp,hb,hl,hz,q⟩:=h
  refine ⟨_,(Ae (Ax (Az (JV rfl) rfl T.sum PyProof.Rows.boot_sum (Aa (Bo rfl (BP (osc:=Ac fG) (N:=["things"]) rfl rfl (by decide +kernel)) (Bp (pv 0)) (fun _ _ _ _=>CK) (fun _ _ _ _=>(Ay (Aw (K:=K) rfl) (pv 0) Af (fun _ _=>rfl)))) Ab)))),?_⟩
  have hS:Cu K H p us:=.inl (.inl hp)
  have hul:=hb.length
  refine ⟨_,rfl,p,rfl,⟨_,hS⟩,Cg (K:=K) (xs:=us) (fun _=>true) (Ql H 1) hS (BK (by omega)) (fun x hx H' hs R k=>k H' (Ak.refl H')) (fun x hx _ H' hs R k=>?_) (fun D H' hD hs hl'=>?_)⟩
  ·obtain ⟨b,_,hx'⟩:=DK hb hx
   have e:=HS hx' 1
   obtain ⟨T0,rfl,hT⟩:=hx'.mono hs
   refine ⟨_,rfl,T0,_,_,_,rfl,rfl,.inl (.inl hT),Aj (j:=1) rfl,?_⟩
   have:=k H' (Ak.refl H')
   rw [e] at this
   exact this
  ·rw [List.filter_eq_self.mpr (fun _ _=>rfl),JB 1 hb] at hl'
   have e:(as.map fun a=>(tV a).getD 1 V.non)=((as.map fun a=>a.2.1).map fun n:Nat=>(n:Int)).map V.int:=by
    rw [List.map_map,List.map_map]
    rfl
   rw [e] at hl'
   refine ⟨D,_,rfl,.inl (.inl hl'),fun n hn=>?_,by simp; omega,?_⟩
   ·obtain ⟨m,hm,rfl⟩:=List.mem_map.mp hn
    obtain ⟨b,hb',rfl⟩:=List.mem_map.mp hm
    have:=hz b hb'
    omega
   ·rw [Oe]
    exact q H' hs
theorem aR {n:Nat} (h:n<=3000):n<sizeLine:=Nat.lt_of_le_of_lt h (by decide)
noncomputable def Zi:Sp:=fun vs H Q _=>∃ (p:Addr) (as:List Th) (us:List V),vs=[.ref p]/\H p=some (.lst us)/\Paired (fun (a:Th) y=>TupAt H (tV a) y) as us/\as.length<=12/\(∀ a∈as,a.2.1<=97)/\∀ D ys H',H D=none->Ak H H'->H' D=some (.lst ys)->Paired (fun q y=>TupAt H' (qV q) y) (FN (as.map tN)) ys->Q (.ref D) H'
theorem Vg:An ["things","places","number","thing"] ["things"] (Ac fX):=Be
include N T in
theorem Y4:Ao P w K mg base BR 1 aD.fPl aD.dPl ["things"] Zi:=by
 refine N.FPl.1.ok Vg (fun vs H Q E h=>?_) (fun cdv A outer s H vs Q E hr h=>?_)
 ·obtain ⟨p,as,us,rfl,_⟩:=h
  rfl
 ·obtain ⟨p,as,us,rfl,hp,hb,hl,hz,q⟩:=h
  refine ⟨_,(Ag (BX (i:=1) Vg.nd rfl (Or.inl rfl) (FQ Ab))
   (Ag (Es PassesOwn.never rfl (JG rfl T.enumerate (Aa (pv 0) Ab)) (Kr rfl (Dz (CW (i:=2) Vg.nd rfl (Or.inr rfl)) (Dz (CW (i:=3) Vg.nd rfl (Or.inl rfl)) JF))) (Ae (Ei (KD PySem.F.plainAttrs_list PySem.F.slot_list_extend PySem.F.type_list_extend Qh (pv 1) (Aa (Bo rfl (BP (osc:=Ac fX) (N:=["things","places","number","thing"]) rfl rfl (by decide +kernel)) (Fi rfl T.range (Aa (Ay (Aw (K:=K) rfl) (pv 3) Af (fun _ _=>rfl)) Ab)) (fun _ _ _ _=>CK) (fun _ _ _ _=>(DY (Aa (pv 3) (Aa (pv 0) Ab))))) Ab)))))
   (Ae (Ax (pv 1))))),?_⟩
  refine ⟨Ew (by simp),fun D hD=>?_⟩
  have s0:=BL (o:=HO.lst []) hD
  have hS:Cu K H p us:=.inl (.inl hp)
  have hul:=hb.length
  refine ⟨_,rfl,p,rfl,⟨_,s0.seq hS⟩,JN (K:=K) (a:=p) (xs:=us) (fun i σ H4=>Ak H H4/\∃ ys,H4 D=some (.lst ys)/\Paired (fun q y=>TupAt H4 (qV q) y) (FN ((as.map tN).take i)) ys/\∃ v2 v3,σ=[some (.ref p),some (.ref D),v2,v3])
   ⟨s0,[],Ai,.nil,_,_,rfl⟩ (fun i σ H4 _ h=>h.1.seq hS) ?_ ?_⟩
  ·rintro i x σ H4 T0 hx ⟨s4,ys,hd,hpr,v2,v3,rfl⟩ hT
   obtain ⟨b,hbi,hxb⟩:=Ms hb hx
   have hi:i<as.length:=(List.getElem?_eq_some_iff.mp hbi).1
   have hb97:=hz b (List.mem_of_getElem? hbi)
   have hbi':(as.map tN)[i]? = some (tN b):=by rw [List.getElem?_map,hbi]; rfl
   have s5:=BL (o:=HO.tup [.int (i:Int),x]) hT
   refine ⟨T0,_,rfl,.inl (.inl Ai),rfl,_,_,rfl,_,_,rfl,rfl,?_⟩
   generalize upd H4 T0 (HO.tup [.int (i:Int),x])=H5 at s5 ⊢
   obtain ⟨r,rfl,hr0⟩:=hxb.mono (s4.trans s5)
   have p5:=Ar s5 hpr
   have d5:=s5 _ _ hd
   refine ⟨_,rfl,.inl ⟨rfl,_,.inl (.inl d5)⟩,_,rfl,r,_,_,_,rfl,rfl,.inl (.inl hr0),Aj (j:=1) rfl,_,rfl,by omega,by omega,?_⟩
   rw [Int.toNat_natCast]
   refine J6 (n:=b.2.1) (fun e=>qV (i,e)) (BK (by omega)) (fun e he H6 s6 R k=>?_) (fun D6 H6 zs hD6 s6 hl6 hz6=>?_)
   ·refine ⟨_,rfl,_,rfl,by show 2<=sizeLine; decide,fun T6 hT6=>?_⟩
    exact k _ _ (BL hT6) ⟨T6,rfl,Ai⟩
   ·have ly:=(Ar s6 p5).length
    have lz:=hz6.length
    have lp:=K6 ((as.map tN).take i) 97 fun b hb=>by
     obtain ⟨a,ha,rfl⟩:=List.mem_map.mp (List.mem_of_mem_take hb)
     exact hz a ha
    rw [List.length_take,List.length_map] at lp
    rw [List.length_range] at lz
    have:min i as.length * 97<=12 * 97:=Nat.mul_le_mul_right _ (by omega)
    refine ⟨D,D6,ys,zs,rfl,rfl,s6 _ _ d5,hl6,Nat.le_of_lt (aR (by omega)),?_⟩
    refine ⟨fun b u e=>?_,ys++zs,Ai,?_,_,_,rfl⟩
    ·rw [Aq (Am e hD)]
     exact s6 _ _ (s5 _ _ (s4 _ _ e))
    ·rw [Hc hbi']
     exact Er (Eo (Ar s6 p5) (s6 _ _ d5)) (Bu (F:=fun q y=>TupAt _ (qV q) y) (fun e=>(i,e)) (Eo hz6 (s6 _ _ d5)))
  ·rintro σ H4 ⟨s4,ys,hd,hpr,v2,v3,rfl⟩
   rw [← hul,List.take_of_length_le (by rw [List.length_map]; exact Nat.le_refl _)] at hpr
   exact ⟨_,rfl,q D ys H4 hD s4 hd hpr⟩
theorem U9 {α:Type} (l:List α) (x:α):Ud (l++[x]) (-1)=some x:=by
 unfold Ud Xo
 rw [if_neg (by decide),if_pos (by rw [List.length_append,List.length_singleton]; omega)]
 show (l++[x])[(-1+(((l++[x]).length:Nat):Int)).toNat]? = some x
 have e:(-1+(((l++[x]).length:Nat):Int)).toNat=l.length:=by
  rw [List.length_append,List.length_singleton]
  omega
 rw [e,List.getElem?_append_right (Nat.le_refl _),Nat.sub_self]
 rfl
theorem Jv {H:Hp} {l:List Ln} {v:V} {A:Addr} {xs ys:List V} (h:Gm H l v) (hA:H A=some (.lst xs)) (hv:v ≠ .ref A):Gm (upd H A (.lst ys)) l v:=by
 obtain ⟨B,ts,rfl,h1,h2⟩:=h
 have:B ≠ A:=fun z=>hv (by rw [z])
 exact ⟨B,ts,rfl,by rw [Aq this]; exact h1,Eo h2 hA⟩
theorem E_ {α β:Type} {F G:α->β->Prop}:∀ {l:List α} {vs:List β},Paired F l vs->(∀ a b,b∈vs->F a b->G a b)->Paired G l vs
 | [],_,h,_=>by cases h; exact .nil
 | a::l,_,h,k=>by
  cases h with
  | cons x y=>exact .cons (k _ _ (List.mem_cons_self ..) x) (E_ y fun a b hb=>k a b (List.mem_cons_of_mem _ hb))
theorem Hg {α β:Type} {F:α->β->Prop}:∀ {l:List α} {z:α} {vs:List β},Paired F (l++[z]) vs->∃ us u,vs=us++[u]/\Paired F l us/\F z u
 | [],z,_,h=>by
  cases h with
  | cons x y=>cases y; exact ⟨[],_,rfl,.nil,x⟩
 | a::l,z,_,h=>by
  cases h with
  | cons x y =>
   obtain ⟨us,u,rfl,h1,h2⟩:=Hg y
   exact ⟨_::us,u,rfl,.cons x h1,h2⟩
theorem FJ {α:Type} {l:List α} (h:l ≠ []):∃ a z,l=a++[z]:=⟨l.dropLast,l.getLast h,(List.dropLast_concat_getLast h).symm⟩
theorem Mg {rk:List (Str × Nat × Int)}:∀ {rs:List R},(∃ r∈rs,G5 r.w=true)->linesOf rk rs ≠ []:=by
 have key:∀ (n:Nat) (rs:List R),rs.length=n->(∃ r∈rs,G5 r.w=true)->linesOf rk rs ≠ []:=by
  intro n
  induction n with
  | zero =>
   rintro rs hl ⟨r,hr,_⟩
   cases rs with
   | nil=>cases hr
   | cons a b=>cases hl
  | succ n ih =>
   rintro rs hl ⟨r,hr,hk⟩
   obtain ⟨a,z,rfl⟩:=FJ (l:=rs) (by intro e; rw [e] at hl; cases hl)
   rw [Cd]
   rw [List.length_append,List.length_singleton] at hl
   unfold C_
   by_cases hz:G5 z.w=true
   ·rw [if_pos hz]
    simp
   ·rw [if_neg hz]
    have hr':r∈a:=by
     rcases List.mem_append.mp hr with h | h
     ·exact h
     ·rw [List.mem_singleton.mp h] at hk
      exact absurd hk hz
    have ih':=ih a (by omega) ⟨r,hr',hk⟩
    split
    ·obtain ⟨b,y,e⟩:=FJ ih'
     rw [e,Gv]
     simp
    ·exact ih'
 exact fun {rs} h=>key rs.length rs rfl h
noncomputable def bh:Sp:=fun vs H Q _=>∃ (p d:Addr) (us:List V) (ρ:V->R) (rk:List (Str × Nat × Int)) (kvs:List (Key × V)),vs=[.ref p,.ref d]/\H p=some (.lst us)/\Rows H ρ us/\us.length<=500/\H d=some (.dK kvs)/\(∀ (i:Nat) r,rk[i]? = some r->Bx kvs (Sum.inr r.1)=some (.int (i:Nat)))/\(rk.map (·.1)).Nodup /\
 (∀ (i:Nat) v,us[i]? = some v->(ρ v).w = "line"->(∃ (j:Nat) (r:Str × Nat × Int) (sh lo hi:Int),rk[j]? = some r/\r.1=(ρ v).nm/\(ρ v).rest=[.int sh,.int lo,.int hi])/\∃ u∈us.take i,G5 (ρ u).w=true)/\∀ D H',H D=none->Ak H H'->Dj p H' D (linesOf rk (us.map ρ))->Q (.ref D) H'
theorem XM {rk:List (Str × Nat × Int)} {j:Nat} {r:Str × Nat × Int} (nd:(rk.map (·.1)).Nodup) (h:rk[j]? = some r):(rk.map (·.1)).idxOf r.1=j:=by
 have hj:j<(rk.map (·.1)).length:=by rw [List.length_map]; exact (List.getElem?_eq_some_iff.mp h).1
 have e:(rk.map (·.1))[j]=r.1:=by
  rw [List.getElem_map]
  exact congrArg (·.1) (List.getElem?_eq_some_iff.mp h).2
 rw [← e]
 exact List.Nodup.idxOf_getElem nd j hj
theorem Wy:An ["rows","rank_numbers","lines","row"] ["rows","rank_numbers"] (Ac iu):=Be
include N T in
theorem eX:Ao P w K mg base BR 1 aD.fLi aD.dLi ["rows","rank_numbers"] bh:=by
 refine N.FLi.1.ok Wy (fun vs H Q E h=>?_) (fun cdv A outer s H vs Q E hr h=>?_)
 ·obtain ⟨p,d,us,ρ,rk,kvs,rfl,_⟩:=h
  rfl
 ·obtain ⟨p,d,us,ρ,rk,kvs,rfl,hp,hR,hl,hdk,hval,hnd,hln,q⟩:=h
  have hu:=DR hr
  refine ⟨_,(Ag (BX (i:=2) Wy.nd rfl (Or.inl rfl) (FQ Ab))
   (Ag (Es PassesOwn.never rfl (Bp (pv 0)) (CW (i:=3) Wy.nd rfl (Or.inl rfl)) (Ag (By (Ba (JR (K:=K) rfl) (Ay (Aw (K:=K) rfl) (pv 3) Af (fun _ _=>rfl)) (CP (v:=.ref aK) rfl T.mK rfl) rfl) (Ae (Ei (KD PySem.F.plainAttrs_list PySem.F.slot_list_append PySem.F.type_list_append El (pv 2) (Aa (FQ Ab) Ab)))) Bb)
   (Ae (By (Ba Df (Ay (Aw (K:=K) rfl) (pv 3) Af (fun _ _=>rfl)) Bf (BZ _)) (Ae (Ei (KD PySem.F.plainAttrs_list PySem.F.slot_list_append PySem.F.type_list_append El (Ay (Em (K:=K) rfl) (pv 2) (Jp JX Af) (fun _ _=>rfl)) (Aa (DY (Aa (Fy hu (pv 1) (Ay (Aw (K:=K) rfl) (pv 3) Af (fun _ _=>rfl)) (fun _ _=>rfl)) (Aa (Ay (Aw (K:=K) rfl) (pv 3) Af (fun _ _=>rfl)) (Aa (Ay (Aw (K:=K) rfl) (pv 3) Af (fun _ _=>rfl)) (Aa (Ay (Aw (K:=K) rfl) (pv 3) Af (fun _ _=>rfl)) Ab))))) Ab)))) Bb))))
   (Ae (Ax (pv 2))))),?_⟩
  refine ⟨Ew (by simp),fun D hD=>?_⟩
  have s0:=BL (o:=HO.lst []) hD
  have hS:Cu K H p us:=.inl (.inl hp)
  refine ⟨_,rfl,p,rfl,⟨_,s0.seq hS⟩,Gg (K:=K) (a:=p) (xs:=us) (fun i σ H4=>Ak H H4/\∃ lv,H4 D=some (.lst lv)/\Paired (fun l v=>Gm H4 l v) (linesOf rk ((us.take i).map ρ)) lv/\lv.Nodup/\(∀ v∈lv,v ≠ .ref D)/\(∀ v∈lv,∃ A,v=.ref A/\H A=none)/\lv.length<=i/\(∀ l∈linesOf rk ((us.take i).map ρ),l.length<=i)/\∃ v3,σ=[some (.ref p),some (.ref d),some (.ref D),v3])
   ⟨s0,[],Ai,.nil,List.nodup_nil,(fun v hv=>nomatch hv),(fun v hv=>nomatch hv),Nat.le_refl _,(fun l hl=>nomatch hl),_,rfl⟩ (fun i σ H4 _ h=>h.1.seq hS) ?_ ?_⟩
  ·rintro i x σ H4 hx ⟨s4,lv,hd,hpr,nd,hne,hA0,hlv,hll,v3,rfl⟩
   have hm:=List.mem_of_getElem? hx
   have hi:i<us.length:=(List.getElem?_eq_some_iff.mp hx).1
   obtain ⟨r,rfl,hr0⟩:=(hR.mono s4) x hm
   have etake:(us.take (i+1)).map ρ=(us.take i).map ρ++[ρ (.ref r)]:=by
    rw [List.take_add_one,hx,List.map_append]
    rfl
   have est:linesOf rk ((us.take (i+1)).map ρ)=C_ rk (linesOf rk ((us.take i).map ρ)) (ρ (.ref r)):=by rw [etake,Cd]
   have lvl:(linesOf rk ((us.take i).map ρ)).length=lv.length:=hpr.length
   by_cases hk:G5 (ρ (.ref r)).w=true
   ·have hnl:¬ (ρ (.ref r)).w = "line":=fun z=>by rw [z] at hk; exact absurd hk (by decide +kernel)
    have est2:linesOf rk ((us.take (i+1)).map ρ)=linesOf rk ((us.take i).map ρ)++[[]]:=by rw [est]; unfold C_; rw [if_pos hk]
    refine ⟨_,rfl,r,_,_,_,rfl,rfl,.inl (.inl hr0),Aj (j:=0) rfl,aK,_,rfl,.inr (T.tK.sq _),rfl,rfl,_,rfl,?_⟩
    refine CN (fun _=>?_) (fun z=>absurd hk z)
    refine ⟨_,rfl,.inl ⟨rfl,_,.inl (.inl hd)⟩,Ew (by simp),fun p5 hp5=>?_⟩
    obtain ⟨H5,eqH,s5,u5⟩:=Hj (o:=HO.lst []) hp5
    rw [eqH]
    have hd5:=s5 _ _ hd
    refine ⟨D,lv,_,rfl,rfl,hd5,BK (by omega),?_⟩
    have hrD:r ≠ D:=V1 (s5 _ _ hr0) hd5 (by intro z; cases z)
    have hpD:p5 ≠ D:=fun z=>by rw [z,hd] at hp5; cases hp5
    refine ⟨_,rfl,r,_,_,_,rfl,rfl,.inl (.inl (by rw [Aq hrD]; exact s5 _ _ hr0)),Aj (j:=0) rfl,rfl,_,rfl,?_⟩
    refine CN (fun z=>absurd (V.str.inj (of_decide_eq_true z)) hnl) (fun _=>?_)
    refine ⟨fun b u e=>?_,lv++[.ref p5],Ai,?_,?_,?_,?_,by simp; omega,?_,_,rfl⟩
    ·rw [Aq (Am e hD)]
     exact s5 _ _ (s4 _ _ e)
    ·rw [est2]
     refine Er (E_ hpr fun l v hv h=>Jv (h.mono s5) hd5 (hne v hv)) (.cons ⟨p5,[],rfl,by rw [Aq hpD]; exact u5,.nil⟩ .nil)
    ·refine PN nd fun hm=>?_
     obtain ⟨l,_,hA⟩:=DK hpr hm
     obtain ⟨A,ts,e,h1,_⟩:=hA
     cases e
     rw [h1] at hp5
     cases hp5
    ·intro v hv
     rcases List.mem_append.mp hv with h | h
     ·exact hne v h
     ·rw [List.mem_singleton.mp h]
      intro z
      exact hpD (V.ref.inj z)
    ·intro v hv
     rcases List.mem_append.mp hv with h | h
     ·exact hA0 v h
     ·exact ⟨p5,List.mem_singleton.mp h,s4.free hp5⟩
    ·intro l hl'
     rw [est2] at hl'
     rcases List.mem_append.mp hl' with h | h
     ·exact Nat.le_succ_of_le (hll l h)
     ·rw [List.mem_singleton.mp h]
      exact Nat.zero_le _
   ·refine ⟨_,rfl,r,_,_,_,rfl,rfl,.inl (.inl hr0),Aj (j:=0) rfl,aK,_,rfl,.inr (T.tK.sq _),rfl,rfl,_,rfl,?_⟩
    refine CN (fun z=>absurd z hk) (fun _=>?_)
    refine ⟨_,rfl,r,_,_,_,rfl,rfl,.inl (.inl hr0),Aj (j:=0) rfl,rfl,_,rfl,?_⟩
    by_cases hwl:(ρ (.ref r)).w = "line"
    ·refine CN (fun _=>?_) (fun z=>absurd (decide_eq_true (congrArg V.str hwl)) z)
     obtain ⟨⟨j,rr,sh,lo,hi',hj,hnm,hrest⟩,u,hu,hku⟩:=hln i _ hx hwl
     have hne0:linesOf rk ((us.take i).map ρ) ≠ []:=Mg ⟨ρ u,List.mem_map_of_mem hu,hku⟩
     obtain ⟨ac,z,eac⟩:=FJ hne0
     rw [eac] at hpr
     obtain ⟨lv',v,rfl,hpr',hz⟩:=Hg hpr
     obtain ⟨A,ts,rfl,hA,htp⟩:=hz
     have est2:linesOf rk ((us.take (i+1)).map ρ)=ac++[z++[⟨j,sh,lo,hi'⟩]]:=by
      rw [est]
      unfold C_
      rw [if_neg hk,if_pos hwl,eac,Gv]
      unfold lnOf
      rw [hrest,← hnm,XM hnd hj]
     have hr1:H4 r=some (.tup [.str (ρ (.ref r)).w,.str (ρ (.ref r)).nm,.int sh,.int lo,.int hi']):=by rw [hr0,← hrest]
     have g:=En.k (k:=Sum.inr rr.1) (s4 _ _ hdk)
     rw [hval j rr hj,hnm] at g
     have hAD:A ≠ D:=fun e=>hne (.ref A) (by simp) (by rw [e])
     have hzl:z.length<=i:=hll z (by rw [eac]; simp)
     have htl:=htp.length
     refine ⟨_,rfl,_,rfl,D,_,_,_,rfl,rfl,.inl (.inl hd),U9 lv' (V.ref A),.inl ⟨rfl,_,.inl (.inl hA)⟩,_,rfl,_,rfl,r,_,_,_,rfl,rfl,.inl (.inl hr1),Aj (j:=1) rfl,d,_,rfl,g,_,rfl,r,_,_,_,rfl,rfl,.inl (.inl hr1),Aj (j:=2) rfl,_,rfl,r,_,_,_,rfl,rfl,.inl (.inl hr1),Aj (j:=3) rfl,_,rfl,r,_,_,_,rfl,rfl,.inl (.inl hr1),Aj (j:=4) rfl,by show 4<=sizeLine; decide,fun T5 hT5=>?_⟩
     obtain ⟨H5,eqH,s5,u5⟩:=Hj (o:=HO.tup [.int (j:Nat),.int sh,.int lo,.int hi']) hT5
     rw [eqH]
     have hA5:=s5 _ _ hA
     have hTA:T5 ≠ A:=fun e=>by rw [e,hA] at hT5; cases hT5
     have hdj:D ≠ A:=fun e=>hAD e.symm
     obtain ⟨nd1,_,hdisj⟩:=List.nodup_append.mp nd
     refine ⟨A,ts,_,rfl,rfl,hA5,BK (by omega),?_⟩
     refine ⟨fun b u e=>?_,lv'++[.ref A],by rw [Aq hdj]; exact s5 _ _ hd,?_,nd,hne,hA0,by omega,?_,_,rfl⟩
     ·obtain ⟨A',eA,hA'⟩:=hA0 (.ref A) (by simp)
      cases eA
      rw [Aq (Am e hA')]
      exact s5 _ _ (s4 _ _ e)
     ·rw [est2]
      refine Er (E_ hpr' fun l v hv h=>Jv (h.mono s5) hA5 (fun e=>hdisj v hv _ (List.mem_singleton.mpr rfl) e)) (.cons ⟨A,ts++[.ref T5],rfl,Ai,Er (Eo (Ar s5 htp) hA5) (.cons ⟨T5,rfl,by rw [Aq hTA]; exact u5⟩ .nil)⟩ .nil)
     ·intro l hl'
      rw [est2] at hl'
      rcases List.mem_append.mp hl' with h | h
      ·exact Nat.le_succ_of_le (hll l (by rw [eac]; exact List.mem_append_left _ h))
      ·rw [List.mem_singleton.mp h,List.length_append,List.length_singleton]
       omega
    ·refine CN (fun z=>absurd (V.str.inj (of_decide_eq_true z)) hwl) (fun _=>?_)
     have est2:linesOf rk ((us.take (i+1)).map ρ)=linesOf rk ((us.take i).map ρ):=by rw [est]; unfold C_; rw [if_neg hk,if_neg hwl]
     rw [← est2] at hpr hll
     exact ⟨s4,lv,hd,hpr,nd,hne,hA0,by omega,fun l hl'=>Nat.le_succ_of_le (hll l hl'),_,rfl⟩
  ·rintro σ H4 ⟨s4,lv,hd,hpr,nd,hne,hA0,hlv,hll,v3,rfl⟩
   rw [List.take_length] at hpr
   have hDp:D ≠ p:=Ne.symm (Am hp hD)
   refine ⟨_,rfl,q D H4 hD s4 ⟨lv,hd,hDp,E_ hpr fun l v hv h=>⟨h,fun z=>?_⟩⟩⟩
   obtain ⟨A,e,hA⟩:=hA0 v hv
   rw [e] at z
   rw [V.ref.inj z,hp] at hA
   cases hA
noncomputable abbrev nV (l:List Nat):List V:=l.map fun n:Nat=>V.int (n:Int)
noncomputable def Yb:Sp:=fun vs H Q _=>∃ i:Int,vs=[.int i]/\Q (.bl (decide (0<=i) && decide (i<1200))) H
theorem jq:An ["thing"] ["thing"] (Ac mY):=Be
include N T in
theorem Yi:Ao P w K mg base BR 2 aD.fMy aD.dMy ["thing"] Yb:=by
 have GWh:Ao P w K mg base BR 1 aD.fWh aD.dWh ["thing"] U4:=SQ N T
 refine N.FMy.1.ok jq (fun vs H Q E h=>?_) (fun cdv A outer s H vs Q E hr h=>?_)
 ·obtain ⟨i,rfl,_⟩:=h
  rfl
 ·obtain ⟨i,rfl,q⟩:=h
  have hrWh:A_ 1 _:=hr.mono (by decide)
  obtain ⟨tMB,hMB⟩:=T.below
  refine ⟨_,(Ae (Ax (Cj (Al GWh hrWh rfl N.FWh.2.2 N.FWh.1.kp N.FWh.2.1 .nil Av (Aa (pv 0) Ab)) (Cq (GR Ez Ip Af (pv 0) (CP (v:=.int 1200) rfl hMB ⟨tMB,rfl⟩)))))),?_⟩
  refine ⟨_,rfl,i,rfl,_,rfl,EY ?_⟩
  refine ⟨_,rfl,_,_,rfl,rfl,_,rfl,?_⟩
  refine CN (fun h1=>?_) (fun h1=>?_)
  ·rw [h1,Bool.true_and] at q
   exact ⟨_,_,rfl,rfl,q⟩
  ·rw [(Bool.not_eq_true _).mp h1,Bool.false_and] at q
   exact q
noncomputable def RG:Sp:=fun vs H Q _=>∃ (p:Addr) (l:List Nat),vs=[.ref p]/\H p=some (.lst (nV l))/\l.length<=500/\(∀ n∈l,n<1200)/\∀ H',Ak H H'->Q (.int (Wd.mk l:Nat)) H'
theorem cX (l:List Nat) (n:Nat):Builtin.bitOr ((Wd.mk l:Nat):Int) (1 * 2 ^ ((n:Nat):Int).toNat)=((Wd.mk (l++[n]):Nat):Int):=by
 rw [Int.one_mul,Int.toNat_natCast,Fg,JM,Wd.Od]
theorem Ux:An ["numbers","some","number"] ["numbers"] (Ac gC):=Be
include N T in
theorem Oo:Ao P w K mg base BR 3 aD.fSt aD.dSt ["numbers"] RG:=by
 have GMy:Ao P w K mg base BR 2 aD.fMy aD.dMy ["thing"] Yb:=Yi N T
 refine N.FSt.1.ok Ux (fun vs H Q E h=>?_) (fun cdv A outer s H vs Q E hr h=>?_)
 ·obtain ⟨p,l,rfl,_⟩:=h
  rfl
 ·obtain ⟨p,l,rfl,hp,hz,hb,q⟩:=h
  have hrMy:A_ 2 _:=hr.mono (by decide)
  refine ⟨_,(Ag (By (PW.pt (Ff (CT (Ce (Az Bt rfl T.isin PyProof.Rows.boot_isinstance (Aa (pv 0) (Aa (Ci (v:=.ty "list") rfl T.list PyProof.Rows.boot_list rfl) Ab))))) (Fd (CT (Ce (Az (Ge rfl) rfl T.all PyProof.Rows.boot_all (Aa (Bo rfl (BP (osc:=Ac gC) (N:=["numbers","some","number"]) rfl rfl (by decide +kernel)) (Bp (pv 0)) (fun _ _ _ _=>CK) (fun _ _ _ _=>(Al GMy hrMy rfl N.FMy.2.2 N.FMy.1.kp N.FMy.2.1 .nil Av (Aa (pv 0) Ab)))) Ab))))))) (Ae D_) Bb)
   (Ag (BX (i:=1) Ux.nd rfl (Or.inl rfl) Af)
   (Ag (Es PassesOwn.never rfl (Bp (pv 0)) (CW (i:=2) Ux.nd rfl (Or.inl rfl)) (Ae (BX (i:=1) Ux.nd rfl (Or.inl rfl) (Bj N_ (pv 1) (Bj Nv Af (pv 2))))))
   (Ae (Ax (pv 1)))))),?_⟩
  have hS:Cu K H p (nV l):=.inl (.inl hp)
  refine ⟨_,rfl,_,"list",_,_,rfl,.lst hp,Ov,_,rfl,Cv ?_⟩
  have hzl:(nV l).length<sizeLine:=BK (by simp; omega)
  refine ⟨_,rfl,p,rfl,⟨_,hS⟩,Cg (K:=K) (xs:=nV l) (fun _=>true) (fun _=>.bl true) hS hzl (fun x hx H' hs R k=>k H' (Ak.refl H')) (fun x hx _ H' hs R k=>?_) (fun D H' hD hs hl=>?_)⟩
  ·obtain ⟨n,hn,rfl⟩:=List.mem_map.mp hx
   refine ⟨_,rfl,(n:Int),rfl,?_⟩
   have e:(decide ((0:Int)<=(n:Int)) && decide ((n:Int)<1200))=true:=by
    have:=hb n hn
    simp
    omega
   rw [e]
   exact k H' (Ak.refl H')
  ·refine ⟨D,(nV l).map fun _=>true,rfl,.inl (.inl ?_),?_⟩
   ·rw [hl,List.filter_eq_self.mpr (fun _ _=>rfl)]
    simp
   ·have e:((nV l).map fun _=>true).all id=true:=by simp
    rw [e]
    refine ⟨_,rfl,Cv ?_⟩
    refine ⟨_,rfl,p,rfl,⟨_,hs.seq hS⟩,Gg (K:=K) (a:=p) (xs:=nV l) (fun i σ H4=>H4=H'/\∃ v2,σ=[some (.ref p),some (.int (Wd.mk (l.take i):Nat)),v2]) ⟨rfl,_,rfl⟩ (fun i σ H4 _ h=>by rw [h.1]; exact hs.seq hS) ?_ ?_⟩
    ·rintro i y σ H4 hi ⟨rfl,v2,rfl⟩
     rw [List.getElem?_map] at hi
     obtain ⟨n,hn,rfl⟩:=Option.map_eq_some_iff.mp hi
     have hn':=hb n (List.mem_of_getElem? hn)
     refine ⟨_,rfl,_,rfl,_,_,rfl,rfl,⟨by omega,by omega,by decide⟩,_,_,rfl,rfl,?_⟩
     refine ⟨rfl,some (.int (n:Int)),?_⟩
     dsimp only
     rw [cX,List.take_add_one,hn]
     rfl
    ·rintro σ H4 ⟨rfl,v2,rfl⟩
     have el:l.take (nV l).length=l:=List.take_of_length_le (by simp)
     rw [el]
     exact ⟨_,rfl,q _ hs⟩
noncomputable def n_ (nms:List Str):V->V
 | .str t=>.int (nms.idxOf t:Nat)
 | _=>.non
theorem QR {nms:List Str} {t:Str} (h:t∈nms):nms[nms.idxOf t]? = some t:=by
 rw [List.getElem?_eq_getElem (List.idxOf_lt_length_of_mem h),List.getElem_idxOf]
noncomputable def cJ:Sp:=fun vs H Q _=>∃ (r kd:Addr) (ro:R) (kvs:List (Key × V)) (nms ts:List Str),vs=[.ref r,.ref kd]/\H r=some (.tup ro.v)/\H kd=some (.dK kvs)/\V.str ro.nm::ro.rest=ts.map V.str/\ts.length<=24/\nms.length<=300/\(∀ (i:Nat) t,nms[i]? = some t->Bx kvs (Sum.inr t)=some (.int (i:Nat)))/\(∀ t∈ts,t∈nms)/\∀ H',Ak H H'->Q (.int (Wd.mk (ts.map fun t=>nms.idxOf t):Nat)) H'
theorem ji:An ["row","knob_numbers"] ["row","knob_numbers"] (Ac fD):=Be
include N T in
theorem bG:Ao P w K mg base BR 4 aD.fSs aD.dSs ["row","knob_numbers"] cJ:=by
 have GSt:Ao P w K mg base BR 3 aD.fSt aD.dSt ["numbers"] RG:=Oo N T
 refine N.FSs.1.ok ji (fun vs H Q E h=>?_) (fun cdv A outer s H vs Q E hr h=>?_)
 ·obtain ⟨r,kd,ro,kvs,nms,ts,rfl,_⟩:=h
  rfl
 ·obtain ⟨r,kd,ro,kvs,nms,ts,rfl,hr0,hkd,ets,h24,hnm,hval,hin,q⟩:=h
  have hrSt:A_ 3 _:=hr.mono (by decide)
  have hu:=DR hr
  refine ⟨_,(Ae (Ax (Al GSt hrSt rfl N.FSt.2.2 N.FSt.1.kp N.FSt.2.1 .nil Av (Aa (Bo rfl (BP (osc:=Ac fD) (N:=["row","knob_numbers"]) rfl rfl (by decide +kernel)) (NQ (Di Mz (pv 0) (Eg Af) Ej)) (fun _ _ _ _=>CK) (fun _ _ _ _=>(Fy hu (pv 2) (pv 0) (fun _ _=>rfl)))) Ab)))),?_⟩
  have hv:ro.v=V.str ro.w::ts.map V.str:=by
   show V.str ro.w::(V.str ro.nm::ro.rest)=_
   rw [ets]
  rw [hv] at hr0
  have e1:HT.Dg (V.str ro.w::ts.map V.str).length 0 (some 1)=1:=by
   rw [show (some (1:Int))=some ((1:Nat):Int) from rfl,HT.Gp]
   simp
  have hcut:Dq (V.str ro.w::ts.map V.str) (some 1) none=ts.map V.str:=by
   unfold Dq
   rw [e1,HT.Jo]
   simp
   exact List.take_of_length_le (by rw [List.length_map]; exact Nat.le_refl _)
  refine ⟨_,rfl,_,rfl,r,_,rfl,.inl (.inl hr0),?_,fun n0 hn0=>?_⟩
  ·rintro ⟨z,_⟩
   rw [e1] at z
   cases z
  rw [hcut]
  obtain ⟨H1,eqH,s1,a1⟩:=Hj (o:=HO.tup (ts.map V.str)) hn0
  rw [eqH]
  have hT:GD K H1 n0 (ts.map V.str):=.inl (.inl a1)
  have ltm:(ts.map V.str).length=ts.length:=List.length_map ..
  refine ⟨n0,rfl,⟨_,hT⟩,Lp (K:=K) (xs:=ts.map V.str) (fun _=>true) (n_ nms) hT (BK (by omega)) (fun x hx H' hs R k=>k H' (Ak.refl H')) (fun x hx _ H' hs R k=>?_) (fun D H2 hD s2 hl2=>?_)⟩
  ·obtain ⟨t,ht,rfl⟩:=List.mem_map.mp hx
   have g:=En.k (k:=Sum.inr t) (hs _ _ (s1 _ _ hkd))
   rw [hval _ t (QR (hin t ht))] at g
   exact ⟨_,rfl,_,rfl,kd,_,rfl,g,k H' (Ak.refl H')⟩
  ·rw [List.filter_eq_self.mpr (fun _ _=>rfl),List.map_map] at hl2
   have e2:ts.map (n_ nms ∘ V.str)=nV (ts.map fun t=>nms.idxOf t):=by
    unfold nV
    rw [List.map_map]
    rfl
   rw [e2] at hl2
   refine ⟨D,_,rfl,hl2,by rw [List.length_map]; omega,fun n hn=>?_,fun H3 s3=>q H3 (s1.trans (s2.trans s3))⟩
   obtain ⟨t,ht,rfl⟩:=List.mem_map.mp hn
   have:=List.idxOf_lt_length_of_mem (hin t ht)
   omega
noncomputable abbrev Vp:List Str:=["row_list","board_list","rank_list","knob_rows","board_numbers","rank_numbers","knob_numbers","key_places","pipe_places","knob_lines","step_sets"]
theorem Dm:∀ m∈meths,∀ f∈Vp,¬ m=f:=by decide +kernel
theorem Qk {rk:List (Str × Nat × Int)} {ρ:V->R} {us:List V} {P1:Nat->V->Prop} (h:∀ (i:Nat) v,us[i]? = some v->(ρ v).w = "line"->P1 i v/\∃ u∈us.take i,G5 (ρ u).w=true):(linesOf rk (us.map ρ)).length=(us.filter (fun v=>G5 (ρ v).w)).length:=by
 have key:∀ n,n<=us.length->(linesOf rk ((us.take n).map ρ)).length=((us.take n).filter (fun v=>G5 (ρ v).w)).length:=by
  intro n
  induction n with
  | zero=>intro _; rfl
  | succ n ih =>
   intro hn
   have hx:=List.getElem?_eq_getElem (l:=us) (i:=n) (by omega)
   rw [List.take_add_one,hx,List.map_append]
   show (linesOf rk ((us.take n).map ρ++[ρ us[n]])).length=((us.take n++[us[n]]).filter _).length
   rw [Cd,List.filter_append,List.length_append,← ih (by omega)]
   unfold C_
   by_cases hk:G5 (ρ us[n]).w=true
   ·rw [if_pos hk,List.filter_cons,if_pos hk]
    simp
   ·rw [if_neg hk,List.filter_cons,if_neg hk]
    by_cases hl:(ρ us[n]).w = "line"
    ·rw [if_pos hl]
     obtain ⟨_,u,hu,hku⟩:=h n _ hx hl
     obtain ⟨a,z,e⟩:=FJ (Mg (rk:=rk) ⟨ρ u,List.mem_map_of_mem hu,hku⟩)
     rw [e,Gv]
     simp
    ·rw [if_neg hl]
     simp
 have:=key us.length (Nat.le_refl _)
 rw [List.take_length] at this
 exact this
noncomputable def ZR (K:PySem.W.Frag) (aB aP aM C:Addr):Sp:=fun vs H Q _=>∃ (x dx p:Addr) (us:List V) (ρ:V->R) (bs:List (Str × Nat)) (rk:List (Str × Nat × Int)) (ks:List R),vs=[.ref x,.ref p]/\H x=some (.ins C dx [])/\H p=some (.lst us)/\Rows H ρ us/\iz K aB aP aM ρ us bs rk ks/\∀ H',Jk C H' x us bs rk ks (linesOf rk (us.map ρ)) ((us.filter (pw ρ "step")).map fun v=>stN ks (ρ v))->(∀ H'',SX p H' H''->Jk C H'' x us bs rk ks (linesOf rk (us.map ρ)) ((us.filter (pw ρ "step")).map fun v=>stN ks (ρ v)))->SX x H H'->Q .non H'
theorem jd:An ["self","rows"] ["self","rows"] (Ac UJ):=Be
include N T in
theorem dw:Ao P w K mg base BR 9 aD.fOi aD.dOi ["self","rows"] (ZR K aB aP aM C):=by
 have GCk:Ao P w K mg base BR 8 aD.fCk aD.dCk ["rows"] (Yq K aB aP aM):=eG N T
 have GRo:Ao P w K mg base BR 1 aD.fRo aD.dRo ["rows","word"] QL:=MJ N T
 have GNu:Ao P w K mg base BR 1 aD.fNu aD.dNu ["names"] bD:=Yo N T
 have GPl:Ao P w K mg base BR 1 aD.fPl aD.dPl ["things"] Zi:=Y4 N T
 have GLi:Ao P w K mg base BR 1 aD.fLi aD.dLi ["rows","rank_numbers"] bh:=eX N T
 have GSs:Ao P w K mg base BR 4 aD.fSs aD.dSs ["row","knob_numbers"] cJ:=bG N T
 refine N.FOi.1.ok jd (fun vs H Q E h=>?_) (fun cdv A outer s H vs Q E hr h=>?_)
 ·obtain ⟨x,dx,p,us,ρ,bs,rk,ks,rfl,_⟩:=h
  rfl
 ·obtain ⟨x,dx,p,us,ρ,bs,rk,ks,rfl,hx,hp,hR,O,q⟩:=h
  have hrCk:A_ 8 _:=hr.mono (by decide)
  have hrRo:A_ 1 _:=hr.mono (by decide)
  have hrNu:A_ 1 _:=hr.mono (by decide)
  have hrPl:A_ 1 _:=hr.mono (by decide)
  have hrLi:A_ 1 _:=hr.mono (by decide)
  have hrSs:A_ 4 _:=hr.mono (by decide)
  refine ⟨_,(Ag (Ei (Al GCk hrCk rfl N.FCk.2.2 N.FCk.1.kp N.FCk.2.1 .nil Av (Aa (pv 1) Ab)))
   (Ag (Cr (pv 0) (De Dh rfl T.list PyProof.Rows.boot_list (Aa (pv 1) Ab)) rfl)
   (Ag (Cr (pv 0) (Bo rfl (BP (osc:=Ac UJ) (N:=["self","rows"]) rfl rfl (by decide +kernel)) (Bp (Al GRo hrRo rfl N.FRo.2.2 N.FRo.1.kp N.FRo.2.1 .nil Av (Aa (pv 1) (Aa Bf Ab)))) (fun _ _ _ _=>CK) (fun _ _ _ _=>(DY (Aa (Ay (Aw (K:=K) rfl) (pv 0) Af (fun _ _=>rfl)) (Aa (Ay (Aw (K:=K) rfl) (pv 0) Af (fun _ _=>rfl)) Ab))))) rfl)
   (Ag (Cr (pv 0) (Bo rfl (BP (osc:=Ac UJ) (N:=["self","rows"]) rfl rfl (by decide +kernel)) (Bp (Al GRo hrRo rfl N.FRo.2.2 N.FRo.1.kp N.FRo.2.1 .nil Av (Aa (pv 1) (Aa Bf Ab)))) (fun _ _ _ _=>CK) (fun _ _ _ _=>(DY (Aa (Ay (Aw (K:=K) rfl) (pv 0) Af (fun _ _=>rfl)) (Aa (Ay (Aw (K:=K) rfl) (pv 0) Af (fun _ _=>rfl)) (Aa (Ay (Aw (K:=K) rfl) (pv 0) Af (fun _ _=>rfl)) Ab)))))) rfl)
   (Ag (Cr (pv 0) (Bo rfl (BP (osc:=Ac UJ) (N:=["self","rows"]) rfl rfl (by decide +kernel)) (Bp (pv 1)) (fun _ _ _ _=>(Im (Ba (JR (K:=K) rfl) (Ay (Aw (K:=K) rfl) (pv 0) Af (fun _ _=>rfl)) (CP (v:=.ref aK) rfl T.mK rfl) rfl))) (fun _ _ _ _=>(pv 0))) rfl)
   (Ag (Cr (pv 0) (Al GNu hrNu rfl N.FNu.2.2 N.FNu.1.kp N.FNu.2.1 .nil Av (Aa (Bo rfl (BP (osc:=Ac UJ) (N:=["self","rows"]) rfl rfl (by decide +kernel)) (Bp (Bg (pv 0) rfl)) (fun _ _ _ _=>CK) (fun _ _ _ _=>(Ay (Aw (K:=K) rfl) (pv 0) Af (fun _ _=>rfl)))) Ab)) rfl)
   (Ag (Cr (pv 0) (Al GNu hrNu rfl N.FNu.2.2 N.FNu.1.kp N.FNu.2.1 .nil Av (Aa (Bo rfl (BP (osc:=Ac UJ) (N:=["self","rows"]) rfl rfl (by decide +kernel)) (Bp (Bg (pv 0) rfl)) (fun _ _ _ _=>CK) (fun _ _ _ _=>(Ay (Aw (K:=K) rfl) (pv 0) Af (fun _ _=>rfl)))) Ab)) rfl)
   (Ag (Cr (pv 0) (Al GNu hrNu rfl N.FNu.2.2 N.FNu.1.kp N.FNu.2.1 .nil Av (Aa (Bo rfl (BP (osc:=Ac UJ) (N:=["self","rows"]) rfl rfl (by decide +kernel)) (Bp (Bg (pv 0) rfl)) (fun _ _ _ _=>CK) (fun _ _ _ _=>(Ay (Aw (K:=K) rfl) (pv 0) Af (fun _ _=>rfl)))) Ab)) rfl)
   (Ag (Cr (pv 0) (Al GPl hrPl rfl N.FPl.2.2 N.FPl.1.kp N.FPl.2.1 .nil Av (Aa (Bg (pv 0) rfl) Ab)) rfl)
   (Ag (Cr (pv 0) (Al GPl hrPl rfl N.FPl.2.2 N.FPl.1.kp N.FPl.2.1 .nil Av (Aa (Bg (pv 0) rfl) Ab)) rfl)
   (Ag (Cr (pv 0) (Al GLi hrLi rfl N.FLi.2.2 N.FLi.1.kp N.FLi.2.1 .nil Av (Aa (pv 1) (Aa (Bg (pv 0) rfl) Ab))) rfl)
   (Ae (Cr (pv 0) (Bo rfl (BP (osc:=Ac UJ) (N:=["self","rows"]) rfl rfl (by decide +kernel)) (Bp (Al GRo hrRo rfl N.FRo.2.2 N.FRo.1.kp N.FRo.2.1 .nil Av (Aa (pv 1) (Aa Bf Ab)))) (fun _ _ _ _=>CK) (fun _ _ _ _=>(Al GSs hrSs rfl N.FSs.2.2 N.FSs.1.kp N.FSs.2.1 .nil Av (Aa (pv 0) (Aa (Us (K:=K) rfl (pv 1) rfl) Ab))))) rfl))))))))))))),?_⟩
  have hlen:=O.len
  obtain ⟨ur,hur⟩:∃ ur,us.filter (pw ρ "rank")=ur:=⟨_,rfl⟩
  have er:ur.map ρ=rk.map G3:=by rw [← hur]; exact O.er
  have lr:ur.length=rk.length:=by have:=congrArg List.length er; simpa using this
  have inR:∀ {v},v∈ur->v∈us:=fun {v} hv=>by rw [← hur] at hv; exact (List.mem_filter.mp hv).1
  have ofR:∀ {v},v∈ur->∃ b∈rk,ρ v=G3 b:=fun {v} hv=>by
   have:ρ v∈rk.map G3:=by rw [← er]; exact List.mem_map_of_mem hv
   obtain ⟨b,hb,e⟩:=List.mem_map.mp this
   exact ⟨b,hb,e.symm⟩
  obtain ⟨ub,hub⟩:∃ ub,us.filter (pw ρ "board")=ub:=⟨_,rfl⟩
  obtain ⟨uk,huk⟩:∃ uk,us.filter (fun v=>G5 (ρ v).w)=uk:=⟨_,rfl⟩
  have eb:ub.map ρ=bs.map FT:=by rw [← hub]; exact O.eb
  have ek:uk.map ρ=ks:=by rw [← huk]; exact O.ek
  have lb:ub.length=bs.length:=by have:=congrArg List.length eb; simpa using this
  have lku:uk.length=ks.length:=by have:=congrArg List.length ek; simpa using this
  have inB:∀ {v},v∈ub->v∈us:=fun {v} hv=>by rw [← hub] at hv; exact (List.mem_filter.mp hv).1
  have inKn:∀ {v},v∈uk->v∈us:=fun {v} hv=>by rw [← huk] at hv; exact (List.mem_filter.mp hv).1
  have ofB:∀ {v},v∈ub->∃ b∈bs,ρ v=FT b:=fun {v} hv=>by
   have:ρ v∈bs.map FT:=by rw [← eb]; exact List.mem_map_of_mem hv
   obtain ⟨b,hb,e⟩:=List.mem_map.mp this
   exact ⟨b,hb,e.symm⟩
  have l1us:1<=us.length:=by
   have h1:=O.b0
   have h2:ub.length<=us.length:=by rw [← hub]; exact List.length_filter_le _ _
   omega
  refine ⟨_,rfl,p,us,ρ,rfl,hp,hR,l1us,by omega,O.ok,?_,fun H1 s1=>?_⟩
  ·rw [hub]
   cases ub with
   | nil =>
    have:=O.b0
    simp at lb
    omega
   | cons a b=>rfl
  have c1:SX x H H1:=SX.of s1
  have x1:=s1 _ _ hx
  refine ⟨_,rfl,p,_,rfl,.inl (.inl (.inl (s1 _ _ hp))),fun l1 hl1=>?_⟩
  have nl1:l1 ≠ p:=Ne.symm (Am (s1 _ _ hp) hl1)
  obtain ⟨H2,eqH,s2,rw2⟩:=Hj (o:=HO.lst us) hl1
  rw [eqH]
  refine ⟨_,rfl,x,C,dx,_,rfl,s2 _ _ x1,T.cl,T.n_row_list,(by show 0<1000; decide),?_⟩
  have c2:SX x H _:=(c1.trans (SX.of s2)).trans (SX.up (o:=HO.ins C dx (BJ "row_list" (.ref l1) [])))
  have x2:upd H2 x (HO.ins C dx (BJ "row_list" (.ref l1) [])) x=_:=Ai
  have rw3:=(SX.up (o:=HO.ins C dx (BJ "row_list" (.ref l1) [])):SX x H2 _).lst (s2 _ _ x1) rw2
  generalize upd H2 x (HO.ins C dx (BJ "row_list" (.ref l1) []))=H3 at c2 x2 rw3 ⊢
  have c0:=c2
  replace hR:Rows H3 ρ us:=fun v hv=>c2.tup hx (hR v hv)
  replace hp:=c2.lst hx hp
  clear c2
  replace hx:=x2
  have c2:SX x H3 H3:=SX.of (Ak.refl _)
  have R3:Rows H3 ρ us:=fun v hv=>c2.tup hx (hR v hv)
  refine ⟨_,rfl,p,_,"board",ρ,rfl,c2.lst hx hp,R3,by omega,fun D4 H4 hD4 s4 hl4=>?_⟩
  rw [hub] at hl4
  have hS4:Cu K H4 D4 ub:=.inl (.inl hl4)
  refine ⟨D4,rfl,⟨_,hS4⟩,Jt (K:=K) (xs:=ub) (fun _=>true) (fun v=>[.str (ρ v).nm,(ρ v).rest.getD 0 .non]) hS4 (BK (by have:=O.b5; omega)) (fun y hy H' hs R k=>k H' (Ak.refl H')) (fun y hy _ H' hs R k=>?_) (fun D5 H5 bvs hD5 s5 hl5 hb5=>?_)⟩
  ·obtain ⟨b,_,e⟩:=ofB hy
   have hT:=(R3 y (inB hy)).mono (s4.trans hs)
   rw [e] at hT k
   obtain ⟨T0,rfl,hT⟩:=hT
   exact ⟨_,rfl,T0,_,_,_,rfl,rfl,.inl (.inl hT),Aj (j:=1) rfl,_,rfl,T0,_,_,_,rfl,rfl,.inl (.inl hT),Aj (j:=2) rfl,by show 2<=sizeLine; decide,fun T6 hT6=>k _ _ (BL hT6) ⟨T6,rfl,Ai⟩⟩
  rw [List.filter_eq_self.mpr (fun _ _=>rfl)] at hb5
  have hb5':Paired (fun b y=>TupAt H5 (bV b) y) bs bvs:=by
   have h1:=Bu (F:=fun (r:R) y=>TupAt H5 [.str r.nm,r.rest.getD 0 .non] y) ρ hb5
   rw [eb] at h1
   exact FW FT h1
  clear hb5
  refine ⟨_,rfl,x,C,dx,_,rfl,s5 _ _ (s4 _ _ x2),T.cl,T.n_board_list,Nat.lt_of_le_of_lt (Bm _ _ _) (by show 1<1000; decide),?_⟩
  have u6:SX x H5 _:=SX.up (o:=HO.ins C dx (BJ "board_list" (.ref D5) (BJ "row_list" (.ref l1) [])))
  have x5:=s5 _ _ (s4 _ _ x2)
  have c6:=(c2.trans (SX.of (s4.trans s5))).trans u6
  have x6:upd H5 x (HO.ins C dx (BJ "board_list" (.ref D5) (BJ "row_list" (.ref l1) []))) x=_:=Ai
  have hl6:=u6.lst x5 hl5
  have hb6:=u6.pair x5 hb5'
  generalize upd H5 x (HO.ins C dx (BJ "board_list" (.ref D5) (BJ "row_list" (.ref l1) [])))=H6 at c6 x6 hl6 hb6 ⊢
  clear u6
  have R6:Rows H6 ρ us:=fun v hv=>c6.tup hx (hR v hv)
  refine ⟨_,rfl,p,_,"rank",ρ,rfl,c6.lst hx hp,R6,by omega,fun D7 H7 hD7 s7 hl7=>?_⟩
  rw [hur] at hl7
  have hS7:Cu K H7 D7 ur:=.inl (.inl hl7)
  refine ⟨D7,rfl,⟨_,hS7⟩,Jt (K:=K) (xs:=ur) (fun _=>true) (fun v=>[.str (ρ v).nm,(ρ v).rest.getD 0 .non,(ρ v).rest.getD 1 .non]) hS7 (BK (by have:=O.nr; omega)) (fun y hy H' hs R k=>k H' (Ak.refl H')) (fun y hy _ H' hs R k=>?_) (fun D8 H8 rvs hD8 s8 hl8 hr8=>?_)⟩
  ·obtain ⟨b,_,e⟩:=ofR hy
   have hT:=(R6 y (inR hy)).mono (s7.trans hs)
   rw [e] at hT k
   obtain ⟨T0,rfl,hT⟩:=hT
   exact ⟨_,rfl,T0,_,_,_,rfl,rfl,.inl (.inl hT),Aj (j:=1) rfl,_,rfl,T0,_,_,_,rfl,rfl,.inl (.inl hT),Aj (j:=2) rfl,_,rfl,T0,_,_,_,rfl,rfl,.inl (.inl hT),Aj (j:=3) rfl,by show 3<=sizeLine; decide,fun T6 hT6=>k _ _ (BL hT6) ⟨T6,rfl,Ai⟩⟩
  rw [List.filter_eq_self.mpr (fun _ _=>rfl)] at hr8
  have hr8':Paired (fun (a:Th) y=>TupAt H8 (tV a) y) (rk.map Rq) rvs:=by
   have h1:=Bu (F:=fun (r:R) y=>TupAt H8 [.str r.nm,r.rest.getD 0 .non,r.rest.getD 1 .non] y) ρ hr8
   rw [er] at h1
   exact Bu (F:=fun (a:Th) y=>TupAt H8 (tV a) y) Rq (FW G3 h1)
  clear hr8
  refine ⟨_,rfl,x,C,dx,_,rfl,s8 _ _ (s7 _ _ x6),T.cl,T.n_rank_list,Nat.lt_of_le_of_lt (Nat.le_trans (Bm _ _ _) (Nat.succ_le_succ (Bm _ _ _))) (by show 2<1000; decide),?_⟩
  have s68:=s7.trans s8
  have x8:=s68 _ _ x6
  have c8:=c6.trans (SX.of s68)
  have hl8b:=s68 _ _ hl6
  have hb8:=Ar s68 hb6
  have u9:SX x H8 _:=SX.up (o:=HO.ins C dx (BJ "rank_list" (.ref D8) (BJ "board_list" (.ref D5) (BJ "row_list" (.ref l1) []))))
  have x9:upd H8 x (HO.ins C dx (BJ "rank_list" (.ref D8) (BJ "board_list" (.ref D5) (BJ "row_list" (.ref l1) [])))) x=_:=Ai
  have c9:=c8.trans u9
  have bl9:=u9.lst x8 hl8b
  have bp9:=u9.pair x8 hb8
  have rl9:=u9.lst x8 hl8
  have rp9:=u9.pair x8 hr8'
  generalize hf9:BJ "rank_list" (.ref D8) (BJ "board_list" (.ref D5) (BJ "row_list" (.ref l1) []))=f9 at x9 c9 bl9 bp9 rl9 rp9 u9 ⊢
  generalize upd H8 x (HO.ins C dx f9)=H9 at x9 c9 bl9 bp9 rl9 rp9 ⊢
  have n9:f9.length<=3:=by rw [← hf9]; exact Nat.le_trans (Bm _ _ _) (Nat.succ_le_succ (Nat.le_trans (Bm _ _ _) (Nat.succ_le_succ (Bm _ _ _))))
  have lb9:f9.lookup ("board_list" : Str)=some (.ref D5):=by rw [← hf9,Ah,if_neg (by decide +kernel),Ah,if_pos rfl]
  have lw9:f9.lookup ("row_list" : Str)=some (.ref l1):=by rw [← hf9,Ah,if_neg (by decide +kernel),Ah,if_neg (by decide +kernel),Ah,if_pos rfl]
  have lr9:f9.lookup ("rank_list" : Str)=some (.ref D8):=by rw [← hf9,Ah,if_pos rfl]
  have no9:∀ m∈meths,f9.lookup m=none:=fun m hm=>by
   rw [← hf9,Ah,if_neg (Dm m hm _ (by decide +kernel)),Ah,if_neg (Dm m hm _ (by decide +kernel)),Ah,if_neg (Dm m hm _ (by decide +kernel))]
   rfl
  clear u9 hf9
  have R9:Rows H9 ρ us:=fun v hv=>c9.tup hx (hR v hv)
  have hS9:Cu K H9 p us:=.inl (.inl (c9.lst hx hp))
  refine ⟨_,rfl,p,rfl,⟨_,hS9⟩,Cg (K:=K) (xs:=us) (fun v=>G5 (ρ v).w) id hS9 (BK (by omega)) (fun y hy H' hs R k=>?_) (fun y hy _ H' hs R k=>⟨_,rfl,k H' (Ak.refl H')⟩) (fun D10 H10 hD10 s10 hl10=>?_)⟩
  ·obtain ⟨T0,rfl,hT⟩:=(R9.mono hs) y hy
   exact ⟨_,rfl,T0,_,_,_,rfl,rfl,.inl (.inl hT),Aj (j:=0) rfl,aK,_,rfl,.inr (T.tK.sq _),rfl,rfl,_,rfl,k H' (Ak.refl H')⟩
  rw [List.map_id,huk] at hl10
  refine ⟨_,rfl,x,C,dx,_,rfl,s10 _ _ x9,T.cl,T.n_knob_rows,by omega,?_⟩
  have x10:=s10 _ _ x9
  have u11:SX x H10 _:=SX.up (o:=HO.ins C dx (BJ "knob_rows" (.ref D10) f9))
  have x11:upd H10 x (HO.ins C dx (BJ "knob_rows" (.ref D10) f9)) x=_:=Ai
  have c11:=(c9.trans (SX.of s10)).trans u11
  have bl11:=u11.lst x10 (s10 _ _ bl9)
  have bp11:=u11.pair x10 (Ar s10 bp9)
  have rl11:=u11.lst x10 (s10 _ _ rl9)
  have rp11:=u11.pair x10 (Ar s10 rp9)
  have kr11:=u11.lst x10 hl10
  generalize upd H10 x (HO.ins C dx (BJ "knob_rows" (.ref D10) f9))=H11 at x11 c11 bl11 bp11 rl11 rp11 kr11 ⊢
  clear u11
  have hul:=bp11.length
  have hS11:Cu K H11 D5 bvs:=.inl (.inl bl11)
  refine ⟨_,rfl,x,C,dx,_,_,rfl,x11,T.cl,T.n_board_list,(by rw [Ah,if_neg (by decide +kernel)]; exact lb9),D5,rfl,⟨_,hS11⟩,Cg (K:=K) (xs:=bvs) (fun _=>true) (Ql H11 0) hS11 (BK (by have:=O.b5; omega)) (fun y hy H' hs R k=>k H' (Ak.refl H')) (fun y hy _ H' hs R k=>?_) (fun D12 H12 hD12 s12 hl12=>?_)⟩
  ·obtain ⟨b,_,hx'⟩:=DK bp11 hy
   have e:=HS hx' 0
   obtain ⟨T0,rfl,hT⟩:=hx'.mono hs
   refine ⟨_,rfl,T0,_,_,_,rfl,rfl,.inl (.inl hT),Aj (j:=0) rfl,?_⟩
   have:=k H' (Ak.refl H')
   rw [e] at this
   exact this
  rw [List.filter_eq_self.mpr (fun _ _=>rfl),JB 0 bp11] at hl12
  have e12:(bs.map fun b=>(bV b).getD 0 V.non)=(bs.map (·.1)).map V.str:=by
   rw [List.map_map]
   rfl
  rw [e12] at hl12
  refine ⟨D12,_,rfl,hl12,by rw [List.length_map]; have:=O.b5; omega,O.nb,fun D13 kvs H13 hD13 s13 hl13 hv13 hw13=>?_⟩
  have s1113:=s12.trans s13
  have x13:=s1113 _ _ x11
  refine ⟨_,rfl,x,C,dx,_,rfl,x13,T.cl,T.n_board_numbers,Nat.lt_of_le_of_lt (Bm _ _ _) (by omega),?_⟩
  have u14:SX x H13 _:=SX.up (o:=HO.ins C dx (BJ "board_numbers" (.ref D13) (BJ "knob_rows" (.ref D10) f9)))
  have x14:upd H13 x (HO.ins C dx (BJ "board_numbers" (.ref D13) (BJ "knob_rows" (.ref D10) f9))) x=_:=Ai
  have c14:=(c11.trans (SX.of s1113)).trans u14
  have bl14:=u14.lst x13 (s1113 _ _ bl11)
  have bp14:=u14.pair x13 (Ar s1113 bp11)
  have rl14:=u14.lst x13 (s1113 _ _ rl11)
  have rp14:=u14.pair x13 (Ar s1113 rp11)
  have kr14:=u14.lst x13 (s1113 _ _ kr11)
  have bn14:=u14.dk x13 hl13
  generalize upd H13 x (HO.ins C dx (BJ "board_numbers" (.ref D13) (BJ "knob_rows" (.ref D10) f9)))=H14 at x14 c14 bl14 bp14 rl14 rp14 kr14 bn14 ⊢
  clear u14
  have hrl:=rp14.length
  rw [List.length_map] at hrl
  have hS14:Cu K H14 D8 rvs:=.inl (.inl rl14)
  refine ⟨_,rfl,x,C,dx,_,_,rfl,x14,T.cl,T.n_rank_list,(by rw [Ah,if_neg (by decide +kernel),Ah,if_neg (by decide +kernel)]; exact lr9),D8,rfl,⟨_,hS14⟩,Cg (K:=K) (xs:=rvs) (fun _=>true) (Ql H14 0) hS14 (BK (by have:=O.nr; omega)) (fun y hy H' hs R k=>k H' (Ak.refl H')) (fun y hy _ H' hs R k=>?_) (fun D15 H15 hD15 s15 hl15=>?_)⟩
  ·obtain ⟨b,_,hx'⟩:=DK rp14 hy
   have e:=HS hx' 0
   obtain ⟨T0,rfl,hT⟩:=hx'.mono hs
   refine ⟨_,rfl,T0,_,_,_,rfl,rfl,.inl (.inl hT),Aj (j:=0) rfl,?_⟩
   have:=k H' (Ak.refl H')
   rw [e] at this
   exact this
  rw [List.filter_eq_self.mpr (fun _ _=>rfl),JB 0 rp14] at hl15
  have e15:((rk.map Rq).map fun b=>(tV b).getD 0 V.non)=(rk.map (·.1)).map V.str:=by
   rw [List.map_map,List.map_map]
   rfl
  rw [e15] at hl15
  refine ⟨D15,_,rfl,hl15,by rw [List.length_map]; have:=O.nr; omega,O.nrr,fun D16 kvs16 H16 hD16 s16 hl16 hv16 hw16=>?_⟩
  have s1416:=s15.trans s16
  have x16:=s1416 _ _ x14
  refine ⟨_,rfl,x,C,dx,_,rfl,x16,T.cl,T.n_rank_numbers,Nat.lt_of_le_of_lt (Nat.le_trans (Bm _ _ _) (Nat.succ_le_succ (Bm _ _ _))) (by omega),?_⟩
  have u17:SX x H16 _:=SX.up (o:=HO.ins C dx (BJ "rank_numbers" (.ref D16) (BJ "board_numbers" (.ref D13) (BJ "knob_rows" (.ref D10) f9))))
  have x17:upd H16 x (HO.ins C dx (BJ "rank_numbers" (.ref D16) (BJ "board_numbers" (.ref D13) (BJ "knob_rows" (.ref D10) f9)))) x=_:=Ai
  have c17:=(c14.trans (SX.of s1416)).trans u17
  have bl17:=u17.lst x16 (s1416 _ _ bl14)
  have bp17:=u17.pair x16 (Ar s1416 bp14)
  have rl17:=u17.lst x16 (s1416 _ _ rl14)
  have rp17:=u17.pair x16 (Ar s1416 rp14)
  have kr17:=u17.lst x16 (s1416 _ _ kr14)
  have bn17:=u17.dk x16 (s1416 _ _ bn14)
  have rn17:=u17.dk x16 hl16
  generalize hf17:BJ "rank_numbers" (.ref D16) (BJ "board_numbers" (.ref D13) (BJ "knob_rows" (.ref D10) f9))=f17 at x17 c17 bl17 bp17 rl17 rp17 kr17 bn17 rn17 u17 ⊢
  generalize upd H16 x (HO.ins C dx f17)=H17 at x17 c17 bl17 bp17 rl17 rp17 kr17 bn17 rn17 ⊢
  have n17:f17.length<=6:=by rw [← hf17]; exact Nat.le_trans (Bm _ _ _) (Nat.succ_le_succ (Nat.le_trans (Bm _ _ _) (Nat.succ_le_succ (Nat.le_trans (Bm _ _ _) (Nat.succ_le_succ n9)))))
  have lb17:f17.lookup ("board_list" : Str)=some (.ref D5):=by rw [← hf17,Ah,if_neg (by decide +kernel),Ah,if_neg (by decide +kernel),Ah,if_neg (by decide +kernel)]; exact lb9
  have lw17:f17.lookup ("row_list" : Str)=some (.ref l1):=by rw [← hf17,Ah,if_neg (by decide +kernel),Ah,if_neg (by decide +kernel),Ah,if_neg (by decide +kernel)]; exact lw9
  have lr17:f17.lookup ("rank_list" : Str)=some (.ref D8):=by rw [← hf17,Ah,if_neg (by decide +kernel),Ah,if_neg (by decide +kernel),Ah,if_neg (by decide +kernel)]; exact lr9
  have lrn17:f17.lookup ("rank_numbers" : Str)=some (.ref D16):=by rw [← hf17,Ah,if_pos rfl]
  have lbn17:f17.lookup ("board_numbers" : Str)=some (.ref D13):=by rw [← hf17,Ah,if_neg (by decide +kernel),Ah,if_pos rfl]
  have lkr17:f17.lookup ("knob_rows" : Str)=some (.ref D10):=by rw [← hf17,Ah,if_neg (by decide +kernel),Ah,if_neg (by decide +kernel),Ah,if_pos rfl]
  have no17:∀ m∈meths,f17.lookup m=none:=fun m hm=>by
   rw [← hf17,Ah,if_neg (Dm m hm _ (by decide +kernel)),Ah,if_neg (Dm m hm _ (by decide +kernel)),Ah,if_neg (Dm m hm _ (by decide +kernel))]
   exact no9 m hm
  clear u17 hf17
  have hS17:Cu K H17 D10 uk:=.inl (.inl kr17)
  have R17:Rows H17 ρ us:=fun v hv=>c17.tup hx (hR v hv)
  refine ⟨_,rfl,x,C,dx,_,_,rfl,x17,T.cl,T.n_knob_rows,lkr17,D10,rfl,⟨_,hS17⟩,Cg (K:=K) (xs:=uk) (fun _=>true) (fun v=>.str (ρ v).nm) hS17 (BK (by have:=O.nk; omega)) (fun y hy H' hs R k=>k H' (Ak.refl H')) (fun y hy _ H' hs R k=>?_) (fun D18 H18 hD18 s18 hl18=>?_)⟩
  ·obtain ⟨T0,rfl,hT⟩:=(R17.mono hs) y (inKn hy)
   exact ⟨_,rfl,T0,_,_,_,rfl,rfl,.inl (.inl hT),Aj (j:=1) rfl,k H' (Ak.refl H')⟩
  rw [List.filter_eq_self.mpr (fun _ _=>rfl)] at hl18
  have e18:(uk.map fun v=>V.str (ρ v).nm)=(ks.map (·.nm)).map V.str:=by
   rw [← ek,List.map_map,List.map_map]
   rfl
  rw [e18] at hl18
  refine ⟨D18,_,rfl,hl18,by rw [List.length_map]; have:=O.nk; omega,O.nn,fun D19 kvs19 H19 hD19 s19 hl19 hv19 hw19=>?_⟩
  have s1719:=s18.trans s19
  have x19:=s1719 _ _ x17
  refine ⟨_,rfl,x,C,dx,_,rfl,x19,T.cl,T.n_knob_numbers,by omega,?_⟩
  have u20:SX x H19 _:=SX.up (o:=HO.ins C dx (BJ "knob_numbers" (.ref D19) f17))
  have x20:upd H19 x (HO.ins C dx (BJ "knob_numbers" (.ref D19) f17)) x=_:=Ai
  have c20:=(c17.trans (SX.of s1719)).trans u20
  have bl20:=u20.lst x19 (s1719 _ _ bl17)
  have bp20:=u20.pair x19 (Ar s1719 bp17)
  have rl20:=u20.lst x19 (s1719 _ _ rl17)
  have rp20:=u20.pair x19 (Ar s1719 rp17)
  have kr20:=u20.lst x19 (s1719 _ _ kr17)
  have kn20:=u20.dk x19 hl19
  have bn20:=u20.dk x19 (s1719 _ _ bn17)
  have rn20:=u20.dk x19 (s1719 _ _ rn17)
  generalize upd H19 x (HO.ins C dx (BJ "knob_numbers" (.ref D19) f17))=H20 at x20 c20 bl20 bp20 rl20 rp20 kr20 bn20 rn20 kn20 ⊢
  clear u20
  refine ⟨_,rfl,x,C,dx,_,_,rfl,x20,T.cl,T.n_board_list,(by rw [Ah,if_neg (by decide +kernel)]; exact lb17),D5,bs.map YJ,bvs,rfl,bl20,Bu (F:=fun (a:Th) y=>TupAt H20 (tV a) y) YJ bp20,(by rw [List.length_map]; have:=O.b5; omega),(fun a ha=>by obtain ⟨b,hb,rfl⟩:=List.mem_map.mp ha; have:=O.sz b hb; show b.2<=97; omega),fun D21 pvs H21 hD21 s21 hl21 hp21=>?_⟩
  have e21:(bs.map YJ).map tN=bs:=by
   rw [List.map_map]
   exact List.map_id bs
  rw [e21] at hp21
  have x21:=s21 _ _ x20
  refine ⟨_,rfl,x,C,dx,_,rfl,x21,T.cl,T.n_key_places,Nat.lt_of_le_of_lt (Bm _ _ _) (by omega),?_⟩
  have u22:SX x H21 _:=SX.up (o:=HO.ins C dx (BJ "key_places" (.ref D21) (BJ "knob_numbers" (.ref D19) f17)))
  have x22:upd H21 x (HO.ins C dx (BJ "key_places" (.ref D21) (BJ "knob_numbers" (.ref D19) f17))) x=_:=Ai
  have c22:=(c20.trans (SX.of s21)).trans u22
  have bl22:=u22.lst x21 (s21 _ _ bl20)
  have bp22:=u22.pair x21 (Ar s21 bp20)
  have rl22:=u22.lst x21 (s21 _ _ rl20)
  have rp22:=u22.pair x21 (Ar s21 rp20)
  have kr22:=u22.lst x21 (s21 _ _ kr20)
  have kn22:=u22.dk x21 (s21 _ _ kn20)
  have bn22:=u22.dk x21 (s21 _ _ bn20)
  have rn22:=u22.dk x21 (s21 _ _ rn20)
  have kp22:=u22.lst x21 hl21
  have kq22:=u22.pair x21 hp21
  generalize upd H21 x (HO.ins C dx (BJ "key_places" (.ref D21) (BJ "knob_numbers" (.ref D19) f17)))=H22 at x22 c22 bl22 bp22 rl22 rp22 kr22 bn22 rn22 kp22 kq22 kn22 ⊢
  clear u22
  refine ⟨_,rfl,x,C,dx,_,_,rfl,x22,T.cl,T.n_rank_list,(by rw [Ah,if_neg (by decide +kernel),Ah,if_neg (by decide +kernel)]; exact lr17),D8,rk.map Rq,rvs,rfl,rl22,rp22,(by rw [List.length_map]; exact O.nr),(fun a ha=>by obtain ⟨r,hr,rfl⟩:=List.mem_map.mp ha; exact O.nz r hr),fun D23 qvs H23 hD23 s23 hl23 hp23=>?_⟩
  have e23:(rk.map Rq).map tN=rk.map W4:=by
   rw [List.map_map]
   rfl
  rw [e23] at hp23
  have x23:=s23 _ _ x22
  refine ⟨_,rfl,x,C,dx,_,rfl,x23,T.cl,T.n_pipe_places,Nat.lt_of_le_of_lt (Nat.le_trans (Bm _ _ _) (Nat.succ_le_succ (Bm _ _ _))) (by omega),?_⟩
  have u24:SX x H23 _:=SX.up (o:=HO.ins C dx (BJ "pipe_places" (.ref D23) (BJ "key_places" (.ref D21) (BJ "knob_numbers" (.ref D19) f17))))
  have x24:upd H23 x (HO.ins C dx (BJ "pipe_places" (.ref D23) (BJ "key_places" (.ref D21) (BJ "knob_numbers" (.ref D19) f17)))) x=_:=Ai
  have c24:=(c22.trans (SX.of s23)).trans u24
  have bl24:=u24.lst x23 (s23 _ _ bl22)
  have bp24:=u24.pair x23 (Ar s23 bp22)
  have kr24:=u24.lst x23 (s23 _ _ kr22)
  have rl24:=u24.lst x23 (s23 _ _ rl22)
  have rp24:=u24.pair x23 (Ar s23 rp22)
  have pp24:=u24.lst x23 hl23
  have pq24:=u24.pair x23 hp23
  have kn24:=u24.dk x23 (s23 _ _ kn22)
  have bn24:=u24.dk x23 (s23 _ _ bn22)
  have rn24:=u24.dk x23 (s23 _ _ rn22)
  have kp24:=u24.lst x23 (s23 _ _ kp22)
  have kq24:=u24.pair x23 (Ar s23 kq22)
  generalize hf24:BJ "pipe_places" (.ref D23) (BJ "key_places" (.ref D21) (BJ "knob_numbers" (.ref D19) f17))=f24 at x24 c24 bl24 bp24 kr24 rl24 rp24 pp24 pq24 bn24 rn24 kp24 kq24 u24 kn24 ⊢
  generalize upd H23 x (HO.ins C dx f24)=H24 at x24 c24 bl24 bp24 kr24 rl24 rp24 pp24 pq24 bn24 rn24 kp24 kq24 kn24 ⊢
  have n24:f24.length<=9:=by rw [← hf24]; exact Nat.le_trans (Bm _ _ _) (Nat.succ_le_succ (Nat.le_trans (Bm _ _ _) (Nat.succ_le_succ (Nat.le_trans (Bm _ _ _) (Nat.succ_le_succ n17)))))
  have old24:∀ {f:Str} {v:V},¬ f = "pipe_places"->¬ f = "key_places"->¬ f = "knob_numbers"->f17.lookup f=some v->f24.lookup f=some v:=fun h1 h2 h3 h=>by
   rw [← hf24,Ah,if_neg h1,Ah,if_neg h2,Ah,if_neg h3]; exact h
  have lb24:=old24 (by decide +kernel) (by decide +kernel) (by decide +kernel) lb17
  have lbn24:=old24 (by decide +kernel) (by decide +kernel) (by decide +kernel) lbn17
  have lw24:=old24 (by decide +kernel) (by decide +kernel) (by decide +kernel) lw17
  have lkn24:f24.lookup ("knob_numbers" : Str)=some (.ref D19):=by rw [← hf24,Ah,if_neg (by decide +kernel),Ah,if_neg (by decide +kernel),Ah,if_pos rfl]
  have lr24:=old24 (by decide +kernel) (by decide +kernel) (by decide +kernel) lr17
  have lpp24:f24.lookup ("pipe_places" : Str)=some (.ref D23):=by rw [← hf24,Ah,if_pos rfl]
  have lrn24:=old24 (by decide +kernel) (by decide +kernel) (by decide +kernel) lrn17
  have lkr24:=old24 (by decide +kernel) (by decide +kernel) (by decide +kernel) lkr17
  have lkp24:f24.lookup ("key_places" : Str)=some (.ref D21):=by rw [← hf24,Ah,if_neg (by decide +kernel),Ah,if_pos rfl]
  have no24:∀ m∈meths,f24.lookup m=none:=fun m hm=>by
   rw [← hf24,Ah,if_neg (Dm m hm _ (by decide +kernel)),Ah,if_neg (Dm m hm _ (by decide +kernel)),Ah,if_neg (Dm m hm _ (by decide +kernel))]
   exact no17 m hm
  clear u24 hf24 old24
  have R24:Rows H24 ρ us:=fun v hv=>c24.tup hx (hR v hv)
  refine ⟨_,rfl,_,rfl,x,C,dx,_,_,rfl,x24,T.cl,T.n_rank_numbers,lrn24,p,D16,us,ρ,rk,kvs16,rfl,c24.lst hx hp,R24,by omega,rn24,(fun i r hr=>hv16 i r.1 (by rw [List.getElem?_map,hr]; rfl)),O.nrr,O.ln,fun D25 H25 hD25 s25 hl25=>?_⟩
  have x25:=s25 _ _ x24
  refine ⟨_,rfl,x,C,dx,_,rfl,x25,T.cl,T.n_knob_lines,by omega,?_⟩
  have u26:SX x H25 _:=SX.up (o:=HO.ins C dx (BJ "knob_lines" (.ref D25) f24))
  have x26:upd H25 x (HO.ins C dx (BJ "knob_lines" (.ref D25) f24)) x=_:=Ai
  have c26:=(c24.trans (SX.of s25)).trans u26
  have bl26:=u26.lst x25 (s25 _ _ bl24)
  have bp26:=u26.pair x25 (Ar s25 bp24)
  have kr26:=u26.lst x25 (s25 _ _ kr24)
  have rl26:=u26.lst x25 (s25 _ _ rl24)
  have rp26:=u26.pair x25 (Ar s25 rp24)
  have pp26:=u26.lst x25 (s25 _ _ pp24)
  have pq26:=u26.pair x25 (Ar s25 pq24)
  have ln26:=hl25.sx u26 x25
  have kn26:=u26.dk x25 (s25 _ _ kn24)
  have bn26:=u26.dk x25 (s25 _ _ bn24)
  have rn26:=u26.dk x25 (s25 _ _ rn24)
  have kp26:=u26.lst x25 (s25 _ _ kp24)
  have kq26:=u26.pair x25 (Ar s25 kq24)
  generalize upd H25 x (HO.ins C dx (BJ "knob_lines" (.ref D25) f24))=H26 at x26 c26 bl26 bp26 kr26 rl26 rp26 pp26 pq26 ln26 bn26 rn26 kp26 kq26 kn26 ⊢
  clear u26
  have R26:Rows H26 ρ us:=fun v hv=>c26.tup hx (hR v hv)
  refine ⟨_,rfl,p,_,"step",ρ,rfl,c26.lst hx hp,R26,by omega,fun D27 H27 hD27 s27 hl27=>?_⟩
  have kn27:=s27 _ _ kn26
  have x27:=s27 _ _ x26
  have hS27:Cu K H27 D27 (us.filter (pw ρ "step")):=.inl (.inl hl27)
  have lus:(us.filter (pw ρ "step")).length<=us.length:=List.length_filter_le _ _
  refine ⟨D27,rfl,⟨_,hS27⟩,Cg (K:=K) (xs:=us.filter (pw ρ "step")) (fun _=>true) (fun v=>.int (stN ks (ρ v):Nat)) hS27 (BK (by omega)) (fun y hy H' hs R k=>k H' (Ak.refl H')) (fun y hy _ H' hs R k=>?_) (fun D28 H28 hD28 s28 hl28=>?_)⟩
  ·obtain ⟨hyu,hyw⟩:=List.mem_filter.mp hy
   obtain ⟨ts,ets,t24,tin⟩:=O.st y hyu (V.str.inj (of_decide_eq_true hyw))
   obtain ⟨T0,rfl,hT⟩:=((R26.mono s27).mono hs) y hyu
   refine ⟨_,rfl,_,rfl,x,C,dx,_,_,rfl,hs _ _ x27,T.cl,T.n_knob_numbers,(by rw [Ah,if_neg (by decide +kernel)]; exact lkn24),T0,D19,ρ (.ref T0),kvs19,ks.map (·.nm),ts,rfl,hT,hs _ _ kn27,ets,t24,(by rw [List.length_map]; have:=O.nk; omega),hv19,tin,fun H3 s3=>?_⟩
   have e:Wd.mk (ts.map fun t=>(ks.map (·.nm)).idxOf t)=stN ks (ρ (.ref T0)):=by unfold stN; rw [KY ets]
   rw [e]
   exact k H3 s3
  rw [List.filter_eq_self.mpr (fun _ _=>rfl)] at hl28
  have s2628:=s27.trans s28
  have x28:=s2628 _ _ x26
  refine ⟨_,rfl,x,C,dx,_,rfl,x28,T.cl,T.n_step_sets,Nat.lt_of_le_of_lt (Bm _ _ _) (by omega),?_⟩
  have u29:SX x H28 _:=SX.up (o:=HO.ins C dx (BJ "step_sets" (.ref D28) (BJ "knob_lines" (.ref D25) f24)))
  have old:∀ {f:Str},¬ f = "step_sets"->¬ f = "knob_lines"->(BJ "step_sets" (.ref D28) (BJ "knob_lines" (.ref D25) f24)).lookup f=f24.lookup f:=fun h1 h2=>by rw [Ah,if_neg h1,Ah,if_neg h2]
  have es:((us.filter (pw ρ "step")).map fun v=>V.int (stN ks (ρ v):Nat))=(((us.filter (pw ρ "step")).map fun v=>stN ks (ρ v)).map fun n:Nat=>V.int (n:Int)):=by rw [List.map_map]; rfl
  rw [es] at hl28
  have hpF:=u29.lst x28 (s2628 _ _ (c26.lst hx hp))
  have nx:x ≠ p:=fun z=>by rw [z,hp] at hx; cases hx
  have n5:D5 ≠ p:=Ne.symm (Am (s4 _ _ hp) hD5)
  have n8:D8 ≠ p:=Ne.symm (Am (s7 _ _ (c6.lst hx hp)) hD8)
  have n10:D10 ≠ p:=Ne.symm (Am (c9.lst hx hp) hD10)
  have n21:D21 ≠ p:=Ne.symm (Am (c20.lst hx hp) hD21)
  have n23:D23 ≠ p:=Ne.symm (Am (c22.lst hx hp) hD23)
  have n28:D28 ≠ p:=Ne.symm (Am (s27 _ _ (c26.lst hx hp)) hD28)
  suffices key:∀ H'',SX p (upd H28 x _) H''->Jk C H'' x us bs rk ks (linesOf rk (us.map ρ)) ((us.filter (pw ρ "step")).map fun v=>stN ks (ρ v)) from q _ (key _ SX.refl) key  (c0.trans ((c26.trans (SX.of s2628)).trans u29))
  intro H'' sp
  refine ⟨⟨⟨⟨dx,_,D5,D13,D21,D10,bvs,pvs,uk,kvs,sp _ _ Ai nx,(old (by decide +kernel) (by decide +kernel)).trans lb24,(old (by decide +kernel) (by decide +kernel)).trans lbn24,(old (by decide +kernel) (by decide +kernel)).trans lkp24,(old (by decide +kernel) (by decide +kernel)).trans lkr24,
   fun m hm=>(old (Dm m hm _ (by decide +kernel)) (Dm m hm _ (by decide +kernel))).trans (no24 m hm),sp _ _ (u29.lst x28 (s2628 _ _ bl26)) n5,Hi sp hpF (u29.pair x28 (Ar s2628 bp26)),Oh sp hpF (u29.dk x28 (s2628 _ _ bn26)),fun i b hb=>hv13 i b.1 (by rw [List.getElem?_map,hb]; rfl),sp _ _ (u29.lst x28 (s2628 _ _ kp26)) n21,Hi sp hpF (u29.pair x28 (Ar s2628 kq26)),sp _ _ (u29.lst x28 (s2628 _ _ kr26)) n10,?_⟩,O.b5,O.sz,by have:=O.nk; omega⟩,⟨dx,_,D8,D16,D23,D25,rvs,qvs,kvs16,sp _ _ Ai nx,(old (by decide +kernel) (by decide +kernel)).trans lr24,(old (by decide +kernel) (by decide +kernel)).trans lrn24,(old (by decide +kernel) (by decide +kernel)).trans lpp24,(by rw [Ah,if_neg (by decide +kernel),Ah,if_pos rfl]),sp _ _ (u29.lst x28 (s2628 _ _ rl26)) n8,Hi sp hpF (u29.pair x28 (Ar s2628 rp26)),Oh sp hpF (u29.dk x28 (s2628 _ _ rn26)),(fun i r hr=>hv16 i r.1 (by rw [List.getElem?_map,hr]; rfl)),sp _ _ (u29.lst x28 (s2628 _ _ pp26)) n23,Hi sp hpF (u29.pair x28 (Ar s2628 pq26)),((ln26.mono s2628).sx u29 x28).sp sp hpF⟩,O.nr,O.nz,?_⟩,dx,_,l1,D19,D28,kvs19,sp _ _ Ai nx,(old (by decide +kernel) (by decide +kernel)).trans lw24,(old (by decide +kernel) (by decide +kernel)).trans lkn24,(by rw [Ah,if_pos rfl]),sp _ _ (u29.lst x28 (s2628 _ _ (c26.lst hx rw3))) nl1,Oh sp hpF (u29.dk x28 (s2628 _ _ kn26)),hv19,hw19,sp _ _ (u29.lst x28 hl28) n28,D13,kvs,(old (by decide +kernel) (by decide +kernel)).trans lbn24,Oh sp hpF (u29.dk x28 (s2628 _ _ bn26)),hw13⟩
  case refine_2=>rw [Qk O.ln,← ek,List.length_map,huk]
  rw [← ek]
  refine Bu (F:=fun (r:R) y=>TupAt _ r.v y) ρ ?_
  have R29:Rows _ ρ uk:=fun v hv=>RN sp hpF (u29.tup x28 ((R26.mono s2628) v (inKn hv)))
  generalize H''=H29 at R29 ⊢
  have key:∀ l:List V,(∀ v∈l,TupAt H29 (ρ v).v v)->Paired (fun v y=>TupAt H29 (ρ v).v y) l l:=by
   intro l
   induction l with
   | nil=>intro _; exact .nil
   | cons a b ih=>intro h; exact .cons (h a (List.mem_cons_self ..)) (ih fun v hv=>h v (List.mem_cons_of_mem _ hv))
  exact key uk R29
noncomputable def VV (C:Addr):Sp:=fun vs H Q _=>∃ (x:Addr) (bs:List (Str × Nat)) (ks:List R),vs=[.ref x]/\DN C H x bs ks/\∀ D bvs H',H D=none->Ak H H'->H' D=some (.lst bvs)->Paired (fun b y=>TupAt H' (bV b) y) bs bvs->Q (.ref D) H'
theorem nC:An ["self"] ["self"] (Ac jy):=Be
include N T in
theorem Sg:Ao P w K mg base BR 1 aD.fOb aD.dOb ["self"] (VV C):=by
 refine N.FOb.1.ok nC (fun vs H Q E h=>?_) (fun cdv A outer s H vs Q E hr h=>?_)
 ·refine byC fun w_=>?_;obtain ⟨x,bs,ks,rfl,_⟩:=h;refine w_ ?_
  rfl
 ·refine byC fun w_=>?_;obtain ⟨x,bs,ks,rfl,O,q⟩:=h;refine w_ ?_
  refine ⟨_,(Ae (Ax (De Dh rfl T.list PyProof.Rows.boot_list (Aa (Bg (pv 0) rfl) Ab)))),?_⟩
  refine byC fun w_=>?_;obtain ⟨⟨dx,fs,bl,bn,kp,kr,bvs,pvs,uvs,kvs,h1,l1,l2,l3,l4,lm,h2,h3,h4,h5,h6,h7,h8,h9⟩,ob5,osz,onk⟩:=id O;refine w_ ?_
  exact ⟨_,rfl,x,C,dx,_,_,rfl,h1,T.cl,T.n_board_list,l1,bl,bvs,rfl,.inl (.inl (.inl h2)),fun l hl=>q l bvs _ hl (BL hl) Ai (Ar (BL hl) h3)⟩
noncomputable def Wl (C:Addr):Sp:=fun vs H Q _=>∃ (x:Addr) (bs:List (Str × Nat)) (ks:List R),vs=[.ref x]/\DN C H x bs ks/\Q (.int ((FN bs).length:Nat)) H
theorem jP:An ["self"] ["self"] (Ac j_):=Be
include N T in
theorem WN:Ao P w K mg base BR 1 aD.fOc aD.dOc ["self"] (Wl C):=by
 refine N.FOc.1.ok jP (fun vs H Q E h=>?_) (fun cdv A outer s H vs Q E hr h=>?_)
 ·refine byC fun w_=>?_;obtain ⟨x,bs,ks,rfl,_⟩:=h;refine w_ ?_
  rfl
 ·refine byC fun w_=>?_;obtain ⟨x,bs,ks,rfl,O,q⟩:=h;refine w_ ?_
  refine ⟨_,(Ae (Ax (Az BV rfl T.len PySem.boot_len (Aa (Bg (pv 0) rfl) Ab)))),?_⟩
  refine byC fun w_=>?_;obtain ⟨⟨dx,fs,bl,bn,kp,kr,bvs,pvs,uvs,kvs,h1,l1,l2,l3,l4,lm,h2,h3,h4,h5,h6,h7,h8,h9⟩,ob5,osz,onk⟩:=id O;refine w_ ?_
  refine ⟨_,rfl,x,C,dx,_,_,rfl,h1,T.cl,T.n_key_places,l3,kp,pvs,rfl,.inl (.inl (.inl h6)),?_⟩
  rw [← h7.length]
  exact q
noncomputable def Vu (C:Addr):Sp:=fun vs H Q _=>∃ (x:Addr) (bs:List (Str × Nat)) (ks:List R) (j:Nat) (b:Str × Nat) (n:Int),vs=[.ref x,.str b.1,.int n]/\DN C H x bs ks/\bs[j]? = some b/\∀ H',Ak H H'->Q (.int ((((bs.take j).map (·.2)).sum:Nat)+n)) H'
theorem mX:An ["self","board","number"] ["self","board","number"] (Ac mU):=Be
include N T in
theorem Qp:Ao P w K mg base BR 2 aD.fOk aD.dOk ["self","board","number"] (Vu C):=by
 have GCa:Ao P w K mg base BR 1 aD.fCa aD.dCa ["things"] W_:=WQ N T
 refine N.FOk.1.ok mX (fun vs H Q E h=>?_) (fun cdv A outer s H vs Q E hr h=>?_)
 ·refine byC fun w_=>?_;obtain ⟨x,bs,ks,j,b,n,rfl,_⟩:=h;refine w_ ?_
  rfl
 ·refine byC fun w_=>?_;obtain ⟨x,bs,ks,j,b,n,rfl,O,hb,q⟩:=h;refine w_ ?_
  have hrCa:A_ 1 _:=hr.mono (by decide)
  have hu:=DR hr
  refine ⟨_,(Ae (Ax (Bj Dc (Al GCa hrCa rfl N.FCa.2.2 N.FCa.1.kp N.FCa.2.1 .nil Av (Aa (Di Gr (Bg (pv 0) rfl) Ej (Eg (Fy hu (Bg (pv 0) rfl) (pv 1) (fun _ _=>rfl)))) Ab)) (pv 2)))),?_⟩
  refine byC fun w_=>?_;obtain ⟨⟨dx,fs,bl,bn,kp,kr,bvs,pvs,uvs,kvs,h1,l1,l2,l3,l4,lm,h2,h3,h4,h5,h6,h7,h8,h9⟩,ob5,osz,onk⟩:=id O;refine w_ ?_
  have hj:j<bs.length:=(List.getElem?_eq_some_iff.mp hb).1
  have hl:=h3.length
  have g:=En.k (k:=Sum.inr b.1) h4
  rw [h5 j b hb] at g
  refine ⟨_,rfl,x,C,dx,_,_,rfl,h1,T.cl,T.n_board_list,l1,_,rfl,x,C,dx,_,_,rfl,h1,T.cl,T.n_board_numbers,l2,_,rfl,bn,_,rfl,g,_,rfl,bl,bvs,rfl,.inl (.inl h2),fun p6 hp6=>?_⟩
  have s6:=BL (o:=HO.lst (Dq bvs none (some (j:Int)))) hp6
  have a6:upd H p6 (HO.lst (Dq bvs none (some (j:Int)))) p6=_:=Ai
  generalize upd H p6 (HO.lst (Dq bvs none (some (j:Int))))=H6 at s6 a6 ⊢
  rw [GX bvs j (by omega)] at a6
  refine ⟨p6,(bs.take j).map YJ,bvs.take j,rfl,a6,Bu (F:=fun (a:Th) y=>TupAt H6 (tV a) y) YJ (Io (Ar s6 h3) j),(by rw [List.length_map,List.length_take]; omega),(fun a ha=>by obtain ⟨b',hb',rfl⟩:=List.mem_map.mp ha; exact Nat.le_trans (osz b' (List.mem_of_mem_take hb')) (by show 61<=100; decide)),fun H7 s7=>?_⟩
  have e7:((bs.take j).map YJ).map (fun a=>a.2.1)=(bs.take j).map (·.2):=by
   rw [List.map_map]
   rfl
  rw [e7]
  exact ⟨_,rfl,_,_,rfl,rfl,q H7 (s6.trans s7)⟩
noncomputable def Wu (C:Addr):Sp:=fun vs H Q _=>∃ (x:Addr) (bs:List (Str × Nat)) (ks:List R) (i:Nat) (qd:Nat × Nat),vs=[.ref x,.int (i:Nat)]/\DN C H x bs ks/\(FN bs)[i]? = some qd/\∀ y,TupAt H (qV qd) y->Q y H
theorem gn:An ["self","key"] ["self","key"] (Ac jA):=Be
include N T in
theorem V3:Ao P w K mg base BR 1 aD.fOo aD.dOo ["self","key"] (Wu C):=by
 refine N.FOo.1.ok gn (fun vs H Q E h=>?_) (fun cdv A outer s H vs Q E hr h=>?_)
 ·refine byC fun w_=>?_;obtain ⟨x,bs,ks,i,qd,rfl,_⟩:=h;refine w_ ?_
  rfl
 ·refine byC fun w_=>?_;obtain ⟨x,bs,ks,i,qd,rfl,O,hq,q⟩:=h;refine w_ ?_
  refine ⟨_,(Ae (Ax (Ay DQ (Bg (pv 0) rfl) (pv 1) (fun _ _=>rfl)))),?_⟩
  refine byC fun w_=>?_;obtain ⟨⟨dx,fs,bl,bn,kp,kr,bvs,pvs,uvs,kvs,h1,l1,l2,l3,l4,lm,h2,h3,h4,h5,h6,h7,h8,h9⟩,ob5,osz,onk⟩:=id O;refine w_ ?_
  obtain ⟨y,hy,ht⟩:=DG h7 hq
  exact ⟨_,rfl,x,C,dx,_,_,rfl,h1,T.cl,T.n_key_places,l3,_,rfl,kp,pvs,_,_,rfl,rfl,.inl (.inl h6),Aj hy,q y ht⟩
noncomputable def bw (C:Addr):Sp:=fun vs H Q _=>∃ (x:Addr) (bs:List (Str × Nat)) (ks:List R) (k j1 j2:Nat) (b1 b2:Str × Nat) (nm:Str) (s:Int),vs=[.ref x,.int (k:Nat)]/\DN C H x bs ks/\ks[k]? = some ⟨"coupler",nm,[.str b1.1,.str b2.1,.int s]⟩/\bs[j1]? = some b1/\bs[j2]? = some b2/\∀ y H',Ak H H'->TupAt H' [.int (j1:Nat),.int (j2:Nat),.int s] y->Q y H'
noncomputable def Pn (C:Addr):Sp:=fun vs H Q _=>∃ (x:Addr) (bs:List (Str × Nat)) (ks:List R) (k j1:Nat) (b1:Str × Nat) (wd nm:Str) (rs:List V),vs=[.ref x,.int (k:Nat)]/\DN C H x bs ks/\ks[k]? = some ⟨wd,nm,.str b1.1::rs⟩/\bs[j1]? = some b1/\Q (.int (j1:Nat)) H
theorem h_:An ["self","knob"] ["self","knob"] (Ac mD):=Be
include N T in
theorem Qq:Ao P w K mg base BR 1 aD.fBk aD.dBk ["self","knob"] (Pn C):=by
 refine N.FBk.1.ok h_ (fun vs H Q E h=>?_) (fun cdv A outer s H vs Q E hr h=>?_)
 ·refine byC fun w_=>?_;obtain ⟨x,bs,ks,k,j1,b1,wd,nm,rs,rfl,_⟩:=h;refine w_ ?_
  rfl
 ·refine byC fun w_=>?_;obtain ⟨x,bs,ks,k,j1,b1,wd,nm,rs,rfl,O,hk,hb1,q⟩:=h;refine w_ ?_
  have hu:=DR hr
  refine ⟨_,(Ae (Ax (Fy hu (Bg (pv 0) rfl) (Ay (Aw (K:=K) rfl) (Ay DQ (Bg (pv 0) rfl) (pv 1) (fun _ _=>rfl)) Af (fun _ _=>rfl)) (fun _ _=>rfl)))),?_⟩
  refine byC fun w_=>?_;obtain ⟨⟨dx,fs,bl,bn,kp,kr,bvs,pvs,uvs,kvs,h1,l1,l2,l3,l4,lm,h2,h3,h4,h5,h6,h7,h8,h9⟩,ob5,osz,onk⟩:=id O;refine w_ ?_
  refine byC fun w_=>?_;obtain ⟨y,hy,T0,rfl,ht⟩:=DG h9 hk;refine w_ ?_
  have g1:=En.k (k:=Sum.inr b1.1) h4
  rw [h5 j1 b1 hb1] at g1
  exact ⟨_,rfl,x,C,dx,_,_,rfl,h1,T.cl,T.n_board_numbers,l2,_,rfl,x,C,dx,_,_,rfl,h1,T.cl,T.n_knob_rows,l4,_,rfl,kr,uvs,_,_,rfl,rfl,.inl (.inl h8),Aj hy,T0,_,_,_,rfl,rfl,.inl (.inl ht),Aj (j:=2) rfl,bn,_,rfl,g1,q⟩
theorem bu:An ["self","knob","row"] ["self","knob"] (Ac lX):=Be
include N T in
theorem Yp:Ao P w K mg base BR 2 aD.fOp aD.dOp ["self","knob"] (bw C):=by
 have GBk:Ao P w K mg base BR 1 aD.fBk aD.dBk ["self","knob"] (Pn C):=Qq N T
 refine N.FOp.1.ok bu (fun vs H Q E h=>?_) (fun cdv A outer s H vs Q E hr h=>?_)
 ·refine byC fun w_=>?_;obtain ⟨x,bs,ks,k,j1,j2,b1,b2,nm,s0,rfl,_⟩:=h;refine w_ ?_
  rfl
 ·refine byC fun w_=>?_;obtain ⟨x,bs,ks,k,j1,j2,b1,b2,nm,s0,rfl,O,hk,hb1,hb2,q⟩:=h;refine w_ ?_
  have hrBk:A_ 1 _:=hr.mono (by decide)
  have hu:=DR hr
  refine ⟨_,(Ag (BX (i:=2) bu.nd rfl (Or.inl rfl) (Ay DQ (Bg (pv 0) rfl) (pv 1) (fun _ _=>rfl)))
   (Ae (Ax (DY (Aa (CV (pv 0) T.cl N.FBk.2.2 GBk hrBk N.FBk.2.1 .nil Av (Aa (pv 1) Ab)) (Aa (Fy hu (Bg (pv 0) rfl) (Ay (Aw (K:=K) rfl) (pv 2) Af (fun _ _=>rfl)) (fun _ _=>rfl)) (Aa (Ay (Aw (K:=K) rfl) (pv 2) Af (fun _ _=>rfl)) Ab))))))),?_⟩
  refine byC fun w_=>?_;obtain ⟨⟨dx,fs,bl,bn,kp,kr,bvs,pvs,uvs,kvs,h1,l1,l2,l3,l4,lm,h2,h3,h4,h5,h6,h7,h8,h9⟩,ob5,osz,onk⟩:=id O;refine w_ ?_
  refine byC fun w_=>?_;obtain ⟨y,hy,T0,rfl,ht⟩:=DG h9 hk;refine w_ ?_
  have g1:=En.k (k:=Sum.inr b1.1) h4
  rw [h5 j1 b1 hb1] at g1
  have g2:=En.k (k:=Sum.inr b2.1) h4
  rw [h5 j2 b2 hb2] at g2
  refine ⟨_,rfl,x,C,dx,_,_,rfl,h1,T.cl,T.n_knob_rows,l4,_,rfl,kr,uvs,_,_,rfl,rfl,.inl (.inl h8),Aj hy,?_⟩
  refine ⟨_,rfl,x,dx,fs,rfl,h1,lm _ (by decide +kernel),_,rfl,x,bs,ks,k,j1,b1,_,_,_,rfl,O,hk,hb1,?_⟩
  refine ⟨_,rfl,x,C,dx,_,_,rfl,h1,T.cl,T.n_board_numbers,l2,_,rfl,T0,_,_,_,rfl,rfl,.inl (.inl ht),Aj (j:=3) rfl,bn,_,rfl,g2,?_⟩
  exact ⟨_,rfl,T0,_,_,_,rfl,rfl,.inl (.inl ht),Aj (j:=4) rfl,by show 3<=sizeLine; decide,fun p hp=>q _ _ (BL hp) ⟨p,rfl,Ai⟩⟩
noncomputable def cT (C:Addr):Sp:=fun vs H Q _=>∃ (x:Addr) (bs:List (Str × Nat)) (ks:List R) (k i j1 j2:Nat) (b1 b2:Str × Nat) (qd:Nat × Nat) (nm:Str) (s:Int),vs=[.ref x,.int (k:Nat),.int (i:Nat)]/\DN C H x bs ks/\(FN bs)[i]? = some qd/\ks[k]? = some ⟨"coupler",nm,[.str b1.1,.str b2.1,.int s]⟩/\bs[j1]? = some b1/\bs[j2]? = some b2 /\
 ∀ H',Ak H H'->Q (Lf bs j1 j2 s qd b2.2) H'
theorem TY:An ["organ","knob","key","coupler","place","second","number"] ["organ","knob","key"] (Ac jo):=Be
include N T in
theorem ZC:Ao P w K mg base BR 3 aD.fLe aD.dLe ["organ","knob","key"] (cT C):=by
 have GOc:Ao P w K mg base BR 1 aD.fOc aD.dOc ["self"] (Wl C):=WN N T
 have GOp:Ao P w K mg base BR 2 aD.fOp aD.dOp ["self","knob"] (bw C):=Yp N T
 have GOo:Ao P w K mg base BR 1 aD.fOo aD.dOo ["self","key"] (Wu C):=V3 N T
 have GOb:Ao P w K mg base BR 1 aD.fOb aD.dOb ["self"] (VV C):=Sg N T
 have GOk:Ao P w K mg base BR 2 aD.fOk aD.dOk ["self","board","number"] (Vu C):=Qp N T
 refine N.FLe.1.ok TY (fun vs H Q E h=>?_) (fun cdv A outer s H vs Q E hr h=>?_)
 ·refine byC fun w_=>?_;obtain ⟨x,bs,ks,k,i,j1,j2,b1,b2,qd,nm,s0,rfl,_⟩:=h;refine w_ ?_
  rfl
 ·refine byC fun w_=>?_;obtain ⟨x,bs,ks,k,i,j1,j2,b1,b2,qd,nm,s0,rfl,O,hq,hk,hb1,hb2,q⟩:=h;refine w_ ?_
  have hrOc:A_ 1 _:=hr.mono (by decide)
  have hrOp:A_ 2 _:=hr.mono (by decide)
  have hrOo:A_ 1 _:=hr.mono (by decide)
  have hrOb:A_ 1 _:=hr.mono (by decide)
  have hrOk:A_ 2 _:=hr.mono (by decide)
  refine ⟨_,(Ag (By (CT (Hk Ez Ip Af (pv 2) (Bv (pv 0) T.cl N.FOc.2.2 GOc hrOc N.FOc.2.1 .nil Av))) (Ae (Ax Hv)) Bb)
   (Ag (BX (i:=3) TY.nd rfl (Or.inl rfl) (CV (pv 0) T.cl N.FOp.2.2 GOp hrOp N.FOp.2.1 .nil Av (Aa (pv 1) Ab)))
   (Ag (BX (i:=4) TY.nd rfl (Or.inl rfl) (CV (pv 0) T.cl N.FOo.2.2 GOo hrOo N.FOo.2.1 .nil Av (Aa (pv 2) Ab)))
   (Ag (BX (i:=5) TY.nd rfl (Or.inl rfl) (Ay (Em (K:=K) rfl) (Bv (pv 0) T.cl N.FOb.2.2 GOb hrOb N.FOb.2.1 .nil Av) (Ay (Aw (K:=K) rfl) (pv 3) Af (fun _ _=>rfl)) (fun _ _=>rfl)))
   (Ag (BX (i:=6) TY.nd rfl (Or.inl rfl) (Bj Dc (Ay (Aw (K:=K) rfl) (pv 4) Af (fun _ _=>rfl)) (Ay (Aw (K:=K) rfl) (pv 3) Af (fun _ _=>rfl))))
   (Ag (By (PW.pt (Ff (Ba Jf (Ay (Aw (K:=K) rfl) (pv 4) Af (fun _ _=>rfl)) (Ay (Aw (K:=K) rfl) (pv 3) Af (fun _ _=>rfl)) (BZ _)) (Fd (CT (Hk Ez Ip Af (pv 6) (Ay (Aw (K:=K) rfl) (pv 5) Af (fun _ _=>rfl))))))) (Ae (Ax Hv)) Bb)
   (Ae (Ax (CV (pv 0) T.cl N.FOk.2.2 GOk hrOk N.FOk.2.1 .nil Av (Aa (Ay (Aw (K:=K) rfl) (pv 5) Af (fun _ _=>rfl)) (Aa (pv 6) Ab))))))))))),?_⟩
  have hi:i<(FN bs).length:=(List.getElem?_eq_some_iff.mp hq).1
  have meth:∀ {H':Hp},DN C H' x bs ks->∃ dx fs,H' x=some (.ins C dx fs)/\∀ m∈meths,fs.lookup m=none:=fun O'=>by
   refine byC fun w_=>?_;obtain ⟨⟨dx,fs,_,_,_,_,_,_,_,_,h1,_,_,_,_,lm,_⟩,_⟩:=O';refine w_ ?_
   exact ⟨dx,fs,h1,lm⟩
  obtain ⟨dx,fs,hx,lm⟩:=meth O
  refine ⟨_,rfl,_,_,rfl,rfl,_,rfl,?_⟩
  refine CN (fun _=>?_) (fun z=>absurd (decide_eq_true (by omega)) z)
  refine ⟨_,rfl,x,dx,fs,rfl,hx,lm _ (by decide +kernel),x,bs,ks,rfl,O,_,_,rfl,rfl,_,rfl,?_⟩
  rw [decide_eq_true (by omega:(i:Int)<((FN bs).length:Nat))]
  refine Cv ?_
  refine ⟨_,rfl,x,dx,fs,rfl,hx,lm _ (by decide +kernel),_,rfl,x,bs,ks,k,j1,j2,b1,b2,nm,s0,rfl,O,hk,hb1,hb2,fun y1 H1 s1 hy1=>?_⟩
  have O1:=O.mono s1
  obtain ⟨dx1,fs1,hx1,lm1⟩:=meth O1
  refine ⟨_,rfl,x,dx1,fs1,rfl,hx1,lm1 _ (by decide +kernel),_,rfl,x,bs,ks,i,qd,rfl,O1,hq,fun y2 hy2=>?_⟩
  refine ⟨_,rfl,x,dx1,fs1,rfl,hx1,lm1 _ (by decide +kernel),x,bs,ks,rfl,O1,fun D bvs H2 hD s2 hl2 hb2'=>?_⟩
  obtain ⟨T1,rfl,ht1⟩:=hy1.mono s2
  obtain ⟨T2,rfl,ht2⟩:=hy2.mono s2
  refine byC fun w_=>?_;obtain ⟨v3,hv3,T3,rfl,ht3⟩:=DG hb2' hb2;refine w_ ?_
  refine ⟨_,rfl,T1,_,_,_,rfl,rfl,.inl (.inl ht1),Aj (j:=1) rfl,D,bvs,_,_,rfl,rfl,.inl (.inl hl2),Aj hv3,?_⟩
  refine ⟨_,rfl,T2,_,_,_,rfl,rfl,.inl (.inl ht2),Aj (j:=1) rfl,_,rfl,T1,_,_,_,rfl,rfl,.inl (.inl ht1),Aj (j:=2) rfl,_,_,rfl,rfl,?_⟩
  refine ⟨_,rfl,T2,_,_,_,rfl,rfl,.inl (.inl ht2),Aj (j:=0) rfl,_,rfl,T1,_,_,_,rfl,rfl,.inl (.inl ht1),Aj (j:=0) rfl,rfl,_,rfl,?_⟩
  have fin:=q H2 (s1.trans s2)
  unfold Lf at fin
  by_cases e1:qd.1=j1
  ·have z:(!decide (V.int (qd.1:Nat)=V.int (j1:Nat)))=false:=by rw [e1]; simp
   rw [z]
   refine Cv ?_
   refine ⟨_,rfl,_,_,rfl,rfl,_,rfl,?_⟩
   refine CN (fun g1=>?_) (fun g1=>?_)
   ·refine ⟨_,rfl,T3,_,_,_,rfl,rfl,.inl (.inl ht3),Aj (j:=1) rfl,_,_,rfl,rfl,_,rfl,?_⟩
    have g1':0<=(qd.2:Int)+s0:=of_decide_eq_true g1
    by_cases g2:(qd.2:Int)+s0<(b2.2:Nat)
    ·have z2:decide ((qd.2:Int)+s0<(b2.2:Nat))=true:=decide_eq_true g2
     rw [z2]
     refine Cv ?_
     rw [if_pos ⟨e1,g1',g2⟩] at fin
     obtain ⟨dx2,fs2,hx2,lm2⟩:=meth (O1.mono s2)
     refine ⟨_,rfl,x,dx2,fs2,rfl,hx2,lm2 _ (by decide +kernel),_,rfl,T3,_,_,_,rfl,rfl,.inl (.inl ht3),Aj (j:=0) rfl,_,rfl,x,bs,ks,j2,b2,_,rfl,O1.mono s2,hb2,fun H3 s3=>?_⟩
     have fin3:=q H3 ((s1.trans s2).trans s3)
     unfold Lf at fin3
     rw [if_pos ⟨e1,g1',g2⟩] at fin3
     exact fin3
    ·have z2:decide ((qd.2:Int)+s0<(b2.2:Nat))=false:=decide_eq_false g2
     rw [z2]
     refine EY ?_
     rw [if_neg fun z=>g2 z.2.2] at fin
     exact fin
   ·refine ⟨_,rfl,?_⟩
    have g1':decide (0<=(qd.2:Int)+s0)=false:=(Bool.not_eq_true _).mp g1
    rw [if_neg fun z=>absurd (decide_eq_true z.2.1) g1] at fin
    exact EY fin
  ·have z:(!decide (V.int (qd.1:Nat)=V.int (j1:Nat)))=true:=by
    rw [decide_eq_false fun z=>e1 (by have:=V.int.inj z; omega)]
    rfl
   rw [z]
   refine EY ?_
   rw [if_neg fun z=>e1 z.1] at fin
   exact fin
noncomputable def Vb:Sp:=fun vs H Q _=>∃ (n:Nat) (i:Int),vs=[.int n,.int i]/\Q (.bl (decide (0<=i) && n.testBit i.toNat)) H
theorem Ww (n:Nat) (i:Int):decide (V.int (Builtin.bitAnd ((n:Int) / 2 ^ i.toNat) 1)=V.int 1)=n.testBit i.toNat:=by
 rw [Fg,show (1:Int)=((1:Nat):Int) from rfl,← Int.natCast_ediv,Mi,Bool.eq_iff_iff]
 rw [Nat.testBit_eq_decide_div_mod_eq,Nat.and_one_is_mod]
 simp only [decide_eq_true_eq,V.int.injEq]
 exact Int.ofNat_inj
theorem iC:An ["some","number"] ["some","number"] (Ac kW):=Be
include N T in
theorem Tp:Ao P w K mg base BR 1 aD.fHa aD.dHa ["some","number"] Vb:=by
 refine N.FHa.1.ok iC (fun vs H Q E h=>?_) (fun cdv A outer s H vs Q E hr h=>?_)
 ·obtain ⟨n,i,rfl,_⟩:=h
  rfl
 ·obtain ⟨n,i,rfl,q⟩:=h
  refine ⟨_,(Ae (Ax (Cj (GR Ez Ip Af (pv 1) (RV PySem.F.plainAttrs_int PySem.F.slot_int_bit_length PySem.F.type_int_bit_length Li (pv 0))) (Cq (Ck Df (Bj Kp (Bj Qx (pv 0) (pv 1)) Af) Af (BZ _)))))),?_⟩
  refine ⟨_,rfl,_,_,rfl,rfl,_,rfl,?_⟩
  refine CN (fun h1=>?_) (fun h1=>?_)
  ·have hi:0<=i:=of_decide_eq_true h1
   refine ⟨_,rfl,rfl,(n:Int),rfl,rfl,_,_,rfl,rfl,_,rfl,?_⟩
   rw [Hu]
   refine CN (fun h2=>?_) (fun h2=>?_)
   ·refine ⟨_,rfl,_,rfl,_,_,rfl,rfl,hi,_,_,rfl,rfl,rfl,?_⟩
    dsimp only
    rw [Ww]
    rw [h1,Bool.true_and] at q
    exact q
   ·have e:n.testBit i.toNat=false:=by
     cases hb:n.testBit i.toNat with
     | false=>rfl
     | true =>
      have:=Wd.Q_ hb
      exact absurd (decide_eq_true (by omega:i<(Wd.len n:Int))) h2
    rw [e,Bool.and_false] at q
    exact q
  ·rw [(Bool.not_eq_true _).mp h1,Bool.false_and] at q
   exact ⟨_,rfl,Cv q⟩
noncomputable def VJ:Sp:=fun vs H Q _=>∃ n:Nat,vs=[.int n]/\n<2 ^ 1200/\∀ p H',H p=none->Ak H H'->H' p=some (.lst (nV (Wd.mem n)))->Q (.ref p) H'
theorem Q3 (n:Nat):((((List.range (Wd.len n)).map fun (i:Nat)=>(0:Int)+(i:Int)).filter fun i=>decide (0<=i) && n.testBit i.toNat).map fun i=>V.int i)=nV (Wd.mem n):=by
 unfold Wd.mem
 rw [List.filter_map,List.map_map]
 have e:((fun i:Int=>decide (0<=i) && n.testBit i.toNat) ∘ fun (i:Nat)=>(0:Int)+(i:Int))=n.testBit:=by
  funext i
  show (decide (0<=(0:Int)+(i:Int)) && n.testBit ((0:Int)+(i:Int)).toNat)=n.testBit i
  have h1:(0:Int)<=0+(i:Int):=by omega
  have h2:((0:Int)+(i:Int)).toNat=i:=by omega
  rw [decide_eq_true h1,h2,Bool.true_and]
 rw [e]
 refine List.map_congr_left fun i _=>?_
 show V.int ((0:Int)+(i:Int))=V.int (i:Int)
 rw [Int.zero_add]
theorem iw:An ["some"] ["some"] (Ac fc):=Be
include N T in
theorem RX:Ao P w K mg base BR 2 aD.fMe aD.dMe ["some"] VJ:=by
 have GHa:Ao P w K mg base BR 1 aD.fHa aD.dHa ["some","number"] Vb:=Tp N T
 refine N.FMe.1.ok iw (fun vs H Q E h=>?_) (fun cdv A outer s H vs Q E hr h=>?_)
 ·obtain ⟨n,rfl,_⟩:=h
  rfl
 ·obtain ⟨n,rfl,hn,q⟩:=h
  have hrHa:A_ 1 _:=hr.mono (by decide)
  refine ⟨_,(Ae (Ax (Bo rfl (BP (osc:=Ac fc) (N:=["some"]) rfl rfl (by decide +kernel)) (Fi rfl T.range (Aa (RV PySem.F.plainAttrs_int PySem.F.slot_int_bit_length PySem.F.type_int_bit_length Li (pv 0)) Ab)) (fun _ _ _ _=>(Im (Ce (Al GHa hrHa rfl N.FHa.2.2 N.FHa.1.kp N.FHa.2.1 .nil Av (Aa (pv 1) (Aa (pv 0) Ab)))))) (fun _ _ _ _=>(pv 0))))),?_⟩
  have hlen:Wd.len n<=1200:=Wd.K8 hn
  refine ⟨_,rfl,rfl,(n:Int),rfl,rfl,?_⟩
  rw [Hu]
  refine ⟨_,rfl,by omega,by omega,?_⟩
  rw [Int.toNat_natCast]
  refine Nk (lo:=0) (n:=Wd.len n) (fun i=>decide (0<=i) && n.testBit i.toNat) (fun i=>.int i) (Nat.lt_of_le_of_lt hlen (by decide)) (fun i hi H' hs R k=>?_) (fun i hi _ H' hs R k=>⟨_,rfl,k H' (Ak.refl H')⟩) (fun D H' hD hs hl=>?_)
  ·exact ⟨_,rfl,_,rfl,n,_,rfl,_,rfl,k H' (Ak.refl H')⟩
  ·rw [Q3] at hl
   exact q D H' hD hs hl
noncomputable def Ur:Sp:=fun vs H Q _=>∃ (n:Nat) (k:Int) (c:Nat),vs=[.int n,.int k,.int c]/\n<2 ^ 1200 /\ -1200<=k/\k<=1200/\c<=1200/\Q (.int (Wd.mv n k c:Nat)) H
theorem Oz (m c:Nat):Builtin.bitAnd (m:Int) (1 * 2 ^ ((if (0:Int) > (c:Int) then (0:Int) else (c:Int))).toNat - 1)=((m % 2 ^ c:Nat):Int):=by
 have h:¬ (0:Int) > (c:Int):=by omega
 rw [if_neg h,Int.one_mul,Int.toNat_natCast,Fg]
 have hp:1<=2 ^ c:=Nat.one_le_two_pow
 have e:((2 ^ c:Nat):Int) - 1=((2 ^ c - 1:Nat):Int):=by omega
 rw [e,Mi,Nat.and_two_pow_sub_one_eq_mod]
theorem Yh:An ["some","steps","count","moved"] ["some","steps","count"] (Ac jT):=Be
include N T in
theorem RW:Ao P w K mg base BR 1 aD.fSh aD.dSh ["some","steps","count"] Ur:=by
 refine N.FSh.1.ok Yh (fun vs H Q E h=>?_) (fun cdv A outer s H vs Q E hr h=>?_)
 ·obtain ⟨n,k,c,rfl,_⟩:=h
  rfl
 ·obtain ⟨n,k,c,rfl,hn,k1,k2,hc,q⟩:=h
  refine ⟨_,(Ag (BX (i:=3) Yh.nd rfl (Or.inl rfl) (Le (Ba Om (pv 1) Af (BZ _)) (Bj Vs (pv 0) (pv 1)) (Bj Qx (pv 0) (Jp JX (pv 1)))))
   (Ae (Ax (Bj Kp (pv 3) (Bj Ja (Bj Nv Af (Az (QK rfl) rfl T.max PyProof.Rows.boot_max (Aa (pv 2) (Aa Af Ab)))) Af))))),?_⟩
  have hlen:Wd.len n<=1200:=Wd.K8 hn
  have p1:(2:Int) ^ 27=134217728:=by decide
  refine ⟨_,rfl,_,_,rfl,rfl,_,rfl,?_⟩
  refine CN (fun h1=>?_) (fun h1=>?_)
  ·have hk:0<k:=of_decide_eq_true h1
   refine ⟨_,rfl,_,rfl,_,_,rfl,rfl,⟨by omega,by rw [Hu,p1]; omega⟩,?_⟩
   refine ⟨_,rfl,_,rfl,_,_,rfl,⟨_,_,rfl,rfl,⟨by split <;> omega,by split <;> omega,by decide⟩,_,_,rfl,rfl,_,_,rfl,rfl,?_⟩⟩
   dsimp only
   have e:((n:Int) * 2 ^ k.toNat)=((n * 2 ^ k.toNat:Nat):Int):=by rw [Fg]; simp
   rw [e,Oz]
   unfold Wd.mv at q
   rw [if_pos hk] at q
   exact q
  ·have hk:¬ 0<k:=fun z=>h1 (decide_eq_true z)
   refine ⟨_,rfl,_,rfl,_,rfl,_,_,rfl,rfl,by omega,?_⟩
   refine ⟨_,rfl,_,rfl,_,_,rfl,⟨_,_,rfl,rfl,⟨by split <;> omega,by split <;> omega,by decide⟩,_,_,rfl,rfl,_,_,rfl,rfl,?_⟩⟩
   dsimp only
   have e:((n:Int) / 2 ^ (-k).toNat)=((n / 2 ^ (-k).toNat:Nat):Int):=by rw [Fg]; simp
   rw [e,Oz]
   unfold Wd.mv at q
   rw [if_neg hk] at q
   exact q
noncomputable def dR (C:Addr):Sp:=fun vs H Q _=>∃ (x:Addr) (bs:List (Str × Nat)) (ks:List R),vs=[.ref x]/\DN C H x bs ks/\∀ D ys H',H D=none->Ak H H'->H' D=some (.lst ys)->Paired (fun (r:R) y=>TupAt H' [.str r.w,.str r.nm] y) ks ys->Q (.ref D) H'
theorem i_:An ["self"] ["self"] (Ac gJ):=Be
include N T in
theorem dj:Ao P w K mg base BR 1 aD.fOz aD.dOz ["self"] (dR C):=by
 refine N.FOz.1.ok i_ (fun vs H Q E h=>?_) (fun cdv A outer s H vs Q E hr h=>?_)
 ·obtain ⟨x,bs,ks,rfl,_⟩:=h
  rfl
 ·obtain ⟨x,bs,ks,rfl,O,q⟩:=h
  refine ⟨_,(Ae (Ax (Bo rfl (BP (osc:=Ac gJ) (N:=["self"]) rfl rfl (by decide +kernel)) (Bp (Bg (pv 0) rfl)) (fun _ _ _ _=>CK) (fun _ _ _ _=>(DY (Aa (Ay (Aw (K:=K) rfl) (pv 0) Af (fun _ _=>rfl)) (Aa (Ay (Aw (K:=K) rfl) (pv 0) Af (fun _ _=>rfl)) Ab))))))),?_⟩
  obtain ⟨⟨dx,fs,bl,bn,kp,kr,bvs,pvs,uvs,kvs,h1,l1,l2,l3,l4,lm,h2,h3,h4,h5,h6,h7,h8,h9⟩,ob5,osz,onk⟩:=id O
  have hS:Cu K H kr uvs:=.inl (.inl h8)
  have hul:=h9.length
  refine ⟨_,rfl,x,C,dx,_,_,rfl,h1,T.cl,T.n_knob_rows,l4,kr,rfl,⟨_,hS⟩,Jt (K:=K) (xs:=uvs) (fun _=>true) (fun v=>[.str (Ky H v).w,.str (Ky H v).nm]) hS (BK (by omega)) (fun y hy H' hs R k=>k H' (Ak.refl H')) (fun y hy _ H' hs R k=>?_) (fun D H' ys hD hs hl hv=>?_)⟩
  ·obtain ⟨r,_,hr0⟩:=DK h9 hy
   have e:=M5 hr0
   rw [e] at k
   obtain ⟨T0,rfl,hT⟩:=hr0.mono hs
   exact ⟨_,rfl,T0,_,_,_,rfl,rfl,.inl (.inl hT),Aj (j:=0) rfl,_,rfl,T0,_,_,_,rfl,rfl,.inl (.inl hT),Aj (j:=1) rfl,by show 2<=sizeLine; decide,fun T6 hT6=>k _ _ (BL hT6) ⟨T6,rfl,Ai⟩⟩
  ·rw [List.filter_eq_self.mpr (fun _ _=>rfl)] at hv
   have h:=Bu (F:=fun (r:R) y=>TupAt H' [.str r.w,.str r.nm] y) (Ky H) hv
   rw [Ol h9] at h
   exact q D ys H' hD hs hl h
noncomputable def Va (C:Addr):Sp:=fun vs H Q _=>∃ (x:Addr) (bs:List (Str × Nat)) (ks:List R) (wd:Str) (D:Nat),vs=[.ref x,.int (D:Nat),.str wd]/\DN C H x bs ks/\∀ L (cl:List Nat) H',H L=none->Ak H H'->H' L=some (.lst (nV cl))->(∀ k,k∈cl ↔ ∃ r,ks[k]? = some r/\r.w=wd/\D.testBit k=true)->cl.length<=200->Q (.ref L) H'
theorem ao:An ["organ","knobs","word","words"] ["organ","knobs","word"] (Ac ZL):=Be
include N T in
theorem Qs:Ao P w K mg base BR 2 aD.fDc aD.dDc ["organ","knobs","word"] (Va C):=by
 have GOz:Ao P w K mg base BR 1 aD.fOz aD.dOz ["self"] (dR C):=dj N T
 have GHa:Ao P w K mg base BR 1 aD.fHa aD.dHa ["some","number"] Vb:=Tp N T
 refine N.FDc.1.ok ao (fun vs H Q E h=>?_) (fun cdv A outer s H vs Q E hr h=>?_)
 ·obtain ⟨x,bs,ks,wd,D,rfl,_⟩:=h
  rfl
 ·obtain ⟨x,bs,ks,wd,D,rfl,O,q⟩:=h
  have hrOz:A_ 1 _:=hr.mono (by decide)
  have hrHa:A_ 1 _:=hr.mono (by decide)
  refine ⟨_,(Ag (Oi (i:=3) ao.nd rfl rfl rfl (BP (osc:=Ac ZL) (N:=["organ","knobs","word","words"]) rfl rfl (by decide +kernel)) (Bp (Bv (pv 0) T.cl N.FOz.2.2 GOz hrOz N.FOz.2.1 .nil Av)) (fun _ _ _ _=>CK) (fun _ _ _ _=>(Ay (Aw (K:=K) rfl) (pv 0) Af (fun _ _=>rfl))))
   (Ae (Ax (K1 rfl (HB (osc:=Ac ZL) (N:=["organ","knobs","word","words"]) rfl rfl (by decide +kernel)) (JG rfl T.enumerate (Aa (pv 3) Ab)) (fun _ _ _ _=>Im (PW.pt (Mt (Ba Df (pv 1) (pv 4) (BZ _)) (K3 (Ce (Al GHa hrHa rfl N.FHa.2.2 N.FHa.1.kp N.FHa.2.1 .nil Av (Aa (pv 3) (Aa (pv 0) Ab)))))))) (fun _ _ _ _=>(pv 0)))))),?_⟩
  obtain ⟨⟨dx,fs,bl,bn,kp,kr,bvs,pvs,uvs,kvs,h1,l1,l2,l3,l4,lm,h2,h3,h4,h5,h6,h7,h8,h9⟩,ob5,osz,onk⟩:=id O
  refine ⟨_,rfl,x,dx,fs,rfl,h1,lm _ (by decide +kernel),x,_,_,rfl,O,fun D1 ys H1 hD1 s1 hl1 hv1=>?_⟩
  have hS1:Cu K H1 D1 ys:=.inl (.inl hl1)
  have hyl:=hv1.length
  refine ⟨D1,rfl,⟨_,hS1⟩,Cg (K:=K) (xs:=ys) (fun _=>true) (Ql H1 0) hS1 (BK (by omega)) (fun y hy H' hs R k=>k H' (Ak.refl H')) (fun y hy _ H' hs R k=>?_) (fun D2 H2 hD2 s2 hl2=>?_)⟩
  ·obtain ⟨r,_,hr0⟩:=DK hv1 hy
   have e:=HS hr0 0
   obtain ⟨T0,rfl,hT⟩:=hr0.mono hs
   have kk:=k H' (Ak.refl H')
   rw [e] at kk
   exact ⟨_,rfl,T0,_,_,_,rfl,rfl,.inl (.inl hT),Aj (j:=0) rfl,kk⟩
  rw [List.filter_eq_self.mpr (fun _ _=>rfl),JB 0 hv1] at hl2
  have e2:(ks.map fun r=>([V.str r.w,V.str r.nm]:List V).getD 0 .non)=ks.map fun r=>V.str r.w:=rfl
  rw [e2] at hl2
  have hS2:Cu K H2 D2 (ks.map fun r=>V.str r.w):=.inl (.inl hl2)
  refine ⟨_,rfl,D2,rfl,⟨_,hS2⟩,Pu (K:=K) (xs:=ks.map fun r=>V.str r.w) (fun i v=>decide (v=.str wd) && D.testBit i) (fun i _=>.int (i:Nat)) hS2 (BK (by rw [List.length_map]; omega)) (fun i v hv H' hs R k=>?_) (fun i v hv _ H' hs R k=>⟨_,rfl,k H' (Ak.refl H')⟩) (fun D3 H3 hD3 s3 hl3=>?_)⟩
  ·rw [List.getElem?_map] at hv
   obtain ⟨z,hz,rfl⟩:=Option.map_eq_some_iff.mp hv
   have kk:=k H' (Ak.refl H')
   refine ⟨_,rfl,_,rfl,rfl,_,rfl,?_⟩
   refine CN (fun g=>?_) (fun g=>?_)
   ·rw [g,Bool.true_and] at kk
    refine ⟨_,rfl,_,rfl,D,_,rfl,_,rfl,?_⟩
    rw [decide_eq_true (by omega:(0:Int)<=(i:Nat)),Bool.true_and,Int.toNat_natCast]
    exact kk
   ·rw [(Bool.not_eq_true _).mp g,Bool.false_and] at kk
    exact kk
  ·refine q D3 (((ks.map fun r=>V.str r.w).zipIdx.filter fun p=>decide (p.1=V.str wd) && D.testBit p.2).map (·.2)) H3 ((s1.trans s2).free hD3) ((s1.trans s2).trans s3) ?_ (fun k=>?_) ?_
   ·rw [hl3]
    refine congrArg (fun l=>some (HO.lst l)) ?_
    unfold nV
    rw [List.map_map]
    rfl
   ·constructor
    ·intro hk
     obtain ⟨⟨v,k'⟩,hm,rfl⟩:=List.mem_map.mp hk
     obtain ⟨h1,h2⟩:=List.mem_filter.mp hm
     have h3:=List.mem_zipIdx' h1
     rw [List.getElem_map] at h3
     obtain ⟨hlt,h3⟩:=h3
     rw [Bool.and_eq_true] at h2
     have hlt':k'<ks.length:=by simpa using hlt
     refine ⟨ks[k'],List.getElem?_eq_getElem hlt',?_,h2.2⟩
     have:=h2.1
     rw [h3] at this
     exact V.str.inj (of_decide_eq_true this)
    ·rintro ⟨z,hz,hc,hd⟩
     refine List.mem_map.mpr ⟨(V.str z.w,k),List.mem_filter.mpr ⟨?_,?_⟩,rfl⟩
     ·rw [List.mem_zipIdx_iff_getElem?,List.getElem?_map,hz]
      rfl
     ·show (decide (V.str z.w=V.str wd) && D.testBit k)=true
      rw [hc,hd,decide_eq_true rfl]
      rfl
   ·rw [List.length_map]
    refine Nat.le_trans (List.length_filter_le _ _) ?_
    rw [List.length_zipIdx,List.length_map]
    omega
noncomputable def Xz (C:Addr):Sp:=fun vs H Q _=>∃ (x:Addr) (bs:List (Str × Nat)) (ks:List R) (n:Nat),vs=[.ref x,.int (n:Nat)]/\DN C H x bs ks/\n<2 ^ 1200/\Q (.int (Wd.mv n 0 (bs.map (·.2)).sum:Nat)) H
theorem Fv {C:Addr} {H:Hp} {x:Addr} {bs:List (Str × Nat)} {ks:List R} (O:DN C H x bs ks):(bs.map (·.2)).sum<=305:=by
 have h:=K6 bs 61 O.sz
 rw [Fz] at h
 have:=O.nb
 have:bs.length * 61<=5 * 61:=Nat.mul_le_mul_right _ this
 omega
theorem jX:An ["organ","held"] ["organ","held"] (Ac g_):=Be
include N T in
theorem Wa:Ao P w K mg base BR 2 aD.fHk aD.dHk ["organ","held"] (Xz C):=by
 have GSh:Ao P w K mg base BR 1 aD.fSh aD.dSh ["some","steps","count"] Ur:=RW N T
 have GOc:Ao P w K mg base BR 1 aD.fOc aD.dOc ["self"] (Wl C):=WN N T
 refine N.FHk.1.ok jX (fun vs H Q E h=>?_) (fun cdv A outer s H vs Q E hr h=>?_)
 ·obtain ⟨x,bs,ks,n,rfl,_⟩:=h
  rfl
 ·obtain ⟨x,bs,ks,n,rfl,O,hn,q⟩:=h
  have hrSh:A_ 1 _:=hr.mono (by decide)
  have hrOc:A_ 1 _:=hr.mono (by decide)
  refine ⟨_,(Ae (Ax (Al GSh hrSh rfl N.FSh.2.2 N.FSh.1.kp N.FSh.2.1 .nil Av (Aa (pv 1) (Aa Af (Aa (Bv (pv 0) T.cl N.FOc.2.2 GOc hrOc N.FOc.2.1 .nil Av) Ab)))))),?_⟩
  obtain ⟨⟨dx,fs,bl,bn,kp,kr,bvs,pvs,uvs,kvs,h1,l1,l2,l3,l4,lm,_⟩,_⟩:=id O
  have h305:=Fv O
  refine ⟨_,rfl,_,rfl,x,dx,fs,rfl,h1,lm _ (by decide +kernel),x,bs,ks,rfl,O,n,0,(FN bs).length,rfl,hn,by decide,by decide,by rw [Fz]; omega,?_⟩
  rw [Fz]
  exact q
theorem Ug {n:Nat} (h:n<=3000):n<sizeLine:=Nat.lt_of_le_of_lt h (by decide)
theorem Sw {i:Nat} {v:V} {σ:St} {H:Hp} {Q:St->Hp->Prop}:Cw i v σ H Q=Q (σ.set i (some v)) H:=rfl
theorem Td {c:TT} {tb u:TS} {D:Ends} {r:VK} {b k:St->Hp->Prop} {σ:St} {H:Hp} (h:Kl c tb { D with nx:=u D } σ H):({ nx:=QD (Kl c tb) u D,rt:=r,bk:=b,ct:=k }:Ends).nx σ H:=h
noncomputable def Wt:Option HO->Nat
 | some (.lst xs)=>xs.length
 | _=>0
noncomputable def Wi:Option HO->Nat
 | some (.dK kvs)=>kvs.length
 | _=>0
noncomputable abbrev kI (j:Nat):Key:=Sum.inl ((j:Nat):Int)
theorem RB {kvs:List (Key × V)} {js:List Nat} (h:kvs.map (·.1)=js.map kI) (j:Nat):(Bx kvs (kI j)).isSome=decide (j∈js):=by
 rw [← Fj]
 rw [Bool.eq_iff_iff,List.any_eq_true,decide_eq_true_eq]
 constructor
 ·rintro ⟨p,hp,e⟩
  have:p.1∈js.map kI:=by rw [← h]; exact List.mem_map_of_mem hp
  obtain ⟨j',hj',e'⟩:=List.mem_map.mp this
  have e2:kI j'=kI j:=e'.trans (of_decide_eq_true e)
  have:((j':Nat):Int)=(j:Nat):=Sum.inl.inj e2
  have:j'=j:=by omega
  subst this
  exact hj'
 ·intro hj
  have:kI j∈kvs.map (·.1):=by rw [h]; exact List.mem_map_of_mem hj
  obtain ⟨p,hp,e⟩:=List.mem_map.mp this
  exact ⟨p,hp,decide_eq_true e⟩
noncomputable def Lh (H:Hp) (bs:List (Str × Nat)) (kbs:List Kb) (D n:Nat) (kvs:List (Key × V)) (js:List Nat):Prop:=∀ (m j:Nat),js[m]? = some j->∃ (k i:Nat) (T:Addr) (z:Kb),Bx kvs (kI j)=some (.ref T)/\H T=some (.tup [V.int (k:Nat),V.int (i:Nat)])/\D.testBit k=true/\kbs[k]? = some z/\gl bs z i=some j/\(n.testBit i=true \/ i∈js.take m)
theorem Lh.ni {H H':Hp} {bs:List (Str × Nat)} {kbs:List Kb} {D n:Nat} {kvs:List (Key × V)} {js:List Nat} (h:Lh H bs kbs D n kvs js) (hs:∀ T xs,H T=some (.tup xs)->H' T=some (.tup xs)):Lh H' bs kbs D n kvs js:=fun m j hm=>by
 refine byC fun w_=>?_;obtain ⟨k,i,T,z,h1,h2,h3⟩:=h m j hm;refine w_ ?_
 exact ⟨k,i,T,z,h1,hs _ _ h2,h3⟩
theorem Lh.mono {H H':Hp} {bs:List (Str × Nat)} {kbs:List Kb} {D n:Nat} {kvs:List (Key × V)} {js:List Nat} (h:Lh H bs kbs D n kvs js) (s:Ak H H'):Lh H' bs kbs D n kvs js:=h.ni fun T xs e=>s _ _ e
theorem Lh.upd {H:Hp} {bs:List (Str × Nat)} {kbs:List Kb} {D n:Nat} {kvs:List (Key × V)} {js:List Nat} {A:Addr} {o u:HO} (h:Lh H bs kbs D n kvs js) (ha:H A=some u) (hu:∀ xs,u ≠ .tup xs):Lh (L2.upd H A o) bs kbs D n kvs js:=h.ni fun T xs e=>by
 rw [Aq (fun z=>by rw [z,ha] at e; exact hu xs (Option.some.inj e))]
 exact e
theorem Lh.snoc {H:Hp} {bs:List (Str × Nat)} {kbs:List Kb} {D n:Nat} {kvs:List (Key × V)} {js:List Nat} {k i0 j:Nat} {T:Addr} {z:Kb} (h:Lh H bs kbs D n kvs js) (nv:Bx kvs (kI j)=none) (hT:H T=some (.tup [V.int (k:Nat),V.int (i0:Nat)])) (hk:D.testBit k=true) (hz:kbs[k]? = some z) (hg:gl bs z i0=some j) (hi:n.testBit i0=true \/ i0∈js) :
  Lh H bs kbs D n (kvs++[(kI j,.ref T)]) (js++[j]):=fun m j' hm=>by
 by_cases hlt:m<js.length
 ·rw [List.getElem?_append_left hlt] at hm
  refine byC fun w_=>?_;obtain ⟨k',i',T',z',h1,h2,h3,h4,h5,h6⟩:=h m j' hm;refine w_ ?_
  refine ⟨k',i',T',z',?_,h2,h3,h4,h5,?_⟩
  ·rw [Gq _ _ _ _ nv]
   by_cases e:kI j'=kI j
   ·rw [e,nv] at h1
    cases h1
   ·rw [if_neg e]
    exact h1
  ·rw [List.take_append_of_le_length (Nat.le_of_lt hlt)]
   exact h6
 ·have hm':=(List.getElem?_eq_some_iff.mp hm).1
  rw [List.length_append,List.length_singleton] at hm'
  have em:m=js.length:=by omega
  subst em
  rw [List.getElem?_append_right (Nat.le_refl _),Nat.sub_self] at hm
  have ej:j=j':=by simpa using hm
  subst ej
  refine ⟨k,i0,T,z,?_,hT,hk,hz,hg,?_⟩
  ·rw [Gq _ _ _ _ nv,if_pos rfl]
  ·rw [List.take_append_of_le_length (Nat.le_refl _),List.take_length]
   exact hi
noncomputable def Zx (C:Addr):Sp:=fun vs H Q _=>∃ (x:Addr) (c:Nat->Str) (sz:List Nat) (kbs:List Kb) (D n:Nat),vs=[.ref x,.int (D:Nat),.int (n:Nat)]/\DN C H x (BW c sz) (CZ c kbs)/\T9 sz.length kbs/\n<2 ^ 1200/\(∀ i,n.testBit i=true->i<sz.sum) /\
 ∀ W (kvs:List (Key × V)) (js:List Nat) H',H W=none->Ak H H'->H' W=some (.dK kvs)->kvs.map (·.1)=js.map kI->js.Nodup->Lh H' (BW c sz) kbs D n kvs js->(∀ j,j∈js ↔ Lj (stp (BW c sz) kbs D) (fun i=>n.testBit i=true) j)->Q (.ref W) H'
theorem NP:An ["organ","knobs","held","couplers","ways","left","ahead","knob","key"] ["organ","knobs","held"] (Ac lC):=Be
include N T in
theorem aW:Ao P w K mg base BR 4 aD.fWa aD.dWa ["organ","knobs","held"] (Zx C):=by
 have GDc:Ao P w K mg base BR 2 aD.fDc aD.dDc ["organ","knobs","word"] (Va C):=Qs N T
 have GMe:Ao P w K mg base BR 2 aD.fMe aD.dMe ["some"] VJ:=RX N T
 have GLe:Ao P w K mg base BR 3 aD.fLe aD.dLe ["organ","knob","key"] (cT C):=ZC N T
 have GHa:Ao P w K mg base BR 1 aD.fHa aD.dHa ["some","number"] Vb:=Tp N T
 refine N.FWa.1.ok NP (fun vs H Q E h=>?_) (fun cdv A outer s H vs Q E hr h=>?_)
 ·refine byC fun w_=>?_;obtain ⟨x,c,sz,kbs,D,n,rfl,_⟩:=h;refine w_ ?_
  rfl
 ·refine byC fun w_=>?_;obtain ⟨x,c,sz,kbs,D,n,rfl,O,hkb,hn,hnt,q⟩:=h;refine w_ ?_
  have hrDc:A_ 2 _:=hr.mono (by decide)
  have hrMe:A_ 2 _:=hr.mono (by decide)
  have hrLe:A_ 3 _:=hr.mono (by decide)
  have hrHa:A_ 1 _:=hr.mono (by decide)
  have hu:=DR hr
  refine ⟨_,(Ag (BX (i:=3) NP.nd rfl (Or.inl rfl) (Al GDc hrDc rfl N.FDc.2.2 N.FDc.1.kp N.FDc.2.1 .nil Av (Aa (pv 0) (Aa (pv 1) (Aa Bf Ab)))))
   (Ag (BX (i:=4) NP.nd rfl (Or.inl rfl) Ht)
   (Ag (BX (i:=5) NP.nd rfl (Or.inl rfl) (Al GMe hrMe rfl N.FMe.2.2 N.FMe.1.kp N.FMe.2.1 .nil Av (Aa (pv 2) Ab)))
   (Ag (RZ PassesOwn.never (Jx (pv 5) (fun _=>rfl)) (Ag (BX (i:=6) NP.nd rfl (Or.inl rfl) (KD PySem.F.plainAttrs_list PySem.F.slot_list_pop PySem.F.type_list_pop Sd (pv 5) (Aa Af Ab)))
   (Ae (Es PassesOwn.never rfl (Bp (pv 3)) (CW (i:=7) NP.nd rfl (Or.inl rfl)) (Ag (BX (i:=8) NP.nd rfl (Or.inl rfl) (Al GLe hrLe rfl N.FLe.2.2 N.FLe.1.kp N.FLe.2.1 .nil Av (Aa (pv 0) (Aa (pv 7) (Aa (pv 6) Ab)))))
   (Ae (By (PW.pt (Mt (Ba Vt (pv 8) Hv (BZ _)) (K3 (Sv (Pb hu (pv 8) (pv 4)))))) (Ag (JK hu (pv 4) (pv 8) (DY (Aa (pv 7) (Aa (pv 6) Ab))) rfl)
   (Ae (By (CT (Ce (Al GHa hrHa rfl N.FHa.2.2 N.FHa.1.kp N.FHa.2.1 .nil Av (Aa (pv 2) (Aa (pv 8) Ab))))) (Ae (Ei (KD PySem.F.plainAttrs_list PySem.F.slot_list_append PySem.F.type_list_append El (pv 5) (Aa (pv 8) Ab)))) Bb))) Bb)))))))
   (Ae (Ax (pv 4))))))),?_⟩
  have hsum:((BW c sz).map (·.2)).sum=sz.sum:=by rw [DW]
  generalize hst:stp (BW c sz) kbs D=st
  have hR:∀ {j},Lj st (fun i=>n.testBit i=true) j->j<sz.sum:=fun {j} r=>by
   rw [← hst] at r
   have:=r.lt
   rw [hsum] at this
   exact this
  refine ⟨_,rfl,_,rfl,x,BW c sz,CZ c kbs,"coupler",D,rfl,O,fun CL cl H1 hCL s1 hl1 hcl0 hcll=>?_⟩
  have hcl:∀ k,k∈cl ↔ ∃ z,kbs[k]? = some z/\Wc z=true/\D.testBit k=true:=fun k=>by
   rw [hcl0]
   constructor
   ·rintro ⟨r,hr,hw,hd⟩
    obtain ⟨z,hz,rfl⟩:=Fe hr
    rw [Ig] at hw
    exact ⟨z,hz,decide_eq_true (congrArg V.str hw),hd⟩
   ·rintro ⟨z,hz,hc,hd⟩
    exact ⟨_,Fp hz,(Ig _ _ _).trans (V.str.inj (of_decide_eq_true hc)),hd⟩
  intro W hW
  obtain ⟨H2,eqH,t2,u2⟩:=Hj (o:=HO.dK []) hW
  rw [eqH]
  refine ⟨_,rfl,n,rfl,hn,fun L H3 hL s3 hl3=>?_⟩
  have s13:=t2.trans s3
  have s03:=s1.trans s13
  have hW0:H W=none:=s1.free hW
  have hL0:H L=none:=(s1.trans t2).free hL
  have hWL:W ≠ L:=fun z=>by rw [← z,s3 _ _ u2] at hl3; cases hl3
  have c3:=s13 _ _ hl1
  have hS3:Cu K H3 CL (nV cl):=.inl (.inl c3)
  have hCW:CL ≠ W:=fun z=>by rw [z,s3 _ _ u2] at c3; cases c3
  have hCL':CL ≠ L:=fun z=>by rw [z] at hl1; rw [t2 _ _ hl1] at hL; cases hL
  show Cw 5 _ _ _ _
  rw [Sw]
  refine Td ?_
  refine Rk (fun σ H4=>Ak H H4/\H4 CL=some (.lst (nV cl))/\∃ (kvs:List (Key × V)) (js ls:List Nat),H4 W=some (.dK kvs)/\H4 L=some (.lst (nV ls))/\kvs.map (·.1)=js.map kI/\js.Nodup/\Lh H4 (BW c sz) kbs D n kvs js/\(∀ j∈js,Lj st (fun i=>n.testBit i=true) j)/\(∀ i∈ls,n.testBit i=true \/ i∈js)/\(∀ i,(n.testBit i=true \/ i∈js)->i∈ls \/ ∀ j,st i j->j∈js)/\ls.length+(sz.sum - js.length)<=1600/\∃ v6 v7 v8,σ=[some (.ref x),some (.int (D:Nat)),some (.int (n:Nat)),some (.ref CL),some (.ref W),some (.ref L),v6,v7,v8])
   (fun _ H4=>Wt (H4 L)+(sz.sum - Wi (H4 W))) ⟨s03,c3,[],[],Wd.mem n,s3 _ _ u2,hl3,rfl,List.nodup_nil,(fun m j hm=>by simp at hm),(fun j hj=>nomatch hj),(fun i hi=>.inl (Wd.mem_iff.mp hi)),(fun i hi=>.inl (Wd.mem_iff.mpr (hi.resolve_right (by simp)))),?_,_,_,_,rfl⟩ ?_ ?_
  ·have:=Wd.K8 hn
   have:(Wd.mem n).length<=Wd.len n:=by unfold Wd.mem; exact Nat.le_trans (List.length_filter_le _ _) (by simp)
   have h305:=Fv O
   rw [hsum] at h305
   simp
   omega
  ·rintro σ H4 ⟨s4,c4,kvs,js,ls,hw,hl,hkv,nd,hpar,hj,hls,hcl4,hbig,v6,v7,v8,rfl⟩
   refine ⟨_,rfl,_,.inl ⟨_,.inl (.inl hl),rfl⟩,?_⟩
   have hjl:js.length<=sz.sum:=Ek sz.sum nd fun j h=>hR (hj j h)
   have hkl:kvs.length=js.length:=by have:=congrArg List.length hkv; simpa using this
   cases ls with
   | nil =>
    refine Cv ?_
    refine ⟨_,rfl,q W kvs js H4 hW0 s4 hw hkv nd hpar fun j=>?_⟩
    rw [hst]
    exact Lj.all (W:=fun j=>j∈js) hj (fun i hi=>(hcl4 i hi).resolve_left (by simp)) j
   | cons i0 ls =>
    refine EY ?_
    refine ⟨_,rfl,.inl ⟨rfl,_,.inl (.inl hl)⟩,L,_,0,0,.int (i0:Nat),rfl,rfl,hl,by decide,by decide,seqIndex_of (by decide) (by simp),rfl,?_⟩
    have w5:upd H4 L (.lst ((nV (i0::ls)).eraseIdx 0)) W=some (.dK kvs):=by rw [Aq hWL]; exact hw
    have l5:upd H4 L (.lst ((nV (i0::ls)).eraseIdx 0)) L=some (.lst (nV ls)):=Ai
    have c5:upd H4 L (.lst ((nV (i0::ls)).eraseIdx 0)) CL=some (.lst (nV cl)):=by rw [Aq hCL']; exact c4
    have s5:Ak H (upd H4 L (.lst ((nV (i0::ls)).eraseIdx 0))):=fun b o e=>by rw [Aq (Am e hL0)]; exact s4 _ _ e
    have em:Wt (H4 L)+(sz.sum - Wi (H4 W))=ls.length+1+(sz.sum - js.length):=by
     rw [hl,hw]
     show (nV (i0::ls)).length+(sz.sum - kvs.length)=_
     rw [hkl]
     simp
    rw [em]
    have par5:Lh (upd H4 L (.lst ((nV (i0::ls)).eraseIdx 0))) (BW c sz) kbs D n kvs js:=hpar.upd hl (fun xs z=>by cases z)
    generalize upd H4 L (.lst ((nV (i0::ls)).eraseIdx 0))=H5 at w5 l5 c5 s5 par5 ⊢
    have hi0:i0<sz.sum:=by
     rcases hls i0 (List.mem_cons_self ..) with h | h
     ·exact hnt i0 h
     ·exact hR (hj i0 h)
    have hi0R:∀ j,st i0 j->Lj st (fun i=>n.testBit i=true) j:=fun j h=>by
     rcases hls i0 (List.mem_cons_self ..) with g | g
     ·exact .one g h
     ·exact .more (hj i0 g) h
    obtain ⟨qd,hq⟩:∃ qd,(FN (BW c sz))[i0]? = some qd:=⟨_,List.getElem?_eq_getElem (by rw [Fz,hsum]; exact hi0)⟩
    have M:ls.length+(sz.sum - js.length)<ls.length+1+(sz.sum - js.length):=by omega
    refine ⟨_,rfl,CL,rfl,⟨_,.inl (.inl c5)⟩,Gg (K:=K) (a:=CL) (xs:=nV cl) (fun m σ H6=>Ak H H6/\H6 CL=some (.lst (nV cl))/\∃ (kvs6:List (Key × V)) (js6 ls6:List Nat),H6 W=some (.dK kvs6)/\H6 L=some (.lst (nV ls6))/\kvs6.map (·.1)=js6.map kI/\js6.Nodup/\Lh H6 (BW c sz) kbs D n kvs6 js6/\(∀ j∈js6,Lj st (fun i=>n.testBit i=true) j)/\(∀ i∈ls6,n.testBit i=true \/ i∈js6)/\(∀ i,(n.testBit i=true \/ i∈js6)->i=i0 \/ i∈ls6 \/ ∀ j,st i j->j∈js6)/\(∀ k∈cl.take m,∀ z j,kbs[k]? = some z->gl (BW c sz) z i0=some j->j∈js6)/\(n.testBit i0=true \/ i0∈js6)/\ls6.length+(sz.sum - js6.length)<=ls.length+(sz.sum - js.length)/\∃ v7 v8,σ=[some (.ref x),some (.int (D:Nat)),some (.int (n:Nat)),some (.ref CL),some (.ref W),some (.ref L),some (.int (i0:Nat)),v7,v8])
     ⟨s5,c5,kvs,js,ls,w5,l5,hkv,nd,par5,hj,(fun i hi=>hls i (List.mem_cons_of_mem _ hi)),(fun i hi=>?_),(fun k hk=>by simp at hk),hls i0 (List.mem_cons_self ..),Nat.le_refl _,_,_,rfl⟩ (fun m σ H6 _ h=>.inl (.inl h.2.1)) ?_ ?_⟩
    ·rcases hcl4 i hi with h | h
     ·rcases List.mem_cons.mp h with rfl | h
      ·exact .inl rfl
      ·exact .inr (.inl h)
     ·exact .inr (.inr h)
    ·rintro m y σ H6 hm ⟨s6,c6,kvs6,js6,ls6,w6,l6,kv6,nd6,par6,hj6,hls6,hcl6,hdone,hi06,hmeas,v7,v8,rfl⟩
     rw [List.getElem?_map] at hm
     obtain ⟨k,hk,rfl⟩:=Option.map_eq_some_iff.mp hm
     obtain ⟨z,hz,hzc,hzd⟩:=(hcl k).mp (List.mem_of_getElem? hk)
     have zok:=hkb.ok z (List.mem_of_getElem? hz)
     obtain ⟨j1,j2,s0,rfl⟩:=Uk zok hzc
     obtain ⟨hj1,hj2,_,_⟩:=zok
     have hbj1:(BW c sz)[j1]? = some (c j1,sz[j1]):=Dn (List.getElem?_eq_getElem hj1)
     have hbj2:(BW c sz)[j2]? = some (c j2,sz[j2]):=Dn (List.getElem?_eq_getElem hj2)
     have hkrow:(CZ c kbs)[k]? = some ⟨"coupler",c (30+k),[.str (c j1),.str (c j2),.int s0]⟩:=Fp hz
     have hjl6:js6.length<=sz.sum:=Ek sz.sum nd6 fun j h=>hR (hj6 j h)
     have hkl6:kvs6.length=js6.length:=by have:=congrArg List.length kv6; simpa using this
     have h305:=Fv O
     rw [hsum] at h305
     refine ⟨_,rfl,_,rfl,_,rfl,x,BW c sz,CZ c kbs,k,i0,j1,j2,(c j1,sz[j1]),(c j2,sz[j2]),qd,c (30+k),s0,rfl,O.mono s6,hq,hkrow,hbj1,hbj2,fun H7 s7=>?_⟩
     have done':∀ {js':List Nat},(∀ j∈js6,j∈js')->(∀ j,gl (BW c sz) (.cp j1 j2 s0) i0=some j->j∈js')->∀ k'∈cl.take (m+1),∀ z j,kbs[k']? = some z->gl (BW c sz) z i0=some j->j∈js':=fun {js'} hsub hnew k' hk' z' j hz' hg=>by
      rw [List.take_add_one,hk] at hk'
      rcases List.mem_append.mp hk' with h | h
      ·exact hsub j (hdone k' h z' j hz' hg)
      ·have:k'=k:=by simpa using h
       subst this
       rw [hz] at hz'
       cases hz'
       exact hnew j hg
     rcases Te (j1:=j1) (s:=s0) hq hbj2 with ⟨e,eg⟩ | ⟨j,e,eg,hjt⟩
     ·rw [e]
      refine ⟨_,rfl,rfl,_,rfl,Cv (Cv ?_)⟩
      exact ⟨s6.trans s7,s7 _ _ c6,kvs6,js6,ls6,s7 _ _ w6,s7 _ _ l6,kv6,nd6,par6.mono s7,hj6,hls6,hcl6,done' (fun j h=>h) (fun j h=>by rw [eg] at h; cases h),hi06,hmeas,_,_,rfl⟩
     ·rw [e]
      have hstj:st i0 j:=by rw [← hst]; exact ⟨k,_,hzd,hz,eg⟩
      refine ⟨_,rfl,rfl,_,rfl,EY ?_⟩
      refine ⟨_,rfl,_,rfl,W,_,rfl,En.k (k:=kI j) (s7 _ _ w6),_,rfl,?_⟩
      rw [RB kv6 j]
      by_cases hin:j∈js6
      ·rw [decide_eq_true hin]
       refine Cv ?_
       exact ⟨s6.trans s7,s7 _ _ c6,kvs6,js6,ls6,s7 _ _ w6,s7 _ _ l6,kv6,nd6,par6.mono s7,hj6,hls6,hcl6,done' (fun j h=>h) (fun j' h=>by rw [eg] at h; cases h; exact hin),hi06,hmeas,_,_,rfl⟩
      ·rw [decide_eq_false hin]
       refine EY ?_
       have nv:Bx kvs6 (kI j)=none:=by
        have:=RB kv6 j
        rw [decide_eq_false hin] at this
        exact Option.not_isSome_iff_eq_none.mp (by rw [this]; decide)
       have nd7:(js6++[j]).Nodup:=List.nodup_append.mpr ⟨nd6,by simp,fun a ha b hb=>by rw [List.mem_singleton.mp hb]; intro z; exact hin (z ▸ ha)⟩
       have hj7:∀ j'∈js6++[j],Lj st (fun i=>n.testBit i=true) j':=fun j' h=>by
        rcases List.mem_append.mp h with h | h
        ·exact hj6 j' h
        ·rw [List.mem_singleton.mp h]
         exact hi0R j hstj
       have hjl7:(js6++[j]).length<=sz.sum:=Ek sz.sum nd7 fun j h=>hR (hj7 j h)
       rw [List.length_append,List.length_singleton] at hjl7
       refine ⟨_,rfl,_,rfl,by show 2<=sizeLine; decide,fun T8 hT8=>?_⟩
       obtain ⟨H8,eqH,t8,uT8⟩:=Hj (o:=HO.tup [V.int (k:Nat),V.int (i0:Nat)]) hT8
       rw [eqH]
       have w8:=t8 _ _ (s7 _ _ w6)
       refine ⟨_,rfl,_,rfl,W,_,rfl,Lq.k (k:=kI j) w8 (BK (by omega)),?_⟩
       have u9:upd H8 W (.dK (putK kvs6 (kI j) (.ref T8))) W=some (.dK (kvs6++[(kI j,.ref T8)])):=by rw [← TV _ nv]; exact Ai
       have l9:upd H8 W (.dK (putK kvs6 (kI j) (.ref T8))) L=some (.lst (nV ls6)):=by rw [Aq hWL.symm]; exact t8 _ _ (s7 _ _ l6)
       have c9:upd H8 W (.dK (putK kvs6 (kI j) (.ref T8))) CL=some (.lst (nV cl)):=by rw [Aq hCW]; exact t8 _ _ (s7 _ _ c6)
       have s9:Ak H (upd H8 W (.dK (putK kvs6 (kI j) (.ref T8)))):=fun b o e=>by rw [Aq (Am e hW0)]; exact t8 _ _ (s7 _ _ (s6 _ _ e))
       have par9:Lh (upd H8 W (.dK (putK kvs6 (kI j) (.ref T8)))) (BW c sz) kbs D n (kvs6++[(kI j,.ref T8)]) (js6++[j]):=by
        have p8:=((par6.mono s7).mono t8).upd (o:=.dK (putK kvs6 (kI j) (.ref T8))) w8 (fun xs z=>by cases z)
        exact p8.snoc nv (by rw [Aq (fun z=>by rw [z,w8] at uT8; cases uT8)]; exact uT8) hzd hz eg hi06
       generalize upd H8 W (.dK (putK kvs6 (kI j) (.ref T8)))=H9 at u9 l9 c9 s9 par9 ⊢
       have kv9:(kvs6++[(kI j,V.ref T8)]).map (·.1)=(js6++[j]).map kI:=by rw [List.map_append,List.map_append,kv6]; rfl
       refine ⟨_,rfl,_,rfl,n,_,rfl,_,rfl,?_⟩
       have eb:(decide ((0:Int)<=(j:Nat)) && n.testBit ((j:Nat):Int).toNat)=n.testBit j:=by rw [decide_eq_true (by omega),Bool.true_and,Int.toNat_natCast]
       rw [eb]
       cases hb:n.testBit j with
       | true =>
        refine Cv ?_
        refine ⟨s9,c9,_,js6++[j],ls6,u9,l9,kv9,nd7,par9,hj7,(fun i h=>(hls6 i h).imp id (List.mem_append_left _)),(fun i h=>?_),done' (fun j h=>List.mem_append_left _ h) (fun j' h=>by rw [eg] at h; cases h; simp),hi06.imp id (List.mem_append_left _),?_,_,_,rfl⟩
        ·have h':n.testBit i=true \/ i∈js6:=by
          rcases h with h | h
          ·exact .inl h
          ·rcases List.mem_append.mp h with h | h
           ·exact .inr h
           ·rw [List.mem_singleton.mp h]
            exact .inl hb
         rcases hcl6 i h' with g | g | g
         ·exact .inl g
         ·exact .inr (.inl g)
         ·exact .inr (.inr fun j' hj'=>List.mem_append_left _ (g j' hj'))
        ·rw [List.length_append,List.length_singleton]
         omega
       | false =>
        refine EY ?_
        refine ⟨_,rfl,.inl ⟨rfl,_,.inl (.inl l9)⟩,_,rfl,L,_,_,rfl,rfl,l9,Ug (by simp only [List.length_cons] at hbig; rw [List.length_map]; omega),?_⟩
        have l10:upd H9 L (.lst (nV ls6++[V.int (j:Nat)])) L=some (.lst (nV (ls6++[j]))):=by
         have e9:nV (ls6++[j])=nV ls6++[V.int (j:Nat)]:=List.map_append
         rw [e9]
         exact Ai
        have w10:upd H9 L (.lst (nV ls6++[V.int (j:Nat)])) W=some (.dK (kvs6++[(kI j,.ref T8)])):=by rw [Aq hWL]; exact u9
        have c10:upd H9 L (.lst (nV ls6++[V.int (j:Nat)])) CL=some (.lst (nV cl)):=by rw [Aq hCL']; exact c9
        have s10:Ak H (upd H9 L (.lst (nV ls6++[V.int (j:Nat)]))):=fun b o e=>by rw [Aq (Am e hL0)]; exact s9 _ _ e
        refine ⟨s10,c10,_,js6++[j],ls6++[j],w10,l10,kv9,nd7,par9.upd l9 (fun xs z=>by cases z),hj7,(fun i h=>?_),(fun i h=>?_),done' (fun j h=>List.mem_append_left _ h) (fun j' h=>by rw [eg] at h; cases h; simp),hi06.imp id (List.mem_append_left _),?_,_,_,rfl⟩
        ·rcases List.mem_append.mp h with h | h
         ·exact (hls6 i h).imp id (List.mem_append_left _)
         ·exact .inr (List.mem_append_right _ h)
        ·have h':(n.testBit i=true \/ i∈js6) \/ i=j:=by
          rcases h with h | h
          ·exact .inl (.inl h)
          ·rcases List.mem_append.mp h with h | h
           ·exact .inl (.inr h)
           ·exact .inr (List.mem_singleton.mp h)
         rcases h' with h' | rfl
         ·rcases hcl6 i h' with g | g | g
          ·exact .inl g
          ·exact .inr (.inl (List.mem_append_left _ g))
          ·exact .inr (.inr fun j' hj'=>List.mem_append_left _ (g j' hj'))
         ·exact .inr (.inl (by simp))
        ·rw [List.length_append,List.length_append,List.length_singleton]
         omega
    ·rintro σ H6 ⟨s6,c6,kvs6,js6,ls6,w6,l6,kv6,nd6,par6,hj6,hls6,hcl6,hdone,hi06,hmeas,v7,v8,rfl⟩
     have hkl6:kvs6.length=js6.length:=by have:=congrArg List.length kv6; simpa using this
     refine ⟨⟨s6,c6,kvs6,js6,ls6,w6,l6,kv6,nd6,par6,hj6,hls6,(fun i hi=>?_),by simp only [List.length_cons] at hbig; omega,_,_,_,rfl⟩,?_⟩
     ·rcases hcl6 i hi with rfl | g | g
      ·refine .inr fun j hij=>?_
       rw [← hst] at hij
       refine byC fun w_=>?_;obtain ⟨k,z,hkd,hkz,hg⟩:=hij;refine w_ ?_
       refine hdone k ?_ z j hkz hg
       rw [List.take_of_length_le (by simp)]
       exact (hcl k).mpr ⟨z,hkz,Z0 hg,hkd⟩
      ·exact .inl g
      ·exact .inr g
     ·show Wt (H6 L)+(sz.sum - Wi (H6 W))<_
      rw [l6,w6]
      show (nV ls6).length+(sz.sum - kvs6.length)<_
      rw [List.length_map,hkl6]
      omega
  ·rintro σ H' Q1 Q2 hm ⟨v,hv,k,hk,h⟩
   exact ⟨v,hv,k,hk,hm _ _ h⟩
noncomputable def Zm (C:Addr):Sp:=fun vs H Q _=>∃ (x:Addr) (c:Nat->Str) (sz:List Nat) (kbs:List Kb) (D n:Nat),vs=[.ref x,.int (D:Nat),.int (n:Nat)]/\DN C H x (BW c sz) (CZ c kbs)/\T9 sz.length kbs/\n<2 ^ 1200/\(∀ i,n.testBit i=true->i<sz.sum) /\
 ∀ (m:Nat) H',Ak H H'->(∀ j,m.testBit j=true ↔ Lj (stp (BW c sz) kbs D) (fun i=>n.testBit i=true) j)->Q (.int (m:Nat)) H'
theorem Oc {n T:Nat} (h:∀ i,n.testBit i=true->i<T):Wd.mv n 0 T=n:=by
 refine Vi fun i=>?_
 rw [Wd.Wb]
 simp
 intro hi
 exact h i hi
theorem lR:An ["organ","knobs","held"] ["organ","knobs","held"] (Ac gf):=Be
include N T in
theorem ZS:Ao P w K mg base BR 5 aD.fCq aD.dCq ["organ","knobs","held"] (Zm C):=by
 have GSt:Ao P w K mg base BR 3 aD.fSt aD.dSt ["numbers"] RG:=Oo N T
 have GWa:Ao P w K mg base BR 4 aD.fWa aD.dWa ["organ","knobs","held"] (Zx C):=aW N T
 have GHk:Ao P w K mg base BR 2 aD.fHk aD.dHk ["organ","held"] (Xz C):=Wa N T
 refine N.FCq.1.ok lR (fun vs H Q E h=>?_) (fun cdv A outer s H vs Q E hr h=>?_)
 ·refine byC fun w_=>?_;obtain ⟨x,c,sz,kbs,D,n,rfl,_⟩:=h;refine w_ ?_
  rfl
 ·refine byC fun w_=>?_;obtain ⟨x,c,sz,kbs,D,n,rfl,O,hkb,hn,hnt,q⟩:=h;refine w_ ?_
  have hrSt:A_ 3 _:=hr.mono (by decide)
  have hrWa:A_ 4 _:=hr.mono (by decide)
  have hrHk:A_ 2 _:=hr.mono (by decide)
  refine ⟨_,(Ae (Ax (Al GSt hrSt rfl N.FSt.2.2 N.FSt.1.kp N.FSt.2.1 .nil Av (Aa (De (Jy rfl) rfl T.list PyProof.Rows.boot_list (Aa (Al GWa hrWa rfl N.FWa.2.2 N.FWa.1.kp N.FWa.2.1 .nil Av (Aa (pv 0) (Aa (pv 1) (Aa (Al GHk hrHk rfl N.FHk.2.2 N.FHk.1.kp N.FHk.2.1 .nil Av (Aa (pv 0) (Aa (pv 2) Ab))) Ab)))) Ab)) Ab)))),?_⟩
  have hsum:((BW c sz).map (·.2)).sum=sz.sum:=by rw [DW]
  have h305:=Fv O
  rw [hsum] at h305
  refine ⟨_,rfl,_,rfl,_,rfl,_,rfl,x,BW c sz,CZ c kbs,n,rfl,O,hn,?_⟩
  rw [hsum,Oc hnt]
  refine ⟨x,c,sz,kbs,D,n,rfl,O,hkb,hn,hnt,fun W kvs js H1 hW s1 hw hkv nd _ hj=>?_⟩
  have hlt:∀ j∈js,j<sz.sum:=fun j h=>by
   have:=((hj j).mp h).lt
   rw [hsum] at this
   exact this
  have hjl:=Ek sz.sum nd hlt
  have hkv':kvs.map (·.1)=(js.map fun j:Nat=>(j:Int)).map Sum.inl:=by rw [hkv,List.map_map]; rfl
  refine ⟨W,kvs,_,rfl,hw,hkv',fun l hl=>?_⟩
  have ev:(js.map fun j:Nat=>(j:Int)).map V.int=nV js:=by rw [List.map_map]; rfl
  rw [ev]
  refine ⟨l,js,rfl,Ai,by omega,fun j h=>by have:=hlt j h; omega,fun H2 s2=>?_⟩
  refine q (Wd.mk js) H2 ((s1.trans (BL hl)).trans s2) fun j=>?_
  rw [Wd.HD,decide_eq_true_eq]
  exact hj j
theorem J1 {X:Cx} {K:PySem.W.Frag} (h:X.K=K):GF X (compareOp .NotIn) (fH K true):=h ▸ Ku
theorem R7 (l:List Nat):(nV l).all GC=true:=List.all_eq_true.mpr fun v hv=>by
 obtain ⟨n,_,rfl⟩:=List.mem_map.mp hv
 rfl
theorem Uo (j:Nat) (js:List Nat):inV (.int (j:Nat)) (nV js)=decide (j∈js):=by
 rw [Bool.eq_iff_iff,decide_eq_true_eq]
 unfold inV
 rw [List.any_eq_true]
 constructor
 ·rintro ⟨y,hy,e⟩
  obtain ⟨n,hn,rfl⟩:=List.mem_map.mp hy
  have e':(((n:Nat):Int) == ((j:Nat):Int))=true:=e
  have e2:((n:Nat):Int)=(j:Nat):=eq_of_beq e'
  have:n=j:=by omega
  subst this
  exact hn
 ·intro h
  exact ⟨_,List.mem_map_of_mem h,by show (((j:Nat):Int) == ((j:Nat):Int))=true; exact beq_self_eq_true _⟩
theorem jU:An ["self","knob"] ["self","knob"] (Ac jM):=Be
include N T in
theorem Z6:Ao P w K mg base BR 2 aD.fOm aD.dOm ["self","knob"] (Pn C):=by
 have GBk:Ao P w K mg base BR 1 aD.fBk aD.dBk ["self","knob"] (Pn C):=Qq N T
 refine N.FOm.1.ok jU (fun vs H Q E h=>?_) (fun cdv A outer s H vs Q E hr h=>?_)
 ·refine byC fun w_=>?_;obtain ⟨x,bs,ks,k,j1,b1,wd,nm,rs,rfl,_⟩:=h;refine w_ ?_
  rfl
 ·refine byC fun w_=>?_;obtain ⟨x,bs,ks,k,j1,b1,wd,nm,rs,rfl,O,hk,hb1,q⟩:=h;refine w_ ?_
  have hrBk:A_ 1 _:=hr.mono (by decide)
  refine ⟨_,(Ae (Ax (CV (pv 0) T.cl N.FBk.2.2 GBk hrBk N.FBk.2.1 .nil Av (Aa (pv 1) Ab)))),?_⟩
  refine byC fun w_=>?_;obtain ⟨⟨dx,fs,bl,bn,kp,kr,bvs,pvs,uvs,kvs,h1,l1,l2,l3,l4,lm,h2,h3,h4,h5,h6,h7,h8,h9⟩,ob5,osz,onk⟩:=id O;refine w_ ?_
  exact ⟨_,rfl,x,dx,fs,rfl,h1,lm _ (by decide +kernel),_,rfl,x,bs,ks,k,j1,b1,wd,nm,rs,rfl,O,hk,hb1,q⟩
noncomputable def cQ (C:Addr):Sp:=fun vs H Q _=>∃ (x:Addr) (bs:List (Str × Nat)) (rk:List (Str × Nat × Int)) (ks:List R) (ls:List (List Ln)) (k j1:Nat) (b1:Str × Nat) (wd nm:Str) (rs:List V) (l:List Ln),vs=[.ref x,.int (k:Nat)]/\Do C H x bs rk ks ls/\ks[k]? = some ⟨wd,nm,.str b1.1::rs⟩/\bs[j1]? = some b1/\ls[k]? = some l /\
 ∀ (T0 L0:Addr) (ts:List V) H',H L0=none->Ak H H'->H' T0=some (.tup [.int (j1:Nat),.ref L0])->H' L0=some (.lst ts)->Paired (fun x y=>TupAt H' (YW x) y) l ts->Q (.ref T0) H'
theorem iI:An ["self","knob"] ["self","knob"] (Ac lG):=Be
include N T in
theorem Zq:Ao P w K mg base BR 2 aD.fOs aD.dOs ["self","knob"] (cQ C):=by
 have GBk:Ao P w K mg base BR 1 aD.fBk aD.dBk ["self","knob"] (Pn C):=Qq N T
 refine N.FOs.1.ok iI (fun vs H Q E h=>?_) (fun cdv A outer s H vs Q E hr h=>?_)
 ·refine byC fun w_=>?_;obtain ⟨x,bs,rk,ks,ls,k,j1,b1,wd,nm,rs,l,rfl,_⟩:=h;refine w_ ?_
  rfl
 ·refine byC fun w_=>?_;obtain ⟨x,bs,rk,ks,ls,k,j1,b1,wd,nm,rs,l,rfl,O,hk,hb1,hl,q⟩:=h;refine w_ ?_
  have hrBk:A_ 1 _:=hr.mono (by decide)
  refine ⟨_,(Ae (Ax (DY (Aa (CV (pv 0) T.cl N.FBk.2.2 GBk hrBk N.FBk.2.1 .nil Av (Aa (pv 1) Ab)) (Aa (De Dh rfl T.list PyProof.Rows.boot_list (Aa (Ay (Em (K:=K) rfl) (Bg (pv 0) rfl) (pv 1) (fun _ _=>rfl)) Ab)) Ab))))),?_⟩
  refine byC fun w_=>?_;obtain ⟨⟨dx,fs,bl,bn,kp,kr,bvs,pvs,uvs,kvs,h1,l1,l2,l3,l4,lm,h2,h3,h4,h5,h6,h7,h8,h9⟩,ob5,osz,onk⟩:=id O.o;refine w_ ?_
  refine byC fun w_=>?_;obtain ⟨dx',fs',rl,rn,pp,kl,rvs,qvs,kvs',g1,m1,m2,m3,m4,g2,g3,g4,g5,g6,g7,lv,g8,g9⟩:=id O.r;refine w_ ?_
  obtain ⟨e1,e2⟩:dx'=dx/\fs'=fs:=by rw [h1] at g1; cases g1; exact ⟨rfl,rfl⟩
  subst e1 e2
  refine byC fun w_=>?_;obtain ⟨y,hy,A,ts,rfl,hA,htp⟩:=DG g9 hl;refine w_ ?_
  refine ⟨_,rfl,x,_,_,rfl,h1,lm _ (by decide +kernel),_,rfl,x,bs,ks,k,j1,b1,wd,nm,rs,rfl,O.o,hk,hb1,?_⟩
  refine ⟨_,rfl,x,C,_,_,_,rfl,h1,T.cl,T.n_knob_lines,m4,_,rfl,kl,lv,_,_,rfl,rfl,.inl (.inl g8),Aj hy,A,ts,rfl,.inl (.inl (.inl hA)),fun L0 hL0=>?_⟩
  obtain ⟨H1,eqH,t1,u1⟩:=Hj (o:=HO.lst ts) hL0
  rw [eqH]
  refine ⟨by show 2<=sizeLine; decide,fun T0 hT0=>?_⟩
  have t2:=BL (o:=HO.tup [.int (j1:Nat),.ref L0]) hT0
  exact q T0 L0 ts _ hL0 (t1.trans t2) Ai (t2 _ _ u1) (Ar (t1.trans t2) htp)
noncomputable def Zt (C:Addr):Sp:=fun vs H Q _=>∃ (x:Addr) (bs:List (Str × Nat)) (rk:List (Str × Nat × Int)) (ks:List R) (ls:List (List Ln)),vs=[.ref x]/\Do C H x bs rk ks ls/\∀ D rvs H',H D=none->Ak H H'->H' D=some (.lst rvs)->Paired (fun (a:Th) y=>TupAt H' (tV a) y) (rk.map Rq) rvs->Q (.ref D) H'
theorem jD:An ["self"] ["self"] (Ac lW):=Be
include N T in
theorem eV:Ao P w K mg base BR 1 aD.fOr aD.dOr ["self"] (Zt C):=by
 refine N.FOr.1.ok jD (fun vs H Q E h=>?_) (fun cdv A outer s H vs Q E hr h=>?_)
 ·refine byC fun w_=>?_;obtain ⟨x,bs,rk,ks,ls,rfl,_⟩:=h;refine w_ ?_
  rfl
 ·refine byC fun w_=>?_;obtain ⟨x,bs,rk,ks,ls,rfl,O,q⟩:=h;refine w_ ?_
  refine ⟨_,(Ae (Ax (De Dh rfl T.list PyProof.Rows.boot_list (Aa (Bg (pv 0) rfl) Ab)))),?_⟩
  refine byC fun w_=>?_;obtain ⟨⟨dx,fs,bl,bn,kp,kr,bvs,pvs,uvs,kvs,h1,l1,l2,l3,l4,lm,h2,h3,h4,h5,h6,h7,h8,h9⟩,ob5,osz,onk⟩:=id O.o;refine w_ ?_
  refine byC fun w_=>?_;obtain ⟨dx',fs',rl,rn,pp,kl,rvs,qvs,kvs',g1,m1,m2,m3,m4,g2,g3,g4,g5,g6,g7,lv,g8,g9⟩:=id O.r;refine w_ ?_
  obtain ⟨e1,e2⟩:dx'=dx/\fs'=fs:=by rw [h1] at g1; cases g1; exact ⟨rfl,rfl⟩
  subst e1 e2
  exact ⟨_,rfl,x,C,_,_,_,rfl,h1,T.cl,T.n_rank_list,m1,rl,rvs,rfl,.inl (.inl (.inl g2)),fun l hl=>q l rvs _ hl (BL hl) Ai (Ar (BL hl) g3)⟩
noncomputable def Y7 (C:Addr):Sp:=fun vs H Q _=>∃ (x:Addr) (bs:List (Str × Nat)) (rk:List (Str × Nat × Int)) (ks:List R) (ls:List (List Ln)),vs=[.ref x]/\Do C H x bs rk ks ls/\Q (.int ((FN (rk.map W4)).length:Nat)) H
theorem iJ:An ["self"] ["self"] (Ac gM):=Be
include N T in
theorem cN:Ao P w K mg base BR 1 aD.fOq aD.dOq ["self"] (Y7 C):=by
 refine N.FOq.1.ok iJ (fun vs H Q E h=>?_) (fun cdv A outer s H vs Q E hr h=>?_)
 ·refine byC fun w_=>?_;obtain ⟨x,bs,rk,ks,ls,rfl,_⟩:=h;refine w_ ?_
  rfl
 ·refine byC fun w_=>?_;obtain ⟨x,bs,rk,ks,ls,rfl,O,q⟩:=h;refine w_ ?_
  refine ⟨_,(Ae (Ax (Az BV rfl T.len PySem.boot_len (Aa (Bg (pv 0) rfl) Ab)))),?_⟩
  refine byC fun w_=>?_;obtain ⟨⟨dx,fs,bl,bn,kp,kr,bvs,pvs,uvs,kvs,h1,l1,l2,l3,l4,lm,h2,h3,h4,h5,h6,h7,h8,h9⟩,ob5,osz,onk⟩:=id O.o;refine w_ ?_
  refine byC fun w_=>?_;obtain ⟨dx',fs',rl,rn,pp,kl,rvs,qvs,kvs',g1,m1,m2,m3,m4,g2,g3,g4,g5,g6,g7,lv,g8,g9⟩:=id O.r;refine w_ ?_
  obtain ⟨e1,e2⟩:dx'=dx/\fs'=fs:=by rw [h1] at g1; cases g1; exact ⟨rfl,rfl⟩
  subst e1 e2
  refine ⟨_,rfl,x,C,_,_,_,rfl,h1,T.cl,T.n_pipe_places,m3,pp,qvs,rfl,.inl (.inl (.inl g6)),?_⟩
  rw [← g7.length]
  exact q
noncomputable def Yv (C:Addr):Sp:=fun vs H Q _=>∃ (x:Addr) (bs:List (Str × Nat)) (rk:List (Str × Nat × Int)) (ks:List R) (ls:List (List Ln)) (j:Nat) (r:Str × Nat × Int) (n:Int),vs=[.ref x,.str r.1,.int n]/\Do C H x bs rk ks ls/\rk[j]? = some r/\∀ H',Ak H H'->Q (.int ((((rk.take j).map (fun r=>r.2.1)).sum:Nat)+n)) H'
theorem lB:An ["self","rank","number"] ["self","rank","number"] (Ac m8):=Be
include N T in
theorem cC:Ao P w K mg base BR 2 aD.fOe aD.dOe ["self","rank","number"] (Yv C):=by
 have GCa:Ao P w K mg base BR 1 aD.fCa aD.dCa ["things"] W_:=WQ N T
 refine N.FOe.1.ok lB (fun vs H Q E h=>?_) (fun cdv A outer s H vs Q E hr h=>?_)
 ·refine byC fun w_=>?_;obtain ⟨x,bs,rk,ks,ls,j,r,n,rfl,_⟩:=h;refine w_ ?_
  rfl
 ·refine byC fun w_=>?_;obtain ⟨x,bs,rk,ks,ls,j,r,n,rfl,O,hb,q⟩:=h;refine w_ ?_
  have hrCa:A_ 1 _:=hr.mono (by decide)
  have hu:=DR hr
  refine ⟨_,(Ae (Ax (Bj Dc (Al GCa hrCa rfl N.FCa.2.2 N.FCa.1.kp N.FCa.2.1 .nil Av (Aa (Di Gr (Bg (pv 0) rfl) Ej (Eg (Fy hu (Bg (pv 0) rfl) (pv 1) (fun _ _=>rfl)))) Ab)) (pv 2)))),?_⟩
  refine byC fun w_=>?_;obtain ⟨⟨dx,fs,bl,bn,kp,kr,bvs,pvs,uvs,kvs,h1,l1,l2,l3,l4,lm,h2,h3,h4,h5,h6,h7,h8,h9⟩,ob5,osz,onk⟩:=id O.o;refine w_ ?_
  refine byC fun w_=>?_;obtain ⟨dx',fs',rl,rn,pp,kl,rvs,qvs,kvs',g1,m1,m2,m3,m4,g2,g3,g4,g5,g6,g7,lv,g8,g9⟩:=id O.r;refine w_ ?_
  obtain ⟨e1,e2⟩:dx'=dx/\fs'=fs:=by rw [h1] at g1; cases g1; exact ⟨rfl,rfl⟩
  subst e1 e2
  have hj:j<rk.length:=(List.getElem?_eq_some_iff.mp hb).1
  have hl:=g3.length
  rw [List.length_map] at hl
  have g:=En.k (k:=Sum.inr r.1) g4
  rw [g5 j r hb] at g
  refine ⟨_,rfl,x,C,_,_,_,rfl,h1,T.cl,T.n_rank_list,m1,_,rfl,x,C,_,_,_,rfl,h1,T.cl,T.n_rank_numbers,m2,_,rfl,rn,_,rfl,g,_,rfl,rl,rvs,rfl,.inl (.inl g2),fun p6 hp6=>?_⟩
  have s6:=BL (o:=HO.lst (Dq rvs none (some (j:Int)))) hp6
  have a6:upd H p6 (HO.lst (Dq rvs none (some (j:Int)))) p6=_:=Ai
  generalize upd H p6 (HO.lst (Dq rvs none (some (j:Int))))=H6 at s6 a6 ⊢
  rw [GX rvs j (by omega)] at a6
  refine ⟨p6,(rk.map Rq).take j,rvs.take j,rfl,a6,Io (Ar s6 g3) j,(by rw [List.length_take,List.length_map]; have:=O.nr; omega),(fun a ha=>by obtain ⟨r',hr',rfl⟩:=List.mem_map.mp (List.mem_of_mem_take ha); exact Nat.le_trans (O.nz r' hr') (by decide)),fun H7 s7=>?_⟩
  have e7:(((rk.map Rq).take j).map fun a=>a.2.1)=(rk.take j).map (fun r=>r.2.1):=by
   rw [← List.map_take,List.map_map]
   rfl
  rw [e7]
  exact ⟨_,rfl,_,_,rfl,rfl,q H7 (s6.trans s7)⟩
noncomputable def LK (l:List Nat):Nat:=l.foldl (· ||| ·) 0
theorem Rt (l:List Nat) (n:Nat):LK (l++[n])=LK l ||| n:=by
 unfold LK
 rw [List.foldl_append]
 rfl
noncomputable def Vn:Sp:=fun vs H Q _=>∃ (p:Addr) (l:List Nat),vs=[.ref p]/\H p=some (.lst (nV l))/\l.length<=500/\Q (.int (LK l:Nat)) H
theorem Vq:An ["sets","some","each"] ["sets"] (Ac iV):=Be
include N T in
theorem Tj:Ao P w K mg base BR 1 aD.fUn aD.dUn ["sets"] Vn:=by
 refine N.FUn.1.ok Vq (fun vs H Q E h=>?_) (fun cdv A outer s H vs Q E hr h=>?_)
 ·obtain ⟨p,l,rfl,_⟩:=h
  rfl
 ·refine byC fun w_=>?_;obtain ⟨p,l,rfl,hp,hz,q⟩:=h;refine w_ ?_
  refine ⟨_,(Ag (BX (i:=1) Vq.nd rfl (Or.inl rfl) Af)
   (Ag (Es PassesOwn.never rfl (Bp (pv 0)) (CW (i:=2) Vq.nd rfl (Or.inl rfl)) (Ae (BX (i:=1) Vq.nd rfl (Or.inl rfl) (Bj N_ (pv 1) (pv 2)))))
   (Ae (Ax (pv 1))))),?_⟩
  have hS:Cu K H p (nV l):=.inl (.inl hp)
  refine ⟨_,rfl,p,rfl,⟨_,hS⟩,Gg (K:=K) (a:=p) (xs:=nV l) (fun i σ H4=>H4=H/\∃ v2,σ=[some (.ref p),some (.int (LK (l.take i):Nat)),v2]) ⟨rfl,_,rfl⟩ (fun i σ H4 _ h=>by rw [h.1]; exact hS) ?_ ?_⟩
  ·rintro i y σ H4 hi ⟨rfl,v2,rfl⟩
   rw [List.getElem?_map] at hi
   obtain ⟨n,hn,rfl⟩:=Option.map_eq_some_iff.mp hi
   refine ⟨_,rfl,_,rfl,_,_,rfl,rfl,?_⟩
   refine ⟨rfl,some (.int (n:Int)),?_⟩
   dsimp only
   rw [JM,List.take_add_one,hn]
   show _=[some (V.ref p),some (V.int ((LK (l.take i++[n]):Nat):Int)),_]
   rw [Rt]
   rfl
  ·rintro σ H4 ⟨rfl,v2,rfl⟩
   have el:l.take (nV l).length=l:=List.take_of_length_le (by simp)
   rw [el]
   exact ⟨_,rfl,q⟩
noncomputable def HX (kbs:List Kb) (k:Nat):Nat:=match kbs[k]? with
 | some (.pl _ b)=>b
 | some (.cp b _ _)=>b
 | none=>0
theorem N8 {c:Nat->Str} {kbs:List Kb} {k:Nat} {r:R} (h:(CZ c kbs)[k]? = some r):∃ rs,r=⟨r.w,r.nm,.str (c (HX kbs k))::rs⟩:=by
 obtain ⟨z,hz,rfl⟩:=Fe h
 unfold HX
 rw [hz]
 cases z with
 | cp i j s=>exact ⟨_,rfl⟩
 | pl w i=>exact ⟨_,rfl⟩
theorem Tw {n:Nat} {kbs:List Kb} {k:Nat} {z:Kb} (h:T9 n kbs) (hz:kbs[k]? = some z):HX kbs k<n:=by
 have ho:=h.ok z (List.mem_of_getElem? hz)
 unfold HX
 rw [hz]
 cases z with
 | cp i j s=>exact ho.1
 | pl w i=>exact ho.1
noncomputable def RQ (kbs:List Kb) (D b:Nat):Prop:=∃ (k:Nat) (z:Kb),kbs[k]? = some z/\z.w = "mute" /\ D.testBit k=true/\HX kbs k=b
noncomputable def bA (C:Addr):Sp:=fun vs H Q _=>∃ (x:Addr) (c:Nat->Str) (sz:List Nat) (kbs:List Kb) (D:Nat),vs=[.ref x,.int (D:Nat)]/\DN C H x (BW c sz) (CZ c kbs)/\T9 sz.length kbs/\∀ L (ml:List Nat) H',H L=none->Ak H H'->H' L=some (.lst (nV ml))->(∀ b,b∈ml ↔ RQ kbs D b)->ml.length<=200->Q (.ref L) H'
theorem gY:An ["organ","knobs"] ["organ","knobs"] (Ac fV):=Be
include N T in
theorem ZK:Ao P w K mg base BR 3 aD.fMu aD.dMu ["organ","knobs"] (bA C):=by
 have GDc:Ao P w K mg base BR 2 aD.fDc aD.dDc ["organ","knobs","word"] (Va C):=Qs N T
 have GOm:Ao P w K mg base BR 2 aD.fOm aD.dOm ["self","knob"] (Pn C):=Z6 N T
 refine N.FMu.1.ok gY (fun vs H Q E h=>?_) (fun cdv A outer s H vs Q E hr h=>?_)
 ·refine byC fun w_=>?_;obtain ⟨x,c,sz,kbs,D,rfl,_⟩:=h;refine w_ ?_
  rfl
 ·refine byC fun w_=>?_;obtain ⟨x,c,sz,kbs,D,rfl,O,hkb,q⟩:=h;refine w_ ?_
  have hrDc:A_ 2 _:=hr.mono (by decide)
  have hrOm:A_ 2 _:=hr.mono (by decide)
  refine ⟨_,(Ae (Ax (Bo rfl (BP (osc:=Ac fV) (N:=["organ","knobs"]) rfl rfl (by decide +kernel)) (Bp (Al GDc hrDc rfl N.FDc.2.2 N.FDc.1.kp N.FDc.2.1 .nil Av (Aa (pv 0) (Aa (pv 1) (Aa Bf Ab))))) (fun _ _ _ _=>CK) (fun _ _ _ _=>(CV (pv 1) T.cl N.FOm.2.2 GOm hrOm N.FOm.2.1 .nil Av (Aa (pv 0) Ab)))))),?_⟩
  refine ⟨_,rfl,_,rfl,x,BW c sz,CZ c kbs,"mute",D,rfl,O,fun CL cl H1 hCL s1 hl1 hcl hcll=>?_⟩
  have hS1:Cu K H1 CL (nV cl):=.inl (.inl hl1)
  have O1:=O.mono s1
  let g:V->V:=fun v=>match v with | .int k=>.int (HX kbs k.toNat:Nat) | _=>.non
  refine ⟨CL,rfl,⟨_,hS1⟩,Cg (K:=K) (xs:=nV cl) (fun _=>true) g hS1 (BK (by rw [List.length_map]; omega)) (fun y hy H' hs R k=>k H' (Ak.refl H')) (fun y hy _ H' hs R k=>?_) (fun D2 H2 hD2 s2 hl2=>?_)⟩
  ·obtain ⟨i,hi,rfl⟩:=List.mem_map.mp hy
   obtain ⟨r,hr,hw,hd⟩:=(hcl i).mp hi
   obtain ⟨rs,er⟩:=N8 hr
   rw [er] at hr
   obtain ⟨z,hz,_⟩:=Fe hr
   have hb:=Tw hkb hz
   refine byC fun w_=>?_;obtain ⟨⟨dx,fs,bl,bn,kp,kr,bvs,pvs,uvs,kvs,h1,l1,l2,l3,l4,lm,_⟩,_⟩:=id (O1.mono hs);refine w_ ?_
   have kk:=k H' (Ak.refl H')
   refine ⟨_,rfl,x,dx,fs,rfl,h1,lm _ (by decide +kernel),_,rfl,x,BW c sz,CZ c kbs,i,HX kbs i,(c (HX kbs i),sz[HX kbs i]),_,_,rs,rfl,O1.mono hs,hr,Dn (List.getElem?_eq_getElem hb),kk⟩
  ·rw [List.filter_eq_self.mpr (fun _ _=>rfl)] at hl2
   have e:(nV cl).map g=nV (cl.map (HX kbs)):=by
    unfold nV
    rw [List.map_map,List.map_map]
    rfl
   rw [e] at hl2
   refine q D2 _ H2 (s1.free hD2) (s1.trans s2) hl2 (fun b=>?_) (by rw [List.length_map]; exact hcll)
   rw [List.mem_map]
   constructor
   ·rintro ⟨k,hk,rfl⟩
    obtain ⟨r,hr,hw,hd⟩:=(hcl k).mp hk
    obtain ⟨z,hz,rfl⟩:=Fe hr
    exact ⟨k,z,hz,(Ig _ _ _).symm.trans hw,hd,rfl⟩
   ·rintro ⟨k,z,hz,hw,hd,rfl⟩
    exact ⟨k,(hcl k).mpr ⟨_,Fp hz,(Ig _ _ _).trans hw,hd⟩,rfl⟩
noncomputable def aX (sz:List Nat) (i b:Nat):Prop:=∃ n,n<sz.getD b 0/\b<sz.length/\i=(sz.take b).sum+n
theorem Q5 {c:Nat->Str} {sz:List Nat} {i a n:Nat} (h:(FN (BW c sz))[i]? = some (a,n)):aX sz i a:=by
 obtain ⟨b,hb,hn,hi⟩:=VB h
 obtain ⟨z,hz,rfl⟩:=Px hb
 rw [DW] at hi
 refine ⟨n,?_,(List.getElem?_eq_some_iff.mp hz).1,hi⟩
 rw [List.getD_eq_getElem?_getD,hz]
 exact hn
theorem R0 {sz:List Nat} {i a b:Nat} (h1:aX sz i a) (h2:aX sz i b):a=b:=by
 obtain ⟨n,hn,ha,rfl⟩:=h1
 obtain ⟨m,hm,hb,e⟩:=h2
 have key:∀ {a b n m:Nat},a<b->b<sz.length->n<sz.getD a 0->(sz.take a).sum+n ≠ (sz.take b).sum+m:=fun {a b n m} hab hb hn e=>by
  have h1:(sz.take (a+1)).sum<=(sz.take b).sum:=Kq sz (by omega)
  have ha:a<sz.length:=by omega
  rw [List.take_add_one,List.getElem?_eq_getElem ha,List.sum_append] at h1
  rw [List.getD_eq_getElem?_getD,List.getElem?_eq_getElem ha] at hn
  have hn':n<sz[a]:=hn
  simp at h1
  omega
 rcases Nat.lt_trichotomy a b with h | h | h
 ·exact absurd e (key h hb hn)
 ·exact h
 ·exact absurd e.symm (key h ha hm)
noncomputable def aL (C:Addr):Sp:=fun vs H Q _=>∃ (x:Addr) (c:Nat->Str) (sz:List Nat) (kbs:List Kb) (D n:Nat),vs=[.ref x,.int (D:Nat),.int (n:Nat)]/\DN C H x (BW c sz) (CZ c kbs)/\T9 sz.length kbs/\n<2 ^ 1200/\(∀ i,n.testBit i=true->i<sz.sum)/\sz.sum<=305 /\
 ∀ (m:Nat) H',Ak H H'->(∀ j,m.testBit j=true ↔ n.testBit j=true/\∀ b,aX sz j b->¬ RQ kbs D b)->Q (.int (m:Nat)) H'
theorem Z4:An ["organ","knobs","keys","muted"] ["organ","knobs","keys"] (Ac fK):=Be
include N T in
theorem bQ:Ao P w K mg base BR 4 aD.fUk aD.dUk ["organ","knobs","keys"] (aL C):=by
 have GMu:Ao P w K mg base BR 3 aD.fMu aD.dMu ["organ","knobs"] (bA C):=ZK N T
 have GMe:Ao P w K mg base BR 2 aD.fMe aD.dMe ["some"] VJ:=RX N T
 have GOo:Ao P w K mg base BR 1 aD.fOo aD.dOo ["self","key"] (Wu C):=V3 N T
 have GSt:Ao P w K mg base BR 3 aD.fSt aD.dSt ["numbers"] RG:=Oo N T
 refine N.FUk.1.ok Z4 (fun vs H Q E h=>?_) (fun cdv A outer s H vs Q E hr h=>?_)
 ·refine byC fun w_=>?_;obtain ⟨x,c,sz,kbs,D,n,rfl,_⟩:=h;refine w_ ?_
  rfl
 ·refine byC fun w_=>?_;obtain ⟨x,c,sz,kbs,D,n,rfl,O,hkb,hn,hnt,h305,q⟩:=h;refine w_ ?_
  have hrMu:A_ 3 _:=hr.mono (by decide)
  have hrMe:A_ 2 _:=hr.mono (by decide)
  have hrOo:A_ 1 _:=hr.mono (by decide)
  have hrSt:A_ 3 _:=hr.mono (by decide)
  refine ⟨_,(Ag (BX (i:=3) Z4.nd rfl (Or.inr rfl) (Al GMu hrMu rfl N.FMu.2.2 N.FMu.1.kp N.FMu.2.1 .nil Av (Aa (pv 0) (Aa (pv 1) Ab))))
   (Ae (Ax (Al GSt hrSt rfl N.FSt.2.2 N.FSt.1.kp N.FSt.2.1 .nil Av (Aa (Bo rfl (BP (osc:=Ac fK) (N:=["organ","knobs","keys","muted"]) rfl rfl (by decide +kernel)) (Bp (Al GMe hrMe rfl N.FMe.2.2 N.FMe.1.kp N.FMe.2.1 .nil Av (Aa (pv 2) Ab))) (fun _ _ _ _=>(Im (Ba (J1 (K:=K) rfl) (Ay (Aw (K:=K) rfl) (CV (pv 1) T.cl N.FOo.2.2 GOo hrOo N.FOo.2.1 .nil Av (Aa (pv 0) Ab)) Af (fun _ _=>rfl)) (pv 4) rfl))) (fun _ _ _ _=>(pv 0))) Ab))))),?_⟩
  refine ⟨_,rfl,_,rfl,x,c,sz,kbs,D,rfl,O,hkb,fun ML ml H1 hML s1 hl1 hml hmll=>?_⟩
  refine ⟨_,rfl,n,rfl,hn,fun P1 H2 hP1 s2 hl2=>?_⟩
  have hS2:Cu K H2 P1 (nV (Wd.mem n)):=.inl (.inl hl2)
  have O2:=O.mono (s1.trans s2)
  have hlen:=Wd.K8 hn
  have hml1:(Wd.mem n).length<=305:=by
   have nd:(Wd.mem n).Nodup:=by unfold Wd.mem; exact List.Pairwise.filter _ List.nodup_range
   refine Nat.le_trans (Ek sz.sum nd fun i hi=>hnt i (Wd.mem_iff.mp hi)) h305
  have place:∀ {i},i∈Wd.mem n->∃ a m,(FN (BW c sz))[i]? = some (a,m):=fun {i} hi=>by
   have hlt:i<(FN (BW c sz)).length:=by rw [Fz,DW]; exact hnt i (Wd.mem_iff.mp hi)
   exact ⟨_,_,List.getElem?_eq_getElem hlt⟩
  let p:V->Bool:=fun v=>match v with | .int i=>(match (FN (BW c sz))[i.toNat]? with | some (a,_)=>!decide (a∈ml) | none=>true) | _=>true
  refine ⟨P1,rfl,⟨_,hS2⟩,Cg (K:=K) (xs:=nV (Wd.mem n)) p id hS2 (BK (by rw [List.length_map]; omega)) (fun y hy H' hs R k=>?_) (fun y hy _ H' hs R k=>⟨_,rfl,k H' (Ak.refl H')⟩) (fun D3 H3 hD3 s3 hl3=>?_)⟩
  ·obtain ⟨i,hi,rfl⟩:=List.mem_map.mp hy
   obtain ⟨a,m,hpl⟩:=place hi
   have ep:p (V.int (i:Nat)) = !decide (a∈ml):=by
    show (match (FN (BW c sz))[((i:Nat):Int).toNat]? with | some (a,_)=>!decide (a∈ml) | none=>true)=_
    rw [Int.toNat_natCast,hpl]
   have kk:=k H' (Ak.refl H')
   rw [ep] at kk
   refine byC fun w_=>?_;obtain ⟨⟨dx,fs,bl,bn,kp,kr,bvs,pvs,uvs,kvs,h1,l1,l2,l3,l4,lm,_⟩,_⟩:=id (O2.mono hs);refine w_ ?_
   refine ⟨_,rfl,x,dx,fs,rfl,h1,lm _ (by decide +kernel),_,rfl,x,BW c sz,CZ c kbs,i,(a,m),rfl,O2.mono hs,hpl,fun yv hyv=>?_⟩
   obtain ⟨T0,rfl,hT⟩:=hyv
   refine ⟨T0,_,_,_,rfl,rfl,.inl (.inl hT),Aj (j:=0) rfl,_,rfl,ML,_,rfl,.inl (.inl (.inl (hs _ _ (s2 _ _ hl1)))),rfl,R7 ml,_,rfl,?_⟩
   have ein:inV (V.int (a:Nat)) (nV ml)=decide (a∈ml):=Uo a ml
   rw [ein]
   exact kk
  ·rw [List.map_id] at hl3
   have e3:(nV (Wd.mem n)).filter p=nV ((Wd.mem n).filter fun i=>p (.int (i:Nat))):=by
    unfold nV
    rw [List.filter_map]
    rfl
   rw [e3] at hl3
   have hsub:∀ i∈(Wd.mem n).filter (fun i=>p (.int (i:Nat))),i<sz.sum:=fun i hi=>hnt i (Wd.mem_iff.mp (List.mem_filter.mp hi).1)
   refine ⟨D3,_,rfl,hl3,Nat.le_trans (List.length_filter_le _ _) (by omega),fun i hi=>by have:=hsub i hi; omega,fun H4 s4=>?_⟩
   refine q _ H4 (s1.trans (s2.trans (s3.trans s4))) fun j=>?_
   rw [Wd.HD,decide_eq_true_eq,List.mem_filter,Wd.mem_iff]
   constructor
   ·rintro ⟨h1,h2⟩
    refine ⟨h1,fun b hb hm=>?_⟩
    obtain ⟨a,m,hpl⟩:=place (Wd.mem_iff.mpr h1)
    have ep:p (V.int (j:Nat)) = !decide (a∈ml):=by
     show (match (FN (BW c sz))[((j:Nat):Int).toNat]? with | some (a,_)=>!decide (a∈ml) | none=>true)=_
     rw [Int.toNat_natCast,hpl]
    rw [ep] at h2
    have hba:=R0 hb (Q5 hpl)
    subst hba
    rw [decide_eq_true ((hml b).mpr hm)] at h2
    cases h2
   ·rintro ⟨h1,h2⟩
    refine ⟨h1,?_⟩
    obtain ⟨a,m,hpl⟩:=place (Wd.mem_iff.mpr h1)
    have ep:p (V.int (j:Nat)) = !decide (a∈ml):=by
     show (match (FN (BW c sz))[((j:Nat):Int).toNat]? with | some (a,_)=>!decide (a∈ml) | none=>true)=_
     rw [Int.toNat_natCast,hpl]
    rw [ep,decide_eq_false fun z=>h2 a (Q5 hpl) ((hml a).mp z)]
    rfl
noncomputable def Ng (c:Nat->Str) (sz:List Nat) (kbs:List Kb) (D n j:Nat):Prop:=Lj (stp (BW c sz) kbs D) (fun i=>n.testBit i=true) j \/ (n.testBit j=true/\∀ b,aX sz j b->¬ RQ kbs D b)
noncomputable def cR (C:Addr):Sp:=fun vs H Q _=>∃ (x:Addr) (c:Nat->Str) (sz:List Nat) (kbs:List Kb) (D n:Nat),vs=[.ref x,.int (D:Nat),.int (n:Nat)]/\DN C H x (BW c sz) (CZ c kbs)/\T9 sz.length kbs/\n<2 ^ 1200/\(∀ i,n.testBit i=true->i<sz.sum) /\
 ∀ (m:Nat) H',Ak H H'->(∀ j,m.testBit j=true ↔ Ng c sz kbs D n j)->Q (.int (m:Nat)) H'
theorem mZ:An ["organ","knobs","held"] ["organ","knobs","held"] (Ac nJ):=Be
include N T in
theorem dg:Ao P w K mg base BR 6 aD.fSk aD.dSk ["organ","knobs","held"] (cR C):=by
 have GCq:Ao P w K mg base BR 5 aD.fCq aD.dCq ["organ","knobs","held"] (Zm C):=ZS N T
 have GUk:Ao P w K mg base BR 4 aD.fUk aD.dUk ["organ","knobs","keys"] (aL C):=bQ N T
 have GHk:Ao P w K mg base BR 2 aD.fHk aD.dHk ["organ","held"] (Xz C):=Wa N T
 refine N.FSk.1.ok mZ (fun vs H Q E h=>?_) (fun cdv A outer s H vs Q E hr h=>?_)
 ·refine byC fun w_=>?_;obtain ⟨x,c,sz,kbs,D,n,rfl,_⟩:=h;refine w_ ?_
  rfl
 ·refine byC fun w_=>?_;obtain ⟨x,c,sz,kbs,D,n,rfl,O,hkb,hn,hnt,q⟩:=h;refine w_ ?_
  have hrCq:A_ 5 _:=hr.mono (by decide)
  have hrUk:A_ 4 _:=hr.mono (by decide)
  have hrHk:A_ 2 _:=hr.mono (by decide)
  refine ⟨_,(Ae (Ax (Bj N_ (Al GCq hrCq rfl N.FCq.2.2 N.FCq.1.kp N.FCq.2.1 .nil Av (Aa (pv 0) (Aa (pv 1) (Aa (pv 2) Ab)))) (Al GUk hrUk rfl N.FUk.2.2 N.FUk.1.kp N.FUk.2.1 .nil Av (Aa (pv 0) (Aa (pv 1) (Aa (Al GHk hrHk rfl N.FHk.2.2 N.FHk.1.kp N.FHk.2.1 .nil Av (Aa (pv 0) (Aa (pv 2) Ab))) Ab))))))),?_⟩
  have hsum:((BW c sz).map (·.2)).sum=sz.sum:=by rw [DW]
  have h305:=Fv O
  rw [hsum] at h305
  refine ⟨_,rfl,_,rfl,_,rfl,x,c,sz,kbs,D,n,rfl,O,hkb,hn,hnt,fun m1 H1 s1 hm1=>?_⟩
  refine ⟨_,rfl,_,rfl,_,rfl,_,rfl,x,BW c sz,CZ c kbs,n,rfl,O.mono s1,hn,?_⟩
  rw [hsum,Oc hnt]
  refine ⟨x,c,sz,kbs,D,n,rfl,O.mono s1,hkb,hn,hnt,h305,fun m2 H2 s2 hm2=>?_⟩
  refine ⟨_,_,rfl,rfl,?_⟩
  show Q (.int (Builtin.bitOr (m1:Int) (m2:Int))) H2
  rw [JM]
  refine q (m1 ||| m2) H2 (s1.trans s2) fun j=>?_
  rw [Xh,hm1,hm2]
  rfl
noncomputable def Xp (sz:List Nat) (b n:Nat):Nat:=Wd.mv n (-((sz.take b).sum:Int)) (sz.getD b 0)
theorem Su (n:Nat) (k:Int) (c:Nat):Wd.mv n k c<2 ^ c:=by
 unfold Wd.mv
 exact Nat.mod_lt _ (Nat.two_pow_pos _)
noncomputable def cA (C:Addr):Sp:=fun vs H Q _=>∃ (x:Addr) (c:Nat->Str) (sz:List Nat) (ks:List R) (b n:Nat),vs=[.ref x,.int (b:Nat),.int (n:Nat)]/\DN C H x (BW c sz) ks/\b<sz.length/\n<2 ^ 1200/\∀ H',Ak H H'->Q (.int (Xp sz b n:Nat)) H'
theorem Zd:An ["organ","board","keys","told"] ["organ","board","keys"] (Ac iT):=Be
include N T in
theorem dF:Ao P w K mg base BR 3 aD.fNb aD.dNb ["organ","board","keys"] (cA C):=by
 have GOb:Ao P w K mg base BR 1 aD.fOb aD.dOb ["self"] (VV C):=Sg N T
 have GOk:Ao P w K mg base BR 2 aD.fOk aD.dOk ["self","board","number"] (Vu C):=Qp N T
 have GSh:Ao P w K mg base BR 1 aD.fSh aD.dSh ["some","steps","count"] Ur:=RW N T
 refine N.FNb.1.ok Zd (fun vs H Q E h=>?_) (fun cdv A outer s H vs Q E hr h=>?_)
 ·refine byC fun w_=>?_;obtain ⟨x,c,sz,ks,b,n,rfl,_⟩:=h;refine w_ ?_
  rfl
 ·refine byC fun w_=>?_;obtain ⟨x,c,sz,ks,b,n,rfl,O,hb,hn,q⟩:=h;refine w_ ?_
  have hrOb:A_ 1 _:=hr.mono (by decide)
  have hrOk:A_ 2 _:=hr.mono (by decide)
  have hrSh:A_ 1 _:=hr.mono (by decide)
  refine ⟨_,(Ag (BX (i:=3) Zd.nd rfl (Or.inl rfl) (Ay (Em (K:=K) rfl) (Bv (pv 0) T.cl N.FOb.2.2 GOb hrOb N.FOb.2.1 .nil Av) (pv 1) (fun _ _=>rfl)))
   (Ae (Ax (Al GSh hrSh rfl N.FSh.2.2 N.FSh.1.kp N.FSh.2.1 .nil Av (Aa (pv 2) (Aa (Jp JX (CV (pv 0) T.cl N.FOk.2.2 GOk hrOk N.FOk.2.1 .nil Av (Aa (Ay (Aw (K:=K) rfl) (pv 3) Af (fun _ _=>rfl)) (Aa Af Ab)))) (Aa (Ay (Aw (K:=K) rfl) (pv 3) Af (fun _ _=>rfl)) Ab))))))),?_⟩
  have h305:=Fv O
  rw [DW] at h305
  have hst:(sz.take b).sum<=sz.sum:=by
   have:=congrArg List.sum (List.take_append_drop b sz)
   rw [List.sum_append] at this
   omega
  have hbs:(BW c sz)[b]? = some (c b,sz[b]):=Dn (List.getElem?_eq_getElem hb)
  have h61:=O.sz (c b,sz[b]) (List.mem_of_getElem? hbs)
  have h61':sz[b]<=61:=h61
  have esum:(((BW c sz).take b).map (·.2)).sum=(sz.take b).sum:=by rw [List.map_take,DW]
  have egd:sz.getD b 0=sz[b]:=by rw [List.getD_eq_getElem?_getD,List.getElem?_eq_getElem hb]; rfl
  have meth:∀ {H':Hp},DN C H' x (BW c sz) ks->∃ dx fs,H' x=some (.ins C dx fs)/\∀ m∈meths,fs.lookup m=none:=fun O'=>by
   refine byC fun w_=>?_;obtain ⟨⟨dx,fs,_,_,_,_,_,_,_,_,h1,_,_,_,_,lm,_⟩,_⟩:=O';refine w_ ?_
   exact ⟨dx,fs,h1,lm⟩
  obtain ⟨dx,fs,hx,lm⟩:=meth O
  refine ⟨_,rfl,x,dx,fs,rfl,hx,lm _ (by decide +kernel),x,BW c sz,ks,rfl,O,fun D bvs H2 hD s2 hl2 hb2=>?_⟩
  refine byC fun w_=>?_;obtain ⟨v3,hv3,T3,rfl,ht3⟩:=DG hb2 hbs;refine w_ ?_
  refine ⟨_,rfl,D,bvs,_,_,rfl,rfl,.inl (.inl hl2),Aj hv3,?_⟩
  obtain ⟨dx2,fs2,hx2,lm2⟩:=meth (O.mono s2)
  refine ⟨_,rfl,_,rfl,x,dx2,fs2,rfl,hx2,lm2 _ (by decide +kernel),_,rfl,T3,_,_,_,rfl,rfl,.inl (.inl ht3),Aj (j:=0) rfl,x,BW c sz,ks,b,(c b,sz[b]),0,rfl,O.mono s2,hbs,fun H3 s3=>?_⟩
  refine ⟨_,rfl,_,rfl,T3,_,_,_,rfl,rfl,.inl (.inl (s3 _ _ ht3)),Aj (j:=1) rfl,n,_,sz[b],rfl,hn,?_,?_,by omega,?_⟩
  ·rw [esum]
   omega
  ·rw [esum]
   omega
  ·have fin:=q H3 (s2.trans s3)
   unfold Xp at fin
   rw [egd] at fin
   rw [esum,Int.add_zero]
   exact fin
noncomputable def fj (rk:List (Str × Nat × Int)) (r:Nat):Nat:=((rk.take r).map (fun r=>r.2.1)).sum
noncomputable def Rb (rk:List (Str × Nat × Int)) (r:Nat):Nat:=(rk.map (fun r=>r.2.1)).getD r 0
noncomputable def YM (rk:List (Str × Nat × Int)):Nat:=(rk.map (fun r=>r.2.1)).sum
structure lq (rk:List (Str × Nat × Int)) (l:Ln):Prop where
 r:l.r<rk.length
 lo:0<=l.lo
 le:l.lo<=l.hi
 hi:l.hi<=60
 s1 : -200<=l.sh
 s2:l.sh<=200
noncomputable def QH (rk:List (Str × Nat × Int)) (l:Ln) (n:Nat):Nat:=Wd.mv (Wd.mv (Wd.mv n (-l.lo) (l.hi - l.lo+1).toNat) (l.lo+l.sh) (Rb rk l.r)) (fj rk l.r:Nat) (YM rk)
theorem Wj {rk:List (Str × Nat × Int)} {r:Nat} (h:r<rk.length):fj rk r+Rb rk r<=YM rk:=by
 unfold fj Rb YM
 have e:((rk.map (fun r=>r.2.1)).take (r+1)).sum=((rk.take r).map (fun r=>r.2.1)).sum+(rk.map (fun r=>r.2.1)).getD r 0:=by
  rw [List.take_add_one,List.getElem?_eq_getElem (by rw [List.length_map]; exact h),List.sum_append,List.map_take,List.getD_eq_getElem?_getD,List.getElem?_eq_getElem (by rw [List.length_map]; exact h)]
  simp
 have:=congrArg List.sum (List.take_append_drop (r+1) (rk.map (fun r=>r.2.1)))
 rw [List.sum_append] at this
 omega
theorem Xb {rk:List (Str × Nat × Int)} (h1:rk.length<=12) (h2:∀ r∈rk,r.2.1<=97):YM rk<=1164:=by
 have h:=K6 (rk.map W4) 97 fun b hb=>by
  obtain ⟨r,hr,rfl⟩:=List.mem_map.mp hb
  exact h2 r hr
 rw [Fz,List.map_map,List.length_map] at h
 have:rk.length * 97<=12 * 97:=Nat.mul_le_mul_right _ h1
 have e:YM rk=(rk.map ((·.2) ∘ W4)).sum:=rfl
 omega
noncomputable def dZ (C:Addr):Sp:=fun vs H Q _=>∃ (x:Addr) (bs:List (Str × Nat)) (rk:List (Str × Nat × Int)) (ks:List R) (ls:List (List Ln)) (y:V) (l:Ln) (n:Nat),vs=[.ref x,y,.int (n:Nat)]/\Do C H x bs rk ks ls/\TupAt H (YW l) y/\lq rk l/\n<2 ^ 1200/\∀ H',Ak H H'->Q (.int (QH rk l n:Nat)) H'
theorem VD:An ["organ","line","numbers","rank","from_low","on_rank"] ["organ","line","numbers"] (Ac kO):=Be
include N T in
theorem cU:Ao P w K mg base BR 3 aD.fLl aD.dLl ["organ","line","numbers"] (dZ C):=by
 have GOr:Ao P w K mg base BR 1 aD.fOr aD.dOr ["self"] (Zt C):=eV N T
 have GSh:Ao P w K mg base BR 1 aD.fSh aD.dSh ["some","steps","count"] Ur:=RW N T
 have GOe:Ao P w K mg base BR 2 aD.fOe aD.dOe ["self","rank","number"] (Yv C):=cC N T
 have GOq:Ao P w K mg base BR 1 aD.fOq aD.dOq ["self"] (Y7 C):=cN N T
 refine N.FLl.1.ok VD (fun vs H Q E h=>?_) (fun cdv A outer s H vs Q E hr h=>?_)
 ·refine byC fun w_=>?_;obtain ⟨x,bs,rk,ks,ls,y,l,n,rfl,_⟩:=h;refine w_ ?_
  rfl
 ·refine byC fun w_=>?_;obtain ⟨x,bs,rk,ks,ls,y,l,n,rfl,O,hy,hg,hn,q⟩:=h;refine w_ ?_
  have hrOr:A_ 1 _:=hr.mono (by decide)
  have hrSh:A_ 1 _:=hr.mono (by decide)
  have hrOe:A_ 2 _:=hr.mono (by decide)
  have hrOq:A_ 1 _:=hr.mono (by decide)
  refine ⟨_,(Ag (BX (i:=3) VD.nd rfl (Or.inl rfl) (Ay (Em (K:=K) rfl) (Bv (pv 0) T.cl N.FOr.2.2 GOr hrOr N.FOr.2.1 .nil Av) (Ay (Aw (K:=K) rfl) (pv 1) Af (fun _ _=>rfl)) (fun _ _=>rfl)))
   (Ag (BX (i:=4) VD.nd rfl (Or.inl rfl) (Al GSh hrSh rfl N.FSh.2.2 N.FSh.1.kp N.FSh.2.1 .nil Av (Aa (pv 2) (Aa (Jp JX (Ay (Aw (K:=K) rfl) (pv 1) Af (fun _ _=>rfl))) (Aa (Bj Dc (Bj Ja (Ay (Aw (K:=K) rfl) (pv 1) Af (fun _ _=>rfl)) (Ay (Aw (K:=K) rfl) (pv 1) Af (fun _ _=>rfl))) Af) Ab)))))
   (Ag (BX (i:=5) VD.nd rfl (Or.inl rfl) (Al GSh hrSh rfl N.FSh.2.2 N.FSh.1.kp N.FSh.2.1 .nil Av (Aa (pv 4) (Aa (Bj Dc (Ay (Aw (K:=K) rfl) (pv 1) Af (fun _ _=>rfl)) (Ay (Aw (K:=K) rfl) (pv 1) Af (fun _ _=>rfl))) (Aa (Ay (Aw (K:=K) rfl) (pv 3) Af (fun _ _=>rfl)) Ab)))))
   (Ae (Ax (Al GSh hrSh rfl N.FSh.2.2 N.FSh.1.kp N.FSh.2.1 .nil Av (Aa (pv 5) (Aa (CV (pv 0) T.cl N.FOe.2.2 GOe hrOe N.FOe.2.1 .nil Av (Aa (Ay (Aw (K:=K) rfl) (pv 3) Af (fun _ _=>rfl)) (Aa Af Ab))) (Aa (Bv (pv 0) T.cl N.FOq.2.2 GOq hrOq N.FOq.2.1 .nil Av) Ab))))))))),?_⟩
  obtain ⟨T0,rfl,hT⟩:=hy
  have hto:=Xb O.nr O.nz
  have hlr:l.r<rk.length:=hg.r
  have hst:=Wj hlr
  have hrk:=List.getElem?_eq_getElem hlr
  have h97:rk[l.r].2.1<=97:=O.nz _ (List.getElem_mem hg.r)
  have esz:Rb rk l.r=rk[l.r].2.1:=by
   unfold Rb
   rw [List.getD_eq_getElem?_getD,List.getElem?_map,hrk]
   rfl
  have etot:(FN (rk.map W4)).length=YM rk:=by
   rw [Fz,List.map_map]
   rfl
  have h1:=hg.lo
  have h2:=hg.le
  have h3:=hg.hi
  have h4:=hg.s1
  have h5:=hg.s2
  have meth:∀ {H':Hp},Do C H' x bs rk ks ls->∃ dx fs,H' x=some (.ins C dx fs)/\∀ m∈meths,fs.lookup m=none:=fun O'=>by
   refine byC fun w_=>?_;obtain ⟨⟨dx,fs,_,_,_,_,_,_,_,_,h1,_,_,_,_,lm,_⟩,_⟩:=O'.o;refine w_ ?_
   exact ⟨dx,fs,h1,lm⟩
  obtain ⟨dx,fs,hx,lm⟩:=meth O
  refine ⟨_,rfl,x,dx,fs,rfl,hx,lm _ (by decide +kernel),x,bs,rk,ks,ls,rfl,O,fun D rvs H2 hD s2 hl2 hb2=>?_⟩
  have hT2:=s2 _ _ hT
  have hrk3:(rk.map Rq)[l.r]? = some (Rq rk[l.r]):=by rw [List.getElem?_map,hrk]; rfl
  refine byC fun w_=>?_;obtain ⟨v3,hv3,T3,rfl,ht3⟩:=DG hb2 hrk3;refine w_ ?_
  refine ⟨_,rfl,T0,_,_,_,rfl,rfl,.inl (.inl hT2),Aj (j:=0) rfl,D,rvs,_,_,rfl,rfl,.inl (.inl hl2),Aj hv3,?_⟩
  have e1:l.hi - l.lo+1=(((l.hi - l.lo+1).toNat:Nat):Int):=by omega
  refine ⟨_,rfl,_,rfl,T0,_,_,_,rfl,rfl,.inl (.inl hT2),Aj (j:=2) rfl,_,rfl,_,rfl,T0,_,_,_,rfl,rfl,.inl (.inl hT2),Aj (j:=3) rfl,_,rfl,T0,_,_,_,rfl,rfl,.inl (.inl hT2),Aj (j:=2) rfl,_,_,rfl,rfl,_,_,rfl,rfl,n,-l.lo,(l.hi - l.lo+1).toNat,(by rw [← e1] <;> rfl),hn,by omega,by omega,by omega,?_⟩
  have n1:=Su n (-l.lo) (l.hi - l.lo+1).toNat
  generalize hn1:Wd.mv n (-l.lo) (l.hi - l.lo+1).toNat=a1 at n1 ⊢
  have n1':a1<2 ^ 1200:=Nat.lt_of_lt_of_le n1 (Nat.pow_le_pow_right (by decide) (by omega))
  refine ⟨_,rfl,_,rfl,T0,_,_,_,rfl,rfl,.inl (.inl hT2),Aj (j:=2) rfl,_,rfl,T0,_,_,_,rfl,rfl,.inl (.inl hT2),Aj (j:=1) rfl,_,_,rfl,rfl,_,rfl,T3,_,_,_,rfl,rfl,.inl (.inl ht3),Aj (j:=1) rfl,a1,l.lo+l.sh,rk[l.r].2.1,rfl,n1',by omega,by omega,by omega,?_⟩
  have n2:=Su a1 (l.lo+l.sh) rk[l.r].2.1
  generalize hn2:Wd.mv a1 (l.lo+l.sh) rk[l.r].2.1=a2 at n2 ⊢
  have n2':a2<2 ^ 1200:=Nat.lt_of_lt_of_le n2 (Nat.pow_le_pow_right (by decide) (by omega))
  obtain ⟨dx2,fs2,hx2,lm2⟩:=meth (O.mono s2)
  refine ⟨_,rfl,_,rfl,x,dx2,fs2,rfl,hx2,lm2 _ (by decide +kernel),_,rfl,T3,_,_,_,rfl,rfl,.inl (.inl ht3),Aj (j:=0) rfl,x,bs,rk,ks,ls,l.r,rk[l.r],0,rfl,O.mono s2,hrk,fun H3 s3=>?_⟩
  obtain ⟨dx3,fs3,hx3,lm3⟩:=meth ((O.mono s2).mono s3)
  refine ⟨_,rfl,x,dx3,fs3,rfl,hx3,lm3 _ (by decide +kernel),x,bs,rk,ks,ls,rfl,(O.mono s2).mono s3,a2,_,(FN (rk.map W4)).length,rfl,n2',?_,?_,?_,?_⟩
  ·omega
  ·have:((rk.take l.r).map (fun r=>r.2.1)).sum=fj rk l.r:=rfl
   omega
  ·omega
  ·have fin:=q H3 (s2.trans s3)
   unfold QH at fin
   rw [hn1,esz,hn2] at fin
   rw [etot,Int.add_zero]
   exact fin
noncomputable def e_ (H:Hp):V->Ln
 | .ref T=>match H T with
  | some (.tup [.int r,.int sh,.int lo,.int hi])=>⟨r.toNat,sh,lo,hi⟩
  | _=>⟨0,0,0,0⟩
 | _=>⟨0,0,0,0⟩
theorem S5 {H:Hp} {l:Ln} {v:V} (h:TupAt H (YW l) v):e_ H v=l:=by
 obtain ⟨T,rfl,e⟩:=h
 show (match H T with | some (.tup [.int r,.int sh,.int lo,.int hi])=>(⟨r.toNat,sh,lo,hi⟩:Ln) | _=>⟨0,0,0,0⟩)=l
 rw [e]
 show (⟨((l.r:Nat):Int).toNat,l.sh,l.lo,l.hi⟩:Ln)=l
 rw [Int.toNat_natCast]
theorem Uq {H:Hp} {l:List Ln} {vs:List V} (h:Paired (fun x y=>TupAt H (YW x) y) l vs):vs.map (e_ H)=l:=by
 induction h with
 | nil=>rfl
 | cons x y ih=>rw [List.map_cons,ih,S5 x]
noncomputable def Yy (sz:List Nat) (rk:List (Str × Nat × Int)) (b:Nat) (l:List Ln) (n:Nat):Nat:=LK (l.map fun ln=>QH rk ln (Xp sz b n))
noncomputable def Y8 (C:Addr):Sp:=fun vs H Q _=>∃ (x:Addr) (c:Nat->Str) (sz:List Nat) (rk:List (Str × Nat × Int)) (kbs:List Kb) (ls:List (List Ln)) (k n:Nat) (z:Kb) (l:List Ln),vs=[.ref x,.int (k:Nat),.int (n:Nat)]/\Do C H x (BW c sz) rk (CZ c kbs) ls/\T9 sz.length kbs/\kbs[k]? = some z/\ls[k]? = some l/\l.length<=100/\(∀ ln∈l,lq rk ln)/\n<2 ^ 1200/\∀ H',Ak H H'->Q (.int (Yy sz rk (HX kbs k) l n:Nat)) H'
theorem Xg:An ["organ","knob","keys","stop","numbers"] ["organ","knob","keys"] (Ac fU):=Be
include N T in
theorem bI:Ao P w K mg base BR 4 aD.fBs aD.dBs ["organ","knob","keys"] (Y8 C):=by
 have GOs:Ao P w K mg base BR 2 aD.fOs aD.dOs ["self","knob"] (cQ C):=Zq N T
 have GNb:Ao P w K mg base BR 3 aD.fNb aD.dNb ["organ","board","keys"] (cA C):=dF N T
 have GLl:Ao P w K mg base BR 3 aD.fLl aD.dLl ["organ","line","numbers"] (dZ C):=cU N T
 have GUn:Ao P w K mg base BR 1 aD.fUn aD.dUn ["sets"] Vn:=Tj N T
 refine N.FBs.1.ok Xg (fun vs H Q E h=>?_) (fun cdv A outer s H vs Q E hr h=>?_)
 ·refine byC fun w_=>?_;obtain ⟨x,c,sz,rk,kbs,ls,k,n,z,l,rfl,_⟩:=h;refine w_ ?_
  rfl
 ·refine byC fun w_=>?_;obtain ⟨x,c,sz,rk,kbs,ls,k,n,z,l,rfl,O,hkb,hz,hl,hl100,hg,hn,q⟩:=h;refine w_ ?_
  have hrOs:A_ 2 _:=hr.mono (by decide)
  have hrNb:A_ 3 _:=hr.mono (by decide)
  have hrLl:A_ 3 _:=hr.mono (by decide)
  have hrUn:A_ 1 _:=hr.mono (by decide)
  refine ⟨_,(Ag (BX (i:=3) Xg.nd rfl (Or.inl rfl) (CV (pv 0) T.cl N.FOs.2.2 GOs hrOs N.FOs.2.1 .nil Av (Aa (pv 1) Ab)))
   (Ag (BX (i:=4) Xg.nd rfl (Or.inr rfl) (Al GNb hrNb rfl N.FNb.2.2 N.FNb.1.kp N.FNb.2.1 .nil Av (Aa (pv 0) (Aa (Ay (Aw (K:=K) rfl) (pv 3) Af (fun _ _=>rfl)) (Aa (pv 2) Ab)))))
   (Ae (Ax (Al GUn hrUn rfl N.FUn.2.2 N.FUn.1.kp N.FUn.2.1 .nil Av (Aa (Bo rfl (BP (osc:=Ac fU) (N:=["organ","knob","keys","stop","numbers"]) rfl rfl (by decide +kernel)) (Bp (Ay (Aw (K:=K) rfl) (pv 3) Af (fun _ _=>rfl))) (fun _ _ _ _=>CK) (fun _ _ _ _=>(Al GLl hrLl rfl N.FLl.2.2 N.FLl.1.kp N.FLl.2.1 .nil Av (Aa (pv 1) (Aa (pv 0) (Aa (pv 5) Ab)))))) Ab)))))),?_⟩
  have hr:=Fp (c:=c) hz
  obtain ⟨rs,er⟩:=N8 hr
  rw [er] at hr
  have hb:=Tw hkb hz
  have hbs:(BW c sz)[HX kbs k]? = some (c (HX kbs k),sz[HX kbs k]):=Dn (List.getElem?_eq_getElem hb)
  have meth:∀ {H':Hp},Do C H' x (BW c sz) rk (CZ c kbs) ls->∃ dx fs,H' x=some (.ins C dx fs)/\∀ m∈meths,fs.lookup m=none:=fun O'=>by
   refine byC fun w_=>?_;obtain ⟨⟨dx,fs,_,_,_,_,_,_,_,_,h1,_,_,_,_,lm,_⟩,_⟩:=O'.o;refine w_ ?_
   exact ⟨dx,fs,h1,lm⟩
  obtain ⟨dx,fs,hx,lm⟩:=meth O
  refine ⟨_,rfl,x,dx,fs,rfl,hx,lm _ (by decide +kernel),_,rfl,x,BW c sz,rk,CZ c kbs,ls,k,HX kbs k,(c (HX kbs k),sz[HX kbs k]),_,_,rs,l,rfl,O,hr,hbs,hl,fun T0 L0 ts H1 _ s1 hT0 hL0 htp=>?_⟩
  have O1:=O.mono s1
  refine ⟨_,rfl,_,rfl,T0,_,_,_,rfl,rfl,.inl (.inl hT0),Aj (j:=0) rfl,_,rfl,x,c,sz,CZ c kbs,HX kbs k,n,rfl,O1.o,hb,hn,fun H2 s2=>?_⟩
  have O2:=O1.mono s2
  have nlt:=Su n (-((sz.take (HX kbs k)).sum:Int)) (sz.getD (HX kbs k) 0)
  have h61:sz.getD (HX kbs k) 0<=61:=by
   rw [List.getD_eq_getElem?_getD,List.getElem?_eq_getElem hb]
   exact O.o.sz _ (List.mem_of_getElem? hbs)
  have nlt':Xp sz (HX kbs k) n<2 ^ 1200:=Nat.lt_of_lt_of_le nlt (Nat.pow_le_pow_right (by decide) (by omega))
  have hL2:=s2 _ _ hL0
  have htp2:=Ar s2 htp
  have hlt:=htp2.length
  have hS2:Cu K H2 L0 ts:=.inl (.inl hL2)
  refine ⟨_,rfl,T0,_,_,_,rfl,rfl,.inl (.inl (s2 _ _ hT0)),Aj (j:=1) rfl,L0,rfl,⟨_,hS2⟩,Cg (K:=K) (xs:=ts) (fun _=>true) (fun v=>.int (QH rk (e_ H2 v) (Xp sz (HX kbs k) n):Nat)) hS2 (BK (by omega)) (fun y hy H' hs R k=>k H' (Ak.refl H')) (fun y hy _ H' hs R k'=>?_) (fun D3 H3 hD3 s3 hl3=>?_)⟩
  ·obtain ⟨ln,hln,hyt⟩:=DK htp2 hy
   have e:=S5 hyt
   rw [e] at k'
   exact ⟨_,rfl,_,rfl,_,rfl,x,BW c sz,rk,CZ c kbs,ls,y,ln,_,rfl,O2.mono hs,hyt.mono hs,hg ln hln,nlt',fun H4 s4=>k' H4 s4⟩
  ·rw [List.filter_eq_self.mpr (fun _ _=>rfl)] at hl3
   have e3:(ts.map fun v=>V.int (QH rk (e_ H2 v) (Xp sz (HX kbs k) n):Nat))=nV (l.map fun ln=>QH rk ln (Xp sz (HX kbs k) n)):=by
    rw [← Uq htp2]
    unfold nV
    rw [List.map_map,List.map_map]
    rfl
   rw [e3] at hl3
   exact ⟨D3,_,rfl,hl3,(by rw [List.length_map]; omega),q H3 (s1.trans (s2.trans s3))⟩
noncomputable def jK (sz:List Nat) (rk:List (Str × Nat × Int)) (kbs:List Kb) (ls:List (List Ln)) (cl:List Nat) (n:Nat):Nat:=LK (cl.map fun k=>Yy sz rk (HX kbs k) (ls.getD k []) n)
noncomputable abbrev jj (rk:List (Str × Nat × Int)) (ls:List (List Ln)):Prop:=∀ l∈ls,l.length<=100/\∀ ln∈l,lq rk ln
noncomputable def dH (C:Addr):Sp:=fun vs H Q _=>∃ (x:Addr) (c:Nat->Str) (sz:List Nat) (rk:List (Str × Nat × Int)) (kbs:List Kb) (ls:List (List Ln)) (D n:Nat),vs=[.ref x,.int (D:Nat),.int (n:Nat)]/\Do C H x (BW c sz) rk (CZ c kbs) ls/\T9 sz.length kbs/\jj rk ls/\n<2 ^ 1200 /\
 ∀ (cl:List Nat) H',Ak H H'->(∀ k,k∈cl ↔ ∃ z,kbs[k]? = some z/\z.w = "stop" /\ D.testBit k=true)->Q (.int (jK sz rk kbs ls cl n:Nat)) H'
theorem gk:An ["organ","knobs","keys"] ["organ","knobs","keys"] (Ac fJ):=Be
include N T in
theorem dX:Ao P w K mg base BR 5 aD.fBa aD.dBa ["organ","knobs","keys"] (dH C):=by
 have GDc:Ao P w K mg base BR 2 aD.fDc aD.dDc ["organ","knobs","word"] (Va C):=Qs N T
 have GBs:Ao P w K mg base BR 4 aD.fBs aD.dBs ["organ","knob","keys"] (Y8 C):=bI N T
 have GUn:Ao P w K mg base BR 1 aD.fUn aD.dUn ["sets"] Vn:=Tj N T
 refine N.FBa.1.ok gk (fun vs H Q E h=>?_) (fun cdv A outer s H vs Q E hr h=>?_)
 ·refine byC fun w_=>?_;obtain ⟨x,c,sz,rk,kbs,ls,D,n,rfl,_⟩:=h;refine w_ ?_
  rfl
 ·refine byC fun w_=>?_;obtain ⟨x,c,sz,rk,kbs,ls,D,n,rfl,O,hkb,hls,hn,q⟩:=h;refine w_ ?_
  have hrDc:A_ 2 _:=hr.mono (by decide)
  have hrBs:A_ 4 _:=hr.mono (by decide)
  have hrUn:A_ 1 _:=hr.mono (by decide)
  refine ⟨_,(Ae (Ax (Al GUn hrUn rfl N.FUn.2.2 N.FUn.1.kp N.FUn.2.1 .nil Av (Aa (Bo rfl (BP (osc:=Ac fJ) (N:=["organ","knobs","keys"]) rfl rfl (by decide +kernel)) (Bp (Al GDc hrDc rfl N.FDc.2.2 N.FDc.1.kp N.FDc.2.1 .nil Av (Aa (pv 0) (Aa (pv 1) (Aa Bf Ab))))) (fun _ _ _ _=>CK) (fun _ _ _ _=>(Al GBs hrBs rfl N.FBs.2.2 N.FBs.1.kp N.FBs.2.1 .nil Av (Aa (pv 1) (Aa (pv 0) (Aa (pv 3) Ab)))))) Ab)))),?_⟩
  refine ⟨_,rfl,_,rfl,x,BW c sz,CZ c kbs,"stop",D,rfl,O.o,fun CL cl H1 hCL s1 hl1 hcl0 hcll=>?_⟩
  have hcl:∀ k,k∈cl ↔ ∃ z,kbs[k]? = some z/\z.w = "stop" /\ D.testBit k=true:=fun k=>by
   rw [hcl0]
   constructor
   ·rintro ⟨r,hr,hw,hd⟩
    obtain ⟨z,hz,rfl⟩:=Fe hr
    exact ⟨z,hz,(Ig _ _ _).symm.trans hw,hd⟩
   ·rintro ⟨z,hz,hw,hd⟩
    exact ⟨_,Fp hz,(Ig _ _ _).trans hw,hd⟩
  have hS1:Cu K H1 CL (nV cl):=.inl (.inl hl1)
  have O1:=O.mono s1
  let g:V->V:=fun v=>match v with | .int k=>.int (Yy sz rk (HX kbs k.toNat) (ls.getD k.toNat []) n:Nat) | _=>.non
  refine ⟨CL,rfl,⟨_,hS1⟩,Cg (K:=K) (xs:=nV cl) (fun _=>true) g hS1 (BK (by rw [List.length_map]; omega)) (fun y hy H' hs R k=>k H' (Ak.refl H')) (fun y hy _ H' hs R k=>?_) (fun D2 H2 hD2 s2 hl2=>?_)⟩
  ·obtain ⟨i,hi,rfl⟩:=List.mem_map.mp hy
   obtain ⟨z,hz,hw,hd⟩:=(hcl i).mp hi
   have hik:i<ls.length:=by
    rw [O.nl,Ru]
    exact (List.getElem?_eq_some_iff.mp hz).1
   have hli:=List.getElem?_eq_getElem hik
   have egd:ls.getD i []=ls[i]:=by rw [List.getD_eq_getElem?_getD,hli]; rfl
   have hg:=hls ls[i] (List.getElem_mem hik)
   refine ⟨_,rfl,_,rfl,_,rfl,x,c,sz,rk,kbs,ls,i,n,z,ls[i],rfl,O1.mono hs,hkb,hz,hli,hg.1,hg.2,hn,fun H4 s4=>?_⟩
   have kk:R (.int (Yy sz rk (HX kbs i) (ls.getD i []) n:Nat)) H4:=k H4 s4
   rw [egd] at kk
   exact kk
  ·rw [List.filter_eq_self.mpr (fun _ _=>rfl)] at hl2
   have e:(nV cl).map g=nV (cl.map fun k=>Yy sz rk (HX kbs k) (ls.getD k []) n):=by
    unfold nV
    rw [List.map_map,List.map_map]
    rfl
   rw [e] at hl2
   exact ⟨D2,_,rfl,hl2,(by rw [List.length_map]; omega),q cl H2 (s1.trans s2) hcl⟩
noncomputable def cF (C:Addr):Sp:=fun vs H Q _=>∃ (x:Addr) (c:Nat->Str) (sz:List Nat) (rk:List (Str × Nat × Int)) (kbs:List Kb) (ls:List (List Ln)) (D n:Nat),vs=[.ref x,.int (D:Nat),.int (n:Nat)]/\Do C H x (BW c sz) rk (CZ c kbs) ls/\T9 sz.length kbs/\jj rk ls/\n<2 ^ 1200/\(∀ i,n.testBit i=true->i<sz.sum) /\
 ∀ (cl:List Nat) (m:Nat) H',Ak H H'->(∀ k,k∈cl ↔ ∃ z,kbs[k]? = some z/\z.w = "stop" /\ D.testBit k=true)->(∀ j,m.testBit j=true ↔ Ng c sz kbs D n j)->Q (.int (jK sz rk kbs ls cl m:Nat)) H'
theorem iR:An ["organ","knobs","held"] ["organ","knobs","held"] (Ac mW):=Be
include N T in
theorem aV:Ao P w K mg base BR 7 aD.fSo aD.dSo ["organ","knobs","held"] (cF C):=by
 have GSk:Ao P w K mg base BR 6 aD.fSk aD.dSk ["organ","knobs","held"] (cR C):=dg N T
 have GBa:Ao P w K mg base BR 5 aD.fBa aD.dBa ["organ","knobs","keys"] (dH C):=dX N T
 refine N.FSo.1.ok iR (fun vs H Q E h=>?_) (fun cdv A outer s H vs Q E hr h=>?_)
 ·refine byC fun w_=>?_;obtain ⟨x,c,sz,rk,kbs,ls,D,n,rfl,_⟩:=h;refine w_ ?_
  rfl
 ·refine byC fun w_=>?_;obtain ⟨x,c,sz,rk,kbs,ls,D,n,rfl,O,hkb,hls,hn,hnt,q⟩:=h;refine w_ ?_
  have hrSk:A_ 6 _:=hr.mono (by decide)
  have hrBa:A_ 5 _:=hr.mono (by decide)
  refine ⟨_,(Ae (Ax (Al GBa hrBa rfl N.FBa.2.2 N.FBa.1.kp N.FBa.2.1 .nil Av (Aa (pv 0) (Aa (pv 1) (Aa (Al GSk hrSk rfl N.FSk.2.2 N.FSk.1.kp N.FSk.2.1 .nil Av (Aa (pv 0) (Aa (pv 1) (Aa (pv 2) Ab)))) Ab)))))),?_⟩
  have h305:=Fv O.o
  rw [DW] at h305
  refine ⟨_,rfl,_,rfl,_,rfl,_,rfl,_,rfl,x,c,sz,kbs,D,n,rfl,O.o,hkb,hn,hnt,fun m H1 s1 hm=>?_⟩
  have hm12:m<2 ^ 1200:=by
   refine Nat.lt_pow_two_of_testBit m fun i hi=>?_
   rw [← Bool.not_eq_true]
   intro hb
   rcases (hm i).mp hb with h | h
   ·have:=h.lt
    rw [DW] at this
    omega
   ·have:=hnt i h.1
    omega
  exact ⟨x,c,sz,rk,kbs,ls,D,m,rfl,O.mono s1,hkb,hls,hm12,fun cl H2 s2 hcl=>q cl m H2 (s1.trans s2) hcl hm⟩
noncomputable def bC (C:Addr):Sp:=fun vs H Q _=>∃ (x:Addr) (us:List V) (bs:List (Str × Nat)) (rk:List (Str × Nat × Int)) (ks:List R) (ls:List (List Ln)) (sts:List Nat),vs=[.ref x]/\Jk C H x us bs rk ks ls sts/\∀ D H',H D=none->Ak H H'->H' D=some (.lst (nV sts))->Q (.ref D) H'
theorem nW:An ["self"] ["self"] (Ac l_):=Be
include N T in
theorem bM:Ao P w K mg base BR 1 aD.fOy aD.dOy ["self"] (bC C):=by
 refine N.FOy.1.ok nW (fun vs H Q E h=>?_) (fun cdv A outer s H vs Q E hr h=>?_)
 ·refine byC fun w_=>?_;obtain ⟨x,us,bs,rk,ks,ls,sts,rfl,_⟩:=h;refine w_ ?_
  rfl
 ·refine byC fun w_=>?_;obtain ⟨x,us,bs,rk,ks,ls,sts,rfl,O,q⟩:=h;refine w_ ?_
  refine ⟨_,(Ae (Ax (De Dh rfl T.list PyProof.Rows.boot_list (Aa (Bg (pv 0) rfl) Ab)))),?_⟩
  refine byC fun w_=>?_;obtain ⟨_,dx,fs,rl,kd,ss,kvs,h1,l1,l2,l3,h2,h3,h4,h5,h6,_⟩:=id O;refine w_ ?_
  exact ⟨_,rfl,x,C,dx,_,_,rfl,h1,T.cl,T.n_step_sets,l3,ss,_,rfl,.inl (.inl (.inl h6)),fun l hl=>q l _ hl (BL hl) Ai⟩
noncomputable def WW:Sp:=fun vs H Q _=>∃ z:Str,vs=[.str z,.str letters,.int 8]/\Tx z/\∀ b H',Ak H H'->(b=true ↔ isNm z)->Q (.bl b) H'
include N T in
theorem Xm:Ao P w K mg base BR 1 aD.fMd aD.dMd ["text","signs","most"] WW:=by
 refine N.FMd.1.ok Ym (fun vs H Q E h=>?_) (fun cdv A outer s H vs Q E hr h=>?_)
 ·obtain ⟨z,rfl,_⟩:=h
  rfl
 ·obtain ⟨z,rfl,hz,q⟩:=h
  refine ⟨_,(Ae (Ax (Cj (GR Ez Ez Af (Az Hf rfl T.len PySem.boot_len (Aa (pv 0) Ab)) (pv 2)) (Cq (Az (Ge rfl) rfl T.all PyProof.Rows.boot_all (Aa (Bo rfl (BP (osc:=Ac d7) (N:=["text","signs","most"]) rfl rfl (by decide +kernel)) (S6 (pv 0)) (fun _ _ _ _=>CK) (fun _ _ _ _=>(Ck Ka (pv 0) (pv 2) rfl))) Ab)))))),?_⟩
  have hzl:z.length<sizeLine:=BK hz.1
  have no:¬ isNm z->Q (.bl false) H:=fun h=>q false H (Ak.refl H) ⟨fun z=>(nomatch z),fun z=>absurd z h⟩
  refine ⟨_,rfl,z,rfl,Nat.le_of_lt hzl,_,_,rfl,rfl,_,rfl,?_⟩
  refine CN (fun h1=>?_) (fun h1=>⟨_,rfl,Cv (no fun c=>h1 (decide_eq_true (by have:=c.1; omega)))⟩)
  refine ⟨_,rfl,_,_,rfl,rfl,_,rfl,?_⟩
  refine CN (fun h2=>?_) (fun h2=>no fun c=>h2 (decide_eq_true (by have:=c.2.1; omega)))
  refine ⟨_,rfl,z,rfl,Mh (fun _=>true) (fun c=>.bl (Vw letters c)) hzl (fun c hc H' hs R k=>k H' (Ak.refl H')) (fun c hc _ H' hs R k=>⟨_,rfl,_,rfl,_,_,rfl,rfl,k H' (Ak.refl H')⟩) (fun D H' hD hs hl=>?_)⟩
  refine ⟨D,z.cps.toList.map (Vw letters),rfl,.inl (.inl ?_),q _ H' hs ?_⟩
  ·rw [hl,List.filter_eq_self.mpr (fun _ _=>rfl),List.map_map]
   rfl
  ·rw [List.all_map,List.all_eq_true]
   have b1:1<=z.length:=by have:=of_decide_eq_true h1; omega
   have b2:z.length<=8:=by have:=of_decide_eq_true h2; omega
   constructor
   ·intro h
    refine ⟨b1,b2,fun c hc=>?_⟩
    have e:Vw letters c=true:=h c hc
    rw [Km c (hz.2 c hc)] at e
    exact of_decide_eq_true e
   ·intro h c hc
    show Vw letters c=true
    rw [Km c (hz.2 c hc)]
    exact decide_eq_true (h.2.2 c hc)
theorem lF {K:PySem.W.Frag}:PySem.W.kitOne K (.type "int") (.type "str")=some false:=by kernel_rfl
theorem iH {K:PySem.W.Frag}:PySem.W.kitOne K (.type "bool") (.type "str")=some false:=by kernel_rfl
theorem jR {K:PySem.W.Frag}:PySem.W.kitOne K (.type "NoneType") (.type "str")=some false:=by kernel_rfl
theorem jl {K:PySem.W.Frag}:PySem.W.kitOne K (.type "list") (.type "str")=some false:=by kernel_rfl
theorem mJ {K:PySem.W.Frag}:PySem.W.kitOne K (.type "tuple") (.type "str")=some false:=by kernel_rfl
noncomputable def isStr:V->Bool
 | .str _=>true
 | _=>false
theorem XH (K:PySem.W.Frag) {H:Hp} {v:V} (h:Ks H v):∃ n,Hd K H v (.type n)/\PySem.W.kitOne K (.type n) (.type "str")=some (isStr v):=by
 cases h with
 | non=>exact ⟨_,.non,jR⟩
 | bl b=>exact ⟨_,.bl b,iH⟩
 | int i=>exact ⟨_,.int i,lF⟩
 | lst h=>exact ⟨_,.lst h,jl⟩
 | tup h=>exact ⟨_,.tup h,mJ⟩
 | str h=>exact ⟨_,.str _,Oq⟩
noncomputable def bZ (v:V):Prop:=∃ t,v=.str t/\isNm t
noncomputable def Vy:Sp:=fun vs H Q _=>∃ v:V,vs=[v]/\Ks H v/\∀ b H',Ak H H'->(b=true ↔ bZ v)->Q (.bl b) H'
include N T in
theorem XN:Ao P w K mg base BR 2 aD.fNm aD.dNm ["thing"] Vy:=by
 have GMdG:Ao P w K mg base BR 1 aD.fMd aD.dMd ["text","signs","most"] WW:=Xm N T
 refine N.FNm.1.ok cP (fun vs H Q E h=>?_) (fun cdv A outer s H vs Q E hr h=>?_)
 ·obtain ⟨v,rfl,_⟩:=h
  rfl
 ·obtain ⟨v,rfl,hv,q⟩:=h
  have hrMdG:A_ 1 _:=hr.mono (by decide)
  obtain ⟨tLET,hLET⟩:=T.letters
  obtain ⟨tML,hML⟩:=T.mostL
  refine ⟨_,(Ae (Ax (Cj (Az Bt rfl T.isin PyProof.Rows.boot_isinstance (Aa (pv 0) (Aa (Ci (v:=.ty "str") rfl T.str PyProof.Rows.boot_str rfl) Ab))) (Cq (Al GMdG hrMdG rfl N.FMd.2.2 N.FMd.1.kp N.FMd.2.1 .nil Av (Aa (pv 0) (Aa (CP (v:=.str letters) rfl hLET ⟨tLET,rfl⟩) (Aa (CP (v:=.int 8) rfl hML ⟨tML,rfl⟩) Ab)))))))),?_⟩
  obtain ⟨n,e1,e2⟩:=XH K hv
  refine ⟨_,rfl,_,"str",_,_,rfl,e1,e2,_,rfl,?_⟩
  cases hv with
  | str h =>
   refine EY ⟨_,rfl,_,rfl,h,fun b H' s hb=>q b H' s (hb.trans ⟨fun z=>⟨_,rfl,z⟩,fun ⟨t,e,z⟩=>by cases e; exact z⟩)⟩
  | _=>exact Cv (q false H (Ak.refl H) ⟨fun z=>(nomatch z),fun ⟨t,e,z⟩=>(nomatch e)⟩)
noncomputable def Yr (C:Addr):Sp:=fun vs H Q _=>∃ (x:Addr) (us:List V) (bs:List (Str × Nat)) (rk:List (Str × Nat × Int)) (ks:List R) (ls:List (List Ln)) (sts:List Nat) (v:V),vs=[.ref x,v]/\Jk C H x us bs rk ks ls sts/\Ks H v/\(∀ n∈bs.map (·.1),isNm n)/\∀ H',Ak H H'->Q (Uh (bs.map (·.1)) v) H'
theorem Vh {ns:List Str} {v:V} (hn:∀ n∈ns,isNm n) (h:¬ bZ v):Uh ns v=.non:=by
 cases v with
 | str t=>exact if_neg fun z=>h ⟨t,rfl,hn t z⟩
 | _=>rfl
theorem valN {ns:List Str} {kvs:List (Key × V)} (h1:∀ (i:Nat) t,ns[i]? = some t->Bx kvs (Sum.inr t)=some (.int (i:Nat))) (h2:∀ t,t ∉ ns->Bx kvs (Sum.inr t)=none) (t:Str):(Bx kvs (Sum.inr t)).getD .non=Uh ns (.str t):=by
 by_cases h:t∈ns
 ·rw [h1 _ t (Vd h)]
  exact (if_pos h).symm
 ·rw [h2 t h]
  exact (if_neg h).symm
theorem lY:An ["self","name"] ["self","name"] (Ac kj):=Be
include N T in
theorem ZZ:Ao P w K mg base BR 3 aD.fOu aD.dOu ["self","name"] (Yr C):=by
 have GNmG:Ao P w K mg base BR 2 aD.fNm aD.dNm ["thing"] Vy:=XN N T
 refine N.FOu.1.ok lY (fun vs H Q E h=>?_) (fun cdv A outer s H vs Q E hr h=>?_)
 ·refine byC fun w_=>?_;obtain ⟨x,us,bs,rk,ks,ls,sts,v,rfl,_⟩:=h;refine w_ ?_
  rfl
 ·refine byC fun w_=>?_;obtain ⟨x,us,bs,rk,ks,ls,sts,v,rfl,O,hv,hn,q⟩:=h;refine w_ ?_
  have hrNmG:A_ 2 _:=hr.mono (by decide)
  have hu:=DR hr
  obtain ⟨tLET,hLET⟩:=T.letters
  obtain ⟨tML,hML⟩:=T.mostL
  refine ⟨_,(Ae (Ax (Le (Ce (Al GNmG hrNmG rfl N.FNm.2.2 N.FNm.1.kp N.FNm.2.1 .nil Av (Aa (pv 1) Ab))) (Rp hu (Bg (pv 0) rfl) (pv 1) ⟨rfl,rfl,rfl,rfl⟩) Hv))),?_⟩
  refine byC fun w_=>?_;obtain ⟨O1,dx,fs,rl,kd,ss,kvs,h1,l1,l2,l3,h2,h3,h4,h5,h6,bn,kb,h7,h8,h9⟩:=id O;refine w_ ?_
  refine byC fun w_=>?_;obtain ⟨⟨dx',fs',bl,bn',kp,kr,bvs,pvs,uvs,kvs',g1,m1,m2,m3,m4,lm,e2,e3,e4,e5,e6,e7,e8,e9⟩,ob5,osz,onk⟩:=id O1.o;refine w_ ?_
  rw [h1] at g1
  cases g1
  rw [h7] at m2
  cases m2
  rw [h8] at e4
  cases e4
  refine ⟨_,rfl,v,rfl,hv,fun b H1 s1 hb=>⟨_,rfl,?_⟩⟩
  refine CN (fun z=>?_) (fun z=>?_)
  ·obtain ⟨t,rfl,ht⟩:=hb.mp z
   refine ⟨_,rfl,x,C,dx,_,_,rfl,s1 _ _ h1,T.cl,T.n_board_numbers,h7,bn,rfl,.inl ⟨_,.inl (s1 _ _ h8)⟩,_,rfl,_,En.k (k:=Sum.inr t) (s1 _ _ h8),?_⟩
   rw [valN (fun i t ht=>by rw [List.getElem?_map] at ht; obtain ⟨b,hb,rfl⟩:=Option.map_eq_some_iff.mp ht; exact e5 i b hb) h9 t]
   exact q _ s1
  ·have e:=Vh hn fun c=>z (hb.mpr c)
   rw [e] at q
   exact q _ s1
noncomputable def Yw (Cy:Addr):Sp:=fun vs H Q _=>∃ (y dy x:Addr),vs=[.ref y,.ref x]/\H y=some (.ins Cy dy [])/\∀ (sd:Addr) H',SX y H H'->H sd=none->H' sd=some (.dK [])->Gf Cy H' y x 0 0 sd->Q .non H'
theorem jE:An ["self","organ"] ["self","organ"] (Ac jm):=Be
include N T in
theorem cY:Ao P w K mg base BR 1 aD.fXi aD.dXi ["self","organ"] (Yw Cy):=by
 refine N.FXi.1.ok jE (fun vs H Q E h=>?_) (fun cdv A outer s H vs Q E hr h=>?_)
 ·refine byC fun w_=>?_;obtain ⟨y,dy,x,rfl,_⟩:=h;refine w_ ?_
  rfl
 ·refine byC fun w_=>?_;obtain ⟨y,dy,x,rfl,h1,q⟩:=h;refine w_ ?_
  have hu:=DR hr
  refine ⟨_,(Ag (Cr (pv 0) (pv 1) rfl)
   (Ag (Cr (pv 0) Af rfl)
   (Ag (Cr (pv 0) Af rfl)
   (Ae (Cr (pv 0) Ht rfl))))),?_⟩
  refine ⟨_,rfl,_,rfl,y,Cy,dy,_,rfl,h1,T.clR,T.nr_organ,by show 0<1000; decide,?_⟩
  have x1:upd H y (HO.ins Cy dy (BJ "organ" (.ref x) [])) y=some (.ins Cy dy (BJ "organ" (.ref x) [])):=Ai
  have c1:SX y H (upd H y (HO.ins Cy dy (BJ "organ" (.ref x) []))):=SX.up
  generalize upd H y (HO.ins Cy dy (BJ "organ" (.ref x) []))=H1 at x1 c1 ⊢
  have z1:=Dw "organ" (.ref x) []
  have z2:=Dw "drawn_set" (.int 0) (BJ "organ" (.ref x) [])
  have z3:=Dw "shoe_step" (.int 0) (BJ "drawn_set" (.int 0) (BJ "organ" (.ref x) []))
  have z0:([]:List (Str × V)).length=0:=rfl
  refine ⟨_,rfl,y,Cy,dy,_,rfl,x1,T.clR,T.nr_drawn_set,by omega,?_⟩
  have x2:upd H1 y (HO.ins Cy dy (BJ "drawn_set" (.int 0) (BJ "organ" (.ref x) []))) y=some (.ins Cy dy (BJ "drawn_set" (.int 0) (BJ "organ" (.ref x) []))):=Ai
  have c2:SX y H1 (upd H1 y (HO.ins Cy dy (BJ "drawn_set" (.int 0) (BJ "organ" (.ref x) [])))):=SX.up
  generalize upd H1 y (HO.ins Cy dy (BJ "drawn_set" (.int 0) (BJ "organ" (.ref x) [])))=H2 at x2 c2 ⊢
  refine ⟨_,rfl,y,Cy,dy,_,rfl,x2,T.clR,T.nr_shoe_step,by omega,?_⟩
  have x3:upd H2 y (HO.ins Cy dy (BJ "shoe_step" (.int 0) (BJ "drawn_set" (.int 0) (BJ "organ" (.ref x) [])))) y=some (.ins Cy dy (BJ "shoe_step" (.int 0) (BJ "drawn_set" (.int 0) (BJ "organ" (.ref x) [])))):=Ai
  have c3:SX y H2 (upd H2 y (HO.ins Cy dy (BJ "shoe_step" (.int 0) (BJ "drawn_set" (.int 0) (BJ "organ" (.ref x) []))))):=SX.up
  generalize upd H2 y (HO.ins Cy dy (BJ "shoe_step" (.int 0) (BJ "drawn_set" (.int 0) (BJ "organ" (.ref x) []))))=H3 at x3 c3 ⊢
  intro sd hsd
  obtain ⟨H4,eqH,s4,e4⟩:=Hj (o:=HO.dK []) hsd
  rw [eqH]
  refine ⟨_,rfl,y,Cy,dy,_,rfl,s4 _ _ x3,T.clR,T.nr_stored,by omega,?_⟩
  have ny:sd ≠ y:=Ne.symm (Am x3 hsd)
  have c03:=c1.trans (c2.trans c3)
  have fsd:H sd=none:=by
   cases z:H sd with
   | none=>rfl
   | some ob =>
    have:=c03 sd ob z ny
    rw [hsd] at this
    cases this
  exact q sd _ (c03.trans ((SX.of s4).trans SX.up)) fsd (by rw [Aq ny]; exact e4) (Gf.new Ai)
noncomputable abbrev jC (ks:List R):List Str:=ks.map (·.nm)
noncomputable def aF (C Cy:Addr) (Ho H:Hp) (y x:Addr) (ks:List R) (sts:List Nat) (dr sh:Nat) (sd:Addr):Prop:=(∃ us bs rk ls,j9 C Cy Ho H y x us bs rk ks ls sts dr sh sd)/\(∀ n∈jC ks,isNm n)/\ks.length<=100
noncomputable def bf (C Cy:Addr):Sp:=fun vs H Q _=>∃ (Ho:Hp) (y x:Addr) (ks:List R) (sts:List Nat) (dr sh:Nat) (sd:Addr),vs=[.ref y]/\aF C Cy Ho H y x ks sts dr sh sd/\sh<=sts.length/\sts.length<=100/\∀ H',Ak H H'->Q (.int ((dr ||| LK (sts.take sh):Nat):Int)) H'
theorem jf:An ["self"] ["self"] (Ac mz):=Be
include N T in
theorem Z3:Ao P w K mg base BR 2 aD.fXk aD.dXk ["self"] (bf C Cy):=by
 have GUn:Ao P w K mg base BR 1 aD.fUn aD.dUn ["sets"] Vn:=Tj N T
 have GOy:Ao P w K mg base BR 1 aD.fOy aD.dOy ["self"] (bC C):=bM N T
 refine N.FXk.1.ok jf (fun vs H Q E h=>?_) (fun cdv A outer s H vs Q E hr h=>?_)
 ·refine byC fun w_=>?_;obtain ⟨Ho,y,x,ks,sts,dr,sh,sd,rfl,_⟩:=h;refine w_ ?_
  rfl
 ·refine byC fun w_=>?_;obtain ⟨Ho,y,x,ks,sts,dr,sh,sd,rfl,O,hsh,hst,q⟩:=h;refine w_ ?_
  have hrUn:A_ 1 _:=hr.mono (by decide)
  have hrOy:A_ 1 _:=hr.mono (by decide)
  have hu:=DR hr
  refine ⟨_,(Ae (Ax (Bj N_ (Bg (pv 0) rfl) (Al GUn hrUn rfl N.FUn.2.2 N.FUn.1.kp N.FUn.2.1 .nil Av (Aa (Di Gr (Bv (Bg (pv 0) rfl) T.cl N.FOy.2.2 GOy hrOy N.FOy.2.1 .nil Av) Ej (Eg (Bg (pv 0) rfl))) Ab))))),?_⟩
  refine byC fun w_=>?_;obtain ⟨⟨us,bs,rk,ls,D⟩,hn,hl⟩:=id O;refine w_ ?_
  refine byC fun w_=>?_;obtain ⟨dy,fs,h1,l1,l2,l3,l4,l5,lm⟩:=id D.c.ex;refine w_ ?_
  have OX:=D.o.mono D.s
  refine byC fun w_=>?_;obtain ⟨⟨⟨dx,gs,_,_,_,_,_,_,_,_,k1,_,_,_,_,km,_⟩,_⟩,_⟩:=id OX.o;refine w_ ?_
  refine ⟨_,rfl,y,Cy,dy,_,_,rfl,h1,T.clR,T.nr_drawn_set,l2,_,rfl,y,Cy,dy,_,_,rfl,h1,T.clR,T.nr_organ,l1,x,dx,gs,rfl,k1,km _ (by decide +kernel),x,us,bs,rk,ks,ls,sts,rfl,OX,fun D1 H1 hD1 s1 q1=>?_⟩
  refine ⟨_,rfl,y,Cy,dy,_,_,rfl,s1 _ _ h1,T.clR,T.nr_shoe_step,l3,_,rfl,D1,_,rfl,.inl (.inl q1),fun p2 hp2=>?_⟩
  have s2:=BL (o:=HO.lst (Dq (nV sts) none (some (sh:Int)))) hp2
  have a2:upd H1 p2 (HO.lst (Dq (nV sts) none (some (sh:Int)))) p2=_:=Ai
  generalize upd H1 p2 (HO.lst (Dq (nV sts) none (some (sh:Int))))=H2 at s2 a2 ⊢
  have lz:(nV sts).length=sts.length:=List.length_map _
  rw [GX (nV sts) sh (by omega)] at a2
  have e2:(nV sts).take sh=nV (sts.take sh):=(List.map_take ..).symm
  rw [e2] at a2
  refine ⟨p2,sts.take sh,rfl,a2,by rw [List.length_take]; omega,_,_,rfl,rfl,?_⟩
  dsimp only
  rw [JM]
  exact q H2 (s1.trans s2)
theorem Xa {ns:List Str} {t:Str} (h:t∈ns):Uh ns (.str t)=.int ((ns.idxOf t:Nat):Int):=if_pos h
noncomputable def Yz (C:Addr):Sp:=fun vs H Q _=>∃ (x:Addr) (us:List V) (bs:List (Str × Nat)) (rk:List (Str × Nat × Int)) (ks:List R) (ls:List (List Ln)) (sts:List Nat) (t:Str),vs=[.ref x,.str t]/\Jk C H x us bs rk ks ls sts/\(∀ n∈bs.map (·.1),isNm n)/\t∈bs.map (·.1)/\∀ H',Ak H H'->Q (.int (((bs.map (·.1)).idxOf t:Nat):Int)) H'
theorem bY:An ["organ","name","board"] ["organ","name"] (Ac lO):=Be
include N T in
theorem Z_:Ao P w K mg base BR 4 aD.fBn aD.dBn ["organ","name"] (Yz C):=by
 have GOu:Ao P w K mg base BR 3 aD.fOu aD.dOu ["self","name"] (Yr C):=ZZ N T
 refine N.FBn.1.ok bY (fun vs H Q E h=>?_) (fun cdv A outer s H vs Q E hr h=>?_)
 ·refine byC fun w_=>?_;obtain ⟨x,us,bs,rk,ks,ls,sts,t,rfl,_⟩:=h;refine w_ ?_
  rfl
 ·refine byC fun w_=>?_;obtain ⟨x,us,bs,rk,ks,ls,sts,t,rfl,O,hn,ht,q⟩:=h;refine w_ ?_
  have hrOu:A_ 3 _:=hr.mono (by decide)
  have hu:=DR hr
  refine ⟨_,(Ag (BX (i:=2) bY.nd rfl (Or.inl rfl) (CV (pv 0) T.cl N.FOu.2.2 GOu hrOu N.FOu.2.1 .nil Av (Aa (pv 1) Ab)))
   (Ag (By (Ba W0 (pv 2) Hv (BZ _)) (Ae D_) Bb)
   (Ae (Ax (pv 2))))),?_⟩
  refine byC fun w_=>?_;obtain ⟨⟨⟨dx,fs,_,_,_,_,_,_,_,_,h1,_,_,_,_,lm,_⟩,_⟩,_⟩:=id O.o;refine w_ ?_
  refine ⟨_,rfl,x,dx,fs,rfl,h1,lm _ (by decide +kernel),_,rfl,x,us,bs,rk,ks,ls,sts,.str t,rfl,O,.str (hn t ht).tx,hn,fun H1 s1=>?_⟩
  rw [Xa ht]
  exact ⟨_,rfl,rfl,_,rfl,Cv ⟨_,rfl,q H1 s1⟩⟩
noncomputable def ZJ (C:Addr):Sp:=fun vs H Q _=>∃ (x:Addr) (us:List V) (bs:List (Str × Nat)) (rk:List (Str × Nat × Int)) (ks:List R) (ls:List (List Ln)) (sts:List Nat) (j n:Nat) (b:Str × Nat),vs=[.ref x,.str b.1,.int (n:Nat)]/\Jk C H x us bs rk ks ls sts/\(∀ n∈bs.map (·.1),isNm n)/\bs[j]? = some b/\(bs.map (·.1)).idxOf b.1=j/\n<b.2/\∀ H',Ak H H'->Q (.int ((((bs.take j).map (·.2)).sum+n:Nat):Int)) H'
noncomputable def aO:Sp:=fun _ _ _ _=>False
theorem cz:An ["organ","name","number","board"] ["organ","name","number"] (Ac iU):=Be
include N T in
theorem Zg:Ao P w K mg base BR 5 aD.fKy aD.dKy ["organ","name","number"] (ZJ C):=by
 have GOb:Ao P w K mg base BR 1 aD.fOb aD.dOb ["self"] (VV C):=Sg N T
 have GBn:Ao P w K mg base BR 4 aD.fBn aD.dBn ["organ","name"] (Yz C):=Z_ N T
 have GWh:Ao P w K mg base BR 1 aD.fWh aD.dWh ["thing"] U4:=SQ N T
 have GOk:Ao P w K mg base BR 2 aD.fOk aD.dOk ["self","board","number"] (Vu C):=Qp N T
 refine N.FKy.1.ok cz (fun vs H Q E h=>?_) (fun cdv A outer s H vs Q E hr h=>?_)
 ·refine byC fun w_=>?_;obtain ⟨x,us,bs,rk,ks,ls,sts,j,n,b,rfl,_⟩:=h;refine w_ ?_
  rfl
 ·refine byC fun w_=>?_;obtain ⟨x,us,bs,rk,ks,ls,sts,j,n,b,rfl,O,hn,hb,hj,hlt,q⟩:=h;refine w_ ?_
  have hrOb:A_ 1 _:=hr.mono (by decide)
  have hrBn:A_ 4 _:=hr.mono (by decide)
  have hrWh:A_ 1 _:=hr.mono (by decide)
  have hrOk:A_ 2 _:=hr.mono (by decide)
  have hu:=DR hr
  refine ⟨_,(Ag (BX (i:=3) cz.nd rfl (Or.inl rfl) (Ay (Em (K:=K) rfl) (Bv (pv 0) T.cl N.FOb.2.2 GOb hrOb N.FOb.2.1 .nil Av) (Al GBn hrBn rfl N.FBn.2.2 N.FBn.1.kp N.FBn.2.1 .nil Av (Aa (pv 0) (Aa (pv 1) Ab))) (fun _ _=>rfl)))
   (Ag (By (PW.pt (Ff (CT (Ce (Al GWh hrWh rfl N.FWh.2.2 N.FWh.1.kp N.FWh.2.1 .nil Av (Aa (pv 2) Ab)))) (Fd (CT (Hk Ez Ip Af (pv 2) (Ay (Aw (K:=K) rfl) (pv 3) Af (fun _ _=>rfl))))))) (Ae D_) Bb)
   (Ae (Ax (CV (pv 0) T.cl N.FOk.2.2 GOk hrOk N.FOk.2.1 .nil Av (Aa (pv 1) (Aa (pv 2) Ab))))))),?_⟩
  refine byC fun w_=>?_;obtain ⟨⟨⟨dx,fs,_,_,_,_,_,_,_,_,h1,_,_,_,_,lm,_⟩,_⟩,_⟩:=id O.o;refine w_ ?_
  have hm:b.1∈bs.map (·.1):=List.mem_map_of_mem (List.mem_of_getElem? hb)
  refine ⟨_,rfl,x,dx,fs,rfl,h1,lm _ (by decide +kernel),x,bs,ks,rfl,O.o.o,fun DB bvs H1 hDB s1 hl1 hp1=>?_⟩
  refine ⟨_,rfl,_,rfl,x,us,bs,rk,ks,ls,sts,b.1,rfl,O.mono s1,hn,hm,fun H2 s2=>?_⟩
  rw [hj]
  refine byC fun w_=>?_;obtain ⟨yb,hyb,Tb,rfl,htb⟩:=DG (Ar s2 hp1) hb;refine w_ ?_
  refine ⟨DB,bvs,_,_,rfl,rfl,.inl (.inl (s2 _ _ hl1)),Aj hyb,?_⟩
  refine ⟨_,rfl,_,rfl,_,rfl,Cv ?_⟩
  refine ⟨_,rfl,_,_,rfl,rfl,_,rfl,CN (fun _=>?_) (fun z=>absurd (decide_eq_true (by show (0:Int)<=((n:Nat):Int); omega)) z)⟩
  refine ⟨_,rfl,Tb,_,_,_,rfl,rfl,.inl (.inl htb),Aj (j:=1) rfl,_,_,rfl,rfl,_,rfl,CN (fun z=>absurd z (by rw [decide_eq_true (by show ((n:Nat):Int)<((b.2:Nat):Int); omega)]; decide)) (fun _=>?_)⟩
  have s12:=s1.trans s2
  refine ⟨_,rfl,x,dx,fs,rfl,s12 _ _ h1,lm _ (by decide +kernel),_,rfl,_,rfl,x,bs,ks,j,b,((n:Nat):Int),rfl,(O.mono s12).o.o,hb,fun H3 s3=>?_⟩
  have e:((((bs.take j).map (·.2)).sum:Nat):Int)+((n:Nat):Int)=((((bs.take j).map (·.2)).sum+n:Nat):Int):=by omega
  rw [e]
  exact q H3 (s12.trans s3)
theorem jk:An ["console","word","parts"] ["console","word","parts"] (Ac gj):=Be
include N T in
theorem Yu:Ao P w K mg base BR 1 aD.fDz aD.dDz ["console","word","parts"] aO:=by
 exact N.FDz.1.ok jk (fun vs H Q E h=>h.elim) (fun cdv A outer s H vs Q E hr h=>h.elim)
theorem HR.new {Cp:Addr} {H:Hp} {z x y hd dz:Addr} (h:H z=some (.ins Cp dz (BJ "hands" (.ref hd) (BJ "console" (.ref y) (BJ "organ" (.ref x) []))))):HR Cp H z x y hd:=⟨dz,_,h,rfl,rfl,rfl,fun m hm=>by
 simp only [Tg,List.mem_cons,List.not_mem_nil,or_false] at hm
 rcases hm with rfl | rfl | rfl | rfl | rfl | rfl | rfl | rfl <;> rfl⟩
noncomputable def Yg (Cy Cp:Addr):Sp:=fun vs H Q _=>∃ (z dz x:Addr),vs=[.ref z,.ref x]/\H z=some (.ins Cp dz [])/\∀ (y sd hd:Addr) H',SX z H H'->H y=none->H hd=none->H' hd=some (.dK [])->Gf Cy H' y x 0 0 sd->HR Cp H' z x y hd->Q .non H'
theorem lV:An ["self","organ"] ["self","organ"] (Ac iY):=Be
include N T in
theorem dI:Ao P w K mg base BR 3 aD.fQi aD.dQi ["self","organ"] (Yg Cy Cp):=by
 have GXi:Ao P w K mg base BR 1 aD.fXi aD.dXi ["self","organ"] (Yw Cy):=cY N T
 refine N.FQi.1.ok lV (fun vs H Q E h=>?_) (fun cdv A outer s H vs Q E hr h=>?_)
 ·obtain ⟨z,dz,x,rfl,_⟩:=h
  rfl
 ·obtain ⟨z,dz,x,rfl,h1,q⟩:=h
  have hrXi:A_ 1 _:=hr.mono (by decide)
  have hu:=DR hr
  have hrXi1:A_ 2 _:=hr
  refine ⟨_,(Ag (Cr (pv 0) (pv 1) rfl)
   (Ag (Cr (pv 0) (JC N.FXi.2.2 GXi hrXi1 rfl T.mCR N.FXi.2.1 .nil Av (Aa (pv 1) Ab)) rfl)
   (Ae (Cr (pv 0) Ht rfl)))),?_⟩
  refine ⟨_,rfl,_,rfl,z,Cp,dz,_,rfl,h1,T.clP,T.np_organ,by show 0<1000; decide,?_⟩
  have x1:upd H z (HO.ins Cp dz (BJ "organ" (.ref x) [])) z=some (.ins Cp dz (BJ "organ" (.ref x) [])):=Ai
  have c1:SX z H (upd H z (HO.ins Cp dz (BJ "organ" (.ref x) []))):=SX.up
  generalize upd H z (HO.ins Cp dz (BJ "organ" (.ref x) []))=H1 at x1 c1 ⊢
  have z1:=Dw "organ" (.ref x) []
  have z0:([]:List (Str × V)).length=0:=rfl
  refine ⟨_,rfl,?_⟩
  intro y dy ny ndy ney
  have sy:Ak H1 (upd (upd H1 dy (.own y)) y (.ins Cy dy [])):=fun b o e=>by
   rw [Aq (Am e ny),Aq (Am e ndy)]
   exact e
  refine ⟨y,dy,x,rfl,Ai,fun sd H2 SXy hsd hsd' CA=>⟨rfl,?_⟩⟩
  have s12:Ak H1 H2:=fun b o e=>SXy b o (sy b o e) (Am e ny)
  have x2:=s12 _ _ x1
  have z2:=Dw "console" (.ref y) (BJ "organ" (.ref x) [])
  refine ⟨_,rfl,z,Cp,dz,_,rfl,x2,T.clP,T.np_console,by omega,?_⟩
  have nyz:y ≠ z:=Ne.symm (Am x1 ny)
  have x3:upd H2 z (HO.ins Cp dz (BJ "console" (.ref y) (BJ "organ" (.ref x) []))) z=some (.ins Cp dz (BJ "console" (.ref y) (BJ "organ" (.ref x) []))):=Ai
  have c3:SX z H2 (upd H2 z (HO.ins Cp dz (BJ "console" (.ref y) (BJ "organ" (.ref x) [])))):=SX.up
  have CA3:Gf Cy (upd H2 z (HO.ins Cp dz (BJ "console" (.ref y) (BJ "organ" (.ref x) [])))) y x 0 0 sd:=by
   obtain ⟨dy2,fs2,k1,k⟩:=CA.ex
   exact ⟨dy2,fs2,by rw [Aq nyz]; exact k1,k⟩
  generalize upd H2 z (HO.ins Cp dz (BJ "console" (.ref y) (BJ "organ" (.ref x) [])))=H3 at x3 c3 CA3 ⊢
  intro hd hhd
  obtain ⟨H4,eqH,s4,e4⟩:=Hj (o:=HO.dK []) hhd
  rw [eqH]
  refine ⟨_,rfl,z,Cp,dz,_,rfl,s4 _ _ x3,T.clP,T.np_hands,by omega,?_⟩
  have nhz:hd ≠ z:=Ne.symm (Am x3 hhd)
  have c03:=c1.trans ((SX.of s12).trans c3)
  have free:∀ {a:Addr} {H':Hp},SX z H H'->a ≠ z->H' a=none->H a=none:=fun {a} {H'} c n h=>by
   cases e:H a with
   | none=>rfl
   | some ob =>
    have:=c a ob e n
    rw [h] at this
    cases this
  have CA4:=CA3.mono s4
  refine q y sd hd _ (c03.trans ((SX.of s4).trans SX.up)) (free c1 nyz ny) (free c03 nhz hhd) (by rw [Aq nhz]; exact e4) ?_ (HR.new Ai)
  obtain ⟨dy2,fs2,k1,k⟩:=CA4.ex
  exact ⟨dy2,fs2,by rw [Aq nyz]; exact k1,k⟩
noncomputable abbrev kH (k:Nat):Key:=Sum.inl ((k:Nat):Int)
noncomputable def eU (C Cy Cp:Addr):Sp:=fun vs H Q _=>∃ (Ho:Hp) (z x y hd:Addr) (us:List V) (bs:List (Str × Nat)) (rk:List (Str × Nat × Int)) (ks:List R) (ls:List (List Ln)) (sts:List Nat) (dr sh:Nat) (sd:Addr) (kvs:List (Key × V)) (c:Nat->Nat) (k:Nat),vs=[.ref z,.int (k:Nat)]/\Jh C Cy Cp Ho H z x y hd us bs rk ks ls sts dr sh sd kvs c/\kvs.length<=900/\k<1200/\Q .non (upd H hd (.dK (putK kvs (kH k) (.int ((c k+1:Nat):Int)))))
noncomputable def dW (C Cy Cp cH:Addr):Sp:=fun vs H Q E=>∃ (Ho:Hp) (z x y hd:Addr) (us:List V) (bs:List (Str × Nat)) (rk:List (Str × Nat × Int)) (ks:List R) (ls:List (List Ln)) (sts:List Nat) (dr sh:Nat) (sd:Addr) (kvs:List (Key × V)) (c:Nat->Nat) (k:Nat),vs=[.ref z,.int (k:Nat)]/\Jh C Cy Cp Ho H z x y hd us bs rk ks ls sts dr sh sd kvs c/\kvs.length<=900/\k<1200/\(c k=0->E (.ref cH) none H)/\(0<c k->Q .non (upd H hd (.dK (putK kvs (kH k) (.int ((c k - 1:Nat):Int))))))
noncomputable def Xn (C Cy Cp:Addr):Sp:=fun vs H Q _=>∃ (Ho:Hp) (z x y hd:Addr) (us:List V) (bs:List (Str × Nat)) (rk:List (Str × Nat × Int)) (ks:List R) (ls:List (List Ln)) (sts:List Nat) (dr sh:Nat) (sd:Addr) (kvs:List (Key × V)) (c:Nat->Nat),vs=[.ref z]/\Jh C Cy Cp Ho H z x y hd us bs rk ks ls sts dr sh sd kvs c/\kvs.length<=500/\∀ H',Ak H H'->Q (.int ((Wd.mk (Ec kvs):Nat):Int)) H'
theorem gw:An ["self","key"] ["self","key"] (Ac lJ):=Be
include N T in
theorem Yt:Ao P w K mg base BR 1 aD.fQh aD.dQh ["self","key"] (eU C Cy Cp):=by
 refine N.FQh.1.ok gw (fun vs H Q E h=>?_) (fun cdv A outer s H vs Q E hr h=>?_)
 ·refine byC fun w_=>?_;obtain ⟨Ho,z,x,y,hd,us,bs,rk,ks,ls,sts,dr,sh,sd,kvs,c,k,rfl,_⟩:=h;refine w_ ?_
  rfl
 ·refine byC fun w_=>?_;obtain ⟨Ho,z,x,y,hd,us,bs,rk,ks,ls,sts,dr,sh,sd,kvs,c,k,rfl,pl,hl,hk,q⟩:=h;refine w_ ?_
  have hu:=DR hr
  refine ⟨_,(Ae (JK hu (Bg (pv 0) rfl) (pv 1) (Bj Dc (Mp hu (Bg (pv 0) rfl) (pv 1) Af ⟨rfl,rfl,rfl,rfl⟩) Af) rfl)),?_⟩
  refine byC fun w_=>?_;obtain ⟨dz,fs,h1,l1,l2,l3,lm⟩:=id pl.ply.ex;refine w_ ?_
  have hd1:=pl.d
  refine ⟨_,rfl,z,Cp,dz,fs,_,rfl,h1,T.clP,T.np_hands,l3,hd,rfl,.inl ⟨kvs,.inl hd1⟩,_,rfl,_,En.k (k:=kH k) hd1,((c k:Nat):Int),1,pl.h.getD k,rfl,?_⟩
  exact ⟨_,rfl,z,Cp,dz,fs,_,rfl,h1,T.clP,T.np_hands,l3,_,rfl,hd,_,rfl,Lq.k (k:=kH k) hd1 (BK (by omega)),q⟩
theorem iG:An ["self","key"] ["self","key"] (Ac gq):=Be
include N T in
theorem dC:Ao P w K mg base (Ow P w) 1 aD.fQl aD.dQl ["self","key"] (dW C Cy Cp cH):=by
 refine N.FQl.1.jN iG (fun vs H Q E h=>?_) (fun cdv A outer s H vs Q E hr h=>?_)
 ·refine byC fun w_=>?_;obtain ⟨Ho,z,x,y,hd,us,bs,rk,ks,ls,sts,dr,sh,sd,kvs,c,k,rfl,_⟩:=h;refine w_ ?_
  rfl
 ·refine byC fun w_=>?_;obtain ⟨Ho,z,x,y,hd,us,bs,rk,ks,ls,sts,dr,sh,sd,kvs,c,k,rfl,pl,hl,hk,q0,q1⟩:=h;refine w_ ?_
  have hu:=DR hr
  refine ⟨_,(Ag (By (Ba Df (Mp hu (Bg (pv 0) rfl) (pv 1) Af ⟨rfl,rfl,rfl,rfl⟩) Af (BZ _)) (Ae (RJ T.xH.exH rfl T.xH.mH rfl U0 (Aa Bf Ab))) Bb)
   (Ae (JK hu (Bg (pv 0) rfl) (pv 1) (Bj Ja (Fy hu (Bg (pv 0) rfl) (pv 1) (fun _ _=>rfl)) Af) rfl))),?_⟩
  refine byC fun w_=>?_;obtain ⟨dz,fs,h1,l1,l2,l3,lm⟩:=id pl.ply.ex;refine w_ ?_
  have hd1:=pl.d
  refine ⟨_,rfl,z,Cp,dz,fs,_,rfl,h1,T.clP,T.np_hands,l3,hd,rfl,.inl ⟨kvs,.inl hd1⟩,_,rfl,_,En.k (k:=kH k) hd1,?_⟩
  rw [pl.h.getD k]
  refine ⟨rfl,_,rfl,CN (fun e=>?_) (fun e=>?_)⟩
  ·have:=V.int.inj (of_decide_eq_true e)
   exact ⟨by show 1<=1000; decide,q0 (by omega)⟩
  have hc:0<c k:=Nat.pos_of_ne_zero fun e0=>e (decide_eq_true (by rw [e0]; rfl))
  have hv:Bx kvs (kH k)=some (.int ((c k:Nat):Int)):=(pl.h.v k).resolve_right fun e0=>by omega
  have g:=En.k (k:=kH k) hd1
  rw [hv] at g
  refine ⟨_,rfl,z,Cp,dz,fs,_,rfl,h1,T.clP,T.np_hands,l3,_,rfl,hd,_,rfl,g,_,_,rfl,rfl,?_⟩
  have e1:((c k:Nat):Int) - 1=((c k - 1:Nat):Int):=by omega
  have q2:=q1 hc
  rw [← e1] at q2
  exact ⟨_,rfl,z,Cp,dz,fs,_,rfl,h1,T.clP,T.np_hands,l3,_,rfl,hd,_,rfl,Lq.k (k:=kH k) hd1 (BK (by omega)),q2⟩
theorem VR {kvs:List (Key × V)} {c:Nat->Nat} (h:Ea kvs c):((kvs.filter fun kv=>match kv.2 with | .int n=>decide (0<n) | _=>false).map fun kv=>kV kv.1)=nV (Ec kvs):=by
 unfold Ec nV
 rw [List.map_map]
 refine List.map_congr_left fun kv hkv=>?_
 obtain ⟨j,rfl,_⟩:=h.e kv (List.mem_filter.mp hkv).1
 show V.int (j:Int)=V.int (((j:Int).toNat:Nat):Int)
 rw [Int.toNat_natCast]
theorem nF:An ["self"] ["self"] (Ac gF):=Be
include N T in
theorem V8:Ao P w K mg base BR 4 aD.fQe aD.dQe ["self"] (Xn C Cy Cp):=by
 have GSt:Ao P w K mg base BR 3 aD.fSt aD.dSt ["numbers"] RG:=Oo N T
 refine N.FQe.1.ok nF (fun vs H Q E h=>?_) (fun cdv A outer s H vs Q E hr h=>?_)
 ·refine byC fun w_=>?_;obtain ⟨Ho,z,x,y,hd,us,bs,rk,ks,ls,sts,dr,sh,sd,kvs,c,rfl,_⟩:=h;refine w_ ?_
  rfl
 ·refine byC fun w_=>?_;obtain ⟨Ho,z,x,y,hd,us,bs,rk,ks,ls,sts,dr,sh,sd,kvs,c,rfl,pl,hl,q⟩:=h;refine w_ ?_
  have hrSt:A_ 3 _:=hr.mono (by decide)
  have hu:=DR hr
  refine ⟨_,(Ae (Ax (Al GSt hrSt rfl N.FSt.2.2 N.FSt.1.kp N.FSt.2.1 .nil Av (Aa (Q6 (K1 rfl (HB (osc:=Ac gF) (N:=["self"]) rfl rfl (by decide +kernel)) (SN (Bg (pv 0) rfl)) (fun _ _ _ _=>(Im (Ba Om (pv 1) Af (BZ _)))) (fun _ _ _ _=>(pv 0)))) Ab)))),?_⟩
  refine byC fun w_=>?_;obtain ⟨dz,fs,h1,l1,l2,l3,lm⟩:=id pl.ply.ex;refine w_ ?_
  have hd1:=pl.d
  have nz:z ≠ hd:=fun e=>by rw [e,hd1] at h1; cases h1
  refine ⟨hd,kvs,hd1,fun ob=>?_⟩
  have d2:upd H hd (HO.frz ob (HO.dK kvs)) hd=some (.frz ob (.dK kvs)):=Ai
  have h2:upd H hd (HO.frz ob (HO.dK kvs)) z=some (.ins Cp dz fs):=by rw [Aq nz]; exact h1
  have x2:SX hd H (upd H hd (HO.frz ob (HO.dK kvs))):=SX.up
  generalize upd H hd (HO.frz ob (HO.dK kvs))=H2 at d2 h2 x2 ⊢
  refine ⟨_,rfl,z,Cp,dz,fs,_,rfl,h2,T.clP,T.np_hands,l3,hd,ob,kvs,rfl,d2,NZ (K:=K) (fun kv=>match kv.2 with | .int n=>decide (0<n) | _=>false) (fun kv=>kV kv.1) d2 (BK (by omega)) (fun kv hkv H' hs R k=>?_) (fun kv hkv _ H' hs R k=>⟨_,rfl,k H' (Ak.refl H')⟩) (fun D H3 hD s3 hl3=>?_)⟩
  ·have kk:=k H' (Ak.refl H')
   obtain ⟨j,rfl,_⟩:=pl.h.e kv hkv
   exact ⟨_,rfl,_,_,rfl,rfl,_,rfl,kk⟩
  have d3:=s3 _ _ d2
  refine ⟨d3,?_⟩
  have nD:D ≠ hd:=Ne.symm (Am d2 hD)
  rw [VR pl.h] at hl3
  refine ⟨D,Ec kvs,rfl,by rw [Aq nD]; exact hl3,by have:=QC kvs; omega,pl.h.bound,fun H5 s5=>?_⟩
  refine q H5 fun b u e=>s5 b u ?_
  by_cases hb:b=hd
  ·rw [hb,Ai,← e,hb,hd1]
  ·rw [Aq hb]
   exact s3 b u (x2 b u e hb)
noncomputable def Zh (C Cy Cp:Addr):Sp:=fun vs H Q _=>∃ (Ho:Hp) (z x y hd:Addr) (us:List V) (bs:List (Str × Nat)) (rk:List (Str × Nat × Int)) (ks:List R) (ls:List (List Ln)) (sts:List Nat) (dr sh:Nat) (sd:Addr) (kvs:List (Key × V)) (c:Nat->Nat),vs=[.ref z]/\Jh C Cy Cp Ho H z x y hd us bs rk ks ls sts dr sh sd kvs c/\(∀ n∈jC ks,isNm n)/\ks.length<=100/\sh<=sts.length/\sts.length<=100/\∀ H',Ak H H'->Q (.int ((dr ||| LK (sts.take sh):Nat):Int)) H'
theorem nG:An ["self"] ["self"] (Ac jt):=Be
include N T in
theorem Y6:Ao P w K mg base BR 3 aD.fQk aD.dQk ["self"] (Zh C Cy Cp):=by
 have GXk:Ao P w K mg base BR 2 aD.fXk aD.dXk ["self"] (bf C Cy):=Z3 N T
 refine N.FQk.1.ok nG (fun vs H Q E h=>?_) (fun cdv A outer s H vs Q E hr h=>?_)
 ·refine byC fun w_=>?_;obtain ⟨Ho,z,x,y,hd,us,bs,rk,ks,ls,sts,dr,sh,sd,kvs,c,rfl,_⟩:=h;refine w_ ?_
  rfl
 ·refine byC fun w_=>?_;obtain ⟨Ho,z,x,y,hd,us,bs,rk,ks,ls,sts,dr,sh,sd,kvs,c,rfl,pl,hn,hk,hs,hs1,q⟩:=h;refine w_ ?_
  have hrXk:A_ 2 _:=hr.mono (by decide)
  have hu:=DR hr
  refine ⟨_,(Ae (Ax (Bv (Bg (pv 0) rfl) T.clR N.FXk.2.2 GXk hrXk N.FXk.2.1 .nil Av))),?_⟩
  refine byC fun w_=>?_;obtain ⟨dz,fs,h1,l1,l2,l3,lm⟩:=id pl.ply.ex;refine w_ ?_
  have hd1:=pl.d
  refine byC fun w_=>?_;obtain ⟨dy,gs,g1,_,_,_,_,_,gm⟩:=id pl.con.c.ex;refine w_ ?_
  exact ⟨_,rfl,z,Cp,dz,fs,_,rfl,h1,T.clP,T.np_console,l2,y,dy,gs,rfl,g1,gm _ (by decide +kernel),Ho,y,x,ks,sts,dr,sh,sd,rfl,⟨⟨us,bs,rk,ls,pl.con⟩,hn,hk⟩,hs,hs1,q⟩
noncomputable def HH (cn:Nat->Str) (sz:List Nat) (rk:List (Str × Nat × Int)) (kbs:List Kb) (ls:List (List Ln)) (D n p:Nat):Prop:=∃ (cl:List Nat) (m:Nat),(∀ k,k∈cl ↔ ∃ z,kbs[k]? = some z/\z.w = "stop" /\ D.testBit k=true)/\(∀ j,m.testBit j=true ↔ Ng cn sz kbs D n j)/\p=jK sz rk kbs ls cl m
structure O7 (cn:Nat->Str) (sz:List Nat) (rk:List (Str × Nat × Int)) (kbs:List Kb) (ls:List (List Ln)) (sts:List Nat) (sh:Nat) (kvs:List (Key × V)) (c:Nat->Nat):Prop where
 kb:T9 sz.length kbs
 lg:jj rk ls
 nm:∀ n∈jC (CZ cn kbs),isNm n
 nk:(CZ cn kbs).length<=100
 sh:sh<=sts.length
 st:sts.length<=100
 kc:∀ k,0<c k->k<sz.sum
 kl:kvs.length<=500
noncomputable def Xi (C Cy Cp:Addr):Sp:=fun vs H Q _=>∃ (Ho:Hp) (z x y hd:Addr) (us:List V) (rk:List (Str × Nat × Int)) (ls:List (List Ln)) (sts:List Nat) (dr sh:Nat) (sd:Addr) (kvs:List (Key × V)) (c:Nat->Nat) (cn:Nat->Str) (sz:List Nat) (kbs:List Kb),vs=[.ref z]/\Jh C Cy Cp Ho H z x y hd us (BW cn sz) rk (CZ cn kbs) ls sts dr sh sd kvs c/\O7 cn sz rk kbs ls sts sh kvs c/\∀ (p:Nat) H',Ak H H'->HH cn sz rk kbs ls (dr ||| LK (sts.take sh)) (Wd.mk (Ec kvs)) p->Q (.int (p:Nat)) H'
theorem ik:An ["self"] ["self"] (Ac gO):=Be
include N T in
theorem WP:Ao P w K mg base BR 8 aD.fQs aD.dQs ["self"] (Xi C Cy Cp):=by
 have GQk:Ao P w K mg base BR 3 aD.fQk aD.dQk ["self"] (Zh C Cy Cp):=Y6 N T
 have GQe:Ao P w K mg base BR 4 aD.fQe aD.dQe ["self"] (Xn C Cy Cp):=V8 N T
 have GSo:Ao P w K mg base BR 7 aD.fSo aD.dSo ["organ","knobs","held"] (cF C):=aV N T
 refine N.FQs.1.ok ik (fun vs H Q E h=>?_) (fun cdv A outer s H vs Q E hr h=>?_)
 ·refine byC fun w_=>?_;obtain ⟨Ho,z,x,y,hd,us,rk,ls,sts,dr,sh,sd,kvs,c,cn,sz,kbs,rfl,_⟩:=h;refine w_ ?_
  rfl
 ·refine byC fun w_=>?_;obtain ⟨Ho,z,x,y,hd,us,rk,ls,sts,dr,sh,sd,kvs,c,cn,sz,kbs,rfl,pl,ok,q⟩:=h;refine w_ ?_
  have hrQk:A_ 3 _:=hr.mono (by decide)
  have hrQe:A_ 4 _:=hr.mono (by decide)
  have hrSo:A_ 7 _:=hr.mono (by decide)
  have hu:=DR hr
  refine ⟨_,(Ae (Ax (Al GSo hrSo rfl N.FSo.2.2 N.FSo.1.kp N.FSo.2.1 .nil Av (Aa (Bg (pv 0) rfl) (Aa (Bv (pv 0) T.clP N.FQk.2.2 GQk hrQk N.FQk.2.1 .nil Av) (Aa (Bv (pv 0) T.clP N.FQe.2.2 GQe hrQe N.FQe.2.1 .nil Av) Ab)))))),?_⟩
  refine byC fun w_=>?_;obtain ⟨dz,fs,h1,l1,l2,l3,lm⟩:=id pl.ply.ex;refine w_ ?_
  have hd1:=pl.d
  refine ⟨_,rfl,z,Cp,dz,fs,_,rfl,h1,T.clP,T.np_organ,l1,_,rfl,z,dz,fs,rfl,h1,lm _ (by decide +kernel),Ho,z,x,y,hd,us,_,rk,_,ls,sts,dr,sh,sd,kvs,c,rfl,pl,ok.nm,ok.nk,ok.sh,ok.st,fun H1 s1=>?_⟩
  refine ⟨_,rfl,z,dz,fs,rfl,s1 _ _ h1,lm _ (by decide +kernel),Ho,z,x,y,hd,us,_,rk,_,ls,sts,dr,sh,sd,kvs,c,rfl,pl.mono s1,ok.kl,fun H2 s2=>?_⟩
  exact ⟨x,cn,sz,rk,kbs,ls,_,_,rfl,(pl.con.o.o).mono (pl.con.s.trans (s1.trans s2)),ok.kb,ok.lg,Wd.Zv pl.h.bound,(fun i hi=>ok.kc i ((pl.h.mem i).mp (by rw [Wd.HD] at hi; exact of_decide_eq_true hi))),fun cl m H3 s3 hcl hm=>q _ H3 ((s1.trans s2).trans s3) ⟨cl,m,hcl,hm,rfl⟩⟩
noncomputable def eE (K:PySem.W.Frag):Sp:=fun vs H Q _=>∃ (t:Addr) (wd:Str) (v1 v2:V),vs=[.ref t]/\H t=some (.tup [.str wd,v1,v2])/\(wd = "hold" \/ wd = "leave")/\∀ H',Ak H H'->Q (.bl true) H'
theorem jw:An ["thing"] ["thing"] (Ac j4):=Be
include N T in
theorem bT:Ao P w K mg base BR 1 aD.fId aD.dId ["thing"] (eE K):=by
 refine N.FId.1.ok jw (fun vs H Q E h=>?_) (fun cdv A outer s H vs Q E hr h=>?_)
 ·refine byC fun w_=>?_;obtain ⟨t,wd,v1,v2,rfl,_⟩:=h;refine w_ ?_
  rfl
 ·refine byC fun w_=>?_;obtain ⟨t,wd,v1,v2,rfl,hp,hw,q⟩:=h;refine w_ ?_
  refine ⟨_,(Ag (By (PW.pt (Ff (CT (Ce (Az Bt rfl T.isin PyProof.Rows.boot_isinstance (Aa (pv 0) (Aa (Ci (v:=.ty "tuple") rfl T.tuple PyProof.Rows.boot_tuple rfl) Ab))))) (Ff (CT (Jx (pv 0) (fun _=>rfl))) (Fd (CT (Ce (Az Bt rfl T.isin PyProof.Rows.boot_isinstance (Aa (Ay (Aw (K:=K) rfl) (pv 0) Af (fun _ _=>rfl)) (Aa (Ci (v:=.ty "str") rfl T.str PyProof.Rows.boot_str rfl) Ab))))))))) (Ae (Ax Hn)) Bb)
   (Ae (Ax (Ck J_ (Az BV rfl T.len PySem.boot_len (Aa (pv 0) Ab)) (SJ (CP (v:=.ref aQ) rfl T.mQ rfl) (Ay (Aw (K:=K) rfl) (pv 0) Af (fun _ _=>rfl)) (DY Ab) ⟨rfl,rfl,rfl,rfl⟩) rfl)))),?_⟩
  have hq:∃ q,PySem.W.nsIn K aQ wd=some (some (.ref q))/\KTup K q [.int 3]:=by
   rcases hw with rfl | rfl
   ·exact T.qh
   ·exact T.ql
  obtain ⟨q1,e1,kt⟩:=hq
  refine ⟨_,rfl,_,"tuple",_,_,rfl,.tup hp,Qt,_,rfl,Cv ?_⟩
  refine ⟨_,rfl,_,.inr (.inl ⟨_,.inl (.inl hp),rfl⟩),Cv ?_⟩
  refine ⟨_,rfl,t,_,_,_,rfl,rfl,.inl (.inl hp),Aj (j:=0) rfl,_,"str",_,_,rfl,.str wd,Oq,_,rfl,Cv ?_⟩
  refine ⟨_,rfl,t,_,rfl,.inr (.inl (.inl hp)),aQ,rfl,T.dQ,_,rfl,t,_,_,_,rfl,rfl,.inl (.inl hp),Aj (j:=0) rfl,Ew (Nat.zero_le _),fun p1 hp1=>?_⟩
  exact ⟨wd,_,rfl,e1,.ref q1,rfl,fun _=>⟨q1,_,rfl,.inr (kt.sq _),rfl,rfl,q _ (BL hp1)⟩,fun h=>by cases h⟩
noncomputable abbrev hN (wd:Str) (n:Nat):Nat:=if wd = "hold" then n+1 else n - 1
noncomputable def bx (C Cy Cp cH:Addr):Sp:=fun vs H Q E=>∃ (Ho:Hp) (z x y hd:Addr) (us:List V) (bs:List (Str × Nat)) (rk:List (Str × Nat × Int)) (ks:List R) (ls:List (List Ln)) (sts:List Nat) (dr sh:Nat) (sd:Addr) (kvs:List (Key × V)) (c:Nat->Nat) (t:Addr) (wd:Str) (j n:Nat) (b:Str × Nat),vs=[.ref z,.ref t]/\H t=some (.tup [.str wd,.str b.1,.int (n:Nat)])/\(wd = "hold" \/ wd = "leave")/\Jh C Cy Cp Ho H z x y hd us bs rk ks ls sts dr sh sd kvs c/\kvs.length<=900/\(∀ n∈bs.map (·.1),isNm n)/\bs[j]? = some b/\(bs.map (·.1)).idxOf b.1=j/\n<b.2/\((bs.take j).map (·.2)).sum+n<1200 /\
 (wd = "leave"->c (((bs.take j).map (·.2)).sum+n)=0->∀ H',Ak H H'->E (.ref cH) none H')/\((wd = "leave"->0<c (((bs.take j).map (·.2)).sum+n))->∀ H',Ak H H'->Q .non (upd H' hd (.dK (putK kvs (kH (((bs.take j).map (·.2)).sum+n)) (.int ((hN wd (c (((bs.take j).map (·.2)).sum+n)):Nat):Int))))))
theorem jc:An ["self","deed"] ["self","deed"] (Ac jO):=Be
include N T in
theorem Ys:Ao P w K mg base (Ow P w) 6 aD.fQa aD.dQa ["self","deed"] (bx C Cy Cp cH):=by
 have GId:Ao P w K mg base BR 1 aD.fId aD.dId ["thing"] (eE K):=bT N T
 have GKy:Ao P w K mg base BR 5 aD.fKy aD.dKy ["organ","name","number"] (ZJ C):=Zg N T
 have GQh:Ao P w K mg base BR 1 aD.fQh aD.dQh ["self","key"] (eU C Cy Cp):=Yt N T
 have GQl:Ao P w K mg base (Ow P w) 1 aD.fQl aD.dQl ["self","key"] (dW C Cy Cp cH):=dC N T
 have GDz:Ao P w K mg base BR 1 aD.fDz aD.dDz ["console","word","parts"] aO:=Yu N T
 refine N.FQa.1.jN jc (fun vs H Q E h=>?_) (fun cdv A outer s H vs Q E hr h=>?_)
 ·refine byC fun w_=>?_;obtain ⟨Ho,z,x,y,hd,us,bs,rk,ks,ls,sts,dr,sh,sd,kvs,c,t,wd,j,n,b,rfl,_⟩:=h;refine w_ ?_
  rfl
 ·refine byC fun w_=>?_;obtain ⟨Ho,z,x,y,hd,us,bs,rk,ks,ls,sts,dr,sh,sd,kvs,c,t,wd,j,n,b,rfl,ht,hw,pl,hl,hn,hb,hj,hlt,hk,q0,q1⟩:=h;refine w_ ?_
  have hrId:A_ 1 _:=hr.mono (by decide)
  have hrKy:A_ 5 _:=hr.mono (by decide)
  have hrQh:A_ 1 _:=hr.mono (by decide)
  have hrQl:A_ 1 _:=hr.mono (by decide)
  have hrDz:A_ 1 _:=hr.mono (by decide)
  have hu:=DR hr
  refine ⟨_,(Ag (By (CT (Ce (Al GId hrId rfl N.FId.2.2 N.FId.1.kp N.FId.2.1 .nil Av (Aa (pv 1) Ab)))) (Ae D_) Bb)
   (Ae (By (Ba Df (Ay (Aw (K:=K) rfl) (pv 1) Af (fun _ _=>rfl)) Bf (BZ _)) (Ae (Ei (CV (pv 0) T.clP N.FQh.2.2 GQh hrQh N.FQh.2.1 .nil Av (Aa (Al GKy hrKy rfl N.FKy.2.2 N.FKy.1.kp N.FKy.2.1 .nil Av (Aa (Bg (pv 0) rfl) (Aa (Ay (Aw (K:=K) rfl) (pv 1) Af (fun _ _=>rfl)) (Aa (Ay (Aw (K:=K) rfl) (pv 1) Af (fun _ _=>rfl)) Ab)))) Ab)))) (Ae (By (Ba Df (Ay (Aw (K:=K) rfl) (pv 1) Af (fun _ _=>rfl)) Bf (BZ _)) (Ae (Ei (CV (pv 0) T.clP N.FQl.2.2 GQl hrQl N.FQl.2.1 .nil Ob (Aa (Al GKy hrKy rfl N.FKy.2.2 N.FKy.1.kp N.FKy.2.1 .nil Av (Aa (Bg (pv 0) rfl) (Aa (Ay (Aw (K:=K) rfl) (pv 1) Af (fun _ _=>rfl)) (Aa (Ay (Aw (K:=K) rfl) (pv 1) Af (fun _ _=>rfl)) Ab)))) Ab)))) (Ae D_)))))),?_⟩
  refine byC fun w_=>?_;obtain ⟨dz,fs,h1,l1,l2,l3,lm⟩:=id pl.ply.ex;refine w_ ?_
  have hd1:=pl.d
  refine ⟨_,rfl,t,wd,_,_,rfl,ht,hw,fun H1 s1=>⟨_,rfl,Cv ?_⟩⟩
  have pl1:=pl.mono s1
  have ht1:=s1 _ _ ht
  refine ⟨_,rfl,t,_,_,_,rfl,rfl,.inl (.inl ht1),Aj (j:=0) rfl,rfl,_,rfl,?_⟩
  rcases hw with rfl | rfl
  ·refine CN (fun _=>?_) (fun e=>absurd (decide_eq_true rfl) e)
   refine ⟨_,rfl,z,dz,fs,rfl,s1 _ _ h1,lm _ (by decide +kernel),_,rfl,z,Cp,dz,fs,_,rfl,s1 _ _ h1,T.clP,T.np_organ,l1,_,rfl,t,_,_,_,rfl,rfl,.inl (.inl ht1),Aj (j:=1) rfl,_,rfl,t,_,_,_,rfl,rfl,.inl (.inl ht1),Aj (j:=2) rfl,x,us,bs,rk,ks,ls,sts,j,n,b,rfl,pl1.con.o.mono pl1.con.s,hn,hb,hj,hlt,fun H2 s2=>?_⟩
   exact ⟨Ho,z,x,y,hd,us,bs,rk,ks,ls,sts,dr,sh,sd,kvs,c,_,rfl,pl1.mono s2,hl,hk,q1 (fun e=>absurd e (by decide +kernel)) H2 (s1.trans s2)⟩
  ·refine CN (fun e=>absurd (V.str.inj (of_decide_eq_true e)) (by decide +kernel)) (fun _=>?_)
   refine ⟨_,rfl,t,_,_,_,rfl,rfl,.inl (.inl ht1),Aj (j:=0) rfl,rfl,_,rfl,CN (fun _=>?_) (fun e=>absurd (decide_eq_true rfl) e)⟩
   refine ⟨_,rfl,z,dz,fs,rfl,s1 _ _ h1,lm _ (by decide +kernel),_,rfl,z,Cp,dz,fs,_,rfl,s1 _ _ h1,T.clP,T.np_organ,l1,_,rfl,t,_,_,_,rfl,rfl,.inl (.inl ht1),Aj (j:=1) rfl,_,rfl,t,_,_,_,rfl,rfl,.inl (.inl ht1),Aj (j:=2) rfl,x,us,bs,rk,ks,ls,sts,j,n,b,rfl,pl1.con.o.mono pl1.con.s,hn,hb,hj,hlt,fun H2 s2=>?_⟩
   exact ⟨Ho,z,x,y,hd,us,bs,rk,ks,ls,sts,dr,sh,sd,kvs,c,_,rfl,pl1.mono s2,hl,hk,fun e0=>q0 rfl e0 H2 (s1.trans s2),fun e0=>q1 (fun _=>e0) H2 (s1.trans s2)⟩
noncomputable def T_ (a b:Nat):Nat:=a - (a &&& b)
theorem N7 (a b:Nat):Builtin.bitAnd ((a:Nat):Int) (Builtin.bitNot ((b:Nat):Int))=((T_ a b:Nat):Int):=by
 unfold Builtin.bitAnd Builtin.bitNot T_
 have h1:decide (0<=((a:Nat):Int))=true:=decide_eq_true (by omega)
 have h2:decide (0 <= -((b:Nat):Int) - 1)=false:=decide_eq_false (by omega)
 rw [h1,h2]
 show ((a:Nat):Int) - (((((a:Nat):Int).toNat &&& (-(-((b:Nat):Int) - 1) - 1).toNat:Nat)):Int)=_
 have e1:(-(-((b:Nat):Int) - 1) - 1).toNat=b:=by omega
 rw [e1,Int.toNat_natCast]
 have:=@Nat.and_le_left a b
 omega
theorem Sy (a b:Nat):T_ a b<=a:=Nat.sub_le _ _
structure Dd (C Cy Cp:Addr) (H:Hp) (Ho:Hp) (z x y hd:Addr) (us:List V) (rk:List (Str × Nat × Int)) (ls:List (List Ln)) (sts:List Nat) (dr sh:Nat) (sd:Addr) (kvs:List (Key × V)) (c:Nat->Nat) (cn:Nat->Str) (sz:List Nat) (kbs:List Kb) (t:Addr) (wd:Str) (j n ky:Nat) (b:Str × Nat):Prop where
 tp:H t=some (.tup [.str wd,.str b.1,.int ((n:Nat):Int)])
 w:wd = "hold" \/ wd = "leave"
 p:Jh C Cy Cp Ho H z x y hd us (BW cn sz) rk (CZ cn kbs) ls sts dr sh sd kvs c
 o:O7 cn sz rk kbs ls sts sh kvs c
 l:kvs.length<=400
 nm:∀ n∈(BW cn sz).map (·.1),isNm n
 bj:(BW cn sz)[j]? = some b
 bi:((BW cn sz).map (·.1)).idxOf b.1=j
 nb:n<b.2
 ke:(((BW cn sz).take j).map (·.2)).sum+n=ky
 k1:ky<1200
 k2:ky<sz.sum
 bd:∀ n p,HH cn sz rk kbs ls (dr ||| LK (sts.take sh)) n p->p<2 ^ 1200
noncomputable def YX (C Cy Cp cH:Addr):Sp:=fun vs H Q E=>∃ (Ho:Hp) (z x y hd:Addr) (us:List V) (rk:List (Str × Nat × Int)) (ls:List (List Ln)) (sts:List Nat) (dr sh:Nat) (sd:Addr) (kvs:List (Key × V)) (c:Nat->Nat) (cn:Nat->Str) (sz:List Nat) (kbs:List Kb) (t:Addr) (wd:Str) (j n ky:Nat) (b:Str × Nat),vs=[.ref z,.ref t]/\Dd C Cy Cp H Ho z x y hd us rk ls sts dr sh sd kvs c cn sz kbs t wd j n ky b /\
 (wd = "leave"->c ky=0->∀ H',Ak H H'->E (.ref cH) none H') /\
 ((wd = "leave"->0<c ky)->∀ (p1 p2:Nat) (T D1 D2:Addr) (H':Hp),SX hd H H'->H' hd=some (.dK (putK kvs (kH ky) (.int ((hN wd (c ky):Nat):Int))))->HH cn sz rk kbs ls (dr ||| LK (sts.take sh)) (Wd.mk (Ec kvs)) p1->HH cn sz rk kbs ls (dr ||| LK (sts.take sh)) (Wd.mk (Ec (putK kvs (kH ky) (.int ((hN wd (c ky):Nat):Int))))) p2 ->
  H' T=some (.tup [.ref D1,.ref D2])->H' D1=some (.lst (nV (Wd.mem (T_ p2 p1))))->H' D2=some (.lst (nV (Wd.mem (T_ p1 p2))))->Q (.ref T) H')
theorem XS:An ["self","deed","ahead","behind"] ["self","deed"] (Ac mV):=Be
include N T in
theorem Zb:Ao P w K mg base (Ow P w) 9 aD.fQd aD.dQd ["self","deed"] (YX C Cy Cp cH):=by
 have GQs:Ao P w K mg base BR 8 aD.fQs aD.dQs ["self"] (Xi C Cy Cp):=WP N T
 have GQa:Ao P w K mg base (Ow P w) 6 aD.fQa aD.dQa ["self","deed"] (bx C Cy Cp cH):=Ys N T
 have GMe:Ao P w K mg base BR 2 aD.fMe aD.dMe ["some"] VJ:=RX N T
 refine N.FQd.1.jN XS (fun vs H Q E h=>?_) (fun cdv A outer s H vs Q E hr h=>?_)
 ·refine byC fun w_=>?_;obtain ⟨Ho,z,x,y,hd,us,rk,ls,sts,dr,sh,sd,kvs,c,cn,sz,kbs,t,wd,j,n,ky,b,rfl,_⟩:=h;refine w_ ?_
  rfl
 ·refine byC fun w_=>?_;obtain ⟨Ho,z,x,y,hd,us,rk,ls,sts,dr,sh,sd,kvs,c,cn,sz,kbs,t,wd,j,n,ky,b,rfl,dd,q0,q1⟩:=h;refine w_ ?_
  have hrQs:A_ 8 _:=hr.mono (by decide)
  have hrQa:A_ 6 _:=hr.mono (by decide)
  have hrMe:A_ 2 _:=hr.mono (by decide)
  have hu:=DR hr
  refine ⟨_,(Ag (BX (i:=2) XS.nd rfl (Or.inl rfl) (Bv (pv 0) T.clP N.FQs.2.2 GQs hrQs N.FQs.2.1 .nil Av))
   (Ag (Ei (CV (pv 0) T.clP N.FQa.2.2 GQa hrQa N.FQa.2.1 .nil Ob (Aa (pv 1) Ab)))
   (Ag (BX (i:=3) XS.nd rfl (Or.inl rfl) (Bv (pv 0) T.clP N.FQs.2.2 GQs hrQs N.FQs.2.1 .nil Av))
   (Ae (Ax (DY (Aa (Al GMe hrMe rfl N.FMe.2.2 N.FMe.1.kp N.FMe.2.1 .nil Av (Aa (Bj Kp (pv 3) (Jp RC (pv 2))) Ab)) (Aa (Al GMe hrMe rfl N.FMe.2.2 N.FMe.1.kp N.FMe.2.1 .nil Av (Aa (Bj Kp (pv 2) (Jp RC (pv 3))) Ab)) Ab)))))))),?_⟩
  have pl:=dd.p
  refine byC fun w_=>?_;obtain ⟨dz,fs,h1,l1,l2,l3,lm⟩:=id pl.ply.ex;refine w_ ?_
  have hd1:=pl.d
  refine ⟨_,rfl,z,dz,fs,rfl,h1,lm _ (by decide +kernel),Ho,z,x,y,hd,us,rk,ls,sts,dr,sh,sd,kvs,c,cn,sz,kbs,rfl,pl,dd.o,fun p1 H1 s1 S1=>?_⟩
  have pl1:=pl.mono s1
  refine ⟨_,rfl,z,dz,fs,rfl,s1 _ _ h1,lm _ (by decide +kernel),_,rfl,Ho,z,x,y,hd,us,_,rk,_,ls,sts,dr,sh,sd,kvs,c,t,wd,j,n,b,rfl,s1 _ _ dd.tp,dd.w,pl1,(by have:=dd.l; omega),dd.nm,dd.bj,dd.bi,dd.nb,(by rw [dd.ke]; exact dd.k1),?_,?_⟩
  ·rw [dd.ke]
   exact fun e1 e2 H2 s2=>q0 e1 e2 H2 (s1.trans s2)
  rw [dd.ke]
  intro hc H2 s2
  have pl2:=(pl1.mono s2).put (pl.h.put (n:=hN wd (c ky)) dd.k1)
  have x2:SX hd H (upd H2 hd (.dK (putK kvs (kH ky) (.int ((hN wd (c ky):Nat):Int))))):=(SX.of (s1.trans s2)).trans SX.up
  have q1:=q1 hc
  generalize ek:putK kvs (kH ky) (.int ((hN wd (c ky):Nat):Int))=kvs' at *
  generalize upd H2 hd (.dK kvs')=H3 at pl2 x2 ⊢
  refine byC fun w_=>?_;obtain ⟨dz3,fs3,h13,l13,l23,l33,lm3⟩:=id pl2.ply.ex;refine w_ ?_
  have ok2:O7 cn sz rk kbs ls sts sh kvs' (setC c ky (hN wd (c ky))):=⟨dd.o.kb,dd.o.lg,dd.o.nm,dd.o.nk,dd.o.sh,dd.o.st,(fun k hk=>by
   by_cases e:k=ky
   ·rw [e]; exact dd.k2
   ·rw [show setC c ky (hN wd (c ky)) k=c k from if_neg e] at hk
    exact dd.o.kc k hk),(by have:=dd.l; have:=@Lz kvs (kH ky) (.int ((hN wd (c ky):Nat):Int)); rw [ek] at this; omega)⟩
  refine ⟨_,rfl,z,dz3,fs3,rfl,h13,lm3 _ (by decide +kernel),Ho,z,x,y,hd,us,rk,ls,sts,dr,sh,sd,kvs',_,cn,sz,kbs,rfl,pl2,ok2,fun p2 H4 s4 S2=>?_⟩
  have b1:=dd.bd _ _ S1
  have b2:=dd.bd _ _ S2
  refine ⟨_,rfl,_,rfl,_,rfl,_,_,rfl,rfl,T_ p2 p1,congrArg (fun v:Int=>[V.int v]) (N7 p2 p1),Nat.lt_of_le_of_lt (Sy _ _) b2,fun D1 H5 hD1 s5 l5=>?_⟩
  refine ⟨_,rfl,_,rfl,_,rfl,_,_,rfl,rfl,T_ p1 p2,congrArg (fun v:Int=>[V.int v]) (N7 p1 p2),Nat.lt_of_le_of_lt (Sy _ _) b1,fun D2 H6 hD2 s6 l6=>?_⟩
  refine ⟨by show 2<=sizeLine; decide,fun T7 hT7=>?_⟩
  have s7:=BL (o:=HO.tup [.ref D1,.ref D2]) hT7
  have s37:=((s4.trans s5).trans s6).trans s7
  exact q1 p1 p2 T7 D1 D2 _ (x2.trans (SX.of s37)) (s37 _ _ pl2.d) S1 S2 Ai (s7 _ _ (s6 _ _ l5)) (s7 _ _ l6)
noncomputable def Z2:Sp:=fun vs H Q _=>∃ (c b m:Int),vs=[.int c,.int b,.int m]/\0<m/\∀ r:Nat,(r:Int)<m->Q (.int (r:Nat)) H
theorem dh:An ["_law_cell","_law_by","_law_many","_law_number"] ["_law_cell","_law_by","_law_many"] (Ac il):=Be
include N T in
theorem eY:Ao P w K mg base BR 1 aD.fMi aD.dMi ["_law_cell","_law_by","_law_many"] Z2:=by
 refine N.FMi.1.ok dh (fun vs H Q E h=>?_) (fun cdv A outer s H vs Q E hr h=>?_)
 ·refine byC fun w_=>?_;obtain ⟨c,b,m,rfl,_⟩:=h;refine w_ ?_
  rfl
 ·refine byC fun w_=>?_;obtain ⟨c,b,m,rfl,hm,q⟩:=h;refine w_ ?_
  refine ⟨_,(Ag (BX (i:=3) dh.nd rfl (Or.inl rfl) (Bj K4 (Bj Qv (Bj Dc (Bj K4 (pv 0) Af) Af) (pv 1)) Af))
   (Ae (Ax (Bj K4 (Bj Uz (Bj K4 (Bj Qv (pv 3) (pv 3)) Af) Af) (pv 2))))),?_⟩
  have c0:0<=c % 1000003/\c % 1000003<1000003:=⟨Int.emod_nonneg _ (by decide),Int.emod_lt_of_pos _ (by decide)⟩
  refine ⟨_,rfl,_,_,rfl,rfl,(by show (0:Int)<1000003; decide),_,_,rfl,rfl,_,rfl,_,_,rfl,rfl,.inl ⟨by omega,by omega⟩,_,_,rfl,rfl,(by show (0:Int)<2147483647; decide),?_⟩
  have n0:0<=(c % 1000003+7) * b % 2147483647/\(c % 1000003+7) * b % 2147483647<2147483647:=⟨Int.emod_nonneg _ (by decide),Int.emod_lt_of_pos _ (by decide)⟩
  refine ⟨_,rfl,_,rfl,_,_,rfl,rfl,.inl ⟨by omega,by omega⟩,_,_,rfl,rfl,(by show (0:Int)<2147483629; decide),_,_,rfl,rfl,⟨by decide,by decide⟩,_,rfl,_,_,rfl,rfl,hm,?_⟩
  have e0:=Int.emod_nonneg (((c % 1000003+7) * b % 2147483647) * ((c % 1000003+7) * b % 2147483647) % 2147483629 / 64) (show m ≠ 0 by omega)
  have e1:=Int.emod_lt_of_pos (((c % 1000003+7) * b % 2147483647) * ((c % 1000003+7) * b % 2147483647) % 2147483629 / 64) hm
  have:=q (((c % 1000003+7) * b % 2147483647) * ((c % 1000003+7) * b % 2147483647) % 2147483629 / 64 % m).toNat (by omega)
  rw [Int.toNat_of_nonneg e0] at this
  exact this
noncomputable def Yx (C Cy Cp:Addr):Sp:=fun vs H Q _=>∃ (Ho:Hp) (z x y hd:Addr) (us:List V) (rk:List (Str × Nat × Int)) (ls:List (List Ln)) (sts:List Nat) (dr sh:Nat) (sd:Addr) (kvs:List (Key × V)) (c:Nat->Nat) (cn:Nat->Str) (sz:List Nat) (kbs:List Kb) (t:Addr) (wd:Str) (j n ky:Nat) (b:Str × Nat),vs=[.ref z,.ref t]/\Dd C Cy Cp H Ho z x y hd us rk ls sts dr sh sd kvs c cn sz kbs t wd j n ky b /\
 (wd = "leave"->c ky=0->∀ H',Ak H H'->Q (.str "not held") H') /\
 ((wd = "leave"->0<c ky)->∀ (p1 p2:Nat) (T D1 D2:Addr) (H':Hp),SX hd H H'->H' hd=some (.dK (putK kvs (kH ky) (.int ((hN wd (c ky):Nat):Int))))->HH cn sz rk kbs ls (dr ||| LK (sts.take sh)) (Wd.mk (Ec kvs)) p1->HH cn sz rk kbs ls (dr ||| LK (sts.take sh)) (Wd.mk (Ec (putK kvs (kH ky) (.int ((hN wd (c ky):Nat):Int))))) p2 ->
  H' T=some (.tup [.ref D1,.ref D2])->H' D1=some (.lst (nV (Wd.mem (T_ p2 p1))))->H' D2=some (.lst (nV (Wd.mem (T_ p1 p2))))->Q (.ref T) H')
theorem Uu:An ["_law_player","_law_deed","_law_told"] ["_law_player","_law_deed"] (Ac gU):=Be
include N T in
theorem bH:Ao P w K mg base BR 10 aD.fLx aD.dLx ["_law_player","_law_deed"] (Yx C Cy Cp):=by
 have GQd:Ao P w K mg base (Ow P w) 9 aD.fQd aD.dQd ["self","deed"] (YX C Cy Cp cH):=Zb N T
 refine N.FLx.1.ok Uu (fun vs H Q E h=>?_) (fun cdv A outer s H vs Q E hr h=>?_)
 ·refine byC fun w_=>?_;obtain ⟨Ho,z,x,y,hd,us,rk,ls,sts,dr,sh,sd,kvs,c,cn,sz,kbs,t,wd,j,n,ky,b,rfl,_⟩:=h;refine w_ ?_
  rfl
 ·refine byC fun w_=>?_;obtain ⟨Ho,z,x,y,hd,us,rk,ls,sts,dr,sh,sd,kvs,c,cn,sz,kbs,t,wd,j,n,ky,b,rfl,dd,q0,q1⟩:=h;refine w_ ?_
  have hrQd:A_ 9 _:=hr.mono (by decide)
  have pl:=dd.p
  refine byC fun w_=>?_;obtain ⟨dz,fs,h1,l1,l2,l3,lm⟩:=id pl.ply.ex;refine w_ ?_
  have hd1:=pl.d
  refine ⟨_,(Ag (BX (i:=2) Uu.nd rfl (Or.inl rfl) Hv)
   (Ag (Vo (fun ER=>(S7 (Vm (i:=2) Uu.nd rfl (Or.inl rfl) (Rh (pv 0) T.clP N.FQd.2.2 GQd hrQd N.FQd.2.1 .nil (Aa (pv 1) Ab) rfl)))) rfl T.xH.mH T.xH.exH (fun x=>(Ae (BX (i:=2) Uu.nd rfl (Or.inl rfl) Bf))))
   (Ae (Ax (pv 2))))),?_⟩
  refine ⟨_,rfl,z,dz,fs,rfl,h1,lm _ (by decide +kernel),_,rfl,Ho,z,x,y,hd,us,rk,ls,sts,dr,sh,sd,kvs,c,cn,sz,kbs,t,wd,j,n,ky,b,rfl,dd,?_,?_⟩
  ·intro e1 e2 H' s'
   exact ⟨cH,rfl,T.xH.mHH,_,rfl,q0 e1 e2 H' s'⟩
  ·intro hc p1 p2 T7 D1 D2 H' x' d' S1 S2 l1' l2' l3'
   exact ⟨_,rfl,q1 hc p1 p2 T7 D1 D2 H' x' d' S1 S2 l1' l2' l3'⟩
noncomputable def Zf:Sp:=fun vs H Q _=>∃ (T D1 D2:Addr),vs=[.ref T]/\H T=some (.tup [.ref D1,.ref D2])/\H D1=some (.lst [])/\H D2=some (.lst [])/\∀ H',Ak H H'->Q (.bl true) H'
theorem nH:An ["_law_told"] ["_law_told"] (Ac lN):=Be
include N T in
theorem aA:Ao P w K mg base BR 1 aD.fQu aD.dQu ["_law_told"] Zf:=by
 refine N.FQu.1.ok nH (fun vs H Q E h=>?_) (fun cdv A outer s H vs Q E hr h=>?_)
 ·refine byC fun w_=>?_;obtain ⟨T0,D1,D2,rfl,_⟩:=h;refine w_ ?_
  rfl
 ·refine byC fun w_=>?_;obtain ⟨T0,D1,D2,rfl,hT,h1,h2,q⟩:=h;refine w_ ?_
  refine ⟨_,(Ag (By (PW.pt (Ff (CT (Ce (Az Bt rfl T.isin PyProof.Rows.boot_isinstance (Aa (pv 0) (Aa (Ci (v:=.ty "tuple") rfl T.tuple PyProof.Rows.boot_tuple rfl) Ab))))) (Fd (Ba Jf (Az BV rfl T.len PySem.boot_len (Aa (pv 0) Ab)) Af (BZ _))))) (Ae (Ax Hn)) Bb)
   (Ae (Ax (Cj (Az Bt rfl T.isin PyProof.Rows.boot_isinstance (Aa (Ay (Aw (K:=K) rfl) (pv 0) Af (fun _ _=>rfl)) (Aa (Ci (v:=.ty "list") rfl T.list PyProof.Rows.boot_list rfl) Ab))) (Cj (Az Bt rfl T.isin PyProof.Rows.boot_isinstance (Aa (Ay (Aw (K:=K) rfl) (pv 0) Af (fun _ _=>rfl)) (Aa (Ci (v:=.ty "list") rfl T.list PyProof.Rows.boot_list rfl) Ab))) (Cj (Ck (LR 0 (Nat.lt_of_le_of_lt (Nat.add_le_add_left (by decide:1<=64) _) hr.units)) (Ay (Aw (K:=K) rfl) (pv 0) Af (fun _ _=>rfl)) (FQ Ab) (BZ _)) (Cq (Ck (LR 0 (Nat.lt_of_le_of_lt (Nat.add_le_add_left (by decide:1<=64) _) hr.units)) (Ay (Aw (K:=K) rfl) (pv 0) Af (fun _ _=>rfl)) (FQ Ab) (BZ _))))))))),?_⟩
  refine ⟨_,rfl,_,"tuple",_,_,rfl,.tup hT,Qt,_,rfl,Cv ?_⟩
  refine ⟨_,rfl,T0,_,rfl,.inr (.inl (.inl hT)),rfl,_,rfl,Cv ?_⟩
  refine ⟨_,rfl,T0,_,_,_,rfl,rfl,.inl (.inl hT),Aj (j:=0) rfl,_,"list",_,_,rfl,.lst h1,Ov,_,rfl,EY ?_⟩
  refine ⟨_,rfl,T0,_,_,_,rfl,rfl,.inl (.inl hT),Aj (j:=1) rfl,_,"list",_,_,rfl,.lst h2,Ov,_,rfl,EY ?_⟩
  refine ⟨_,rfl,T0,_,_,_,rfl,rfl,.inl (.inl hT),Aj (j:=0) rfl,Ew (by simp),fun p3 hp3=>?_⟩
  obtain ⟨H3,eqH,s3,l3⟩:=Hj (o:=HO.lst []) hp3
  rw [eqH]
  refine ⟨D1,p3,rfl,rfl,.inr ⟨D1,p3,_,_,rfl,rfl,.inl ⟨s3 _ _ h1,l3⟩,.nil⟩,_,rfl,EY ?_⟩
  refine ⟨_,rfl,T0,_,_,_,rfl,rfl,.inl (.inl (s3 _ _ hT)),Aj (j:=1) rfl,Ew (by simp),fun p4 hp4=>?_⟩
  have s4:=BL (o:=HO.lst []) hp4
  exact ⟨D2,p4,rfl,rfl,.inr ⟨D2,p4,_,_,rfl,rfl,.inl ⟨s4 _ _ (s3 _ _ h2),Ai⟩,.nil⟩,q _ (s3.trans s4)⟩
noncomputable def Ij (hs:List Nat) (i:Nat):List Nat:=(List.range i).filter fun k=>decide (0<hs.getD k 0)
theorem J7 (hs:List Nat) (i:Nat):Ij hs (i+1)=if 0<hs.getD i 0 then Ij hs i++[i] else Ij hs i:=by
 unfold Ij
 rw [List.range_succ,List.filter_append]
 by_cases h:0<hs.getD i 0
 ·rw [if_pos h,List.filter_cons,if_pos (decide_eq_true h),List.filter_nil]
 ·rw [if_neg h,List.filter_cons,if_neg (fun e=>h (of_decide_eq_true e)),List.filter_nil,List.append_nil]
noncomputable def Yj (K:PySem.W.Frag):Sp:=fun vs H Q _=>∃ (L:Addr) (hs:List Nat),vs=[.ref L]/\H L=some (.lst (nV hs))/\hs.length<=500/\Q (.int ((Wd.mk (Ij hs hs.length):Nat):Int)) H
theorem Uc:An ["_law_hands","_law_found","_law_k"] ["_law_hands"] (Ac lD):=Be
include N T in
theorem Zk:Ao P w K mg base BR 1 aD.fBz aD.dBz ["_law_hands"] (Yj K):=by
 refine N.FBz.1.ok Uc (fun vs H Q E h=>?_) (fun cdv A outer s H vs Q E hr h=>?_)
 ·obtain ⟨L,hs,rfl,_⟩:=h
  rfl
 ·refine byC fun w_=>?_;obtain ⟨L,hs,rfl,hL,hl,q⟩:=h;refine w_ ?_
  refine ⟨_,(Ag (BX (i:=1) Uc.nd rfl (Or.inl rfl) Af)
   (Ag (Es PassesOwn.never rfl (Fi rfl T.range (Aa (Az BV rfl T.len PySem.boot_len (Aa (pv 0) Ab)) Ab)) (CW (i:=2) Uc.nd rfl (Or.inl rfl)) (Ae (By (Ba Om (Ay DQ (pv 0) (pv 2) (fun _ _=>rfl)) Af (BZ _)) (Ae (BX (i:=1) Uc.nd rfl (Or.inl rfl) (Bj Dc (pv 1) (Bj Nv Af (pv 2))))) Bb)))
   (Ae (Ax (pv 1))))),?_⟩
  have hS:Cu K H L (nV hs):=.inl (.inl hL)
  have ln:(nV hs).length=hs.length:=List.length_map ..
  refine ⟨_,rfl,L,_,rfl,.inl hS,_,rfl,by rw [ln]; omega,by rw [ln]; omega,?_⟩
  rw [ln,Int.toNat_natCast]
  refine KQ (lo:=0) (n:=hs.length) (fun i σ H4=>H4=H/\∃ v2,σ=[some (.ref L),some (.int ((Wd.mk (Ij hs i):Nat):Int)),v2]) ⟨rfl,_,rfl⟩ ?_ ?_
  ·rintro i σ H4 hi ⟨rfl,v2,rfl⟩
   have e0:(0+(i:Int))=((i:Nat):Int):=Int.zero_add _
   rw [e0]
   have hg:(nV hs)[i]? = some (.int ((hs.getD i 0:Nat):Int)):=by
    unfold nV
    rw [List.getElem?_map,List.getElem?_eq_getElem hi,List.getD_eq_getElem?_getD,List.getElem?_eq_getElem hi]
    rfl
   refine ⟨_,rfl,_,rfl,L,_,_,_,rfl,rfl,hS,Aj hg,_,_,rfl,rfl,_,rfl,CN (fun h=>?_) (fun h=>?_)⟩
   ·have h0:0<hs.getD i 0:=by have:=of_decide_eq_true h; omega
    have hni:(Wd.mk (Ij hs i)).testBit i=false:=by
     rw [Wd.HD]
     refine decide_eq_false fun z=>?_
     have:=List.mem_range.mp (List.mem_filter.mp z).1
     omega
    have e1:((Wd.mk (Ij hs i):Nat):Int)+1 * 2 ^ ((i:Nat):Int).toNat=((Wd.mk (Ij hs (i+1)):Nat):Int):=by
     rw [J7,if_pos h0,Wd.Od,YG hni,Int.one_mul,Int.toNat_natCast,Fg,Int.natCast_add]
    refine ⟨_,rfl,_,rfl,_,_,rfl,rfl,⟨by omega,by omega,by decide⟩,_,_,rfl,rfl,?_⟩
    show Cw 1 (V.int (((Wd.mk (Ij hs i):Nat):Int)+1 * 2 ^ ((i:Nat):Int).toNat)) _ _ _
    rw [e1]
    exact ⟨rfl,_,rfl⟩
   ·have h0:¬ 0<hs.getD i 0:=fun z=>h (decide_eq_true (by omega))
    rw [J7,if_neg h0]
    exact ⟨rfl,_,rfl⟩
  ·rintro σ H4 ⟨rfl,v2,rfl⟩
   exact ⟨_,rfl,q⟩
end
end K42
end PartK42a
section PartK42n
set_option maxHeartbeats 4000000
namespace K42
open PySem L2 Og
structure dU (K:PySem.W.Frag) (aB aP aM:Addr):Prop where
 f:WY K aB aP aM
 mT:∃ t,PySem.W.nsIn K aM "step" = some (some (.int 12 t))
section
variable {K:PySem.W.Frag} {aB aP aM:Addr}
noncomputable def CG (k:Nat):Str:=if k<30 then Txt.mul (fM k) 2 else "open"
theorem jn:CG 0 = "aa":=by decide +kernel
theorem RT:∀ k,k<3->isNm (CG k):=by unfold isNm; decide +kernel
theorem RP:∀ i,i<3->∀ j,j<3->CG i=CG j->i=j:=by decide +kernel
theorem Sh:∀ i,i<3->(CG i).length=2:=by decide +kernel
theorem Q0:isNm "abc":=by unfold isNm; decide +kernel
theorem PJ:isNm "open":=by unfold isNm; decide +kernel
theorem YB {i:Nat} (h:i<3):CG i ≠ "abc":=fun e=>by
 have:=Sh i h
 rw [e] at this
 exact absurd this (by decide +kernel)
theorem Uj {i:Nat} (h:i<3):CG i ≠ "open":=fun e=>by
 have:=Sh i h
 rw [e] at this
 exact absurd this (by decide +kernel)
noncomputable def Iw (sz:List Nat) (k:Nat):Str × Nat:=(CG k,sz.getD k 0)
theorem Ju (sz:List Nat):BW CG sz=(List.range sz.length).map (Iw sz):=by
 refine List.ext_getElem? fun i=>?_
 rw [List.getElem?_map]
 by_cases h:i<sz.length
 ·rw [Dn (List.getElem?_eq_getElem h),List.getElem?_range h]
  show some (CG i,sz[i])=some (CG i,sz.getD i 0)
  rw [List.getD_eq_getElem?_getD,List.getElem?_eq_getElem h]
  rfl
 ·rw [List.getElem?_eq_none (by rw [GK]; omega),List.getElem?_eq_none (by rw [List.length_range]; omega)]
  rfl
noncomputable abbrev Gd:List (Str × Nat × Int):=[("abc",5,1)]
noncomputable abbrev M7:R:=⟨"stop","open",[.str "aa"]⟩
noncomputable abbrev ZW:R:=⟨"line","abc",[.int 0,.int 0,.int 0]⟩
noncomputable abbrev Iz:List Kb:=[.pl "stop" 0]
noncomputable abbrev HN:List (List Ln):=[[⟨0,0,0,0⟩]]
theorem Zj:CZ CG Iz=[M7]:=by
 show [Rv CG 0 (.pl "stop" 0)]=_
 show [(⟨"stop",CG 30,[.str (CG 0)]⟩:R)]=_
 rw [jn]
 rfl
structure NB (sz:List Nat):Prop where
 l0:1<=sz.length
 l3:sz.length<=3
 b:∀ k,k<sz.length->1<=sz.getD k 0/\sz.getD k 0<=61
theorem cV {α:Type} (f:Nat->α) (m:Nat):(List.range (m+1)).map f=(List.range m).map f++[f m]:=by
 rw [List.range_succ,List.map_append]
 rfl
theorem Vx (F:dU K aB aP aM) {sz:List Nat} (h:NB sz):∀ m,m<=sz.length->Jq K aB aP aM ((List.range m).map fun k=>FT (Iw sz k)) ((List.range m).map (Iw sz)) [] [] [] []
 | 0,_=>Jq.nil
 | m+1,hm=>by
  have ih:=Vx F h m (by omega)
  have:=h.l3
  rw [cV,cV]
  exact ih.Yl F.f (RT m (by omega)) (fun b hb=>by
   obtain ⟨k,hk,rfl⟩:=List.mem_map.mp hb
   have hk:=List.mem_range.mp hk
   exact fun e=>absurd (RP k (by omega) m (by omega) e) (by omega)) (fun _ z=>nomatch z) (fun _ z=>nomatch z) (by rw [List.length_map,List.length_range]; omega) (h.b m (by omega)).1 (h.b m (by omega)).2
noncomputable def Ii (sz:List Nat):List R:=((List.range sz.length).map fun k=>FT (Iw sz k))++[G3 ("abc",5,1),M7,ZW]
theorem gZ (F:dU K aB aP aM) {sz:List Nat} (h:NB sz):Jq K aB aP aM (Ii sz) (BW CG sz) Gd [M7] HN []:=by
 have l0:=h.l0
 have l3:=h.l3
 have inb:∀ {P:Str × Nat->Prop},(∀ k,k<3->P (Iw sz k))->∀ b∈(List.range sz.length).map (Iw sz),P b:=fun {P} hP b hb=>by
  obtain ⟨k,hk,rfl⟩:=List.mem_map.mp hb
  exact hP k (by have:=List.mem_range.mp hk; omega)
 have b1:=(Vx F h sz.length (Nat.le_refl _)).rank F.f (t:="abc") (n:=5) (wi:=1) Q0 (inb fun k hk=>YB hk) (fun _ z=>nomatch z) (fun _ z=>nomatch z) (by decide) (by decide) (by decide) (by decide) (by decide)
 have hm:(("aa" : Str),sz.getD 0 0)∈(List.range sz.length).map (Iw sz):=List.mem_map.mpr ⟨0,List.mem_range.mpr (by omega),by unfold Iw; rw [jn]⟩
 have b2:=b1.plain F.f (wd:="stop") (t:="open") (.inl rfl) PJ (inb fun k hk=>Uj hk) (fun b hb=>by rw [List.mem_singleton.mp hb]; show ("abc" : Str) ≠ "open"; decide +kernel) (fun _ z=>nomatch z) (by decide) (by rw [← jn]; exact RT 0 (by decide)) hm
 have b3:=b2.line F.f (l0:=[]) (ls:=[]) (Tl.stop _ _ _) (by decide) (j:=0) (t:="abc") (sh:=0) (lo:=0) (hi:=0) rfl (by simp) Q0 hm (by decide) (by have:=(h.b 0 (by omega)).1; omega) (by decide) (by decide) (by decide) (by decide)
 rw [Ju]
 have e:Ii sz=((List.range sz.length).map fun k=>FT (Iw sz k))++[G3 ("abc",5,1)]++[M7]++[ZW]:=by
  unfold Ii
  simp
 rw [e]
 exact b3
theorem ZX (F:dU K aB aP aM) {sz:List Nat} (h:NB sz) {H:Hp} {vs:List V} (hv:Paired (fun (r:R) v=>TupAt H r.v v) (Ii sz) vs):Rows H (Ky H) vs/\iz K aB aP aM (Ky H) vs (BW CG sz) Gd [M7]/\linesOf Gd (vs.map (Ky H))=HN/\((vs.filter (pw (Ky H) "step")).map fun v=>stN [M7] (Ky H v))=[]:=by
 have l0:=h.l0
 have l3:=h.l3
 refine (gZ F h).fin hv (by rw [GK]; exact h.l0) (by rw [GK]; omega) (fun b hb=>?_) (by decide) (fun r hr=>by rw [List.mem_singleton.mp hr]; decide) (by decide) ?_ (by simp) (by simp) (by unfold Ii; simp; omega)
 ·rw [Ju] at hb
  obtain ⟨k,hk,rfl⟩:=List.mem_map.mp hb
  exact (h.b k (List.mem_range.mp hk)).2
 ·rw [Ju,List.map_map]
  refine KC fun i j x hi hj=>?_
  rw [List.getElem?_map] at hi hj
  obtain ⟨i',hi1,hi2⟩:=Option.map_eq_some_iff.mp hi
  obtain ⟨j',hj1,hj2⟩:=Option.map_eq_some_iff.mp hj
  have li:i<sz.length:=by have:=(List.getElem?_eq_some_iff.mp hi1).1; rwa [List.length_range] at this
  have lj:j<sz.length:=by have:=(List.getElem?_eq_some_iff.mp hj1).1; rwa [List.length_range] at this
  rw [List.getElem?_range li] at hi1
  rw [List.getElem?_range lj] at hj1
  cases hi1
  cases hj1
  exact RP i (by omega) j (by omega) (hi2.trans hj2.symm)
theorem PL {cn:Nat->Str} {sz:List Nat} {rk:List (Str × Nat × Int)} {kbs:List Kb} {ls:List (List Ln)} {n p:Nat} (h:HH cn sz rk kbs ls (0 ||| LK ([].take 0)) n p):p=0:=by
 obtain ⟨cl,m,h1,_,rfl⟩:=h
 have:cl=[]:=by
  cases cl with
  | nil=>rfl
  | cons k l =>
   obtain ⟨z,_,_,hb⟩:=(h1 k).mp (List.mem_cons_self ..)
   have e:(0 ||| LK (([]:List Nat).take 0))=0:=by decide
   rw [e,Nat.zero_testBit] at hb
   cases hb
 rw [this]
 rfl
theorem c7 {sz:List Nat} (h:NB sz) {kvs:List (Key × V)} {c:Nat->Nat} (hc:∀ k,0<c k->k<sz.sum) (hl:kvs.length<=500):O7 CG sz Gd Iz HN [] 0 kvs c:=by
 refine ⟨⟨fun k hk=>?_,fun i k hi=>?_,by decide⟩,fun l hl=>?_,fun n hn=>?_,by decide,by decide,by decide,hc,hl⟩
 ·rw [List.mem_singleton.mp hk]
  exact ⟨by have:=h.l0; omega,.inr rfl⟩
 ·cases i with
  | zero =>
   cases hi
   decide +kernel
  | succ i=>simp at hi
 ·rw [List.mem_singleton.mp hl]
  refine ⟨by decide,fun ln hln=>?_⟩
  rw [List.mem_singleton.mp hln]
  exact ⟨by decide,by decide,by decide,by decide,by decide,by decide⟩
 ·rw [Zj] at hn
  have:n = "open":=List.mem_singleton.mp hn
  rw [this]
  exact PJ
theorem Yn {sz:List Nat} (h:NB sz) {j:Nat} (hj:j<sz.length):((BW CG sz).map (·.1)).idxOf (CG j)=j:=by
 have l3:=h.l3
 have hl:j<((BW CG sz).map (·.1)).length:=by rw [List.length_map,GK]; exact hj
 have e:((BW CG sz).map (·.1))[j]=CG j:=by
  rw [List.getElem_map]
  have:=List.getElem?_eq_getElem (l:=BW CG sz) (i:=j) (by rw [GK]; exact hj)
  rw [Dn (List.getElem?_eq_getElem hj)] at this
  rw [← Option.some.inj this]
 have nd:((BW CG sz).map (·.1)).Nodup:=by
  rw [Ju,List.map_map]
  refine KC fun i j x hi hj=>?_
  rw [List.getElem?_map] at hi hj
  obtain ⟨i',hi1,hi2⟩:=Option.map_eq_some_iff.mp hi
  obtain ⟨j',hj1,hj2⟩:=Option.map_eq_some_iff.mp hj
  have li:i<sz.length:=by have:=(List.getElem?_eq_some_iff.mp hi1).1; rwa [List.length_range] at this
  have lj:j<sz.length:=by have:=(List.getElem?_eq_some_iff.mp hj1).1; rwa [List.length_range] at this
  rw [List.getElem?_range li] at hi1
  rw [List.getElem?_range lj] at hj1
  cases hi1
  cases hj1
  exact RP i (by omega) j (by omega) (hi2.trans hj2.symm)
 rw [← e]
 exact nd.idxOf_getElem j hl
theorem gQ {sz:List Nat} (h:NB sz):∀ n∈(BW CG sz).map (·.1),isNm n:=fun n hn=>by
 rw [Ju,List.map_map] at hn
 obtain ⟨k,hk,rfl⟩:=List.mem_map.mp hn
 have:=h.l3
 exact RT k (by have:=List.mem_range.mp hk; omega)
end
section
variable {P:Program} {w:World} {K:PySem.W.Frag} {mg:Str->Option Value} {base:Heap} {C Cy Cp cH cO aQ aN aK aB aP aM:Addr} {aD:Ad}
variable (N:iy K mg C Cy Cp aD) (T:Txt K w.params mg C Cy Cp cH cO aQ aN aK aB aP aM)
theorem Q7 {c:Str} (hc:c.length=1) {m:Nat} (hm:m<=8):MulOk c ((m:Nat):Int):=by
 refine ⟨?_,fun _ _=>?_,fun _ _=>?_⟩
 ·rw [Bool.or_eq_false_iff,decide_eq_false_iff_not,decide_eq_false_iff_not]
  omega
 ·rw [hc]
  by_cases h0:m=0
  ·subst h0
   contradiction
  have:(1:Int)<=(2 ^ 63 - 1) / (m:Int):=by
   rw [Int.le_ediv_iff_mul_le (by omega)]
   omega
  show ¬ ((1:Int) > (2 ^ 63 - 1) / (m:Int))
  omega
 ·rw [hc,Int.toNat_natCast]
  have h1:∀ j<9,Builtin.Str.tooLong (1 * j)=false:=by decide +kernel
  exact h1 m (by omega)
noncomputable def eN (K:PySem.W.Frag):Sp:=fun vs H Q _=>∃ (a:Addr) (k:Nat) (ns:List Int),vs=[.ref a,.int (k:Nat)]/\Cu K H a (ns.map V.int)/\∀ i:Int,Q (.int i) H
theorem lL:An ["_law_script","_law_k"] ["_law_script","_law_k"] (Ac kE):=Be
include N T in
theorem ZD:Ao P w K mg base BR 1 aD.fCe aD.dCe ["_law_script","_law_k"] (eN K):=by
 refine N.FCe.1.ok lL (fun vs H Q E h=>?_) (fun cdv A outer s H vs Q E hr h=>?_)
 ·refine byC fun w_=>?_;obtain ⟨a,k,ns,rfl,_⟩:=h;refine w_ ?_
  rfl
 ·refine byC fun w_=>?_;obtain ⟨a,k,ns,rfl,hS,q⟩:=h;refine w_ ?_
  refine ⟨_,(Ag (By (Ba Ip (pv 1) (Az BV rfl T.len PySem.boot_len (Aa (pv 0) Ab)) (BZ _)) (Ae (Ax (Ay DQ (pv 0) (pv 1) (fun _ _=>rfl)))) Bb)
   (Ae (Ax Af))),?_⟩
  refine ⟨_,rfl,_,rfl,a,_,rfl,.inl hS,_,_,rfl,rfl,_,rfl,?_⟩
  refine CN (fun h1=>?_) (fun _=>q 0)
  have hlt:k<ns.length:=by have:=of_decide_eq_true h1; rw [List.length_map] at this; omega
  exact ⟨_,rfl,_,rfl,a,_,_,.int ns[k],rfl,rfl,hS,Aj (by rw [List.getElem?_map,List.getElem?_eq_getElem hlt]; rfl),q _⟩
noncomputable def Ou (K:PySem.W.Frag):Sp:=fun vs H Q _=>∃ (a:Addr) (ns:List Int),vs=[.ref a]/\Cu K H a (ns.map V.int)/\ns.length<=63/\∀ H',Q (.bl true) H'
theorem X7 {H:Hp} {T:Addr} {zs:List V} (h:H T=some (.tup zs)):TupAt H zs (.ref T):=⟨T,rfl,h⟩
theorem Tr:∀ k,k<3->("abc" : Str).cps.toList[k]? = some (97+k):=by decide +kernel
theorem V9 {k:Nat} (h:k<3):Txt.mul ⟨#[97+k]⟩ 2=CG k:=(if_pos (by omega)).symm
theorem Um (ns:List Int):∃ ms:List Int,Dq (ns.map V.int) none (some 80)=ms.map V.int/\ms.length<=ns.length:=by
 unfold Dq
 rw [← List.map_drop,← List.map_take]
 exact ⟨_,rfl,by rw [List.length_take,List.length_drop]; omega⟩
theorem ZM {c:TT} {t t2 u:TS} {D:Ends} {σ:St} {H:Hp} (P:St->Hp->Prop) (h1:∀ D':Ends,(∀ σ' H',P σ' H'->D'.nx σ' H')->Wm c t t2 D' σ H) (h2:∀ σ' H',P σ' H'->u D σ' H'):QD (Wm c t t2) u D σ H:=h1 { D with nx:=u D } h2
theorem jF {a b u:TS} {D:Ends} {σ:St} {H:Hp} (P:St->Hp->Prop) (h1:∀ D':Ends,(∀ σ' H',P σ' H'->D'.nx σ' H')->QD a b D' σ H) (h2:∀ σ' H',P σ' H'->u D σ' H'):QD a (QD b u) D σ H:=h1 { D with nx:=u D } h2
theorem QS:∀ l:List Nat,(l.map fun n:Nat=>((n:Nat):Int)).sum=((l.sum:Nat):Int)
 | []=>rfl
 | a::l=>by rw [List.map_cons,List.sum_cons,List.sum_cons,QS l,Int.natCast_add]
theorem OD (l:List Nat):(l.map fun n:Nat=>((n:Nat):Int)).map V.int=nV l:=by
 rw [List.map_map]
 rfl
theorem Ve {kvs:List (Key × V)} {c:Nat->Nat} {hs:List Nat} (h:Ea kvs c) (e:∀ k,c k=hs.getD k 0):Wd.mk (Ec kvs)=Wd.mk (Ij hs hs.length):=by
 refine Nat.eq_of_testBit_eq fun k=>?_
 rw [Wd.HD,Wd.HD]
 have e1:k∈Ec kvs ↔ k∈Ij hs hs.length:=by
  rw [h.mem,e]
  unfold Ij
  rw [List.mem_filter,List.mem_range,decide_eq_true_eq]
  constructor
  ·intro hk
   refine ⟨Classical.byContradiction fun z=>?_,hk⟩
   rw [List.getD_eq_getElem?_getD,List.getElem?_eq_none (by omega)] at hk
   exact absurd hk (by decide)
  ·exact fun hk=>hk.2
 exact decide_eq_decide.mpr e1
noncomputable def Tq (r:Nat):Str:=if r<3 then "hold" else "leave"
theorem Zz:∀ r,r<5->([V.str "hold",.str "hold",.str "hold",.str "leave",.str "leave"]:List V)[r]? = some (.str (Tq r))
 | 0,_=>rfl
 | 1,_=>rfl
 | 2,_=>rfl
 | 3,_=>rfl
 | 4,_=>rfl
 | r+5,h=>absurd h (by omega)
theorem d8 (r:Nat):Tq r = "hold" \/ Tq r = "leave":=by
 unfold Tq
 split
 ·exact .inl rfl
 ·exact .inr rfl
theorem O5:∀ (l:List Nat) (j n:Nat),n<l.getD j 0->(l.take j).sum+n<l.sum
 | [],j,n,h=>by simp at h
 | a::l,0,n,h=>by
  have h':n<a:=h
  show 0+n<(a::l).sum
  rw [List.sum_cons]
  omega
 | a::l,j+1,n,h=>by
  have:=O5 l j n h
  rw [List.take_succ_cons,List.sum_cons,List.sum_cons]
  omega
theorem Q4 {l:List Nat} {i n:Nat} (hi:i<l.length) (k:Nat):(l.set i n).getD k 0=if k=i then n else l.getD k 0:=by
 rw [List.getD_eq_getElem?_getD,List.getElem?_set]
 by_cases e:i=k
 ·subst e
  rw [if_pos rfl,if_pos hi,if_pos rfl]
  rfl
 ·rw [if_neg e,if_neg (Ne.symm e),List.getD_eq_getElem?_getD]
theorem gN {i:Nat} {v:V} {σ:St} {H:Hp} {Q:St->Hp->Prop} (h:Q (σ.set i (some v)) H):Cw i v σ H Q:=h
theorem rep0 (n:Nat):(List.replicate n [V.int 0]).flatten=nV (List.replicate n 0):=by
 induction n with
 | zero=>rfl
 | succ n ih=>rw [List.replicate_succ,List.flatten_cons,ih,List.replicate_succ]; rfl
theorem Eb:An ["_law_script","_law_sizes","_law_k","_law_rows","_law_organ","_law_player","_law_beside","_law_hands","_law_cell","_law_at","_law_number","_law_key","_law_word","_law_told","_law_found"] ["_law_script"] (Ac J0):=Be
theorem Wx {f:Addr} {fd:FuncData} (F:CQ K "law" "law" J0 f fd) (N:iy K mg C Cy Cp aD) (T:Txt K w.params mg C Cy Cp cH cO aQ aN aK aB aP aM) (F0:dU K aB aP aM):Ao P w K mg base BR 12 f fd ["_law_script"] (Ou K):=by
 have GCe:Ao P w K mg base BR 1 aD.fCe aD.dCe ["_law_script","_law_k"] (eN K):=ZD N T
 have GMi:Ao P w K mg base BR 1 aD.fMi aD.dMi ["_law_cell","_law_by","_law_many"] Z2:=eY N T
 have GOi:Ao P w K mg base BR 9 aD.fOi aD.dOi ["self","rows"] (ZR K aB aP aM C):=dw N T
 have GQi:Ao P w K mg base BR 3 aD.fQi aD.dQi ["self","organ"] (Yg Cy Cp):=dI N T
 have GLx:Ao P w K mg base BR 10 aD.fLx aD.dLx ["_law_player","_law_deed"] (Yx C Cy Cp):=bH N T
 have GQu:Ao P w K mg base BR 1 aD.fQu aD.dQu ["_law_told"] Zf:=aA N T
 have GBz:Ao P w K mg base BR 1 aD.fBz aD.dBz ["_law_hands"] (Yj K):=Zk N T
 have GQe:Ao P w K mg base BR 4 aD.fQe aD.dQe ["self"] (Xn C Cy Cp):=V8 N T
 have GQs:Ao P w K mg base BR 8 aD.fQs aD.dQs ["self"] (Xi C Cy Cp):=WP N T
 refine F.ok Eb (fun vs H Q E h=>?_) (fun cdv A outer s H vs Q E hr h=>?_)
 ·obtain ⟨a,ns,rfl,_⟩:=h
  rfl
 ·refine byC fun w_=>?_;obtain ⟨a,ns,rfl,hS,hlen,q⟩:=h;refine w_ ?_
  have hrCe:A_ 1 _:=hr.mono (by decide)
  have hrMi:A_ 1 _:=hr.mono (by decide)
  have hrOi:A_ 10 _:=hr.mono (by decide)
  have hrQi:A_ 4 _:=hr.mono (by decide)
  have hrLx:A_ 10 _:=hr.mono (by decide)
  have hrQu:A_ 1 _:=hr.mono (by decide)
  have hrBz:A_ 1 _:=hr.mono (by decide)
  have hrQe:A_ 4 _:=hr.mono (by decide)
  have hrQs:A_ 8 _:=hr.mono (by decide)
  have hu:=DR hr
  refine ⟨_,(@Ag _ _ _ _ _ (@DX _ _ _ _ _ _ 1 Eb.nd rfl (Or.inr rfl) (@FQ _ _ _ _ Ab) rfl (Or.inl rfl)) (@Ag _ _ _ _ _ (Es PassesOwn.never rfl (Fi rfl T.range (@Bh _ _ _ _ _ rfl (Bj Dc Af (Al GMi hrMi rfl N.FMi.2.2 N.FMi.1.kp N.FMi.2.1 .nil Av (@Bh _ _ _ _ _ rfl (Al GCe hrCe rfl N.FCe.2.2 N.FCe.1.kp N.FCe.2.1 .nil Av (@Bh _ _ _ _ _ rfl (pv 0) (@Bh _ _ _ _ _ rfl Af Ab))) (@Bh _ _ _ _ _ rfl Af (@Bh _ _ _ _ _ rfl Af Ab))))) Ab)) (CW (i:=2) Eb.nd rfl (Or.inl rfl)) (@Ae _ _ _ (Ei (KD PySem.F.plainAttrs_list PySem.F.slot_list_append PySem.F.type_list_append El (pv 1) (@Bh _ _ _ _ _ rfl (Bj Dc Af (Al GMi hrMi rfl N.FMi.2.2 N.FMi.1.kp N.FMi.2.1 .nil Av (@Bh _ _ _ _ _ rfl (Bj Dc (Al GCe hrCe rfl N.FCe.2.2 N.FCe.1.kp N.FCe.2.1 .nil Av (@Bh _ _ _ _ _ rfl (pv 0) (@Bh _ _ _ _ _ rfl Af Ab))) (pv 2)) (@Bh _ _ _ _ _ rfl Af (@Bh _ _ _ _ _ rfl Af Ab))))) Ab))))) (@Ag _ _ _ _ _ (Oi (i:=3) Eb.nd rfl rfl rfl (BP (osc:=Ac J0) (N:=["_law_script","_law_sizes","_law_k","_law_rows","_law_organ","_law_player","_law_beside","_law_hands","_law_cell","_law_at","_law_number","_law_key","_law_word","_law_told","_law_found"]) rfl rfl (by decide +kernel)) (Fi rfl T.range (@Bh _ _ _ _ _ rfl (Az BV rfl T.len PySem.boot_len (@Bh _ _ _ _ _ rfl (pv 1) Ab)) Ab)) (fun _ _ _ _=>CK) (fun _ _ _ _=>(@DY _ _ _ _ _ (@Bh _ _ _ _ _ rfl Bf (@Bh _ _ _ _ _ rfl (Bj Jw (@Ay _ _ _ _ _ _ _ Qw Bf (pv 0) (fun _ _=>rfl)) Af) (@Bh _ _ _ _ _ rfl (@Ay _ _ _ _ _ _ _ (Em (K:=K) rfl) (pv 2) (pv 0) (fun _ _=>rfl)) Ab)))))) (@Ag _ _ _ _ _ (@DX _ _ _ _ _ _ 4 Eb.nd rfl (Or.inl rfl) (JC N.FOi.2.2 GOi hrOi rfl T.mC N.FOi.2.1 .nil Av (@Bh _ _ _ _ _ rfl (Bj X6 (pv 3) (@FQ _ _ _ _ (@Bh _ _ _ _ _ rfl (@DY _ _ _ _ _ (@Bh _ _ _ _ _ rfl Bf (@Bh _ _ _ _ _ rfl Bf (@Bh _ _ _ _ _ rfl Af (@Bh _ _ _ _ _ rfl Af Ab))))) (@Bh _ _ _ _ _ rfl (@DY _ _ _ _ _ (@Bh _ _ _ _ _ rfl Bf (@Bh _ _ _ _ _ rfl Bf (@Bh _ _ _ _ _ rfl Bf Ab)))) (@Bh _ _ _ _ _ rfl (@DY _ _ _ _ _ (@Bh _ _ _ _ _ rfl Bf (@Bh _ _ _ _ _ rfl Bf (@Bh _ _ _ _ _ rfl Af (@Bh _ _ _ _ _ rfl Af (@Bh _ _ _ _ _ rfl Af Ab)))))) Ab))))) Ab)) rfl (Or.inl rfl)) (@Ag _ _ _ _ _ (@DX _ _ _ _ _ _ 5 Eb.nd rfl (Or.inl rfl) (JC N.FQi.2.2 GQi hrQi rfl T.mCP N.FQi.2.1 .nil Av (@Bh _ _ _ _ _ rfl (pv 4) Ab)) rfl (Or.inl rfl)) (@Ag _ _ _ _ _ (@DX _ _ _ _ _ _ 6 Eb.nd rfl (Or.inl rfl) (JC N.FQi.2.2 GQi hrQi rfl T.mCP N.FQi.2.1 .nil Av (@Bh _ _ _ _ _ rfl (pv 4) Ab)) rfl (Or.inl rfl)) (@Ag _ _ _ _ _ (@DX _ _ _ _ _ _ 7 Eb.nd rfl (Or.inl rfl) (Bj XC (@FQ _ _ _ _ (@Bh _ _ _ _ _ rfl Af Ab)) (Az (JV rfl) rfl T.sum PyProof.Rows.boot_sum (@Bh _ _ _ _ _ rfl (pv 1) Ab))) rfl (Or.inl rfl)) (@Ag _ _ _ _ _ (Es PassesOwn.never rfl (Bp (Di Gr (pv 0) Ej (Eg Af))) (CW (i:=8) Eb.nd rfl (Or.inl rfl)) (@Ag _ _ _ _ _ (@DX _ _ _ _ _ _ 9 Eb.nd rfl (Or.inl rfl) (Al GMi hrMi rfl N.FMi.2.2 N.FMi.1.kp N.FMi.2.1 .nil Av (@Bh _ _ _ _ _ rfl (pv 8) (@Bh _ _ _ _ _ rfl Af (@Bh _ _ _ _ _ rfl (Az BV rfl T.len PySem.boot_len (@Bh _ _ _ _ _ rfl (pv 1) Ab)) Ab)))) rfl (Or.inl rfl)) (@Ag _ _ _ _ _ (@DX _ _ _ _ _ _ 10 Eb.nd rfl (Or.inl rfl) (Al GMi hrMi rfl N.FMi.2.2 N.FMi.1.kp N.FMi.2.1 .nil Av (@Bh _ _ _ _ _ rfl (pv 8) (@Bh _ _ _ _ _ rfl Af (@Bh _ _ _ _ _ rfl (@Ay _ _ _ _ _ _ _ DQ (pv 1) (pv 9) (fun _ _=>rfl)) Ab)))) rfl (Or.inl rfl)) (@Ag _ _ _ _ _ (@By _ _ _ _ _ _ _ _ (Ba Om (Al GMi hrMi rfl N.FMi.2.2 N.FMi.1.kp N.FMi.2.1 .nil Av (@Bh _ _ _ _ _ rfl (pv 8) (@Bh _ _ _ _ _ rfl Af (@Bh _ _ _ _ _ rfl Af Ab)))) Af (BZ _)) (@Ae _ _ _ (@DX _ _ _ _ _ _ 10 Eb.nd rfl (Or.inl rfl) (Al GMi hrMi rfl N.FMi.2.2 N.FMi.1.kp N.FMi.2.1 .nil Av (@Bh _ _ _ _ _ rfl (pv 8) (@Bh _ _ _ _ _ rfl Af (@Bh _ _ _ _ _ rfl (Az (Pq rfl) rfl T.min PyProof.Rows.boot_min (@Bh _ _ _ _ _ rfl Af (@Bh _ _ _ _ _ rfl (@Ay _ _ _ _ _ _ _ DQ (pv 1) (pv 9) (fun _ _=>rfl)) Ab))) Ab)))) rfl (Or.inl rfl))) Bb) (@Ag _ _ _ _ _ (@DX _ _ _ _ _ _ 11 Eb.nd rfl (Or.inl rfl) (Bj Dc (Az (JV rfl) rfl T.sum PyProof.Rows.boot_sum (@Bh _ _ _ _ _ rfl (Di Gr (pv 1) Ej (Eg (pv 9))) Ab)) (pv 10)) rfl (Or.inl rfl)) (@Ag _ _ _ _ _ (@DX _ _ _ _ _ _ 12 Eb.nd rfl (Or.inl rfl) (@Ay _ _ _ _ _ _ _ DQ (@FQ _ _ _ _ (@Bh _ _ _ _ _ rfl Bf (@Bh _ _ _ _ _ rfl Bf (@Bh _ _ _ _ _ rfl Bf (@Bh _ _ _ _ _ rfl Bf (@Bh _ _ _ _ _ rfl Bf Ab)))))) (Al GMi hrMi rfl N.FMi.2.2 N.FMi.1.kp N.FMi.2.1 .nil Av (@Bh _ _ _ _ _ rfl (pv 8) (@Bh _ _ _ _ _ rfl Af (@Bh _ _ _ _ _ rfl Af Ab)))) (fun _ _=>rfl)) rfl (Or.inl rfl)) (@Ag _ _ _ _ _ (@DX _ _ _ _ _ _ 13 Eb.nd rfl (Or.inl rfl) (Al GLx hrLx rfl N.FLx.2.2 N.FLx.1.kp N.FLx.2.1 .nil Av (@Bh _ _ _ _ _ rfl (pv 5) (@Bh _ _ _ _ _ rfl (@DY _ _ _ _ _ (@Bh _ _ _ _ _ rfl (pv 12) (@Bh _ _ _ _ _ rfl (Bj Jw (@Ay _ _ _ _ _ _ _ Qw Bf (pv 9) (fun _ _=>rfl)) Af) (@Bh _ _ _ _ _ rfl (pv 10) Ab)))) Ab))) rfl (Or.inl rfl)) (@Ag _ _ _ _ _ (@By _ _ _ _ _ _ _ _ (PW.pt (Mt (Ba Df (pv 12) Bf (BZ _)) (K3 (Ba Df (@Ay _ _ _ _ _ _ _ DQ (pv 7) (pv 11) (fun _ _=>rfl)) Af (BZ _))))) (@Ae _ _ _ (@By _ _ _ _ _ _ _ _ (Ba Jf (pv 13) Bf (BZ _)) (@Ae _ _ _ (@Ax _ _ _ _ Hn)) Bb)) (@Ag _ _ _ _ _ (UV (pv 7) (pv 11) (Bj Dc (@Ay _ _ _ _ _ _ _ DQ (pv 7) (pv 11) (fun _ _=>rfl)) (@Ay _ _ _ _ _ _ _ DQ (@FQ _ _ _ _ (@Bh _ _ _ _ _ rfl (Jp JX Af) (@Bh _ _ _ _ _ rfl Af Ab))) (De Pk rfl T.int PyProof.Rows.boot_int (@Bh _ _ _ _ _ rfl (Ck Df (pv 12) Bf (BZ _)) Ab)) (fun _ _=>rfl))) rfl) (@Ae _ _ _ (@By _ _ _ _ _ _ _ _ (CT (Ce (Al GQu hrQu rfl N.FQu.2.2 N.FQu.1.kp N.FQu.2.1 .nil Av (@Bh _ _ _ _ _ rfl (pv 13) Ab)))) (@Ae _ _ _ (@Ax _ _ _ _ Hn)) Bb)))) (@Ag _ _ _ _ _ (@DX _ _ _ _ _ _ 14 Eb.nd rfl (Or.inl rfl) (Bv (pv 5) T.clP N.FQe.2.2 GQe hrQe N.FQe.2.1 .nil Av) rfl (Or.inl rfl)) (@Ae _ _ _ (@By _ _ _ _ _ _ _ _ (PW.pt (Ff (CT (Ce (Az Bt rfl T.isin PyProof.Rows.boot_isinstance (@Bh _ _ _ _ _ rfl (pv 14) (@Bh _ _ _ _ _ rfl (Ci (v:=.ty "int") rfl T.int PyProof.Rows.boot_int rfl) Ab))))) (Ff (Ce (Az Bt rfl T.isin PyProof.Rows.boot_isinstance (@Bh _ _ _ _ _ rfl (pv 14) (@Bh _ _ _ _ _ rfl (Ci (v:=.ty "bool") rfl T.bool PyProof.Rows.boot_bool rfl) Ab)))) (Fd (Ba Jf (pv 14) (Al GBz hrBz rfl N.FBz.2.2 N.FBz.1.kp N.FBz.2.1 .nil Av (@Bh _ _ _ _ _ rfl (pv 7) Ab)) (BZ _)))))) (@Ae _ _ _ (@Ax _ _ _ _ Hn)) Bb))))))))))) (@Ae _ _ _ (@Ax _ _ _ _ (Cj (Ck Df (Bv (pv 6) T.clP N.FQe.2.2 GQe hrQe N.FQe.2.1 .nil Av) Af (BZ _)) (Cq (Ck Df (Bv (pv 5) T.clP N.FQs.2.2 GQs hrQs N.FQs.2.1 .nil Av) Af (BZ _)))))))))))))),?_⟩
  refine ⟨Ew (by simp),fun pS hpS=>?_⟩
  have s1:=BL (o:=HO.lst []) hpS
  have l1:upd H pS (HO.lst []) pS=some (.lst (nV [])):=Ai
  generalize upd H pS (HO.lst [])=H1 at s1 l1 ⊢
  refine ⟨_,rfl,a,0,ns,rfl,s1.seq hS,fun i0=>⟨_,_,_,rfl,by decide,fun r hr3=>⟨_,_,rfl,rfl,_,rfl,by omega,by omega,?_⟩⟩⟩
  refine KQ (lo:=0) (n:=(1+((r:Nat):Int)).toNat) (fun i σ H4=>Ak H H4/\∃ (sz:List Nat) (v2:Option V),sz.length=i/\(∀ k,k<i->1<=sz.getD k 0/\sz.getD k 0<=61)/\H4 pS=some (.lst (nV sz))/\σ=[some (.ref a),some (.ref pS),v2,none,none,none,none,none,none,none,none,none,none,none,none]) ⟨s1,[],_,rfl,(fun k hk=>absurd hk (by omega)),l1,rfl⟩ ?_ ?_
  case refine_1 =>
   rintro i σ H4 hi ⟨s4,sz,v2,hl,hb,l4,rfl⟩
   refine ⟨_,rfl,.inl ⟨rfl,_,.inl (.inl l4)⟩,_,rfl,a,1,ns,rfl,s4.seq hS,fun i1=>⟨_,rfl,_,_,rfl,rfl,_,_,_,rfl,by decide,fun r2 h2=>⟨_,_,rfl,rfl,pS,_,_,rfl,rfl,l4,BK (by unfold nV; rw [List.length_map]; omega),?_⟩⟩⟩
   refine ⟨fun b o e=>by rw [Aq (Am e hpS)]; exact s4 b o e,sz++[1+r2],_,(by rw [List.length_append,hl]; rfl),(fun k hk=>?_),?_,rfl⟩
   ·by_cases e:k=i
    ·subst e
     rw [List.getD_eq_getElem?_getD,List.getElem?_append_right (by omega),hl,Nat.sub_self]
     show 1<=1+r2/\1+r2<=61
     omega
    ·have:=hb k (by omega)
     rw [List.getD_eq_getElem?_getD,List.getElem?_append_left (by omega),← List.getD_eq_getElem?_getD]
     exact this
   ·rw [Ai]
    unfold nV
    rw [List.map_append]
    rfl
  rintro σ H2 ⟨s2,sz,v2,hl,hb,l2,rfl⟩
  have S42:NB sz:=⟨by omega,by omega,fun k hk=>hb k (by omega)⟩
  have hl3:=S42.l3
  have hl0:=S42.l0
  clear hb hr3 l1 s1
  have hSS:Cu K H2 pS (nV sz):=.inl (.inl l2)
  have lz:(nV sz).length=sz.length:=List.length_map ..
  refine ⟨_,rfl,pS,_,rfl,.inl hSS,_,rfl,by rw [lz]; omega,by rw [lz]; omega,?_⟩
  rw [lz,Int.toNat_natCast]
  have gsz:∀ k,k<sz.length->(nV sz)[k]? = some (.int ((sz.getD k 0:Nat):Int)):=fun k hk=>by
   unfold nV
   rw [List.getElem?_map,List.getElem?_eq_getElem hk,List.getD_eq_getElem?_getD,List.getElem?_eq_getElem hk]
   rfl
  refine J6 (n:=sz.length) (fun k=>(FT (Iw sz k)).v) (BK (by omega)) (fun k hk H3 s3 R kk=>?_) (fun pR H3 vr hpR s3 l3 P3=>?_)
  ·refine ⟨_,rfl,_,_,_,rfl,rfl,Ew (by decide +kernel),Aj (Tr k (by omega)),_,_,rfl,rfl,Q7 (m:=2) rfl (by decide),_,rfl,_,rfl,pS,_,_,_,rfl,rfl,s3.seq hSS,Aj (gsz k hk),by show 3<=sizeLine; decide,fun T hT=>kk _ _ (BL hT) ⟨T,rfl,?_⟩⟩
   rw [Ai]
   show some (HO.tup [V.str "board",.str (Txt.mul ⟨#[97+k]⟩ 2),_])=_
   rw [V9 (by omega)]
   rfl
  have PB3:Paired (fun (r:R) v=>TupAt H3 r.v v) ((List.range sz.length).map fun k=>FT (Iw sz k)) vr:=Bu (F:=fun (r:R) v=>TupAt H3 r.v v) (fun k=>FT (Iw sz k)) P3
  have lvr:vr.length=sz.length:=by rw [← P3.length,List.length_range]
  refine ⟨_,rfl,?_⟩
  refine ⟨by show 4<=sizeLine; decide,fun T4 hT4=>?_⟩
  generalize eH:upd H3 T4 _=H4
  have s4:Ak H3 H4:=by rw [← eH]; exact BL hT4
  have t4:H4 T4=some (.tup [V.str "rank",.str "abc",.int 5,.int 1]):=by rw [← eH]; exact Ai
  clear eH
  refine ⟨by show 3<=sizeLine; decide,fun T5 hT5=>?_⟩
  generalize eH:upd H4 T5 _=H5
  have s5:Ak H4 H5:=by rw [← eH]; exact BL hT5
  have t5:H5 T5=some (.tup [V.str "stop",.str "open",.str "aa"]):=by rw [← eH]; exact Ai
  clear eH
  refine ⟨by show 5<=sizeLine; decide,fun T6 hT6=>?_⟩
  generalize eH:upd H5 T6 _=H6
  have s6:Ak H5 H6:=by rw [← eH]; exact BL hT6
  have t6:H6 T6=some (.tup [V.str "line",.str "abc",.int 0,.int 0,.int 0]):=by rw [← eH]; exact Ai
  clear eH
  refine ⟨by show 3<=sizeLine; decide,fun T7 hT7=>?_⟩
  generalize eH:upd H6 T7 _=H7
  have s7:Ak H6 H7:=by rw [← eH]; exact BL hT7
  have t7:H7 T7=some (.lst [V.ref T4,.ref T5,.ref T6]):=by rw [← eH]; exact Ai
  clear eH
  have s37:=((s4.trans s5).trans s6).trans s7
  refine ⟨pR,T7,_,_,rfl,rfl,s37 _ _ l3,t7,Ew (by rw [lvr]; show sz.length+3<=1000; omega),fun p8 hp8=>?_⟩
  have P7:Paired (fun (r:R) v=>TupAt H7 r.v v) (Ii sz) (vr++[V.ref T4,.ref T5,.ref T6]):=Er (Ar s37 PB3) (.cons (X7 (s7 _ _ (s6 _ _ (s5 _ _ t4)))) (.cons (X7 (s7 _ _ (s6 _ _ t5))) (.cons (X7 (s7 _ _ t6)) .nil)))
  obtain ⟨H8,eqH,s8,l8⟩:=Hj (o:=HO.lst (vr++[V.ref T4,.ref T5,.ref T6])) hp8
  rw [eqH]
  generalize vr++[V.ref T4,.ref T5,.ref T6]=us at P7 l8
  have P8:=Ar s8 P7
  have s08:Ak H H8:=s2.trans (s3.trans (s37.trans s8))
  have l28:H8 pS=some (.lst (nV sz)):=s8 _ _ (s37 _ _ (s3 _ _ l2))
  clear P7 P3 PB3 t4 t5 t6 t7 s4 s5 s6 s7 s37 s8 l3 lvr s3 l2 hSS s2
  obtain ⟨R8,O8,eL,eS⟩:=ZX F0 S42 P8
  intro x dx nx ndx nex
  have sx:Ak H8 (upd (upd H8 dx (.own x)) x (.ins C dx [])):=fun b o e=>by
   rw [Aq (Am e nx),Aq (Am e ndx)]
   exact e
  refine ⟨x,dx,p8,us,Ky H8,BW CG sz,Gd,[M7],rfl,Ai,sx _ _ l8,R8.mono sx,O8,fun H9 OA keyA SXh=>⟨rfl,?_⟩⟩
  rw [eL,eS] at OA
  have s89:Ak H8 H9:=fun b o e=>SXh b o (sx b o e) (Am e nx)
  have s09:=s08.trans s89
  have l29:=s89 _ _ l28
  clear SXh sx nx ndx nex keyA eL eS R8 O8 P8 l8 l28 s08 s89
  have mk:∀ {Ha Hb:Hp} {zz dzz yy sdd hdd:Addr},Ak H9 Ha->Ha zz=none->Ha dzz=none->dzz ≠ zz->SX zz (upd (upd Ha dzz (.own zz)) zz (.ins Cp dzz [])) Hb->upd (upd Ha dzz (.own zz)) zz (.ins Cp dzz []) yy=none->upd (upd Ha dzz (.own zz)) zz (.ins Cp dzz []) hdd=none->Hb hdd=some (.dK [])->Gf Cy Hb yy x 0 0 sdd->HR Cp Hb zz x yy hdd->Ak Ha Hb/\Ha yy=none/\Ha hdd=none/\Jh C Cy Cp H9 Hb zz x yy hdd us (BW CG sz) Gd (CZ CG Iz) HN [] 0 0 sdd [] (fun _=>0):=fun {Ha Hb zz dzz yy sdd hdd} sa n1 n2 n3 sx' ny nh e1 CA PA=>by
   have sab:Ak Ha Hb:=fun b o e=>sx' b o (by rw [Aq (Am e n1),Aq (Am e n2)]; exact e) (Am e n1)
   have fr:∀ {b:Addr},upd (upd Ha dzz (.own zz)) zz (.ins Cp dzz []) b=none->Ha b=none:=fun {b} h=>by
    have b1:b ≠ zz:=fun e=>by rw [e,Ai] at h; cases h
    rw [Aq b1] at h
    have b2:b ≠ dzz:=fun e=>by rw [e,Ai] at h; cases h
    rw [Aq b2] at h
    exact h
   have f9:∀ {b:Addr},Ha b=none->H9 b=none:=fun {b} h=>sa.free h
   rw [Zj]
   exact ⟨sab,fr ny,fr nh,⟨OA,sa.trans sab,f9 (fr ny),CA⟩,PA,f9 (fr nh),e1,Ea.nil⟩
  refine ⟨_,rfl,fun z1 dz1 a1 a2 a3=>⟨z1,dz1,x,rfl,Ai,fun y1 sd1 hd1 H10 b1 b2 b3 b4 b5 b6=>⟨rfl,?_⟩⟩⟩
  obtain ⟨s10,n1y,n1h,PL1⟩:=mk (Ak.refl H9) a1 a2 a3 b1 b2 b3 b4 b5 b6
  clear a1 a2 a3 b1 b2 b3 b4 b5 b6
  refine ⟨_,rfl,fun z2 dz2 a1 a2 a3=>⟨z2,dz2,x,rfl,Ai,fun y2 sd2 hd2 H11 b1 b2 b3 b4 b5 b6=>⟨rfl,?_⟩⟩⟩
  obtain ⟨s11,n2y,n2h,PL2⟩:=mk s10 a1 a2 a3 b1 b2 b3 b4 b5 b6
  have d10:=PL1.d
  have PL1:=PL1.mono s11
  have nhh:hd2 ≠ hd1:=fun e=>by
   rw [e,d10] at n2h
   cases n2h
  have s911:=s10.trans s11
  have l211:=s911 _ _ l29
  have h9h:H9 hd1=none:=PL1.n
  clear a1 a2 a3 b1 b2 b3 b4 b5 b6 mk n1y n1h n2y n2h d10 OA
  refine ⟨by show 1<=sizeLine; decide,fun T12 hT12=>?_⟩
  generalize eH:upd H11 T12 _=H12
  have s12:Ak H11 H12:=by rw [← eH]; exact BL hT12
  have t12:H12 T12=some (.lst [V.int 0]):=by rw [← eH]; exact Ai
  clear eH
  have l212:=s12 _ _ l211
  have hS12:Cu K H12 pS ((sz.map fun n:Nat=>((n:Nat):Int)).map V.int):=by rw [OD]; exact .inl (.inl l212)
  have ssum:sz.sum<=305:=by
   have:∀ l:List Nat,(∀ n∈l,n<=61)->l.sum<=61 * l.length:=fun l=>by
    induction l with
    | nil=>intro _; exact Nat.le_refl _
    | cons a l ih =>
     intro h
     have h1:=h a (List.mem_cons_self ..)
     have h2:=ih fun n hn=>h n (List.mem_cons_of_mem _ hn)
     rw [List.sum_cons,List.length_cons]
     omega
   have:=this sz fun n hn=>by
    obtain ⟨k,hk,rfl⟩:=List.getElem_of_mem hn
    have:=(S42.b k hk).2
    rw [List.getD_eq_getElem?_getD,List.getElem?_eq_getElem hk] at this
    exact this
   omega
  have bnd:∀ l:List Nat,(∀ n∈l,n<=61)->∀ n∈l.map fun n:Nat=>((n:Nat):Int),0<=n/\n<=100000:=fun l h n hn=>by
   obtain ⟨m,hm,rfl⟩:=List.mem_map.mp hn
   have:=h m hm
   omega
  have sz61:∀ n∈sz,n<=61:=fun n hn=>by
   obtain ⟨k,hk,rfl⟩:=List.getElem_of_mem hn
   have:=(S42.b k hk).2
   rw [List.getD_eq_getElem?_getD,List.getElem?_eq_getElem hk] at this
   exact this
  refine ⟨_,rfl,pS,_,rfl,hS12,bnd sz sz61,(by rw [List.length_map]; omega),T12,_,_,rfl,rfl,t12,by rw [QS]; omega,by rw [QS]; omega,(by rw [QS,Int.toNat_natCast]; exact Ew (by show 1 * sz.sum<=1000; omega)),fun LH hLH=>?_⟩
  rw [QS,Int.toNat_natCast,rep0]
  obtain ⟨H13,eqH,s13,l13⟩:=Hj (o:=HO.lst (nV (List.replicate sz.sum 0))) hLH
  rw [eqH]
  have h9L:H9 LH=none:=s911.free (s12.free hLH)
  obtain ⟨ms,ems,lms⟩:=Um ns
  have s913:=s911.trans (s12.trans s13)
  refine ⟨_,rfl,_,rfl,a,_,rfl,(s09.trans s913).seq hS,fun p14 hp14=>?_⟩
  generalize eH:upd H13 p14 _=H14
  have s14:Ak H13 H14:=by rw [← eH]; exact BL hp14
  have l14:H14 p14=some (.lst (ms.map V.int)):=by rw [← eH,← ems]; exact Ai
  clear eH
  have s1114:=s12.trans (s13.trans s14)
  have PA0:=PL1.mono s1114
  have PB0:=PL2.mono s1114
  have lL0:=s14 _ _ l13
  have lS0:=s14 _ _ (s13 _ _ l212)
  have n14h:p14 ≠ hd1:=fun e=>by rw [e,PA0.d] at l14; cases l14
  have n14L:p14 ≠ LH:=Ne.symm (Am l13 hp14)
  have nSh:pS ≠ hd1:=fun e=>by rw [e,PA0.d] at lS0; cases lS0
  have nSL:pS ≠ LH:=Am l212 hLH
  have nLh:LH ≠ hd1:=fun e=>by rw [e,PA0.d] at lL0; cases lL0
  have hS14:Cu K H14 p14 (ms.map V.int):=.inl (.inl l14)
  clear PL1 PL2 s1114 s14 s13 s12 s913 s911 l13 l212 l211 l29 hS12 t12 hS s09 s10 s11
  refine ⟨p14,rfl,⟨_,hS14⟩,Gg (K:=K) (a:=p14) (xs:=ms.map V.int) (fun i σ Hx=>∃ (kvs:List (Key × V)) (c:Nat->Nat) (hs:List Nat),Jh C Cy Cp H9 Hx z1 x y1 hd1 us (BW CG sz) Gd (CZ CG Iz) HN [] 0 0 sd1 kvs c/\Jh C Cy Cp H9 Hx z2 x y2 hd2 us (BW CG sz) Gd (CZ CG Iz) HN [] 0 0 sd2 [] (fun _=>0)/\Hx pS=some (.lst (nV sz))/\Hx p14=some (.lst (ms.map V.int))/\Hx LH=some (.lst (nV hs))/\hs.length=sz.sum/\(∀ k,c k=hs.getD k 0)/\kvs.length<=i/\∃ v8 v9 v10 v11 v12 v13 v14,σ=[some (.ref a),some (.ref pS),v2,some (.ref pR),some (.ref x),some (.ref z1),some (.ref z2),some (.ref LH),v8,v9,v10,v11,v12,v13,v14])
   ⟨[],fun _=>0,List.replicate sz.sum 0,PA0,PB0,lS0,l14,lL0,List.length_replicate,(fun k=>?_),Nat.le_refl _,_,_,_,_,_,_,_,rfl⟩ (fun i σ Hx _ h=>?_) ?_ ?_⟩
  ·rw [List.getD_eq_getElem?_getD,List.getElem?_replicate]
   split <;> rfl
  ·refine byC fun w_=>?_;obtain ⟨kvs,c,hs,_,_,_,h4,_⟩:=h;refine w_ ?_
   exact .inl (.inl h4)
  ·rintro i xv σ Hx hx ⟨kvs,c,hs,PA,PB,lS,lp,lH,hhs,hc,hkl,v8,v9,v10,v11,v12,v13,v14,rfl⟩
   rw [List.getElem?_map] at hx
   obtain ⟨ce,hce,rfl⟩:=Option.map_eq_some_iff.mp hx
   have hi:i<ms.length:=(List.getElem?_eq_some_iff.mp hce).1
   have hSS:Cu K Hx pS (nV sz):=.inl (.inl lS)
   refine ⟨_,rfl,_,rfl,pS,_,rfl,.inl hSS,_,_,_,rfl,by rw [lz]; omega,fun j hj=>?_⟩
   rw [lz] at hj
   have hj:j<sz.length:=by omega
   obtain ⟨g1,g2⟩:=S42.b j hj
   refine ⟨_,rfl,_,rfl,_,rfl,pS,_,_,_,rfl,rfl,hSS,Aj (gsz j hj),_,_,_,rfl,by omega,fun n1 hn1=>?_⟩
   show Cw 10 (V.int (n1:Nat)) _ _ _
   refine gN (i:=10) ?_
   dsimp only
   refine ZM (fun σ' H'=>H'=Hx/\∃ n:Nat,n<sz.getD j 0/\σ'=[some (.ref a),some (.ref pS),v2,some (.ref pR),some (.ref x),some (.ref z1),some (.ref z2),some (.ref LH),some (.int ce),some (.int (j:Nat)),some (.int (n:Nat)),v11,v12,v13,v14]) (fun D' hD'=>?_) ?_
   ·refine ⟨_,rfl,_,_,_,rfl,by decide,fun r3 _=>⟨_,_,rfl,rfl,_,rfl,CN (fun _=>?_) (fun _=>hD' _ _ ⟨rfl,n1,by omega,rfl⟩)⟩⟩
    refine ⟨_,rfl,_,rfl,_,rfl,pS,_,_,_,rfl,rfl,hSS,Aj (gsz j hj),_,_,rfl,_,_,_,rfl,?_,fun n2 hn2=>?_⟩
    ·split <;> omega
    ·refine hD' _ _ ⟨rfl,n2,?_,rfl⟩
     split at hn2 <;> omega
   rintro σ' H' ⟨rfl,n,hn,rfl⟩
   have ky2:(sz.take j).sum+n<sz.sum:=O5 sz j n hn
   obtain ⟨ky,eky⟩:∃ ky,(sz.take j).sum+n=ky:=⟨_,rfl⟩
   rw [eky] at ky2
   refine ⟨_,rfl,_,rfl,_,rfl,pS,_,rfl,hSS,fun p15 hp15=>?_⟩
   rw [GX _ j (by rw [lz]; omega)]
   have s15:=BL (o:=HO.lst ((nV sz).take j)) hp15
   have l15:upd H' p15 (HO.lst ((nV sz).take j)) p15=some (.lst ((nV sz).take j)):=Ai
   generalize upd H' p15 (HO.lst ((nV sz).take j))=H15 at s15 l15 ⊢
   have e15:(nV sz).take j=((sz.take j).map fun n:Nat=>((n:Nat):Int)).map V.int:=by
    rw [OD]
    unfold nV
    rw [List.map_take]
   rw [e15] at l15
   refine ⟨p15,_,rfl,.inl (.inl l15),bnd (sz.take j) (fun m hm=>sz61 m (List.mem_of_mem_take hm)),(by rw [List.length_map,List.length_take]; omega),_,rfl,_,_,rfl,rfl,?_⟩
   show Cw 11 (V.int (((sz.take j).map fun n:Nat=>((n:Nat):Int)).sum+((n:Nat):Int))) _ _ _
   have eky2:((sz.take j).map fun n:Nat=>((n:Nat):Int)).sum+((n:Nat):Int)=((ky:Nat):Int):=by
    rw [QS]
    omega
   rw [eky2]
   refine ⟨by show 5<=sizeLine; decide,fun T16 hT16=>?_⟩
   generalize eH:upd H15 T16 _=H16
   have s16:Ak H15 H16:=by rw [← eH]; exact BL hT16
   have t16:H16 T16=some (.lst [V.str "hold",.str "hold",.str "hold",.str "leave",.str "leave"]):=by rw [← eH]; exact Ai
   clear eH
   refine ⟨_,rfl,_,_,_,rfl,by decide,fun r5 h5=>⟨T16,_,_,_,rfl,rfl,.inl (.inl t16),Aj (Zz r5 (by omega)),?_⟩⟩
   have s016:=s15.trans s16
   have PA16:=PA.mono s016
   have PB16:=PB.mono s016
   have lS16:=s016 _ _ lS
   have lp16:=s016 _ _ lp
   have lH16:=s016 _ _ lH
   clear PA PB lS lp lH hSS l15 t16 s15 s16
   have hwd:=d8 r5
   generalize Tq r5=wd at hwd ⊢
   show Cw 12 (V.str wd) _ _ _
   refine gN (i:=12) ?_
   dsimp only
   refine jF (fun σ' Hy=>∃ (kvs:List (Key × V)) (c:Nat->Nat) (hs:List Nat),Jh C Cy Cp H9 Hy z1 x y1 hd1 us (BW CG sz) Gd (CZ CG Iz) HN [] 0 0 sd1 kvs c/\Jh C Cy Cp H9 Hy z2 x y2 hd2 us (BW CG sz) Gd (CZ CG Iz) HN [] 0 0 sd2 [] (fun _=>0)/\Hy pS=some (.lst (nV sz))/\Hy p14=some (.lst (ms.map V.int))/\Hy LH=some (.lst (nV hs))/\hs.length=sz.sum/\(∀ k,c k=hs.getD k 0)/\kvs.length<=i+1/\∃ v13,σ'=[some (.ref a),some (.ref pS),v2,some (.ref pR),some (.ref x),some (.ref z1),some (.ref z2),some (.ref LH),some (.int ce),some (.int (j:Nat)),some (.int (n:Nat)),some (.int (ky:Nat)),some (.str wd),v13,v14]) (fun D' hD'=>?_) ?_
   ·refine ⟨_,rfl,_,rfl,_,rfl,_,_,_,rfl,rfl,Ew (by decide +kernel),Aj (Tr j (by omega)),_,_,rfl,rfl,Q7 (m:=2) rfl (by decide),_,rfl,by show 3<=sizeLine; decide,fun T17 hT17=>?_⟩
    generalize eH:upd H16 T17 _=H17
    have s17:Ak H16 H17:=by rw [← eH]; exact BL hT17
    have t17:H17 T17=some (.tup [.str wd,.str (CG j),.int ((n:Nat):Int)]):=by rw [← eH,Ai,← V9 (k:=j) (by omega)]
    clear eH
    have PA17:=PA16.mono s17
    have PB17:=PB16.mono s17
    have lS17:=s17 _ _ lS16
    have lp17:=s17 _ _ lp16
    have lH17:=s17 _ _ lH16
    clear PA16 PB16 lS16 lp16 lH16
    have bget:(BW CG sz)[j]? = some (CG j,sz.getD j 0):=by
     rw [Dn (List.getElem?_eq_getElem hj),List.getD_eq_getElem?_getD,List.getElem?_eq_getElem hj]
     rfl
    have hkc:∀ k,0<c k->k<sz.sum:=fun k hk=>by
     rw [hc,List.getD_eq_getElem?_getD] at hk
     by_cases e:k<hs.length
     ·omega
     ·rw [List.getElem?_eq_none (by omega)] at hk
      exact absurd hk (by decide)
    have dd:Dd C Cy Cp H17 H9 z1 x y1 hd1 us Gd HN [] 0 0 sd1 kvs c CG sz Iz T17 wd j n ky (CG j,sz.getD j 0):=⟨t17,hwd,PA17,c7 S42 hkc (by omega),by omega,gQ S42,bget,Yn S42 hj,hn,(by rw [← eky,List.map_take,DW]),by omega,ky2,fun n p hp=>by rw [PL hp]; exact Nat.two_pow_pos _⟩
    have hgk:(nV hs)[ky]? = some (.int ((hs.getD ky 0:Nat):Int)):=by
     unfold nV
     rw [List.getElem?_map,List.getElem?_eq_getElem (by omega),List.getD_eq_getElem?_getD,List.getElem?_eq_getElem (by omega)]
     rfl
    refine ⟨H9,z1,x,y1,hd1,us,Gd,HN,[],0,0,sd1,kvs,c,CG,sz,Iz,T17,wd,j,n,ky,_,rfl,dd,?_,?_⟩
    ·rintro rfl hc0 H18 s18
     have hh0:hs.getD ky 0=0:=by rw [← hc]; exact hc0
     rw [hh0] at hgk
     have lH18:=s18 _ _ lH17
     refine ⟨_,rfl,rfl,_,rfl,CN (fun _=>?_) (fun e=>absurd (decide_eq_true rfl) e)⟩
     refine ⟨_,rfl,_,rfl,LH,_,_,_,rfl,rfl,.inl (.inl lH18),Aj hgk,rfl,_,rfl,CN (fun _=>?_) (fun e=>absurd (decide_eq_true rfl) e)⟩
     refine ⟨_,rfl,rfl,_,rfl,CN (fun e=>absurd e (by decide +kernel)) (fun _=>?_)⟩
     exact hD' _ _ ⟨kvs,c,hs,PA17.mono s18,PB17.mono s18,s18 _ _ lS17,s18 _ _ lp17,lH18,hhs,hc,by omega,_,rfl⟩
    ·intro hcp p1 p2 T7 D1 D2 H18 x18 d18 S1 S2 t18 m1 m2
     have z1':=PL S1
     have z2':=PL S2
     subst z1' z2'
     have em:nV (Wd.mem (T_ 0 0))=[]:=by decide +kernel
     rw [em] at m1 m2
     have h9T:H9 hd1=none:=h9h
     have PA18:Jh C Cy Cp H9 H18 z1 x y1 hd1 us (BW CG sz) Gd (CZ CG Iz) HN [] 0 0 sd1 (putK kvs (kH ky) (.int ((hN wd (c ky):Nat):Int))) (setC c ky (hN wd (c ky))):=by
      obtain ⟨dy,fs,k1,k⟩:=PA17.con.c.ex
      obtain ⟨dz,gs,g1,g⟩:=PA17.ply.ex
      have n1:y1 ≠ hd1:=fun e=>by rw [e,PA17.d] at k1; cases k1
      have n2:z1 ≠ hd1:=fun e=>by rw [e,PA17.d] at g1; cases g1
      exact ⟨⟨PA17.con.o,fun b o e=>x18 b o (PA17.con.s b o e) (Am e h9h),PA17.con.n,dy,fs,x18 _ _ k1 n1,k⟩,⟨dz,gs,x18 _ _ g1 n2,g⟩,PA17.n,d18,PA17.h.put (by omega)⟩
     have PB18:Jh C Cy Cp H9 H18 z2 x y2 hd2 us (BW CG sz) Gd (CZ CG Iz) HN [] 0 0 sd2 [] (fun _=>0):=by
      obtain ⟨dy,fs,k1,k⟩:=PB17.con.c.ex
      obtain ⟨dz,gs,g1,g⟩:=PB17.ply.ex
      exact PB17.sx x18 h9h (fun e=>by rw [← e,PA17.d] at g1; cases g1) (fun e=>by rw [← e,PA17.d] at k1; cases k1) (Ne.symm nhh)
     have lS18:=x18 _ _ lS17 nSh
     have lp18:=x18 _ _ lp17 n14h
     have lH18:=x18 _ _ lH17 nLh
     have hkyl:ky<hs.length:=by omega
     have lk:=@Lz kvs (kH ky) (.int ((hN wd (c ky):Nat):Int))
     have fin:∀ {Hw Hq:Hp} {v13:Option V},Ak H18 Hw->Ak (upd Hw LH (.lst (nV (hs.set ky (hN wd (c ky)))))) Hq->D'.nx [some (.ref a),some (.ref pS),v2,some (.ref pR),some (.ref x),some (.ref z1),some (.ref z2),some (.ref LH),some (.int ce),some (.int (j:Nat)),some (.int (n:Nat)),some (.int (ky:Nat)),some (.str wd),v13,v14] Hq:=fun {Hw Hq v13} sw sq=>by
      have PAw:=PA18.mono sw
      have PBw:=PB18.mono sw
      have lHw:=sw _ _ lH18
      obtain ⟨dy,fs,k1,k⟩:=PAw.con.c.ex
      obtain ⟨dz,gs,g1,g⟩:=PAw.ply.ex
      obtain ⟨dy2,fs2,k12,k2⟩:=PBw.con.c.ex
      obtain ⟨dz2,gs2,g12,g2⟩:=PBw.ply.ex
      have sxL:SX LH Hw (upd Hw LH (.lst (nV (hs.set ky (hN wd (c ky)))))):=SX.up
      refine hD' _ _ ⟨_,_,hs.set ky (hN wd (c ky)),(PAw.sx sxL h9L (fun e=>by rw [← e,lHw] at g1; cases g1) (fun e=>by rw [← e,lHw] at k1; cases k1) nLh).mono sq,(PBw.sx sxL h9L (fun e=>by rw [← e,lHw] at g12; cases g12) (fun e=>by rw [← e,lHw] at k12; cases k12) (fun e=>by rw [← e] at PBw; have:=PBw.d; rw [lHw] at this; cases this)).mono sq,sq _ _ (sxL _ _ (sw _ _ lS18) nSL),sq _ _ (sxL _ _ (sw _ _ lp18) n14L),sq _ _ Ai,by rw [List.length_set]; exact hhs,fun k=>?_,by omega,_,rfl⟩
      rw [Q4 hkyl]
      show (if k=ky then hN wd (c ky) else c k)=_
      by_cases e:k=ky
      ·rw [if_pos e,if_pos e]
      ·rw [if_neg e,if_neg e,hc]
     have eset:∀ m:Nat,(nV hs).set ky (.int ((m:Nat):Int))=nV (hs.set ky m):=fun m=>by
      unfold nV
      rw [List.map_set]
     have nT7:T7 ≠ LH:=fun e=>by rw [e,lH18] at t18; cases t18
     have hne:nV hs ≠ []:=fun e=>by
      have:(nV hs).length=hs.length:=List.length_map ..
      rw [e] at this
      have:hs.length=0:=this.symm
      omega
     have nD1:D1 ≠ LH:=fun e=>by rw [e,lH18] at m1; exact hne (by injection m1 with h; injection h)
     have nD2:D2 ≠ LH:=fun e=>by rw [e,lH18] at m2; exact hne (by injection m2 with h; injection h)
     rcases hwd with rfl | rfl
     ·refine ⟨_,rfl,rfl,_,rfl,CN (fun e=>absurd (V.str.inj (of_decide_eq_true e)) (by decide +kernel)) (fun _=>?_)⟩
      refine ⟨_,rfl,_,rfl,LH,_,_,_,rfl,rfl,.inl (.inl lH18),Aj hgk,_,rfl,by show 2<=sizeLine; decide,fun T19 hT19=>?_⟩
      generalize eH:upd H18 T19 _=H19
      have s19:Ak H18 H19:=by rw [← eH]; exact BL hT19
      have t19:H19 T19=some (.lst [V.int (-1),.int 1]):=by rw [← eH]; exact Ai
      clear eH
      refine ⟨_,rfl,rfl,.inr ⟨_,rfl,?_⟩⟩
      rw [show decide (V.str ("hold" : Str)=V.str "hold")=true by decide +kernel]
      refine ⟨T19,_,_,_,rfl,rfl,.inl (.inl t19),Aj (j:=1) rfl,_,_,rfl,rfl,_,rfl,_,rfl,LH,_,_,rfl,rfl,s19 _ _ lH18,by omega,(by unfold nV; rw [List.length_map]; omega),by omega,?_⟩
      have ev:((hs.getD ky 0:Nat):Int)+1=((hN "hold" (c ky):Nat):Int):=by
       rw [hc ky]
       rfl
      rw [Int.toNat_natCast]
      have e20:(nV hs).set ky (V.int (((hs.getD ky 0:Nat):Int)+1))=nV (hs.set ky (hN "hold" (c ky))):=by rw [ev,eset]
      have tl:=fun Hq (sq:Ak (upd H19 LH (.lst (nV (hs.set ky (hN "hold" (c ky)))))) Hq)=>fin (v13:=some (.ref T7)) s19 sq
      rw [← e20] at tl
      exact ⟨_,rfl,T7,D1,D2,rfl,(by rw [Aq nT7]; exact s19 _ _ t18),(by rw [Aq nD1]; exact s19 _ _ m1),(by rw [Aq nD2]; exact s19 _ _ m2),fun Hq sq=>⟨_,rfl,Cv (tl Hq sq)⟩⟩
     ·refine ⟨_,rfl,rfl,_,rfl,CN (fun _=>?_) (fun e=>absurd (decide_eq_true rfl) e)⟩
      refine ⟨_,rfl,_,rfl,LH,_,_,_,rfl,rfl,.inl (.inl lH18),Aj hgk,rfl,_,rfl,CN (fun e=>?_) (fun _=>?_)⟩
      ·have h1:=V.int.inj (of_decide_eq_true e)
       have h2:=hcp rfl
       rw [hc ky] at h2
       omega
      refine ⟨_,rfl,_,rfl,LH,_,_,_,rfl,rfl,.inl (.inl lH18),Aj hgk,_,rfl,by show 2<=sizeLine; decide,fun T19 hT19=>?_⟩
      generalize eH:upd H18 T19 _=H19
      have s19:Ak H18 H19:=by rw [← eH]; exact BL hT19
      have t19:H19 T19=some (.lst [V.int (-1),.int 1]):=by rw [← eH]; exact Ai
      clear eH
      refine ⟨_,rfl,rfl,.inr ⟨_,rfl,?_⟩⟩
      rw [show decide (V.str ("leave" : Str)=V.str "hold")=false by decide +kernel]
      refine ⟨T19,_,_,_,rfl,rfl,.inl (.inl t19),Aj (j:=0) rfl,_,_,rfl,rfl,_,rfl,_,rfl,LH,_,_,rfl,rfl,s19 _ _ lH18,by omega,(by unfold nV; rw [List.length_map]; omega),by omega,?_⟩
      have ev:((hs.getD ky 0:Nat):Int)+(-1)=((hN "leave" (c ky):Nat):Int):=by
       rw [hc ky]
       rw [show hN "leave" (hs.getD ky 0)=hs.getD ky 0 - 1 from if_neg (by decide +kernel)]
       have:=hcp rfl
       rw [hc ky] at this
       omega
      rw [Int.toNat_natCast]
      have e20:(nV hs).set ky (V.int (((hs.getD ky 0:Nat):Int)+(-1)))=nV (hs.set ky (hN "leave" (c ky))):=by rw [ev,eset]
      have tl:=fun Hq (sq:Ak (upd H19 LH (.lst (nV (hs.set ky (hN "leave" (c ky)))))) Hq)=>fin (v13:=some (.ref T7)) s19 sq
      rw [← e20] at tl
      exact ⟨_,rfl,T7,D1,D2,rfl,(by rw [Aq nT7]; exact s19 _ _ t18),(by rw [Aq nD1]; exact s19 _ _ m1),(by rw [Aq nD2]; exact s19 _ _ m2),fun Hq sq=>⟨_,rfl,Cv (tl Hq sq)⟩⟩
   ·rintro σ' Hy ⟨kvs,c,hs,PA,PB,lS,lp,lH,hhs,hc,hkl,v13,rfl⟩
    refine byC fun w_=>?_;obtain ⟨dz,fs,h1,_,_,_,lm⟩:=id PA.ply.ex;refine w_ ?_
    refine ⟨_,rfl,z1,dz,fs,rfl,h1,lm _ (by decide +kernel),H9,z1,x,y1,hd1,us,_,Gd,_,HN,[],0,0,sd1,kvs,c,rfl,PA,by omega,fun H20 s20=>?_⟩
    refine ⟨_,rfl,_,"int",_,_,rfl,.int _,ty_int,_,rfl,Cv ?_⟩
    refine ⟨_,rfl,_,"bool",_,_,rfl,.int _,V5,_,rfl,Cv ?_⟩
    refine ⟨_,rfl,_,rfl,LH,hs,rfl,s20 _ _ lH,by omega,rfl,_,rfl,?_⟩
    rw [Ve PA.h hc]
    refine CN (fun e=>?_) (fun _=>?_)
    ·rw [decide_eq_true rfl] at e
     exact absurd e (by decide)
    exact ⟨kvs,c,hs,PA.mono s20,PB.mono s20,s20 _ _ lS,s20 _ _ lp,s20 _ _ lH,hhs,hc,hkl,_,_,_,_,_,_,_,rfl⟩
  ·rintro σ Hx ⟨kvs,c,hs,PA,PB,lS,lp,lH,hhs,hc,hkl,v8,v9,v10,v11,v12,v13,v14,rfl⟩
   rw [List.length_map] at hkl
   refine byC fun w_=>?_;obtain ⟨dz2,fs2,h12,_,_,_,lm2⟩:=id PB.ply.ex;refine w_ ?_
   refine byC fun w_=>?_;obtain ⟨dz,fs,h1,_,_,_,lm⟩:=id PA.ply.ex;refine w_ ?_
   refine ⟨_,rfl,z2,dz2,fs2,rfl,h12,lm2 _ (by decide +kernel),H9,z2,x,y2,hd2,us,_,Gd,_,HN,[],0,0,sd2,[],_,rfl,PB,by decide,fun H20 s20=>?_⟩
   refine ⟨rfl,_,rfl,EY ?_⟩
   have hkc:∀ k,0<c k->k<sz.sum:=fun k hk=>by
    rw [hc,List.getD_eq_getElem?_getD] at hk
    by_cases e:k<hs.length
    ·omega
    ·rw [List.getElem?_eq_none (by omega)] at hk
     exact absurd hk (by decide)
   refine ⟨_,rfl,z1,dz,fs,rfl,s20 _ _ h1,lm _ (by decide +kernel),H9,z1,x,y1,hd1,us,Gd,HN,[],0,0,sd1,kvs,c,CG,sz,Iz,rfl,PA.mono s20,c7 S42 hkc (by omega),fun p H21 s21 S21=>?_⟩
   rw [PL S21]
   exact ⟨rfl,q H21⟩
end
end K42
end PartK42n
section PartK42z
set_option maxHeartbeats 4000000
theorem UL1 {α:Type} {us:List α} (h:us.length=1):∃ a,us=[a]:=match us,h with | [a],_=>⟨a,rfl⟩
theorem UL2 {α:Type} {us:List α} (h:us.length=2):∃ a b,us=[a,b]:=match us,h with | [a,b],_=>⟨a,b,rfl⟩
theorem UL3 {α:Type} {us:List α} (h:us.length=3):∃ a b c,us=[a,b,c]:=match us,h with | [a,b,c],_=>⟨a,b,c,rfl⟩
theorem UL4 {α:Type} {us:List α} (h:us.length=4):∃ a b c d,us=[a,b,c,d]:=match us,h with | [a,b,c,d],_=>⟨a,b,c,d,rfl⟩
theorem UL5 {α:Type} {us:List α} (h:us.length=5):∃ a b c d e,us=[a,b,c,d,e]:=match us,h with | [a,b,c,d,e],_=>⟨a,b,c,d,e,rfl⟩
namespace K42
open PySem L2 Og
section
variable {K:W.Frag}
noncomputable abbrev DA (K:W.Frag) (x:Str) (st:Stmt) (f:Addr):Prop:=W.nsIn K mainGlobals x=some (some (.ref f))/\∃ fd,CQ K x x st f fd
noncomputable abbrev MA (K:W.Frag) (C:Addr) (x q:Str) (st:Stmt) (f:Addr):Prop:=W.findIn K (.ref C) x=some (some (.ref f))/\W.isFn K (.ref f)=true/\∃ fd,CQ K x q st f fd
theorem Ed {x q:Str} {st:Stmt} {f:Addr} {fd:FuncData} {ps:List Str} (F:CQ K x q st f fd) (hl:ps.length=1:=by rfl) (h:∀ (kV doc pm:Value) (an:Option Addr) (cdv ct:Value) (u:Value),bindArgs (W.fnOf x q (Eh st) (Dl st) (Ac st) .none kV doc pm an cdv ct) ⟨[u],[]⟩=pure (ps.zip [u]):=by intros; rfl):Binds K fd ps []:=F.binds fun kV doc pm an cdv ct us hu=>by obtain ⟨u,rfl⟩:=UL1 (hu.trans hl); exact h kV doc pm an cdv ct u
theorem Dk {x q:Str} {st:Stmt} {f:Addr} {fd:FuncData} {ps:List Str} (F:CQ K x q st f fd) (hl:ps.length=2:=by rfl) (h:∀ (kV doc pm:Value) (an:Option Addr) (cdv ct:Value) (u v:Value),bindArgs (W.fnOf x q (Eh st) (Dl st) (Ac st) .none kV doc pm an cdv ct) ⟨[u,v],[]⟩=pure (ps.zip [u,v]):=by intros; rfl):Binds K fd ps []:=F.binds fun kV doc pm an cdv ct us hu=>by obtain ⟨u,v,rfl⟩:=UL2 (hu.trans hl); exact h kV doc pm an cdv ct u v
theorem Fb {x q:Str} {st:Stmt} {f:Addr} {fd:FuncData} {ps:List Str} (F:CQ K x q st f fd) (hl:ps.length=3:=by rfl) (h:∀ (kV doc pm:Value) (an:Option Addr) (cdv ct:Value) (u v a:Value),bindArgs (W.fnOf x q (Eh st) (Dl st) (Ac st) .none kV doc pm an cdv ct) ⟨[u,v,a],[]⟩=pure (ps.zip [u,v,a]):=by intros; rfl):Binds K fd ps []:=F.binds fun kV doc pm an cdv ct us hu=>by obtain ⟨u,v,a,rfl⟩:=UL3 (hu.trans hl); exact h kV doc pm an cdv ct u v a
end
theorem Wr {l:W.OpenLaw} {w:World} {K:W.Frag} {h:Heap} {mg:Str->Option Value} {fa:Addr} (X:K.In h) (G:h.Ns mainGlobals mg) (hfa:mg "law" = some (.ref fa))
  {C Cy Cp cH cO aQ q1 q2 aN aK aB aP aM p1 p2 p3 p4 p5 p6 b1 b2 b3 b4 b5 b6 b7 fWh fMd fNm fRo fTo fWi fPa fHp fCl fIk fSb fIs fWm fHr fIr fCk fNu fCa fPl fLi fSs fMy fSt fHa fMe fSh fUn fLe fDc fHk fWa fCq fMu fUk fSk fNb fLl fBs fBa fSo fBn fKy fDz fId fCe fMi fLx fQu fBz fOi fOb fOc fOk fOo fBk fOp fOr fOq fOe fOs fOm fOu fOy fOz fXi fXk fQi fQh fQl fQa fQd fQs fQe fQk fZ:Addr} {odZ anZ:Option Addr} {slZ:Array (Option Value)} {ocZ kVZ dcZ pmZ cdZ ctZ:Value}
  {tLET tML tMR tMLn tMB tm1 tm2 tm3 tm4 tm5 tm6 ttN_0 ttN_1 ttN_2 ttN_3 ttN_4 ttK_0 ttK_1 ttK_2 ttp1_0 ttp1_1 ttp2_0 ttp2_1 ttp3_0 ttp3_1 ttp4_0 ttp4_1 ttp4_2 ttp4_3 ttp5_0 ttp5_1 ttp5_2 ttp6_0 ttp6_1 ttp6_2 ttp6_3 ttb1_0 ttb1_1 ttb2_0 ttb2_1 ttb3_0 ttb3_1 ttb4_0 ttb4_1 ttb5_0 ttb5_1 ttb6_0 ttb6_1 ttb7_0 ttb7_1 ttq1_0 ttq2_0:Tok} {od_N od_K od_p1 od_p2 od_p3 od_p4 od_p5 od_p6 od_b1 od_b2 od_b3 od_b4 od_b5 od_b6 od_b7 od_q1 od_q2:Option Addr} {sl_N sl_K sl_p1 sl_p2 sl_p3 sl_p4 sl_p5 sl_p6 sl_b1 sl_b2 sl_b3 sl_b4 sl_b5 sl_b6 sl_b7 sl_q1 sl_q2:Array (Option Value)} {n_N n_K n_p1 n_p2 n_p3 n_p4 n_p5 n_p6 n_b1 n_b2 n_b3 n_b4 n_b5 n_b6 n_b7 n_q1 n_q2 nB nP nM nQ:Nat} {eB eP eM eQ:Array DictEntry}
  (FWh:DA K "is_whole" m6 fWh)
  (FMd:DA K "is_made_of" d7 fMd)
  (FNm:DA K "is_name" jZ fNm)
  (FRo:DA K "rows_of" gG fRo)
  (FTo:DA K "is_told" fu fTo)
  (FWi:DA K "is_within" jg fWi)
  (FPa:DA K "is_part" fL fPa)
  (FHp:DA K "has_parts" gA fHp)
  (FCl:DA K "count_of_last_lines" lU fCl)
  (FIk:DA K "is_key_of" fB fIk)
  (FSb:DA K "stands_behind_stop" ir fSb)
  (FIs:DA K "is_step" fW fIs)
  (FWm:DA K "is_well_made" gR fWm)
  (FHr:DA K "has_room" m7 fHr)
  (FIr:DA K "is_row" j7 fIr)
  (FCk:DA K "check_rows" iK fCk)
  (FNu:DA K "numbers_of" j6 fNu)
  (FCa:DA K "count_in_all" fG fCa)
  (FPl:DA K "places_of" fX fPl)
  (FLi:DA K "lines_by_knob" iu fLi)
  (FSs:DA K "set_of_step" fD fSs)
  (FMy:DA K "may_be_member" mY fMy)
  (FSt:DA K "set_of" gC fSt)
  (FHa:DA K "has_member" kW fHa)
  (FMe:DA K "members_of" fc fMe)
  (FSh:DA K "shifted" jT fSh)
  (FUn:DA K "union_of" iV fUn)
  (FLe:DA K "led_to" jo fLe)
  (FDc:DA K "drawn_of" ZL fDc)
  (FHk:DA K "held_keys" g_ fHk)
  (FWa:DA K "coupled_ways" lC fWa)
  (FCq:DA K "coupled_keys" gf fCq)
  (FMu:DA K "muted_boards" fV fMu)
  (FUk:DA K "unmuted_keys" fK fUk)
  (FSk:DA K "speaking_keys" nJ fSk)
  (FNb:DA K "numbers_on_board" iT fNb)
  (FLl:DA K "led_by_line" kO fLl)
  (FBs:DA K "brought_by_stop" fU fBs)
  (FBa:DA K "brought_in_all" fJ fBa)
  (FSo:DA K "sounding_pipes" mW fSo)
  (FBn:DA K "board_named" lO fBn)
  (FKy:DA K "key_on_board" iU fKy)
  (FDz:DA K "do_at_console" gj fDz)
  (FId:DA K "is_deed" j4 fId)
  (FCe:DA K "_law_cell_at" kE fCe)
  (FMi:DA K "_law_mix" il fMi)
  (FLx:DA K "_law_do" gU fLx)
  (FQu:DA K "_law_quiet" lN fQu)
  (FBz:DA K "_law_bits" lD fBz)
  (aZ:W.nsIn K mainGlobals "law" = some (some (.ref fZ)))
  (lZ:K.lookup fZ=some ⟨ocZ,odZ,.func (W.fnOf "law" "law" (Eh J0) (Dl J0) (Ac J0) .none kVZ dcZ pmZ anZ cdZ ctZ),slZ⟩) (cZ:W.codeIn K cdZ "law" = true) (kZ:W.keepIn K (.ref fZ)=true)
  (aC:W.nsIn K mainGlobals "Organ" = some (some (.ref C)))
  (FOi:MA K C "__init__" "Organ.__init__" UJ fOi)
  (FOb:MA K C "boards" "Organ.boards" jy fOb)
  (FOc:MA K C "key_count" "Organ.key_count" j_ fOc)
  (FOk:MA K C "key" "Organ.key" mU fOk)
  (FOo:MA K C "board_of" "Organ.board_of" jA fOo)
  (FBk:MA K C "board_of_knob" "Organ.board_of_knob" mD fBk)
  (FOp:MA K C "coupler" "Organ.coupler" lX fOp)
  (FOr:MA K C "ranks" "Organ.ranks" lW fOr)
  (FOq:MA K C "pipe_count" "Organ.pipe_count" gM fOq)
  (FOe:MA K C "pipe" "Organ.pipe" m8 fOe)
  (FOs:MA K C "stop" "Organ.stop" lG fOs)
  (FOm:MA K C "mute" "Organ.mute" jM fOm)
  (FOu:MA K C "board_number" "Organ.board_number" kj fOu)
  (FOy:MA K C "steps" "Organ.steps" l_ fOy)
  (FOz:MA K C "knobs" "Organ.knobs" gJ fOz)
  (aCy:W.nsIn K mainGlobals "Console" = some (some (.ref Cy)))
  (FXi:MA K Cy "__init__" "Console.__init__" jm fXi)
  (FXk:MA K Cy "knobs" "Console.knobs" mz fXk)
  (pg2:W.plainGet K Cy Str.empty=true)
  (hd2:W.hasDictIn K Cy=true)
  (po2:W.plainOver K Cy=true)
  (sa2:W.findIn K (.ref Cy) "__setattr__" = some (some (.builtin "object.__setattr__")))
  (mkC2:W.makesIn K Cy=true)
  (kc2:W.keepIn K (.ref Cy)=true)
  (nr2o:W.findIn K (.ref Cy) "organ" = some none)
  (nr2d:W.findIn K (.ref Cy) "drawn_set" = some none)
  (nr2s:W.findIn K (.ref Cy) "shoe_step" = some none)
  (nr2t:W.findIn K (.ref Cy) "stored" = some none)
  (xve:W.nsIn K mainGlobals "ValueError" = some none)
  (aCp:W.nsIn K mainGlobals "Player" = some (some (.ref Cp)))
  (FQi:MA K Cp "__init__" "Player.__init__" iY fQi)
  (FQh:MA K Cp "hold" "Player.hold" lJ fQh)
  (FQl:MA K Cp "leave" "Player.leave" gq fQl)
  (FQa:MA K Cp "act" "Player.act" jO fQa)
  (FQd:MA K Cp "do" "Player.do" mV fQd)
  (FQs:MA K Cp "sound" "Player.sound" gO fQs)
  (FQe:MA K Cp "held" "Player.held" gF fQe)
  (FQk:MA K Cp "knobs" "Player.knobs" jt fQk)
  (pg3:W.plainGet K Cp Str.empty=true)
  (hd3:W.hasDictIn K Cp=true)
  (po3:W.plainOver K Cp=true)
  (sa3:W.findIn K (.ref Cp) "__setattr__" = some (some (.builtin "object.__setattr__")))
  (mkC3:W.makesIn K Cp=true)
  (kc3:W.keepIn K (.ref Cp)=true)
  (np3o:W.findIn K (.ref Cp) "organ" = some none)
  (np3c:W.findIn K (.ref Cp) "console" = some none)
  (np3h:W.findIn K (.ref Cp) "hands" = some none)
  (xmH:W.nsIn K mainGlobals "NotHeld" = some (some (.ref cH)))
  (xmO:W.nsIn K mainGlobals "OrganError" = some (some (.ref cO)))
  (xeH:W.excIn K cH Uy "ValueError.__new__" = true)
  (xbH:Qu K cH cO []=true)
  (xmm:W.mroIn K cH (.ref cH)=some true)
  (rQ:W.nsIn K mainGlobals "PART_COUNTS" = some (some (.ref aQ)))
  (dQ:K.lookup aQ=some ⟨.type "dict",none,.dict eQ nQ,#[]⟩)
  (kQ:W.KeysLit w.params eQ.toList)
  (oQ:(aQ == sysModules)=false)
  (qqh:W.nsIn K aQ "hold" = some (some (.ref q1)))
  (qql:W.nsIn K aQ "leave" = some (some (.ref q2)))
  (pg:W.plainGet K C Str.empty=true)
  (hd:W.hasDictIn K C=true)
  (po:W.plainOver K C=true)
  (sa:W.findIn K (.ref C) "__setattr__" = some (some (.builtin "object.__setattr__")))
  (mkC:W.makesIn K C=true)
  (kc:W.keepIn K (.ref C)=true)
  (n_row_list_:W.findIn K (.ref C) "row_list" = some none)
  (n_board_list_:W.findIn K (.ref C) "board_list" = some none)
  (n_rank_list_:W.findIn K (.ref C) "rank_list" = some none)
  (n_knob_rows_:W.findIn K (.ref C) "knob_rows" = some none)
  (n_board_numbers_:W.findIn K (.ref C) "board_numbers" = some none)
  (n_rank_numbers_:W.findIn K (.ref C) "rank_numbers" = some none)
  (n_knob_numbers_:W.findIn K (.ref C) "knob_numbers" = some none)
  (n_key_places_:W.findIn K (.ref C) "key_places" = some none)
  (n_pipe_places_:W.findIn K (.ref C) "pipe_places" = some none)
  (n_knob_lines_:W.findIn K (.ref C) "knob_lines" = some none)
  (n_step_sets_:W.findIn K (.ref C) "step_sets" = some none)
  (zlen:W.nsIn K mainGlobals "len" = some none)
  (zisinstance:W.nsIn K mainGlobals "isinstance" = some none)
  (zint:W.nsIn K mainGlobals "int" = some none)
  (zbool:W.nsIn K mainGlobals "bool" = some none)
  (zstr:W.nsIn K mainGlobals "str" = some none)
  (zlist:W.nsIn K mainGlobals "list" = some none)
  (ztuple:W.nsIn K mainGlobals "tuple" = some none)
  (zall:W.nsIn K mainGlobals "all" = some none)
  (zany:W.nsIn K mainGlobals "any" = some none)
  (zsum:W.nsIn K mainGlobals "sum" = some none)
  (zrange:W.nsIn K mainGlobals "range" = some none)
  (zzip:W.nsIn K mainGlobals "zip" = some none)
  (zenumerate:W.nsIn K mainGlobals "enumerate" = some none)
  (zmax:W.nsIn K mainGlobals "max" = some none)
  (zreversed:W.nsIn K mainGlobals "reversed" = some none)
  (zset:W.nsIn K mainGlobals "set" = some none)
  (zmin:W.nsIn K mainGlobals "min" = some none)
  (zLET:W.nsIn K mainGlobals "LETTERS" = some (some (.str letters tLET)))
  (zML:W.nsIn K mainGlobals "MOST_LETTERS" = some (some (.int 8 tML)))
  (zMR:W.nsIn K mainGlobals "MOST_ROWS" = some (some (.int 150 tMR)))
  (zMLn:W.nsIn K mainGlobals "MOST_LINES" = some (some (.int 4 tMLn)))
  (zMB:W.nsIn K mainGlobals "MEMBERS_BELOW" = some (some (.int 1200 tMB)))
  (rN:W.nsIn K mainGlobals "NAMED" = some (some (.ref aN)))
  (rK:W.nsIn K mainGlobals "KNOBS" = some (some (.ref aK)))
  (rB:W.nsIn K mainGlobals "BOUNDS" = some (some (.ref aB)))
  (rP:W.nsIn K mainGlobals "PARTS" = some (some (.ref aP)))
  (rM:W.nsIn K mainGlobals "MOST_OF" = some (some (.ref aM)))
  (dB:K.lookup aB=some ⟨.type "dict",none,.dict eB nB,#[]⟩)
  (kB:W.KeysLit w.params eB.toList)
  (oB:(aB == sysModules)=false)
  (dP:K.lookup aP=some ⟨.type "dict",none,.dict eP nP,#[]⟩)
  (kP:W.KeysLit w.params eP.toList)
  (oP:(aP == sysModules)=false)
  (dM:K.lookup aM=some ⟨.type "dict",none,.dict eM nM,#[]⟩)
  (kM:W.KeysLit w.params eM.toList)
  (oM:(aM == sysModules)=false)
  (qp1:W.nsIn K aP "board" = some (some (.ref p1)))
  (qp2:W.nsIn K aP "stop" = some (some (.ref p2)))
  (qp3:W.nsIn K aP "mute" = some (some (.ref p3)))
  (qp4:W.nsIn K aP "coupler" = some (some (.ref p4)))
  (qp5:W.nsIn K aP "rank" = some (some (.ref p5)))
  (qp6:W.nsIn K aP "line" = some (some (.ref p6)))
  (qb1:W.nsIn K aB "keys" = some (some (.ref b1)))
  (qb2:W.nsIn K aB "leap" = some (some (.ref b2)))
  (qb3:W.nsIn K aB "pipes" = some (some (.ref b3)))
  (qb4:W.nsIn K aB "wind" = some (some (.ref b4)))
  (qb5:W.nsIn K aB "shift" = some (some (.ref b5)))
  (qb6:W.nsIn K aB "low" = some (some (.ref b6)))
  (qb7:W.nsIn K aB "high" = some (some (.ref b7)))
  (qn:W.nsIn K aB "new" = some none)
  (qb:W.nsIn K aB "board" = some none)
  (qr:W.nsIn K aB "rank" = some none)
  (ql:W.nsIn K aM "line" = some none)
  (qm1:W.nsIn K aM "board" = some (some (.int 5 tm1)))
  (qm2:W.nsIn K aM "stop" = some (some (.int 24 tm2)))
  (qm3:W.nsIn K aM "coupler" = some (some (.int 12 tm3)))
  (qm4:W.nsIn K aM "mute" = some (some (.int 5 tm4)))
  (qm5:W.nsIn K aM "rank" = some (some (.int 12 tm5)))
  (qm6:W.nsIn K aM "step" = some (some (.int 12 tm6)))
  (uN:K.lookup aN=some ⟨.type "tuple",od_N,.seq #[.str "board" ttN_0,.str "rank" ttN_1,.str "stop" ttN_2,.str "coupler" ttN_3,.str "mute" ttN_4] n_N,sl_N⟩)
  (uK:K.lookup aK=some ⟨.type "tuple",od_K,.seq #[.str "stop" ttK_0,.str "coupler" ttK_1,.str "mute" ttK_2] n_K,sl_K⟩)
  (up1:K.lookup p1=some ⟨.type "tuple",od_p1,.seq #[.str "new" ttp1_0,.str "keys" ttp1_1] n_p1,sl_p1⟩)
  (up2:K.lookup p2=some ⟨.type "tuple",od_p2,.seq #[.str "new" ttp2_0,.str "board" ttp2_1] n_p2,sl_p2⟩)
  (up3:K.lookup p3=some ⟨.type "tuple",od_p3,.seq #[.str "new" ttp3_0,.str "board" ttp3_1] n_p3,sl_p3⟩)
  (up4:K.lookup p4=some ⟨.type "tuple",od_p4,.seq #[.str "new" ttp4_0,.str "board" ttp4_1,.str "board" ttp4_2,.str "leap" ttp4_3] n_p4,sl_p4⟩)
  (up5:K.lookup p5=some ⟨.type "tuple",od_p5,.seq #[.str "new" ttp5_0,.str "pipes" ttp5_1,.str "wind" ttp5_2] n_p5,sl_p5⟩)
  (up6:K.lookup p6=some ⟨.type "tuple",od_p6,.seq #[.str "rank" ttp6_0,.str "shift" ttp6_1,.str "low" ttp6_2,.str "high" ttp6_3] n_p6,sl_p6⟩)
  (ub1:K.lookup b1=some ⟨.type "tuple",od_b1,.seq #[.int (1) ttb1_0,.int (61) ttb1_1] n_b1,sl_b1⟩)
  (ub2:K.lookup b2=some ⟨.type "tuple",od_b2,.seq #[.int (-60) ttb2_0,.int (60) ttb2_1] n_b2,sl_b2⟩)
  (ub3:K.lookup b3=some ⟨.type "tuple",od_b3,.seq #[.int (1) ttb3_0,.int (97) ttb3_1] n_b3,sl_b3⟩)
  (ub4:K.lookup b4=some ⟨.type "tuple",od_b4,.seq #[.int (0) ttb4_0,.int (1000000000) ttb4_1] n_b4,sl_b4⟩)
  (ub5:K.lookup b5=some ⟨.type "tuple",od_b5,.seq #[.int (-200) ttb5_0,.int (200) ttb5_1] n_b5,sl_b5⟩)
  (ub6:K.lookup b6=some ⟨.type "tuple",od_b6,.seq #[.int (0) ttb6_0,.int (60) ttb6_1] n_b6,sl_b6⟩)
  (ub7:K.lookup b7=some ⟨.type "tuple",od_b7,.seq #[.int (0) ttb7_0,.int (60) ttb7_1] n_b7,sl_b7⟩)
  (uq1:K.lookup q1=some ⟨.type "tuple",od_q1,.seq #[.int (3) ttq1_0] n_q1,sl_q1⟩)
  (uq2:K.lookup q2=some ⟨.type "tuple",od_q2,.seq #[.int (3) ttq2_0] n_q2,sl_q2⟩)
  : ∃ fd:FuncData,(∀ (s:Shared) (v:Value),BindsTo s fd ⟨[v],[]⟩ [("_law_script",v)])/\∀ base:Heap,K.In base->base.Ns mainGlobals mg->Ao l.prog w K mg base BR 12 fa fd ["_law_script"] (Ou K):=by
 refine Classical.byContradiction fun hng=>?_
 obtain ⟨aWh,dWh,FWh⟩:=FWh
 obtain ⟨aMd,dMd,FMd⟩:=FMd
 obtain ⟨aNm,dNm,FNm⟩:=FNm
 obtain ⟨aRo,dRo,FRo⟩:=FRo
 obtain ⟨aTo,dTo,FTo⟩:=FTo
 obtain ⟨aWi,dWi,FWi⟩:=FWi
 obtain ⟨aPa,dPa,FPa⟩:=FPa
 obtain ⟨aHp,dHp,FHp⟩:=FHp
 obtain ⟨aCl,dCl,FCl⟩:=FCl
 obtain ⟨aIk,dIk,FIk⟩:=FIk
 obtain ⟨aSb,dSb,FSb⟩:=FSb
 obtain ⟨aIs,dIs,FIs⟩:=FIs
 obtain ⟨aWm,dWm,FWm⟩:=FWm
 obtain ⟨aHr,dHr,FHr⟩:=FHr
 obtain ⟨aIr,dIr,FIr⟩:=FIr
 obtain ⟨aCk,dCk,FCk⟩:=FCk
 obtain ⟨aNu,dNu,FNu⟩:=FNu
 obtain ⟨aCa,dCa,FCa⟩:=FCa
 obtain ⟨aPl,dPl,FPl⟩:=FPl
 obtain ⟨aLi,dLi,FLi⟩:=FLi
 obtain ⟨aSs,dSs,FSs⟩:=FSs
 obtain ⟨aMy,dMy,FMy⟩:=FMy
 obtain ⟨aSt,dSt,FSt⟩:=FSt
 obtain ⟨aHa,dHa,FHa⟩:=FHa
 obtain ⟨aMe,dMe,FMe⟩:=FMe
 obtain ⟨aSh,dSh,FSh⟩:=FSh
 obtain ⟨aUn,dUn,FUn⟩:=FUn
 obtain ⟨aLe,dLe,FLe⟩:=FLe
 obtain ⟨aDc,dDc,FDc⟩:=FDc
 obtain ⟨aHk,dHk,FHk⟩:=FHk
 obtain ⟨aWa,dWa,FWa⟩:=FWa
 obtain ⟨aCq,dCq,FCq⟩:=FCq
 obtain ⟨aMu,dMu,FMu⟩:=FMu
 obtain ⟨aUk,dUk,FUk⟩:=FUk
 obtain ⟨aSk,dSk,FSk⟩:=FSk
 obtain ⟨aNb,dNb,FNb⟩:=FNb
 obtain ⟨aLl,dLl,FLl⟩:=FLl
 obtain ⟨aBs,dBs,FBs⟩:=FBs
 obtain ⟨aBa,dBa,FBa⟩:=FBa
 obtain ⟨aSo,dSo,FSo⟩:=FSo
 obtain ⟨aBn,dBn,FBn⟩:=FBn
 obtain ⟨aKy,dKy,FKy⟩:=FKy
 obtain ⟨aDz,dDz,FDz⟩:=FDz
 obtain ⟨aId,dId,FId⟩:=FId
 obtain ⟨aCe,dCe,FCe⟩:=FCe
 obtain ⟨aMi,dMi,FMi⟩:=FMi
 obtain ⟨aLx,dLx,FLx⟩:=FLx
 obtain ⟨aQu,dQu,FQu⟩:=FQu
 obtain ⟨aBz,dBz,FBz⟩:=FBz
 obtain ⟨aOi,iOi,dOi,FOi⟩:=FOi
 obtain ⟨aOb,iOb,dOb,FOb⟩:=FOb
 obtain ⟨aOc,iOc,dOc,FOc⟩:=FOc
 obtain ⟨aOk,iOk,dOk,FOk⟩:=FOk
 obtain ⟨aOo,iOo,dOo,FOo⟩:=FOo
 obtain ⟨aBk,iBk,dBk,FBk⟩:=FBk
 obtain ⟨aOp,iOp,dOp,FOp⟩:=FOp
 obtain ⟨aOr,iOr,dOr,FOr⟩:=FOr
 obtain ⟨aOq,iOq,dOq,FOq⟩:=FOq
 obtain ⟨aOe,iOe,dOe,FOe⟩:=FOe
 obtain ⟨aOs,iOs,dOs,FOs⟩:=FOs
 obtain ⟨aOm,iOm,dOm,FOm⟩:=FOm
 obtain ⟨aOu,iOu,dOu,FOu⟩:=FOu
 obtain ⟨aOy,iOy,dOy,FOy⟩:=FOy
 obtain ⟨aOz,iOz,dOz,FOz⟩:=FOz
 obtain ⟨aXi,iXi,dXi,FXi⟩:=FXi
 obtain ⟨aXk,iXk,dXk,FXk⟩:=FXk
 obtain ⟨aQi,iQi,dQi,FQi⟩:=FQi
 obtain ⟨aQh,iQh,dQh,FQh⟩:=FQh
 obtain ⟨aQl,iQl,dQl,FQl⟩:=FQl
 obtain ⟨aQa,iQa,dQa,FQa⟩:=FQa
 obtain ⟨aQd,iQd,dQd,FQd⟩:=FQd
 obtain ⟨aQs,iQs,dQs,FQs⟩:=FQs
 obtain ⟨aQe,iQe,dQe,FQe⟩:=FQe
 obtain ⟨aQk,iQk,dQk,FQk⟩:=FQk
 refine hng ?_
 have e:=hfa.symm.trans (W.mg_of X G aZ)
 cases e
 have FZ:=N5 (st:=J0) lZ cZ kZ
 have gN:KTup K aN [.str "board",.str "rank",.str "stop",.str "coupler",.str "mute"]:=(⟨_,_,_,uN,rfl,rfl,by show 5<=sizeLine; decide,.cons ⟨_,rfl⟩ (.cons ⟨_,rfl⟩ (.cons ⟨_,rfl⟩ (.cons ⟨_,rfl⟩ (.cons ⟨_,rfl⟩ (.nil)))))⟩)
 have gK:KTup K aK [.str "stop",.str "coupler",.str "mute"]:=(⟨_,_,_,uK,rfl,rfl,by show 3<=sizeLine; decide,.cons ⟨_,rfl⟩ (.cons ⟨_,rfl⟩ (.cons ⟨_,rfl⟩ (.nil)))⟩)
 have gp1:KTup K p1 [.str "new",.str "keys"]:=(⟨_,_,_,up1,rfl,rfl,by show 2<=sizeLine; decide,.cons ⟨_,rfl⟩ (.cons ⟨_,rfl⟩ (.nil))⟩)
 have gp2:KTup K p2 [.str "new",.str "board"]:=(⟨_,_,_,up2,rfl,rfl,by show 2<=sizeLine; decide,.cons ⟨_,rfl⟩ (.cons ⟨_,rfl⟩ (.nil))⟩)
 have gp3:KTup K p3 [.str "new",.str "board"]:=(⟨_,_,_,up3,rfl,rfl,by show 2<=sizeLine; decide,.cons ⟨_,rfl⟩ (.cons ⟨_,rfl⟩ (.nil))⟩)
 have gp4:KTup K p4 [.str "new",.str "board",.str "board",.str "leap"]:=(⟨_,_,_,up4,rfl,rfl,by show 4<=sizeLine; decide,.cons ⟨_,rfl⟩ (.cons ⟨_,rfl⟩ (.cons ⟨_,rfl⟩ (.cons ⟨_,rfl⟩ (.nil))))⟩)
 have gp5:KTup K p5 [.str "new",.str "pipes",.str "wind"]:=(⟨_,_,_,up5,rfl,rfl,by show 3<=sizeLine; decide,.cons ⟨_,rfl⟩ (.cons ⟨_,rfl⟩ (.cons ⟨_,rfl⟩ (.nil)))⟩)
 have gp6:KTup K p6 [.str "rank",.str "shift",.str "low",.str "high"]:=(⟨_,_,_,up6,rfl,rfl,by show 4<=sizeLine; decide,.cons ⟨_,rfl⟩ (.cons ⟨_,rfl⟩ (.cons ⟨_,rfl⟩ (.cons ⟨_,rfl⟩ (.nil))))⟩)
 have gb1:KTup K b1 [.int (1),.int (61)]:=(⟨_,_,_,ub1,rfl,rfl,by show 2<=sizeLine; decide,.cons ⟨_,rfl⟩ (.cons ⟨_,rfl⟩ (.nil))⟩)
 have gb2:KTup K b2 [.int (-60),.int (60)]:=(⟨_,_,_,ub2,rfl,rfl,by show 2<=sizeLine; decide,.cons ⟨_,rfl⟩ (.cons ⟨_,rfl⟩ (.nil))⟩)
 have gb3:KTup K b3 [.int (1),.int (97)]:=(⟨_,_,_,ub3,rfl,rfl,by show 2<=sizeLine; decide,.cons ⟨_,rfl⟩ (.cons ⟨_,rfl⟩ (.nil))⟩)
 have gb4:KTup K b4 [.int (0),.int (1000000000)]:=(⟨_,_,_,ub4,rfl,rfl,by show 2<=sizeLine; decide,.cons ⟨_,rfl⟩ (.cons ⟨_,rfl⟩ (.nil))⟩)
 have gb5:KTup K b5 [.int (-200),.int (200)]:=(⟨_,_,_,ub5,rfl,rfl,by show 2<=sizeLine; decide,.cons ⟨_,rfl⟩ (.cons ⟨_,rfl⟩ (.nil))⟩)
 have gb6:KTup K b6 [.int (0),.int (60)]:=(⟨_,_,_,ub6,rfl,rfl,by show 2<=sizeLine; decide,.cons ⟨_,rfl⟩ (.cons ⟨_,rfl⟩ (.nil))⟩)
 have gb7:KTup K b7 [.int (0),.int (60)]:=(⟨_,_,_,ub7,rfl,rfl,by show 2<=sizeLine; decide,.cons ⟨_,rfl⟩ (.cons ⟨_,rfl⟩ (.nil))⟩)
 have gq1:KTup K q1 [.int (3)]:=(⟨_,_,_,uq1,rfl,rfl,by show 1<=sizeLine; decide,.cons ⟨_,rfl⟩ (.nil)⟩)
 have gq2:KTup K q2 [.int (3)]:=(⟨_,_,_,uq2,rfl,rfl,by show 1<=sizeLine; decide,.cons ⟨_,rfl⟩ (.nil)⟩)
 have F2:WY K aB aP aM:=⟨⟨⟨_,qp1,gp1⟩,⟨_,qp2,gp2⟩,⟨_,qp3,gp3⟩,⟨_,qp4,gp4⟩,⟨_,qb1,gb1⟩,⟨_,qb2,gb2⟩,qn,qb,⟨_,qm1⟩,⟨_,qm2⟩,⟨_,qm3⟩,⟨_,qm4⟩⟩,⟨_,qp5,gp5⟩,⟨_,qp6,gp6⟩,⟨_,qb3,gb3⟩,⟨_,qb4,gb4⟩,⟨_,qb5,gb5⟩,⟨_,qb6,gb6⟩,⟨_,qb7,gb7⟩,qr,⟨_,qm5⟩,ql⟩
 have F0:dU K aB aP aM:=⟨F2,⟨_,qm6⟩⟩
 have T:Txt K w.params mg C Cy Cp cH cO aQ aN aK aB aP aM:=⟨W.mg_none_of X G zlen,W.mg_none_of X G zisinstance,W.mg_none_of X G zint,W.mg_none_of X G zbool,W.mg_none_of X G zstr,W.mg_none_of X G zlist,W.mg_none_of X G ztuple,W.mg_none_of X G zall,W.mg_none_of X G zany,W.mg_none_of X G zsum,W.mg_none_of X G zrange,W.mg_none_of X G zzip,W.mg_none_of X G zenumerate,W.mg_none_of X G zmax,W.mg_none_of X G zreversed,W.mg_none_of X G zset,W.mg_none_of X G zmin,⟨_,W.mg_of X G zLET⟩,⟨_,W.mg_of X G zML⟩,⟨_,W.mg_of X G zMR⟩,⟨_,W.mg_of X G zMLn⟩,⟨_,W.mg_of X G zMB⟩,W.mg_of X G rN,W.mg_of X G rK,W.mg_of X G rB,W.mg_of X G rP,W.mg_of X G rM,gN,gK,⟨⟨_,_,dB,kB⟩,oB⟩,⟨⟨_,_,dP,kP⟩,oP⟩,⟨⟨_,_,dM,kM⟩,oM⟩,⟨pg,hd,po,sa⟩,W.mg_of X G aC,⟨pg2,hd2,po2,sa2⟩,W.mg_of X G aCy,nr2o,nr2d,nr2s,nr2t,⟨pg3,hd3,po3,sa3⟩,W.mg_of X G aCp,np3o,np3c,np3h,⟨W.mg_none_of X G xve,W.mg_of X G xmH,W.mg_of X G xmO,xeH,Rc.of xbH,xmm⟩,W.mg_of X G rQ,⟨⟨_,_,dQ,kQ⟩,oQ⟩,⟨_,qqh,gq1⟩,⟨_,qql,gq2⟩,n_row_list_,n_board_list_,n_rank_list_,n_knob_rows_,n_board_numbers_,n_rank_numbers_,n_knob_numbers_,n_key_places_,n_pipe_places_,n_knob_lines_,n_step_sets_⟩
 have N:iy K mg C Cy Cp ⟨fWh,fMd,fNm,fRo,fTo,fWi,fPa,fHp,fCl,fIk,fSb,fIs,fWm,fHr,fIr,fCk,fNu,fCa,fPl,fLi,fSs,fMy,fSt,fHa,fMe,fSh,fUn,fLe,fDc,fHk,fWa,fCq,fMu,fUk,fSk,fNb,fLl,fBs,fBa,fSo,fBn,fKy,fDz,fId,fCe,fMi,fLx,fQu,fBz,fOi,fOb,fOc,fOk,fOo,fBk,fOp,fOr,fOq,fOe,fOs,fOm,fOu,fOy,fOz,fXi,fXk,fQi,fQh,fQl,fQa,fQd,fQs,fQe,fQk,_,_,_,_,_,_,_,_,_,_,_,_,_,_,_,_,_,_,_,_,_,_,_,_,_,_,_,_,_,_,_,_,_,_,_,_,_,_,_,_,_,_,_,_,_,_,_,_,_,_,_,_,_,_,_,_,_,_,_,_,_,_,_,_,_,_,_,_,_,_,_,_,_,_⟩:=⟨⟨FWh,(Ed FWh),W.mg_of X G aWh⟩,⟨FMd,(Fb FMd),W.mg_of X G aMd⟩,⟨FNm,(Ed FNm),W.mg_of X G aNm⟩,⟨FRo,(Dk FRo),W.mg_of X G aRo⟩,⟨FTo,(Fb FTo),W.mg_of X G aTo⟩,⟨FWi,(Dk FWi),W.mg_of X G aWi⟩,⟨FPa,(Fb FPa),W.mg_of X G aPa⟩,⟨FHp,(Dk FHp),W.mg_of X G aHp⟩,⟨FCl,(Ed FCl),W.mg_of X G aCl⟩,⟨FIk,(Fb FIk),W.mg_of X G aIk⟩,⟨FSb,(Dk FSb),W.mg_of X G aSb⟩,⟨FIs,(Dk FIs),W.mg_of X G aIs⟩,⟨FWm,(Dk FWm),W.mg_of X G aWm⟩,⟨FHr,(Dk FHr),W.mg_of X G aHr⟩,⟨FIr,(Dk FIr),W.mg_of X G aIr⟩,⟨FCk,(Ed FCk),W.mg_of X G aCk⟩,⟨FNu,(Ed FNu),W.mg_of X G aNu⟩,⟨FCa,(Ed FCa),W.mg_of X G aCa⟩,⟨FPl,(Ed FPl),W.mg_of X G aPl⟩,⟨FLi,(Dk FLi),W.mg_of X G aLi⟩,⟨FSs,(Dk FSs),W.mg_of X G aSs⟩,⟨FMy,(Ed FMy),W.mg_of X G aMy⟩,⟨FSt,(Ed FSt),W.mg_of X G aSt⟩,⟨FHa,(Dk FHa),W.mg_of X G aHa⟩,⟨FMe,(Ed FMe),W.mg_of X G aMe⟩,⟨FSh,(Fb FSh),W.mg_of X G aSh⟩,⟨FUn,(Ed FUn),W.mg_of X G aUn⟩,⟨FLe,(Fb FLe),W.mg_of X G aLe⟩,⟨FDc,(Fb FDc),W.mg_of X G aDc⟩,⟨FHk,(Dk FHk),W.mg_of X G aHk⟩,⟨FWa,(Fb FWa),W.mg_of X G aWa⟩,⟨FCq,(Fb FCq),W.mg_of X G aCq⟩,⟨FMu,(Dk FMu),W.mg_of X G aMu⟩,⟨FUk,(Fb FUk),W.mg_of X G aUk⟩,⟨FSk,(Fb FSk),W.mg_of X G aSk⟩,⟨FNb,(Fb FNb),W.mg_of X G aNb⟩,⟨FLl,(Fb FLl),W.mg_of X G aLl⟩,⟨FBs,(Fb FBs),W.mg_of X G aBs⟩,⟨FBa,(Fb FBa),W.mg_of X G aBa⟩,⟨FSo,(Fb FSo),W.mg_of X G aSo⟩,⟨FBn,(Dk FBn),W.mg_of X G aBn⟩,⟨FKy,(Fb FKy),W.mg_of X G aKy⟩,⟨FDz,(Fb FDz),W.mg_of X G aDz⟩,⟨FId,(Ed FId),W.mg_of X G aId⟩,⟨FCe,(Dk FCe),W.mg_of X G aCe⟩,⟨FMi,(Fb FMi),W.mg_of X G aMi⟩,⟨FLx,(Dk FLx),W.mg_of X G aLx⟩,⟨FQu,(Ed FQu),W.mg_of X G aQu⟩,⟨FBz,(Ed FBz),W.mg_of X G aBz⟩,⟨FOi,(Dk FOi),⟨mkC,aOi,iOi,kc⟩⟩,⟨FOb,(Ed FOb),⟨aOb,iOb,FOb.kp⟩⟩,⟨FOc,(Ed FOc),⟨aOc,iOc,FOc.kp⟩⟩,⟨FOk,(Fb FOk),⟨aOk,iOk,FOk.kp⟩⟩,⟨FOo,(Dk FOo),⟨aOo,iOo,FOo.kp⟩⟩,⟨FBk,(Dk FBk),⟨aBk,iBk,FBk.kp⟩⟩,⟨FOp,(Dk FOp),⟨aOp,iOp,FOp.kp⟩⟩,⟨FOr,(Ed FOr),⟨aOr,iOr,FOr.kp⟩⟩,⟨FOq,(Ed FOq),⟨aOq,iOq,FOq.kp⟩⟩,⟨FOe,(Fb FOe),⟨aOe,iOe,FOe.kp⟩⟩,⟨FOs,(Dk FOs),⟨aOs,iOs,FOs.kp⟩⟩,⟨FOm,(Dk FOm),⟨aOm,iOm,FOm.kp⟩⟩,⟨FOu,(Dk FOu),⟨aOu,iOu,FOu.kp⟩⟩,⟨FOy,(Ed FOy),⟨aOy,iOy,FOy.kp⟩⟩,⟨FOz,(Ed FOz),⟨aOz,iOz,FOz.kp⟩⟩,⟨FXi,(Dk FXi),⟨mkC2,aXi,iXi,kc2⟩⟩,⟨FXk,(Ed FXk),⟨aXk,iXk,FXk.kp⟩⟩,⟨FQi,(Dk FQi),⟨mkC3,aQi,iQi,kc3⟩⟩,⟨FQh,(Dk FQh),⟨aQh,iQh,FQh.kp⟩⟩,⟨FQl,(Dk FQl),⟨aQl,iQl,FQl.kp⟩⟩,⟨FQa,(Dk FQa),⟨aQa,iQa,FQa.kp⟩⟩,⟨FQd,(Dk FQd),⟨aQd,iQd,FQd.kp⟩⟩,⟨FQs,(Ed FQs),⟨aQs,iQs,FQs.kp⟩⟩,⟨FQe,(Ed FQe),⟨aQe,iQe,FQe.kp⟩⟩,⟨FQk,(Ed FQk),⟨aQk,iQk,FQk.kp⟩⟩⟩
 exact ⟨W.fnOf "law" "law" (Eh J0) (Dl J0) (Ac J0) .none kVZ dcZ pmZ anZ cdZ ctZ,fun s v=>.of_eq rfl,fun base _ _=>Wx FZ N T F0⟩
theorem walk {l:W.OpenLaw} {q:Program} {loose:List Str} {XP:(Str->Option Value)->Heap->Prop} {YP:World->Heap->Prop} {d:DefRec} {K:Params->W.Frag} (hn:l.most=some 63) (hdf:d.params.defaults=[])
  (hY:∀ (w:World) (h:Heap),YP w h->(K w.params).In h)
  (F:∀ (w:World) (mg:Str->Option Value) (fa:Addr) (h:Heap),(K w.params).In h->h.Ns mainGlobals mg->mg d.name=some (.ref fa) ->
   ∃ fd:FuncData,(∀ (s:Shared) (u:Value),BindsTo s fd ⟨[u],[]⟩ [("_law_script",u)])/\∀ base:Heap,(K w.params).In base->base.Ns mainGlobals mg->Ao l.prog w (K w.params) mg base BR 12 fa fd ["_law_script"] (Ou (K w.params))) :
  W.WalkO q loose XP YP l.row.toRowW d [] (fun f vs=>PySem.call f vs) :=
 L2.U_ (n:=63) (k:=12) (x:="_law_script") (CX:=fun _=>BR) (sp:=fun w=>Ou (K w.params)) hn (by decide) hdf ⟨rfl,by decide,by decide⟩ hY F (fun _ _ a ns hl _ hS=>⟨a,ns,rfl,hS,hl,fun _=>rfl⟩) fun _ _ _ _ _ z=>z
end K42
open PySem PySem.W PyProof.Rows
noncomputable def PySem.W.Fast.tw11772728213651187593:Unit:=()
noncomputable def PySem.W.Fast.tw14432559115571097188:Unit:=()
noncomputable def PySem.W.Fast.tw14778856429568739358:Unit:=()
noncomputable def PySem.W.Fast.tw3973431909187090891:Unit:=()
noncomputable def PySem.W.Fast.tw12758777932293345698:Unit:=()
noncomputable def PySem.W.Fast.tw11170998972622261187:Unit:=()
noncomputable def PySem.W.Fast.tw14780793913553774895:Unit:=()
noncomputable def PySem.W.Fast.tw2473822774690392957:Unit:=()
noncomputable def PySem.W.Fast.tw12745883510307520087:Unit:=()
noncomputable def PySem.W.Fast.tw3383050187733975718:Unit:=()
noncomputable def PySem.W.Fast.tw16615663120513321606:Unit:=()
noncomputable def PySem.W.Fast.tw10484450510683935644:Unit:=()
noncomputable def PySem.W.Fast.tw10347009906115361938:Unit:=()
noncomputable def PySem.W.Fast.tw10027230579943891644:Unit:=()
noncomputable def PySem.W.Fast.tw6367060336065102143:Unit:=()
noncomputable def PySem.W.Fast.tw2431760691970778936:Unit:=()
noncomputable def PySem.W.Fast.tw3673308753666189600:Unit:=()
noncomputable def PySem.W.Fast.tw5556668031985925451:Unit:=()
noncomputable def PySem.W.Fast.tw8094177348024156337:Unit:=()
noncomputable def PySem.W.Fast.tw629529711900361355:Unit:=()
noncomputable def PySem.W.Fast.tw15002939411260345539:Unit:=()
noncomputable def PySem.W.Fast.tw1028629760515126701:Unit:=()
noncomputable def PySem.W.Fast.tw11971270547050274542:Unit:=()
noncomputable def PySem.W.Fast.tw7115257247352110017:Unit:=()
noncomputable def PySem.W.Fast.tw17011941466756064701:Unit:=()
noncomputable def PySem.W.Fast.tw9318483209841844549:Unit:=()
noncomputable def PySem.W.Fast.tw2285771808188370559:Unit:=()
noncomputable def PySem.W.Fast.tw2273928322301048924:Unit:=()
noncomputable def PySem.W.Fast.tw12695708780263793103:Unit:=()
noncomputable def PySem.W.Fast.tw5911348740476004945:Unit:=()
noncomputable def PySem.W.Fast.tw6057805613118350469:Unit:=()
noncomputable def PySem.W.Fast.tw3955265902247185143:Unit:=()
noncomputable def PySem.W.Fast.tw16814779382850568596:Unit:=()
noncomputable def PySem.W.Fast.tw2766641522251675971:Unit:=()
noncomputable def PySem.W.Fast.tw17895497643880950446:Unit:=()
noncomputable def PySem.W.Fast.tw3632366441648715855:Unit:=()
noncomputable def PySem.W.Fast.tw3865087884723194002:Unit:=()
noncomputable def PySem.W.Fast.tw7123538496744717733:Unit:=()
noncomputable def PySem.W.Fast.tw15242040090983931955:Unit:=()
noncomputable def PySem.W.Fast.tw18422837374410282857:Unit:=()
noncomputable def PySem.W.Fast.tw12975763310454013174:Unit:=()
noncomputable def PySem.W.Fast.tw10539344252630451737:Unit:=()
noncomputable def PySem.W.Fast.tw4646434543992191231:Unit:=()
noncomputable def PySem.W.Fast.tw1326808082387072745:Unit:=()
noncomputable def PySem.W.Fast.tw7795210800365781213:Unit:=()
noncomputable def PySem.W.Fast.tw2859535785708875835:Unit:=()
noncomputable def PySem.W.Fast.tw4681282003477989440:Unit:=()
noncomputable def PySem.W.Fast.tw13203378472442285366:Unit:=()
noncomputable def PySem.W.Fast.tw11375336356832607815:Unit:=()
noncomputable def PySem.W.Fast.tw6041115406458406494:Unit:=()
noncomputable def PySem.W.Fast.tw115825537787194922:Unit:=()
noncomputable def PySem.W.Fast.tw14965910137868086710:Unit:=()
noncomputable def PySem.W.Fast.tw16739263582979560046:Unit:=()
noncomputable def PySem.W.Fast.tw4687870371015859729:Unit:=()
noncomputable def PySem.W.Fast.tw16634680151424962889:Unit:=()
noncomputable def PySem.W.Fast.tw10373181073585320175:Unit:=()
noncomputable def PySem.W.Fast.tw1904881918683543367:Unit:=()
noncomputable def PySem.W.Fast.tw3829609289736671551:Unit:=()
noncomputable def PySem.W.Fast.tw15780584643934908644:Unit:=()
noncomputable def PySem.W.Fast.tw14988400863438580270:Unit:=()
noncomputable def PySem.W.Fast.tw3146805362738255215:Unit:=()
noncomputable def PySem.W.Fast.tw5730107418966029777:Unit:=()
noncomputable def PySem.W.Fast.tw14747058650262586746:Unit:=()
noncomputable def PySem.W.Fast.tw2419068022804376580:Unit:=()
noncomputable def PySem.W.Fast.tw6025091451607655436:Unit:=()
noncomputable def PySem.W.Fast.tw11250002592044703462:Unit:=()
noncomputable def PySem.W.Fast.tw11464939227331382188:Unit:=()
noncomputable def PySem.W.Fast.tw12888704372915397042:Unit:=()
noncomputable def PySem.W.Fast.tw10867072214014097334:Unit:=()
noncomputable def PySem.W.Fast.tw1819834382383045133:Unit:=()
noncomputable def PySem.W.Fast.tw18381398919348104496:Unit:=()
noncomputable def PySem.W.Fast.tw16500592579437334663:Unit:=()
noncomputable def PySem.W.Fast.tw11922456103790161819:Unit:=()
noncomputable def PySem.W.Fast.tw4984080005153608432:Unit:=()
noncomputable def PySem.W.Fast.tw11384396901597916511:Unit:=()
noncomputable def PySem.W.Fast.tw7625708981425597622:Unit:=()
noncomputable def PySem.W.Fast.tw8118780401546328070:Unit:=()
noncomputable def PySem.W.Fast.tw1485777850516256738:Unit:=()
noncomputable def PySem.W.Fast.tw3683833822188369370:Unit:=()
noncomputable def PySem.W.Fast.tw7113480415839582290:Unit:=()
noncomputable def PySem.W.Fast.tw2303111226556784631:Unit:=()
noncomputable def PySem.W.Fast.tw14454367185645042920:Unit:=()
noncomputable def PySem.W.Fast.tw847340970579914050:Unit:=()
noncomputable def PySem.W.Fast.tw8406244190022596529:Unit:=()
noncomputable def PySem.W.Fast.tw7216889717948868111:Unit:=()
noncomputable def PySem.W.Fast.tw7291798881843066397:Unit:=()
noncomputable def PySem.W.Fast.tw33728916779093878:Unit:=()
noncomputable def PySem.W.Fast.tw15150488346333828304:Unit:=()
noncomputable def PySem.W.Fast.tw4275523603046790686:Unit:=()
noncomputable def PySem.W.Fast.tw14095952456159989816:Unit:=()
noncomputable def PySem.W.Fast.tw10420642090946006434:Unit:=()
noncomputable def PySem.W.Fast.tw16930291831093960952:Unit:=()
noncomputable def PySem.W.Fast.tw7723978662448813086:Unit:=()
noncomputable def PySem.W.Fast.tw16907162033013965763:Unit:=()
noncomputable def PySem.W.Fast.tw4017694954010261942:Unit:=()
noncomputable def PySem.W.Fast.tw10835863896801455824:Unit:=()
noncomputable def PySem.W.Fast.tw14662055255734981102:Unit:=()
noncomputable def PySem.W.Fast.tw6547742569486371820:Unit:=()
noncomputable def PySem.W.Fast.tw5170733316059563466:Unit:=()
noncomputable def PySem.W.Fast.tw4311790527794133700:Unit:=()
noncomputable def PySem.W.Fast.tw16011931930048869723:Unit:=()
noncomputable def PySem.W.Fast.tw8568286073282588639:Unit:=()
noncomputable def PySem.W.Fast.tw10039548638256292302:Unit:=()
noncomputable def PySem.W.Fast.tw16831564290742683830:Unit:=()
noncomputable def PySem.W.Fast.tw2801504137965130827:Unit:=()
noncomputable def PySem.W.Fast.tw3487280219201259072:Unit:=()
noncomputable def PySem.W.Fast.tw16723589658212985205:Unit:=()
noncomputable def PySem.W.Fast.tw18394779414717649968:Unit:=()
noncomputable def PySem.W.Fast.tw160879894438105844:Unit:=()
noncomputable def PySem.W.Fast.tw18139678748166480948:Unit:=()
noncomputable def PySem.W.Fast.tw2318658147418220271:Unit:=()
set_option maxRecDepth 100000 in
set_option maxHeartbeats 0 in
theorem PySem.Challenge.cw_windchest_k42_hands_on_keys_holds : PySem.Challenge.rw_windchest_k42_hands_on_keys.Holds := by
 w_on; o_law; k_head; (case hw=>w_witness2)
 k_fill
 refine K42.walk (l:=PySem.Challenge.rw_windchest_k42_hands_on_keys) rfl rfl (fun w h Y=>PySem.W.kIn_of Y) ?F
 case F =>
  intro w mg fa h KX G hmg
  refine' K42.Wr KX G hmg ?_ ?_ ?_ ?_ ?_ ?_ ?_ ?_ ?_ ?_ ?_ ?_ ?_ ?_ ?_ ?_ ?_ ?_ ?_ ?_ ?_ ?_ ?_ ?_ ?_ ?_ ?_ ?_ ?_ ?_ ?_ ?_ ?_ ?_ ?_ ?_ ?_ ?_ ?_ ?_ ?_ ?_ ?_ ?_ ?_ ?_ ?_ ?_ ?_ ?_ ?_ ?_ ?_ ?_ ?_ ?_ ?_ ?_ ?_ ?_ ?_ ?_ ?_ ?_ ?_ ?_ ?_ ?_ ?_ ?_ ?_ ?_ ?_ ?_ ?_ ?_ ?_ ?_ ?_ ?_ ?_ ?_ ?_ ?_ ?_ ?_ ?_ ?_ ?_ ?_ ?_ ?_ ?_ ?_ ?_ ?_ ?_ ?_ ?_ ?_ ?_ ?_ ?_ ?_ ?_ ?_ ?_ ?_ ?_ ?_ ?_ ?_ ?_ ?_ ?_ ?_ ?_ ?_ ?_ ?_ ?_ ?_ ?_ ?_ ?_ ?_ ?_ ?_ ?_ ?_ ?_ ?_ ?_ ?_ ?_ ?_ ?_ ?_ ?_ ?_ ?_ ?_ ?_ ?_ ?_ ?_ ?_ ?_ ?_ ?_ ?_ ?_ ?_ ?_ ?_ ?_ ?_ ?_ ?_ ?_ ?_ ?_ ?_ ?_ ?_ ?_ ?_ ?_ ?_ ?_ ?_ ?_ ?_ ?_ ?_ ?_ ?_ ?_ ?_ ?_ ?_ ?_ ?_ ?_ ?_ ?_ ?_ ?_ ?_ ?_ ?_ ?_ ?_ ?_ ?_ ?_ ?_ ?_ ?_ ?_ ?_ ?_ ?_ ?_ ?_
  all_goals first | (k_is; done) | (refine' ⟨?a,_,L2.N5 ?l ?c ?k⟩; (case a=>k_is); (case l=>k_is); (case c=>k_is); case k=>k_is) | (refine' ⟨?a,?i,_,L2.N5 ?l ?c ?k⟩; (case a=>k_is); (case i=>k_is); (case l=>k_is); (case c=>k_is); case k=>k_is) | (k_keys; done) | decide | kernel_rfl! | skip
end PartK42z
