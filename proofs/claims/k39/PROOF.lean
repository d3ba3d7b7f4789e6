import PyProof.Rows.All
import Wide.All
import OpenK.AllK
import Wide.FinOn
import Lean
import PyProof.EqAt
import PyProof.EqKinds
import PyProof.TupleCall
import PyProof.ZipIter
import PyProof.WalksEnum
import PyProof.EnumMake
import PyProof.NeKinds
import KE.KDictList
import PyProof.Rows.SetFrom
import PyProof.StrWalks
import PyProof.CollectWalk
import PyProof.Rows.SortWalk
import PyProof.Rows.BitMore
import PyProof.Rows.IntCalls
import KE.KRevIter
import PyProof.SetRoads
import OpenK.KTop
import PyProof.Rows.StrWeight2
import PyProof.SumWalk
import PyProof.SliceList
import PyProof.FactsAll.subtypes_4
import PyProof.StationsW
import PyProof.NsDelKeeps
import PyProof.Rows.StrClose
import PyProof.Rows.CatFin
import PyProof.SeqI3
import PyProof.Rows.StrCase
import PyProof.PureStr
import PyProof.IsRules
import PySem.Challenge.RW_windchest_k39_whole_pressed_again
local macro_rules | `(tactic| omega) => `(tactic| lia)
set_option Elab.async false
set_option linter.all false
set_option maxRecDepth 100000
namespace L2
open PySem PySem.Spec PyProof.Rows
noncomputable abbrev Key:=Sum Int Str
noncomputable def K5:Key->Value->Bool
 | .inl k,v=>Value.isInt k v
 | .inr x,v=>Value.isStrOf x v
noncomputable def nU (w:World):Key->Int
 | .inl k=>hashInt k
 | .inr x=>hashStr w x
theorem Cj:∀ {k:Key} {v:Value},K5 k v=true->(∃ i t,k=Sum.inl i/\v=Value.int i t) \/ (∃ x t,k=Sum.inr x/\v=Value.str x t)
 | .inl i,v,h=>by
  obtain ⟨t,e⟩:=Value.isInt_shape (k:=i) (v:=v) h
  exact .inl ⟨i,t,rfl,e⟩
 | .inr x,v,h=>by
  obtain ⟨t,e⟩:=Value.isStrOf_shape (x:=x) (v:=v) h
  exact .inr ⟨x,t,rfl,e⟩
theorem Rf (i:Int) (t:Tok):K5 (.inl i) (.int i t)=true:=by simp [K5,Value.isInt]
theorem Q9 (x:Str) (t:Tok):K5 (.inr x) (.str x t)=true:=by simp [K5,Value.isStrOf]
theorem X4 (a b:Int):decide ((Sum.inl a:Key)=Sum.inl b)=(a == b):=by
 by_cases e:a=b
 ·subst e; simp
 ·have h:¬ (Sum.inl a:Key)=Sum.inl b:=fun q=>e (Sum.inl.inj q)
  rw [decide_eq_false h]
  exact (beq_eq_false_iff_ne.mpr e).symm
theorem Yc (a b:Str):decide ((Sum.inr a:Key)=Sum.inr b)=decide (a=b):=by
 by_cases e:a=b
 ·subst e; simp
 ·have h:¬ (Sum.inr a:Key)=Sum.inr b:=fun q=>e (Sum.inr.inj q)
  rw [decide_eq_false h,decide_eq_false e]
theorem Y4 (a:Int) (b:Str):decide ((Sum.inl a:Key)=Sum.inr b)=false:=decide_eq_false (fun q=>nomatch q)
theorem X3 (a:Str) (b:Int):decide ((Sum.inr a:Key)=Sum.inl b)=false:=decide_eq_false (fun q=>nomatch q)
noncomputable def Cu (prog:Program) (w:World):PySem.KeyKind prog w Key where
 is:=K5
 hash:=nU w
 inj:=fun v a b ha hb=>by
  rcases Cj ha with ⟨i,t,rfl,rfl⟩ | ⟨x,t,rfl,rfl⟩
  ·rcases Cj hb with ⟨j,u,rfl,e⟩ | ⟨y,u,rfl,e⟩
   ·injection e with e1 _; rw [e1]
   ·exact nomatch e
  ·rcases Cj hb with ⟨j,u,rfl,e⟩ | ⟨y,u,rfl,e⟩
   ·exact nomatch e
   ·injection e with e1 _; rw [e1]
 byValue:=fun k v h=>by
  rcases Cj h with ⟨i,t,rfl,rfl⟩ | ⟨x,t,rfl,rfl⟩ <;> rfl
 pyHash:=fun hv h=>by
  rcases Cj hv with ⟨i,t,rfl,rfl⟩ | ⟨x,t,rfl,rfl⟩
  ·exact wpAny_pyHash_int h
  ·exact wpAny_pyHash_str h
 eqBool:=fun hu hv h=>by
  rcases Cj hu with ⟨i,t,rfl,rfl⟩ | ⟨x,t,rfl,rfl⟩
  ·rcases Cj hv with ⟨j,u,rfl,rfl⟩ | ⟨y,u,rfl,rfl⟩
   ·rw [X4] at h; exact wpAny_eqBool_int h
   ·rw [Y4] at h; exact SeqAt.EqAt.int_str i t y u _ _ _ _ h
  ·rcases Cj hv with ⟨j,u,rfl,rfl⟩ | ⟨y,u,rfl,rfl⟩
   ·rw [X3] at h; exact SeqAt.EqAt.str_int x t j u _ _ _ _ h
   ·rw [Yc] at h; exact wpAny_eqBool_str h
 «strs»:=fun k x t v h=>by
  rcases Cj h with ⟨i,u,rfl,e⟩ | ⟨y,u,rfl,e⟩
  ·exact nomatch e
  ·injection e with e1 _
   subst e1
   cases v <;> rfl
theorem M7 (prog:Program) (w:World) (i:Int) (t:Tok):(Cu prog w).is (.inl i) (.int i t)=true:=Rf i t
theorem Mz (prog:Program) (w:World) (x:Str) (t:Tok):(Cu prog w).is (.inr x) (.str x t)=true:=Q9 x t
end L2
namespace L2
open PySem PySem.Spec PyProof.Rows
inductive V where
 | non | bl (b:Bool) | int (i:Int) | str (x:Str) | byt (b:Array UInt8) | flt (b:UInt64) | ref (a:Addr) | ty (n:String)
 deriving DecidableEq
noncomputable def RelV:V->Value->Prop
 | .non,u=>u=Value.none
 | .bl b,u=>u=Value.bool b
 | .int i,u=>∃ t,u=Value.int i t
 | .str x,u=>∃ t,u=Value.str x t
 | .byt b,u=>∃ t,u=Value.bytes b t
 | .flt b,u=>∃ t,u=Value.float b t
 | .ref a,u=>u=Value.ref a
 | .ty n,u=>u=Value.type n
noncomputable abbrev Vals:List V->List Value->Prop:=Paired RelV
theorem Vals.length {xs:List V} {us:List Value} (r:Vals xs us):xs.length=us.length:=Paired.length r
theorem Vals.get:∀ {xs:List V} {us:List Value} {i:Nat} {x:V},Vals xs us->xs[i]? = some x->∃ u,us[i]? = some u/\RelV x u
 | _,_,_,_,.nil,e=>by simp at e
 | _,_,0,_,.cons r _,e=>by simp at e; subst e; exact ⟨_,rfl,r⟩
 | _,_,i+1,x,.cons _ t,e=>by
  obtain ⟨u,h1,h2⟩:=Vals.get (i:=i) (x:=x) t (by simpa using e)
  exact ⟨u,by simpa using h1,h2⟩
theorem Vals.set {x:V} {u:Value} (r:RelV x u):∀ {xs:List V} {us:List Value} (i:Nat),Vals xs us->Vals (xs.set i x) (us.set i u)
 | _,_,_,.nil=>.nil
 | _,_,0,.cons _ t=>.cons r t
 | _,_,i+1,.cons q t=>.cons q (Vals.set r i t)
theorem Vals.append:∀ {xs ys:List V} {us ws:List Value},Vals xs us->Vals ys ws->Vals (xs++ys) (us++ws)
 | _,_,_,_,.nil,s=>s
 | _,_,_,_,.cons r t,s=>.cons r (Vals.append t s)
theorem Vals.take:∀ {xs:List V} {us:List Value} (n:Nat),Vals xs us->Vals (xs.take n) (us.take n)
 | _,_,0,_=>.nil
 | _,_,_+1,.nil=>.nil
 | _,_,n+1,.cons r t=>.cons r (Vals.take n t)
theorem Vals.drop:∀ {xs:List V} {us:List Value} (n:Nat),Vals xs us->Vals (xs.drop n) (us.drop n)
 | _,_,0,r=>r
 | _,_,_+1,.nil=>.nil
 | _,_,n+1,.cons _ t=>Vals.drop n t
noncomputable def Ft:Option V->Option Value->Prop
 | some v,some u=>RelV v u
 | none,none=>True
 | _,_=>False
noncomputable def KV {κ:Type}:List (κ × V)->List (κ × Value)->Prop:=Paired fun (p:κ × V) (q:κ × Value)=>p.1=q.1/\RelV p.2 q.2
noncomputable def kV:Key->V
 | .inl i=>.int i
 | .inr x=>.str x
inductive HO where
 | lst (xs:List V)
 | tup (xs:List V)
 | dK (kvs:List (Key × V)) | dT (kvs:List (List Key × V))
 | set (S:Int->Bool) (n:Nat)
 | ins (C dx:Addr) (fs:List (Str × V))
 | own (x:Addr)
 | xd (fs:List (Str × V))
 | met (f x:Addr)
 | rng (lo hi:Int)
 | frz (o:Obj) (u:HO)
 | tbl (ps:Array Value)
 | ext (φ:Heap->Prop)
noncomputable abbrev Hp:=Addr->Option HO
noncomputable def upd (H:Hp) (a:Addr) (o:HO):Hp:=fun b=>if b=a then some o else H b
theorem Ah {H:Hp} {a:Addr} {o:HO}:upd H a o a=some o:=by unfold upd; rw [if_pos rfl]
theorem Ar {H:Hp} {a b:Addr} {o:HO} (h:b ≠ a):upd H a o b=H b:=by unfold upd; rw [if_neg h]
theorem W7 {H:Hp} {a b:Addr} {o u:HO} (h:H a=some o) (h':H b=some u) (d:o ≠ u):a ≠ b:=by
 intro e; subst e; rw [h] at h'; exact d (Option.some.inj h')
theorem Ai {H:Hp} {a b:Addr} {o:HO} (h:H a=some o) (h':H b=none):a ≠ b:=by
 intro e; subst e; rw [h] at h'; cases h'
section
variable (P:Program) (w:World)
noncomputable def Bx (H:Hp) (h:Heap) (a:Addr):HO->Prop
 | .lst xs=>xs.length<=sizeLine/\∃ (its:List Value) (n:Nat),Vals xs its/\h.get? a=some { cls:=.type "list",data:=.seq its.toArray n }
 | .tup xs=>xs.length<=sizeLine/\∃ its:List Value,Vals xs its/\IsTup h a its.toArray
 | .dK kvs=>kvs.length<=sizeLine/\(a == sysModules)=false/\∃ vs,KV kvs vs/\h.DictOf (Cu P w) a vs
 | .dT kvs=>kvs.length<=sizeLine/\(a == sysModules)=false/\∃ xs:List (List Key × Addr × Value),
   Paired (fun (p:List Key × V) (q:List Key × Addr × Value)=>p.1=q.1/\H q.2.1=some (.tup (p.1.map kV))/\RelV p.2 q.2.2) kvs xs /\
   ∃ o es ep,h.get? a=some o/\o.ExactDict/\o.data=.dict es ep/\es.toList=xs.map (entryOfKey (tupleKind (Cu P w)))/\(xs.map (·.1)).Nodup
 | .set S n=>h.SetOf (intKind P w) a S n
 | .ins C dx fs=>H dx=some (.own a)/\fs.length<=1000/\dx ≠ a/\h.get? a=some (PySem.W.instObj C dx) /\
   ∃ mA,h.Ns1 dx mA/\(∀ f,Ft (fs.lookup f) (mA f))/\PySem.Within mA (fs.map (·.1))
 | .own _=>∃ o,h.get? a=some o
 | .xd fs=>∃ mA,h.Ns1 a mA/\∀ f,Ft (fs.lookup f) (mA f)
 | .rng lo hi=>∃ t u v,h.get? a=some { cls:=.type "range",data:=.fields #[.int lo t,.int hi u,.int 1 v] }
 | .frz o u=>h.get? a=some o/\Bx H h a u
 | .tbl ps=>h.get? a=some { cls:=.none,data:=.fields ps }
 | .met f x=>h.get? a=some (PySem.W.methodObj (.ref f) (.ref x))
 | .ext φ=>φ h/\(∃ o,h.get? a=some o)/\∀ h1 h2:Heap,φ h1->(∀ o,h1.get? a=some o->h2.get? a=some o)->φ h2
noncomputable def Ei (H:Hp) (h:Heap):Prop:=∀ a o,H a=some o->Bx P w H h a o
end
section
variable {P:Program} {w:World} {H H':Hp} {h h':Heap} {a:Addr} {o:HO}
theorem Bx.lt (x:Bx P w H h a o):a<h.objs.size:=by
 cases o with
 | lst xs=>obtain ⟨_,_,_,_,e⟩:=x; exact Heap.lt_size e
 | tup xs=>obtain ⟨_,_,_,p⟩:=x; exact p.lt
 | dK kvs=>obtain ⟨_,_,_,_,o,_,_,e,_⟩:=x; exact Heap.lt_size e
 | dT kvs=>obtain ⟨_,_,_,_,o,_,_,e,_⟩:=x; exact Heap.lt_size e
 | set S n=>obtain ⟨o,_,_,_,e,_⟩:=x; exact Heap.lt_size e
 | ins C dx fs=>obtain ⟨_,_,_,e,_⟩:=x; exact Heap.lt_size e
 | own y=>obtain ⟨_,e⟩:=x; exact Heap.lt_size e
 | xd fs=>obtain ⟨_,⟨_,_,_,e,_⟩,_⟩:=x; exact Heap.lt_size e
 | rng lo hi=>obtain ⟨_,_,_,e⟩:=x; exact Heap.lt_size e
 | frz ob u=>obtain ⟨e,_⟩:=x; exact Heap.lt_size e
 | tbl ps=>exact Heap.lt_size (show h.get? a=some _ from x)
 | met f y=>exact Heap.lt_size (show h.get? a=some _ from x)
 | ext φ=>obtain ⟨_,⟨_,e⟩,_⟩:=x; exact Heap.lt_size e
theorem Paired.JV {α β:Type} {F G:α->β->Prop}:∀ {l₁:List α} {l₂:List β},Paired F l₁ l₂->(∀ a b,F a b->G a b)->Paired G l₁ l₂
 | _,_,.nil,_=>.nil
 | _,_,.cons r t,f=>.cons (f _ _ r) (Paired.JV t f)
theorem Bx.stay (x:Bx P w H h a o) (k:∀ b u,(b=a \/ H b=some (.own a))->h.get? b=some u->h'.get? b=some u)
  (ho:∀ b,H b=some (.own a)->H' b=some (.own a)) (ht:∀ b xs,H b=some (.tup xs)->H' b=some (.tup xs)):Bx P w H' h' a o:=by
 induction o with
 | lst xs=>obtain ⟨z,its,n,r,e⟩:=x; exact ⟨z,its,n,r,k _ _ (.inl rfl) e⟩
 | tup xs=>obtain ⟨z,its,r,ob,e,c⟩:=x; exact ⟨z,its,r,ob,k _ _ (.inl rfl) e,c⟩
 | dK kvs=>obtain ⟨z,y,vs,r,ob,es,ep,e,c⟩:=x; exact ⟨z,y,vs,r,ob,es,ep,k _ _ (.inl rfl) e,c⟩
 | dT kvs =>
  obtain ⟨z,y,xs,r,ob,es,ep,e,c⟩:=x
  exact ⟨z,y,xs,Paired.JV r fun p q z=>⟨z.1,ht _ _ z.2.1,z.2.2⟩,ob,es,ep,k _ _ (.inl rfl) e,c⟩
 | set S n=>obtain ⟨ob,es,ep,t,e,c⟩:=x; exact ⟨ob,es,ep,t,k _ _ (.inl rfl) e,c⟩
 | ins C dx fs =>
  obtain ⟨d,z,ne,e,mA,⟨od,es,ep,e2,c⟩,r⟩:=x
  exact ⟨ho _ d,z,ne,k _ _ (.inl rfl) e,mA,⟨od,es,ep,k _ _ (.inr d) e2,c⟩,r⟩
 | own y=>obtain ⟨ob,e⟩:=x; exact ⟨ob,k _ _ (.inl rfl) e⟩
 | xd fs=>obtain ⟨mA,⟨od,es,ep,e,c⟩,r⟩:=x; exact ⟨mA,⟨od,es,ep,k _ _ (.inl rfl) e,c⟩,r⟩
 | rng lo hi=>obtain ⟨t,u,v,e⟩:=x; exact ⟨t,u,v,k _ _ (.inl rfl) e⟩
 | frz ob u ih=>obtain ⟨e,q⟩:=x; exact ⟨k _ _ (.inl rfl) e,ih q⟩
 | tbl ps =>
  have e:h.get? a=some { cls:=.none,data:=.fields ps }:=x
  show h'.get? a=some { cls:=.none,data:=.fields ps }
  exact k a _ (.inl rfl) e
 | met f y =>
  have e:h.get? a=some (PySem.W.methodObj (.ref f) (.ref y)):=x
  show h'.get? a=some (PySem.W.methodObj (.ref f) (.ref y))
  exact k a _ (.inl rfl) e
 | ext φ=>obtain ⟨p,⟨o,e⟩,st⟩:=x; exact ⟨st _ _ p fun o q=>k _ _ (.inl rfl) q,⟨o,k _ _ (.inl rfl) e⟩,st⟩
theorem Ei.lt (x:Ei P w H h) (e:H a=some o):a<h.objs.size:=(x a o e).lt
theorem Ei.fresh (x:Ei P w H h) (e:h.objs.size<=a):H a=none:=by
 cases q:H a with
 | none=>rfl
 | some u=>exact absurd (Nat.lt_of_lt_of_le (x.lt q) e) (Nat.lt_irrefl _)
theorem Ei.kept (x:Ei P w H h) (k:∀ b u,h.get? b=some u->h'.get? b=some u):Ei P w H h':=fun a o e =>
 (x a o e).stay (fun b u _ q=>k b u q) (fun _ q=>q) fun _ _ q=>q
theorem Ei.laid (x:Ei P w H h) (k:∀ b u,h.get? b=some u->h'.get? b=some u) (hp:h.objs.size<=a) (new:Bx P w (upd H a o) h' a o):Ei P w (upd H a o) h':=fun b u e=>by
 have hn:=x.fresh hp
 by_cases hb:b=a
 ·subst hb; rw [Ah] at e; cases e; exact new
 ·rw [Ar hb] at e
  exact (x b u e).stay (fun c v _ q=>k c v q) (fun c q=>by rw [Ar (Ai q hn)]; exact q) fun c xs q=>by rw [Ar (Ai q hn)]; exact q
end
noncomputable def Rd (H:Hp) (a:Addr) (u:HO):Prop:=H a=some u \/ ∃ o,H a=some (.frz o u)
theorem Rd.ok {P:Program} {w:World} {H:Hp} {h:Heap} {a:Addr} {u:HO} (r:Rd H a u) (x:Ei P w H h):Bx P w H h a u:=by
 rcases r with r | ⟨o,r⟩
 ·exact x a u r
 ·obtain ⟨_,q⟩:=x a _ r
  exact q
noncomputable def Z5:Option HO->Prop
 | some (.lst _)=>True
 | some (.dK _)=>True
 | some (.dT _)=>True
 | some (.set _ _)=>True
 | some (.ins _ _ _)=>True
 | some (.ext _)=>True
 | _=>False
section
variable {P:Program} {w:World} {H:Hp} {h h':Heap} {x e:Addr} {o':HO}
theorem Ei.write (ok:Ei P w H h) (mu:Z5 (H x)) (he:e=x \/ H e=some (.own x)) (k:∀ b u,b ≠ e->h.get? b=some u->h'.get? b=some u) (heo:∃ u,h'.get? e=some u)
  (new:Bx P w (upd H x o') h' x o'):Ei P w (upd H x o') h':=fun b u q=>by
 have nown:∀ c y,H c=some (.own y)->c ≠ x:=fun c y r z=>by subst z; rw [r] at mu; exact mu
 have ntup:∀ c xs,H c=some (.tup xs)->c ≠ x:=fun c xs r z=>by subst z; rw [r] at mu; exact mu
 by_cases hb:b=x
 ·subst hb; rw [Ah] at q; cases q; exact new
 ·rw [Ar hb] at q
  by_cases hbe:b=e
  ·have q':H b=some (.own x):=by
    rcases he with z | z
    ·exact absurd (hbe.trans z) hb
    ·rw [hbe]; exact z
   rw [q] at q'; cases q'
   obtain ⟨v,hv⟩:=heo
   exact ⟨v,by rw [hbe]; exact hv⟩
  ·refine (ok b u q).stay (fun c v hc r=>k c v ?_ r) (fun c r=>by rw [Ar (nown c b r)]; exact r) fun c xs r=>by rw [Ar (ntup c xs r)]; exact r
   rcases hc with rfl | hc
   ·exact hbe
   ·rintro rfl
    rcases he with z | z
    ·exact nown c b hc z
    ·rw [hc] at z; cases z; exact hb rfl
end
structure Un (fs ex:List Addr) (H H':Hp) (h h':Heap):Prop where
 keep:∀ b o,h.get? b=some o->H b=none->b ∉ fs->b ∉ ex->h'.get? b=some o
 slot:∀ b o,h.get? b=some o->H b=none->b∈fs->b ∉ ex->∃ sl,h'.get? b=some { o with slots:=sl }
 free:∀ b o,h.get? b=some o->H b=none->b ∉ ex->H' b=none
 there:∀ b o,h.get? b=some o->b ∉ ex->∃ o',h'.get? b=some o'
 tups:∀ b xs,H b=some (.tup xs)->H' b=some (.tup xs)
 frzs:∀ b o u,H b=some (.frz o u)->H' b=some (.frz o u)
 tbls:∀ b ps,H b=some (.tbl ps)->∃ more,H' b=some (.tbl (ps++more))
section
variable {fs fs' ex ex':List Addr} {H H1 H2:Hp} {h h1 h2 h':Heap} {a x e:Addr} {o:HO}
theorem Un.any (u:Un fs ex H H1 h h1) {b:Addr} {ob:Obj} (q:h.get? b=some ob) (n:H b=none) (hx:b ∉ ex):∃ sl,h1.get? b=some { ob with slots:=sl }:=by
 by_cases hb:b∈fs
 ·exact u.slot b ob q n hb hx
 ·exact ⟨ob.slots,u.keep b ob q n hb hx⟩
theorem Un.trans (a:Un fs ex H H1 h h1) (b:Un fs ex H1 H2 h1 h2):Un fs ex H H2 h h2 where
 keep:=fun c ob q n hc hx=>b.keep c ob (a.keep c ob q n hc hx) (a.free c ob q n hx) hc hx
 slot:=fun c ob q n hc hx=>by
  obtain ⟨sl,e1⟩:=a.slot c ob q n hc hx
  obtain ⟨sl',e2⟩:=b.slot c _ e1 (a.free c ob q n hx) hc hx
  exact ⟨sl',e2⟩
 free:=fun c ob q n hx=>by
  obtain ⟨o',e1⟩:=a.there c ob q hx
  exact b.free c o' e1 (a.free c ob q n hx) hx
 there:=fun c ob q hx=>by
  obtain ⟨o',e1⟩:=a.there c ob q hx
  exact b.there c o' e1 hx
 tups:=fun c xs q=>b.tups c xs (a.tups c xs q)
 frzs:=fun c ob xs q=>b.frzs c ob xs (a.frzs c ob xs q)
 tbls:=fun c ps q=>by
  obtain ⟨m1,e1⟩:=a.tbls c ps q
  obtain ⟨m2,e2⟩:=b.tbls c _ e1
  exact ⟨m1++m2,by rw [e2,Array.append_assoc]⟩
theorem Un.kept (k:∀ b u,h.get? b=some u->h'.get? b=some u):Un fs ex H H h h' :=
 ⟨fun b ob q _ _ _=>k b ob q,fun b ob q _ _ _=>⟨ob.slots,k b ob q⟩,fun _ _ _ n _=>n,fun b ob q _=>⟨ob,k b ob q⟩,fun _ _ q=>q,fun _ _ _ q=>q,fun _ ps q=>⟨#[],by rw [q]; simp⟩⟩
theorem Un.refl:Un fs ex H H h h:=Un.kept fun _ _ q=>q
theorem Un.laid (k:∀ b u,h.get? b=some u->h'.get? b=some u) (hp:h.objs.size<=a) (hn:H a=none):Un fs ex H (upd H a o) h h' where
 keep:=fun b u q _ _ _=>k b u q
 slot:=fun b u q _ _ _=>⟨u.slots,k b u q⟩
 free:=fun b u q n _=>by rw [Ar (Nat.ne_of_lt (Nat.lt_of_lt_of_le (Heap.lt_size q) hp))]; exact n
 there:=fun b u q _=>⟨u,k b u q⟩
 tups:=fun b xs q=>by rw [Ar (Ai q hn)]; exact q
 frzs:=fun b u xs q=>by rw [Ar (Ai q hn)]; exact q
 tbls:=fun b ps q=>⟨#[],by rw [Ar (Ai q hn),q]; simp⟩
theorem Un.write (mu:Z5 (H x)) (he:e=x \/ H e=some (.own x)) (k:∀ b u,b ≠ e->h.get? b=some u->h'.get? b=some u) (heo:∃ u,h'.get? e=some u):Un fs ex H (upd H x o) h h':=by
 have hx:∀ b,H b=none->b ≠ x:=fun b n z=>by subst z; rw [n] at mu; exact mu
 have hb:∀ b,H b=none->b ≠ e:=fun b n z=>by
  subst z
  rcases he with r | r
  ·exact hx b n r
  ·rw [n] at r; cases r
 have hm:∀ b u,H b=some u->¬ Z5 (some u)->b ≠ x:=fun b u q nm z=>by subst z; rw [q] at mu; exact nm mu
 refine ⟨fun b u q n _ _=>k b u (hb b n) q,fun b u q n _ _=>⟨u.slots,k b u (hb b n) q⟩,fun b u q n _=>by rw [Ar (hx b n)]; exact n,fun b u q _=>?_,
  fun b xs q=>by rw [Ar (hm b _ q fun z=>z)]; exact q,fun b u xs q=>by rw [Ar (hm b _ q fun z=>z)]; exact q,fun b ps q=>⟨#[],by rw [Ar (hm b _ q fun z=>z),q]; simp⟩⟩
 by_cases hbe:b=e
 ·subst hbe; exact heo
 ·exact ⟨u,k b u hbe q⟩
end
noncomputable def gH (h:Heap) (H:Hp):List Addr:=(List.range h.objs.size).filter fun a=>(H a).isSome
noncomputable def MK (h:Heap) (H:Hp):Heap:=PySem.W.hideAll h (gH h H)
theorem RX (h:Heap) (H:Hp):(MK h H).objs.size=h.objs.size:=PySem.W.hideAll_size _ _
theorem U3 {h:Heap} {H:Hp} {b:Addr} {o:Obj} (e:h.get? b=some o) (n:H b=none):(MK h H).get? b=some o :=
 PySem.W.hideAll_get _ e fun hm=>by
  have q:(H b).isSome=true:=(List.mem_filter.mp hm).2
  rw [n] at q; simp at q
theorem WQ {h:Heap} {H:Hp} {b:Addr} {o:Obj} (e:(MK h H).get? b=some o):h.get? b=some o/\H b=none:=by
 have e':h.get? b=some o:=PySem.W.of_hideAll (gH h H) e
 refine ⟨e',?_⟩
 cases q:H b with
 | none=>rfl
 | some x =>
  have hm:b∈gH h H:=List.mem_filter.mpr ⟨List.mem_range.mpr (Heap.lt_size e'),by simp [q]⟩
  have z:(MK h H).get? b=none:=PySem.W.hideAll_none (gH h H) hm
  rw [z] at e; cases e
noncomputable def WN (g h:Heap) (L:Addr):List (Addr × Obj):=(List.range h.objs.size).filterMap fun a=>if a=L \/ (g.get? a).isSome=true then none else (h.get? a).map fun o=>(a,o)
noncomputable def rest (g h:Heap) (L d:Addr):List (Addr × Obj):=(WN g h L).filter fun p=>decide (p.1 ≠ d)
end L2
namespace L2
open PySem PySem.Spec PyProof.Rows
structure Mod (K:PySem.W.Frag) (mg:Str->Option Value) (base:Heap):Prop where
 kin:K.In base
 glob:base.Ns mainGlobals mg
 blt:∃ mb,base.Ns builtinsNs mb/\∀ x:Str,x ≠ "__name__"->mb x=bootBuiltins x
 nolimit:base.NoLimit
structure Cx where
 prog:Program
 w:World
 K:PySem.W.Frag
 mg:Str->Option Value
 base:Heap
 A:Around
 N:List Str
 s₀:Shared
 H₀:Hp
 env:Env
 outer:List Env
 stack:List Env
 ex:List Addr
 fn:Str->Bool
 calm:Bool
 pn:List (Addr × Obj)
 xe:Value->Shared->Prop
noncomputable def frs (l:List Env):List Addr:=l.filterMap (·.frame)
noncomputable abbrev Cx.fs (X:Cx):List Addr:=frs X.outer
noncomputable def i_ (sc:Scope) (x:Str):Prop:=sc.names.lookup x=some .local \/ sc.names.lookup x=some .cell \/ sc.names.lookup x=some .free
noncomputable def Loc (sc:Scope) (x:Str):Prop:=sc.names.lookup x=some .local \/ sc.names.lookup x=some .cell
noncomputable def Look (env:Env) (h:Heap) (m:Str->Option Value) (x:Str) (u:Value):Prop :=
 (env.kindOf x=some .local/\m x=some u) \/ ((env.kindOf x=some .cell \/ env.kindOf x=some .free)/\∃ c,env.cells.lookup x=some c/\h.IsCell c (some u))
structure Cx.Ok (X:Cx):Prop where
 mod:Mod X.K X.mg X.base
 kind:X.env.scope.kind=.function
 glob:X.env.globals=mainGlobals
 blt:X.env.builtins=builtinsNs
 above:X.s₀.heap.objs.size<=X.env.locals
 inj:∀ x y c,X.env.cells.lookup x=some c->X.env.cells.lookup y=some c->x=y
 has:∀ x,(X.env.kindOf x=some .cell \/ X.env.kindOf x=some .free)->∃ c,X.env.cells.lookup x=some c
 cab:∀ x c,X.fn x=true->X.env.cells.lookup x=some c->X.s₀.heap.objs.size<=c
 hd:X.calm=true->X.A.handled=none
 frames:X.A.frames=some X.stack
 stk:X.stack=X.outer \/ (X.stack=X.env::X.outer/\X.env.frame=some X.env.locals)
 exf:∀ b∈X.ex,b ≠ X.env.locals/\∀ x c,X.env.cells.lookup x=some c->c ≠ b
 bs:∀ b o,X.base.get? b=some o->X.s₀.heap.get? b=some o/\X.H₀ b=none
 bsz:X.base.objs.size<=X.s₀.heap.objs.size
 noex:∀ b o,X.base.get? b=some o->b ∉ X.ex
 exfs:∀ b∈X.ex,b ∉ X.fs
 Hu:X.s₀.heap.FunFrames X.base X.outer
 frf:∀ b∈X.fs,X.H₀ b=none
structure Inv (X:Cx) (pins:List (Addr × Obj)) (σ:List (Option V)) (H:Hp) (s:Shared):Prop where
 ok:X.Ok
 os:s.os=X.s₀.os
 bare:AllBare s.gens
 base:Un X.fs X.ex X.H₀ H X.s₀.heap s.heap
 loc:∃ m,s.heap.Ns X.env.locals m/\∀ (i:Nat) (x:Str) (v:V),X.N[i]? = some x->σ[i]? = some (some v)->i_ X.env.scope x->∃ u,RelV v u/\Look X.env s.heap m x u
 cell:∀ x c,X.env.cells.lookup x=some c->∃ v,s.heap.IsCell c v
 free:H X.env.locals=none
 freeC:∀ x c,X.env.cells.lookup x=some c->H c=none
 pin:∀ p∈X.pn++pins,s.heap.get? p.1=some p.2/\H p.1=none/\p.1 ≠ X.env.locals/\p.1 ∉ X.fs/\∀ v,p.2.data ≠ .cell v
 hok:Ei X.prog X.w H s.heap
 len:σ.length=X.N.length
section
variable {X:Cx} {pins:List (Addr × Obj)} {σ:List (Option V)} {H H':Hp} {s:Shared} {h':Heap}
theorem Cx.Ok.kj (ok:X.Ok) {b:Addr} {o:Obj} (e:X.base.get? b=some o):b ∉ X.fs:=fun hb=>by
 have:=(ok.Hu.mem hb).1
 rw [e] at this; cases this
theorem Inv.bs (I:Inv X pins σ H s):∀ b o,X.base.get? b=some o->s.heap.get? b=some o/\H b=none:=fun b o e =>
 ⟨I.base.keep b o (I.ok.bs b o e).1 (I.ok.bs b o e).2 (I.ok.kj e) (I.ok.noex b o e),I.base.free b o (I.ok.bs b o e).1 (I.ok.bs b o e).2 (I.ok.noex b o e)⟩
theorem Inv.bk (I:Inv X pins σ H s):∀ b o,X.base.get? b=some o->s.heap.get? b=some o:=fun b o e=>(I.bs b o e).1
theorem Inv.mod (I:Inv X pins σ H s):Mod X.K X.mg X.base:=I.ok.mod
theorem Inv.GJ (I:Inv X pins σ H s):X.K.In s.heap:=I.ok.mod.kin.keeps I.bk
theorem Inv.lt (I:Inv X pins σ H s):X.env.locals<s.heap.objs.size:=let ⟨_,hn,_⟩:=I.loc; hn.lt
theorem Inv.sz (I:Inv X pins σ H s):X.s₀.heap.objs.size<=s.heap.objs.size:=Nat.le_trans I.ok.above (Nat.le_of_lt I.lt)
theorem Inv.iY (I:Inv X pins σ H s) {a:Addr} (h:s.heap.objs.size<=a):a ∉ X.fs:=fun hb=>by
 obtain ⟨_,o,ho,_⟩:=I.ok.Hu.mem hb
 exact absurd (Nat.lt_of_lt_of_le (Heap.lt_size ho) (Nat.le_trans I.sz h)) (Nat.lt_irrefl _)
theorem Inv.Vb (I:Inv X pins σ H s):∀ x c,X.env.cells.lookup x=some c->c ≠ X.env.locals:=fun x c e z=>by
 obtain ⟨v,o,ho,hd⟩:=I.cell x c e
 obtain ⟨m,⟨o',es,ep,ho',hd',_⟩,_⟩:=I.loc
 rw [z,ho'] at ho; cases ho; rw [hd'] at hd; cases hd
theorem Inv.Hu (I:Inv X pins σ H s):s.heap.FunFrames X.base X.outer:=by
 have all:∀ (l:List Env),(∀ b∈frs l,b∈X.fs)->X.s₀.heap.FunFrames X.base l->s.heap.FunFrames X.base l:=by
  intro l
  induction l with
  | nil=>intro _ _; trivial
  | cons env r ih =>
   intro hs hl
   obtain ⟨hk,⟨L,o,hf,hn,ho,hd⟩,hr⟩:=hl
   have hL:L∈X.fs:=hs L (by unfold frs; rw [List.filterMap_cons,hf]; exact List.mem_cons_self)
   obtain ⟨sl,e⟩:=I.base.slot L o ho (I.ok.frf L hL) hL fun z=>I.ok.exfs L z hL
   exact ⟨hk,⟨L,_,hf,hn,e,hd⟩,ih (fun b hb=>hs b (by unfold frs; rw [List.filterMap_cons,hf]; exact List.mem_cons_of_mem _ hb)) hr⟩
 exact all X.outer (fun _ hb=>hb) I.ok.Hu
theorem Inv.stack (I:Inv X pins σ H s):s.heap.FunFrames X.base X.stack:=by
 rcases I.ok.stk with e | ⟨e,hf⟩
 ·rw [e]; exact I.Hu
 ·rw [e]
  obtain ⟨m,hn,_⟩:=I.loc
  refine .cons (by rw [I.ok.kind]; decide) hf hn ?_ I.Hu
  exact Heap.get?_none_of_le (Nat.le_trans I.ok.bsz I.ok.above)
theorem Inv.Ms (I:Inv X pins σ H s):∀ b∈frs X.stack,b∈X.env.locals::X.fs:=fun b hb=>by
 rcases I.ok.stk with e | ⟨e,hf⟩
 ·rw [e] at hb; exact List.mem_cons_of_mem _ hb
 ·rw [e] at hb
  unfold frs at hb
  rw [List.filterMap_cons,hf] at hb
  exact hb
theorem Inv.HH (I:Inv X pins σ H s):∀ b∈frs X.stack,H b=none:=fun b hb=>by
 rcases List.mem_cons.mp (I.Ms b hb) with e | hb
 ·rw [e]; exact I.free
 ·obtain ⟨_,o,ho,_⟩:=I.ok.Hu.mem hb
  exact I.base.free b o ho (I.ok.frf b hb) fun z=>I.ok.exfs b z hb
theorem Inv.step {g':Array GenState} {t':Nat} {d':Drawn} {ch:List Addr} (I:Inv X pins σ H s)
  (hch:∀ b∈ch,(b∈X.ex \/ X.s₀.heap.objs.size<=b)/\b ≠ X.env.locals/\(∀ x c,X.env.cells.lookup x=some c->c ≠ b)/\∀ p∈X.pn++pins,p.1 ≠ b)
  (keep:∀ b o,b ≠ X.env.locals->b ∉ X.fs->b ∉ ch->s.heap.get? b=some o->H b=none->h'.get? b=some o)
  (slot:∀ b o,b ≠ X.env.locals->b∈X.fs->b ∉ ch->s.heap.get? b=some o->H b=none->∃ sl,h'.get? b=some { o with slots:=sl }) (free:∀ b o,b ∉ ch->s.heap.get? b=some o->H b=none->H' b=none)
  (there:∀ b o,b ∉ ch->s.heap.get? b=some o->∃ o',h'.get? b=some o')
  (tups:∀ b xs,H b=some (.tup xs)->H' b=some (.tup xs)) (frzs:∀ b o u,H b=some (.frz o u)->H' b=some (.frz o u)) (tbls:∀ b ps,H b=some (.tbl ps)->∃ more,H' b=some (.tbl (ps++more)))
  (ns:∀ m,s.heap.Ns X.env.locals m->h'.Ns X.env.locals m) (hok:Ei X.prog X.w H' h') (hg:AllBare g') :
  Inv X pins σ H' { s with heap:=h',gens:=g',drawn:=d',toks:=t' }:=by
 have neL:∀ b o,X.s₀.heap.get? b=some o->b ≠ X.env.locals:=fun b o e=>Nat.ne_of_lt (Nat.lt_of_lt_of_le (Heap.lt_size e) I.ok.above)
 have neC:∀ b o,X.s₀.heap.get? b=some o->b ∉ X.ex->b ∉ ch:=fun b o e hx hb=>by
  rcases (hch b hb).1 with z | z
  ·exact hx z
  ·exact absurd (Nat.lt_of_lt_of_le (Heap.lt_size e) z) (Nat.lt_irrefl _)
 have cellK:∀ x c,X.env.cells.lookup x=some c->∀ v,s.heap.IsCell c v->h'.IsCell c v:=fun x c e v ⟨o,ho,hd⟩=>by
  have nch:c ∉ ch:=fun z=>(hch c z).2.2.1 x c e rfl
  by_cases hc:c∈X.fs
  ·obtain ⟨sl,q⟩:=slot c o (I.Vb x c e) hc nch ho (I.freeC x c e)
   exact ⟨_,q,hd⟩
  ·exact ⟨o,keep c o (I.Vb x c e) hc nch ho (I.freeC x c e),hd⟩
 refine ⟨I.ok,I.os,hg,⟨fun b o e n hb hx=>?_,fun b o e n hb hx=>?_,fun b o e n hx=>?_,fun b o e hx=>?_,fun b xs e=>tups b xs (I.base.tups b xs e),fun b o xs e=>frzs b o xs (I.base.frzs b o xs e),fun b ps e=>?_⟩,?_,fun x c e=>?_,?_,fun x c e=>?_,fun p hp=>?_,hok,I.len⟩
 ·exact keep b o (neL b o e) hb (neC b o e hx) (I.base.keep b o e n hb hx) (I.base.free b o e n hx)
 ·obtain ⟨sl,e1⟩:=I.base.slot b o e n hb hx
  obtain ⟨sl',e2⟩:=slot b _ (neL b o e) hb (neC b o e hx) e1 (I.base.free b o e n hx)
  exact ⟨sl',e2⟩
 ·obtain ⟨o',e1⟩:=I.base.there b o e hx
  exact free b o' (neC b o e hx) e1 (I.base.free b o e n hx)
 ·obtain ⟨o',e1⟩:=I.base.there b o e hx
  exact there b o' (neC b o e hx) e1
 ·obtain ⟨m1,e1⟩:=I.base.tbls b ps e
  obtain ⟨m2,e2⟩:=tbls b _ e1
  exact ⟨m1++m2,by rw [e2,Array.append_assoc]⟩
 ·obtain ⟨m,hn,hl⟩:=I.loc
  refine ⟨m,ns m hn,fun i x v e1 e2 e3=>?_⟩
  obtain ⟨u,r,l⟩:=hl i x v e1 e2 e3
  refine ⟨u,r,?_⟩
  rcases l with l | ⟨k,c,e,z⟩
  ·exact .inl l
  ·exact .inr ⟨k,c,e,cellK x c e _ z⟩
 ·obtain ⟨v,z⟩:=I.cell x c e
  exact ⟨v,cellK x c e v z⟩
 ·obtain ⟨m,⟨o,_,_,ho,_⟩,_⟩:=I.loc
  exact free _ o (fun z=>(hch _ z).2.1 rfl) ho I.free
 ·obtain ⟨v,o,ho,hd⟩:=I.cell x c e
  exact free c o (fun z=>(hch c z).2.2.1 x c e rfl) ho (I.freeC x c e)
 ·obtain ⟨e,n,ne,nf,d⟩:=I.pin p hp
  have nch:p.1 ∉ ch:=fun z=>(hch p.1 z).2.2.2 p hp rfl
  exact ⟨keep p.1 p.2 ne nf nch e n,free p.1 p.2 nch e n,ne,nf,d⟩
theorem Inv.un {t':Nat} (I:Inv X pins σ H s) (u:Un X.fs [] H H' s.heap h') (hok:Ei X.prog X.w H' h'):Inv X pins σ H' { s with heap:=h',toks:=t' }:=by
 obtain ⟨m,⟨o,es,ep,ho,r⟩,_⟩:=id I.loc
 obtain ⟨sl,hL⟩:=u.any ho I.free (by simp)
 exact I.step (g':=s.gens) (d':=s.drawn) (ch:=[]) (fun _ z=>nomatch z) (fun b o _ hb _ e n=>u.keep b o e n hb (by simp)) (fun b o _ hb _ e n=>u.slot b o e n hb (by simp)) (fun b o _ e n=>u.free b o e n (by simp)) (fun b o _ e=>u.there b o e (by simp)) u.tups u.frzs u.tbls (fun m' hm=>by
  obtain ⟨o',es',ep',ho',r'⟩:=hm
  rw [ho] at ho'; cases ho'
  exact ⟨_,es',ep',hL,r'⟩) hok I.bare
theorem Inv.call {g':Array GenState} {t':Nat} {d':Drawn} {ch:List Addr} (I:Inv X pins σ H s) (u:Un (frs X.stack) ch H H' s.heap h') (hok:Ei X.prog X.w H' h') (hg:AllBare g')
  (hch:∀ b∈ch,(b∈X.ex \/ X.s₀.heap.objs.size<=b)/\b ≠ X.env.locals/\(∀ x c,X.env.cells.lookup x=some c->c ≠ b)/\∀ p∈X.pn++pins,p.1 ≠ b) :
  Inv X pins σ H' { s with heap:=h',gens:=g',drawn:=d',toks:=t' }:=by
 obtain ⟨m,⟨o,es,ep,ho,r⟩,_⟩:=id I.loc
 obtain ⟨sl,hL⟩:=u.any ho I.free fun z=>(hch _ z).2.1 rfl
 exact I.step (ch:=ch) hch (fun b o hL hb hc e n=>u.keep b o e n (fun z=>(List.mem_cons.mp (I.Ms b z)).elim hL hb) hc) (fun b o _ _ hc e n=>u.any e n hc) (fun b o hc e n=>u.free b o e n hc) (fun b o hc e=>u.there b o e hc) u.tups u.frzs u.tbls (fun m' hm=>by
  obtain ⟨o',es',ep',ho',r'⟩:=hm
  rw [ho] at ho'; cases ho'
  exact ⟨_,es',ep',hL,r'⟩) hok hg
theorem Inv.turned {t':Nat} {it:Addr} (I:Inv X pins σ H s) (k:∀ b o,b ≠ it->s.heap.get? b=some o->h'.get? b=some o) (hn:H it=none) (hL:it ≠ X.env.locals)
  (h1:it∈X.ex \/ X.s₀.heap.objs.size<=it) (h2:∀ x c,X.env.cells.lookup x=some c->c ≠ it) (h3:∀ p∈X.pn++pins,p.1 ≠ it):Inv X pins σ H { s with heap:=h',toks:=t' }:=by
 have nit:∀ b u,H b=some u->b ≠ it:=fun b u e z=>by rw [z,hn] at e; cases e
 refine I.step (g':=s.gens) (d':=s.drawn) (ch:=[it]) (fun b hb=>?_) (fun b o _ _ hc e _=>k b o (fun z=>hc (by simp [z])) e) (fun b o _ _ hc e _=>⟨o.slots,k b o (fun z=>hc (by simp [z])) e⟩) (fun _ _ _ _ n=>n)
  (fun b o hc e=>⟨o,k b o (fun z=>hc (by simp [z])) e⟩) (fun _ _ e=>e) (fun _ _ _ e=>e) (fun b ps e=>⟨#[],by rw [e]; simp⟩) (fun m hm=>?_) (fun b u e=>?_) I.bare
 ·have e:b=it:=by simpa using hb
  subst e
  exact ⟨h1,hL,h2,h3⟩
 ·obtain ⟨o,es,ep,ho,r⟩:=hm
  exact ⟨o,es,ep,k _ o (Ne.symm hL) ho,r⟩
 ·refine (I.hok b u e).stay (fun c v hc q=>k c v ?_ q) (fun _ q=>q) fun _ _ q=>q
  rcases hc with z | z
  ·rw [z]; exact nit b u e
  ·exact nit c _ z
theorem Inv.tok (I:Inv X pins σ H s) (t:Nat):Inv X pins σ H { s with toks:=t }:=I.un (h':=s.heap) (t':=t) Un.refl I.hok
theorem Inv.kept {t':Nat} (I:Inv X pins σ H s) (k:∀ b u,s.heap.get? b=some u->h'.get? b=some u):Inv X pins σ H { s with heap:=h',toks:=t' }:=I.un (Un.kept k) (I.hok.kept k)
theorem Inv.laid {a:Addr} {o:HO} {t':Nat} (I:Inv X pins σ H s) (k:∀ b u,s.heap.get? b=some u->h'.get? b=some u) (hp:s.heap.objs.size<=a) (new:Bx X.prog X.w (upd H a o) h' a o) :
  Inv X pins σ (upd H a o) { s with heap:=h',toks:=t' }:=I.un (Un.laid k hp (I.hok.fresh hp)) (I.hok.laid k hp new)
theorem Inv.write {x e:Addr} {o:HO} {t':Nat} (I:Inv X pins σ H s) (mu:Z5 (H x)) (he:e=x \/ H e=some (.own x)) (k:∀ b u,b ≠ e->s.heap.get? b=some u->h'.get? b=some u) (heo:∃ u,h'.get? e=some u)
  (new:Bx X.prog X.w (upd H x o) h' x o):Inv X pins σ (upd H x o) { s with heap:=h',toks:=t' }:=I.un (Un.write mu he k heo) (I.hok.write mu he k heo new)
theorem Inv.Qo {pins':List (Addr × Obj)} (I:Inv X pins σ H s) (h:∀ p∈pins',s.heap.get? p.1=some p.2/\H p.1=none/\p.1 ≠ X.env.locals/\p.1 ∉ X.fs/\∀ v,p.2.data ≠ .cell v):Inv X pins' σ H s :=
 ⟨I.ok,I.os,I.bare,I.base,I.loc,I.cell,I.free,I.freeC,fun p hp=>(List.mem_append.mp hp).elim (fun z=>I.pin p (List.mem_append_left _ z)) (h p),I.hok,I.len⟩
theorem KD {N:List Str} (hN:N.Nodup) {i j:Nat} {x:Str} (a:N[i]? = some x) (b:N[j]? = some x):i=j:=by
 obtain ⟨h1,e1⟩:=List.getElem?_eq_some_iff.mp a
 obtain ⟨h2,e2⟩:=List.getElem?_eq_some_iff.mp b
 exact (List.getElem_inj hN).mp (e1.trans e2.symm)
theorem JX {M:Model} {A:Around} {E:Value->Shared->Prop} {i:Nat} {x:Str} {v:V} {u:Value} {Q:Unit->Shared->Prop} (I:Inv X pins σ H s) (hN:X.N.Nodup) (hi:X.N[i]? = some x) (hx:Loc X.env.scope x) (r:RelV v u)
  (h:∀ s',Inv X pins (σ.set i (some v)) H s'->(∃ a,Heap.SameBut a s.heap s'.heap/\(a=X.env.locals \/ X.env.cells.lookup x=some a))->Q () s') (hf:X.fn x=true \/ X.env.scope.names.lookup x=some .local:=by first | exact .inl rfl | exact .inr rfl | assumption):wpAny M A (storeName X.env x u) Q E s:=by
 obtain ⟨m,hn,hl⟩:=id I.loc
 have hcls:(X.env.scope.kind == .class || (X.env.scope.kind == .module && X.env.locals != X.env.globals))=false:=by rw [I.ok.kind]; rfl
 have hiσ:i<σ.length:=by rw [I.len]; exact (List.getElem?_eq_some_iff.mp hi).1
 have Vb:=I.Vb
 have tracked:∀ {a:Addr} {h':Heap},(∃ o,s.heap.get? a=some o/\H a=none)->Heap.SameBut a s.heap h'->Ei X.prog X.w H h':=fun {a h'} ha hs b ob e=>by
  obtain ⟨_,_,hfree⟩:=ha
  refine (I.hok b ob e).stay (fun c w' hc q=>(hs.2 c ?_).trans q) (fun _ q=>q) fun _ _ q=>q
  rintro rfl
  rcases hc with rfl | hc
  ·rw [hfree] at e; cases e
  ·rw [hfree] at hc; cases hc
 rcases hx with hk | hk
 ·refine wpAny_storeName_local hk hn (fun h' hn' hs=>?_) hcls
  obtain ⟨oL,_,_,hoL,_⟩:=id hn
  refine h _ ⟨I.ok,I.os,I.bare,⟨fun b o e n hb hx=>?_,fun b o e n hb hx=>?_,I.base.free,fun b o e hx=>?_,I.base.tups,I.base.frzs,I.base.tbls⟩,⟨_,hn',fun j y v' e1 e2 e3=>?_⟩,fun y c e=>?_,I.free,I.freeC,fun p hp=>?_,tracked ⟨oL,hoL,I.free⟩ hs,by simpa using I.len⟩ ⟨_,hs,.inl rfl⟩
  ·exact (hs.2 b (Nat.ne_of_lt (Nat.lt_of_lt_of_le (Heap.lt_size e) I.ok.above))).trans (I.base.keep b o e n hb hx)
  ·obtain ⟨sl,e1⟩:=I.base.slot b o e n hb hx
   exact ⟨sl,(hs.2 b (Nat.ne_of_lt (Nat.lt_of_lt_of_le (Heap.lt_size e) I.ok.above))).trans e1⟩
  ·obtain ⟨o',e1⟩:=I.base.there b o e hx
   exact ⟨o',(hs.2 b (Nat.ne_of_lt (Nat.lt_of_lt_of_le (Heap.lt_size e) I.ok.above))).trans e1⟩
  ·by_cases hj:j=i
   ·subst hj
    rw [hi] at e1; cases e1
    rw [List.getElem?_set_self hiσ] at e2
    cases e2
    exact ⟨u,r,.inl ⟨hk,by simp⟩⟩
   ·rw [List.getElem?_set_ne (Ne.symm hj)] at e2
    obtain ⟨u',r',q⟩:=hl j y v' e1 e2 e3
    refine ⟨u',r',?_⟩
    rcases q with ⟨k,e⟩ | ⟨k,c,e,z⟩
    ·refine .inl ⟨k,?_⟩
     have:y ≠ x:=fun e=>hj (KD hN e1 (e ▸ hi))
     simp [this,e]
    ·exact .inr ⟨k,c,e,z.sameBut hs (Vb y c e)⟩
  ·obtain ⟨w',z⟩:=I.cell y c e
   exact ⟨w',z.sameBut hs (Vb y c e)⟩
  ·obtain ⟨e,n,ne,nf,d⟩:=I.pin p hp
   exact ⟨(hs.2 p.1 ne).trans e,n,ne,nf,d⟩
 ·have hfn:X.fn x=true:=by
   rcases hf with z | z
   ·exact z
   ·rw [z] at hk; cases hk
  obtain ⟨c,hc⟩:=I.ok.has x (.inl hk)
  obtain ⟨w',z⟩:=I.cell x c hc
  refine wpAny_storeName_cell I.ok.kind hk hc z (fun h' hc' hs=>?_)
  obtain ⟨oc,hoc,hocd⟩:=id z
  refine h { s with heap:=h' } ⟨I.ok,I.os,I.bare,⟨fun b o e n hb hx=>?_,fun b o e n hb hx=>?_,I.base.free,fun b o e hx=>?_,I.base.tups,I.base.frzs,I.base.tbls⟩,⟨m,hn.sameBut hs (Ne.symm (Vb x c hc)),fun j y v' e1 e2 e3=>?_⟩,fun y c' e=>?_,I.free,I.freeC,fun p hp=>?_,tracked ⟨oc,hoc,I.freeC x c hc⟩ hs,by simpa using I.len⟩ ⟨c,hs,.inr hc⟩
  ·exact (hs.2 b (Nat.ne_of_lt (Nat.lt_of_lt_of_le (Heap.lt_size e) (I.ok.cab x c hfn hc)))).trans (I.base.keep b o e n hb hx)
  ·obtain ⟨sl,e1⟩:=I.base.slot b o e n hb hx
   exact ⟨sl,(hs.2 b (Nat.ne_of_lt (Nat.lt_of_lt_of_le (Heap.lt_size e) (I.ok.cab x c hfn hc)))).trans e1⟩
  ·obtain ⟨o',e1⟩:=I.base.there b o e hx
   exact ⟨o',(hs.2 b (Nat.ne_of_lt (Nat.lt_of_lt_of_le (Heap.lt_size e) (I.ok.cab x c hfn hc)))).trans e1⟩
  ·by_cases hj:j=i
   ·subst hj
    rw [hi] at e1; cases e1
    rw [List.getElem?_set_self hiσ] at e2
    cases e2
    exact ⟨u,r,.inr ⟨.inl hk,c,hc,hc'⟩⟩
   ·rw [List.getElem?_set_ne (Ne.symm hj)] at e2
    obtain ⟨u',r',q⟩:=hl j y v' e1 e2 e3
    refine ⟨u',r',?_⟩
    rcases q with q | ⟨k,c',e,z'⟩
    ·exact .inl q
    ·refine .inr ⟨k,c',e,z'.sameBut hs ?_⟩
     rintro rfl
     exact hj (KD hN e1 (I.ok.inj _ _ _ e hc ▸ hi))
  ·by_cases hcc:c'=c
   ·subst hcc; exact ⟨_,hc'⟩
   ·obtain ⟨w2,z2⟩:=I.cell y c' e
    exact ⟨w2,z2.sameBut hs hcc⟩
  ·obtain ⟨e,n,ne,nf,d⟩:=I.pin p hp
   refine ⟨(hs.2 p.1 ?_).trans e,n,ne,nf,d⟩
   intro q
   rw [q,hoc] at e
   have q':oc=p.2:=Option.some.inj e
   exact d w' (by rw [← q']; exact hocd)
theorem Ih {M:Model} {A:Around} {E:Value->Shared->Prop} {i:Nat} {x:Str} {v:V} {u:Value} {Q:Unit->Shared->Prop} (I:Inv X pins σ H s) (hN:X.N.Nodup) (hi:X.N[i]? = some x) (hx:Loc X.env.scope x) (r:RelV v u)
  (h:∀ s',Inv X pins (σ.set i (some v)) H s'->Q () s') (hf:X.fn x=true \/ X.env.scope.names.lookup x=some .local:=by first | exact .inl rfl | exact .inr rfl | assumption):wpAny M A (storeName X.env x u) Q E s :=
 JX I hN hi hx r (fun s' I' _=>h s' I') hf
theorem Inv.call' {s':Shared} {ch:List Addr} (I:Inv X pins σ H s) (ho:s'.os=s.os) (u:Un (frs X.stack) ch H H' s.heap s'.heap) (hok:Ei X.prog X.w H' s'.heap) (hg:AllBare s'.gens)
  (hch:∀ b∈ch,(b∈X.ex \/ X.s₀.heap.objs.size<=b)/\b ≠ X.env.locals/\(∀ x c,X.env.cells.lookup x=some c->c ≠ b)/\∀ p∈X.pn++pins,p.1 ≠ b):Inv X pins σ H' s':=by
 obtain ⟨h',g',d',t',o'⟩:=s'
 have e:o'=s.os:=ho
 subst e
 exact I.call (g':=g') (t':=t') (d':=d') u hok hg hch
end
noncomputable abbrev XK:=Value->Option Addr->Hp->Prop
noncomputable abbrev St:=List (Option V)
noncomputable abbrev VK:=V->Hp->Prop
noncomputable abbrev TE:=St->Hp->VK->Prop
noncomputable abbrev TT:=St->Hp->(Bool->Hp->Prop)->Prop
noncomputable abbrev TA:=St->Hp->(List V->Hp->Prop)->Prop
structure Ends where
 nx:St->Hp->Prop
 rt:VK
 bk:St->Hp->Prop:=fun _ _=>False
 ct:St->Hp->Prop:=fun _ _=>False
noncomputable abbrev TS:=Ends->St->Hp->Prop
noncomputable def EP (X:Cx) (pins:List (Addr × Obj)) (σ:St) (Q:VK) (u:Value) (s':Shared):Prop:=∃ v H',Inv X pins σ H' s'/\RelV v u/\Q v H'
noncomputable def TP (X:Cx) (pins:List (Addr × Obj)) (σ:St) (Q:Bool->Hp->Prop) (b:Bool) (s':Shared):Prop:=∃ H',Inv X pins σ H' s'/\Q b H'
noncomputable def AP (X:Cx) (pins:List (Addr × Obj)) (σ:St) (Q:List V->Hp->Prop) (us:List Value) (s':Shared):Prop:=∃ vs H',Inv X pins σ H' s'/\Vals vs us/\Q vs H'
noncomputable def SP (X:Cx) (pins:List (Addr × Obj)) (D:Ends) (f:Flow) (s':Shared):Prop :=
 match f with
 | .next=>∃ σ' H',Inv X pins σ' H' s'/\D.nx σ' H'
 | .brk=>∃ σ' H',Inv X pins σ' H' s'/\D.bk σ' H'
 | .cont=>∃ σ' H',Inv X pins σ' H' s'/\D.ct σ' H'
 | .ret u=>∃ v σ' H',Inv X pins σ' H' s'/\RelV v u/\D.rt v H'
noncomputable def PE (X:Cx) (e:Expr) (t:TE):Prop :=
 ∀ (pins:List (Addr × Obj)) (s:Shared) (σ:St) (H:Hp) (Q:VK),Inv X pins σ H s->t σ H Q->wpAny (model X.prog X.w) X.A (eval e X.env) (EP X pins σ Q) X.xe s
noncomputable def PT (X:Cx) (e:Expr) (t:TT):Prop :=
 ∀ (pins:List (Addr × Obj)) (s:Shared) (σ:St) (H:Hp) (Q:Bool->Hp->Prop),Inv X pins σ H s->t σ H Q->wpAny (model X.prog X.w) X.A (isTrue e X.env (eval e X.env)) (TP X pins σ Q) X.xe s
noncomputable def PW (X:Cx) (e:Expr) (t:TT):Prop :=
 ∀ (whole:Sem Value) (pins:List (Addr × Obj)) (s:Shared) (σ:St) (H:Hp) (Q:Bool->Hp->Prop),Inv X pins σ H s->t σ H Q->wpAny (model X.prog X.w) X.A (isTrue e X.env whole) (TP X pins σ Q) X.xe s
theorem PW.pt {X:Cx} {e:Expr} {t:TT} (h:PW X e t):PT X e t:=h _
noncomputable def PA (X:Cx) (es:List Expr) (t:TA):Prop :=
 ∀ (pos:Pos) (pins:List (Addr × Obj)) (s:Shared) (σ:St) (H:Hp) (Q:List V->Hp->Prop),Inv X pins σ H s->t σ H Q->wpAny (model X.prog X.w) X.A (spliced (backTo pos (starEach es X.env))) (AP X pins σ Q) X.xe s
noncomputable def PS (X:Cx) (st:Stmt) (t:TS):Prop :=
 ∀ (pins:List (Addr × Obj)) (s:Shared) (σ:St) (H:Hp) (D:Ends),Inv X pins σ H s->t D σ H->wpAny (model X.prog X.w) X.A (exec st X.env) (SP X pins D) X.xe s
noncomputable def Mj (X:Cx) (st:List Stmt) (t:TS):Prop :=
 ∀ (pins:List (Addr × Obj)) (s:Shared) (σ:St) (H:Hp) (D:Ends),Inv X pins σ H s->t D σ H->wpAny (model X.prog X.w) X.A (execs st X.env) (SP X pins D) X.xe s
theorem By {α:Type} {t:Sem α} {Q Q':α->Shared->Prop} {M:Model} {A:Around} {E:Value->Shared->Prop} {s:Shared} (h:wpAny M A t Q E s) (hQ:∀ a s,Q a s->Q' a s):wpAny M A t Q' E s:=wpAny_mono h hQ fun _ _ x=>x
end L2
namespace L2
open PySem PySem.Spec PyProof.Rows
section
variable {X:Cx}
noncomputable def X6 (i:Nat):TE:=fun σ H Q=>∃ v,σ[i]? = some (some v)/\Q v H
noncomputable def tC (v:V):TE:=fun _ H Q=>Q v H
theorem YL {i:Nat} {x:Str} {pos:Pos} (hN:X.N[i]? = some x) (hv:i_ X.env.scope x) (hd:(x == ("__debug__" : Str))=false:=by decide) (hcd:(x == ("__classdict__" : Str))=false:=by decide):PE X (.Name x pos) (X6 i):=by
 intro pins s σ H Q I h
 obtain ⟨v,e,h⟩:=h
 obtain ⟨m,hn,hl⟩:=I.loc
 obtain ⟨u,r,l⟩:=hl i x v hN e hv
 have fin:EP X pins σ Q u s:=⟨v,H,I,r,h⟩
 rcases l with ⟨hk,hm⟩ | ⟨hk,c,hc,hcell⟩
 ·exact wpAny_Name (wpAny_loadName_local I.ok.kind hk hn hm fin) hd
 ·rcases hk with hk | hk
  ·exact wpAny_Name (wpAny_loadName_cell I.ok.kind hk hc hcell fin) hd
  ·exact wpAny_Name (wpAny_loadName_free I.ok.kind hk hc hcell fin hcd) hd
theorem Ac {i j pos}:PE X (.Constant (.int i) j pos) (tC (.int i)):=fun _ _ _ H _ I h=>wpAny_Constant_int ⟨.int i,H,I.tok _,⟨_,rfl⟩,h⟩
theorem Hg {b j pos}:PE X (.Constant (.bool b) j pos) (tC (.bl b)):=fun _ _ _ H _ I h=>Constant_bool ⟨.bl b,H,I,rfl,h⟩
theorem Ga {j pos}:PE X (.Constant .none j pos) (tC .non):=fun _ _ _ H _ I h=>Constant_none ⟨.non,H,I,rfl,h⟩
theorem BR {x j pos}:PE X (.Constant (.str x) j pos) (tC (.str x)):=fun _ _ _ H _ I h=>Calls.Constant_str ⟨.str x,H,I.tok _,⟨_,rfl⟩,h⟩
noncomputable def Gl (X:Cx) (x:Str):Prop:=X.env.kindOf x=some .globalImplicit
theorem HS {E:Value->Shared->Prop} {pins:List (Addr × Obj)} {s:Shared} {σ:St} {H:Hp} {x:Str} {u:Value} {pos:Pos} {Q:Value->Shared->Prop} (I:Inv X pins σ H s) (hg:Gl X x) (hm:X.mg x=some u) (h:Q u s)
  (hd:(x == ("__debug__" : Str))=false:=by decide):wpAny (model X.prog X.w) X.A (eval (.Name x pos) X.env) Q E s :=
 Calls.Name_function_global I.ok.kind hg (Calls.loadGlobal_global (by rw [I.ok.glob]; exact I.mod.glob.keeps I.bk) hm h) hd
theorem Ht {E:Value->Shared->Prop} {pins:List (Addr × Obj)} {s:Shared} {σ:St} {H:Hp} {x:Str} {u:Value} {pos:Pos} {Q:Value->Shared->Prop} (I:Inv X pins σ H s) (hg:Gl X x) (hm:X.mg x=none) (hv:bootBuiltins x=some u) (h:Q u s)
  (hn:x ≠ "__name__":=by decide) (hd:(x == ("__debug__" : Str))=false:=by decide):wpAny (model X.prog X.w) X.A (eval (.Name x pos) X.env) Q E s:=by
 obtain ⟨mb,h1,h2⟩:=I.mod.blt
 exact Calls.Name_function_global I.ok.kind hg (Calls.loadGlobal_builtin (by rw [I.ok.glob]; exact I.mod.glob.keeps I.bk) hm (by rw [I.ok.blt]; exact h1.keeps I.bk) ((h2 x hn).trans hv) h) hd
theorem Bu {x:Str} {v:V} {u:Value} {pos:Pos} (hg:Gl X x) (hm:X.mg x=some u) (r:RelV v u) (hd:(x == ("__debug__" : Str))=false:=by decide):PE X (.Name x pos) (tC v) :=
 fun _ _ _ H _ I h=>HS I hg hm ⟨v,H,I,r,h⟩ hd
theorem EY {x:Str} {v:V} {u:Value} {pos:Pos} (hg:Gl X x) (hm:X.mg x=none) (hv:bootBuiltins x=some u) (r:RelV v u) (hn:x ≠ "__name__":=by decide) (hd:(x == ("__debug__" : Str))=false:=by decide):PE X (.Name x pos) (tC v) :=
 fun _ _ _ H _ I h=>Ht I hg hm hv ⟨v,H,I,r,h⟩ hn hd
variable {a b:Expr} {ta tb:TE} {pos:Pos}
noncomputable def PC (X:Cx) (op:CmpOp) (a b:Expr) (t:TE):Prop :=
 ∀ (pins:List (Addr × Obj)) (s:Shared) (σ:St) (H:Hp) (Q:VK),Inv X pins σ H s->t σ H Q ->
  wpAny (model X.prog X.w) X.A (eval a X.env) (fun v s₁=>wpAny (model X.prog X.w) X.A (eval b X.env) (fun u s₂=>wpAny (model X.prog X.w) X.A (compareOp op v u) (EP X pins σ Q) X.xe s₂) X.xe s₁) X.xe s
noncomputable def tB (t:TE):TT:=fun σ H Q=>t σ H fun x H1=>∃ c,x=.bl c/\Q c H1
theorem UG {op:CmpOp} {t:TE} (h:PC X op a b t) (h1:behindInMarks op b=false:=by first | exact nobehind _ (by decide) (by decide) | rfl):PE X (.Compare a [op] [b] pos) t:=fun pins s σ H Q I hw=>wpAny_Compare1 (h pins s σ H Q I hw) h1
theorem U5 {op:CmpOp} {t:TE} (h:PC X op a b t) (h1:behindInMarks op b=false:=by first | exact nobehind _ (by decide) (by decide) | rfl):PT X (.Compare a [op] [b] pos) (tB t):=by
 intro pins s σ H Q I hw
 refine wpAny_isTrue_Compare1 (By (h pins s σ H _ I hw) fun v s1 h1=>By h1 fun u s2 h2=>By h2 fun c s3 ⟨x,H1,I1,r1,q1⟩=>?_) h1
 obtain ⟨d,rfl,q⟩:=q1
 cases r1
 exact wpAny_truthy_bool ⟨H1,I1,q⟩
theorem DN {e:Expr} {t:TE} (h:PE X e t) (he:∀ whole,isTrue e X.env whole=(do let v ← whole; standAt e.pos; holding [v] (truthy v)):=by intro _; rfl):PT X e (tB t):=by
 intro pins s σ H Q I hw
 refine isTrue_plain (By (h pins s σ H _ I hw) fun v s1 ⟨x,H1,I1,r1,q1⟩=>?_) (he _)
 obtain ⟨d,rfl,q⟩:=q1
 cases r1
 exact wpAny_truthy_bool ⟨H1,I1,q⟩
variable {tA tB':TT} {rest:List Expr}
noncomputable def jX (t u:TT):TT:=fun σ H Q=>t σ H fun c H1=>if c=true then u σ H1 Q else Q false H1
noncomputable def pZ (t u:TT):TT:=fun σ H Q=>t σ H fun c H1=>if c=true then Q true H1 else u σ H1 Q
noncomputable def ir (t:TT):TT:=fun σ H Q=>t σ H fun c H1=>Q (!c) H1
theorem HW (ha:PT X a tA):PW X (.BoolOp .And [a] pos) tA:=by
 intro wh pins s σ H Q I h
 refine isTrue_and (By (ha pins s σ H Q I h) fun c s1 e=>?_)
 cases c with
 | true=>exact isTrue_and_nil e
 | false=>exact e
theorem G9 (ha:PT X a tA):PW X (.BoolOp .Or [a] pos) tA:=by
 intro wh pins s σ H Q I h
 refine isTrue_or (By (ha pins s σ H Q I h) fun c s1 e=>?_)
 cases c with
 | false=>exact isTrue_or_nil e
 | true=>exact e
theorem JH (ha:PT X a tA) (hb:PW X (.BoolOp .And (b::rest) pos) tB'):PW X (.BoolOp .And (a::b::rest) pos) (jX tA tB'):=by
 intro wh pins s σ H Q I h
 refine isTrue_and (By (ha pins s σ H _ I h) fun c s1 hq0=>?_)
 obtain ⟨H1,I1,q1⟩:=hq0
 cases c with
 | true=>exact hb wh pins s1 σ H1 Q I1 q1
 | false=>exact ⟨H1,I1,q1⟩
theorem Im (ha:PT X a tA) (hb:PW X (.BoolOp .Or (b::rest) pos) tB'):PW X (.BoolOp .Or (a::b::rest) pos) (pZ tA tB'):=by
 intro wh pins s σ H Q I h
 refine isTrue_or (By (ha pins s σ H _ I h) fun c s1 hq0=>?_)
 obtain ⟨H1,I1,q1⟩:=hq0
 cases c with
 | true=>exact ⟨H1,I1,q1⟩
 | false=>exact hb wh pins s1 σ H1 Q I1 q1
theorem Dw (ha:PT X a tA):PT X (.UnaryOp .Not a pos) (ir tA):=by
 intro pins s σ H Q I h
 exact isTrue_not (ha pins s σ H (fun c H1=>Q (!c) H1) I h)
noncomputable def bO (ta tb:TE):TE:=fun σ H Q=>ta σ H fun x H1=>∃ c,x=.bl c/\if c=true then tb σ H1 Q else Q (.bl false) H1
noncomputable def m_ (ta tb:TE):TE:=fun σ H Q=>ta σ H fun x H1=>∃ c,x=.bl c/\if c=true then Q (.bl true) H1 else tb σ H1 Q
noncomputable def aj (ta:TE):TE:=fun σ H Q=>ta σ H fun x H1=>∃ c,x=.bl c/\Q (.bl (!c)) H1
theorem DP {op} {t:TE} (h:PE X a t):PE X (.BoolOp op [a] pos) t:=fun pins s σ H Q I hw=>BoolOp_one (h pins s σ H Q I hw)
theorem Dc (ha:PE X a ta) (hb:PE X (.BoolOp .And (b::rest) pos) tb):PE X (.BoolOp .And (a::b::rest) pos) (bO ta tb):=by
 intro pins s σ H Q I h
 refine BoolOp_and (By (ha pins s σ H _ I h) fun v s1 hq0=>?_)
 obtain ⟨x,H1,I1,r1,q1⟩:=hq0
 obtain ⟨c,rfl,q1⟩:=q1
 cases r1
 refine wpAny_truthy_bool ?_
 cases c with
 | true=>exact hb pins s1 σ H1 Q I1 q1
 | false=>exact ⟨.bl false,H1,I1,rfl,q1⟩
theorem dO (ha:PE X a ta) (hb:PE X (.BoolOp .Or (b::rest) pos) tb):PE X (.BoolOp .Or (a::b::rest) pos) (m_ ta tb):=by
 intro pins s σ H Q I h
 refine BoolOp_or (By (ha pins s σ H _ I h) fun v s1 hq0=>?_)
 obtain ⟨x,H1,I1,r1,q1⟩:=hq0
 obtain ⟨c,rfl,q1⟩:=q1
 cases r1
 refine wpAny_truthy_bool ?_
 cases c with
 | false=>exact hb pins s1 σ H1 Q I1 q1
 | true=>exact ⟨.bl true,H1,I1,rfl,q1⟩
theorem Pq (ha:PE X a ta):PE X (.UnaryOp .Not a pos) (aj ta):=by
 intro pins s σ H Q I h
 refine UnaryOp_ (By (ha pins s σ H _ I h) fun v s1 hq0=>?_)
 obtain ⟨x,H1,I1,r1,q1⟩:=hq0
 obtain ⟨c,rfl,q1⟩:=q1
 cases r1
 exact not_of (wpAny_truthy_bool ⟨.bl (!c),H1,I1,rfl,q1⟩)
noncomputable def pJ (t:TT) (ta tb:TE):TE:=fun σ H Q=>t σ H fun c H1=>if c=true then ta σ H1 Q else tb σ H1 Q
theorem M4 {c:Expr} (hc:PT X c tA) (ha:PE X a ta) (hb:PE X b tb):PE X (.IfExp c a b pos) (pJ tA ta tb):=by
 intro pins s σ H Q I h
 refine wpAny_IfExp (By (hc pins s σ H _ I h) fun d s1 hq0=>?_)
 obtain ⟨H1,I1,q1⟩:=hq0
 cases d with
 | true=>exact ha pins s1 σ H1 Q I1 q1
 | false=>exact hb pins s1 σ H1 Q I1 q1
end
end L2
namespace L2
open PySem PySem.Spec PyProof.Rows
noncomputable def DQ (K:PySem.W.Frag) (H:Hp) (a:Addr) (xs:List V):Prop :=
 Rd H a (.lst xs) \/
  ∃ (o:Obj) (its:Array Value) (n:Nat),K.lookup a=some o/\o.cls=.type "list" /\ o.dict=none/\o.data=.seq its n/\its.size<=sizeLine/\Vals xs its.toList
noncomputable def Gm (K:PySem.W.Frag) (H:Hp) (a:Addr) (xs:List V):Prop :=
 Rd H a (.tup xs) \/
  ∃ (o:Obj) (its:Array Value) (n:Nat),K.lookup a=some o/\o.cls=.type "tuple" /\ o.data=.seq its n/\its.size<=sizeLine/\Vals xs its.toList
noncomputable def mq:Value->Option V
 | .none=>some .non
 | .bool b=>some (.bl b)
 | .int i _=>some (.int i)
 | .str x _=>some (.str x)
 | .bytes b _=>some (.byt b)
 | .float b _=>some (.flt b)
 | .ref a=>some (.ref a)
 | .type n=>some (.ty n)
 | _=>none
theorem RelV.abs {x:V} {u:Value} (r:RelV x u):mq u=some x:=by
 cases x with
 | non=>cases r; rfl
 | bl _=>cases r; rfl
 | int _=>obtain ⟨t,rfl⟩:=r; rfl
 | str _=>obtain ⟨t,rfl⟩:=r; rfl
 | byt _=>obtain ⟨t,rfl⟩:=r; rfl
 | flt _=>obtain ⟨t,rfl⟩:=r; rfl
 | ref _=>cases r; rfl
 | ty _=>cases r; rfl
theorem RelV.inj {x y:V} {u:Value} (r:RelV x u) (q:RelV y u):x=y:=Option.some.inj (r.abs.symm.trans q.abs)
theorem Vals.inj:∀ {xs ys:List V} {us:List Value},Vals xs us->Vals ys us->xs=ys
 | _,_,_,.nil,.nil=>rfl
 | _,_,_,.cons r t,.cons r' t'=>by rw [r.inj r',Vals.inj t t']
section
variable {X:Cx} {pins:List (Addr × Obj)} {σ:St} {H:Hp} {s:Shared} {a:Addr} {xs ys:List V}
theorem Inv.list (I:Inv X pins σ H s) (h:DQ X.K H a xs):∃ its:List Value,Vals xs its/\PlainL s.heap a its.toArray/\xs.length<=sizeLine:=by
 rcases h with h | ⟨o,its,n,hk,hc,hd,hs,hz,r⟩
 ·obtain ⟨z,its,n,r,e⟩:=h.ok I.hok
  exact ⟨its,r,⟨_,n,e,rfl,rfl,rfl⟩,z⟩
 ·refine ⟨its.toList,r,⟨o,n,I.GJ a o hk,hc,hd,by simpa using hs⟩,?_⟩
  have e:=r.length
  simp only [Array.length_toList] at e
  omega
theorem Inv.tuple (I:Inv X pins σ H s) (h:Gm X.K H a xs):∃ its:List Value,Vals xs its/\IsTup s.heap a its.toArray/\xs.length<=sizeLine:=by
 rcases h with h | ⟨o,its,n,hk,hc,hs,hz,r⟩
 ·obtain ⟨z,its,r,p⟩:=h.ok I.hok
  exact ⟨its,r,p,z⟩
 ·refine ⟨its.toList,r,⟨o,I.GJ a o hk,hc,n,by simpa using hs⟩,?_⟩
  have e:=r.length
  simp only [Array.length_toList] at e
  omega
theorem Inv.M3 (I:Inv X pins σ H s) (h:DQ X.K H a xs) (h':DQ X.K H a ys):xs=ys:=by
 obtain ⟨its,r,⟨o,n,e,_,_,d⟩,_⟩:=I.list h
 obtain ⟨its',r',⟨o',n',e',_,_,d'⟩,_⟩:=I.list h'
 rw [e] at e'; cases e'
 rw [d] at d'
 injection d' with d1 _
 have:its=its':=by simpa using congrArg Array.toList d1
 subst this
 exact r.inj r'
theorem Inv.JW (I:Inv X pins σ H s) (h:Gm X.K H a xs) (h':Gm X.K H a ys):xs=ys:=by
 obtain ⟨its,r,⟨o,e,_,n,d⟩,_⟩:=I.tuple h
 obtain ⟨its',r',⟨o',e',_,n',d'⟩,_⟩:=I.tuple h'
 rw [e] at e'; cases e'
 rw [d] at d'
 injection d' with d1 _
 have:its=its':=by simpa using congrArg Array.toList d1
 subst this
 exact r.inj r'
end
noncomputable abbrev Cx.wish (X:Cx) (E:Value->Shared->Prop):Cx:={ X with xe:=E }
noncomputable abbrev Cx.ZQ (X:Cx):Cx:=X.wish fun _ _=>False
theorem Cx.Ok.wish {X:Cx} (ok:X.Ok) (E:Value->Shared->Prop):(X.wish E).Ok :=
 ⟨ok.mod,ok.kind,ok.glob,ok.blt,ok.above,ok.inj,ok.has,ok.cab,ok.hd,ok.frames,ok.stk,ok.exf,ok.bs,ok.bsz,ok.noex,ok.exfs,ok.Hu,ok.frf⟩
theorem Cx.Ok.Gi {X:Cx} {E:Value->Shared->Prop} (ok:(X.wish E).Ok):X.Ok :=
 ⟨ok.mod,ok.kind,ok.glob,ok.blt,ok.above,ok.inj,ok.has,ok.cab,ok.hd,ok.frames,ok.stk,ok.exf,ok.bs,ok.bsz,ok.noex,ok.exfs,ok.Hu,ok.frf⟩
section
variable {X:Cx} {pins:List (Addr × Obj)} {σ:St} {H:Hp} {s:Shared} {E:Value->Shared->Prop}
theorem Inv.wish (I:Inv X pins σ H s) (E:Value->Shared->Prop):Inv (X.wish E) pins σ H s:=⟨I.ok.wish E,I.os,I.bare,I.base,I.loc,I.cell,I.free,I.freeC,I.pin,I.hok,I.len⟩
theorem Inv.Gi (I:Inv (X.wish E) pins σ H s):Inv X pins σ H s:=⟨I.ok.Gi,I.os,I.bare,I.base,I.loc,I.cell,I.free,I.freeC,I.pin,I.hok,I.len⟩
theorem SP.Gi {D:Ends} {f:Flow} {s':Shared} (h:SP (X.wish E) pins D f s'):SP X pins D f s':=by
 cases f with
 | next=>obtain ⟨σ',H',I,q⟩:=h; exact ⟨σ',H',I.Gi,q⟩
 | brk=>obtain ⟨σ',H',I,q⟩:=h; exact ⟨σ',H',I.Gi,q⟩
 | cont=>obtain ⟨σ',H',I,q⟩:=h; exact ⟨σ',H',I.Gi,q⟩
 | ret u=>obtain ⟨v,σ',H',I,r,q⟩:=h; exact ⟨v,σ',H',I.Gi,r,q⟩
theorem Mj.ZQ {st:List Stmt} {t:TS} (h:Mj X.ZQ st t):Mj X st t:=fun pins s σ H D I hw =>
 wpAny_mono (h pins s σ H D (I.wish _) hw) (fun _ _ q=>q.Gi) fun _ _ z=>False.elim z
end
section
variable {X:Cx} {st:Stmt} {rest:List Stmt} {t u:TS} {e:Expr} {te:TE} {pos:Pos}
noncomputable def W0:TS:=fun D σ H=>D.nx σ H
noncomputable def Yx (t u:TS):TS:=fun D σ H=>t { D with nx:=u D } σ H
theorem BW:Mj X [] W0:=fun _ _ σ H _ I h=>wpAny_execs_nil ⟨σ,H,I,h⟩
theorem Ad (h1:PS X st t) (h2:Mj X rest u):Mj X (st::rest) (Yx t u):=by
 intro pins s σ H D I h
 refine wpAny_execs_cons (By (h1 pins s σ H { D with nx:=u D } I h) fun f s1 q=>?_)
 cases f with
 | next =>
  obtain ⟨σ',H',I',q⟩:=q
  exact h2 pins s1 σ' H' D I' q
 | ret v=>exact q
 | brk=>exact q
 | cont=>exact q
theorem Ae (h1:PS X st t):Mj X [st] t:=by
 intro pins s σ H D I h
 refine wpAny_execs_cons (By (h1 pins s σ H D I h) fun f s1 q=>?_)
 cases f with
 | next=>exact wpAny_execs_nil q
 | ret v=>exact q
 | brk=>exact q
 | cont=>exact q
noncomputable def YW:TS:=fun D σ H=>D.bk σ H
theorem U8:PS X (.Break pos) YW:=fun _ _ σ H _ I h=>wpAny_Break ⟨σ,H,I,h⟩
theorem Inv.quiet {pins:List (Addr × Obj)} {σ:St} {H:Hp} {s:Shared} (I:Inv X pins σ H s):interactive X.env=false:=by simp [interactive,I.ok.kind]
noncomputable def bu (te:TE):TS:=fun D σ H=>te σ H fun _ H1=>D.nx σ H1
theorem CK (he:PE X e te) (hs:swapsWith e none pos.line X.env=pure false:=by rfl):PS X (.Expr e pos) (bu te):=by
 intro pins s σ H D I h
 exact wpAny_Expr_any (By (he pins s σ H _ I h) fun v s1 ⟨x,H1,I1,r1,q1⟩=>⟨σ,H1,I1,q1⟩) I.quiet hs
noncomputable def jF (te:TE):TS:=fun D σ H=>te σ H D.rt
theorem Av (he:PE X e te):PS X (.Return (some e) pos) (jF te):=by
 intro pins s σ H D I h
 exact wpAny_Return_some (By (he pins s σ H _ I h) fun v s1 ⟨x,H1,I1,r1,q1⟩=>⟨x,σ,H1,I1,r1,q1⟩)
noncomputable def WY (c:TT) (t u:TS):TS:=fun D σ H=>c σ H fun b H1=>if b=true then t D σ H1 else u D σ H1
theorem Bc {c:Expr} {a b:List Stmt} {tc:TT} (hc:PT X c tc) (ha:Mj X a t) (hb:Mj X b u):PS X (.If c a b pos) (WY tc t u):=by
 intro pins s σ H D I h
 refine wpAny_If (By (hc pins s σ H _ I h) fun d s1 hq0=>?_)
 obtain ⟨H1,I1,q1⟩:=hq0
 cases d with
 | true=>exact ha pins s1 σ H1 D I1 q1
 | false=>exact hb pins s1 σ H1 D I1 q1
noncomputable def ZJ:TS:=fun _ _ _=>False
theorem I_:PS X st ZJ:=fun _ _ _ _ _ _ h=>h.elim
end
noncomputable abbrev TG:=V->St->Hp->(St->Hp->Prop)->Prop
noncomputable abbrev Ym:=List V->St->Hp->(St->Hp->Prop)->Prop
noncomputable def PG (X:Cx) (target:Expr) (t:TG):Prop :=
 ∀ (pins:List (Addr × Obj)) (s:Shared) (σ:St) (H:Hp) (v:V) (u:Value) (Q:St->Hp->Prop),Inv X pins σ H s->RelV v u->t v σ H Q ->
  wpAny (model X.prog X.w) X.A (assign target X.env u) (fun _ s'=>∃ σ' H',Inv X pins σ' H' s'/\Q σ' H') X.xe s
noncomputable def iD (X:Cx) (ts:List Expr) (t:Ym):Prop :=
 ∀ (pins:List (Addr × Obj)) (s:Shared) (σ:St) (H:Hp) (vs:List V) (us:List Value) (Q:St->Hp->Prop),Inv X pins σ H s->Vals vs us->t vs σ H Q ->
  wpAny (model X.prog X.w) X.A (assignInOrder ((assignEach ts X.env).map (·.2)) us) (fun _ s'=>∃ σ' H',Inv X pins σ' H' s'/\Q σ' H') X.xe s
noncomputable abbrev YS:=V->V->V->Hp->(Hp->Prop)->Prop
noncomputable def d_ (X:Cx) (t:YS):Prop :=
 ∀ (pins:List (Addr × Obj)) (s:Shared) (σ:St) (H:Hp) (o i v:V) (ov iv u:Value) (Q:Hp->Prop),Inv X pins σ H s->RelV o ov->RelV i iv->RelV v u->t o i v H Q ->
  wpAny (model X.prog X.w) X.A (setItem ov iv u) (fun _ s'=>∃ H',Inv X pins σ H' s'/\Q H') X.xe s
section
variable {X:Cx} {pos:Pos}
noncomputable def Ez (i:Nat):TG:=fun v σ H Q=>Q (σ.set i (some v)) H
theorem B_ {i:Nat} {x:Str} (hN:X.N.Nodup) (hi:X.N[i]? = some x) (hx:Loc X.env.scope x) (hf:X.fn x=true \/ X.env.scope.names.lookup x=some .local:=by first | exact .inl rfl | exact .inr rfl | assumption):PG X (.Name x pos) (Ez i):=by
 intro pins s σ H v u Q I r h
 exact wpAny_assign_Name (Ih I hN hi hx r (fun s' I'=>⟨_,H,I',h⟩) hf)
noncomputable def Vu:Ym:=fun vs σ H Q=>vs=[]/\Q σ H
noncomputable def Kd (t:TG) (u:Ym):Ym:=fun vs σ H Q=>∃ v r,vs=v::r/\t v σ H fun σ' H'=>u r σ' H' Q
theorem HR:iD X [] Vu:=by
 intro pins s σ H vs us Q I r h
 obtain ⟨e,h⟩:=h
 subst e
 cases r
 exact assignInOrder_nil ⟨σ,H,I,h⟩
theorem DR {e:Expr} {es:List Expr} {t:TG} {u:Ym} (h1:PG X e t) (h2:iD X es u)
  (hs:(assignEach (e::es) X.env).map (·.2)=assign e X.env::(assignEach es X.env).map (·.2):=by rfl):iD X (e::es) (Kd t u):=by
 intro pins s σ H vs us Q I r h
 obtain ⟨v,vr,e1,h⟩:=h
 subst e1
 cases r with
 | cons r rr =>
  rw [hs]
  refine assignInOrder_cons (By (h1 pins s σ H _ _ _ I r h) fun _ s1 hq0=>?_)
  obtain ⟨σ1,H1,I1,q1⟩:=hq0
  exact h2 pins s1 σ1 H1 _ _ Q I1 rr q1
noncomputable def Wm (K:PySem.W.Frag) (n:Nat) (t:Ym):TG:=fun v σ H Q=>∃ a xs,v=.ref a/\Gm K H a xs/\xs.length=n/\t xs σ H Q
theorem JF {es:List Expr} {k:Nat} {t:Ym} {n:Nat} (hc:X.calm=true) (h:iD X es t)
  (hn:(assignEach es X.env).length=n:=by rfl) (hst:(assignEach es X.env).findIdx? (·.1)=none:=by rfl):PG X (.Tuple es k pos) (Wm X.K n t):=by
 intro pins s σ H v u Q I r hw
 obtain ⟨a,xs,e1,hq,hl,hw⟩:=hw
 subst e1
 cases r
 obtain ⟨its,rv,ht,hz⟩:=I.tuple hq
 refine assign_Tuple_tuple (I.ok.hd hc) ht (by simp [hn,← hl,rv.length]) hst fun h' hx=>?_
 have I1:Inv X pins σ H { s with heap:=h' }:=I.kept (t':=s.toks) fun b o e=>hx b o (Nat.ne_of_lt (Heap.lt_size e)) e
 exact h pins _ σ H xs _ Q I1 (by simpa using rv) hw
noncomputable def jC (to ti:TE) (t:YS):TG:=fun v σ H Q=>to σ H fun o H1=>ti σ H1 fun i H2=>t o i v H2 fun H3=>Q σ H3
theorem J3 {o i:Expr} {to ti:TE} {t:YS} (ho:PE X o to) (hi:PE X i ti) (hs:d_ X t)
  (ha:∀ v,assign (.Subscript o i pos) X.env v=(do
   let ov ← holding [v] (eval o X.env)
   let iv ← holding [v,ov] (eval i X.env)
   standAt pos
   holding [v,ov,iv] (setItem ov iv v)
   release [v,ov,iv] []):=by intro _; rfl):PG X (.Subscript o i pos) (jC to ti t):=by
 intro pins s σ H v u Q I r h
 rw [ha]
 refine wpAny_bind (wpAny_holding (By (ho pins s σ H _ I h) fun ov s1 hq0=>?_))
 obtain ⟨x,H1,I1,r1,q1⟩:=hq0
 refine wpAny_bind (wpAny_holding (By (hi pins s1 σ H1 _ I1 q1) fun iv s2 hq0=>?_))
 obtain ⟨y,H2,I2,r2,q2⟩:=hq0
 refine wpAny_bind (wpAny_standAt (wpAny_bind (wpAny_holding (By (hs pins s2 σ H2 x y v ov iv u _ I2 r1 r2 r q2) fun _ s3 hq0=>?_))))
 obtain ⟨H3,I3,q3⟩:=hq0
 exact wpAny_release ⟨σ,H3,I3,q3⟩
noncomputable def Ut (te:TE) (g:TG):TS:=fun D σ H=>te σ H fun x H1=>g x σ H1 D.nx
theorem JT {tg e:Expr} {te:TE} {g:TG} (he:PE X e te) (hg:PG X tg g) (hs:swapsWithSole [tg] e pos.line X.env=pure false:=by rfl) (hw:swappedStores [tg] e X.env=pure none:=by rfl)
  (h1:(assignEach [tg] X.env).map (·.2)=[assign tg X.env]:=by rfl):PS X (.Assign [tg] e pos) (Ut te g):=by
 intro pins s σ H D I h
 refine wpAny_Assign_stores (By (he pins s σ H _ I h) fun v s1 ⟨x,H1,I1,r1,q1⟩=>?_) hs hw
 rw [h1]
 exact By (hg pins s1 σ H1 x v _ I1 r1 q1) fun _ s2 q=>q
theorem C_ {i:Nat} {x:Str} {e:Expr} {te:TE} {pos':Pos} (hN:X.N.Nodup) (hi:X.N[i]? = some x) (hx:Loc X.env.scope x) (he:PE X e te) (hs:swapsWith e (some (.Name x pos')) pos.line X.env=pure false:=by rfl) (hf:X.fn x=true \/ X.env.scope.names.lookup x=some .local:=by first | exact .inl rfl | exact .inr rfl | assumption) :
  PS X (.Assign [.Name x pos'] e pos) (Ut te (Ez i)):=by
 intro pins s σ H D I h
 refine wpAny_Assign_Name (By (he pins s σ H _ I h) fun v s1 ⟨y,H1,I1,r1,q1⟩=>?_) hs
 exact Ih I1 hN hi hx r1 (fun s2 I2=>⟨_,H1,I2,q1⟩) hf
end
section
variable {X:Cx} {pos:Pos}
noncomputable def Lp (c:TT) (tb:TS):TS:=fun D σ H=>∃ W:Nat->St->Hp->Prop,(∃ m,W m σ H)/\∀ m σ H,W m σ H ->
 c σ H fun b H1=>if b=true then ∃ N:St->Hp->Prop,(∀ σ' H',N σ' H'->∃ m',m'<m/\W m' σ' H')/\tb { D with nx:=N,ct:=N,bk:=D.nx } σ H1 else D.nx σ H1
theorem VL {c:Expr} {body:List Stmt} {tc:TT} {tb:TS} (hp:PassesOwn (model X.prog X.w) X.A X.env X.xe) (hc:PT X c tc) (hb:Mj X body tb):PS X (.While c body [] pos) (Lp tc tb):=by
 intro pins s σ H D I h
 obtain ⟨W,⟨m0,w0⟩,turn⟩:=h
 refine wpAny_While (codeAny_whileLoop (fun n s'=>∃ σ' H',Inv X pins σ' H' s'/\W n σ' H') ?_ m0 ⟨σ,H,I,w0⟩)
 rintro n s1 ⟨σ1,H1,I1,w1⟩
 refine wpAny_passesOwn hp (By (hc pins s1 σ1 H1 _ I1 (turn n σ1 H1 w1)) fun b s2 hq0=>?_)
 obtain ⟨H2,I2,q2⟩:=hq0
 cases b with
 | true =>
  obtain ⟨N,hN,q2⟩:=q2
  rw [if_pos rfl]
  refine wpAny_passesOwn hp (By (hb pins s2 σ1 H2 _ I2 q2) fun f s3 q3=>?_)
  cases f with
  | next =>
   obtain ⟨σ3,H3,I3,n3⟩:=q3
   obtain ⟨m',hm,w3⟩:=hN σ3 H3 n3
   exact ⟨m',hm,σ3,H3,I3,w3⟩
  | cont =>
   obtain ⟨σ3,H3,I3,n3⟩:=q3
   obtain ⟨m',hm,w3⟩:=hN σ3 H3 n3
   exact ⟨m',hm,σ3,H3,I3,w3⟩
  | brk=>exact q3
  | ret v=>exact q3
 | false =>
  rw [if_neg Bool.false_ne_true]
  exact wpAny_execs_nil ⟨σ1,H2,I2,q2⟩
end
structure It where
 go:Nat->Hp->Prop
 yld:Nat->Hp->V->Hp->Prop
 stop:Nat->Hp->Prop
noncomputable def F_ (X:Cx) (pins:List (Addr × Obj)) (H:Hp) (b:Addr):Prop :=
 H b=none/\b ≠ X.env.locals/\b ∉ X.fs/\(b∈X.ex \/ X.s₀.heap.objs.size<=b)/\(∀ x c,X.env.cells.lookup x=some c->c ≠ b)/\∀ p∈X.pn++pins,p.1 ≠ b
theorem Inv.Lr {X:Cx} {pins:List (Addr × Obj)} {σ:St} {H H':Hp} {s:Shared} {b:Addr} (I:Inv X pins σ H s) (hb:s.heap.objs.size<=b) (hn:H' b=none):F_ X pins H' b:=by
 refine ⟨hn,Nat.ne_of_gt (Nat.lt_of_lt_of_le I.lt hb),I.iY hb,.inr (Nat.le_trans I.sz hb),fun x c e z=>?_,fun p hp z=>?_⟩
 ·obtain ⟨v,q⟩:=I.cell x c e
  exact absurd (Nat.lt_of_lt_of_le q.lt (by rw [z]; exact hb)) (Nat.lt_irrefl _)
 ·exact absurd (Nat.lt_of_lt_of_le (Heap.lt_size (I.pin p hp).1) (by rw [z]; exact hb)) (Nat.lt_irrefl _)
structure Turn (P:Program) (w:World) (K:PySem.W.Frag) (tg:Expr) (J:It) (fp:List Addr) (it:Addr) (tn:Nat->Heap->Prop):Prop where
 mem:it∈fp
 obj:∀ i h,tn i h->∀ b∈fp,∃ o,h.get? b=some o/\∀ v,o.data ≠ .cell v
 keep:∀ i h h',tn i h->(∀ b∈fp,∀ o,h.get? b=some o->h'.get? b=some o)->tn i h'
 item:∀ (X:Cx),X.prog=P->X.w=w->X.K=K->X.calm=true->∀ (i:Nat) (pins:List (Addr × Obj)) (s:Shared) (σ:St) (H:Hp) (E:Value->Shared->Prop),Inv X pins σ H s->(∀ b∈fp,F_ X pins H b)->tn i s.heap->J.go i H ->
  wpAny (model P w) X.A (pyNext (.ref it)) (fun r s1=>∃ u,r=some u /\
   wpAny (model P w) X.A (letOwnedTupleGo tg (.ref it) u) (fun _ s2=>∃ x H',Inv X pins σ H' s2/\RelV x u/\J.yld i H x H'/\tn (i+1) s2.heap/\∀ b∈fp,H' b=none) E s1) E s
 done:∀ (X:Cx),X.prog=P->X.w=w->X.K=K->X.calm=true->∀ (i:Nat) (pins:List (Addr × Obj)) (s:Shared) (σ:St) (H:Hp) (E:Value->Shared->Prop),Inv X pins σ H s->(∀ b∈fp,F_ X pins H b)->tn i s.heap->J.stop i H ->
  wpAny (model P w) X.A (pyNext (.ref it)) (fun r s1=>r=none/\Inv X pins σ H s1) E s
 self:∀ (A:Around) (i:Nat) (s:Shared) (Q:Value->Shared->Prop) (E:Value->Shared->Prop),tn i s.heap->Q (.ref it) s->wpAny (model P w) A (pyIter (.ref it)) Q E s
noncomputable abbrev TI:=St->Hp->(It->Hp->Prop)->Prop
noncomputable def PIE (X:Cx) (pins:List (Addr × Obj)) (σ:St) (tg:Expr) (R:It->Hp->Prop) (itv:Value) (s2:Shared):Prop :=
 ∃ (it:Addr) (fp:List Addr) (tn:Nat->Heap->Prop) (J:It) (H':Hp),itv=.ref it/\Inv X pins σ H' s2/\Turn X.prog X.w X.K tg J fp it tn/\tn 0 s2.heap/\(∀ b∈fp,F_ X pins H' b)/\R J H'
noncomputable def PI (X:Cx) (tg iter:Expr) (wi:TI):Prop :=
 ∀ (pins:List (Addr × Obj)) (s:Shared) (σ:St) (H:Hp) (R:It->Hp->Prop),Inv X pins σ H s->wi σ H R ->
  wpAny (model X.prog X.w) X.A (eval iter X.env) (fun v s1=>wpAny (model X.prog X.w) X.A (pyIter v) (PIE X pins σ tg R) X.xe s1) X.xe s
theorem OD {M:Model} {A:Around} {E:Value->Shared->Prop} {s:Shared} {tg:Expr} {it:Addr} {u:Value} {o:Obj} {n:String} {vs:Array Value} {Q:Unit->Shared->Prop} (ho:s.heap.get? it=some o) (hc:o.cls=.type n) (hd:o.data=.fields vs)
  (hn:["enumerate","zip","dict_itemiterator","dict_reverseitemiterator","odict_iterator","itertools.zip_longest","itertools.pairwise"].contains n=false) (hQ:Q () s):wpAny M A (letOwnedTupleGo tg (.ref it) u) Q E s:=by
 unfold letOwnedTupleGo
 cases tg <;> first
  | exact wpAny_pure hQ
  | (cases u <;> first
    | exact wpAny_pure hQ
    | (refine wpAny_bind (wpAny_load ho ?_)
       rw [hc,hd]
       show wpAny M A (if (["enumerate","zip","dict_itemiterator","dict_reverseitemiterator","odict_iterator","itertools.zip_longest","itertools.pairwise"].contains n && vs[0]? == some (rawInt _))=true then _ else _) Q E s
       rw [if_neg (by intro h; rw [hn,Bool.false_and] at h; cases h)]
       exact wpAny_pure hQ))
noncomputable def Xq (K:PySem.W.Frag) (a:Addr):It :=
 ⟨fun i H=>∃ xs x,DQ K H a xs/\xs[i]? = some x,fun i H x H'=>H'=H/\∀ xs,DQ K H a xs->xs[i]? = some x,fun i H=>∃ xs,DQ K H a xs/\xs.length<=i⟩
noncomputable def k_ (K:PySem.W.Frag) (a:Addr):It :=
 ⟨fun i H=>∃ xs x,Gm K H a xs/\xs[i]? = some x,fun i H x H'=>H'=H/\∀ xs,Gm K H a xs->xs[i]? = some x,fun i H=>∃ xs,Gm K H a xs/\xs.length<=i⟩
noncomputable def XM (lo:Int) (n:Nat):It:=⟨fun i _=>i<n,fun i H x H'=>H'=H/\x=.int (lo+i),fun i _=>n<=i⟩
theorem RT {P:Program} {w:World} {K:PySem.W.Frag} {tg:Expr} (a it:Addr):Turn P w K tg (Xq K a) [it] it (fun i h=>h.IsListIter it a i) where
 mem:=by simp
 obj:=fun i h st b hb=>by
  have e:b=it:=by simpa using hb
  subst e
  obtain ⟨o,e,c,d⟩:=st
  exact ⟨o,e,fun v z=>by rw [d] at z; cases z⟩
 keep:=fun i h h' st k=>st.at fun o e=>k it (by simp) o e
 item:=by
  intro X hP hw hK hc i pins s σ H E I hf st hg
  subst hP hw hK
  obtain ⟨xs,x,hq,hx⟩:=hg
  obtain ⟨its,rv,p,hz⟩:=I.list hq
  obtain ⟨u,hu,ru⟩:=rv.get hx
  obtain ⟨f0,f1,f2,f3,f4,f5⟩:=hf it (by simp)
  refine wpAny_pyNext_list_item st p.isList (x:=u) (by simpa using hu) fun h' st' sb=>?_
  have I1:Inv X pins σ H { s with heap:=h' }:=I.turned (t':=s.toks) (fun b o hb e=>(sb.2 b hb).trans e) f0 f1 f3 f4 f5
  obtain ⟨o,e,c,d⟩:=id st'
  exact ⟨u,rfl,OD (s:={ s with heap:=h' }) e c d (by decide) ⟨x,H,I1,ru,⟨rfl,fun ys hy=>by rw [I.M3 hy hq]; exact hx⟩,st',fun b hb=>(hf b hb).1⟩⟩
 done:=by
  intro X hP hw hK hc i pins s σ H E I hf st hg
  subst hP hw hK
  obtain ⟨xs,hq,hx⟩:=hg
  obtain ⟨its,rv,p,hz⟩:=I.list hq
  obtain ⟨f0,f1,f2,f3,f4,f5⟩:=hf it (by simp)
  have hl:=rv.length
  exact wpAny_pyNext_list_end (I.ok.hd hc) st p.isList (by simp; omega) fun h' eb=>⟨rfl,I.turned (t':=s.toks) (fun b o hb e=>eb b o hb e) f0 f1 f3 f4 f5⟩
 self:=fun _ _ _ _ _ st h=>wpAny_pyIter_listiter st h
theorem PN {P:Program} {w:World} {K:PySem.W.Frag} {tg:Expr} (a it:Addr):Turn P w K tg (k_ K a) [it] it (fun i h=>h.IsTupleIter it a i) where
 mem:=by simp
 obj:=fun i h st b hb=>by
  have e:b=it:=by simpa using hb
  subst e
  obtain ⟨o,e,c,d⟩:=st
  exact ⟨o,e,fun v z=>by rw [d] at z; cases z⟩
 keep:=fun i h h' st k=>st.at fun o e=>k it (by simp) o e
 item:=by
  intro X hP hw hK hc i pins s σ H E I hf st hg
  subst hP hw hK
  obtain ⟨xs,x,hq,hx⟩:=hg
  obtain ⟨its,rv,p,hz⟩:=I.tuple hq
  obtain ⟨u,hu,ru⟩:=rv.get hx
  obtain ⟨f0,f1,f2,f3,f4,f5⟩:=hf it (by simp)
  refine wpAny_pyNext_tuple_item st (show s.heap.IsTuple a its.toArray from p) (x:=u) (by simpa using hu) fun h' st' sb=>?_
  have I1:Inv X pins σ H { s with heap:=h' }:=I.turned (t':=s.toks) (fun b o hb e=>(sb.2 b hb).trans e) f0 f1 f3 f4 f5
  obtain ⟨o,e,c,d⟩:=id st'
  exact ⟨u,rfl,OD (s:={ s with heap:=h' }) e c d (by decide) ⟨x,H,I1,ru,⟨rfl,fun ys hy=>by rw [I.JW hy hq]; exact hx⟩,st',fun b hb=>(hf b hb).1⟩⟩
 done:=by
  intro X hP hw hK hc i pins s σ H E I hf st hg
  subst hP hw hK
  obtain ⟨xs,hq,hx⟩:=hg
  obtain ⟨its,rv,p,hz⟩:=I.tuple hq
  obtain ⟨f0,f1,f2,f3,f4,f5⟩:=hf it (by simp)
  have hl:=rv.length
  exact wpAny_pyNext_tuple_end (I.ok.hd hc) st (show s.heap.IsTuple a its.toArray from p) (by simp; omega) fun h' eb=>⟨rfl,I.turned (t':=s.toks) (fun b o hb e=>eb b o hb e) f0 f1 f3 f4 f5⟩
 self:=fun _ _ _ _ _ st h=>wpAny_pyIter_tupleiter st h
theorem Pu {P:Program} {w:World} {K:PySem.W.Frag} {tg:Expr} (it:Addr) (lo:Int) (n:Nat):Turn P w K tg (XM lo n) [it] it (fun i h=>IsRangeIter h it (lo+(i:Nat) * 1) ((n:Int) - (i:Nat)) 1) where
 mem:=by simp
 obj:=fun i h st b hb=>by
  have e:b=it:=by simpa using hb
  subst e
  exact ⟨_,st,fun v z=>by
   have z':Data.fields _=Data.cell v:=z
   cases z'⟩
 keep:=fun i h h' st k=>k it (by simp) _ st
 item:=by
  intro X hP hw hK hc i pins s σ H E I hf st hg
  subst hP hw hK
  obtain ⟨f0,f1,f2,f3,f4,f5⟩:=hf it (by simp)
  have W:=Walks.range (prog:=X.prog) (w:=X.w) (I.ok.hd hc) it lo 1 n
  refine W.item i s _ _ hg st fun v h' tk hv st' kk=>?_
  obtain ⟨t,rfl⟩:=hv
  have I1:Inv X pins σ H { s with heap:=h',toks:=tk }:=I.turned (fun b o hb e=>kk b o (by simpa using hb) e) f0 f1 f3 f4 f5
  refine ⟨_,rfl,OD (s:={ s with heap:=h',toks:=tk }) (n:="range_iterator") st' rfl rfl (by decide) ⟨.int (lo+i),H,I1,⟨t,?_⟩,⟨rfl,rfl⟩,st',fun b hb=>(hf b hb).1⟩⟩
  rw [Int.mul_one]
 done:=by
  intro X hP hw hK hc i pins s σ H E I hf st hg
  subst hP hw hK
  obtain ⟨f0,f1,f2,f3,f4,f5⟩:=hf it (by simp)
  exact wpAny_pyNext_range_end (I.ok.hd hc) st (by have:n<=i:=hg; omega) fun h' eb=>⟨rfl,I.turned (t':=s.toks) (fun b o hb e=>eb b o hb e) f0 f1 f3 f4 f5⟩
 self:=fun _ _ _ _ _ st h=>wpAny_pyIter_rangeiter st h
end L2
namespace L2
open PySem PySem.Spec PyProof.Rows
section
variable {X:Cx} {tg:Expr}
noncomputable def aW (K:PySem.W.Frag) (tl:TE):TI:=fun σ H R=>tl σ H fun x H1=>∃ a,x=.ref a/\(∃ xs,DQ K H1 a xs)/\R (Xq K a) H1
noncomputable def bU (K:PySem.W.Frag) (tl:TE):TI:=fun σ H R=>tl σ H fun x H1=>∃ a,x=.ref a/\(∃ xs,Gm K H1 a xs)/\R (k_ K a) H1
theorem Bq {l:Expr} {tl:TE} (hl:PE X l tl):PI X tg l (aW X.K tl):=by
 intro pins s σ H R I h
 refine By (hl pins s σ H _ I h) fun v s1 hq0=>?_
 obtain ⟨x,H1,I1,r1,q1⟩:=hq0
 obtain ⟨a,e,⟨xs,hq⟩,q⟩:=q1
 subst e
 cases r1
 obtain ⟨its,rv,p,hz⟩:=I1.list hq
 refine wpAny_pyIter_list p.isList ?_
 refine ⟨s1.heap.objs.size,[s1.heap.objs.size],_,_,H1,rfl,I1.kept (t':=s1.toks) fun b o e=>Heap.get?_push_of_some _ e,RT a _,⟨_,Heap.get?_push_size _ rfl,rfl,rfl⟩,fun b hb=>?_,q⟩
 have e:b=s1.heap.objs.size:=by simpa using hb
 subst e
 exact I1.Lr (Nat.le_refl _) (I1.hok.fresh (Nat.le_refl _))
theorem Mu {l:Expr} {tl:TE} (hl:PE X l tl):PI X tg l (bU X.K tl):=by
 intro pins s σ H R I h
 refine By (hl pins s σ H _ I h) fun v s1 hq0=>?_
 obtain ⟨x,H1,I1,r1,q1⟩:=hq0
 obtain ⟨a,e,⟨xs,hq⟩,q⟩:=q1
 subst e
 cases r1
 obtain ⟨its,rv,p,hz⟩:=I1.tuple hq
 refine wpAny_pyIter_tuple (show s1.heap.IsTuple a its.toArray from p) ?_
 refine ⟨s1.heap.objs.size,[s1.heap.objs.size],_,_,H1,rfl,I1.kept (t':=s1.toks) fun b o e=>Heap.get?_push_of_some _ e,PN a _,⟨_,Heap.get?_push_size _ rfl,rfl,rfl⟩,fun b hb=>?_,q⟩
 have e:b=s1.heap.objs.size:=by simpa using hb
 subst e
 exact I1.Lr (Nat.le_refl _) (I1.hok.fresh (Nat.le_refl _))
theorem Uc {pins:List (Addr × Obj)} {σ:St} {H:Hp} {s:Shared} {R:It->Hp->Prop} {E:Value->Shared->Prop} {lo hi:Int} {t u v:Tok} {tk:Nat} (I:Inv X pins σ H s) (h1 : -(2 ^ 62)<=lo) (h2:lo<2 ^ 62) (h3 : -(2 ^ 62)<=hi) (h4:hi<2 ^ 62)
  (q:R (XM lo (hi - lo).toNat) H):wpAny (model X.prog X.w) X.A (pyIter (.ref s.heap.objs.size)) (PIE X pins σ tg R) E { s with heap:=s.heap.push { cls:=.type "range",data:=.fields #[.int lo t,.int hi u,.int 1 v] },toks:=tk }:=by
 refine wpAny_pyIter_range (IsRange.new ..) (small_one h1 h2 h3 h4) ?_
 have I1:Inv X pins σ H { s with heap:=s.heap.push { cls:=.type "range",data:=.fields #[.int lo t,.int hi u,.int 1 v] },toks:=tk }:=I.kept fun b o e=>Heap.get?_push_of_some _ e
 refine ⟨(s.heap.push { cls:=.type "range",data:=.fields #[.int lo t,.int hi u,.int 1 v] }).objs.size,[(s.heap.push { cls:=.type "range",data:=.fields #[.int lo t,.int hi u,.int 1 v] }).objs.size],_,_,H,rfl,
  I1.kept (t':=tk) fun b o e=>Heap.get?_push_of_some _ e,Pu _ lo (hi - lo).toNat,?_,fun b hb=>?_,q⟩
 ·have e1:lo+((0:Nat):Int) * 1=lo:=by simp
  have e2:(((hi - lo).toNat:Nat):Int) - ((0:Nat):Int)=Builtin.Range.rangeSize lo hi 1:=by rw [rangeSize_one]; split <;> omega
  show IsRangeIter _ _ (lo+((0:Nat):Int) * 1) ((((hi - lo).toNat:Nat):Int) - ((0:Nat):Int)) 1
  rw [e1,e2]
  exact Heap.get?_push_size _ rfl
 ·have e:b=(s.heap.push { cls:=.type "range",data:=.fields #[.int lo t,.int hi u,.int 1 v] }).objs.size:=by simpa using hb
  subst e
  exact I1.Lr (Nat.le_refl _) (I1.hok.fresh (Nat.le_refl _))
noncomputable def eG (ta:TA):TI:=fun σ H R=>ta σ H fun vs H1=>∃ j:Int,vs=[.int j] /\ -(2 ^ 62)<=j/\j<2 ^ 62/\R (XM 0 j.toNat) H1
theorem Fq {a:Expr} {ta:TA} {p pos:Pos} (hg:Gl X "range") (hm:X.mg "range" = none) (ha:PA X [a] ta) (hs:starEach [a] X.env=[(false,eval a X.env)]:=by rfl):PI X tg (.Call (.Name "range" p) [a] [] pos) (eG ta):=by
 intro pins s σ H R I h
 refine Call_ (Ht I hg hm boot_range (PyProof.Rows.callWith_type1 (By (ha pos pins s σ H _ I h) fun us s1 ⟨vs,H1,I1,r1,q1⟩=>?_) hs rfl))
 obtain ⟨j,e,q1,q2,q⟩:=q1
 subst e
 cases r1 with
 | cons r rr =>
  cases rr
  obtain ⟨t,rfl⟩:=r
  exact call_range_1 (Uc I1 (by omega) (by omega) q1 q2 (by simpa using q))
noncomputable def jM (wi:TI) (g:TG) (tb:TS):TS:=fun D σ H=>wi σ H fun J H1=>∃ W:Nat->Nat->St->Hp->Prop,(∃ m,W 0 m σ H1)/\∀ i m σ H,W i m σ H ->
 (J.stop i H/\D.nx σ H) \/ (J.go i H/\∃ N:St->Hp->Prop,(∀ σ' H',N σ' H'->∃ m',m'<m/\W (i+1) m' σ' H')/\∀ x H',J.yld i H x H'->g x σ H' fun σ2 H2=>tb { D with nx:=N,ct:=N,bk:=D.nx } σ2 H2)
noncomputable def JM (fp:List Addr) (h:Heap):List (Addr × Obj):=fp.filterMap fun b=>(h.get? b).map fun o=>(b,o)
theorem Ec {fp:List Addr} {h:Heap} {b:Addr} {o:Obj} (hb:b∈fp) (e:h.get? b=some o):(b,o)∈JM fp h:=List.mem_filterMap.mpr ⟨b,hb,by rw [e]; rfl⟩
theorem Ro {fp:List Addr} {h:Heap} {p:Addr × Obj} (hp:p∈JM fp h):p.1∈fp/\h.get? p.1=some p.2:=by
 obtain ⟨b,hb,e⟩:=List.mem_filterMap.mp hp
 cases q:h.get? b with
 | none=>rw [q] at e; cases e
 | some o =>
  rw [q] at e
  have e':(b,o)=p:=Option.some.inj e
  subst e'
  exact ⟨hb,q⟩
theorem Inv.pinned {pins:List (Addr × Obj)} {σ:St} {H:Hp} {s:Shared} {fp:List Addr} (I:Inv X pins σ H s) (hf:∀ b∈fp,F_ X pins H b) (ho:∀ b∈fp,∃ o,s.heap.get? b=some o/\∀ v,o.data ≠ .cell v):Inv X (pins++JM fp s.heap) σ H s :=
 I.Qo fun p hp=>(List.mem_append.mp hp).elim (fun z=>I.pin p (List.mem_append_right _ z)) fun z=>by
  obtain ⟨hb,e⟩:=Ro z
  obtain ⟨f0,f1,f2,_⟩:=hf p.1 hb
  obtain ⟨o,e',d⟩:=ho p.1 hb
  rw [e] at e'; cases e'
  exact ⟨e,f0,f1,f2,d⟩
theorem Inv.Gk {pins pl:List (Addr × Obj)} {σ:St} {H:Hp} {s:Shared} (I:Inv X (pins++pl) σ H s):Inv X pins σ H s:=I.Qo fun p hp=>I.pin p (List.mem_append_right _ (List.mem_append_left _ hp))
theorem Ef {iter:Expr} {body:List Stmt} {wi:TI} {g:TG} {tb:TS} {pos:Pos} (hp:PassesOwn (model X.prog X.w) X.A X.env X.xe) (hc:X.calm=true) (hi:PI X tg iter wi) (hg:PG X tg g) (hb:Mj X body tb)
  (hs:∀ x,foldedSetIterable iter X.env x=pure x:=by intro _; rfl):PS X (.For tg iter body [] pos) (jM wi g tb):=by
 intro pins s σ H D I h
 refine wpAny_For (By (hi pins s σ H _ I h) fun v s1 h1=>By h1 fun itv s2 h2=>?_) hs
 obtain ⟨it,fp,tn,J,H2,e,I2,T,st2,f2,W,⟨m0,w0⟩,turn⟩:=h2
 subst e
 have stat:∀ {H':Hp},(∀ b∈fp,H' b=none)->∀ b∈fp,F_ X pins H' b:=fun hn b hb=>⟨hn b hb,(f2 b hb).2⟩
 refine codeAny_forLoop_any (fun n s'=>∃ i σ' H',Inv X pins σ' H' s'/\tn i s'.heap/\(∀ b∈fp,H' b=none)/\W i n σ' H') ?_ m0 ⟨0,σ,H2,I2,st2,fun b hb=>(f2 b hb).1,w0⟩
 rintro n s3 ⟨i,σ3,H3,I3,st3,fr3,w3⟩
 rcases turn i n σ3 H3 w3 with ⟨stop,qn⟩ | ⟨go,N,hN,step⟩
 ·refine wpAny_passesOwn hp (By (T.done X rfl rfl rfl hc i pins s3 σ3 H3 X.xe I3 (stat fr3) st3 stop) fun r s4 ⟨hr,I4⟩=>?_)
  subst hr
  exact wpAny_execs_nil ⟨σ3,H3,I4,qn⟩
 ·refine wpAny_passesOwn hp (By (T.item X rfl rfl rfl hc i pins s3 σ3 H3 X.xe I3 (stat fr3) st3 go) fun r s4 ⟨u,hr,h4⟩=>?_)
  subst hr
  refine wpAny_passesOwn hp (By h4 fun _ s5 hq0=>?_)
  obtain ⟨x,H5,I5,r5,y5,st5,fr5⟩:=hq0
  have I5':=I5.pinned (stat fr5) (T.obj _ _ st5)
  refine wpAny_passesOwn hp (By (hg _ s5 σ3 H5 x u _ I5' r5 (step x H5 y5)) fun _ s6 hq0=>?_)
  obtain ⟨σ6,H6,I6,q6⟩:=hq0
  refine wpAny_passesOwn hp (By (hb _ s6 σ6 H6 _ I6 q6) fun f s7 q7=>?_)
  have again:∀ {σ7:St} {H7:Hp},Inv X (pins++JM fp s5.heap) σ7 H7 s7->N σ7 H7->∃ m,m<n/\∃ i σ' H',Inv X pins σ' H' s7/\tn i s7.heap/\(∀ b∈fp,H' b=none)/\W i m σ' H':=fun {σ7 H7} I7 n7=>by
   obtain ⟨m',hm,w7⟩:=hN σ7 H7 n7
   refine ⟨m',hm,i+1,σ7,H7,I7.Gk,T.keep _ _ _ st5 fun b hb o e=>(I7.pin (b,o) (List.mem_append_right _ (List.mem_append_right _ (Ec hb e)))).1,fun b hb=>?_,w7⟩
   obtain ⟨o,e,d⟩:=T.obj _ _ st5 b hb
   exact (I7.pin (b,o) (List.mem_append_right _ (List.mem_append_right _ (Ec hb e)))).2.1
  cases f with
  | next=>obtain ⟨σ7,H7,I7,n7⟩:=q7; exact again I7 n7
  | cont=>obtain ⟨σ7,H7,I7,n7⟩:=q7; exact again I7 n7
  | brk=>obtain ⟨σ7,H7,I7,q7⟩:=q7; exact ⟨σ7,H7,I7.Gk,q7⟩
  | ret v=>obtain ⟨x7,σ7,H7,I7,r7,q7⟩:=q7; exact ⟨x7,σ7,H7,I7.Gk,r7,q7⟩
end
theorem Gg {K:PySem.W.Frag} {a:Addr} {xs:List V} {g:TG} {tb:TS} {D:Ends} {σ:St} {H:Hp} (Pv:Nat->St->Hp->Prop) (h0:Pv 0 σ H) (hl:∀ i σ H,i<=xs.length->Pv i σ H->DQ K H a xs)
  (hs:∀ i x σ H,xs[i]? = some x->Pv i σ H->g x σ H fun σ2 H2=>tb { D with nx:=Pv (i+1),ct:=Pv (i+1),bk:=D.nx } σ2 H2) (hd:∀ σ H,Pv xs.length σ H->D.nx σ H) :
  ∃ W:Nat->Nat->St->Hp->Prop,(∃ m,W 0 m σ H)/\∀ i m σ H,W i m σ H ->
   ((Xq K a).stop i H/\D.nx σ H) \/ ((Xq K a).go i H/\∃ N:St->Hp->Prop,(∀ σ' H',N σ' H'->∃ m',m'<m/\W (i+1) m' σ' H')/\∀ x H',(Xq K a).yld i H x H'->g x σ H' fun σ2 H2=>tb { D with nx:=N,ct:=N,bk:=D.nx } σ2 H2):=by
 refine ⟨fun i m σ H=>m=xs.length - i/\i<=xs.length/\Pv i σ H,⟨xs.length,by simp,Nat.zero_le _,h0⟩,?_⟩
 rintro i m σ H ⟨rfl,hi,p⟩
 have q:=hl i σ H hi p
 by_cases hlt:i<xs.length
 ·refine .inr ⟨⟨xs,xs[i],q,by simp [hlt]⟩,Pv (i+1),fun σ' H' p'=>⟨xs.length - (i+1),by omega,rfl,hlt,p'⟩,fun x H' y=>?_⟩
  obtain ⟨e,y⟩:=y
  subst e
  exact hs i x σ _ (y xs q) p
 ·have e:i=xs.length:=by omega
  subst e
  exact .inl ⟨⟨xs,q,Nat.le_refl _⟩,hd σ H p⟩
theorem JQ {lo:Int} {n:Nat} {g:TG} {tb:TS} {D:Ends} {σ:St} {H:Hp} (Pv:Nat->St->Hp->Prop) (h0:Pv 0 σ H)
  (hs:∀ i σ H,i<n->Pv i σ H->g (.int (lo+i)) σ H fun σ2 H2=>tb { D with nx:=Pv (i+1),ct:=Pv (i+1),bk:=D.nx } σ2 H2) (hd:∀ σ H,Pv n σ H->D.nx σ H) :
  ∃ W:Nat->Nat->St->Hp->Prop,(∃ m,W 0 m σ H)/\∀ i m σ H,W i m σ H ->
   ((XM lo n).stop i H/\D.nx σ H) \/ ((XM lo n).go i H/\∃ N:St->Hp->Prop,(∀ σ' H',N σ' H'->∃ m',m'<m/\W (i+1) m' σ' H')/\∀ x H',(XM lo n).yld i H x H'->g x σ H' fun σ2 H2=>tb { D with nx:=N,ct:=N,bk:=D.nx } σ2 H2):=by
 refine ⟨fun i m σ H=>m=n - i/\i<=n/\Pv i σ H,⟨n,by simp,Nat.zero_le _,h0⟩,?_⟩
 rintro i m σ H ⟨rfl,hi,p⟩
 by_cases hlt:i<n
 ·refine .inr ⟨hlt,Pv (i+1),fun σ' H' p'=>⟨n - (i+1),by omega,rfl,hlt,p'⟩,fun x H' y=>?_⟩
  obtain ⟨e,y⟩:=y
  subst e y
  exact hs i σ _ hlt p
 ·have e:i=n:=by omega
  subst e
  exact .inl ⟨Nat.le_refl _,hd σ H p⟩
theorem SN {c:TT} {tb:TS} {D:Ends} {σ:St} {H:Hp} (Pv:St->Hp->Prop) (μ:St->Hp->Nat) (h0:Pv σ H)
  (hs:∀ σ H,Pv σ H->c σ H fun b H1=>if b=true then tb { D with nx:=fun σ' H'=>Pv σ' H'/\μ σ' H'<μ σ H,ct:=fun σ' H'=>Pv σ' H'/\μ σ' H'<μ σ H,bk:=D.nx } σ H1 else D.nx σ H1)
  (mono:∀ σ H Q Q',(∀ b H1,Q b H1->Q' b H1)->c σ H Q->c σ H Q'):Lp c tb D σ H:=by
 refine ⟨fun m σ H=>m=μ σ H/\Pv σ H,⟨_,rfl,h0⟩,?_⟩
 rintro m σ H ⟨rfl,p⟩
 refine mono σ H _ _ (fun b H1 q=>?_) (hs σ H p)
 cases b with
 | true=>exact ⟨_,fun σ' H' ⟨p',l⟩=>⟨_,l,rfl,p'⟩,q⟩
 | false=>exact q
end L2
namespace L2
open PySem PySem.Spec PyProof.Rows
noncomputable abbrev R2:=V->V->Hp->VK->Prop
noncomputable def Hh (X:Cx) (f:Value->Value->Sem Value) (r:R2):Prop :=
 ∀ (pins:List (Addr × Obj)) (s:Shared) (σ:St) (H:Hp) (x y:V) (v u:Value) (Q:VK),Inv X pins σ H s->RelV x v->RelV y u->r x y H Q ->
  wpAny (model X.prog X.w) X.A (f v u) (EP X pins σ Q) X.xe s
noncomputable def gY (X:Cx) (f:Value->Sem Value) (r:V->Hp->VK->Prop):Prop :=
 ∀ (pins:List (Addr × Obj)) (s:Shared) (σ:St) (H:Hp) (x:V) (v:Value) (Q:VK),Inv X pins σ H s->RelV x v->r x H Q ->
  wpAny (model X.prog X.w) X.A (f v) (EP X pins σ Q) X.xe s
noncomputable def Em (X:Cx) (f:Value) (r:List V->Hp->VK->Prop):Prop :=
 ∀ (pins:List (Addr × Obj)) (s:Shared) (σ:St) (H:Hp) (xs:List V) (us:List Value) (Q:VK),Inv X pins σ H s->Vals xs us->r xs H Q ->
  wpAny (model X.prog X.w) X.A (call f us) (EP X pins σ Q) X.xe s
noncomputable def nG (X:Cx) (r:V->Hp->(Bool->Hp->Prop)->Prop):Prop :=
 ∀ (pins:List (Addr × Obj)) (s:Shared) (σ:St) (H:Hp) (x:V) (v:Value) (Q:Bool->Hp->Prop),Inv X pins σ H s->RelV x v->r x H Q ->
  wpAny (model X.prog X.w) X.A (truthy v) (TP X pins σ Q) X.xe s
noncomputable def ZK (r:R2) (ta tb:TE):TE:=fun σ H Q=>ta σ H fun x H1=>tb σ H1 fun y H2=>r x y H2 Q
noncomputable def pK (r:V->Hp->VK->Prop) (ta:TE):TE:=fun σ H Q=>ta σ H fun x H1=>r x H1 Q
noncomputable def rI (C:Int->Int->Prop) (g:Int->Int->V):R2:=fun x y H Q=>∃ i j,x=.int i/\y=.int j/\C i j/\Q (g i j) H
noncomputable def Wh (g:Int->Int->V):R2:=fun x y H Q=>∃ i j,x=.int i/\y=.int j/\Q (g i j) H
noncomputable def rU (g:Int->V):V->Hp->VK->Prop:=fun x H Q=>∃ i,x=.int i/\Q (g i) H
section
variable {X:Cx} {a b c:Expr} {ta tb tc:TE} {pos:Pos}
theorem Y0 (ha:PE X a ta) (hb:PE X b tb) {pins:List (Addr × Obj)} {s:Shared} {σ:St} {H:Hp} {R:V->V->Hp->Prop} (I:Inv X pins σ H s)
  (h:ta σ H fun x H1=>tb σ H1 fun y H2=>R x y H2) {Q:Value->Shared->Prop} {f:Value->Value->Sem Value}
  (hf:∀ v u s2 x y H2,Inv X pins σ H2 s2->RelV x v->RelV y u->R x y H2->wpAny (model X.prog X.w) X.A (f v u) Q X.xe s2) :
  wpAny (model X.prog X.w) X.A (eval a X.env) (fun v s₁=>wpAny (model X.prog X.w) X.A (eval b X.env) (fun u s₂=>wpAny (model X.prog X.w) X.A (f v u) Q X.xe s₂) X.xe s₁) X.xe s:=by
 refine By (ha pins s σ H _ I h) fun v s1 hq0=>?_
 obtain ⟨x,H1,I1,r1,q1⟩:=hq0
 refine By (hb pins s1 σ H1 _ I1 q1) fun u s2 hq0=>?_
 obtain ⟨y,H2,I2,r2,q2⟩:=hq0
 exact hf v u s2 x y H2 I2 r1 r2 q2
theorem BP {op:Operator} {r:R2} (ho:Hh X (binaryOp op) r) (ha:PE X a ta) (hb:PE X b tb):PE X (.BinOp a op b pos) (ZK r ta tb):=by
 intro pins s σ H Q I h
 exact wpAny_BinOp (Y0 ha hb I h fun v u s2 x y H2 I2 rx ry q=>ho pins s2 σ H2 x y v u Q I2 rx ry q)
theorem QV {op:UnaryOp} {r:V->Hp->VK->Prop} (ho:gY X (unaryOp op) r) (ha:PE X a ta):PE X (.UnaryOp op a pos) (pK r ta):=by
 intro pins s σ H Q I h
 exact UnaryOp_ (By (ha pins s σ H _ I h) fun v s1 ⟨x,H1,I1,r1,q1⟩=>ho pins s1 σ H1 x v Q I1 r1 q1)
theorem gR {f:Value->Value->Sem Value} {C:Int->Int->Prop} {g:Int->Int->Int}
  (rule:∀ (i j:Int) (t u:Tok) (s:Shared) (Q:Value->Shared->Prop) (E:Value->Shared->Prop),C i j->Q (.int (g i j) s.toks) { s with toks:=s.toks+1 }->wpAny (model X.prog X.w) X.A (f (.int i t) (.int j u)) Q E s) :
  Hh X f (rI C fun i j=>.int (g i j)):=by
 intro pins s σ H x y v u Q I rx ry h
 obtain ⟨i,j,rfl,rfl,hc,q⟩:=h
 obtain ⟨t,rfl⟩:=rx
 obtain ⟨t',rfl⟩:=ry
 exact rule i j t t' s _ _ hc ⟨.int (g i j),H,I.tok _,⟨_,rfl⟩,q⟩
theorem Vt {f:Value->Value->Sem Value} {g:Int->Int->Int}
  (rule:∀ (i j:Int) (t u:Tok) (s:Shared) (Q:Value->Shared->Prop) (E:Value->Shared->Prop),Q (.int (g i j) s.toks) { s with toks:=s.toks+1 }->wpAny (model X.prog X.w) X.A (f (.int i t) (.int j u)) Q E s) :
  Hh X f (Wh fun i j=>.int (g i j)):=by
 intro pins s σ H x y v u Q I rx ry h
 obtain ⟨i,j,rfl,rfl,q⟩:=h
 obtain ⟨t,rfl⟩:=rx
 obtain ⟨t',rfl⟩:=ry
 exact rule i j t t' s _ _ ⟨.int (g i j),H,I.tok _,⟨_,rfl⟩,q⟩
theorem Yt {f:Value->Value->Sem Value} {g:Int->Int->Bool}
  (rule:∀ (i j:Int) (t u:Tok) (s:Shared) (Q:Value->Shared->Prop) (E:Value->Shared->Prop),Q (.bool (g i j)) s->wpAny (model X.prog X.w) X.A (f (.int i t) (.int j u)) Q E s) :
  Hh X f (Wh fun i j=>.bl (g i j)):=by
 intro pins s σ H x y v u Q I rx ry h
 obtain ⟨i,j,rfl,rfl,q⟩:=h
 obtain ⟨t,rfl⟩:=rx
 obtain ⟨t',rfl⟩:=ry
 exact rule i j t t' s _ _ ⟨.bl (g i j),H,I,rfl,q⟩
noncomputable def il (i j:Int):Prop:=0<j/\j<1073741824
noncomputable def iV (i j:Int):Prop:=0<=j/\j<=1000000/\i.natAbs<2 ^ 64
noncomputable def Yv (i j:Int):Prop:=(-(2 ^ 64)<i/\i<2 ^ 64) \/ (-(2 ^ 64)<j/\j<2 ^ 64)
theorem Yv.ok {i j:Int} (h:Yv i j):IntMulOk i j:=by
 rcases h with ⟨h1,h2⟩ | ⟨h1,h2⟩
 ·exact .of_left (intBits_le_64 h1 h2)
 ·exact .of_right (intBits_le_64 h1 h2)
theorem Dp:Hh X (binaryOp .Add) (Wh fun i j=>.int (i+j)):=Vt fun _ _ _ _ _ _ _ q=>add_int q
theorem JR:Hh X (binaryOp .Sub) (Wh fun i j=>.int (i - j)):=Vt fun _ _ _ _ _ _ _ q=>sub_int q
theorem GD:Hh X (binaryOp .Mult) (rI Yv fun i j=>.int (i * j)):=gR fun _ _ _ _ _ _ _ hc q=>mul_int q hc.ok
theorem GK:Hh X (binaryOp .FloorDiv) (rI il fun i j=>.int (i / j)):=gR fun i j _ _ _ _ _ hc q=>by
 have h1:(0:Int)<j:=hc.1
 have h2:j<1073741824:=hc.2
 exact floordiv_int (by omega) (by rw [Int.fdiv_eq_ediv_of_nonneg i (by omega)]; exact q) (.inl (PyProof.noPylong_small (by omega)))
theorem CT:Hh X (binaryOp .Mod) (rI (fun _ j=>0<j) fun i j=>.int (i % j)):=gR fun i j _ _ _ _ _ hc q=>by
 have h1:(0:Int)<j:=hc
 exact mod_int' (by omega) (by rw [Int.fmod_eq_emod_of_nonneg i (by omega)]; exact q)
theorem J1:Hh X (binaryOp .LShift) (rI iV fun i j=>.int (i * 2 ^ j.toNat)):=gR fun _ _ _ _ _ _ _ hc q=>lshift_int_small hc.1 hc.2.1 hc.2.2 q
theorem Fg:Hh X (binaryOp .BitAnd) (Wh fun i j=>.int (Builtin.bitAnd i j)):=Vt fun _ _ _ _ _ _ _ q=>and_int q
theorem Hc:Hh X (binaryOp .BitOr) (Wh fun i j=>.int (Builtin.bitOr i j)):=Vt fun _ _ _ _ _ _ _ q=>or_int q
theorem oF {f:Value->Sem Value} {g:Int->Int}
  (rule:∀ (i:Int) (t:Tok) (s:Shared) (Q:Value->Shared->Prop) (E:Value->Shared->Prop),Q (.int (g i) s.toks) { s with toks:=s.toks+1 }->wpAny (model X.prog X.w) X.A (f (.int i t)) Q E s) :
  gY X f (rU fun i=>.int (g i)):=by
 intro pins s σ H x v Q I rx h
 obtain ⟨i,rfl,q⟩:=h
 obtain ⟨t,rfl⟩:=rx
 exact rule i t s _ _ ⟨.int (g i),H,I.tok _,⟨_,rfl⟩,q⟩
theorem Sy:gY X (unaryOp .USub) (rU fun i=>.int (-i)):=oF fun _ _ _ _ _ q=>neg_int q
theorem TX:gY X (unaryOp .Invert) (rU fun i=>.int (Builtin.bitNot i)):=oF fun _ _ _ _ _ q=>invert_int q
end
noncomputable def Yi:V->V->Bool
 | .non,.non=>true | .non,.int _=>true | .int _,.non=>true | .non,.bl _=>true | .bl _,.non=>true | .non,.str _=>true | .str _,.non=>true
 | .int _,.int _=>true | .bl _,.bl _=>true | .str _,.str _=>true | .byt _,.byt _=>true
 | .int _,.str _=>true | .str _,.int _=>true | .bl _,.str _=>true | .str _,.bl _=>true
 | _,_=>false
noncomputable def oK:R2:=fun x y H Q=>Yi x y=true/\Q (.bl (decide (x=y))) H
noncomputable def ph:R2:=fun x y H Q=>Yi x y=true/\Q (.bl (!decide (x=y))) H
theorem Qn {i j:Int}:decide (V.int i=V.int j)=(i == j):=by
 rw [Bool.eq_iff_iff]
 simp
theorem Uj {i j:Bool}:decide (V.bl i=V.bl j)=(i == j):=by
 rw [Bool.eq_iff_iff]
 simp
theorem HB {i j:Str}:decide (V.str i=V.str j)=(i == j):=by
 rw [Bool.eq_iff_iff]
 simp
theorem QF {i j:Array UInt8}:decide (V.byt i=V.byt j)=(i.toList == j.toList):=by
 rw [Bool.eq_iff_iff]
 cases i
 cases j
 simp
section
variable {X:Cx} {a b c:Expr} {ta tb tc:TE} {pos:Pos}
theorem Bj {pins:List (Addr × Obj)} {σ:St} {H:Hp} {s:Shared} {Q:VK} {k k':Bool} (I:Inv X pins σ H s) (q:Q (.bl k) H) (e:k=k'):EP X pins σ Q (.bool k') s:=by
 subst e
 exact ⟨.bl k,H,I,rfl,q⟩
theorem Be:Hh X (compareOp .Eq) oK:=by
 intro pins s σ H x y v u Q I rx ry h
 obtain ⟨hs,q⟩:=h
 cases x with
 | non =>
  cases rx
  cases y with
  | non=>cases ry; exact PySem.EqNone.eq_none_none (Bj I q (by simp))
  | bl j=>cases ry; exact PySem.EqNone.eq_none_bool (Bj I q (by simp))
  | int j=>obtain ⟨t',rfl⟩:=ry; exact PySem.EqNone.eq_none_int (Bj I q (by simp))
  | str j=>obtain ⟨t',rfl⟩:=ry; exact PySem.EqNone.eq_none_str (Bj I q (by simp))
  | _=>exact absurd (show false=true from hs) Bool.false_ne_true
 | bl i =>
  cases rx
  cases y with
  | non=>cases ry; exact PySem.EqNone.eq_bool_none (Bj I q (by simp))
  | bl j=>cases ry; exact eq_bool (Bj I q Uj)
  | str j=>obtain ⟨t',rfl⟩:=ry; exact PySem.EqMixed.eq_bool_str (Bj I q (by simp))
  | _=>exact absurd (show false=true from hs) Bool.false_ne_true
 | int i =>
  obtain ⟨t,rfl⟩:=rx
  cases y with
  | non=>cases ry; exact PySem.EqNone.eq_int_none (Bj I q (by simp))
  | int j=>obtain ⟨t',rfl⟩:=ry; exact eq_int (Bj I q Qn)
  | str j=>obtain ⟨t',rfl⟩:=ry; exact PySem.EqMixed.eq_int_str (Bj I q (by simp))
  | _=>exact absurd (show false=true from hs) Bool.false_ne_true
 | str i =>
  obtain ⟨t,rfl⟩:=rx
  cases y with
  | non=>cases ry; exact PySem.EqNone.eq_str_none (Bj I q (by simp))
  | bl j=>cases ry; exact PySem.EqMixed.eq_str_bool (Bj I q (by simp))
  | int j=>obtain ⟨t',rfl⟩:=ry; exact PySem.EqMixed.eq_str_int (Bj I q (by simp))
  | str j=>obtain ⟨t',rfl⟩:=ry; exact eq_str (Bj I q HB)
  | _=>exact absurd (show false=true from hs) Bool.false_ne_true
 | byt i =>
  obtain ⟨t,rfl⟩:=rx
  cases y with
  | byt j=>obtain ⟨t',rfl⟩:=ry; exact PySem.W.eq_bytes (Bj I q QF)
  | _=>exact absurd (show false=true from hs) Bool.false_ne_true
 | _=>cases y <;> exact absurd (show false=true from hs) Bool.false_ne_true
theorem Kc:Hh X (compareOp .NotEq) ph:=by
 intro pins s σ H x y v u Q I rx ry h
 obtain ⟨hs,q⟩:=h
 cases x with
 | non =>
  cases rx
  cases y with
  | non=>cases ry; exact PySem.EqNone.ne_none_none (Bj I q (by simp))
  | bl j=>cases ry; exact PySem.EqNone.ne_none_bool (Bj I q (by simp))
  | int j=>obtain ⟨t',rfl⟩:=ry; exact PySem.EqNone.ne_none_int (Bj I q (by simp))
  | str j=>obtain ⟨t',rfl⟩:=ry; exact PySem.EqNone.ne_none_str (Bj I q (by simp))
  | _=>exact absurd (show false=true from hs) Bool.false_ne_true
 | bl i =>
  cases rx
  cases y with
  | non=>cases ry; exact PySem.EqNone.ne_bool_none (Bj I q (by simp))
  | bl j=>cases ry; exact ne_bool (Bj I q (congrArg not Uj))
  | str j=>obtain ⟨t',rfl⟩:=ry; exact PySem.EqMixed.ne_bool_str (Bj I q (by simp))
  | _=>exact absurd (show false=true from hs) Bool.false_ne_true
 | int i =>
  obtain ⟨t,rfl⟩:=rx
  cases y with
  | non=>cases ry; exact PySem.EqNone.ne_int_none (Bj I q (by simp))
  | int j=>obtain ⟨t',rfl⟩:=ry; exact ne_int (Bj I q (congrArg not Qn))
  | str j=>obtain ⟨t',rfl⟩:=ry; exact PySem.EqMixed.ne_int_str (Bj I q (by simp))
  | _=>exact absurd (show false=true from hs) Bool.false_ne_true
 | str i =>
  obtain ⟨t,rfl⟩:=rx
  cases y with
  | non=>cases ry; exact PySem.EqNone.ne_str_none (Bj I q (by simp))
  | bl j=>cases ry; exact PySem.EqMixed.ne_str_bool (Bj I q (by simp))
  | int j=>obtain ⟨t',rfl⟩:=ry; exact PySem.EqMixed.ne_str_int (Bj I q (by simp))
  | str j=>obtain ⟨t',rfl⟩:=ry; exact ne_str (Bj I q (congrArg not HB))
  | _=>exact absurd (show false=true from hs) Bool.false_ne_true
 | byt i =>
  obtain ⟨t,rfl⟩:=rx
  cases y with
  | byt j=>obtain ⟨t',rfl⟩:=ry; exact PySem.W.ne_bytes (Bj I q (congrArg not QF))
  | _=>exact absurd (show false=true from hs) Bool.false_ne_true
 | _=>cases y <;> exact absurd (show false=true from hs) Bool.false_ne_true
theorem Jg:Hh X (compareOp .Lt) (Wh fun i j=>.bl (decide (i<j))):=Yt fun _ _ _ _ _ _ _ q=>lt_int q
theorem Fy:Hh X (compareOp .LtE) (Wh fun i j=>.bl (decide (i<=j))):=Yt fun _ _ _ _ _ _ _ q=>le_int q
theorem eU:Hh X (compareOp .GtE) (Wh fun i j=>.bl (decide (j<=i))):=Yt fun _ _ _ _ _ _ _ q=>ge_int q
theorem Kz:Hh X (compareOp .In) (fun x y H Q=>∃ i j,x=.str i/\y=.str j/\Q (.bl (!(Builtin.Str.occurrences j i 0 j.length 1).isEmpty)) H):=by
 intro pins s σ H x y v u Q I rx ry h
 obtain ⟨i,j,rfl,rfl,q⟩:=h
 obtain ⟨t,rfl⟩:=rx
 obtain ⟨t',rfl⟩:=ry
 exact in_str (Bj I q rfl)
theorem Pa:Hh X (compareOp .Is) (fun x y H Q=>y=.non/\Q (.bl (decide (x=.non))) H):=by
 intro pins s σ H x y v u Q I rx ry h
 obtain ⟨rfl,q⟩:=h
 cases ry
 refine is_none_gen (Bj I q ?_)
 cases x <;> first
  | (cases rx; rfl)
  | (obtain ⟨t,rfl⟩:=rx; rfl)
theorem Wq:Hh X (compareOp .IsNot) (fun x y H Q=>y=.non/\Q (.bl (!decide (x=.non))) H):=by
 intro pins s σ H x y v u Q I rx ry h
 obtain ⟨rfl,q⟩:=h
 cases ry
 refine isnot_none_gen (Bj I q ?_)
 cases x <;> first
  | (cases rx; rfl)
  | (obtain ⟨t,rfl⟩:=rx; rfl)
theorem BL (b:Expr) {op:CmpOp} (h:op ≠ .In:=by decide) (h2:op ≠ .NotIn:=by decide):behindInMarks op b=false:=by
 have e1:(op == CmpOp.In)=false:=by cases op <;> first | rfl | exact absurd rfl h
 have e2:(op == CmpOp.NotIn)=false:=by cases op <;> first | rfl | exact absurd rfl h2
 cases b <;> simp [behindInMarks,e1,e2]
theorem Cg {op:CmpOp} {r:R2} (ho:Hh X (compareOp op) r) (ha:PE X a ta) (hb:PE X b tb) (hm:behindInMarks op b=false):PE X (.Compare a [op] [b] pos) (ZK r ta tb):=by
 intro pins s σ H Q I h
 exact wpAny_Compare1 (Y0 ha hb I h fun v u s2 x y H2 I2 rx ry q=>ho pins s2 σ H2 x y v u Q I2 rx ry q) hm
noncomputable def VM (t:TE):TT:=fun σ H Q=>t σ H fun x H'=>∃ k,x=.bl k/\Q k H'
theorem Az {op:CmpOp} {r:R2} (ho:Hh X (compareOp op) r) (ha:PE X a ta) (hb:PE X b tb) (hm:behindInMarks op b=false):PT X (.Compare a [op] [b] pos) (VM (ZK r ta tb)):=by
 intro pins s σ H Q I h
 refine wpAny_isTrue_Compare1 (By (ha pins s σ H _ I h) fun v s1 ⟨x,H1,I1,r1,q1⟩=>By (hb pins s1 σ H1 _ I1 q1) fun u s2 ⟨y,H2,I2,r2,q2⟩ =>
  By (ho pins s2 σ H2 x y v u _ I2 r1 r2 q2) fun c s3 ⟨z,H3,I3,r3,k,e,q3⟩=>?_) hm
 subst e
 cases r3
 exact wpAny_truthy_bool ⟨H3,I3,q3⟩
noncomputable def S6 (r r':R2) (ta tb tc:TE):TE:=fun σ H Q=>ta σ H fun x H1=>tb σ H1 fun y H2=>r x y H2 fun z H3=>∃ k,z=.bl k /\
 (if k=true then tc σ H3 fun w' H4=>r' y w' H4 Q else Q (.bl false) H3)
theorem Gq {op op':CmpOp} {r r':R2} (ho:Hh X (compareOp op) r) (ho':Hh X (compareOp op') r') (ha:PE X a ta) (hb:PE X b tb) (hc:PE X c tc)
  (hm:lastMarks [op,op'] [b,c]=false:=by with_unfolding_all rfl):PE X (.Compare a [op,op'] [b,c] pos) (S6 r r' ta tb tc):=by
 intro pins s σ H Q I h
 refine Compare_chain (By (ha pins s σ H _ I h) fun v s1 ⟨x,H1,I1,r1,q1⟩=>chain_link (By (hb pins s1 σ H1 _ I1 q1) fun u s2 ⟨y,H2,I2,r2,q2⟩ =>
  By (ho pins s2 σ H2 x y v u _ I2 r1 r2 q2) fun d s3 ⟨z,H3,I3,r3,k,e,q3⟩=>?_)) hm
 subst e
 cases r3
 refine wpAny_truthy_bool ?_
 cases k with
 | false=>exact ite_ff ⟨.bl false,H3,I3,rfl,q3⟩
 | true=>exact ite_tt (chain_last (By (hc pins s3 σ H3 _ I3 q3) fun w' s4 ⟨z',H4,I4,r4,q4⟩=>ho' pins s4 σ H4 y z' u w' Q I4 r2 r4 q4))
theorem N_ {op op':CmpOp} {r r':R2} (ho:Hh X (compareOp op) r) (ho':Hh X (compareOp op') r') (ha:PE X a ta) (hb:PE X b tb) (hc:PE X c tc)
  (hm:lastMarks [op,op'] [b,c]=false:=by with_unfolding_all rfl):PT X (.Compare a [op,op'] [b,c] pos) (VM (S6 r r' ta tb tc)):=by
 intro pins s σ H Q I h
 refine isTrue_chain (By (ha pins s σ H _ I h) fun v s1 ⟨x,H1,I1,r1,q1⟩=>test_link (By (hb pins s1 σ H1 _ I1 q1) fun u s2 ⟨y,H2,I2,r2,q2⟩ =>
  By (ho pins s2 σ H2 x y v u _ I2 r1 r2 q2) fun d s3 ⟨z,H3,I3,r3,k,e,q3⟩=>?_)) hm
 subst e
 cases r3
 refine wpAny_truthy_bool ?_
 cases k with
 | false =>
  obtain ⟨k',e',q'⟩:=q3
  cases e'
  exact ite_ff ⟨H3,I3,q'⟩
 | true =>
  refine ite_tt (test_last (By (hc pins s3 σ H3 _ I3 q3) fun w' s4 ⟨z',H4,I4,r4,q4⟩=>By (ho' pins s4 σ H4 y z' u w' _ I4 r2 r4 q4) fun d' s5 hq0=>?_))
  obtain ⟨z2,H5,I5,r5,k2,e2,q5⟩:=hq0
  subst e2
  cases r5
  exact wpAny_truthy_bool ⟨H5,I5,q5⟩
noncomputable def fj (K:PySem.W.Frag) (x:V) (H:Hp) (k:Bool):Prop :=
 match x with
 | .non=>k=false
 | .bl b=>k=b
 | .int i=>k=(i != 0)
 | .str y=>y.length<=sizeLine/\k=((y.length:Int) != 0)
 | .byt y=>y.size<=sizeLine/\k=((y.size:Int) != 0)
 | .ref p=>(∃ xs,DQ K H p xs/\k = !xs.isEmpty) \/ (∃ xs,Gm K H p xs/\k = !xs.isEmpty) \/ ∃ kvs,H p=some (.dK kvs)/\k = !kvs.isEmpty
 | _=>False
theorem Oh {κ:Type} {kvs:List (κ × V)} {vs:List (κ × Value)} (r:KV kvs vs):(!vs.isEmpty) = !kvs.isEmpty:=by
 cases r <;> rfl
theorem KY {xs:List V} {its:List Value} (r:Vals xs its):(!its.toArray.isEmpty) = !xs.isEmpty:=by
 cases r <;> simp
theorem Gu:(sizeLine:Nat)<2 ^ 63:=by rw [sizeLine_eq]; decide
theorem ZC:nG X (fun x H Q=>∃ k,fj X.K x H k/\Q k H):=by
 intro pins s σ H x v Q I rx h
 obtain ⟨k,e,q⟩:=h
 have hl:=Gu
 have hs:sizeLine=16777216:=sizeLine_eq
 cases x with
 | non =>
  cases rx
  have e':k=false:=e
  subst e'
  exact truthy_none ⟨H,I,q⟩
 | bl b =>
  cases rx
  have e':k=b:=e
  subst e'
  exact wpAny_truthy_bool ⟨H,I,q⟩
 | int i =>
  obtain ⟨t,rfl⟩:=rx
  have e':k=(i != 0):=e
  subst e'
  exact PySem.P.truthy_int ⟨H,I,q⟩
 | str y =>
  obtain ⟨t,rfl⟩:=rx
  obtain ⟨hy,e'⟩:y.length<=sizeLine/\k=((y.length:Int) != 0):=e
  subst e'
  exact PySem.P.truthy_str (by omega) ⟨H,I.tok _,q⟩
 | byt y =>
  obtain ⟨t,rfl⟩:=rx
  obtain ⟨hy,e'⟩:y.size<=sizeLine/\k=((y.size:Int) != 0):=e
  subst e'
  exact PySem.W.truthy_bytes (by omega) ⟨H,I.tok _,q⟩
 | ref p =>
  cases rx
  have e':(∃ xs,DQ X.K H p xs/\k = !xs.isEmpty) \/ (∃ xs,Gm X.K H p xs/\k = !xs.isEmpty) \/ ∃ kvs,H p=some (.dK kvs)/\k = !kvs.isEmpty:=e
  rcases e' with ⟨xs,hx,e'⟩ | ⟨xs,hx,e'⟩ | ⟨kvs,hx,e'⟩
  ·subst e'
   obtain ⟨its,r,pl,hz⟩:=I.list hx
   have hlen:=r.length
   exact wpAny_truthy_list pl.isList (by simp only [List.size_toArray]; omega) ⟨H,I.tok _,by rw [KY r]; exact q⟩
  ·subst e'
   obtain ⟨its,r,pl,hz⟩:=I.tuple hx
   have hlen:=r.length
   exact truthy_tuple pl (by simp only [List.size_toArray]; omega) ⟨H,I.tok _,by rw [KY r]; exact q⟩
  ·subst e'
   obtain ⟨hz,hS,vs,r,m⟩:kvs.length<=sizeLine/\(p == sysModules)=false/\∃ vs,KV kvs vs/\s.heap.DictOf (Cu X.prog X.w) p vs:=I.hok p _ hx
   have hlen:kvs.length=vs.length:=Paired.length r
   exact wpAny_truthy_dict hS m (by omega) ⟨H,I.tok _,by rw [Oh r]; exact q⟩
 | _=>exact (show False from e).elim
theorem Uz (ha:PE X a ta) (he:∀ whole,isTrue a X.env whole=(do let v ← whole; standAt a.pos; holding [v] (truthy v))) :
  PT X a (fun σ H Q=>ta σ H fun x H'=>∃ k,fj X.K x H' k/\Q k H'):=by
 intro pins s σ H Q I h
 exact isTrue_plain (By (ha pins s σ H _ I h) fun v s1 ⟨x,H1,I1,r1,q1⟩=>ZC pins s1 σ H1 x v Q I1 r1 q1) (he _)
theorem Ey:Hh X (binaryOp .Add) (fun x y H Q=>∃ i j,x=.str i/\y=.str j/\i.length+j.length<=sizeLine/\Q (.str (i++j)) H):=by
 intro pins s σ H x y v u Q I rx ry h
 obtain ⟨i,j,rfl,rfl,hz,q⟩:=h
 obtain ⟨t,rfl⟩:=rx
 obtain ⟨t',rfl⟩:=ry
 exact add_str (fun t' tk=>⟨.str (i++j),H,I.tok _,⟨_,rfl⟩,q⟩) hz
theorem vals1 {x:V} {us:List Value} (r:Vals [x] us):∃ u,us=[u]/\RelV x u:=by
 cases r with
 | cons r1 r2=>cases r2; exact ⟨_,rfl,r1⟩
theorem Sh:Em X (.builtin "abs") (fun xs H Q=>∃ i,xs=[.int i]/\Q (.int (if i<0 then -i else i)) H):=by
 intro pins s σ H xs us Q I r h
 obtain ⟨i,rfl,q⟩:=h
 obtain ⟨u,rfl,t,rfl⟩:=vals1 r
 exact call_abs_int fun u tk=>⟨.int (if i<0 then -i else i),H,I.tok _,⟨_,rfl⟩,q⟩
end
end L2
namespace L2
open PySem PySem.Spec PyProof.Rows
structure O_ (h:Heap) (x dx C:Addr) (mA:Str->Option Value):Prop where
 obj:h.get? x=some (PySem.W.instObj C dx)
 ns:h.Ns1 dx mA
 ne:dx ≠ x
theorem K1 {h:Heap} {dx:Addr} {mA:Str->Option Value} (n:h.Ns1 dx mA):∃ od,h.get? dx=some od/\∀ name,PySem.W.lookIn name od=some (mA name):=by
 obtain ⟨o,es,ep,ho,hd,hk,_,hm⟩:=n
 refine ⟨o,ho,fun name=>?_⟩
 have e:=hm name
 unfold nsFind findBy at e
 rw [← Array.find?_toList] at e
 unfold PySem.W.lookIn
 rw [hd]
 dsimp only
 split
 ·rename_i y q
  rw [q] at e
  exact congrArg some e
 ·rename_i q
  rw [q] at e
  have a:es.toList.any (·.refKey)=false:=by
   rw [List.any_eq_false]
   intro y hy
   obtain ⟨z,t,hkey⟩:=hk y (Array.mem_toList_iff.mp hy)
   simp [DictEntry.refKey,hkey]
  have a':¬ es.toList.any (·.refKey)=true:=by rw [a]; exact Bool.false_ne_true
  rw [if_neg a']
  exact congrArg some e
theorem O_.look {h:Heap} {x dx C:Addr} {mA:Str->Option Value} (I:O_ h x dx C mA):∃ od,PySem.W.InstAt h x (PySem.W.instObj C dx) C (some od)/\∀ name,PySem.W.lookIn name od=some (mA name) :=
 let ⟨od,ho,hl⟩:=K1 I.ns
 ⟨od,⟨I.obj,rfl,rfl,ho⟩,hl⟩
section
variable {prog:Program} {w:World} {A:Around} {E:Value->Shared->Prop} {s:Shared} {K:PySem.W.Frag} {x dx C f:Addr} {mA:Str->Option Value} {name:Str} {v:Value}
theorem Vh {expr:Bool} {Q:Value->Shared->Prop} (X:K.In s.heap) (I:O_ s.heap x dx C mA) (hg:PySem.W.plainGet K C name=true) (hh:PySem.W.hasDictIn K C=true)
  (ha:PySem.W.findIn K (.ref C) name=some none) (hv:mA name=some v) (hv':PySem.W.handedIn v=true) (h:Q v { s with toks:=s.toks+1 }) :
  wpAny (model prog w) A (getAttr (.ref x) name expr) Q E s:=by
 obtain ⟨od,J,hl⟩:=I.look
 exact PySem.W.get_value X J (PySem.W.plainGet_of hg).1 (PySem.W.findObj_own hh ha rfl (by rw [hl,hv])) hv' h
theorem Ug {pl:Sem Bool} {Q:Value × List Value->Shared->Prop} (X:K.In s.heap) (I:O_ s.heap x dx C mA) (hg:PySem.W.plainGet K C name=true)
  (hf:PySem.W.findIn K (.ref C) name=some (some (.ref f))) (ht:PySem.W.isFn K (.ref f)=true) (hv:mA name=none) (h:Q (.ref f,[.ref x]) s) :
  wpAny (model prog w) A (getMethod (.ref x) name pl) Q E s:=by
 obtain ⟨od,J,hl⟩:=I.look
 exact PySem.W.method_fn X J (PySem.W.plainGet_of hg).1 (PySem.W.plainGet_of hg).2 hf (beq_iff_eq.mp ht) (by show (PySem.W.lookIn name od).map (·.isSome)=some false; rw [hl,hv]; rfl) h
theorem Vp {ns:List Str} {Q:Unit->Shared->Prop} (X:K.In s.heap) (I:O_ s.heap x dx C mA)
  (hs:PySem.W.findIn K (.ref C) "__setattr__" = some (some (.builtin "object.__setattr__"))) (hp:PySem.W.plainOver K C=true) (ht:PySem.W.takerIn K C name=some none) (hh:PySem.W.hasDictIn K C=true)
  (hw:PySem.Within mA ns) (hsz:ns.length<=sizeLine)
  (h:∀ h',O_ h' x dx C (fun y=>if y=name then some v else mA y)->Heap.SameBut dx s.heap h'->Q () { s with heap:=h',toks:=s.toks+2 }) :
  wpAny (model prog w) A (setAttr (.ref x) name v) Q E s:=by
 obtain ⟨od,J,hl⟩:=I.look
 refine PySem.W.set_plain X J hs (PySem.W.osa_open (s:={ s with toks:=s.toks+1 }) (r:=none) X J hp ht fun b=>?_)
 obtain ⟨cd,hc,hd'⟩:=PySem.W.any_some hh
 have hx:s.heap.get? x=some ⟨.ref C,some dx,.plain,#[]⟩:=I.obj
 refine wpAny_bind (wpAny_pure (wpAny_bind (wpAny_bind (wpAny_loadPart hx (wpAny_bind (PySem.W.Looks.here (s:={ s with toks:=s.toks+1 }) (PySem.W.looks_clsIn X hc) ?_))))))
 rw [hd']
 refine wpAny_pure (a:=some dx) (wpAny_bind (wpAny_pure (wpAny_bind ?_)))
 refine wpAny_nsSet1 (s:={ s with toks:=s.toks+1 }) I.ns fun h' hn2 hs2=>?_
 obtain ⟨oD,esD,epD,hoD,hdD,hcD⟩:=hn2.count (PySem.Within.cons name v hw)
 refine wpAny_bind (wpAny_lookBehind hoD (by rw [hdD]; exact pastItsLine_dict (Nat.le_trans hcD (by rw [List.length_cons]; omega))) ?_)
 exact wpAny_pure (h _ ⟨(hs2.2 _ (Ne.symm I.ne)).trans I.obj,hn2,I.ne⟩ hs2)
theorem Tc {R:Result->Shared->Prop} {vs:List Value} {kw:List (Str × Value)} (X:K.In s.heap) (hm:PySem.W.makesIn K C=true)
  (hi:PySem.W.findIn K (.ref C) "__init__" = some (some (.ref f))) (hf:PySem.W.typeIn K (.ref f)=some (.type "function"))
  (h:codeAny (model prog w) (A.under (.builtin "type.__call__" ⟨.ref C::vs,kw⟩)) (.call (.ref f) ⟨.ref (s.heap.objs.size+1)::vs,kw⟩) (PySem.W.InitBack (s.heap.objs.size+1) R)
   { s with heap:=(s.heap.push PySem.W.emptyDict).push (PySem.W.instObj C s.heap.objs.size) }) :
  codeAny (model prog w) A (.call (.ref C) ⟨vs,kw⟩) R s:=by
 obtain ⟨hh,g,d,t,os⟩:=s
 exact PySem.W.make_core (PySem.W.makes_of X hm) (PySem.W.looks_findIn X hi) (fun self=>PySem.W.bind_fn X self hf) (.inl rfl) h
end
noncomputable def BV (f:Str) (v:V):List (Str × V)->List (Str × V)
 | []=>[(f,v)]
 | (g,x)::r=>if g=f then (g,v)::r else (g,x)::BV f v r
theorem Ag (f g:Str) (v:V):∀ fs:List (Str × V),(BV f v fs).lookup g=if g=f then some v else fs.lookup g
 | []=>by
  show List.lookup g [(f,v)]=_
  by_cases h:g=f
  ·have hb:(g == f)=true:=beq_iff_eq.mpr h
   simp only [List.lookup,hb,if_pos h]
  ·have hb:(g == f)=false:=beq_eq_false_iff_ne.mpr h
   simp only [List.lookup,hb,if_neg h]
 | (k,x)::r=>by
  have ih:=Ag f g v r
  rw [show BV f v ((k,x)::r)=(if k=f then (k,v)::r else (k,x)::BV f v r) from rfl]
  by_cases hk:k=f
  ·rw [if_pos hk]
   by_cases h:g=k
   ·have hb:(g == k)=true:=beq_iff_eq.mpr h
    simp only [List.lookup,hb,if_pos (h.trans hk)]
   ·have hb:(g == k)=false:=beq_eq_false_iff_ne.mpr h
    simp only [List.lookup,hb,if_neg (fun e:g=f=>h (e.trans hk.symm))]
  ·rw [if_neg hk]
   by_cases h:g=k
   ·have hb:(g == k)=true:=beq_iff_eq.mpr h
    simp only [List.lookup,hb,if_neg (fun e:g=f=>hk (h.symm.trans e))]
   ·have hb:(g == k)=false:=beq_eq_false_iff_ne.mpr h
    simp only [List.lookup,hb]
    exact ih
theorem JL (f:Str) (v:V):∀ fs:List (Str × V),f∈(BV f v fs).map (·.1)/\∀ g,g∈fs.map (·.1)->g∈(BV f v fs).map (·.1)
 | []=>⟨by simp [BV],fun g h=>by simp at h⟩
 | (k,x)::r=>by
  obtain ⟨i1,i2⟩:=JL f v r
  rw [show BV f v ((k,x)::r)=(if k=f then (k,v)::r else (k,x)::BV f v r) from rfl]
  by_cases hk:k=f
  ·rw [if_pos hk]
   subst hk
   exact ⟨by simp,fun g h=>by simpa using h⟩
  ·rw [if_neg hk]
   refine ⟨?_,fun g h=>?_⟩
   ·rw [List.map_cons]
    exact List.mem_cons_of_mem _ i1
   ·rw [List.map_cons] at h ⊢
    rcases List.mem_cons.mp h with e | e
    ·exact List.mem_cons.mpr (.inl e)
    ·exact List.mem_cons_of_mem _ (i2 g e)
theorem Je (f:Str) (v:V):∀ fs:List (Str × V),(BV f v fs).length<=fs.length+1
 | []=>by simp [BV]
 | (k,x)::r=>by
  have ih:=Je f v r
  rw [show BV f v ((k,x)::r)=(if k=f then (k,v)::r else (k,x)::BV f v r) from rfl]
  by_cases hk:k=f
  ·rw [if_pos hk,List.length_cons,List.length_cons]; omega
  ·rw [if_neg hk,List.length_cons,List.length_cons]; omega
theorem Ft.some_of {v:V} {o:Option Value} (r:Ft (some v) o):∃ u,o=some u/\RelV v u:=by
 cases o with
 | none=>exact (show False from r).elim
 | some u=>exact ⟨u,rfl,r⟩
theorem Ft.none_of {o:Option Value} (r:Ft none o):o=none:=by
 cases o with
 | none=>rfl
 | some u=>exact (show False from r).elim
theorem Rh {v:V} {u:Value} (r:RelV v u):PySem.W.handedIn u=true:=by
 cases v with
 | non=>cases (show u=Value.none from r); rfl
 | bl b=>cases (show u=Value.bool b from r); rfl
 | int i=>obtain ⟨t,e⟩:=(show ∃ t,u=Value.int i t from r); cases e; rfl
 | str x=>obtain ⟨t,e⟩:=(show ∃ t,u=Value.str x t from r); cases e; rfl
 | byt b=>obtain ⟨t,e⟩:=(show ∃ t,u=Value.bytes b t from r); cases e; rfl
 | flt b=>obtain ⟨t,e⟩:=(show ∃ t,u=Value.float b t from r); cases e; rfl
 | ref a=>cases (show u=Value.ref a from r); rfl
 | ty n=>cases (show u=Value.type n from r); rfl
section
variable {P:Program} {w:World} {H H':Hp} {h h':Heap} {a C dx:Addr} {fs fs':List (Str × V)}
theorem Jv (hok:Ei P w H h) (e:H a=some (.ins C dx fs)):∃ mA,O_ h a dx C mA/\(∀ f,Ft (fs.lookup f) (mA f))/\PySem.Within mA (fs.map (·.1))/\fs.length<=1000/\H dx=some (.own a):=by
 obtain ⟨d,z,ne,ob,mA,n,r,q⟩:=(show Bx P w H h a (.ins C dx fs) from hok a _ e)
 exact ⟨mA,⟨ob,n,ne⟩,r,q,z,d⟩
end
structure NQ (K:PySem.W.Frag) (C:Addr):Prop where
 pg:PySem.W.plainGet K C Str.empty=true
 hd:PySem.W.hasDictIn K C=true
 po:PySem.W.plainOver K C=true
 sa:PySem.W.findIn K (.ref C) "__setattr__" = some (some (.builtin "object.__setattr__"))
theorem NQ.get {K:PySem.W.Frag} {C:Addr} (c:NQ K C) (f:Str):PySem.W.plainGet K C f=true:=c.pg
noncomputable def CQ (K:PySem.W.Frag) (C:Addr) (f:Str):Prop:=PySem.W.findIn K (.ref C) f=some none
theorem CQ.taker {K:PySem.W.Frag} {C:Addr} {f:Str} (n:CQ K C f):PySem.W.takerIn K C f=some none:=by
 unfold PySem.W.takerIn
 rw [show PySem.W.findIn K (.ref C) f=some none from n]
 rfl
structure ZR (K:PySem.W.Frag) (C:Addr) (f:Str) (v:V) (u:Value):Prop where
 at_:PySem.W.findIn K (.ref C) f=some (some u)
 rel:RelV v u
 get:PySem.W.specialIn K u "__get__" = some none
 cp:PySem.W.copiedNames.contains f=false
structure Meth (K:PySem.W.Frag) (C:Addr) (m:Str) (f:Addr):Prop where
 at_:PySem.W.findIn K (.ref C) m=some (some (.ref f))
 fn:PySem.W.isFn K (.ref f)=true
 kp:PySem.W.keepIn K (.ref f)=true
section
variable {X:Cx} {pins:List (Addr × Obj)} {σ:St} {H:Hp} {s:Shared} {a C dx:Addr} {fs:List (Str × V)} {f:Str} {v:V} {A:Around} {E:Value->Shared->Prop}
theorem Om {b:Bool} {Q:Value->Shared->Prop} (I:Inv X pins σ H s) (e:H a=some (.ins C dx fs)) (c:NQ X.K C) (n:CQ X.K C f) (l:fs.lookup f=some v)
  (h:∀ u s',Inv X pins σ H s'->RelV v u->Q u s'):wpAny (model X.prog X.w) A (getAttr (.ref a) f b) Q E s:=by
 obtain ⟨mA,O,r,_,_,_⟩:=Jv I.hok e
 obtain ⟨u,hu,ru⟩:=Ft.some_of (v:=v) (o:=mA f) (by rw [← l]; exact r f)
 exact Vh I.GJ O (c.get f) c.hd n hu (Rh ru) (h u _ (I.tok _) ru)
theorem Ex {m:Str} {g:Addr} {pl:Sem Bool} {Q:Value × List Value->Shared->Prop} (I:Inv X pins σ H s) (e:H a=some (.ins C dx fs)) (c:NQ X.K C) (k:Meth X.K C m g) (l:fs.lookup m=none)
  (h:Q (.ref g,[.ref a]) s):wpAny (model X.prog X.w) A (getMethod (.ref a) m pl) Q E s:=by
 obtain ⟨mA,O,r,_,_,_⟩:=Jv I.hok e
 have hn:mA m=none:=Ft.none_of (by rw [← l]; exact r m)
 exact Ug I.GJ O (c.get m) k.at_ k.fn hn h
theorem Oi {y:V} {u:Value} {Q:Unit->Shared->Prop} (I:Inv X pins σ H s) (e:H a=some (.ins C dx fs)) (c:NQ X.K C) (n:CQ X.K C f) (hl:fs.length<1000) (ry:RelV y u)
  (h:∀ s',Inv X pins σ (upd H a (.ins C dx (BV f y fs))) s'->Q () s'):wpAny (model X.prog X.w) A (setAttr (.ref a) f u) Q E s:=by
 obtain ⟨mA,O,r,wi,_,ho⟩:=Jv I.hok e
 have hz:(fs.map (·.1)).length<=sizeLine:=by rw [List.length_map,sizeLine_eq]; omega
 refine Vp I.GJ O c.sa c.po n.taker c.hd wi hz fun h' O' sb=>h _ ?_
 have hd:∃ o,h'.get? dx=some o:=let ⟨o,_,_,e',_⟩:=O'.ns; ⟨o,e'⟩
 refine I.write (x:=a) (e:=dx) (by rw [e]; exact True.intro) (.inr ho) (fun b q hb z=>(sb.2 b hb).trans z) hd ?_
 refine ⟨by rw [Ar O.ne]; exact ho,?_,O.ne,O'.obj,_,O'.ns,fun g=>?_,fun g hg=>?_⟩
 ·have:=Je f y fs; omega
 ·show Ft ((BV f y fs).lookup g) (if g=f then some u else mA g)
  rw [Ag]
  by_cases q:g=f
  ·rw [if_pos q,if_pos q]; exact ry
  ·rw [if_neg q,if_neg q]; exact r g
 ·by_cases q:g=f
  ·rw [q]; exact (JL f y fs).1
  ·refine (JL f y fs).2 g (wi g fun z=>hg ?_)
   show (if g=f then some u else mA g)=none
   rw [if_neg q]; exact z
theorem Inv.made (I:Inv X pins σ H s):Inv X pins σ (upd (upd H s.heap.objs.size (.own (s.heap.objs.size+1))) (s.heap.objs.size+1) (.ins C s.heap.objs.size []))
  { s with heap:=(s.heap.push PySem.W.emptyDict).push (PySem.W.instObj C s.heap.objs.size) }:=by
 have e1:(s.heap.push PySem.W.emptyDict).get? s.heap.objs.size=some PySem.W.emptyDict:=Heap.get?_push_size s.heap rfl
 have e2:((s.heap.push PySem.W.emptyDict).push (PySem.W.instObj C s.heap.objs.size)).get? (s.heap.objs.size+1)=some (PySem.W.instObj C s.heap.objs.size):=by
  have:=Heap.get?_push_size (s.heap.push PySem.W.emptyDict) (o:=PySem.W.instObj C s.heap.objs.size) rfl
  rwa [Heap.size_push] at this
 have e3:(s.heap.push PySem.W.emptyDict).Ns s.heap.objs.size (fun _=>none):=⟨PySem.W.emptyDict,#[],_,e1,rfl,(fun e he=>absurd he (by simp)),fun _=>rfl⟩
 have I1:=I.laid (a:=s.heap.objs.size) (o:=.own (s.heap.objs.size+1)) (h':=s.heap.push PySem.W.emptyDict) (t':=s.toks) (fun b u q=>Heap.get?_push_of_some _ q) (Nat.le_refl _) ⟨_,e1⟩
 refine I1.laid (a:=s.heap.objs.size+1) (o:=.ins C s.heap.objs.size []) (t':=s.toks) (fun b u q=>Heap.get?_push_of_some _ q) (Nat.le_of_eq (Heap.size_push _ _)) ?_
 have ne:s.heap.objs.size ≠ s.heap.objs.size+1:=Nat.ne_of_lt (Nat.lt_succ_self _)
 refine ⟨by rw [Ar ne,Ah],Nat.zero_le _,ne,e2,fun _=>none,(Heap.Ns1.of_empty e3).at fun o q=>Heap.get?_push_of_some _ q,fun _=>True.intro,fun y hy=>absurd rfl hy⟩
theorem WX {prog:Program} {w:World} {env:Env} {e:Expr} {f:Str} {pos:Pos} {s:Shared} {Q:Value->Shared->Prop} (hb:attributeBase e f env (eval e env)=eval e env)
  (h:wpAny (model prog w) A (eval e env) (fun o s₁=>wpAny (model prog w) A (getAttr o f true) Q E s₁) E s):wpAny (model prog w) A (eval (.Attribute e f pos) env) Q E s :=
 Attribute_any_ h (by rw [arm_eval_Attribute,hb])
end
noncomputable def Zj (K:PySem.W.Frag) (ta:TE) (f:Str):TE:=fun σ H Q=>ta σ H fun x H1=>∃ a C dx fs v,x=.ref a/\H1 a=some (.ins C dx fs)/\NQ K C/\CQ K C f/\fs.lookup f=some v/\Q v H1
noncomputable def lF (K:PySem.W.Frag) (ta tv:TE) (f:Str):TS:=fun D σ H=>tv σ H fun y H1=>ta σ H1 fun x H2=>∃ a C dx fs,x=.ref a/\H2 a=some (.ins C dx fs)/\NQ K C/\CQ K C f/\fs.length<1000 /\
 D.nx σ (upd H2 a (.ins C dx (BV f y fs)))
section
variable {X:Cx} {o e value:Expr} {f:Str} {pos pos' tpos:Pos} {ta tv:TE}
theorem Bh (he:PE X e ta) (hb:attributeBase e f X.env (eval e X.env)=eval e X.env):PE X (.Attribute e f pos) (Zj X.K ta f):=by
 intro pins s σ H Q I h
 refine WX hb (By (he pins s σ H _ I h) fun u s1 hq0=>?_)
 obtain ⟨x,H1,I1,rx,a,C,dx,fs,v,ex,ea,c,n,l,q⟩:=hq0
 subst ex
 obtain rfl:u=Value.ref a:=rx
 exact Om I1 ea c n l fun u' s2 I2 ru=>⟨v,H1,I2,ru,q⟩
theorem Cz (ha:PE X o ta) (hv:PE X value tv) (hs:swapsWith value (some (.Attribute o f pos')) pos.line X.env=pure false):PS X (.Assign [.Attribute o f pos'] value pos) (lF X.K ta tv f):=by
 intro pins s σ H D I h
 refine plainObj_wpAny_Assign_Attribute (By (hv pins s σ H _ I h) fun u s1 ⟨y,H1,I1,ry,q⟩=>By (ha pins s1 σ H1 _ I1 q) fun ov s2 ⟨x,H2,I2,rx,a,C,dx,fs,ex,ea,c,n,l,q2⟩=>?_) hs
 subst ex
 obtain rfl:ov=Value.ref a:=rx
 exact Oi I2 ea c n l ry fun s3 I3=>⟨σ,_,I3,q2⟩
end
section
variable {X:Cx} {pins:List (Addr × Obj)} {σ:St} {H:Hp} {s:Shared} {A:Around} {E:Value->Shared->Prop} {Q:Value->Shared->Prop} {c:Value} {b:Bool}
inductive Hk (K:PySem.W.Frag) (H:Hp):V->Value->Prop where
 | non:Hk K H .non (.type "NoneType")
 | bl (x:Bool):Hk K H (.bl x) (.type "bool")
 | int (i:Int):Hk K H (.int i) (.type "int")
 | str (x:Str):Hk K H (.str x) (.type "str")
 | flt (x:UInt64):Hk K H (.flt x) (.type "float")
 | lst {a:Addr} {xs:List V} (e:H a=some (.lst xs)):Hk K H (.ref a) (.type "list")
 | frz {a:Addr} {o:Obj} {xs:List V} (e:H a=some (.frz o (.lst xs))):Hk K H (.ref a) (.type "list")
 | tup {a:Addr} {xs:List V} (e:H a=some (.tup xs)):Hk K H (.ref a) (.type "tuple")
 | dK {a:Addr} {kvs:List (Key × V)} (e:H a=some (.dK kvs)):Hk K H (.ref a) (.type "dict")
 | dT {a:Addr} {kvs:List (List Key × V)} (e:H a=some (.dT kvs)):Hk K H (.ref a) (.type "dict")
 | ins {a C dx:Addr} {fs:List (Str × V)} (e:H a=some (.ins C dx fs)) (cl:NQ K C) (ha:PySem.W.findIn K (.ref C) "__class__" = some (some (.builtin "object.__class__")))
   (hn:PySem.W.specialIn K (.builtin "object.__class__") "__get__" = some (some (.builtin "getset_descriptor.__get__"))) (htk:PySem.W.takesIn K (.builtin "object.__class__")=some true)
   (hm:PySem.W.mroIn K C (.type "object")=some true):Hk K H (.ref a) (.ref C)
theorem Rq {x:V} {u t:Value} (I:Inv X pins σ H s) (rx:RelV x u) (ty:Hk X.K H x t) (e:PySem.W.kitOne X.K t c=some b) (h:∀ tk,Q (.bool b) { s with toks:=tk }) :
  wpAny (model X.prog X.w) A (call (.builtin "isinstance") [u,c]) Q E s:=by
 cases ty with
 | non=>cases (show u=Value.none from rx); exact PySem.W.kia_one PySem.W.kitx_none I.GJ True.intro e (fun z=>nomatch z) h
 | bl y=>cases (show u=Value.bool y from rx); exact PySem.W.kia_one PySem.W.kitx_bool I.GJ True.intro e (fun z=>nomatch z) h
 | int i=>obtain ⟨t,q⟩:=(show ∃ t,u=Value.int i t from rx); cases q; exact PySem.W.kia_one PySem.W.kitx_int I.GJ True.intro e (fun z=>nomatch z) h
 | str y=>obtain ⟨t,q⟩:=(show ∃ t,u=Value.str y t from rx); cases q; exact PySem.W.kia_one PySem.W.kitx_str I.GJ True.intro e (fun z=>nomatch z) h
 | flt y=>obtain ⟨t,q⟩:=(show ∃ t,u=Value.float y t from rx); cases q; exact PySem.W.kia_one PySem.W.kitx_float I.GJ True.intro e (fun z=>nomatch z) h
 | @lst a xs ea =>
  cases (show u=Value.ref a from rx)
  obtain ⟨_,_,n,_,h1⟩:=(show Bx X.prog X.w H s.heap a (.lst xs) from I.hok a _ ea)
  exact PySem.W.kia_one PySem.W.kitx_list I.GJ ⟨_,h1,rfl⟩ e (fun z=>nomatch z) h
 | @frz a ob xs ea =>
  cases (show u=Value.ref a from rx)
  obtain ⟨_,_,_,n,_,h1⟩:=(show Bx X.prog X.w H s.heap a (.frz ob (.lst xs)) from I.hok a _ ea)
  exact PySem.W.kia_one PySem.W.kitx_list I.GJ ⟨_,h1,rfl⟩ e (fun z=>nomatch z) h
 | @tup a xs ea =>
  cases (show u=Value.ref a from rx)
  obtain ⟨_,_,_,p⟩:=(show Bx X.prog X.w H s.heap a (.tup xs) from I.hok a _ ea)
  obtain ⟨o,h1,h2,_⟩:=p
  exact PySem.W.kia_one PySem.W.kitx_tuple I.GJ ⟨o,h1,h2⟩ e (fun z=>nomatch z) h
 | @dK a kvs ea =>
  cases (show u=Value.ref a from rx)
  obtain ⟨_,_,vs,_,p⟩:=(show Bx X.prog X.w H s.heap a (.dK kvs) from I.hok a _ ea)
  obtain ⟨o,es,ep,h1,h2,_⟩:=p
  exact PySem.W.kia_one PySem.W.kitx_dict I.GJ ⟨o,h1,h2.1⟩ e (fun z=>nomatch z) h
 | @dT a kvs ea =>
  cases (show u=Value.ref a from rx)
  obtain ⟨_,_,xs,_,o,es,ep,h1,h2,_⟩:=(show Bx X.prog X.w H s.heap a (.dT kvs) from I.hok a _ ea)
  exact PySem.W.kia_one PySem.W.kitx_dict I.GJ ⟨o,h1,h2.1⟩ e (fun z=>nomatch z) h
 | @ins a C dx fs ea cl ha hn htk hm =>
  cases (show u=Value.ref a from rx)
  obtain ⟨mA,O,_⟩:=Jv I.hok ea
  obtain ⟨od,J,_⟩:=O.look
  exact PySem.W.kia_one (PySem.W.kitx_own (cl.get _) cl.hd ha hn htk hm) I.GJ J e (fun z=>nomatch z) h
end
end L2
namespace L2
open PySem PySem.Spec PyProof.Rows
structure BX (k:Nat) (A:Around):Prop where
 hd:A.handled=none
 dp:A.depth+3 * k+5<recursionLimit
 un:A.units+16 * k+200<cLine
theorem BX.mono {j k:Nat} {A:Around} (r:BX k A) (h:j<=k):BX j A:=⟨r.hd,by have:=r.dp; omega,by have:=r.un; omega⟩
theorem BX.deeper {k:Nat} {A:Around} (r:BX (k+1) A) (env:Env):BX k (A.deeper env) :=
 ⟨r.hd,by have:=r.dp; show A.depth+1+3 * k+5<_; omega,by have:=r.un; show A.units+3+16 * k+200<_; omega⟩
theorem Ph {A:Around} {C:Addr} {us:List Value} {kw:List (Str × Value)}:(A.under (.builtin "type.__call__" ⟨.ref C::us,kw⟩)).depth=A.depth+1:=by
 first | rfl | simp [Around.under,Code.weight,Code.isCreation,Code.isGuard,Code.isCaller,Code.frames,Code.isFrame,guardIds]
theorem Ou {A:Around} {C:Addr} {us:List Value} {kw:List (Str × Value)}:(A.under (.builtin "type.__call__" ⟨.ref C::us,kw⟩)).units=A.units+1:=by
 first | rfl | simp [Around.under,Code.cUnits,Code.frames,Code.isFrame]
theorem BX.make {k:Nat} {A:Around} (r:BX (k+1) A) (C:Addr) (us:List Value) (kw:List (Str × Value)):BX k (A.under (.builtin "type.__call__" ⟨.ref C::us,kw⟩)) :=
 ⟨r.hd,by have:=r.dp; rw [Ph]; omega,by have:=r.un; rw [Ou]; omega⟩
theorem BX.depth {k:Nat} {A:Around} (r:BX k A):A.depth<recursionLimit:=by have:=r.dp; omega
theorem BX.units {k:Nat} {A:Around} (r:BX k A):A.units+64<cLine:=by have:=r.un; omega
noncomputable def gA:TA:=fun _ H Q=>Q [] H
noncomputable def XC (ta:TE) (tr:TA):TA:=fun σ H Q=>ta σ H fun x H1=>tr σ H1 fun xs H2=>Q (x::xs) H2
section
variable {X:Cx} {e:Expr} {es:List Expr} {te:TE} {t:TA} {pos:Pos}
theorem Aa:PA X [] gA:=fun _ _ _ _ H Q I h=>Calls.spliced_nil ⟨[],H,I,.nil,h⟩
theorem Ab (ha:PE X e te) (hr:PA X es t) (hs:starEach (e::es) X.env=(false,eval e X.env)::starEach es X.env:=by rfl):PA X (e::es) (XC te t):=by
 intro pos pins s σ H Q I h
 rw [hs]
 show wpAny _ _ (spliced ((false,eval e X.env)::backTo pos (starEach es X.env))) _ _ s
 refine Calls.spliced_cons (By (ha pins s σ H _ I h) fun u s1 hq0=>?_)
 obtain ⟨x,H1,I1,r1,q1⟩:=hq0
 exact By (hr pos pins s1 σ H1 _ I1 q1) fun us s2 ⟨xs,H2,I2,r2,q2⟩=>⟨x::xs,H2,I2,.cons r1 r2,q2⟩
noncomputable def mH (t:TA):TE:=fun σ H Q=>t σ H fun xs H1=>xs.length<=sizeLine/\∀ p,H1 p=none->Q (.ref p) (upd H1 p (.tup xs))
noncomputable def mZ (t:TA):TE:=fun σ H Q=>t σ H fun xs H1=>xs.length<=sizeLine/\∀ p,H1 p=none->Q (.ref p) (upd H1 p (.lst xs))
theorem Bt {x1} (h:PA X es t):PE X (.Tuple es x1 pos) (mH t):=by
 intro pins s σ H Q I hq
 refine wpAny_Tuple_spliced (By (h pos pins s σ H _ I hq) fun us s1 ⟨xs,H1,I1,r,z,q⟩=>⟨by rw [← r.length]; exact z,?_⟩)
 have hf:H1 s1.heap.objs.size=none:=I1.hok.fresh (Nat.le_refl _)
 refine ⟨.ref s1.heap.objs.size,upd H1 s1.heap.objs.size (.tup xs),I1.laid (t':=s1.toks) (fun b u e=>Heap.get?_push_of_some _ e) (Nat.le_refl _) ?_,rfl,q _ hf⟩
 exact ⟨z,us,r,⟨_,Heap.get?_push_size _ rfl,rfl,_,rfl⟩⟩
theorem Dz (h:PA X es t):PE X (.List es pos) (mZ t):=by
 intro pins s σ H Q I hq
 refine wpAny_List_spliced (By (h pos pins s σ H _ I hq) fun us s1 ⟨xs,H1,I1,r,z,q⟩=>⟨by rw [← r.length]; exact z,?_⟩)
 have hf:H1 s1.heap.objs.size=none:=I1.hok.fresh (Nat.le_refl _)
 refine ⟨.ref s1.heap.objs.size,upd H1 s1.heap.objs.size (.lst xs),I1.laid (t':=s1.toks) (fun b u e=>Heap.get?_push_of_some _ e) (Nat.le_refl _) ?_,rfl,q _ hf⟩
 exact ⟨z,us,0,r,Heap.get?_push_size _ rfl⟩
end
noncomputable abbrev Sp:=List V->Hp->VK->XK->Prop
noncomputable abbrev Mw:=List Env->Hp->Shared->XK->Value->Shared->Prop
structure Mh (P:Program) (w:World) (K:PySem.W.Frag) (mg:Str->Option Value) (base:Heap) (A:Around) (outer:List Env) (s:Shared) (H:Hp):Prop where
 frames:A.frames=some outer
 mod:Mod K mg base
 bs:∀ b o,base.get? b=some o->s.heap.get? b=some o/\H b=none
 bsz:base.objs.size<=s.heap.objs.size
 Hu:s.heap.FunFrames base outer
 frf:∀ b∈frs outer,H b=none
 hok:Ei P w H s.heap
 bare:AllBare s.gens
noncomputable def CE (outer:List Env) (P:Program) (w:World) (H:Hp) (s:Shared) (Q:VK) (u:Value) (s':Shared):Prop :=
 ∃ v H',s'.os=s.os/\AllBare s'.gens/\Un (frs outer) [] H H' s.heap s'.heap/\Ei P w H' s'.heap/\RelV v u/\Q v H'
noncomputable def CR (CX:Mw) (outer:List Env) (P:Program) (w:World) (H:Hp) (s:Shared) (Q:VK) (E:XK) (r:Result) (s':Shared):Prop :=
 match r with
 | .ok (.ret u)=>CE outer P w H s Q u s'
 | .ok _=>False
 | .error e=>CX outer H s E e s'
structure Aw (P:Program) (w:World) (K:PySem.W.Frag) (mg:Str->Option Value) (base:Heap) (CX:Mw) (k:Nat) (f:Addr) (fd:FuncData) (ps:List Str) (sp:Sp):Prop where
 len:∀ vs H Q E,sp vs H Q E->vs.length=ps.length
 run:∀ (A:Around) (outer:List Env) (s:Shared) (H:Hp) (args:Args) (us:List Value) (vs:List V) (Q:VK) (E:XK),BX k A->Mh P w K mg base A outer s H->BindsTo s fd args (ps.zip us)->Vals vs us->sp vs H Q E ->
  codeAny (model P w) A (.call (.ref f) args) (CR CX outer P w H s Q E) s
theorem Mh.make {P:Program} {w:World} {K:PySem.W.Frag} {mg:Str->Option Value} {base:Heap} {A:Around} {outer:List Env} {s:Shared} {H:Hp} (e:Mh P w K mg base A outer s H) (C:Addr) (us:List Value) (kw:List (Str × Value)) :
  Mh P w K mg base (A.under (.builtin "type.__call__" ⟨.ref C::us,kw⟩)) outer s H:=⟨by first | exact e.frames | (simpa [Around.under,Code.envs,Code.isFrame,pushEnvs] using e.frames),e.mod,e.bs,e.bsz,e.Hu,e.frf,e.hok,e.bare⟩
section
variable {X:Cx} {pins:List (Addr × Obj)} {σ:St} {H:Hp} {s s':Shared}
theorem Inv.env0 (I:Inv X pins σ H s):Mh X.prog X.w X.K X.mg X.base X.A X.stack s H :=
 ⟨I.ok.frames,I.ok.mod,I.bs,Nat.le_trans I.ok.bsz I.sz,I.stack,I.HH,I.hok,I.bare⟩
theorem Inv.after {Q:VK} {u:Value} (I:Inv X pins σ H s) (h:CE X.stack X.prog X.w H s Q u s'):EP X pins σ Q u s':=by
 obtain ⟨v,H',os,bare,un,hok,r,q⟩:=h
 obtain ⟨hh,g,d,t,os'⟩:=s'
 obtain rfl:os'=s.os:=os
 exact ⟨v,H',I.call (h':=hh) (g':=g) (d':=d) (t':=t) (ch:=[]) un hok bare (fun b z=>absurd z (by simp)),r,q⟩
end
noncomputable def Ub (sp:Sp) (dvs:List V) (E:XK) (t:TA):TE:=fun σ H Q=>t σ H fun vs H1=>sp (vs++dvs) H1 Q E
noncomputable def Ue (C:Addr) (m:Str) (sp:Sp) (dvs:List V) (E:XK) (ta:TE) (t:TA):TE:=fun σ H Q=>ta σ H fun x H1=>∃ a dx fs,x=.ref a/\H1 a=some (.ins C dx fs)/\fs.lookup m=none /\
 t σ H1 fun vs H2=>sp (x::(vs++dvs)) H2 Q E
noncomputable def cU (C:Addr) (sp:Sp) (dvs:List V) (E:XK) (t:TA):TE:=fun σ H Q=>t σ H fun vs H1=>∀ x dx,H1 x=none->H1 dx=none->dx ≠ x ->
 sp (.ref x::(vs++dvs)) (upd (upd H1 dx (.own x)) x (.ins C dx [])) (fun v H2=>v=.non/\Q (.ref x) H2) E
noncomputable def Binds (K:PySem.W.Frag) (fd:FuncData) (ps:List Str) (ds:List Value):Prop :=
 ∀ (s:Shared) (us:List Value),K.In s.heap->(us++ds).length=ps.length->BindsTo s fd ⟨us,[]⟩ (ps.zip (us++ds))
theorem Binds.all {K:PySem.W.Frag} {fd:FuncData} {ps:List Str} (h:∀ us:List Value,us.length=ps.length->bindArgs fd ⟨us,[]⟩=pure (ps.zip us)):Binds K fd ps []:=fun s us _ hl=>by
 rw [List.append_nil] at hl ⊢
 exact .of_eq (h us hl)
noncomputable def Ek (CX:Mw) (X:Cx) (E:XK):Prop:=∀ (pins:List (Addr × Obj)) (σ:St) (H:Hp) (s:Shared) (e:Value) (s':Shared),Inv X pins σ H s->CX X.stack H s E e s'->X.xe e s'
section
variable {X:Cx} {CX:Mw} {k:Nat} {f C:Addr} {fd:FuncData} {ps:List Str} {sp:Sp} {dvs:List V} {ds:List Value} {E:XK} {x m:Str} {p pos apos:Pos} {e o:Expr} {es:List Expr} {ta:TE} {t:TA}
theorem JK {pins:List (Addr × Obj)} {σ:St} {H:Hp} {s:Shared} {Q:VK} {us:List Value} {vs:List V} (F:Aw X.prog X.w X.K X.mg X.base CX k f fd ps sp) (hr:BX k X.A) (hb:Binds X.K fd ps ds) (hd:Vals dvs ds) (hx:Ek CX X E)
  (I:Inv X pins σ H s) (r:Vals vs us) (h:sp (vs++dvs) H Q E):wpAny (model X.prog X.w) X.A (call (.ref f) us) (EP X pins σ Q) X.xe s:=by
 have r2:Vals (vs++dvs) (us++ds):=r.append hd
 have hl:(us++ds).length=ps.length:=by rw [← r2.length]; exact F.len _ _ _ _ h
 refine wpAny_call (codeAny_mono (F.run X.A X.stack s H ⟨us,[]⟩ (us++ds) (vs++dvs) Q E hr I.env0 (hb s us I.GJ hl) r2 h) fun r s' hq=>?_)
 cases r with
 | error e=>exact hx pins σ H s e s' I hq
 | ok fl =>
  cases fl with
  | ret u=>exact I.after hq
  | next=>exact False.elim hq
  | brk=>exact False.elim hq
  | cont=>exact False.elim hq
theorem Al (F:Aw X.prog X.w X.K X.mg X.base CX k f fd ps sp) (hr:BX k X.A) (hg:Gl X x) (hm:X.mg x=some (.ref f)) (hk:PySem.W.keepIn X.K (.ref f)=true) (hb:Binds X.K fd ps ds) (hd:Vals dvs ds) (hx:Ek CX X E)
  (ha:PA X (e::es) t) (hdb:(x == ("__debug__" : Str))=false:=by decide) (he:starEach (e::es) X.env=(false,eval e X.env)::starEach es X.env:=by rfl) (hpl:(backTo pos (starEach es X.env)).any (·.1)=false:=by rfl) :
  PE X (.Call (.Name x p) (e::es) [] pos) (Ub sp dvs E t):=by
 intro pins s σ H Q I h
 refine wpAny_Call_Name_kw (HS I hg hm ?_ hdb)
 refine PySem.W.callWith_K (h₀:=X.base) I.ok.mod.kin hk (By (ha pos pins s σ H _ I h) fun us s1 ⟨vs,H1,I1,r,q⟩=>⟨I1.GJ,?_⟩) he hpl
 exact JK F hr hb hd hx I1 r q
theorem FN {pl:Sem Bool} (he:PE X o ta) (c:NQ X.K C) (hm:Meth X.K C m f) (F:Aw X.prog X.w X.K X.mg X.base CX k f fd ps sp) (hr:BX k X.A) (hb:Binds X.K fd ps ds) (hd:Vals dvs ds) (hx:Ek CX X E) (ha:PA X (e::es) t)
  (hst:starEach (e::es) X.env=(false,eval e X.env)::starEach es X.env:=by rfl) (hpl:(backTo pos (starEach es X.env)).any (·.1)=false:=by rfl)
  (ht:eval (.Call (.Attribute o m apos) (e::es) [] pos) X.env=(do
   let ov ← eval o X.env
   standAt apos.atName
   let (f,first) ← holding [ov] (getMethod ov m pl)
   callWith pos f first (backTo pos (starEach (e::es) X.env)) (backToKw pos (keywordEach [] X.env))):=by rfl) :
  PE X (.Call (.Attribute o m apos) (e::es) [] pos) (Ue C m sp dvs E ta t):=by
 intro pins s σ H Q I h
 refine PySem.W.methodCall_KW (pl:=pl) (By (he pins s σ H _ I h) fun u s1 ⟨x,H1,I1,rx,a,dx,fs,ex,ea,l,q⟩=>?_) ht
 subst ex
 obtain rfl:u=Value.ref a:=rx
 refine Ex I1 ea c hm l ?_
 refine PySem.W.callWith_K (first:=[.ref a]) (h₀:=X.base) I.ok.mod.kin hm.kp (By (ha pos pins s1 σ H1 _ I1 q) fun us s2 ⟨vs,H2,I2,r,q2⟩=>⟨I2.GJ,?_⟩) hst hpl
 exact JK (us:=.ref a::us) (vs:=.ref a::vs) F hr hb hd hx I2 (.cons rfl r) q2
theorem CW {pl:Sem Bool} (he:PE X o ta) (c:NQ X.K C) (hm:Meth X.K C m f) (F:Aw X.prog X.w X.K X.mg X.base CX k f fd ps sp) (hr:BX k X.A) (hb:Binds X.K fd ps ds) (hd:Vals dvs ds) (hx:Ek CX X E)
  (ht:eval (.Call (.Attribute o m apos) [] [] pos) X.env=(do
   let ov ← eval o X.env
   standAt apos.atName
   let (f,first) ← holding [ov] (getMethod ov m pl)
   callWith pos f first (backTo pos (starEach [] X.env)) (backToKw pos (keywordEach [] X.env))):=by rfl) :
  PE X (.Call (.Attribute o m apos) [] [] pos) (Ue C m sp dvs E ta gA):=by
 intro pins s σ H Q I h
 refine PySem.W.methodCall_KW (pl:=pl) (By (he pins s σ H _ I h) fun u s1 ⟨x,H1,I1,rx,a,dx,fs,ex,ea,l,q⟩=>?_) ht
 subst ex
 obtain rfl:u=Value.ref a:=rx
 refine Ex I1 ea c hm l ?_
 exact PySem.W.callWith_K0 (first:=[.ref a]) I1.GJ hm.kp (JK (us:=[.ref a]) (vs:=[.ref a]) F hr hb hd hx I1 (.cons rfl .nil) q)
structure Mk (K:PySem.W.Frag) (C f:Addr):Prop where
 makes:PySem.W.makesIn K C=true
 init:PySem.W.findIn K (.ref C) "__init__" = some (some (.ref f))
 fn:PySem.W.isFn K (.ref f)=true
 kp:PySem.W.keepIn K (.ref C)=true
theorem VF {pins:List (Addr × Obj)} {σ:St} {H:Hp} {s:Shared} {Q:VK} {us:List Value} {vs:List V} (M:Mk X.K C f) (F:Aw X.prog X.w X.K X.mg X.base CX k f fd ps sp) (hr:BX (k+1) X.A) (hb:Binds X.K fd ps ds) (hd:Vals dvs ds)
  (hx:Ek CX X E) (I:Inv X pins σ H s) (r:Vals vs us)
  (h:∀ x dx,H x=none->H dx=none->dx ≠ x->sp (.ref x::(vs++dvs)) (upd (upd H dx (.own x)) x (.ins C dx [])) (fun v H2=>v=.non/\Q (.ref x) H2) E) :
  wpAny (model X.prog X.w) X.A (call (.ref C) us) (EP X pins σ Q) X.xe s:=by
 have hq:=h (s.heap.objs.size+1) s.heap.objs.size (I.hok.fresh (Nat.le_succ _)) (I.hok.fresh (Nat.le_refl _)) (Nat.ne_of_lt (Nat.lt_succ_self _))
 have I2:=Inv.made (C:=C) I
 have r2:Vals (V.ref (s.heap.objs.size+1)::(vs++dvs)) (Value.ref (s.heap.objs.size+1)::(us++ds)):=.cons rfl (r.append hd)
 have hl:(Value.ref (s.heap.objs.size+1)::us++ds).length=ps.length:=by
  have e:=r2.length
  rw [F.len _ _ _ _ hq] at e
  exact e.symm
 refine wpAny_call (Tc (f:=f) I.GJ M.makes M.init (beq_iff_eq.mp M.fn) (codeAny_mono (F.run _ X.stack _ _ ⟨Value.ref (s.heap.objs.size+1)::us,[]⟩ (Value.ref (s.heap.objs.size+1)::(us++ds)) _ _ E (hr.make C us [])
  (I2.env0.make C us []) (hb _ (Value.ref (s.heap.objs.size+1)::us) I2.GJ hl) r2 hq) fun r s' hq'=>?_))
 cases r with
 | error e=>exact hx pins σ _ _ e s' I2 hq'
 | ok fl =>
  cases fl with
  | ret u =>
   obtain ⟨v,H',I3,rv,ev,q3⟩:=I2.after hq'
   subst ev
   exact ⟨rv,⟨V.ref (s.heap.objs.size+1),H',I3,rfl,q3⟩⟩
  | next=>exact False.elim hq'
  | brk=>exact False.elim hq'
  | cont=>exact False.elim hq'
theorem Jw (M:Mk X.K C f) (F:Aw X.prog X.w X.K X.mg X.base CX k f fd ps sp) (hr:BX (k+1) X.A) (hg:Gl X x) (hm:X.mg x=some (.ref C)) (hb:Binds X.K fd ps ds) (hd:Vals dvs ds) (hx:Ek CX X E)
  (ha:PA X (e::es) t) (hdb:(x == ("__debug__" : Str))=false:=by decide) (he:starEach (e::es) X.env=(false,eval e X.env)::starEach es X.env:=by rfl) (hpl:(backTo pos (starEach es X.env)).any (·.1)=false:=by rfl) :
  PE X (.Call (.Name x p) (e::es) [] pos) (cU C sp dvs E t):=by
 intro pins s σ H Q I h
 refine wpAny_Call_Name_kw (HS I hg hm ?_ hdb)
 refine PySem.W.callWith_K (h₀:=X.base) I.ok.mod.kin M.kp (By (ha pos pins s σ H _ I h) fun us s1 ⟨vs,H1,I1,r,q⟩=>⟨I1.GJ,?_⟩) he hpl
 exact VF M F hr hb hd hx I1 r q
end
section
variable {X:Cx} {CX:Mw} {k:Nat} {f C:Addr} {fd:FuncData} {ps ks:List Str} {sp:Sp} {E:XK} {x m:Str} {p pos apos kpos:Pos} {e o:Expr} {es:List Expr} {kws:List Keyword} {te ta:TE} {t tk:TA} {nm:Option Str}
variable {g:List Value->List Value->List Value} {gV:List V->List V->List V}
end
structure Ao (N P:List Str) (sc:Scope):Prop where
 kind:sc.kind=.function
 co:sc.isCoroutine=false
 gen:sc.isGenerator=false
 nd:N.Nodup
 pre:N.take P.length=P
 par:∀ x∈P,sc.names.lookup x=some .local \/ sc.names.lookup x=some .cell
 nofree:∀ y∈sc.names,y.2 ≠ .free
theorem Bm {N P:List Str} {sc:Scope} (a:sc.kind=.function:=by rfl) (b:sc.isCoroutine=false:=by rfl) (c:sc.isGenerator=false:=by rfl) (d:N.Nodup:=by decide +kernel) (e:N.take P.length=P:=by rfl) (f:∀ x∈P,sc.names.lookup x=some .local \/ sc.names.lookup x=some .cell:=by decide +kernel) (g:∀ y∈sc.names,y.2 ≠ .free:=by decide +kernel):Ao N P sc:=⟨a,b,c,d,e,f,g⟩
theorem LC {kindOf:Str->Option NameKind} {x:Str}:∀ {binds:List (Str × Value)} {m:Str->Option Value},(∀ v,(x,v) ∉ binds)->bindL kindOf binds m x=m x
 | [],_,_=>rfl
 | (n,v)::r,m,h=>by
  unfold bindL
  rw [LC fun w hw=>h w (List.mem_cons_of_mem _ hw)]
  split
  ·have:x ≠ n:=by rintro rfl; exact h v List.mem_cons_self
   simp [this]
  ·rfl
theorem La {kindOf:Str->Option NameKind} {x:Str}:∀ {binds:List (Str × Value)} {m:Str->Option Value},(∀ v,(x,v) ∉ binds)->bindC kindOf binds m x=m x
 | [],_,_=>rfl
 | (n,v)::r,m,h=>by
  unfold bindC
  rw [La fun w hw=>h w (List.mem_cons_of_mem _ hw)]
  split
  ·rfl
  ·have:x ≠ n:=by rintro rfl; exact h v List.mem_cons_self
   simp [this]
theorem K_ {kindOf:Str->Option NameKind} {x:Str} {v:Value}:∀ {P:List Str} {vs:List Value} {i:Nat} {m:Str->Option Value},P.Nodup->P[i]? = some x->vs[i]? = some v->kindOf x=some .local ->
  bindL kindOf (P.zip vs) m x=some v
 | [],_,_,_,_,h,_,_=>by simp at h
 | _::_,[],_,_,_,_,h,_=>by simp at h
 | p::P,w::vs,0,m,nd,h1,h2,hk=>by
  simp at h1 h2; subst h1; subst h2
  show bindL kindOf ((p,w)::P.zip vs) m p=_
  unfold bindL
  rw [LC fun v hv=>(List.nodup_cons.mp nd).1 (List.of_mem_zip hv).1,if_pos hk]
  simp
 | p::P,w::vs,i+1,m,nd,h1,h2,hk=>by
  show bindL kindOf ((p,w)::P.zip vs) m x=_
  unfold bindL
  exact K_ (i:=i) (List.nodup_cons.mp nd).2 (by simpa using h1) (by simpa using h2) hk
theorem Kp {kindOf:Str->Option NameKind} {x:Str} {v:Value}:∀ {P:List Str} {vs:List Value} {i:Nat} {m:Str->Option Value},P.Nodup->P[i]? = some x->vs[i]? = some v->kindOf x ≠ some .local ->
  bindC kindOf (P.zip vs) m x=some v
 | [],_,_,_,_,h,_,_=>by simp at h
 | _::_,[],_,_,_,_,h,_=>by simp at h
 | p::P,w::vs,0,m,nd,h1,h2,hk=>by
  simp at h1 h2; subst h1; subst h2
  show bindC kindOf ((p,w)::P.zip vs) m p=_
  unfold bindC
  rw [La fun v hv=>(List.nodup_cons.mp nd).1 (List.of_mem_zip hv).1,if_neg hk]
  simp
 | p::P,w::vs,i+1,m,nd,h1,h2,hk=>by
  show bindC kindOf ((p,w)::P.zip vs) m x=_
  unfold bindC
  exact Kp (i:=i) (List.nodup_cons.mp nd).2 (by simpa using h1) (by simpa using h2) hk
noncomputable def start (N:List Str) (vs:List V):St:=vs.map some++List.replicate (N.length - vs.length) none
noncomputable def Jk (CX:Mw) (P:Program) (w:World) (K:PySem.W.Frag) (mg:Str->Option Value) (base:Heap) (N:List Str) (qual:Str) (scope:Scope) (f:Addr) (cd:Value) (A:Around) (outer:List Env) (s:Shared) (H:Hp) (E:XK):Cx where
 prog:=P
 w:=w
 K:=K
 mg:=mg
 base:=base
 A:=A.deeper (envOfC qual scope s.heap.objs.size f cd)
 N:=N
 s₀:=s
 H₀:=H
 env:=envOfC qual scope s.heap.objs.size f cd
 outer:=outer
 stack:=envOfC qual scope s.heap.objs.size f cd::outer
 ex:=[]
 calm:=true
 fn:=fun _=>true
 pn:=[]
 xe:=fun e s'=>wpAny (model P w) (A.deeper (envOfC qual scope s.heap.objs.size f cd)) (leaving (envOfC qual scope s.heap.objs.size f cd) e) (fun _ s''=>CX outer H s E e s'') (fun e' s''=>CX outer H s E e' s'') s'
theorem Nx {sc:Scope} {n:Nat} {x:Str} (h:sc.names.lookup x=some .cell):∃ c,(cellsFrom n sc.names []).lookup x=some c:=by
 have q:=PySem.W.cellsFrom_some sc.names n [] (.inl h)
 exact Option.isSome_iff_exists.mp q
theorem Le {CX:Mw} {P:Program} {w:World} {K:PySem.W.Frag} {mg:Str->Option Value} {base:Heap} {N ps:List Str} {qual:Str} {scope:Scope} {f:Addr} {cd:Value} {A:Around} {outer:List Env} {s s1:Shared} {H:Hp} {E:XK} {us:List Value} {vs:List V}
  (S:Ao N ps scope) (hd:A.handled=none) (e0:Mh P w K mg base A outer s H) (hl:vs.length=ps.length) (r:Vals vs us)
  (x:InCallC s s.heap.objs.size (bindL (envOfC qual scope s.heap.objs.size f cd).kindOf (ps.zip us) fun _=>none) (cellsFrom (s.heap.objs.size+1) scope.names []) (bindC (envOfC qual scope s.heap.objs.size f cd).kindOf (ps.zip us) fun _=>none) s1) :
  Inv (Jk CX P w K mg base N qual scope f cd A outer s H E) [] (start N vs) H s1:=by
 have hpl:ps.length<=N.length:=by have:=congrArg List.length S.pre; rw [List.length_take] at this; omega
 obtain ⟨h1,tk,rfl,hk⟩:=x.done
 have noA:∀ b:Addr,b ∉ (Jk CX P w K mg base N qual scope f cd A outer s H E).ex:=fun b z=>absurd (show b∈([]:List Addr) from z) (by simp)
 refine ⟨⟨e0.mod,S.kind,rfl,rfl,Nat.le_refl _,fun y z c h1 h2=>?_,fun y hy=>?_,fun y c _ h=>?_,fun _=>hd,Around.frames_deeper e0.frames,.inr ⟨rfl,rfl⟩,fun b z=>absurd z (noA b),e0.bs,e0.bsz,fun b _ _=>noA b,fun b z=>absurd z (noA b),e0.Hu,e0.frf⟩,
  rfl,e0.bare,Un.kept hk,⟨_,x.toInCall.ns,fun i y v h1 h2 h3=>?_⟩,fun y c h=>⟨_,x.cell y c h⟩,e0.hok.fresh (Nat.le_refl _),fun y c h=>?_,fun p hp=>absurd (show p∈([]:List (Addr × Obj)) from hp) (by simp),e0.hok.kept hk,?_⟩
 ·exact name_of_addr x.apart (PySem.mem_of_lookup h1) (PySem.mem_of_lookup h2)
 ·have hy:scope.names.lookup y=some .cell \/ scope.names.lookup y=some .free:=hy
  rcases hy with hy | hy
  ·exact Nx hy
  ·exact absurd rfl (S.nofree _ (PySem.mem_of_lookup hy))
 ·exact Nat.le_of_lt (x.above y c (PySem.mem_of_lookup h))
 ·have hi:i<vs.length:=by
   unfold start at h2
   by_cases hi:i<vs.length
   ·exact hi
   ·rw [List.getElem?_append_right (by simpa using hi)] at h2
    rw [List.getElem?_replicate] at h2
    split at h2 <;> cases h2
  have ha:vs[i]? = some v:=by
   unfold start at h2
   rw [List.getElem?_append_left (by simpa using hi),List.getElem?_map] at h2
   cases e:vs[i]? with
   | none=>rw [e] at h2; cases h2
   | some a=>rw [e] at h2; cases h2; rfl
  obtain ⟨u,hu,rv⟩:=r.get ha
  have hp:ps[i]? = some y:=by
   rw [← S.pre,List.getElem?_take_of_lt (by omega)]; exact h1
  have ndP:ps.Nodup:=by rw [← S.pre]; exact S.nd.sublist (List.take_sublist _ _)
  refine ⟨u,rv,?_⟩
  rcases S.par y (List.mem_of_getElem? hp) with k | k
  ·exact .inl ⟨k,K_ ndP hp hu k⟩
  ·obtain ⟨c,e⟩:=Nx (n:=s.heap.objs.size+1) k
   refine .inr ⟨.inl k,c,e,?_⟩
   have q:=x.cell y c e
   rw [Kp ndP hp hu (by show scope.names.lookup y ≠ _; rw [k]; decide)] at q
   exact q
 ·exact e0.hok.fresh (Nat.le_of_lt (x.above y c (PySem.mem_of_lookup h)))
 ·unfold start
  show _=N.length
  rw [List.length_append,List.length_map,List.length_replicate]
  omega
theorem Ux {CX:Mw} {P:Program} {w:World} {K:PySem.W.Frag} {mg:Str->Option Value} {base:Heap} {k:Nat} {f:Addr} {name qual:Str} {params:Arguments} {body:List Stmt} {scope:Scope} {dV kV doc pm cdv ct oc:Value} {an od:Option Addr}
  {osl:Array (Option Value)} {N ps:List Str} {sp:Sp} (lk:K.lookup f=some ⟨oc,od,.func (PySem.W.fnOf name qual params body scope dV kV doc pm an cdv ct),osl⟩) (hcd:PySem.W.codeIn K cdv qual=true) (S:Ao N ps scope)
  (len:∀ vs H Q E,sp vs H Q E->vs.length=ps.length)
  (hbody:∀ (A:Around) (outer:List Env) (s:Shared) (H:Hp) (vs:List V) (Q:VK) (E:XK),BX k (A.deeper (envOfC qual scope s.heap.objs.size f cdv))->sp vs H Q E ->
   ∃ t,Mj (Jk CX P w K mg base N qual scope f cdv A outer s H E) body t/\t { nx:=fun _ H'=>Q .non H',rt:=Q } (start N vs) H) :
  Aw P w K mg base CX (k+1) f (PySem.W.fnOf name qual params body scope dV kV doc pm an cdv ct) ps sp:=by
 refine ⟨len,fun A outer s H args us vs Q E hr e0 hb r hsp=>?_⟩
 have hl:=len _ _ _ _ hsp
 have KX:K.In s.heap:=e0.mod.kin.keeps fun b o e=>(e0.bs b o e).1
 have lim:s.heap.NoLimit:=e0.mod.nolimit.keeps fun b o e=>(e0.bs b o e).1
 have hkind:∀ y∈ps.zip us,scope.names.lookup y.1=some .local \/ (scope.names.lookup y.1=some .cell/\((cellsFrom (s.heap.objs.size+1) scope.names []).lookup y.1).isSome=true):=fun ⟨n,v⟩ hy=>by
  rcases S.par n (List.of_mem_zip hy).1 with q | q
  ·exact .inl q
  ·exact .inr ⟨q,PySem.W.cellsFrom_some _ _ _ (.inl q)⟩
 refine codeAny_call_function hr.depth (KX _ _ lk) rfl S.co S.gen rfl (PySem.W.codeRec_of KX hcd) (hb _ _ _ _ ?_)
 refine wpAny_newFunctionEnv_cells S.kind hkind fun env he s1 x=>?_
 subst he
 refine ⟨lim.keeps x.toInCall.keep,codeAny_func ?_⟩
 obtain ⟨t,ht,hq⟩:=hbody A outer s H vs Q E (hr.deeper _) hsp
 have I:Inv (Jk CX P w K mg base N qual scope f cdv A outer s H E) [] (start N vs) H s1:=Le S hr.hd e0 hl r x
 refine wpAny_mono (ht [] s1 (start N vs) H _ I hq) (fun fl s' hs=>?_) fun e s' hs=>hs
 have fin:∀ {σ':St} {H':Hp} {v:V} {u:Value},Inv (Jk CX P w K mg base N qual scope f cdv A outer s H E) [] σ' H' s'->RelV v u->Q v H'->CE outer P w H s Q u s' :=
  fun {σ' H' v u} J rv q=>⟨v,H',J.os,J.bare,J.base,J.hok,rv,q⟩
 cases fl with
 | ret u =>
  obtain ⟨v,σ',H',J,rv,q⟩:=hs
  exact fin J rv q
 | next =>
  obtain ⟨σ',H',J,q⟩:=hs
  exact fin (v:=V.non) (u:=Value.none) J rfl q
 | brk =>
  obtain ⟨_,_,_,q⟩:=hs
  exact False.elim q
 | cont =>
  obtain ⟨_,_,_,q⟩:=hs
  exact False.elim q
end L2
namespace L2
open PySem PySem.Spec PyProof.Rows
section
variable {X:Cx} {x:Str} {p pos:Pos} {e:Expr} {es:List Expr} {t:TA} {id T:String} {r:List V->Hp->VK->Prop}
noncomputable def oO (r:List V->Hp->VK->Prop) (t:TA):TE:=fun σ H Q=>t σ H fun vs H1=>r vs H1 Q
theorem BK (hc:Em X (.builtin id) r) (hg:Gl X x) (hm:X.mg x=none) (hv:bootBuiltins x=some (.builtin id)) (ha:PA X (e::es) t) (hn:x ≠ "__name__":=by decide) (hdb:(x == ("__debug__" : Str))=false:=by decide)
  (he:starEach (e::es) X.env=(false,eval e X.env)::starEach es X.env:=by rfl) (hpl:(backTo pos (starEach es X.env)).any (·.1)=false:=by rfl):PE X (.Call (.Name x p) (e::es) [] pos) (oO r t):=by
 intro pins s σ H Q I h
 refine wpAny_Call_Name_kw (Ht I hg hm hv ?_ hn hdb)
 exact PyProof.Rows.callWith_builtin1 (By (ha pos pins s σ H _ I h) fun us s1 ⟨vs,H1,I1,r1,q1⟩=>hc pins s1 σ H1 vs us Q I1 r1 q1) he hpl
theorem HD (hc:Em X (.type T) r) (hg:Gl X x) (hm:X.mg x=none) (hv:bootBuiltins x=some (.type T)) (ha:PA X (e::es) t) (hn:x ≠ "__name__":=by decide) (hdb:(x == ("__debug__" : Str))=false:=by decide)
  (he:starEach (e::es) X.env=(false,eval e X.env)::starEach es X.env:=by rfl) (hpl:(backTo pos (starEach es X.env)).any (·.1)=false:=by rfl):PE X (.Call (.Name x p) (e::es) [] pos) (oO r t):=by
 intro pins s σ H Q I h
 refine wpAny_Call_Name_kw (Ht I hg hm hv ?_ hn hdb)
 exact PyProof.Rows.callWith_type1 (By (ha pos pins s σ H _ I h) fun us s1 ⟨vs,H1,I1,r1,q1⟩=>hc pins s1 σ H1 vs us Q I1 r1 q1) he hpl
end
end L2
namespace L2
open PySem PySem.Spec PyProof.Rows
section
variable {κ:Type} [DecidableEq κ]
noncomputable def CV (kvs:List (κ × V)) (k:κ):Option V:=(kvs.find? fun kv=>decide (kv.1=k)).map (·.2)
noncomputable def putK (kvs:List (κ × V)) (k:κ) (v:V):List (κ × V) :=
 if (kvs.any fun kv=>decide (kv.1=k))=true then kvs.map (fun kv=>if kv.1=k then (kv.1,v) else kv) else kvs++[(k,v)]
noncomputable def oE (kvs:List (κ × V)) (k:κ):List (κ × V):=kvs.filter fun kv=>decide (kv.1 ≠ k)
theorem M_ {k:κ}:CV ([]:List (κ × V)) k=none:=rfl
theorem Dj {p:κ × V} {r:List (κ × V)} {k:κ} (e:p.1=k):CV (p::r) k=some p.2:=by simp [CV,List.find?_cons,e]
theorem Di {p:κ × V} {r:List (κ × V)} {k:κ} (e:¬ p.1=k):CV (p::r) k=CV r k:=by simp [CV,List.find?_cons,e]
theorem Ik (k:κ):∀ kvs:List (κ × V),(kvs.any fun kv=>decide (kv.1=k))=(CV kvs k).isSome
 | []=>rfl
 | p::r=>by
  rw [List.any_cons]
  by_cases e:p.1=k
  ·simp only [Dj e,decide_eq_true e,Bool.true_or,Option.isSome_some]
  ·rw [Di e,decide_eq_false e,Bool.false_or]; exact Ik k r
theorem Nq (k j:κ) (y:V):∀ kvs:List (κ × V),CV (kvs.map fun kv=>if kv.1=k then (kv.1,y) else kv) j=(CV kvs j).map fun x=>if j=k then y else x
 | []=>rfl
 | p::r=>by
  have ih:=Nq k j y r
  rw [List.map_cons]
  by_cases h:p.1=k
  ·rw [if_pos h]
   by_cases e:p.1=j
   ·rw [Dj (p:=(p.1,y)) e,Dj e,Option.map_some,if_pos (e.symm.trans h)]
   ·rw [Di (p:=(p.1,y)) e,Di e,ih]
  ·rw [if_neg h]
   by_cases e:p.1=j
   ·rw [Dj (p:=p) e,Dj e,Option.map_some,if_neg (fun z=>h (e.trans z))]
   ·rw [Di (p:=p) e,Di e,ih]
theorem Kr (k j:κ) (y:V):∀ kvs:List (κ × V),CV kvs k=none->CV (kvs++[(k,y)]) j=if j=k then some y else CV kvs j
 | [],_=>by
  by_cases e:k=j
  ·rw [if_pos e.symm]; exact Dj (p:=(k,y)) e
  ·rw [if_neg (fun z=>e z.symm)]; exact Di (p:=(k,y)) e
 | p::r,hn=>by
  rw [List.cons_append]
  have hk:¬ p.1=k:=fun z=>by rw [Dj z] at hn; cases hn
  rw [Di hk] at hn
  have ih:=Kr k j y r hn
  by_cases e:p.1=j
  ·rw [Dj e,Dj e,if_neg (fun z=>hk (e.trans z))]
  ·rw [Di e,Di e,ih]
theorem Ew (kvs:List (κ × V)) (k j:κ) (y:V):CV (putK kvs k y) j=if j=k then some y else CV kvs j:=by
 unfold putK
 by_cases a:(kvs.any fun kv=>decide (kv.1=k))=true
 ·rw [if_pos a,Nq]
  rw [Ik] at a
  by_cases e:j=k
  ·obtain ⟨x,hx⟩:=Option.isSome_iff_exists.mp a
   rw [if_pos e,e,hx,Option.map_some,if_pos rfl]
  ·rw [if_neg e]
   cases CV kvs j with
   | none=>rfl
   | some x=>rw [Option.map_some,if_neg e]
 ·rw [if_neg a]
  refine Kr k j y kvs ?_
  rw [Ik] at a
  cases q:CV kvs k with
  | none=>rfl
  | some x=>rw [q] at a; exact (a rfl).elim
theorem Gr (kvs:List (κ × V)) (k:κ) (v:V):(putK kvs k v).length<=kvs.length+1:=by
 unfold putK
 split
 ·rw [List.length_map]; omega
 ·rw [List.length_append,List.length_cons,List.length_nil]; omega
theorem Ft.Jd {o:Option V} {u:Option Value} (r:Ft o u):o.isSome=u.isSome:=by
 cases o with
 | none=>cases u with
  | none=>rfl
  | some _=>exact (show False from r).elim
 | some _=>cases u with
  | none=>exact (show False from r).elim
  | some _=>rfl
theorem Ft.getD {o:Option V} {u:Option Value} {d:V} {d':Value} (r:Ft o u) (rd:RelV d d'):RelV (o.getD d) (u.getD d'):=by
 cases o with
 | none=>cases u with
  | none=>exact rd
  | some _=>exact (show False from r).elim
 | some _=>cases u with
  | none=>exact (show False from r).elim
  | some _=>exact r
theorem KV.val {kvs:List (κ × V)} {vs:List (κ × Value)} (r:KV kvs vs) (k:κ):Ft (CV kvs k) (valueAt vs k):=by
 unfold KV at r
 induction r with
 | nil=>exact True.intro
 | @cons p q ps qs h t ih =>
  obtain ⟨h1,h2⟩:=h
  by_cases e:p.1=k
  ·have e':q.1=k:=h1.symm.trans e
   have b:valueAt (q::qs) k=some q.2:=by simp [valueAt,List.find?_cons,e']
   rw [Dj e,b]; exact h2
  ·have e':¬ q.1=k:=fun z=>e (h1.trans z)
   have b:valueAt (q::qs) k=valueAt qs k:=by simp [valueAt,List.find?_cons,e']
   rw [Di e,b]; exact ih
theorem KV.any {kvs:List (κ × V)} {vs:List (κ × Value)} (r:KV kvs vs) (k:κ):(kvs.any fun kv=>decide (kv.1=k))=vs.any fun kv=>decide (kv.1=k):=by
 unfold KV at r
 induction r with
 | nil=>rfl
 | cons h t ih=>rw [List.any_cons,List.any_cons,ih,h.1]
theorem KV.repl {kvs:List (κ × V)} {vs:List (κ × Value)} (r:KV kvs vs) (k:κ) {y:V} {u:Value} (ry:RelV y u) :
  KV (kvs.map fun kv=>if kv.1=k then (kv.1,y) else kv) (vs.map fun kv=>if kv.1=k then (kv.1,u) else kv):=by
 unfold KV at r ⊢
 induction r with
 | nil=>exact .nil
 | @cons p q ps qs h t ih =>
  rw [List.map_cons,List.map_cons]
  refine .cons ?_ ih
  obtain ⟨h1,h2⟩:=h
  by_cases e:p.1=k
  ·rw [if_pos e,if_pos (h1.symm.trans e)]; exact ⟨h1,ry⟩
  ·rw [if_neg e,if_neg (fun z=>e (h1.trans z))]; exact ⟨h1,h2⟩
theorem KV.put {kvs:List (κ × V)} {vs:List (κ × Value)} (r:KV kvs vs) (k:κ) {y:V} {u:Value} (ry:RelV y u):KV (putK kvs k y) (stored vs k u):=by
 unfold putK stored
 rw [r.any k]
 by_cases e:(vs.any fun kv=>decide (kv.1=k))=true
 ·rw [if_pos e,if_pos e]; exact r.repl k ry
 ·rw [if_neg e,if_neg e]; exact Paired.snoc r ⟨rfl,ry⟩
theorem KV.length {kvs:List (κ × V)} {vs:List (κ × Value)} (r:KV kvs vs):kvs.length=vs.length:=Paired.length r
end
theorem Ny {P:Program} {w:World} {k:Key} {u:Value} (r:RelV (kV k) u):(Cu P w).is k u=true:=by
 cases k with
 | inl i=>obtain ⟨t,e⟩:=(show ∃ t,u=Value.int i t from r); subst e; exact M7 P w i t
 | inr x=>obtain ⟨t,e⟩:=(show ∃ t,u=Value.str x t from r); subst e; exact Mz P w x t
theorem Ks {P:Program} {w:World}:∀ {ks:List Key} {us:List Value},Vals (ks.map kV) us->ItemsAre (Cu P w) ks us
 | [],_,r=>by rw [List.map_nil] at r; cases r; exact .nil
 | k::ks,_,r=>by
  rw [List.map_cons] at r
  cases r with
  | cons h t=>exact .cons (Ny h) (Ks t)
noncomputable abbrev KT (H:Hp):List (List Key × V)->List (List Key × Addr × Value)->Prop:=Paired fun p q=>p.1=q.1/\H q.2.1=some (.tup (p.1.map kV))/\RelV p.2 q.2.2
theorem KT.val {H:Hp} {kvs:List (List Key × V)} {xs:List (List Key × Addr × Value)} (r:KT H kvs xs) (k:List Key):Ft (CV kvs k) ((atKey xs k).map (·.2)):=by
 induction r with
 | nil=>exact True.intro
 | @cons p q ps qs h t ih =>
  obtain ⟨h1,_,h2⟩:=h
  by_cases e:p.1=k
  ·have e':q.1=k:=h1.symm.trans e
   have b:atKey (q::qs) k=some q.2:=by simp [atKey,List.find?_cons,e']
   rw [Dj e,b]; exact h2
  ·have e':¬ q.1=k:=fun z=>e (h1.trans z)
   have b:atKey (q::qs) k=atKey qs k:=by simp [atKey,List.find?_cons,e']
   rw [Di e,b]; exact ih
theorem KT.repl {H:Hp} {kvs:List (List Key × V)} {xs:List (List Key × Addr × Value)} (r:KT H kvs xs) (k:List Key) {y:V} {u:Value} (ry:RelV y u) :
  KT H (kvs.map fun kv=>if kv.1=k then (kv.1,y) else kv) (xs.map (putAt k u)):=by
 induction r with
 | nil=>exact .nil
 | @cons p q ps qs h t ih =>
  rw [List.map_cons,List.map_cons]
  refine .cons ?_ ih
  obtain ⟨h1,h2,h3⟩:=h
  unfold putAt
  by_cases e:p.1=k
  ·rw [if_pos e,if_pos (h1.symm.trans e)]; exact ⟨h1,h2,ry⟩
  ·rw [if_neg e,if_neg (fun z=>e (h1.trans z))]; exact ⟨h1,h2,h3⟩
theorem KT.put {H:Hp} {kvs:List (List Key × V)} {xs:List (List Key × Addr × Value)} (r:KT H kvs xs) (k:List Key) {b:Addr} {y:V} {u:Value} (hb:H b=some (.tup (k.map kV))) (ry:RelV y u) :
  KT H (putK kvs k y) (storedH xs k b u):=by
 have e:(kvs.any fun kv=>decide (kv.1=k))=(atKey xs k).isSome:=by
  rw [Ik,(r.val k).Jd,Option.isSome_map]
 unfold putK storedH
 rw [e]
 by_cases q:(atKey xs k).isSome=true
 ·rw [if_pos q,if_pos q]; exact r.repl k ry
 ·rw [if_neg q,if_neg q]; exact Paired.snoc r ⟨rfl,hb,ry⟩
theorem KT.keeps {H H':Hp} {kvs:List (List Key × V)} {xs:List (List Key × Addr × Value)} (r:KT H kvs xs) (ht:∀ b ys,H b=some (.tup ys)->H' b=some (.tup ys)):KT H' kvs xs :=
 Paired.JV r fun _ _ z=>⟨z.1,ht _ _ z.2.1,z.2.2⟩
section
variable {P:Program} {w:World} {H:Hp} {h:Heap} {a:Addr}
theorem W8 {u:HO} (ok:Ei P w H h) (e:Rd H a u):Bx P w H h a u:=e.ok ok
theorem Kq {kvs:List (Key × V)} (ok:Ei P w H h) (e:Rd H a (.dK kvs)):kvs.length<=sizeLine/\(a == sysModules)=false/\∃ vs,KV kvs vs/\h.DictOf (Cu P w) a vs :=
 show Bx P w H h a (.dK kvs) from W8 ok e
theorem cj {kvs:List (Key × V)} (ok:Ei P w H h) (e:H a=some (.dK kvs)):kvs.length<=sizeLine/\(a == sysModules)=false/\∃ vs,KV kvs vs/\h.DictOf (Cu P w) a vs:=Kq ok (.inl e)
theorem J5 {ks:List Key} (ok:Ei P w H h) (e:H a=some (.tup (ks.map kV))):(tupleKind (Cu P w)).is h ks a:=by
 obtain ⟨_,its,r,o,h1,h2,n,h3⟩:=(show Bx P w H h a (.tup (ks.map kV)) from ok a _ e)
 exact ⟨o,its.toArray,n,h1,h2,h3,by simpa using Ks r⟩
theorem Lh {kvs:List (List Key × V)} (ok:Ei P w H h) (e:Rd H a (.dT kvs)):kvs.length<=sizeLine/\(a == sysModules)=false /\
  ∃ xs,KT H kvs xs/\h.DictOfH (tupleKind (Cu P w)) a xs:=by
 obtain ⟨z,y,xs,r,o,es,ep,h1,h2,h3,h4,h5⟩:=(show Bx P w H h a (.dT kvs) from W8 ok e)
 refine ⟨z,y,xs,r,o,es,ep,h1,h2,h3,h4,fun x hx=>?_,h5⟩
 have all:∀ {l:List (List Key × V)} {m:List (List Key × Addr × Value)},KT H l m->∀ x∈m,(tupleKind (Cu P w)).is h x.1 x.2.1:=by
  intro l m q
  induction q with
  | nil=>intro x hx; exact nomatch hx
  | @cons p q ps qs hq t ih =>
   intro x hx
   rcases List.mem_cons.mp hx with e | hx
   ·subst e
    exact J5 ok (by rw [← hq.1]; exact hq.2.1)
   ·exact ih x hx
 exact all r x hx
theorem fQ {kvs:List (List Key × V)} (ok:Ei P w H h) (e:H a=some (.dT kvs)):kvs.length<=sizeLine/\(a == sysModules)=false /\
  ∃ xs,KT H kvs xs/\h.DictOfH (tupleKind (Cu P w)) a xs:=Lh ok (.inl e)
end
noncomputable def Gd (H:Hp) (a:Addr) (y:V) (r:Option V):Prop :=
 (∃ kvs k,Rd H a (.dK kvs)/\y=kV k/\r=CV kvs k) \/ ∃ kvs k b,Rd H a (.dT kvs)/\y=.ref b/\H b=some (.tup (k.map kV))/\r=CV kvs k
noncomputable def L_ (H:Hp) (a:Addr) (y v:V) (H':Hp):Prop :=
 (∃ kvs k,H a=some (.dK kvs)/\y=kV k/\kvs.length<sizeLine/\H'=upd H a (.dK (putK kvs k v))) \/
 ∃ kvs k b,H a=some (.dT kvs)/\y=.ref b/\H b=some (.tup (k.map kV))/\kvs.length<sizeLine/\H'=upd H a (.dT (putK kvs k v))
theorem Gd.k {H:Hp} {a:Addr} {kvs:List (Key × V)} {k:Key} (e:H a=some (.dK kvs)):Gd H a (kV k) (CV kvs k):=.inl ⟨kvs,k,.inl e,rfl,rfl⟩
theorem L_.k {H:Hp} {a:Addr} {kvs:List (Key × V)} {k:Key} {v:V} (e:H a=some (.dK kvs)) (hl:kvs.length<sizeLine):L_ H a (kV k) v (upd H a (.dK (putK kvs k v))):=.inl ⟨kvs,k,e,rfl,hl,rfl⟩
section
variable {X:Cx} {pins:List (Addr × Obj)} {σ:St} {H:Hp} {s:Shared} {a:Addr} {y v:V} {u r:Value} {o:Option V} {A:Around} {E:Value->Shared->Prop}
theorem Inv.big (I:Inv X pins σ H s):sysModules<s.heap.objs.size:=by
 have h:mainGlobals<s.heap.objs.size:=(I.mod.glob.keeps I.bk).lt
 exact Nat.lt_trans (by decide) h
theorem Qt {Q:Value->Shared->Prop} (hu:A.units+1<cLine) (I:Inv X pins σ H s) (g:Gd H a y (some v)) (ry:RelV y u) (h:∀ w' s',Inv X pins σ H s'->RelV v w'->Q w' s') :
  wpAny (model X.prog X.w) A (getItem (.ref a) u) Q E s:=by
 rcases g with ⟨kvs,k,e,ey,l⟩ | ⟨kvs,k,b,e,ey,eb,l⟩
 ·subst ey
  obtain ⟨z,hd,vs,rel,dd⟩:=Kq I.hok e
  obtain ⟨w',hw,rw'⟩:=Ft.some_of (v:=v) (o:=valueAt vs k) (by rw [l]; exact rel.val k)
  exact wpAny_getItem_of (Ny ry) dd.mapOf hw (h w' _ (I.tok _) rw')
 ·subst ey
  cases (show u=Value.ref b from ry)
  obtain ⟨z,hd,xs,rel,dd⟩:=Lh I.hok e
  obtain ⟨w',hw,rw'⟩:=Ft.some_of (v:=v) (o:=(atKey xs k).map (·.2)) (by rw [l]; exact rel.val k)
  obtain ⟨p,hp,hp2⟩:=Option.map_eq_some_iff.mp hw
  refine wpAny_getItem_heap (tupleKind_room_in1 hu) (J5 I.hok eb) dd hp ?_
  rw [hp2]
  exact h w' _ (I.tok _) rw'
theorem Wg {Q:Value->Shared->Prop} (hu:A.units+1<cLine) (I:Inv X pins σ H s) (g:Gd H a y o) (ry:RelV y u) (h:∀ s',Inv X pins σ H s'->Q (.bool (!o.isSome)) s') :
  wpAny (model X.prog X.w) A (compareOp .NotIn u (.ref a)) Q E s:=by
 rcases g with ⟨kvs,k,e,ey,l⟩ | ⟨kvs,k,b,e,ey,eb,l⟩
 ·subst ey
  obtain ⟨z,hd,vs,rel,dd⟩:=Kq I.hok e
  refine wpAny_notIn_of (Ny ry) hd dd.mapOf ?_
  rw [← (rel.val k).Jd,← l]
  exact h _ (I.tok _)
 ·subst ey
  cases (show u=Value.ref b from ry)
  obtain ⟨z,hd,xs,rel,dd⟩:=Lh I.hok e
  refine wpAny_notIn_heap (tupleKind_room_in1 hu) (J5 I.hok eb) hd dd ?_
  have q:=(rel.val k).Jd
  rw [Option.isSome_map] at q
  rw [← q,← l]
  exact h _ (I.tok _)
theorem Qi {h':Heap} {t':Nat} {ob:HO} (I:Inv X pins σ H s) (mu:Z5 (H a)) (hs:Heap.SameBut a s.heap h') (he:∃ q,h'.get? a=some q) (new:Bx X.prog X.w (upd H a ob) h' a ob) :
  Inv X pins σ (upd H a ob) { s with heap:=h',toks:=t' } :=
 I.write (x:=a) (e:=a) mu (.inl rfl) (fun b q hb z=>(hs.2 b hb).trans z) he new
theorem Y7 {P:Program} {w:World} {H':Hp} {h':Heap} {kvs:List (Key × V)} {vs:List (Key × Value)} (z:kvs.length<=sizeLine) (hd:(a == sysModules)=false) (rel:KV kvs vs) (dd:h'.DictOf (Cu P w) a vs) :
  Bx P w H' h' a (.dK kvs):=⟨z,hd,vs,rel,dd⟩
theorem Rt {H':Hp} {Q:Unit->Shared->Prop} (hu:A.units+1<cLine) (I:Inv X pins σ H s) (g:L_ H a y v H') (ry:RelV y u) (rv:RelV v r) (h:∀ s',Inv X pins σ H' s'->Q () s') :
  wpAny (model X.prog X.w) A (setItem (.ref a) u r) Q E s:=by
 rcases g with ⟨kvs,k,e,ey,l,eH⟩ | ⟨kvs,k,b,e,ey,eb,l,eH⟩
 ·subst ey eH
  obtain ⟨z,hd,vs,rel,dd⟩:=cj I.hok e
  have hz:vs.length<=sizeLine:=by rw [← rel.length]; exact z
  have hl:(putK kvs k v).length<=sizeLine:=by have:=Gr kvs k v; omega
  refine wpAny_setItem_pairs (hsz:=hz) (Ny ry) dd fun h' dd' hs=>h _ ?_
  have he:∃ q,h'.get? a=some q:=let ⟨q,_,_,hq,_⟩:=dd'; ⟨q,hq⟩
  exact Qi I (by rw [e]; exact True.intro) hs he (Y7 hl hd (rel.put k rv) dd')
 ·subst ey eH
  cases (show u=Value.ref b from ry)
  obtain ⟨z,hd,xs,rel,dd⟩:=fQ I.hok e
  have hz:xs.length<=sizeLine:=by rw [← Paired.length rel]; exact z
  have hl:(putK kvs k v).length<=sizeLine:=by have:=Gr kvs k v; omega
  refine wpAny_setItem_heap (hsz:=hz) (tupleKind_room_in1 hu) (J5 I.hok eb) dd fun h' dd' hs=>h _ ?_
  obtain ⟨q,es,ep,hq,h2,h3,h4,_,h5⟩:=dd'
  refine Qi I (by rw [e]; exact True.intro) hs ⟨q,hq⟩ ⟨hl,hd,_,(rel.put k eb rv).keeps fun c ys ec=>?_,q,es,ep,hq,h2,h3,h4,h5⟩
  rw [Ar (W7 ec e (fun z=>nomatch z))]
  exact ec
end
section
variable {X:Cx} {pins:List (Addr × Obj)} {σ:St} {H:Hp} {s:Shared} {a:Addr} {kvs:List (Key × V)} {k:Key} {u:Value} {A:Around} {E:Value->Shared->Prop}
end
noncomputable def Yn (i:Expr):Prop:=∀ ov iv,subscripted i false ov iv=operate [ov,iv] (getItem ov iv)
theorem Qp {prog:Program} {w:World} {A:Around} {E:Value->Shared->Prop} {s:Shared} {env:Env} {value slice:Expr} {pos:Pos} {T id:String} {Q:Value->Shared->Prop}
  (hl:typeLookup (.type T) "__getitem__" = pure (some (.builtin id))) (hs:Yn slice)
  (h:wpAny (model prog w) A (eval value env) (fun o s₁=>wpAny (model prog w) A (eval slice env) (fun i s₂=>s₂.TypeIs o T/\wpAny (model prog w) A (getItem o i) Q E s₂) E s₁) E s) :
  wpAny (model prog w) A (eval (.Subscript value slice pos) env) Q E s:=by
 refine Subscript_ (wpAny_mono h (fun o s₁ h₁=>wpAny_mono h₁ (fun i s₂ h₂=>?_) fun _ _ x=>x) fun _ _ x=>x)
 obtain ⟨hT,h₂⟩:=h₂
 unfold subscriptTail
 refine wpAny_bind ?_
 rw [getitemInPython_of_ne hT.not_modules]
 refine wpAny_bind (wpAny_specialOf hT hl ?_)
 have fin:wpAny (model prog w) A (subscripted slice false o i) (fun r s₃=>wpAny (model prog w) A (letTemporaryGo value o r >>= fun _=>pure r) Q E s₃) E s₂:=by
  rw [hs o i]
  exact wpAny_operating (wpAny_mono h₂ (fun r s₃ h₃=>wpAny_bind (wpAny_letTemporaryGo (wpAny_pure h₃))) fun _ _ x=>x)
 first
  | exact wpAny_pure (wpAny_bind fin)
  | exact wpAny_bind (wpAny_pure (wpAny_bind fin))
  | exact wpAny_bind fin
theorem Oc {X:Cx} {pins:List (Addr × Obj)} {σ:St} {H:Hp} {s:Shared} {a:Addr} {y:V} {o:Option V} (I:Inv X pins σ H s) (g:Gd H a y o):s.TypeIs (.ref a) "dict":=by
 rcases g with ⟨kvs,k,e,_,_⟩ | ⟨kvs,k,b,e,_,_,_⟩
 ·obtain ⟨_,_,vs,_,dd⟩:=Kq I.hok e
  exact dd.typeIs
 ·obtain ⟨_,_,xs,_,dd⟩:=Lh I.hok e
  exact dd.typeIs
noncomputable def d9 (td ty:TE):TE:=fun σ H Q=>td σ H fun x H1=>ty σ H1 fun y H2=>∃ a v,x=.ref a/\Gd H2 a y (some v)/\Q v H2
noncomputable def WT (ty td:TE):TE:=fun σ H Q=>ty σ H fun y H1=>td σ H1 fun x H2=>∃ a o,x=.ref a/\Gd H2 a y o/\Q (.bl (!o.isSome)) H2
noncomputable def b8 (td ty tv:TE):TS:=fun D σ H=>tv σ H fun v H1=>td σ H1 fun x H2=>ty σ H2 fun y H3=>∃ a H4,x=.ref a/\L_ H3 a y v H4/\D.nx σ H4
section
variable {X:Cx} {o i e value:Expr} {pos pos' tpos:Pos} {td ty tv:TE}
theorem H_ (hu:X.A.units+1<cLine) (ho:PE X o td) (hi:PE X i ty) (hs:Yn i):PE X (.Subscript o i pos) (d9 td ty):=by
 intro pins s σ H Q I h
 refine Qp PySem.F.slot_dict_getitem.lookup hs (By (ho pins s σ H _ I h) fun u s1 ⟨x,H1,I1,rx,q1⟩=>By (hi pins s1 σ H1 _ I1 q1) fun iv s2 hq0=>?_)
 obtain ⟨y,H2,I2,ry,a,v,ex,g,q2⟩:=hq0
 subst ex
 obtain rfl:u=Value.ref a:=rx
 exact ⟨Oc I2 g,Qt hu I2 g ry fun w' s3 I3 rw'=>⟨v,H2,I3,rw',q2⟩⟩
theorem Q7 (hu:X.A.units+1<cLine) (hi:PE X i ty) (ho:PE X o td):PC X .NotIn i o (WT ty td):=by
 intro pins s σ H Q I h
 refine By (hi pins s σ H _ I h) fun iv s1 ⟨y,H1,I1,ry,q1⟩=>By (ho pins s1 σ H1 _ I1 q1) fun u s2 hq0=>?_
 obtain ⟨x,H2,I2,rx,a,ov,ex,g,q2⟩:=hq0
 subst ex
 obtain rfl:u=Value.ref a:=rx
 exact Wg hu I2 g ry fun s3 I3=>⟨.bl (!ov.isSome),H2,I3,rfl,q2⟩
theorem Jo (hu:X.A.units+1<cLine) (ho:PE X o td) (hi:PE X i ty) (hv:PE X value tv) (hs:swapsWith value (some (.Subscript o i pos')) pos.line X.env=pure false) :
  PS X (.Assign [.Subscript o i pos'] value pos) (b8 td ty tv):=by
 intro pins s σ H D I h
 refine wpAny_Assign_Subscript (By (hv pins s σ H _ I h) fun r s1 ⟨v,H1,I1,rv,q1⟩=>By (ho pins s1 σ H1 _ I1 q1) fun u s2 ⟨x,H2,I2,rx,q2⟩=>By (hi pins s2 σ H2 _ I2 q2) fun iv s3 ⟨y,H3,I3,ry,a,H4,ex,g,q3⟩=>?_) hs
 subst ex
 obtain rfl:u=Value.ref a:=rx
 exact Rt hu I3 g ry rv fun s4 I4=>⟨σ,H4,I4,q3⟩
end
theorem Um {P:Program} {w:World} {H:Hp} (h:Heap) (hb:sysModules<h.objs.size):Bx P w H (h.push { cls:=.type "dict",data:=.dict #[] }) h.objs.size (.dK []) :=
 ⟨Nat.zero_le _,beq_eq_false_iff_ne.mpr (Ne.symm (Nat.ne_of_lt hb)),[],.nil,Heap.DictOf.new h⟩
noncomputable def Xz:TE:=fun _ H Q=>∀ p,H p=none->Q (.ref p) (upd H p (.dK []))
section
variable {X:Cx} {pos:Pos}
theorem J6:PE X (.Dict [] [] pos) Xz:=fun pins s σ H Q I h =>
 wpAny_Dict_empty ⟨.ref s.heap.objs.size,_,I.laid (a:=s.heap.objs.size) (o:=.dK []) (t':=s.toks) (fun _ _ q=>Heap.get?_push_of_some _ q) (Nat.le_refl _) (Um s.heap I.big),rfl,h _ (I.hok.fresh (Nat.le_refl _))⟩
end
noncomputable def m6 (kvs more:List (Key × V)):List (Key × V):=more.foldl (fun acc kv=>putK acc kv.1 kv.2) kvs
structure M1 (X:Cx) (o:Expr) (m:Str) (apos:Pos) (e:Expr) (cpos:Pos):Prop where
 base:attributeBase o m X.env (eval o X.env)=eval o X.env
 few:((backTo cpos (starEach [e] X.env)).all (fun x=>!x.1) && (backToKw cpos (keywordEach [] X.env)).all (fun x=>x.1.isSome)
  && decide (([e]:List Expr).length+([]:List Keyword).length+(if ([]:List Keyword).isEmpty then 0 else 1)<30))=true
 line:(apos.endLine == cpos.line)=true
 trees:backTo cpos (starEach [e] X.env)=[(false,eval e X.env)]
noncomputable def oG (H:Hp) (a:Addr):Prop:=(∃ kvs,Rd H a (.dK kvs)) \/ ∃ kvs,Rd H a (.dT kvs)
theorem Xj {X:Cx} {pins:List (Addr × Obj)} {σ:St} {H:Hp} {s:Shared} {a:Addr} (I:Inv X pins σ H s) (d:oG H a) :
  s.TypeIs (.ref a) "dict" /\ (∀ b,Value.ref a=.ref b->∃ ob,s.heap.get? b=some ob/\ob.dict=none)/\(a == sysModules)=false:=by
 rcases d with ⟨kvs,e⟩ | ⟨kvs,e⟩
 ·obtain ⟨_,hd,vs,_,dd⟩:=Kq I.hok e
  refine ⟨dd.typeIs,fun b q=>?_,hd⟩
  cases q
  obtain ⟨ob,_,_,h1,h2,_⟩:=dd
  exact ⟨ob,h1,h2.2.1⟩
 ·obtain ⟨_,hd,xs,_,dd⟩:=Lh I.hok e
  refine ⟨dd.typeIs,fun b q=>?_,hd⟩
  cases q
  obtain ⟨ob,_,_,h1,h2,_⟩:=dd
  exact ⟨ob,h1,h2.2.1⟩
section
variable {X:Cx} {pins:List (Addr × Obj)} {σ:St} {H:Hp} {s:Shared} {a:Addr} {y d:V} {u r:Value} {o:Option V} {A:Around} {E:Value->Shared->Prop}
theorem Xd {Q:Value->Shared->Prop} (hu:A.units+1<cLine) (I:Inv X pins σ H s) (g:Gd H a y o) (ry:RelV y u) (h:∀ w' s',Inv X pins σ H s'->RelV (o.getD .non) w'->Q w' s') :
  wpAny (model X.prog X.w) A (call (.builtin "dict.get") [.ref a,u]) Q E s:=by
 rcases g with ⟨kvs,k,e,ey,l⟩ | ⟨kvs,k,b,e,ey,eb,l⟩
 ·subst ey
  obtain ⟨z,hd,vs,rel,dd⟩:=Kq I.hok e
  refine call_meetsIn PySem.F.slot_dict_get dd.typeIs PySem.F.entry_dict_get (PySem.F.args_dict_get_2 _ _) (meets_dict_get (Cu X.prog X.w) a (Ny ry) hd) ⟨_,dd.mapOf,h _ _ (I.tok _) ?_⟩
  rw [l]
  exact (rel.val k).getD rfl
 ·subst ey
  cases (show u=Value.ref b from ry)
  obtain ⟨z,hd,xs,rel,dd⟩:=Lh I.hok e
  refine call_meetsIn PySem.F.slot_dict_get dd.typeIs PySem.F.entry_dict_get (PySem.F.args_dict_get_2 _ _) (meetsH_dict_get (tupleKind (Cu X.prog X.w)) a b hd) ⟨tupleKind_room_in1 hu,k,xs,J5 I.hok eb,dd,h _ _ (I.tok _) ?_⟩
  rw [l]
  exact (rel.val k).getD rfl
end
noncomputable def YD (td ty:TE):TE:=fun σ H Q=>td σ H fun x H1=>∃ a,x=.ref a/\oG H1 a/\ty σ H1 fun y H2=>∃ o,Gd H2 a y o/\Q (o.getD .non) H2
section
variable {X:Cx} {o e f:Expr} {apos cpos:Pos} {td ty tx:TE}
theorem N7 (hu:X.A.units+1<cLine) (ho:PE X o td) (he:PE X e ty) (m:M1 X o "get" apos e cpos):PE X (.Call (.Attribute o "get" apos) [e] [] cpos) (YD td ty):=by
 intro pins s σ H Q I h
 refine wpAny_Call_method m.base m.few m.line PySem.F.plainAttrs_dict PySem.F.slot_dict_get PySem.F.type_dict_get (By (ho pins s σ H _ I h) fun u s1 hq0=>?_)
 obtain ⟨x,H1,I1,rx,a,ex,d,q1⟩:=hq0
 subst ex
 obtain rfl:u=Value.ref a:=rx
 obtain ⟨t1,t2,_⟩:=Xj I1 d
 refine ⟨t1,t2,?_⟩
 rw [m.trees]
 refine Calls.callWith_builtin rfl (Calls.evalArgs_plain (Calls.spliced_cons (By (he pins s1 σ H1 _ I1 q1) fun iv s2 ⟨y,H2,I2,ry,ov,g,q2⟩=>Calls.spliced_nil ?_)))
 exact Xd hu I2 g ry fun w' s3 I3 rw'=>⟨_,H2,I3,rw',q2⟩
end
section
variable {X:Cx} {pins:List (Addr × Obj)} {σ:St} {H:Hp} {s:Shared} {a:Addr} {kvs:List (Key × V)} {A:Around} {E:Value->Shared->Prop}
end
section
variable {X:Cx} {pins:List (Addr × Obj)} {σ:St} {H:Hp} {s:Shared} {a:Addr} {y:V} {u:Value} {A:Around} {E:Value->Shared->Prop}
end
end L2
namespace HT
open PySem PyProof.Rows
section
open PySem.SeqAt
open PySem.AutoSeq1 (wpAny_loadPart')
open PySem.MeetsSeq PySem.MeetsSeq2 PySem.MeetsSeq3
end
section
variable {prog:Program} {w:World} {A:Around} {E:Value->Shared->Prop} {s:Shared}
noncomputable def Dg (n d:Nat):Option Int->Nat
 | none=>d
 | some v=>if v<0 then (v+(n:Int)).toNat else min v.toNat n
theorem G8 (n d:Nat):Dg n d none=d:=rfl
theorem Du (n d k:Nat):Dg n d (some (k:Int))=min k n:=by
 show (if (k:Int)<0 then ((k:Int)+(n:Int)).toNat else min (k:Int).toNat n)=min k n
 rw [if_neg (by omega),Int.toNat_natCast]
theorem Yo (n d:Nat) (hd:d<=n) (o:Option Int):Dg n d o<=n:=by
 cases o with
 | none=>exact hd
 | some v =>
  show (if v<0 then (v+(n:Int)).toNat else min v.toNat n)<=n
  by_cases hv:v<0
  ·rw [if_pos hv]; omega
  ·rw [if_neg hv]; exact Nat.min_le_right _ _
theorem QR (v:Int) (n d:Nat):(if v<0 then max (v+(n:Int)) 0 else min v (n:Int))=((Dg n d (some v):Nat):Int):=by
 show (if v<0 then max (v+(n:Int)) 0 else min v (n:Int))=(((if v<0 then (v+(n:Int)).toNat else min v.toNat n):Nat):Int)
 by_cases hv:v<0
 ·simp only [if_pos hv]; omega
 ·simp only [if_neg hv]; omega
theorem P_ (lo hi:Option Int) (n:Nat):Builtin.Slice.sliceAdjust lo hi 1 (n:Int)=(((Dg n 0 lo:Nat):Int),((Dg n n hi:Nat):Int)):=by
 have h1:¬ ((1:Int)<0):=by omega
 unfold Builtin.Slice.sliceAdjust
 simp only [h1,if_false]
 refine Prod.ext ?_ ?_
 ·cases lo with
  | none=>rfl
  | some v=>exact QR v n 0
 ·cases hi with
  | none=>rfl
  | some v=>exact QR v n n
theorem Ow (i j:Nat):Builtin.Slice.slicePlaces (i:Int) (j:Int) 1=j - i:=by
 unfold Builtin.Slice.slicePlaces
 have h1:(1:Int) > 0:=by omega
 simp only [h1,if_true,Int.ediv_one]
 split <;> omega
theorem KC {v:Value} {o:Option Int} {Q:Option Int->Shared->Prop} (p:IsPart v o) (h:Q o s):wpAny (model prog w) A (Builtin.Slice.slicePartIndex v) Q E s:=by
 cases p with
 | none=>exact slicePart_none h
 | int i t=>exact slicePart_int h
theorem JN {sl:Addr} {vl vu:Value} {lo hi:Option Int} {n:Nat} {Q:Int × Int × Nat->Shared->Prop} (hs:s.heap.IsSliceOf sl vl vu .none) (pl:IsPart vl lo) (pu:IsPart vu hi)
  (h:Q (((Dg n 0 lo:Nat):Int),1,Dg n n hi - Dg n 0 lo) s):wpAny (model prog w) A (Builtin.Slice.sliceApplied (.ref sl) (pure (n:Int))) Q E s:=by
 obtain ⟨os,hos,hcs,hds⟩:=id hs
 unfold Builtin.Slice.sliceApplied Builtin.Slice.sliceFields
 refine wpAny_bind (wpAny_bind (wpAny_field hos hds (x:=vl) rfl (wpAny_bind (wpAny_field hos hds (x:=vu) rfl (wpAny_bind (wpAny_field hos hds (x:=.none) rfl (wpAny_pure ?_)))))))
 refine wpAny_bind (slicePart_none ?_)
 show wpAny _ _ (if ((1:Int) == 0)=true then _ else _) _ _ s
 rw [if_neg (by decide)]
 refine wpAny_bind (KC pl (wpAny_bind (KC pu (wpAny_bind (wpAny_pure ?_)))))
 show wpAny _ _ (match Builtin.Slice.sliceAdjust lo hi 1 (n:Int) with | (lo,hi)=>pure (lo,(1:Int),Builtin.Slice.slicePlaces lo hi 1)) _ _ s
 rw [P_ lo hi n]
 show wpAny _ _ (pure (((Dg n 0 lo:Nat):Int),(1:Int),Builtin.Slice.slicePlaces ((Dg n 0 lo:Nat):Int) ((Dg n n hi:Nat):Int) 1)) _ _ s
 rw [Ow]
 exact wpAny_pure h
theorem Tp (xs:Array Value) (i k:Nat):((List.range k).filterMap fun (m:Nat)=>xs[((i:Int)+(m:Int) * 1).toNat]?).toArray=((xs.toList.drop i).take k).toArray:=by
 have e:(fun (m:Nat)=>xs[((i:Int)+(m:Int) * 1).toNat]?)=fun m=>xs[i+m]?:=by
  funext m
  have:((i:Int)+(m:Int) * 1).toNat=i+m:=by omega
  rw [this]
 rw [e]
 have:=pick_run xs i k
 rw [List.filterMap_map] at this
 have e2:((fun x=>xs[x]?) ∘ fun x=>i+x)=fun m=>xs[i+m]?:=rfl
 rw [e2] at this
 rw [this]
theorem Iw {t sl:Addr} {items:Array Value} {vl vu:Value} {lo hi:Option Int} {Q:Value->Shared->Prop} (ht:IsTup s.heap t items) (hs:s.heap.IsSliceOf sl vl vu .none) (pl:IsPart vl lo) (pu:IsPart vu hi)
  (hw:¬ (Dg items.size 0 lo=0/\Dg items.size items.size hi=items.size))
  (h:Q (.ref s.heap.objs.size) { s with heap:=s.heap.push { cls:=.type "tuple",data:=.seq ((items.toList.drop (Dg items.size 0 lo)).take (Dg items.size items.size hi - Dg items.size 0 lo)).toArray } })
  (hsz:items.size<=sizeLine):wpAny (model prog w) A (getItem (.ref t) (.ref sl)) Q E s:=by
 have htake:sizeOk (.seq ((items.toList.drop (Dg items.size 0 lo)).take (Dg items.size items.size hi - Dg items.size 0 lo)).toArray):=by
  show ((items.toList.drop (Dg items.size 0 lo)).take (Dg items.size items.size hi - Dg items.size 0 lo)).toArray.size<=sizeLine
  rw [List.size_toArray,List.length_take,List.length_drop,Array.length_toList]
  omega
 have hj:Dg items.size items.size hi<=items.size:=Yo _ _ (Nat.le_refl _) hi
 obtain ⟨os,hos,hcs,hds⟩:=id hs
 have hTs:s.TypeIs (.ref sl) "slice":=⟨os,hos,hcs⟩
 unfold getItem
 try with_reducible refine wpAny_holding ?_
 first | refine wpAny_bind (wpAny_pure ?_) | skip
 refine wpAny_bind (wpAny_sequenceKey ht.typeIs (by decide) ?_)
 refine wpAny_bind (wpAny_callSpecial?_slot (name:=Str.ofString "__getitem__") ht.typeIs PyProof.Rows.slot_tuple_getitem
  (wpAny_call_entry PyProof.Rows.slot_tuple_getitem ht.typeIs entry_tuple_getitem ?_ (args_tuple_getitem _ _)))
 show wpAny _ _ (Builtin.Tuple.tupleItemsOf (.ref t) >>= _) _ _ s
 refine wpAny_bind (tupleItemsOf_ ht ?_)
 refine wpAny_bind (wpAny_typeOf hTs ?_)
 rw [if_pos (by decide)]
 refine wpAny_bind (JN hs pl pu ?_)
 have hno:¬ ((((Dg items.size 0 lo:Nat):Int) == 0 && (1:Int) == 1 && (Dg items.size items.size hi - Dg items.size 0 lo) == items.size)=true):=by
  intro q
  rw [Bool.and_eq_true,Bool.and_eq_true] at q
  have q1:((Dg items.size 0 lo:Nat):Int)=0:=eq_of_beq q.1.1
  have q2:Dg items.size items.size hi - Dg items.size 0 lo=items.size:=eq_of_beq q.2
  exact hw ⟨by omega,by omega⟩
 show wpAny _ _ (if (((Dg items.size 0 lo:Nat):Int) == 0 && (1:Int) == 1 && (Dg items.size items.size hi - Dg items.size 0 lo) == items.size)=true then _ else _) _ _ s
 rw [if_neg hno,Tp]
 first
  | exact wpAny_bind (m:=Builtin.Tuple.tupleExact _) (wpAny_newObj_type (wpAny_pure ⟨_,rfl,wpAny_pure h⟩) htake)
  | exact wpAny_bind (m:=Builtin.Tuple.tupleExact _) (wpAny_newObj_type (wpAny_bind (wpAny_pure (wpAny_pure ⟨_,rfl,wpAny_pure h⟩))) htake)
  | exact wpAny_bind (wpAny_bind (m:=Builtin.Tuple.tupleExact _) (wpAny_newObj_type (wpAny_pure (wpAny_pure ⟨_,rfl,wpAny_pure h⟩)) htake))
  | exact wpAny_bind (wpAny_bind (m:=Builtin.Tuple.tupleExact _) (wpAny_newObj_type (wpAny_pure ⟨_,rfl,wpAny_pure h⟩) htake))
end
end HT
namespace L2
open PySem PySem.Spec PyProof.Rows
noncomputable abbrev TO:=St->Hp->(Option Int->Hp->Prop)->Prop
noncomputable def PO (X:Cx) (e:Option Expr) (t:TO):Prop :=
 ∀ (pins:List (Addr × Obj)) (s:Shared) (σ:St) (H:Hp) (Q:Option Int->Hp->Prop),Inv X pins σ H s->t σ H Q ->
  wpAny (model X.prog X.w) X.A (evalPart e X.env) (fun u s'=>∃ o H',Inv X pins σ H' s'/\IsPart u o/\Q o H') X.xe s
noncomputable def Vz:TO:=fun _ H Q=>Q none H
noncomputable def eN (t:TE):TO:=fun σ H Q=>t σ H fun x H1=>∃ i,x=.int i/\Q (some i) H1
section
variable {X:Cx} {e:Expr} {te:TE} {lo hi:Option Expr} {tl th:TO} {pos p2:Pos}
theorem Dm:PO X none Vz:=by
 intro pins s σ H Q I h
 rw [evalPart_none]
 exact wpAny_pure ⟨none,H,I,.none,h⟩
theorem DG (h:PE X e te):PO X (some e) (eN te):=by
 intro pins s σ H Q I hw
 rw [evalPart_some]
 refine By (h pins s σ H _ I hw) fun u s1 hq0=>?_
 obtain ⟨x,H1,I1,r1,q1⟩:=hq0
 obtain ⟨i,rfl,q⟩:=q1
 obtain ⟨t,rfl⟩:=r1
 exact ⟨some i,H1,I1,.int i t,q⟩
noncomputable def bH (X:Cx) (r:V->Option Int->Option Int->Hp->VK->Prop):Prop :=
 ∀ (pins:List (Addr × Obj)) (s:Shared) (σ:St) (H:Hp) (x:V) (v vl vu:Value) (lo hi:Option Int) (sl:Addr) (Q:VK),Inv X pins σ H s->RelV x v->s.heap.IsSliceOf sl vl vu .none->IsPart vl lo->IsPart vu hi->r x lo hi H Q ->
  ∃ T id,typeLookup (.type T) "__getitem__" = pure (some (.builtin id))/\s.TypeIs v T/\wpAny (model X.prog X.w) X.A (getItem v (.ref sl)) (EP X pins σ Q) X.xe s
noncomputable def pG (r:V->Option Int->Option Int->Hp->VK->Prop) (te:TE) (tl th:TO):TE:=fun σ H Q=>te σ H fun x H1=>tl σ H1 fun l H2=>th σ H2 fun u H3=>r x l u H3 Q
theorem Ce {r:V->Option Int->Option Int->Hp->VK->Prop} (hr:bH X r) (he:PE X e te) (hl:PO X lo tl) (hu:PO X hi th):PE X (.Subscript e (.Slice lo hi none p2) pos) (pG r te tl th):=by
 intro pins s σ H Q I h
 refine Subscript_ (By (he pins s σ H _ I h) fun v s1 hq0=>?_)
 obtain ⟨x,H1,I1,r1,q1⟩:=hq0
 refine wpAny_Slice (By (hl pins s1 σ H1 _ I1 q1) fun vl s2 ⟨l,H2,I2,pl,q2⟩=>By (hu pins s2 σ H2 _ I2 q2) fun vu s3 hq0=>?_)
 obtain ⟨u,H3,I3,pu,q3⟩:=hq0
 rw [evalPart_none]
 refine wpAny_pure ?_
 have I4:Inv X pins σ H3 { s3 with heap:=s3.heap.push { cls:=.type "slice",data:=.fields #[vl,vu,.none] } }:=I3.kept (t':=s3.toks) fun b ob q=>Heap.get?_push_of_some _ q
 obtain ⟨T,id,hT,ht,hg⟩:=hr pins { s3 with heap:=s3.heap.push { cls:=.type "slice",data:=.fields #[vl,vu,.none] } } σ H3 x v vl vu l u s3.heap.objs.size Q I4 r1 (Heap.IsSliceOf.new ..) pl pu q3
 show wpAny (model X.prog X.w) X.A (subscriptTail e (.Slice lo hi none p2) v (.ref s3.heap.objs.size)) (EP X pins σ Q) X.xe { s3 with heap:=s3.heap.push { cls:=.type "slice",data:=.fields #[vl,vu,.none] } }
 exact tail_any (ops:=[.ref s3.heap.objs.size,v]) ht hT hg (by with_unfolding_all rfl)
noncomputable def Dn (xs:List V) (lo hi:Option Int):List V:=(xs.drop (HT.Dg xs.length 0 lo)).take (HT.Dg xs.length xs.length hi - HT.Dg xs.length 0 lo)
theorem Jf (xs:List V) (lo hi:Option Int):(Dn xs lo hi).length<=xs.length:=by
 unfold Dn
 rw [List.length_take,List.length_drop]
 omega
noncomputable def bT (K:PySem.W.Frag):V->Option Int->Option Int->Hp->VK->Prop:=fun x lo hi H Q=>∃ a xs,x=.ref a/\Gm K H a xs /\
 ¬ (HT.Dg xs.length 0 lo=0/\HT.Dg xs.length xs.length hi=xs.length)/\∀ p,H p=none->Q (.ref p) (upd H p (.tup (Dn xs lo hi)))
theorem Ma:bH X (bT X.K):=by
 intro pins s σ H x v vl vu lo hi sl Q I rx hs pl pu h
 obtain ⟨a,xs,rfl,hx,hw,q⟩:=h
 cases rx
 obtain ⟨its,r,ht,hz⟩:=I.tuple hx
 have hlen:its.toArray.size=xs.length:=by rw [List.size_toArray]; exact r.length.symm
 refine ⟨"tuple",_,PyProof.Rows.slot_tuple_getitem.lookup,ht.typeIs,?_⟩
 refine HT.Iw ht hs pl pu (by rw [hlen]; exact hw) ?_ (by rw [hlen]; exact hz)
 rw [hlen]
 refine ⟨.ref s.heap.objs.size,_,I.laid (t':=s.toks) (o:=.tup (Dn xs lo hi)) (fun b ob q=>Heap.get?_push_of_some _ q) (Nat.le_refl _) ?_,rfl,q _ (I.hok.fresh (Nat.le_refl _))⟩
 exact ⟨Nat.le_trans (Jf xs lo hi) hz,_,(r.drop (HT.Dg xs.length 0 lo)).take (HT.Dg xs.length xs.length hi - HT.Dg xs.length 0 lo),IsTup.new _ _⟩
end
end L2
namespace L2
open PySem PySem.Spec PyProof.Rows
noncomputable def VR (n:Nat) (i:Int):Option Nat:=if 0<=i then (if i<n then some i.toNat else none) else if -(n:Int)<=i then some (i+n).toNat else none
noncomputable def SJ {α:Type} (xs:List α) (i:Int):Option α:=(VR xs.length i).bind fun j=>xs[j]?
theorem Qm {n:Nat} {i:Int} {j:Nat} (h:VR n i=some j):seqIndex? i n=some j/\j<n /\ -(n:Int)<=i/\i<n:=by
 unfold VR at h
 by_cases h0:0<=i
 ·rw [if_pos h0] at h
  by_cases h1:i<n
  ·rw [if_pos h1] at h
   have e:i.toNat=j:=Option.some.inj h
   exact ⟨by rw [seqIndex_of h0 h1,e],by omega,by omega,h1⟩
  ·rw [if_neg h1] at h; cases h
 ·rw [if_neg h0] at h
  by_cases h1 : -(n:Int)<=i
  ·rw [if_pos h1] at h
   have e:(i+n).toNat=j:=Option.some.inj h
   exact ⟨by rw [seqIndex_neg (by omega) h1,e],by omega,h1,by omega⟩
  ·rw [if_neg h1] at h; cases h
theorem MP {α:Type} {xs:List α} {i:Int} {v:α} (h:SJ xs i=some v):∃ j,seqIndex? i xs.length=some j/\xs[j]? = some v/\j<xs.length /\ -(xs.length:Int)<=i/\i<xs.length:=by
 unfold SJ at h
 cases e:VR xs.length i with
 | none=>rw [e] at h; cases h
 | some j =>
  rw [e] at h
  obtain ⟨h1,h2,h3,h4⟩:=Qm e
  exact ⟨j,h1,h,h2,h3,h4⟩
theorem Aj {α:Type} {xs:List α} {j:Nat} {v:α} (h:xs[j]? = some v):SJ xs (j:Int)=some v:=by
 have hj:j<xs.length:=(List.getElem?_eq_some_iff.mp h).1
 have e:VR xs.length (j:Int)=some j:=by
  unfold VR
  rw [if_pos (by omega),if_pos (by omega)]; simp
 unfold SJ; rw [e]; exact h
noncomputable def V1 (b:Expr):Prop:=∀ o i,subscripted b false o i=operate [o,i] (getItem o i)
noncomputable def ZP (X:Cx) (r:R2):Prop :=
 ∀ (value slice:Expr) (pins:List (Addr × Obj)) (s:Shared) (σ:St) (H:Hp) (x y:V) (v u:Value) (Q:VK),Inv X pins σ H s->RelV x v->RelV y u->r x y H Q ->
  subscripted slice false v u=operate [v,u] (getItem v u)->wpAny (model X.prog X.w) X.A (subscriptTail value slice v u) (EP X pins σ Q) X.xe s
noncomputable def gQ (X:Cx) (id:String) (r:V->List V->Hp->VK->Prop):Prop :=
 ∀ (pins:List (Addr × Obj)) (s:Shared) (σ:St) (H:Hp) (x:V) (xs:List V) (v:Value) (us:List Value) (Q:VK),Inv X pins σ H s->RelV x v->Vals xs us->r x xs H Q ->
  wpAny (model X.prog X.w) X.A (call (.builtin id) (v::us)) (EP X pins σ Q) X.xe s
section
variable {X:Cx} {a b:Expr} {ta tb:TE} {pos:Pos}
theorem A_ {r:R2} (hr:ZP X r) (ha:PE X a ta) (hb:PE X b tb) (hs:V1 b):PE X (.Subscript a b pos) (ZK r ta tb):=by
 intro pins s σ H Q I h
 exact Subscript_ (Y0 ha hb I h fun v u s2 x y H2 I2 rx ry q=>hr a b pins s2 σ H2 x y v u Q I2 rx ry q (hs _ _))
noncomputable def cL (K:PySem.W.Frag):R2:=fun x y H Q=>∃ p xs i v,x=.ref p/\y=.int i/\DQ K H p xs/\SJ xs i=some v/\Q v H
noncomputable def Xm (K:PySem.W.Frag):R2:=fun x y H Q=>∃ p xs i v,x=.ref p/\y=.int i/\Gm K H p xs/\SJ xs i=some v/\Q v H
noncomputable def iT:R2:=fun x y H Q=>∃ z i c,x=.str z/\y=.int i/\z.length<=sizeLine/\SJ z.cps.toList i=some c/\Q (.str ⟨#[c]⟩) H
theorem Bv:ZP X (cL X.K):=by
 intro value slice pins s σ H x y v u Q I rx ry h hs
 obtain ⟨p,xs,i,z,rfl,rfl,hq,he,q⟩:=h
 cases rx
 obtain ⟨t,rfl⟩:=ry
 obtain ⟨its,r,pl,hz⟩:=I.list hq
 obtain ⟨j,h1,h2,h3,h4,h5⟩:=MP he
 obtain ⟨w,ew,rw'⟩:=r.get h2
 have hl:=r.length
 have hn:=Gu
 have fin:EP X pins σ Q w s:=⟨z,H,I,rw',q⟩
 by_cases h0:0<=i
 ·have hj:i.toNat=j:=by
   rw [seqIndex_of h0 h5] at h1
   exact Option.some.inj h1
  exact item_listR pl.isList h0 (by omega) (by rw [hj]; simpa using ew) fin hs
 ·have hj:(i+(its.toArray.size:Int)).toNat=j:=by
   rw [seqIndex_neg (by omega) h4] at h1
   rw [List.size_toArray,← hl]
   exact Option.some.inj h1
  exact subscriptTail_builtinR (x:=w) pl.isList.typeIs slot_list_getitem.lookup
   (wpAny_getItem_list_neg (Q:=fun r s'=>r=w/\EP X pins σ Q r s') pl.isList (by omega) (by rw [List.size_toArray] <;> omega) (by omega) (by rw [hj]; simpa using ew) ⟨rfl,fin⟩) hs
theorem Xe:ZP X (Xm X.K):=by
 intro value slice pins s σ H x y v u Q I rx ry h hs
 obtain ⟨p,xs,i,z,rfl,rfl,hq,he,q⟩:=h
 cases rx
 obtain ⟨t,rfl⟩:=ry
 obtain ⟨its,r,pl,hz⟩:=I.tuple hq
 obtain ⟨j,h1,h2,h3,h4,h5⟩:=MP he
 obtain ⟨w,ew,rw'⟩:=r.get h2
 have hl:=r.length
 have hn:=Gu
 have fin:EP X pins σ Q w s:=⟨z,H,I,rw',q⟩
 exact subscriptTail_builtinR (x:=w) pl.typeIs slot_tuple_getitem.lookup
  (getItem_tuple (j:=j) (Q:=fun r s'=>r=w/\EP X pins σ Q r s') pl (by omega) (by omega) (by rw [List.size_toArray,← hl]; exact h1) (by simpa using ew) ⟨rfl,fin⟩) hs
theorem Ui:ZP X iT:=by
 intro value slice pins s σ H x y v u Q I rx ry h hs
 obtain ⟨z,i,c,rfl,rfl,hz,he,q⟩:=h
 obtain ⟨t,rfl⟩:=rx
 obtain ⟨t',rfl⟩:=ry
 obtain ⟨j,h1,h2,h3,h4,h5⟩:=MP he
 have hl:z.cps.toList.length=z.length:=by simp [Str.length]
 rw [hl] at h1 h4 h5
 have hn:=Gu
 exact tail_any (typeIs_str s z t) slot_str_getitem.lookup (getItem_str (c:=c) (by
  have e1:decide (i < -(2 ^ 63:Int))=false:=decide_eq_false (by omega)
  have e2:decide (i ≥ 2 ^ 63)=false:=decide_eq_false (by omega)
  rw [e1,e2,Bool.or_false]) (by rw [h1]; simpa using h2) ⟨.str ⟨#[c]⟩,H,I.tok _,⟨_,rfl⟩,q⟩) hs
theorem PK (its:List Value) (n j:Nat) (u:Value):Obj.mapSeq (·.setIfInBounds j u) { cls:=.type "list",data:=.seq its.toArray n } = { cls:=.type "list",data:=.seq (its.set j u).toArray n }:=by
 simp [Obj.mapSeq]
theorem Inv.lst {pins:List (Addr × Obj)} {σ:St} {H:Hp} {s:Shared} {p:Addr} {xs:List V} (I:Inv X pins σ H s) (h:H p=some (.lst xs)) :
  ∃ (its:List Value) (n:Nat),Vals xs its/\s.heap.get? p=some { cls:=.type "list",data:=.seq its.toArray n }/\xs.length<=sizeLine:=by
 obtain ⟨z,its,n,r,e⟩:=I.hok p _ h
 exact ⟨its,n,r,e,z⟩
theorem Inv.Ye {pins:List (Addr × Obj)} {σ:St} {H:Hp} {s:Shared} {p:Addr} {xs ys:List V} {its its':List Value} {n n':Nat} {f:Obj->Obj} (I:Inv X pins σ H s) (h:H p=some (.lst xs))
  (ho:s.heap.get? p=some { cls:=.type "list",data:=.seq its.toArray n }) (hf:f { cls:=.type "list",data:=.seq its.toArray n } = { cls:=.type "list",data:=.seq its'.toArray n' }) (r:Vals ys its') (hz:ys.length<=sizeLine) (t:Nat) :
  Inv X pins σ (upd H p (.lst ys)) { s with heap:=s.heap.update p f,toks:=t }:=by
 have e:(s.heap.update p f).get? p=some { cls:=.type "list",data:=.seq its'.toArray n' }:=by
  rw [Heap.get?_update_self f ho (by rw [hf] <;> rfl),hf]
 refine I.write (x:=p) (e:=p) (by rw [h]; trivial) (.inl rfl) (fun b u hb q=>(Heap.get?_update_other _ _ (Ne.symm hb)).trans q) ⟨_,e⟩ ?_
 exact ⟨hz,its',n',r,e⟩
noncomputable def Zb:V->V->V->Hp->(Hp->Prop)->Prop:=fun o i v H Q=>∃ p xs k j,o=.ref p/\i=.int k/\H p=some (.lst xs)/\VR xs.length k=some j/\Q (upd H p (.lst (xs.set j v)))
theorem set_list:d_ X Zb:=by
 intro pins s σ H o i v ov iv u Q I ro ri rv h
 obtain ⟨p,xs,k,j,rfl,rfl,hp,hj,q⟩:=h
 cases ro
 obtain ⟨t,rfl⟩:=ri
 obtain ⟨its,n,r,ho,hz⟩:=I.lst hp
 obtain ⟨h1,h2,h3,h4⟩:=Qm hj
 have hl:=r.length
 have hn:=Gu
 have I':Inv X pins σ (upd H p (.lst (xs.set j v))) { s with heap:=s.heap.update p (Obj.mapSeq (·.setIfInBounds j u)) } :=
  I.Ye hp ho (PK its n j u) (r.set rv j) (by rw [List.length_set]; exact hz) s.toks
 by_cases h0:0<=k
 ·have hk:k.toNat=j:=by
   rw [seqIndex_of h0 h4] at h1
   exact Option.some.inj h1
  exact PySem.W.ki_setAt ho h0 (by omega) (by rw [List.size_toArray,← hl]; exact h4) (by rw [hk]; exact ⟨_,I',q⟩)
 ·have hk:(k+(its.toArray.size:Int)).toNat=j:=by
   rw [seqIndex_neg (by omega) h3] at h1
   rw [List.size_toArray,← hl]
   exact Option.some.inj h1
  exact PySem.W.ki_setBack ho (by omega) (by rw [List.size_toArray,← hl]; exact h3) (by omega) (by rw [hk]; exact ⟨_,I',q⟩)
theorem Lw (lo hi:Option Int) (n:Nat):(sliceBounds lo hi none n).1=((HT.Dg n 0 lo:Nat):Int)/\(sliceBounds lo hi none n).2.1=((HT.Dg n n hi:Nat):Int)/\(sliceBounds lo hi none n).2.2=1:=by
 refine ⟨?_,?_,rfl⟩
 ·cases lo with
  | none=>simp [sliceBounds,HT.Dg]
  | some i =>
   simp only [sliceBounds,HT.Dg,Option.getD_none,show (1:Int) > 0 by decide,if_true]
   by_cases h:i<0
   ·simp only [h,if_true] <;> omega
   ·simp only [h,if_false] <;> omega
 ·cases hi with
  | none=>simp [sliceBounds,HT.Dg]
  | some i =>
   simp only [sliceBounds,HT.Dg,Option.getD_none,show (1:Int) > 0 by decide,if_true]
   by_cases h:i<0
   ·simp only [h,if_true] <;> omega
   ·simp only [h,if_false] <;> omega
theorem Kl (its:List Value) (lo hi:Option Int):slicePick its.toArray lo hi none=((its.drop (HT.Dg its.length 0 lo)).take (HT.Dg its.length its.length hi - HT.Dg its.length 0 lo)).toArray:=by
 obtain ⟨h1,h2,h3⟩:=Lw lo hi its.toArray.size
 unfold slicePick
 rw [h1,h2,h3]
 simp only [sliceRange_one,pick_run,List.size_toArray] <;> rfl
noncomputable def mD (K:PySem.W.Frag):V->Option Int->Option Int->Hp->VK->Prop:=fun x lo hi H Q=>∃ a xs,x=.ref a/\DQ K H a xs/\∀ p,H p=none->Q (.ref p) (upd H p (.lst (Dn xs lo hi)))
theorem FJ:bH X (mD X.K):=by
 intro pins s σ H x v vl vu lo hi sl Q I rx hs pl pu h
 obtain ⟨a,xs,rfl,hx,q⟩:=h
 cases rx
 obtain ⟨its,r,ht,hz⟩:=I.list hx
 have hlen:=r.length
 refine ⟨"list",_,slot_list_getitem.lookup,ht.isList.typeIs,?_⟩
 refine wpAny_getItem_list_slice ht.isList hs pl pu .none (by simp) ?_ (by rw [List.size_toArray] <;> omega)
 rw [Kl,← hlen]
 refine ⟨.ref s.heap.objs.size,_,I.laid (t':=s.toks) (o:=.lst (Dn xs lo hi)) (fun b ob q=>Heap.get?_push_of_some _ q) (Nat.le_refl _) ?_,rfl,q _ (I.hok.fresh (Nat.le_refl _))⟩
 exact ⟨Nat.le_trans (Jf xs lo hi) hz,_,0,(r.drop (HT.Dg xs.length 0 lo)).take (HT.Dg xs.length xs.length hi - HT.Dg xs.length 0 lo),Heap.get?_push_size _ rfl⟩
noncomputable def Es:V->Bool
 | .non=>true
 | .bl _=>true
 | .int _=>true
 | .str _=>true
 | _=>false
noncomputable def Mg:V->V->Bool
 | .non,.non=>true
 | .bl a,.bl b=>a == b
 | .bl a,.int b=>(if a then 1 else 0) == b
 | .int a,.bl b=>a == (if b then 1 else 0)
 | .int a,.int b=>a == b
 | .str a,.str b=>a == b
 | _,_=>false
theorem Xi {A:Around} {s:Shared} {y x:V} {u v:Value} (ry:RelV y u) (rx:RelV x v) (fy:Es y=true) (fx:Es x=true):SeqAt.EqAt A s u v (Mg y x):=by
 cases y with
 | non =>
  cases ry
  cases x with
  | non=>cases rx; exact SeqAt.EqAt.same _
  | bl b=>cases rx; exact SeqAt.EqAt.none_bool b
  | int b=>obtain ⟨t,rfl⟩:=rx; exact SeqAt.EqAt.none_int b t
  | str b=>obtain ⟨t,rfl⟩:=rx; exact SeqAt.EqAt.none_str b t
  | _=>exact absurd (show false=true from fx) Bool.false_ne_true
 | bl a =>
  cases ry
  cases x with
  | non=>cases rx; exact SeqAt.EqAt.bool_none a
  | bl b=>cases rx; exact SeqAt.EqAt.bool_bool a b
  | int b=>obtain ⟨t,rfl⟩:=rx; exact SeqAt.EqAt.bool_int a b t
  | str b=>obtain ⟨t,rfl⟩:=rx; exact SeqAt.EqAt.bool_str a b t
  | _=>exact absurd (show false=true from fx) Bool.false_ne_true
 | int a =>
  obtain ⟨t',rfl⟩:=ry
  cases x with
  | non=>cases rx; exact SeqAt.EqAt.int_none a t'
  | bl b=>cases rx; exact SeqAt.EqAt.int_bool a t' b
  | int b=>obtain ⟨t,rfl⟩:=rx; exact SeqAt.EqAt.int_int a t' b t
  | str b=>obtain ⟨t,rfl⟩:=rx; exact SeqAt.EqAt.int_str a t' b t
  | _=>exact absurd (show false=true from fx) Bool.false_ne_true
 | str a =>
  obtain ⟨t',rfl⟩:=ry
  cases x with
  | non=>cases rx; exact SeqAt.EqAt.str_none a t'
  | bl b=>cases rx; exact SeqAt.EqAt.str_bool a t' b
  | int b=>obtain ⟨t,rfl⟩:=rx; exact SeqAt.EqAt.str_int a t' b t
  | str b=>obtain ⟨t,rfl⟩:=rx; exact SeqAt.EqAt.str_str a t' b t
  | _=>exact absurd (show false=true from fx) Bool.false_ne_true
 | _=>exact absurd (show false=true from fy) Bool.false_ne_true
noncomputable def R_ (x:V) (u:Value):Bool:=match u with
 | .none=>Mg .non x
 | .bool b=>Mg (.bl b) x
 | .int i _=>Mg (.int i) x
 | .str z _=>Mg (.str z) x
 | _=>false
theorem Mq {x y:V} {u:Value} (r:RelV y u) (f:Es y=true):R_ x u=Mg y x:=by
 cases y with
 | non=>cases r; rfl
 | bl b=>cases r; rfl
 | int i=>obtain ⟨t,rfl⟩:=r; rfl
 | str z=>obtain ⟨t,rfl⟩:=r; rfl
 | _=>exact absurd (show false=true from f) Bool.false_ne_true
theorem MT {x:V}:∀ {xs:List V} {us:List Value},Vals xs us->xs.all Es=true->us.any (R_ x)=xs.any fun y=>Mg y x
 | _,_,.nil,_=>rfl
 | y::xs,u::us,.cons r t,f=>by
  rw [List.all_cons,Bool.and_eq_true] at f
  rw [List.any_cons,List.any_cons,Mq r f.1,MT t f.2]
theorem Hz {A:Around} {s:Shared} {x:V} {v:Value} (rx:RelV x v) (fx:Es x=true):∀ {xs:List V} {us:List Value},Vals xs us->xs.all Es=true->∀ u∈us,SeqAt.EqAt A s u v (R_ x u)
 | _,_,.nil,_=>fun u hu=>by cases hu
 | y::xs,u::us,.cons r t,f=>fun u' hu=>by
  rw [List.all_cons,Bool.and_eq_true] at f
  rcases List.mem_cons.mp hu with rfl | hu
  ·rw [Mq r f.1]; exact Xi r rx f.1 fx
  ·exact Hz rx fx t f.2 u' hu
noncomputable def inV (x:V) (xs:List V):Bool:=xs.any fun y=>Mg y x
noncomputable def oH (K:PySem.W.Frag) (neg:Bool):R2:=fun x y H Q=>∃ p xs,y=.ref p/\(DQ K H p xs \/ Gm K H p xs)/\Es x=true/\xs.all Es=true/\Q (.bl (if neg then !inV x xs else inV x xs)) H
theorem Qy:Hh X (compareOp .In) (oH X.K false):=by
 intro pins s σ H x y v u Q I rx ry h
 obtain ⟨p,xs,rfl,hq,fx,fs,q⟩:=h
 cases ry
 rcases hq with hq | hq
 ·obtain ⟨its,r,pl,hz⟩:=I.list hq
  refine SeqAt.in_listAt (R_ x) pl.isList (fun w hw=>Hz rx fx r fs w (by simpa using hw)) ⟨.bl _,H,I,rfl,?_⟩
  rw [show its.toArray.any (R_ x)=its.any (R_ x) by simp,MT r fs]
  exact q
 ·obtain ⟨its,r,pl,hz⟩:=I.tuple hq
  refine SeqAt.in_tupleAt (R_ x) pl (fun w hw=>Hz rx fx r fs w (by simpa using hw)) ⟨.bl _,H,I,rfl,?_⟩
  rw [show its.toArray.any (R_ x)=its.any (R_ x) by simp,MT r fs]
  exact q
theorem BZ:Em X (.builtin "len") (fun xs H Q=>∃ p ys,xs=[.ref p]/\(DQ X.K H p ys \/ Gm X.K H p ys)/\Q (.int ys.length) H):=by
 intro pins s σ H xs us Q I r h
 obtain ⟨p,ys,rfl,hq,q⟩:=h
 obtain ⟨u,rfl,rx⟩:=vals1 r
 cases rx
 have hn:=Gu
 rcases hq with hq | hq
 ·obtain ⟨its,r',pl,hz⟩:=I.list hq
  have hlen:=r'.length
  exact Calls.call_len_list pl.isList (by simp only [List.size_toArray] <;> omega) ⟨.int ys.length,H,I.tok _,⟨s.toks+1,by rw [List.size_toArray,hlen]⟩,q⟩
 ·obtain ⟨its,r',pl,hz⟩:=I.tuple hq
  have hlen:=r'.length
  exact len_tuple pl (by simp only [List.size_toArray] <;> omega) ⟨.int ys.length,H,I.tok _,⟨s.toks+1,by rw [List.size_toArray,hlen]⟩,q⟩
theorem IK:Em X (.builtin "len") (fun xs H Q=>∃ z,xs=[.str z]/\z.length<=sizeLine/\Q (.int z.length) H):=by
 intro pins s σ H xs us Q I r h
 obtain ⟨z,rfl,hz,q⟩:=h
 obtain ⟨u,rfl,t,rfl⟩:=vals1 r
 have hn:=Gu
 exact len_str (by omega) ⟨.int z.length,H,I.tok _,⟨_,rfl⟩,q⟩
theorem Iz:Em X (.type "list") (fun xs H Q=>∃ p ys,xs=[.ref p]/\(DQ X.K H p ys \/ Gm X.K H p ys)/\∀ l,H l=none->Q (.ref l) (upd H l (.lst ys))):=by
 intro pins s σ H xs us Q I r h
 obtain ⟨p,ys,rfl,hq,q⟩:=h
 obtain ⟨u,rfl,rx⟩:=vals1 r
 cases rx
 have fin:∀ (its:List Value),Vals ys its->ys.length<=sizeLine->∀ (h':Heap) (c':Nat),(∀ b o',s.heap.get? b=some o'->h'.get? b=some o') ->
   h'.get? s.heap.objs.size=some { cls:=.type "list",dict:=none,data:=.seq its.toArray c',slots:=#[] }->EP X pins σ Q (.ref s.heap.objs.size) { s with heap:=h' }:=fun its r' hz h' c' kp e =>
  ⟨.ref s.heap.objs.size,_,I.laid (t':=s.toks) kp (Nat.le_refl _) (show Bx X.prog X.w _ h' _ (.lst ys) from ⟨hz,its,c',r',e⟩),rfl,q _ (I.hok.fresh (Nat.le_refl _))⟩
 rcases hq with hq | hq
 ·obtain ⟨its,r',pl,hz⟩:=I.list hq
  have hlen:=r'.length
  obtain ⟨o,ho,hc,n,hd⟩:=pl.isList
  exact call_list_seq p (.inl rfl) ho hc hd (fun h' c' kp e=>fin its r' hz h' c' kp e) (by simp only [List.size_toArray] <;> omega)
 ·obtain ⟨its,r',pl,hz⟩:=I.tuple hq
  have hlen:=r'.length
  obtain ⟨o,ho,hc,n,hd⟩:=pl
  exact call_list_seq p (.inr rfl) ho hc hd (fun h' c' kp e=>fin its r' hz h' c' kp e) (by simp only [List.size_toArray] <;> omega)
theorem Kg:Em X (.type "tuple") (fun xs H Q=>∃ p ys,xs=[.ref p]/\((DQ X.K H p ys/\∀ l,H l=none->Q (.ref l) (upd H l (.tup ys))) \/ (Gm X.K H p ys/\Q (.ref p) H))):=by
 intro pins s σ H xs us Q I r h
 obtain ⟨p,ys,rfl,h⟩:=h
 obtain ⟨u,rfl,rx⟩:=vals1 r
 cases rx
 rcases h with ⟨hq,q⟩ | ⟨hq,q⟩
 ·obtain ⟨its,r',pl,hz⟩:=I.list hq
  have hlen:=r'.length
  refine call_tuple_list pl.isList (fun h' kp=>?_) (by simp only [List.size_toArray] <;> omega)
  have I1:Inv X pins σ H { s with heap:=h' }:=I.kept (t':=s.toks) kp
  have I2:Inv X pins σ (upd H h'.objs.size (.tup ys)) { s with heap:=h'.push { cls:=.type "tuple",data:=.seq its.toArray } } :=
   I1.laid (t':=s.toks) (fun b o e=>Heap.get?_push_of_some _ e) (Nat.le_refl _) (show Bx X.prog X.w _ _ _ (.tup ys) from ⟨hz,its,r',IsTup.new _ _⟩)
  exact ⟨.ref h'.objs.size,_,I2,rfl,q _ (I1.hok.fresh (Nat.le_refl _))⟩
 ·obtain ⟨its,r',pl,hz⟩:=I.tuple hq
  exact call_tuple_same pl ⟨.ref p,H,I,rfl,q⟩
noncomputable def oY (K:PySem.W.Frag) (T:String) (x:V) (H:Hp):Prop:=match x with
 | .str _=>T = "str"
 | .int _=>T = "int"
 | .ref p=>(T = "list" /\ ∃ xs,DQ K H p xs) \/ (T = "tuple" /\ ∃ o,K.lookup p=some o/\o.cls=.type "tuple" /\ o.dict=none) \/
   (T = "dict" /\ ((∃ kvs,H p=some (.dK kvs)) \/ ∃ kvs,H p=some (.dT kvs))) \/ (T = "set" /\ ∃ S n,H p=some (.set S n))
 | _=>False
theorem Yh {pins:List (Addr × Obj)} {σ:St} {H:Hp} {s:Shared} {T:String} {x:V} {v:Value} (I:Inv X pins σ H s) (r:RelV x v) (ty:oY X.K T x H) :
  s.TypeIs v T/\∀ a,v=.ref a->∃ ob,s.heap.get? a=some ob/\ob.dict=none:=by
 cases x with
 | str z =>
  obtain ⟨t,rfl⟩:=r
  cases (show T = "str" from ty)
  exact ⟨typeIs_str s z t,fun _ e=>nomatch e⟩
 | int i =>
  obtain ⟨t,rfl⟩:=r
  cases (show T = "int" from ty)
  exact ⟨typeIs_int s i t,fun _ e=>nomatch e⟩
 | ref p =>
  cases r
  rcases ty with ⟨rfl,xs,hq⟩ | ⟨rfl,o,hk,hc,hd⟩ | ⟨rfl,hk⟩ | ⟨rfl,S,n,hk⟩
  ·obtain ⟨its,_,pl,_⟩:=I.list hq
   refine ⟨pl.isList.typeIs,fun a e=>?_⟩
   cases e
   obtain ⟨o,n,e,c,hd,_⟩:=pl
   exact ⟨o,e,hd⟩
  ·refine ⟨⟨o,I.GJ p o hk,hc⟩,fun a e=>?_⟩
   cases e
   exact ⟨o,I.GJ _ o hk,hd⟩
  ·have z:∃ o,s.heap.get? p=some o/\o.ExactDict:=by
    rcases hk with ⟨kvs,hk⟩ | ⟨kvs,hk⟩
    ·obtain ⟨_,_,_,_,o,_,_,e,ex,_⟩:=I.hok p _ hk
     exact ⟨o,e,ex⟩
    ·obtain ⟨_,_,_,_,o,_,_,e,ex,_⟩:=I.hok p _ hk
     exact ⟨o,e,ex⟩
   obtain ⟨o,e,ex⟩:=z
   refine ⟨⟨o,e,ex.1⟩,fun a e2=>?_⟩
   cases e2
   exact ⟨o,e,ex.2.1⟩
  ·obtain ⟨o,_,_,_,e,ex,_⟩:=I.hok p _ hk
   refine ⟨⟨o,e,ex.1⟩,fun a e2=>?_⟩
   cases e2
   exact ⟨o,e,ex.2.1⟩
 | _=>exact False.elim ty
noncomputable def oU (K:PySem.W.Frag) (T:String) (r:V->List V->Hp->VK->Prop) (to:TE) (t:TA):TE:=fun σ H Q=>to σ H fun x H1=>oY K T x H1/\t σ H1 fun xs H2=>r x xs H2 Q
variable {o e:Expr} {es:List Expr} {to:TE} {t:TA} {name:Str} {apos cpos:Pos} {T id:String} {r:V->List V->Hp->VK->Prop}
theorem El (pa:PlainAttrs T) (slot:Slot T name id) (hty:typeOf (.builtin id)=pure (.type "method_descriptor")) (hm:gQ X id r) (ho:PE X o to) (ha:PA X (e::es) t)
  (hbase:attributeBase o name X.env (eval o X.env)=eval o X.env:=by rfl)
  (hfew:((backTo cpos (starEach (e::es) X.env)).all (fun x=>!x.1) && (backToKw cpos (keywordEach [] X.env)).all (fun x=>x.1.isSome)
   && decide ((e::es).length+([]:List Keyword).length+(if ([]:List Keyword).isEmpty then 0 else 1)<30))=true:=by rfl)
  (hline:(apos.endLine == cpos.line)=true:=by rfl) (hs:starEach (e::es) X.env=(false,eval e X.env)::starEach es X.env:=by rfl) (hplain:(backTo cpos (starEach es X.env)).any (·.1)=false:=by rfl) :
  PE X (.Call (.Attribute o name apos) (e::es) [] cpos) (oU X.K T r to t):=by
 intro pins s σ H Q I h
 refine wpAny_Call_method_late hbase hfew hline rfl (By (ho pins s σ H _ I h) fun v s1 hq0=>?_)
 obtain ⟨x,H1,I1,r1,ty,q1⟩:=hq0
 obtain ⟨h1,h2⟩:=Yh I1 r1 ty
 refine ⟨T,id,pa,slot,hty,h1,h2,?_⟩
 have hA:=ha cpos pins s1 σ H1 _ I1 q1
 rw [hs] at hA ⊢
 refine Calls.callWith_builtin (by show (false || (backTo cpos (starEach es X.env)).any (·.1))=false; rw [hplain] <;> rfl) (Calls.evalArgs_plain ?_)
 exact By hA fun us s2 ⟨vs,H2,I2,r2,q2⟩=>hm pins s2 σ H2 x vs v us Q I2 r1 r2 q2
end
end L2
namespace L2
open PySem PySem.Spec PyProof.Rows
noncomputable def oJ (X:Cx) (id:String) (r:V->List V->Hp->VK->Prop):Prop :=
 ∀ (pins:List (Addr × Obj)) (s:Shared) (σ:St) (H:Hp) (x:V) (xs:List V) (v:Value) (us:List Value) (Q:VK),Inv X pins σ H s->RelV x v->Vals xs us->r x xs H Q ->
  wpAny (model X.prog X.w) X.A (call (.builtin id) (v::us)) (EP X pins σ Q) X.xe s
theorem Vals.one:∀ {x:V} {us:List Value},Vals [x] us->∃ u,us=[u]/\RelV x u
 | _,_,.cons r .nil=>⟨_,rfl,r⟩
theorem Vals.two:∀ {x y:V} {us:List Value},Vals [x,y] us->∃ u v,us=[u,v]/\RelV x u/\RelV y v
 | _,_,_,.cons r (.cons q .nil)=>⟨_,_,rfl,r,q⟩
section
variable {X:Cx} {pins:List (Addr × Obj)} {σ:St} {H:Hp} {s:Shared} {l b:Addr} {xs ys zs:List V}
theorem Inv.aJ {its its':List Value} {n:Nat} {f:Array Value->Array Value} {t':Nat} (I:Inv X pins σ H s) (hH:H l=some (.lst xs))
  (e:s.heap.get? l=some { cls:=.type "list",data:=.seq its.toArray n }) (hf:f its.toArray=its'.toArray) (hv:Vals ys its') (hz:ys.length<=sizeLine) :
  Inv X pins σ (upd H l (.lst ys)) { s with heap:=s.heap.update l (Obj.mapSeq f),toks:=t' }:=by
 have q:=PySem.IsL.update e f
 rw [hf] at q
 refine I.write (x:=l) (e:=l) (by rw [hH]; exact trivial) (.inl rfl) (fun b' u hb hu=>(Heap.get?_update_other s.heap (Obj.mapSeq f) (Ne.symm hb)).trans hu) ⟨_,q⟩ ?_
 exact ⟨hz,its',_,hv,q⟩
theorem Inv.Yk {its:List Value} {t':Nat} (I:Inv X pins σ H s) (hv:Vals ys its) (hz:ys.length<=sizeLine) :
  Inv X pins σ (upd H s.heap.objs.size (.lst ys)) { s with heap:=s.heap.push { cls:=.type "list",data:=.seq its.toArray },toks:=t' } :=
 I.laid (fun _ _ q=>Heap.get?_push_of_some _ q) (Nat.le_refl _) ⟨hz,its,0,hv,Heap.get?_push_size _ rfl⟩
theorem Inv.fresh (I:Inv X pins σ H s):H s.heap.objs.size=none:=I.hok.fresh (Nat.le_refl _)
theorem Inv.VN (I:Inv X pins σ H s) (hH:H l=some (.lst xs)):xs.length<=sizeLine/\∃ (its:List Value) (n:Nat),Vals xs its/\xs.length=its.length/\s.heap.get? l=some { cls:=.type "list",data:=.seq its.toArray n }:=by
 obtain ⟨z,its,n,r,e⟩:=I.hok l _ hH
 exact ⟨z,its,n,r,r.length,e⟩
theorem UT {n:Nat} (h:n<=sizeLine):Builtin.List.listTooLong n=false:=by
 unfold Builtin.List.listTooLong
 exact decide_eq_false (by omega)
end
section
variable {X:Cx}
noncomputable def Vf:V->List V->Hp->VK->Prop:=fun x vs H Q=>∃ l xs y,x=.ref l/\vs=[y]/\H l=some (.lst xs)/\xs.length<sizeLine/\Q .non (upd H l (.lst (xs++[y])))
theorem Br:oJ X "list.append" Vf:=by
 intro pins s σ H x vs v us Q I rx rv h
 obtain ⟨l,xs,y,rfl,rfl,hH,hz,q⟩:=h
 cases rx
 obtain ⟨u,rfl,ru⟩:=rv.one
 obtain ⟨z,its,n,r,hl,e⟩:=I.VN hH
 refine call_meets F.slot_list_append ⟨_,e,rfl⟩ F.entry_list_append (F.args_list_append_2 _ _) (PySem.list_append l its.toArray n u (by rw [List.size_toArray]; omega)) ⟨e,?_⟩
 refine ⟨.non,_,I.aJ (its':=its++[u]) hH e (by simp) (r.append (.cons ru .nil)) ?_,rfl,q⟩
 rw [List.length_append,List.length_singleton]
 omega
noncomputable def Vq:V->List V->Hp->VK->Prop:=fun x vs H Q=>∃ l b xs zs,x=.ref l/\vs=[.ref b]/\H l=some (.lst xs)/\H b=some (.lst zs)/\xs.length+zs.length<=sizeLine/\Q .non (upd H l (.lst (xs++zs)))
theorem Q5:oJ X "list.extend" Vq:=by
 intro pins s σ H x vs v us Q I rx rv h
 obtain ⟨l,b,xs,zs,rfl,rfl,hH,hB,hz,q⟩:=h
 cases rx
 obtain ⟨u,rfl,ru⟩:=rv.one
 cases ru
 obtain ⟨z,its,n,r,hl,e⟩:=I.VN hH
 obtain ⟨z2,its2,n2,r2,hl2,e2⟩:=I.VN hB
 have hsz:its.toArray.size+its2.toArray.size<=sizeLine:=by rw [List.size_toArray,List.size_toArray]; omega
 have hlong:¬ (!its.toArray.isEmpty && Builtin.List.listTooLong (its.toArray.size+its2.toArray.size))=true:=by
  rw [UT hsz,Bool.and_false]
  exact Bool.false_ne_true
 refine call_meets F.slot_list_extend ⟨_,e,rfl⟩ F.entry_list_extend (F.args_list_extend_2 _ _)
  (AutoSeq1.list_extend_list_list_0 l its.toArray n b its2.toArray n2 hlong (by rw [List.size_toArray]; omega) (by omega)) ⟨e,e2,?_⟩
 refine ⟨.non,_,I.aJ (its':=its++its2) hH e (by simp) (r.append r2) ?_,rfl,q⟩
 rw [List.length_append]
 omega
noncomputable def iZ:R2:=fun x y H Q=>∃ l b xs zs,x=.ref l/\y=.ref b/\H l=some (.lst xs)/\H b=some (.lst zs)/\xs.length+zs.length<=sizeLine/\∀ p,H p=none->Q (.ref p) (upd H p (.lst (xs++zs)))
theorem PL:Hh X (binaryOp .Add) iZ:=by
 intro pins s σ H x y v u Q I rx ry h
 obtain ⟨l,b,xs,zs,rfl,rfl,hH,hB,hz,q⟩:=h
 cases rx
 cases ry
 obtain ⟨z,its,n,r,hl,e⟩:=I.VN hH
 obtain ⟨z2,its2,n2,r2,hl2,e2⟩:=I.VN hB
 refine PySem.P.add_list e e2 ?_ (by rw [List.size_toArray,List.size_toArray]; omega)
 have ea:its.toArray++its2.toArray=(its++its2).toArray:=by simp
 rw [ea]
 exact ⟨.ref _,_,I.Yk (t':=s.toks) (r.append r2) (by rw [List.length_append]; omega),rfl,q _ I.fresh⟩
end
section
variable {prog:Program} {w:World} {A:Around} {E:Value->Shared->Prop} {s:Shared}
end
section
variable {X:Cx}
end
end L2
namespace Att
open PySem PySem.W PySem.Calls PyProof.Rows
theorem Jl {P:Params} {h:Heap}:∀ (ns:List Int) (vs:List Value),WellAll P h vs (ns.map WData.int)->IntsAre vs ns:=by
 intro ns
 induction ns with
 | nil =>
  intro vs w
  rw [List.map_nil] at w
  cases w
  exact .nil
 | cons n ns ih =>
  intro vs w
  rw [List.map_cons] at w
  cases w with
  | cons a b =>
   cases a
   exact .cons _ _ (ih _ b)
theorem Q3 {l:OpenLaw} {n:Nat} (hn:l.most=some n) {P:Params} {h:Heap} {args:List WData} {vals:List Value}
  (hpre:l.row.toRowW.claim.pre args=true) (hwl:WellAll P h vals args) :
  ∃ a vs ns,vals=[Value.ref a]/\args=[WData.list (ns.map WData.int)]/\h.get? a=some { cls:=.type "list",data:=.seq vs.toArray }/\IntsAre vs ns/\ns.length<=n:=by
 have hsh:WShape.hasAll [] args [.list .int]=true:=(pre_splitW hpre).1
 have hc:l.pre.holds [] { args:=args }=true:=(pre_splitW hpre).2
 obtain ⟨d,r,rfl,h1,h2⟩:=hasAllW_cons hsh
 obtain rfl:=hasAllW_nil h2
 obtain ⟨xs,rfl,h3⟩:=hasW_list h1
 obtain ⟨ns,rfl⟩:=items_int h3
 have hlen:ns.length<=n:=by
  unfold OpenLaw.pre at hc
  have h4:(WTm.not (.lt (.lit (.int (n:Int))) (.len (.arg 0)))).holds [] { args:=[.list (ns.map .int)] }=true:=by
   have h4:=(holds_andW hc).1
   rw [hn] at h4
   exact h4
  have h5:=condW_of h4 (w_not (w_lt w_lit (w_len_list (w_arg rfl))))
  rw [List.length_map] at h5
  refine Nat.le_of_not_lt fun q=>?_
  have q':(n:Int)<((ns.length:Nat):Int):=by omega
  first
   | (rw [decide_eq_true q'] at h5; exact absurd h5 (by decide))
   | (simp at h5; omega)
 cases hwl with
 | cons w1 w2 =>
  cases w2
  cases w1 with
  | list ho hall=>exact ⟨_,_,ns,rfl,rfl,ho,Jl ns _ hall,hlen⟩
theorem Rg (l:OpenLaw) (args:List WData):l.row.toRowW.claim.post args (.bool true) args=true :=
 postW_of (r:=l.row.toRowW) (X:=(true == true))
  (show WShape.has [] (.bool true) .bool=true by first | rfl | decide | simp [WShape.has,WShape.arms,WShape.armsAll])
  (show (WTm.eq .res (.lit (.bool true))).value [] { args:=args,res:=some (.bool true),after:=args }=some (.bool (true == true)) from w_eq_bool (w_res rfl) w_lit) rfl
theorem OJ {l:OpenLaw} {n:Nat} {q:Program} {loose:List Str} {XP:(Str->Option Value)->Heap->Prop} {YP:World->Heap->Prop} {d:DefRec}
  (hn:l.most=some n) (hdf:d.params.defaults=[])
  (call:∀ (w:World) (s₀ s₁:Shared) (mg mb:Str->Option Value) (fa:Addr) (o:Obj) (pm cd doc:Value) (a:Addr) (vs:List Value) (ns:List Int),
   Ground q loose [] XP w s₀ mg mb s₁.heap->YP w s₁.heap ->
   s₁.heap.get? fa=some o->o.data=.func (docDef d.name d.params d.body d.scope pm cd doc)->s₁.heap.CodeRec cd d.name->mg d.name=some (.ref fa) ->
   s₁.heap.get? a=some { cls:=.type "list",data:=.seq vs.toArray }->IntsAre vs ns->ns.length<=n->s₁.gens = #[] ->
   codeAny (model l.prog w) callerA (.call (.ref fa) ⟨[.ref a],[]⟩) (fun r s'=>r=.ok (.ret (.bool true))/\OldK s₁.heap s'.heap/\s'.os=s₁.os/\AllBare s'.gens) s₁) :
  WalkO q loose XP YP l.row.toRowW d [] (fun f vs=>PySem.call f vs):=by
 intro w s₀ s₁ mg mb G Y fa o pm cd doc dV kV ho hd hcd hD hmg hg args vals as hpre hlay hrd hwl hlo
 obtain rfl:dV=.none:=Dflts.none hD hdf
 obtain rfl:kV=.none:=Dflts.noKw hD
 obtain ⟨a,vs,ns,rfl,rfl,hobj,hints,hlen⟩:=Q3 hn hpre hwl
 refine enter_call (codeAny_mono (call w s₀ s₁ mg mb fa o pm cd doc a vs ns G Y ho (fd_plain hd) hcd hmg hobj hints hlen hg) fun r s' hq=>?_)
 obtain ⟨rfl,h2,h3,h4⟩:=hq
 exact ⟨.inl ⟨.bool true,.bool true,[],rfl,fun _=>rfl,.bool true,Rg l _,fun _=>⟨List.Pairwise.nil,fun _ hm=>(nomatch hm)⟩⟩,h2,h3,h4⟩
section
variable {prog:Program} {w:World} {A:Around} {E:Value->Shared->Prop} {s:Shared} {K:Frag}
end
end Att
namespace L2
open PySem PySem.Spec PyProof.Rows
theorem Lb:∀ {vs:List Value} {ns:List Int},IntsAre vs ns->Vals (ns.map V.int) vs
 | _,_,.nil=>.nil
 | _,_,.cons n t h=>.cons ⟨t,rfl⟩ (Lb h)
noncomputable def Only (H:Hp):Prop:=∀ b,H b=none \/ ∃ o xs,H b=some (.frz o (.lst xs))
theorem Tz {P:Program} {w:World} {K:PySem.W.Frag} {mg mb:Str->Option Value} {CX:Mw} {k:Nat} {fa a:Addr} {fd:FuncData} {x:Str} {sp:Sp} {s₁:Shared} {vs:List Value} {ns:List Int}
  (KX:K.In s₁.heap) (hns:s₁.heap.Ns mainGlobals mg) (hb:s₁.heap.Ns builtinsNs mb) (hbb:∀ x:Str,x ≠ "__name__"->mb x=bootBuiltins x) (hlim:s₁.heap.NoLimit) (hg:s₁.gens = #[])
  (ha:s₁.heap.get? a=some { cls:=.type "list",data:=.seq vs.toArray }) (hi:IntsAre vs ns) (hl:ns.length<=sizeLine) (hr:BX k callerA)
  (F:∀ base:Heap,K.In base->base.Ns mainGlobals mg->Aw P w K mg base CX k fa fd [x] sp) (hbind:∀ (s:Shared) (u:Value),BindsTo s fd ⟨[u],[]⟩ [(x,u)])
  (hsp:∀ H:Hp,Only H->DQ K H a (ns.map V.int)->sp [.ref a] H (fun v _=>v=.bl true) fun _ _ _=>False)
  (hCX:∀ H e s',CX [] H s₁ (fun _ _ _=>False) e s'->False) :
  codeAny (model P w) callerA (.call (.ref fa) ⟨[.ref a],[]⟩) (fun r s'=>r=.ok (.ret (.bool true))/\OldK s₁.heap s'.heap/\s'.os=s₁.os/\AllBare s'.gens) s₁:=by
 have rv:=Lb hi
 have lenV:=hi.length
 have core:∀ H:Hp,Only H->DQ K H a (ns.map V.int)->Ei P w H s₁.heap->(∀ b,H b ≠ none->b=a)->(H a ≠ none->K.lookup a=none) ->
   codeAny (model P w) callerA (.call (.ref fa) ⟨[.ref a],[]⟩) (fun r s'=>r=.ok (.ret (.bool true))/\OldK s₁.heap s'.heap/\s'.os=s₁.os/\AllBare s'.gens) s₁:=by
  intro H hO hS hok hA hK
  have base_of:∀ {b:Addr} {o:Obj},s₁.heap.get? b=some o->H b=none->(MK s₁.heap H).get? b=some o:=fun e n=>U3 e n
  have noA:∀ {b:Addr} {o:Obj} {es:Array DictEntry} {ep:Nat},s₁.heap.get? b=some o->o.data=.dict es ep->H b=none:=fun {b o es ep} e d=>by
   cases q:H b with
   | none=>rfl
   | some u =>
    have e':b=a:=hA b (by rw [q]; simp)
    subst e'
    rw [ha] at e; cases e
    have d':Data.seq vs.toArray _=Data.dict es ep:=d
    cases d'
  have nsK:∀ {b:Addr} {m:Str->Option Value},s₁.heap.Ns b m->(MK s₁.heap H).Ns b m:=fun {b m} ⟨o,es,ep,e,d,r⟩=>⟨o,es,ep,base_of e (noA e d),d,r⟩
  have hKb:K.In (MK s₁.heap H):=fun b o e=>base_of (KX b o e) (by
   cases q:H b with
   | none=>rfl
   | some u =>
    have e':b=a:=hA b (by rw [q]; simp)
    subst e'
    rw [hK (by rw [q]; simp)] at e; cases e)
  have hM:Mod K mg (MK s₁.heap H):=⟨hKb,nsK hns,⟨mb,nsK hb,hbb⟩,let ⟨mc,h1,h2⟩:=hlim; ⟨mc,nsK h1,h2⟩⟩
  have e0:Mh P w K mg (MK s₁.heap H) callerA [] s₁ H:=⟨rfl,hM,fun b o e=>WQ e,Nat.le_of_eq (RX _ _),trivial,fun b hb=>absurd (show b∈([]:List Addr) from hb) (by simp),hok,.of_eq hg⟩
  refine codeAny_mono ((F _ hKb (nsK hns)).run callerA [] s₁ H ⟨[.ref a],[]⟩ [.ref a] [.ref a] _ _ hr e0 (hbind s₁ (.ref a)) (.cons rfl .nil) (hsp H hO hS)) fun r s' h=>?_
  cases r with
  | error e=>exact (hCX H e s' h).elim
  | ok fl =>
   cases fl with
   | next=>exact False.elim h
   | brk=>exact False.elim h
   | cont=>exact False.elim h
   | ret u =>
    obtain ⟨v,H',os,bare,un,hok',r',q⟩:=h
    have q':v=.bl true:=q
    subst q'
    obtain rfl:u=Value.bool true:=r'
    refine ⟨rfl,OldK.of_keep fun b o e=>?_,os,bare⟩
    cases q:H b with
    | none=>exact un.keep b o e q (by intro z; exact absurd (show b∈([]:List Addr) from z) (by simp)) (by simp)
    | some u =>
     rcases hO b with z | ⟨ob,xs,z⟩
     ·rw [q] at z; cases z
     ·have z2:=un.frzs b ob _ z
      obtain ⟨e1,_⟩:=hok b _ z
      obtain ⟨e2,_⟩:=hok' b _ z2
      rw [e] at e1; cases e1
      exact e2
 cases hk:K.lookup a with
 | some o =>
  have e:=KX a o hk
  rw [ha] at e
  cases e
  refine core (fun _=>none) (fun _=>.inl rfl) (.inr ⟨_,vs.toArray,_,hk,rfl,rfl,rfl,by rw [List.size_toArray,lenV]; exact hl,by simpa using rv⟩) (fun b u z=>by have z':(none:Option HO)=some u:=z; cases z') (fun b z=>absurd rfl z) fun z=>absurd rfl z
 | none =>
  refine core (fun b=>if b=a then some (.frz { cls:=.type "list",data:=.seq vs.toArray } (.lst (ns.map V.int))) else none) (fun b=>?_) (.inl (.inr ⟨{ cls:=.type "list",data:=.seq vs.toArray },if_pos rfl⟩)) (fun b u z=>?_) (fun b z=>?_) fun _=>hk
  ·by_cases hb:b=a
   ·exact .inr ⟨_,_,if_pos hb⟩
   ·exact .inl (if_neg hb)
  ·by_cases hb:b=a
   ·have z':=(if_pos hb).symm.trans z
    cases z'
    subst hb
    exact ⟨ha,by rw [List.length_map]; exact hl,vs,_,rv,ha⟩
   ·have z':=(if_neg hb).symm.trans z
    cases z'
  ·by_cases hb:b=a
   ·exact hb
   ·exact absurd (if_neg hb) z
end L2
namespace L2
open PySem PySem.Spec PyProof.Rows
theorem Wa {l:PySem.W.OpenLaw} {n k:Nat} {q:Program} {loose:List Str} {XP:(Str->Option Value)->Heap->Prop} {YP:World->Heap->Prop} {d:DefRec} {K:Params->PySem.W.Frag} {CX:World->Mw} {sp:World->Sp} {x:Str}
  (hn:l.most=some n) (hn2:n<=sizeLine) (hdf:d.params.defaults=[]) (hr:BX k callerA)
  (hY:∀ (w:World) (h:Heap),YP w h->(K w.params).In h)
  (F:∀ (w:World) (mg:Str->Option Value) (fa:Addr) (h:Heap),(K w.params).In h->h.Ns mainGlobals mg->mg d.name=some (.ref fa) ->
   ∃ fd:FuncData,(∀ (s:Shared) (u:Value),BindsTo s fd ⟨[u],[]⟩ [(x,u)]) /\
    ∀ base:Heap,(K w.params).In base->base.Ns mainGlobals mg->Aw l.prog w (K w.params) mg base (CX w) k fa fd [x] (sp w))
  (hsp:∀ (w:World) (H:Hp) (a:Addr) (ns:List Int),ns.length<=n->Only H->DQ (K w.params) H a (ns.map V.int)->sp w [.ref a] H (fun v _=>v=.bl true) fun _ _ _=>False)
  (hCX:∀ (w:World) (H:Hp) (s:Shared) (e:Value) (s':Shared),CX w [] H s (fun _ _ _=>False) e s'->False) :
  PySem.W.WalkO q loose XP YP l.row.toRowW d [] (fun f vs=>PySem.call f vs):=by
 refine Att.OJ hn hdf fun w s₀ s₁ mg mb fa o pm cd doc a vs ns G Y ho hd hcd hmg hobj hints hlen hg=>?_
 have KX:=hY w _ Y
 obtain ⟨fd,hb,hF⟩:=F w mg fa _ KX G.T.g hmg
 exact Tz KX G.T.g G.T.b G.T.builtins G.T.nolimit hg hobj hints (Nat.le_trans hlen hn2) hr hF hb (fun H hO hS=>hsp w H a ns hlen hO hS) fun H e s'=>hCX w H s₁ e s'
end L2
namespace L2
open PySem PySem.Spec PyProof.Rows
noncomputable def inClass (s:Stmt) (j:Nat):Stmt:=match s with
 | .ClassDef _ _ _ body _ _ _ _ _ _ _=>body.getD j (.Pass ⟨0,0,0,0⟩)
 | _=>.Pass ⟨0,0,0,0⟩
noncomputable def Cr (s:Stmt):Arguments:=match s with
 | .FunctionDef _ a _ _ _ _ _ _ _ _=>a
 | _=>{ posonlyargs:=[],args:=[],vararg:=none,kwonlyargs:=[],kw_defaults:=[],kwarg:=none,defaults:=[] }
noncomputable def CJ (s:Stmt):List Stmt:=match s with
 | .FunctionDef _ _ b _ _ _ _ _ _ _=>b
 | _=>[]
noncomputable def Af (s:Stmt):Scope:=match s with
 | .FunctionDef _ _ _ _ _ _ sc _ _ _=>sc
 | _=>{ kind:=.function,names:=[],isGenerator:=false,isCoroutine:=false }
noncomputable abbrev Bg:Mw:=fun _ _ _ _ _ _=>False
noncomputable abbrev E0:XK:=fun _ _ _=>False
theorem Ay {X:Cx}:Ek Bg X E0:=fun _ _ _ _ _ _ _ h=>h.elim
structure DW (K:PySem.W.Frag) (x qual:Str) (st:Stmt) (f:Addr) (fd:FuncData):Prop where
 ex:∃ (oc:Value) (od:Option Addr) (kV doc pm:Value) (an:Option Addr) (cdv ct:Value) (osl:Array (Option Value)),
  fd=PySem.W.fnOf x qual (Cr st) (CJ st) (Af st) .none kV doc pm an cdv ct/\K.lookup f=some ⟨oc,od,.func fd,osl⟩/\PySem.W.codeIn K cdv qual=true
 kp:PySem.W.keepIn K (.ref f)=true
section
variable {P:Program} {w:World} {K:PySem.W.Frag} {mg:Str->Option Value} {base:Heap}
theorem DW.ok {x qual:Str} {st:Stmt} {f:Addr} {fd:FuncData} {N ps:List Str} {k:Nat} {sp:Sp} (F:DW K x qual st f fd) (S:Ao N ps (Af st)) (len:∀ vs H Q E,sp vs H Q E->vs.length=ps.length)
  (hbody:∀ (cdv:Value) (A:Around) (outer:List Env) (s:Shared) (H:Hp) (vs:List V) (Q:VK) (E:XK),BX k (A.deeper (envOfC qual (Af st) s.heap.objs.size f cdv))->sp vs H Q E ->
   ∃ t,Mj (Jk Bg P w K mg base N qual (Af st) f cdv A outer s H E).ZQ (CJ st) t/\t { nx:=fun _ H'=>Q .non H',rt:=Q } (start N vs) H):Aw P w K mg base Bg (k+1) f fd ps sp:=by
 obtain ⟨oc,od,kV,doc,pm,an,cdv,ct,osl,rfl,lk,hcd⟩:=F.ex
 refine Ux lk hcd S len fun A outer s H vs Q E hr hsp=>?_
 obtain ⟨t,h,q⟩:=hbody cdv A outer s H vs Q E hr hsp
 exact ⟨t,h.ZQ,q⟩
theorem DW.binds {x qual:Str} {st:Stmt} {f:Addr} {fd:FuncData} {ps:List Str} (F:DW K x qual st f fd)
  (h:∀ (kV doc pm:Value) (an:Option Addr) (cdv ct:Value) (us:List Value),us.length=ps.length->bindArgs (PySem.W.fnOf x qual (Cr st) (CJ st) (Af st) .none kV doc pm an cdv ct) ⟨us,[]⟩=pure (ps.zip us)):Binds K fd ps []:=by
 obtain ⟨oc,od,kV,doc,pm,an,cdv,ct,osl,rfl,lk,hcd⟩:=F.ex
 exact .all (h kV doc pm an cdv ct)
theorem PQ {x qual:Str} {st:Stmt} {f:Addr} {oc:Value} {od an:Option Addr} {osl:Array (Option Value)} {kV doc pm cdv ct:Value} (l:K.lookup f=some ⟨oc,od,.func (PySem.W.fnOf x qual (Cr st) (CJ st) (Af st) .none kV doc pm an cdv ct),osl⟩)
  (c:PySem.W.codeIn K cdv qual=true) (k:PySem.W.keepIn K (.ref f)=true):DW K x qual st f (PySem.W.fnOf x qual (Cr st) (CJ st) (Af st) .none kV doc pm an cdv ct):=⟨⟨oc,od,kV,doc,pm,an,cdv,ct,osl,rfl,l,c⟩,k⟩
end
theorem CN {A:Around} {k:Nat} (hr:BX k A):A.units+1<cLine:=Nat.lt_of_le_of_lt (Nat.add_le_add_left (by decide:1<=64) _) hr.units
theorem BJ {n:Nat} (h:n<=1000):n<sizeLine:=Nat.lt_of_le_of_lt h (by decide)
section
variable {X:Cx}
theorem pv (i:Nat) {x:Str} {pos:Pos} (hN:X.N[i]? = some x:=by rfl) (hv:i_ X.env.scope x:=by first | exact Or.inl rfl | exact Or.inr (Or.inl rfl) | exact Or.inr (Or.inr rfl)) (hd:(x == ("__debug__" : Str))=false:=by decide)
  (hcd:(x == ("__classdict__" : Str))=false:=by decide):PE X (.Name x pos) (X6 i):=YL hN hv hd hcd
end
theorem wT {K:PySem.W.Frag} {i:Nat} {T:Addr} {x:V} {xs:List V} {w:Str} {σ:St} {H:Hp} {Q:Bool->Hp->Prop} (hT:H T=some (.tup (x::xs))) (h:Q (decide (x=V.str w)) H) (hs:σ[i]? = some (some (.ref T)):=by rfl) (hc:Yi x (.str w)=true:=by rfl):VM (ZK oK (ZK (Xm K) (X6 i) (tC (.int 0))) (tC (.str w))) σ H Q:=⟨_,hs,T,_,_,_,rfl,rfl,.inl (.inl hT),Aj (j:=0) rfl,hc,_,rfl,h⟩
theorem Bo {A B:Prop} (h:B):if false=true then A else B:=by
 rw [if_neg Bool.false_ne_true]
 exact h
theorem Cm {A B:Prop} (h:A):if true=true then A else B:=by
 rw [if_pos rfl]
 exact h
theorem Cq {c A B:Prop} [Decidable c] (h1:c->A) (h2:¬ c->B):if c then A else B:=by
 by_cases h:c
 ·rw [if_pos h]
  exact h1 h
 ·rw [if_neg h]
  exact h2 h
theorem W6 {c A B:Prop} [Decidable c] (hc:c) (h:B):if (!decide c)=true then A else B:=by
 rw [decide_eq_true hc]
 exact Bo h
noncomputable def Ak (H H':Hp):Prop:=∀ b o,H b=some o->H' b=some o
theorem Ak.refl (H:Hp):Ak H H:=fun _ _ h=>h
theorem Ak.trans {H H1 H2:Hp} (a:Ak H H1) (b:Ak H1 H2):Ak H H2:=fun c o h=>b c o (a c o h)
theorem Ak.free {H H':Hp} (e:Ak H H') {l:Addr} (h:H' l=Option.none):H l=Option.none:=by
 cases q:H l with
 | none=>rfl
 | some o =>
  rw [e l o q] at h
  cases h
theorem Ak.seq {K:PySem.W.Frag} {H H':Hp} {a:Addr} {xs:List V} (e:Ak H H') (h:DQ K H a xs):DQ K H' a xs:=by
 rcases h with (h | ⟨o,h⟩) | h
 ·exact .inl (.inl (e _ _ h))
 ·exact .inl (.inr ⟨o,e _ _ h⟩)
 ·exact .inr h
end L2
namespace L2
open PySem PySem.Spec PyProof.Rows
section
variable {X:Cx}
end
section
variable {κ:Type} [DecidableEq κ]
theorem QQ:∀ {l:List κ} {k:κ},l.Nodup->¬ k∈l->(l++[k]).Nodup
 | [],k,_,_=>by simp
 | a::r,k,h,hk=>by
  obtain ⟨h1,h2⟩:=List.nodup_cons.mp h
  show (a::(r++[k])).Nodup
  refine List.nodup_cons.mpr ⟨fun m=>?_,QQ h2 fun m=>hk (List.mem_cons.mpr (Or.inr m))⟩
  rcases List.mem_append.mp m with q | q
  ·exact h1 q
  ·exact hk (List.mem_cons.mpr (Or.inl (List.mem_singleton.mp q).symm))
end
end L2
namespace L2
open PySem PySem.Spec PyProof.Rows
section
variable {prog:Program} {w:World} {A:Around} {E:Value->Shared->Prop} {s:Shared}
theorem KN {it a:Addr} {i:Nat} {items:Array Value} {x:Value} {Q:Value->Shared->Prop} (j:s.heap.IsTupleIter it a i) (ht:s.heap.IsTuple a items) (hx:items[i]? = some x)
  (q:∀ h',h'.IsTupleIter it a (i+1)->Heap.SameBut it s.heap h'->Q x { s with heap:=h' }):wpAny (model prog w) A (Builtin.SmallTypes.nextOf (.ref it)) Q E s:=by
 have j0:=j
 obtain ⟨o,e,c,d⟩:=j
 obtain ⟨oa,ea,_,n,da⟩:=ht
 unfold Builtin.SmallTypes.nextOf
 refine wpAny_bind (wpAny_callSpecial?_slot (name:=Str.ofString "__next__") j0.typeIs F.slot_tuple_iterator_next (wpAny_call_entry F.slot_tuple_iterator_next j0.typeIs F.entry_tuple_iterator_next ?_ (F.args_tuple_iterator_next_1 _)))
 refine (show wpAny _ _ (field (.ref it) 0 >>= _) _ _ s from wpAny_bind (wpAny_field e d (x:=.ref a) rfl ?_))
 refine (show wpAny _ _ (if (Value.ref a == Value.none)=true then _ else _) _ _ s from ?_)
 rw [if_neg (by exact Bool.false_ne_true)]
 refine (show wpAny _ _ (field (.ref it) 1 >>= _) _ _ s from wpAny_bind (wpAny_field e d (x:=.int i 0) rfl ?_))
 refine (show wpAny _ _ (seqItems? (.ref a) >>= _) _ _ s from wpAny_bind (wpAny_seqItems ea da ?_))
 simp only [Int.toNat_natCast,hx]
 exact wpAny_bind (wpAny_setField e d (by simp) (wpAny_pure ⟨x,rfl,wpAny_pure (q _ ⟨_,Heap.get?_update_self _ e (Obj.isFreed_of_fields (Obj.data_mapFields d _)),(Obj.cls_mapFields ..).trans c,by rw [Obj.data_mapFields d]; simp [rawInt]⟩ (Heap.SameBut.update ..))⟩))
theorem Jx {it a:Addr} {i:Nat} {items:Array Value} {Q:Value->Shared->Prop} (hh:A.handled=none) (j:s.heap.IsTupleIter it a i) (ht:s.heap.IsTuple a items) (hx:items[i]? = none)
  (q:∀ h' e,Heap.ExtBut it s.heap h'->(∃ o,h'.get? e=some o/\o.cls=.type "StopIteration")->E (.ref e) { s with heap:=h' }):wpAny (model prog w) A (Builtin.SmallTypes.nextOf (.ref it)) Q E s:=by
 have j0:=j
 obtain ⟨o,e,c,d⟩:=j
 obtain ⟨oa,ea,_,n,da⟩:=ht
 unfold Builtin.SmallTypes.nextOf
 refine wpAny_bind (wpAny_callSpecial?_slot (name:=Str.ofString "__next__") j0.typeIs F.slot_tuple_iterator_next (wpAny_call_entry F.slot_tuple_iterator_next j0.typeIs F.entry_tuple_iterator_next ?_ (F.args_tuple_iterator_next_1 _)))
 refine (show wpAny _ _ (field (.ref it) 0 >>= _) _ _ s from wpAny_bind (wpAny_field e d (x:=.ref a) rfl ?_))
 refine (show wpAny _ _ (if (Value.ref a == Value.none)=true then _ else _) _ _ s from ?_)
 rw [if_neg (by exact Bool.false_ne_true)]
 refine (show wpAny _ _ (field (.ref it) 1 >>= _) _ _ s from wpAny_bind (wpAny_field e d (x:=.int i 0) rfl ?_))
 refine (show wpAny _ _ (seqItems? (.ref a) >>= _) _ _ s from wpAny_bind (wpAny_seqItems ea da ?_))
 simp only [Int.toNat_natCast,hx]
 refine wpAny_bind (wpAny_rule (wpAny_bind (wpAny_setField e d (by simp) (show wpAny _ _ (newExc (.type "StopIteration") [] >>= _) _ _ _ from wpAny_bind ?_))))
 simp only [newExc,newTuple]
 refine wpAny_bind (wpAny_newObj_type (wpAny_bind (m:=firstArgMember _ _) (wpAny_of_eq (a:=Value.none) (by first | rfl | (simp only [firstArgMember]; rfl)) (wpAny_newObj_type ?_ (by size_fits)))) (by size_fits))
 simp only [raiseNew]
 refine wpAny_bind (wpAny_handled ?_)
 first | rw [show A.in1.handled=none from hh] | rw [hh]
 exact wpAny_bind (wpAny_pure (wpAny_throw (q _ _ (((Heap.SameBut.update ..).extBut.push _).push _) ⟨_,Heap.get?_push_size _ rfl,rfl⟩)))
theorem Ra {z TI TO i1 i2 a1 a2:Addr} {k:Nat} {xs ys:Array Value} {x y a b:Value} {Q:Value->Shared->Prop} (D:ZipApart z TI TO i1 i2 a1 a2)
  (hz:IsZip s.heap z TI TO .none) (hI:IsPair s.heap TI (.ref i1) (.ref i2)) (hO:IsPair s.heap TO a b)
  (j1:s.heap.IsTupleIter i1 a1 k) (j2:s.heap.IsTupleIter i2 a2 k) (t1:s.heap.IsTuple a1 xs) (t2:s.heap.IsTuple a2 ys) (hx:xs[k]? = some x) (hy:ys[k]? = some y)
  (q:∀ h',IsZip h' z TI TO (rawInt s.heap.objs.size)->IsPair h' TO x y->h'.IsTupleIter i1 a1 (k+1)->h'.IsTupleIter i2 a2 (k+1)->IsPair h' s.heap.objs.size x y->h'.objs.size=s.heap.objs.size+1 ->
   (∀ c o,c ≠ z->c ≠ TO->c ≠ i1->c ≠ i2->s.heap.get? c=some o->h'.get? c=some o)->Q (.ref s.heap.objs.size) { s with heap:=h' }) :
  wpAny (model prog w) A (Builtin.«zip.__next__» ⟨[.ref z],[]⟩) (fun fin s'=>∃ v,fin=.done (.ret v)/\Q v s') E s:=by
 refine (show wpAny _ _ (field (.ref z) 2 >>= _) _ _ _ from wpAny_bind (wpAny_field hz rfl (x:=.bool false) rfl (show wpAny _ _ (field (.ref z) 3 >>= _) _ _ _ from wpAny_bind (wpAny_field hz rfl (x:=.ref TI) rfl (wpAny_bind (wpAny_seqItems hI rfl ?_))))))
 refine (show wpAny _ _ (Builtin.SmallTypes.ownedTupleIsFree (.ref z) >>= _) _ _ _ from wpAny_bind ?_)
 unfold Builtin.SmallTypes.ownedTupleIsFree
 refine wpAny_bind (wpAny_field hz rfl (x:=.none) rfl (wpAny_pure ?_))
 simp only [if_true]
 refine wpAny_bind (wpAny_rule (wpAny_bind (wpAny_field hz rfl (x:=.ref TO) rfl (wpAny_bind (wpAny_setField_rec hz (by simp) fun h1 z1 s1=>?_)))))
 have y1:IsZip h1 z TI TO .ellipsis:=z1
 refine wpAny_bind ?_
 simp only [List.zipIdx_cons,List.zipIdx_nil,List.forIn_cons,List.forIn_nil]
 refine wpAny_bind (wpAny_bind (wpAny_onRaise (show wpAny _ _ (Builtin.SmallTypes.nextOf (.ref i1) >>= _) _ _ _ from wpAny_bind (KN (j1.at fun o e=>s1.extBut _ _ D.i1z e) (t1.at fun o e=>s1.extBut _ _ D.l1z e) hx fun h2 n1 s2=>wpAny_pure ?_))))
 have o2:IsPair h2 TO a b:=s2.extBut _ _ D.TOi1 (s1.extBut _ _ D.TOz hO)
 refine wpAny_bind (wpAny_seqItems o2 rfl (wpAny_bind (wpAny_updateSeq_pair o2 fun h3 p3 s3=>?_)))
 have o3:IsPair h3 TO x b:=p3
 refine wpAny_bind (wpAny_letGo (wpAny_pure ?_))
 refine wpAny_bind (wpAny_bind (wpAny_onRaise (show wpAny _ _ (Builtin.SmallTypes.nextOf (.ref i2) >>= _) _ _ _ from wpAny_bind (KN (j2.at fun o e=>s3.extBut _ _ D.TOi2.symm (s2.extBut _ _ D.i12.symm (s1.extBut _ _ D.i2z e)))
  (t2.at fun o e=>s3.extBut _ _ D.l2TO (s2.extBut _ _ D.l2i1 (s1.extBut _ _ D.l2z e))) hy fun h4 n2 s4=>wpAny_pure ?_))))
 have o4:IsPair h4 TO x b:=s4.extBut _ _ D.TOi2 o3
 refine wpAny_bind (wpAny_seqItems o4 rfl (wpAny_bind (wpAny_updateSeq_pair o4 fun h5 p5 s5=>?_)))
 have o5:IsPair h5 TO x y:=p5
 refine wpAny_bind (wpAny_letGo (wpAny_pure (wpAny_pure (wpAny_bind (wpAny_seqItems o5 rfl (wpAny_bind (wpAny_newTuple ?_)))))))
 have zs:h5.objs.size=s.heap.objs.size:=by rw [s5.1,s4.1,s3.1,s2.1,s1.1]
 have y5:IsZip h5 z TI TO .ellipsis:=s5.extBut _ _ D.TOz.symm (s4.extBut _ _ D.i2z.symm (s3.extBut _ _ D.TOz.symm (s2.extBut _ _ D.i1z.symm y1)))
 have k5:∀ c o,c ≠ z->c ≠ TO->c ≠ i1->c ≠ i2->s.heap.get? c=some o->h5.get? c=some o:=fun c o c1 c2 c3 c4 e=>s5.extBut _ _ c2 (s4.extBut _ _ c4 (s3.extBut _ _ c2 (s2.extBut _ _ c3 (s1.extBut _ _ c1 e))))
 have m1:h5.IsTupleIter i1 a1 (k+1):=n1.at fun o e=>s5.extBut _ _ D.TOi1.symm (s4.extBut _ _ D.i12 (s3.extBut _ _ D.TOi1.symm e))
 have m2:h5.IsTupleIter i2 a2 (k+1):=n2.at fun o e=>s5.extBut _ _ D.TOi2.symm e
 have lz:z<h5.objs.size:=Heap.lt_size y5
 refine (show wpAny _ _ (Builtin.SmallTypes.ownedTupleHandOut (.ref z) (.ref h5.objs.size) >>= _) _ _ _ from wpAny_bind ?_)
 unfold Builtin.SmallTypes.ownedTupleHandOut
 have y6:IsZip (h5.push { cls:=.type "tuple",data:=.seq #[x,y] }) z TI TO .ellipsis:=Heap.get?_push_of_some _ y5
 refine wpAny_bind (wpAny_setField_rec y6 (by simp) fun h7 p7 s7=>?_)
 have y7:IsZip h7 z TI TO (rawInt h5.objs.size):=p7
 refine wpAny_setField_rec y7 (by simp) fun h8 p8 s8=>?_
 have y8:IsZip h8 z TI TO (rawInt h5.objs.size):=p8
 have up:∀ c o,c ≠ z->h5.get? c=some o->h8.get? c=some o:=fun c o c1 e=>s8.extBut _ _ c1 (s7.extBut _ _ c1 (Heap.get?_push_of_some _ e))
 have t8:IsPair h8 h5.objs.size x y:=s8.extBut _ _ (Nat.ne_of_gt lz) (s7.extBut _ _ (Nat.ne_of_gt lz) (Heap.get?_push_size _ rfl))
 have z8:h8.objs.size=h5.objs.size+1:=by rw [s8.1,s7.1,Heap.size_push]
 rw [zs] at y8 t8 z8
 refine wpAny_pure ⟨_,rfl,?_⟩
 show Q (.ref h5.objs.size) _
 rw [zs]
 exact q h8 y8 (up _ _ D.TOz o5) (m1.at fun o e=>up _ o D.i1z e) (m2.at fun o e=>up _ o D.i2z e) t8 z8 fun c o c1 c2 c3 c4 e=>up c o c1 (k5 c o c1 c2 c3 c4 e)
theorem Ua {z TI TO i1 i2 a1 a2:Addr} {k:Nat} {xs:Array Value} {a b:Value} {Q:Fin->Shared->Prop} (hh:A.handled=none) (D:ZipApart z TI TO i1 i2 a1 a2)
  (hz:IsZip s.heap z TI TO .none) (hI:IsPair s.heap TI (.ref i1) (.ref i2)) (hO:IsPair s.heap TO a b)
  (j1:s.heap.IsTupleIter i1 a1 k) (t1:s.heap.IsTuple a1 xs) (hx:xs[k]? = none)
  (q:∀ h' e,(∀ c o,c ≠ z->c ≠ TO->c ≠ i1->c ≠ i2->s.heap.get? c=some o->h'.get? c=some o)->(∃ o,h'.get? e=some o/\o.cls=.type "StopIteration")->E (.ref e) { s with heap:=h' }) :
  wpAny (model prog w) A (Builtin.«zip.__next__» ⟨[.ref z],[]⟩) Q E s:=by
 refine (show wpAny _ _ (field (.ref z) 2 >>= _) _ _ _ from wpAny_bind (wpAny_field hz rfl (x:=.bool false) rfl (show wpAny _ _ (field (.ref z) 3 >>= _) _ _ _ from wpAny_bind (wpAny_field hz rfl (x:=.ref TI) rfl (wpAny_bind (wpAny_seqItems hI rfl ?_))))))
 refine (show wpAny _ _ (Builtin.SmallTypes.ownedTupleIsFree (.ref z) >>= _) _ _ _ from wpAny_bind ?_)
 unfold Builtin.SmallTypes.ownedTupleIsFree
 refine wpAny_bind (wpAny_field hz rfl (x:=.none) rfl (wpAny_pure ?_))
 simp only [if_true]
 refine wpAny_bind (wpAny_rule (wpAny_bind (wpAny_field hz rfl (x:=.ref TO) rfl (wpAny_bind (wpAny_setField_rec hz (by simp) fun h1 z1 s1=>?_)))))
 have y1:IsZip h1 z TI TO .ellipsis:=z1
 refine wpAny_bind ?_
 simp only [List.zipIdx_cons,List.zipIdx_nil,List.forIn_cons,List.forIn_nil]
 refine wpAny_bind (wpAny_bind (wpAny_onRaise (show wpAny _ _ (Builtin.SmallTypes.nextOf (.ref i1) >>= _) _ _ _ from wpAny_bind (Jx hh (j1.at fun o e=>s1.extBut _ _ D.i1z e) (t1.at fun o e=>s1.extBut _ _ D.l1z e) hx fun h2 x s2 hx2=>?_))))
 obtain ⟨ox,ex,cx⟩:=hx2
 have y2:IsZip h2 z TI TO .ellipsis:=s2 _ _ D.i1z.symm y1
 have nz:x ≠ z:=fun u=>by subst u; rw [y2] at ex; cases ex; simp at cx
 exact wpAny_setField_rec y2 (by simp) fun h3 _ s3=>q h3 x (fun c o c1 _ c3 _ e=>s3.extBut _ _ c1 (s2 _ _ c3 (s1.extBut _ _ c1 e))) ⟨ox,s3.extBut _ _ nz ex,cx⟩
end
noncomputable abbrev gk (h:Heap) (a1:Addr):Heap:=h.push { cls:=.type "tuple_iterator",data:=.fields #[.ref a1,.int 0 0] }
noncomputable abbrev h_ (h:Heap) (a1 a2:Addr):Heap:=(gk h a1).push { cls:=.type "tuple_iterator",data:=.fields #[.ref a2,.int 0 0] }
noncomputable abbrev gh (h:Heap) (a1 a2:Addr):Heap:=(h_ h a1 a2).push { cls:=.type "tuple",data:=.seq #[.ref h.objs.size,.ref (gk h a1).objs.size] }
noncomputable abbrev iC (h:Heap) (a1 a2:Addr):Heap:=(gh h a1 a2).push { cls:=.type "tuple",data:=.seq #[.none,.none] }
noncomputable abbrev X8 (h:Heap) (a1 a2:Addr):Heap:=(iC h a1 a2).push { cls:=.type "zip",data:=.fields #[.none,.bool false,.bool false,.ref (h_ h a1 a2).objs.size,.ref (gh h a1 a2).objs.size] }
theorem Tj (a1 a2:Addr) (xs ys:Array Value):Meets (Builtin.«zip.__new__» ⟨[.type "zip",.ref a1,.ref a2],[]⟩) (fun _ R s=>s.heap.IsTuple a1 xs/\s.heap.IsTuple a2 ys /\
   R (.ok (.ret (.ref (iC s.heap a1 a2).objs.size))) { s with heap:=X8 s.heap a1 a2 }) :=
 .of_wp fun prog w A R s h=>by
  obtain ⟨hp,g,d,tk,os⟩:=s
  obtain ⟨t1,t2,h⟩:=h
  have hsub:=sub_zip
  have u1:Heap.IsTuple (Shared.heap ⟨hp,g,d,tk,os⟩) a1 xs:=t1
  have u2:Heap.IsTuple (Shared.heap ⟨hp.push { cls:=.type "tuple_iterator",data:=.fields #[.ref a1,.int 0 0] },g,d,tk,os⟩) a2 ys:=Heap.IsTuple.at t2 fun o e=>Heap.get?_push_of_some _ e
  wp_walk using wpAny_pyIter_tuple u1,wpAny_pyIter_tuple u2
  exact ⟨_,rfl,h⟩
section
variable {prog:Program} {w:World} {A:Around} {E:Value->Shared->Prop} {s:Shared}
theorem RG {a1 a2:Addr} {xs ys:Array Value} {Q:Value->Shared->Prop} (t1:s.heap.IsTuple a1 xs) (t2:s.heap.IsTuple a2 ys)
  (q:∀ h' n,n=s.heap.objs.size->IsZip h' (n+4) (n+2) (n+3) .none->IsPair h' (n+2) (.ref n) (.ref (n+1))->IsPair h' (n+3) .none .none->h'.IsTupleIter n a1 0->h'.IsTupleIter (n+1) a2 0->h'.objs.size=n+5 ->
   (∀ c o,s.heap.get? c=some o->h'.get? c=some o)->Q (.ref (n+4)) { s with heap:=h' }):wpAny (model prog w) A (call (.type "zip") [.ref a1,.ref a2]) Q E s:=by
 refine callType_new F.called_zip (by decide) (F.typeCall_zip_2 _ _) (F.newCall_zip_2 _ _) (fun obj=>F.args_object_init_3 obj _ _) F.entry_zip_new (Tj a1 a2 xs ys) ⟨t1,t2,?_⟩
 have z1:(gk s.heap a1).objs.size=s.heap.objs.size+1:=Heap.size_push ..
 have z2:(h_ s.heap a1 a2).objs.size=s.heap.objs.size+2:=by rw [Heap.size_push,z1]
 have z3:(gh s.heap a1 a2).objs.size=s.heap.objs.size+3:=by rw [Heap.size_push,z2]
 have z4:(iC s.heap a1 a2).objs.size=s.heap.objs.size+4:=by rw [Heap.size_push,z3]
 have z5:(X8 s.heap a1 a2).objs.size=s.heap.objs.size+5:=by rw [Heap.size_push,z4]
 have g5:(X8 s.heap a1 a2).get? (iC s.heap a1 a2).objs.size=some _:=Heap.get?_push_size _ rfl
 have g4:(X8 s.heap a1 a2).get? (gh s.heap a1 a2).objs.size=some _:=Heap.get?_push_of_some _ (Heap.get?_push_size _ rfl)
 have g3:(X8 s.heap a1 a2).get? (h_ s.heap a1 a2).objs.size=some _:=Heap.get?_push_of_some _ (Heap.get?_push_of_some _ (Heap.get?_push_size _ rfl))
 have g2:(X8 s.heap a1 a2).get? (gk s.heap a1).objs.size=some _:=Heap.get?_push_of_some _ (Heap.get?_push_of_some _ (Heap.get?_push_of_some _ (Heap.get?_push_size _ rfl)))
 have g1:(X8 s.heap a1 a2).get? s.heap.objs.size=some _:=Heap.get?_push_of_some _ (Heap.get?_push_of_some _ (Heap.get?_push_of_some _ (Heap.get?_push_of_some _ (Heap.get?_push_size _ rfl))))
 refine (show _/\_ from ?_)
 rw [z2,z3,z4] at g5
 rw [z1,z2] at g3
 rw [z3] at g4
 rw [z1] at g2
 rw [z4]
 exact ⟨⟨_,g5,rfl⟩,q _ _ rfl g5 g3 g4 ⟨_,g1,rfl,rfl⟩ ⟨_,g2,rfl,rfl⟩ z5 fun c o e=>Heap.get?_push_of_some _ (Heap.get?_push_of_some _ (Heap.get?_push_of_some _ (Heap.get?_push_of_some _ (Heap.get?_push_of_some _ e))))⟩
end
end L2
namespace L2
open PySem PySem.Spec PyProof.Rows
noncomputable def DX (env:Env):List (Str × NameKind)->List (Str × Addr)->List (Str × Addr)
 | [],acc=>acc
 | (n,k)::r,acc=>if k == .free then (match env.cells.lookup n with | some a=>DX env r ((n,a)::acc) | none=>DX env r acc) else DX env r acc
theorem Hs {scope:Scope} {env:Env} (h:∀ y∈scope.names,y.2=.free->∃ c,env.cells.lookup y.1=some c):closureFor scope env=pure (DX env scope.names []):=by
 unfold closureFor
 have key:∀ (l:List (Str × NameKind)) (acc:List (Str × Addr)),(∀ y∈l,y.2=.free->∃ c,env.cells.lookup y.1=some c) ->
   (forIn l acc fun (x:Str × NameKind) (cs:List (Str × Addr))=>(match x with | (name,kind)=>if (kind == NameKind.free)=true then (do let a ← cellOf env name; pure (ForInStep.yield ((name,a)::cs))) else pure (ForInStep.yield cs):Sem (ForInStep (List (Str × Addr)))))=(pure (DX env l acc):Sem _):=by
  intro l
  induction l with
  | nil=>intro acc _; rfl
  | cons x r ih =>
   intro acc hl
   obtain ⟨n,k⟩:=x
   rw [List.forIn_cons]
   unfold DX
   by_cases hk:(k == NameKind.free)=true
   ·obtain ⟨c,hc⟩:=hl (n,k) List.mem_cons_self (by simpa using hk)
    have hc':env.cells.lookup n=some c:=hc
    have e:cellOf env n=pure c:=by unfold cellOf; rw [hc']
    simp only [hk,if_true,e,hc']
    exact ih _ fun y hy=>hl y (List.mem_cons_of_mem _ hy)
   ·simp only [hk]
    exact ih _ fun y hy=>hl y (List.mem_cons_of_mem _ hy)
 have:=key scope.names [] h
 exact (congrArg (fun (m:Sem (List (Str × Addr)))=>m >>= fun z=>pure z) this).trans rfl
theorem Fp (env:Env):∀ (l:List (Str × NameKind)) (acc:List (Str × Addr)) (y:Str) (c:Addr),(DX env l acc).lookup y=some c->acc.lookup y=some c \/ env.cells.lookup y=some c
 | [],_,_,_,h=>.inl h
 | (n,k)::r,acc,y,c,h=>by
  unfold DX at h
  split at h
  ·split at h
   ·rename_i a ha
    rcases Fp env r _ y c h with z | z
    ·rw [List.lookup_cons] at z
     split at z
     ·rename_i e
      cases z
      have e':y=n:=by simpa using e
      subst e'
      exact .inr ha
     ·exact .inl z
    ·exact .inr z
   ·exact Fp env r _ y c h
  ·exact Fp env r _ y c h
theorem HN (env:Env):∀ (l:List (Str × NameKind)) (acc:List (Str × Addr)) (y:Str),(acc.lookup y).isSome=true->((DX env l acc).lookup y).isSome=true
 | [],_,_,h=>h
 | (n,k)::r,acc,y,h=>by
  unfold DX
  split
  ·split
   ·refine HN env r _ y ?_
    rw [List.lookup_cons]
    split
    ·rfl
    ·exact h
   ·exact HN env r _ y h
  ·exact HN env r _ y h
theorem Eg (env:Env):∀ (l:List (Str × NameKind)) (acc:List (Str × Addr)) (y:Str),(y,NameKind.free)∈l->(env.cells.lookup y).isSome=true->((DX env l acc).lookup y).isSome=true
 | [],_,_,h,_=>nomatch h
 | (n,k)::r,acc,y,h,hc=>by
  unfold DX
  rcases List.mem_cons.mp h with e | h
  ·obtain ⟨e1,e2⟩:=Prod.mk.inj e
   subst e1
   subst e2
   rw [if_pos (by decide)]
   split
   ·refine HN env r _ y ?_
    rw [List.lookup_cons]
    simp
   ·rename_i e
    rw [e] at hc
    cases hc
  ·split
   ·split
    ·exact Eg env r _ y h hc
    ·exact Eg env r _ y h hc
   ·exact Eg env r _ y h hc
end L2
namespace L2
open PySem PySem.Spec PyProof.Rows
noncomputable def Hi (x:Str) (N:List Str):List Str:=N.map fun y=>if y=x then "" else y
noncomputable def CG (X:Cx) (x:Str) (scope:Scope) (C:Addr) (s₀:Shared) (H₀:Hp) (fp:List Addr):Cx where
 prog:=X.prog
 w:=X.w
 K:=X.K
 mg:=X.mg
 base:=X.base
 A:=X.A
 N:=x::Hi x X.N
 s₀:=s₀
 H₀:=H₀
 env:=compEnvC scope (DX X.env scope.names []) C X.env
 outer:=X.stack
 stack:=X.stack
 ex:=fp
 fn:=fun _=>false
 calm:=X.calm
 pn:=[]
 xe:=fun _ _=>False
theorem Eo (env:Env) (y:Str):∀ names:List (Str × NameKind),
  (names.map fun (n,k)=>if (k == NameKind.free && env.scope.kind == .function && env.kindOf n == some .cell) then (n,NameKind.cell) else (n,k)).lookup y =
   (names.lookup y).map fun k=>if (k == NameKind.free && env.scope.kind == .function && env.kindOf y == some .cell) then NameKind.cell else k
 | []=>rfl
 | (n,k)::r=>by
  have ih:=Eo env y r
  rw [List.map_cons]
  show List.lookup y ((if (k == NameKind.free && env.scope.kind == .function && env.kindOf n == some .cell)=true then (n,NameKind.cell) else (n,k))::_)=_
  have e0:(if (k == NameKind.free && env.scope.kind == .function && env.kindOf n == some .cell)=true then (n,NameKind.cell) else (n,k))=(n,if (k == NameKind.free && env.scope.kind == .function && env.kindOf n == some .cell)=true then NameKind.cell else k):=by split <;> rfl
  rw [e0,List.lookup_cons,List.lookup_cons]
  cases hx:y == n with
  | true =>
   have e:y=n:=by simpa using hx
   subst e
   rfl
  | false=>exact ih
structure Fz (X:Cx) (x:Str) (scope:Scope):Prop where
 kind:scope.kind=.function
 nocell:∀ y∈scope.names,y.2 ≠ .cell
 names:∀ y∈scope.names,y.2=.local->scope.names.lookup y.1=some .local
 loc:scope.names.lookup x=some .local
 free:∀ y∈scope.names,y.2=.free->X.env.kindOf y.1=some .cell \/ X.env.kindOf y.1=some .free
 nd:(x::Hi x X.N).Nodup
 only:∀ y∈Hi x X.N,scope.names.lookup y ≠ some .local
 noE:scope.names.lookup ("" : Str)=none
section
variable {X:Cx} {pins:List (Addr × Obj)} {σ:St} {H:Hp} {s:Shared} {x:Str} {scope:Scope} {fp:List Addr} {C:Addr}
theorem Oq {h':Heap} {tk:Nat} {m:Str->Option Value} (I:Inv X pins σ H s) (S:Fz X x scope) (hf:∀ b∈fp,F_ X pins H b) (hlt:∀ b∈fp,b<s.heap.objs.size) (hC:s.heap.objs.size<=C) (hn:h'.Ns C m)
  (hk:∀ b o,s.heap.get? b=some o->h'.get? b=some o):Inv (CG X x scope C s H fp) [] (none::σ) H { s with heap:=h',toks:=tk }:=by
 have cl:∀ y c,(DX X.env scope.names []).lookup y=some c->X.env.cells.lookup y=some c:=fun y c e=>by
  rcases Fp X.env scope.names [] y c e with z | z
  ·cases z
  ·exact z
 have cellK:∀ c v,s.heap.IsCell c v->h'.IsCell c v:=fun c v ⟨o,ho,hd⟩=>⟨o,hk c o ho,hd⟩
 have look:∀ y,(CG X x scope C s H fp).env.scope.names.lookup y=(scope.names.lookup y).map fun k=>if (k == NameKind.free && X.env.scope.kind == .function && X.env.kindOf y == some .cell) then NameKind.cell else k:=fun y=>Eo X.env y scope.names
 refine ⟨⟨I.ok.mod,S.kind,I.ok.glob,I.ok.blt,hC,fun y z c e1 e2=>I.ok.inj y z c (cl y c e1) (cl z c e2),fun y hy=>?_,fun y c e _=>(by cases e),fun h=>I.ok.hd h,I.ok.frames,.inl rfl,fun b hb=>?_,I.bs,Nat.le_trans I.ok.bsz I.sz,fun b o e hb=>?_,fun b hb hb'=>?_,I.stack,I.HH⟩,
  rfl,I.bare,Un.kept hk,⟨m,hn,fun i y v h1 h2 h3=>?_⟩,fun y c e=>?_,I.hok.fresh hC,fun y c e=>I.freeC y c (cl y c e),fun p hp=>absurd (show p∈([]:List (Addr × Obj)) from hp) (by simp),I.hok.kept hk,?_⟩
 ·-- every cell of the block is there
  have hy':(CG X x scope C s H fp).env.scope.names.lookup y=some .cell \/ (CG X x scope C s H fp).env.scope.names.lookup y=some .free:=hy
  rw [look y] at hy'
  cases e:scope.names.lookup y with
  | none=>rw [e] at hy'; rcases hy' with z | z <;> cases z
  | some k =>
   have hm:=PySem.mem_of_lookup e
   have hfree:k=.free:=by
    rw [e] at hy'
    cases k with
    | free=>rfl
    | cell=>exact absurd rfl (S.nocell _ hm)
    | _=>rcases hy' with z | z <;> simp at z
   subst hfree
   obtain ⟨c,hc⟩:=I.ok.has y (S.free _ hm rfl)
   exact Option.isSome_iff_exists.mp (Eg X.env scope.names [] y hm (by rw [hc]; rfl))
 ·obtain ⟨f0,f1,f2,f3,f4,f5⟩:=hf b hb
  exact ⟨Nat.ne_of_lt (Nat.lt_of_lt_of_le (hlt b hb) hC),fun y c e=>f4 y c (cl y c e)⟩
 ·obtain ⟨f0,f1,f2,f3,f4,f5⟩:=hf b hb
  rcases f3 with z | z
  ·exact I.ok.noex b o e z
  ·exact absurd (Nat.lt_of_lt_of_le (Heap.lt_size e) (Nat.le_trans I.ok.bsz z)) (Nat.lt_irrefl _)
 ·obtain ⟨f0,f1,f2,f3,f4,f5⟩:=hf b hb
  rcases List.mem_cons.mp (I.Ms b hb') with e | e
  ·exact f1 e
  ·exact f2 e
 ·cases i with
  | zero =>
   have h2':(some none:Option (Option V))=some (some v):=h2
   cases h2'
  | succ i =>
   have h1':(Hi x X.N)[i]? = some y:=h1
   have h2':σ[i]? = some (some v):=h2
   have hmem:y∈Hi x X.N:=List.mem_of_getElem? h1'
   unfold Hi at h1'
   rw [List.getElem?_map] at h1'
   cases e0:X.N[i]? with
   | none=>rw [e0] at h1'; cases h1'
   | some y0 =>
    rw [e0] at h1'
    have h1'':(if y0=x then ("" : Str) else y0)=y:=Option.some.inj h1'
    have h3':(CG X x scope C s H fp).env.scope.names.lookup y=some .local \/ (CG X x scope C s H fp).env.scope.names.lookup y=some .cell \/ (CG X x scope C s H fp).env.scope.names.lookup y=some .free:=h3
    rw [look y] at h3'
    have hy0:y0=y:=by
     by_cases q:y0=x
     ·rw [if_pos q] at h1''
      rw [← h1'',S.noE] at h3'
      rcases h3' with z | z | z <;> cases z
     ·rw [if_neg q] at h1''
      exact h1''
    subst hy0
    cases e:scope.names.lookup y0 with
    | none=>rw [e] at h3'; rcases h3' with z | z | z <;> cases z
    | some k =>
     have hm:=PySem.mem_of_lookup e
     have hfree:k=.free:=by
      rw [e] at h3'
      cases k with
      | free=>rfl
      | cell=>exact absurd rfl (S.nocell _ hm)
      | «local»=>exact absurd e (S.only y0 hmem)
      | _=>rcases h3' with z | z | z <;> simp at z
     subst hfree
     have kd:=S.free _ hm rfl
     obtain ⟨m0,hn0,hl0⟩:=I.loc
     obtain ⟨u,r,l⟩:=hl0 i y0 v e0 h2' (by rcases kd with z | z; exact .inr (.inl z); exact .inr (.inr z))
     refine ⟨u,r,.inr ⟨?_,?_⟩⟩
     ·have hk':(CG X x scope C s H fp).env.scope.names.lookup y0=some (if (NameKind.free == NameKind.free && X.env.scope.kind == .function && X.env.kindOf y0 == some .cell) then NameKind.cell else NameKind.free):=by
       rw [look y0,e]; rfl
      by_cases c:(NameKind.free == NameKind.free && X.env.scope.kind == .function && X.env.kindOf y0 == some .cell)=true
      ·rw [if_pos c] at hk'; exact .inl hk'
      ·rw [if_neg c] at hk'; exact .inr hk'
     ·rcases l with ⟨lk,_⟩ | ⟨_,c,hc,hcell⟩
      ·exfalso
       rcases kd with z | z <;> (rw [show X.env.kindOf y0=some NameKind.local from lk] at z; cases z)
      ·obtain ⟨c',hc'⟩:=Option.isSome_iff_exists.mp (Eg X.env scope.names [] y0 hm (by rw [hc]; rfl))
       have:=cl y0 c' hc'
       rw [hc] at this
       cases this
       exact ⟨c,hc',cellK c _ hcell⟩
 ·obtain ⟨v,z⟩:=I.cell y c (cl y c e)
  exact ⟨v,cellK c v z⟩
 ·show (none::σ).length=(x::Hi x X.N).length
  simp [Hi,I.len]
end
noncomputable def NZ (X:Cx) (ifs:List Expr) (t:TT):Prop :=
 ∀ (pins:List (Addr × Obj)) (s:Shared) (σ:St) (H:Hp) (Q:Bool->Hp->Prop),Inv X pins σ H s->t σ H Q ->
  wpAny (model X.prog X.w) X.A (forIn ifs true fun c r=>if r=true then do let ok ← isTrue c X.env (eval c X.env); pure (ForInStep.yield ok) else pure (ForInStep.yield r)) (TP X pins σ Q) X.xe s
noncomputable def Vm:TT:=fun _ H Q=>Q true H
theorem Ck {X:Cx}:NZ X [] Vm:=fun _ _ _ H _ I h=>wpAny_tests_nil ⟨H,I,h⟩
theorem Hn {X:Cx} {c:Expr} {t:TT} (h:PT X c t):NZ X [c] t:=fun pins s σ H Q I q=>wpAny_tests_one (h pins s σ H Q I q)
noncomputable def GC (J:It) (σ:St) (H1:Hp) (Q:VK) (tt:TT) (te:TE):Prop:=∀ D,H1 D=none->∃ W:Nat->Nat->List V->Hp->Prop,(∃ m,W 0 m [] (upd H1 D (.lst [])))/\∀ i m ys H2,W i m ys H2 ->
 (J.stop i H2/\Q (.ref D) H2) \/ (J.go i H2/\∀ x H3,J.yld i H2 x H3->tt (some x::σ) H3 fun b H4 =>
  if b=true then te (some x::σ) H4 fun y H5=>H5 D=some (.lst ys)/\ys.length<sizeLine/\∃ m',m'<m/\W (i+1) m' (ys++[y]) (upd H5 D (.lst (ys++[y])))
  else ∃ m',m'<m/\W (i+1) m' ys H4)
noncomputable def Wx (wi:TI) (tt:TT) (te:TE):TE:=fun σ H Q=>wi σ H fun J H1=>GC J σ H1 Q tt te
theorem Pj {α:Type} {t:Sem α} {Q Q':α->Shared->Prop} {M:Model} {A:Around} {E:Value->Shared->Prop} {s:Shared} (h:wpAny M A t Q (fun _ _=>False) s) (hQ:∀ a s,Q a s->Q' a s):wpAny M A t Q' E s:=wpAny_mono h hQ fun _ _ x=>x.elim
theorem Inv.sameBut {X:Cx} {pins:List (Addr × Obj)} {σ:St} {H:Hp} {s:Shared} {h':Heap} {C:Addr} (I:Inv X pins σ H s) (f:F_ X pins H C) (sb:Heap.SameBut C s.heap h'):Inv X pins σ H { s with heap:=h' } :=
 I.turned (t':=s.toks) (fun b o hb e=>(sb.2 b hb).trans e) f.1 f.2.1 f.2.2.2.1 f.2.2.2.2.1 f.2.2.2.2.2
section
variable {X:Cx} {x:Str} {scope:Scope}
theorem KJ {px pos:Pos} {iter elt:Expr} {ifs:List Expr} {tt:TT} {te:TE} {pins:List (Addr × Obj)} {σ:St} {s2:Shared} {H2:Hp} {it:Addr} {fp:List Addr} {tn:Nat->Heap->Prop} {J:It} {E:Value->Shared->Prop}
  {RR:Value->Addr->Result->Shared->Prop} {Q:VK}
  (hc:X.calm=true) (S:Fz X x scope) (ht:∀ C s₀ H₀ fp,NZ (CG X x scope C s₀ H₀ fp) ifs tt) (he:∀ C s₀ H₀ fp,PE (CG X x scope C s₀ H₀ fp) elt te)
  (I2:Inv X pins σ H2 s2) (T:Turn X.prog X.w X.K (.Name x px) J fp it tn) (st2:tn 0 s2.heap) (f2:∀ b∈fp,F_ X pins H2 b)
  (q:∀ D,H2 D=none->∃ W:Nat->Nat->List V->Hp->Prop,(∃ m,W 0 m [] (upd H2 D (.lst [])))/\∀ i m ys H2,W i m ys H2 ->
   (J.stop i H2/\Q (.ref D) H2) \/ (J.go i H2/\∀ x H3,J.yld i H2 x H3->tt (some x::σ) H3 fun b H4 =>
    if b=true then te (some x::σ) H4 fun y H5=>H5 D=some (.lst ys)/\ys.length<sizeLine/\∃ m',m'<m/\W (i+1) m' (ys++[y]) (upd H5 D (.lst (ys++[y])))
    else ∃ m',m'<m/\W (i+1) m' ys H4))
  (hRR:∀ D C s' H' m,s'.heap.Ns C m->F_ X pins H' C->Inv X pins σ H' s'->Q (.ref D) H'->RR (.ref D) C (.ok .next) s') :
  wpAny (model X.prog X.w) X.A (newList []) (fun acc s₃=>wpAny (model X.prog X.w) X.A (newFunctionEnv scope X.env.globals (DX X.env scope.names []) [] X.env.qual none .none (some X.env)) (fun cenv s₄ =>
   codeAny (model X.prog X.w) X.A (.compStart (.ListComp elt [⟨.Name x px,iter,ifs,0⟩] scope pos) 0 (.ref it) acc { cenv with scope:=relabel scope X.env }) (RR acc cenv.locals) s₄) E s₃) E s2:=by
 refine wpAny_newObj_type (wpAny_newFunctionEnv S.nocell (by intro y hy; simp at hy) (fun h₁ hns₁ hsb₁=>?_) S.kind)
 have I3:=I2.Yk (its:=[]) (ys:=[]) (t':=s2.toks) .nil (Nat.zero_le _)
 have hD0:H2 s2.heap.objs.size=none:=I2.fresh
 obtain ⟨W,⟨m0,w0⟩,turn⟩:=q _ hD0
 generalize hs3:({ s2 with heap:=s2.heap.push { cls:=.type "list",data:=.seq ([]:List Value).toArray },toks:=s2.toks }:Shared)=s3 at I3
 have e3:s3.heap=s2.heap.push { cls:=.type "list",data:=.seq ([]:List Value).toArray }:=by rw [← hs3]
 have hlt:∀ b∈fp,b<s2.heap.objs.size:=fun b hb=>let ⟨_,e,_⟩:=T.obj _ _ st2 b hb; Heap.lt_size e
 have hlt3:∀ b∈fp,b<s3.heap.objs.size:=fun b hb=>by rw [e3,Heap.size_push]; exact Nat.lt_succ_of_lt (hlt b hb)
 have f3:∀ b∈fp,F_ X pins (upd H2 s2.heap.objs.size (.lst [])) b:=fun b hb=>⟨by rw [Ar (Nat.ne_of_lt (hlt b hb))]; exact (f2 b hb).1,(f2 b hb).2⟩
 have hk1:∀ b o,s3.heap.get? b=some o->h₁.get? b=some o:=fun b o e=>by
  have hne:b ≠ s3.heap.objs.size:=Nat.ne_of_lt (Heap.lt_size e)
  rw [e3] at e hne
  exact hsb₁.extBut b o hne (Heap.get?_push_of_some _ e)
 have hC:s3.heap.objs.size=(s2.heap.push { cls:=.type "list",data:=.seq ([]:List Value).toArray }).objs.size:=by rw [e3]
 have hns:h₁.Ns s3.heap.objs.size (fun x=>([]:List (Str × Value)).reverse.lookup x):=by rw [hC]; exact hns₁
 have st3:tn 0 h₁:=T.keep _ _ _ st2 fun b hb o e=>hk1 b o (by rw [e3]; exact Heap.get?_push_of_some _ e)
 have hDC:s2.heap.objs.size ≠ s3.heap.objs.size:=by rw [e3,Heap.size_push]; exact Nat.ne_of_lt (Nat.lt_succ_self _)
 have start:∀ tk,Inv (CG X x scope s3.heap.objs.size s3 (upd H2 s2.heap.objs.size (.lst [])) fp) [] (none::σ) (upd H2 s2.heap.objs.size (.lst [])) { s3 with heap:=h₁,toks:=tk }:=fun tk =>
  Oq I3 S f3 hlt3 (Nat.le_refl _) hns hk1
 generalize hX:CG X x scope s3.heap.objs.size s3 (upd H2 s2.heap.objs.size (.lst [])) fp=X' at start
 have eA:X'.A=X.A:=by rw [← hX]; rfl
 have eP:X'.prog=X.prog:=by rw [← hX]; rfl
 have eW:X'.w=X.w:=by rw [← hX]; rfl
 have eK:X'.K=X.K:=by rw [← hX]; rfl
 have eC:X'.env.locals=s3.heap.objs.size:=by rw [← hX]; rfl
 have loop:∀ tk,codeAny (model X.prog X.w) X.A (.compLoop (.ListComp elt [⟨.Name x px,iter,ifs,0⟩] scope pos) 0 (.ref it) (.ref s2.heap.objs.size) (compEnvC scope (DX X.env scope.names []) s3.heap.objs.size X.env))
   (RR (.ref s2.heap.objs.size) s3.heap.objs.size) { s3 with heap:=h₁,toks:=tk }:=by
  intro tk
  subst hX
  refine codeAny_compLoop_tests (fun n s'=>∃ i ys v0 H',Inv (CG X x scope s3.heap.objs.size s3 (upd H2 s2.heap.objs.size (.lst [])) fp) [] (v0::σ) H' s'/\tn i s'.heap/\(∀ b∈fp,H' b=none)/\W i n ys H') ?_ m0
   ⟨0,[],none,_,start tk,st3,fun b hb=>(f3 b hb).1,w0⟩
  rintro n s4 ⟨i,ys,v0,H4,I4,st4,fr4,w4⟩
  have stat:∀ {H':Hp},(∀ b∈fp,H' b=none)->∀ b∈fp,F_ (CG X x scope s3.heap.objs.size s3 (upd H2 s2.heap.objs.size (.lst [])) fp) [] H' b:=fun hn b hb=>by
   refine ⟨hn b hb,(I4.ok.exf b hb).1,I4.ok.exfs b hb,.inl hb,(I4.ok.exf b hb).2,fun p hp=>absurd (show p∈([]:List (Addr × Obj)) from hp) (by simp)⟩
  rcases turn i n ys H4 w4 with ⟨stop,qn⟩ | ⟨go,step⟩
  ·refine By (T.done (CG X x scope s3.heap.objs.size s3 (upd H2 s2.heap.objs.size (.lst [])) fp) rfl rfl rfl hc i [] s4 (v0::σ) H4 _ I4 (stat fr4) st4 stop) fun r s5 ⟨hr,I5⟩=>?_
   subst hr
   obtain ⟨m,hn,_⟩:=I5.loc
   refine hRR _ _ s5 H4 m hn (I3.Lr (Nat.le_refl _) I5.free) (I3.call' (s':=s5) (ch:=fp) I5.os I5.base I5.hok I5.bare (fun b hb=>?_)) qn
   obtain ⟨_,g1,_,g3,g4,g5⟩:=f3 b hb
   exact ⟨g3,g1,g4,g5⟩
  ·refine By (T.item (CG X x scope s3.heap.objs.size s3 (upd H2 s2.heap.objs.size (.lst [])) fp) rfl rfl rfl hc i [] s4 (v0::σ) H4 _ I4 (stat fr4) st4 go) fun r s5 ⟨u,hr,h5⟩=>?_
   subst hr
   intro Γ p hΓ
   obtain ⟨xv,H6,I6,r6,y6,st6,fr6⟩:=h5 Γ p hΓ
   refine (?_:wpAny _ _ _ _ _ _) Γ p hΓ
   have I6':=I6.pinned (stat fr6) (T.obj _ _ st6)
   have hloc:(CG X x scope s3.heap.objs.size s3 (upd H2 s2.heap.objs.size (.lst [])) fp).env.scope.names.lookup x=some .local:=lookup_relabel_local S.loc
   have again:∀ {s7:Shared} {H7:Hp} {ys':List V},Inv (CG X x scope s3.heap.objs.size s3 (upd H2 s2.heap.objs.size (.lst [])) fp) ([]++JM fp s5.heap) (some xv::σ) H7 s7->(∃ m',m'<n/\W (i+1) m' ys' H7) ->
     ∃ m,m<n/\∃ i ys v0 H',Inv (CG X x scope s3.heap.objs.size s3 (upd H2 s2.heap.objs.size (.lst [])) fp) [] (v0::σ) H' s7/\tn i s7.heap/\(∀ b∈fp,H' b=none)/\W i m ys H':=fun {s7 H7 ys'} I7 hw=>by
    obtain ⟨m',hm,w7⟩:=hw
    refine ⟨m',hm,i+1,ys',some xv,H7,I7.Gk,T.keep _ _ _ st6 fun b hb o e=>(I7.pin (b,o) (List.mem_append_right _ (List.mem_append_right _ (Ec hb e)))).1,fun b hb=>?_,w7⟩
    obtain ⟨o,e,d⟩:=T.obj _ _ st6 b hb
    exact (I7.pin (b,o) (List.mem_append_right _ (List.mem_append_right _ (Ec hb e)))).2.1
   refine wpAny_assign_Name (Ih (X:=CG X x scope s3.heap.objs.size s3 (upd H2 s2.heap.objs.size (.lst [])) fp) (i:=0) I6' S.nd rfl (.inl hloc) r6 (fun s7 I7=>?_) (.inr hloc))
   refine Pj (ht _ _ _ _ _ s7 (some xv::σ) H6 _ I7 (step xv H6 y6)) fun b s8 hq0=>?_
   obtain ⟨H8,I8,q8⟩:=hq0
   cases b with
   | false =>
    rw [if_neg Bool.false_ne_true] at q8 ⊢
    exact again I8 q8
   | true =>
    rw [if_pos rfl] at q8 ⊢
    refine Pj (he _ _ _ _ _ s8 (some xv::σ) H8 _ I8 q8) fun y s9 hq0=>?_
    obtain ⟨yv,H9,I9,r9,hD9,hz9,q9⟩:=hq0
    refine Pj (Br (X:=CG X x scope s3.heap.objs.size s3 (upd H2 s2.heap.objs.size (.lst [])) fp) _ s9 (some xv::σ) H9 (.ref s2.heap.objs.size) [yv] (.ref s2.heap.objs.size) [y] (fun _ H'=>H'=upd H9 s2.heap.objs.size (.lst (ys++[yv]))) I9 rfl (.cons r9 .nil)
     ⟨_,ys,yv,rfl,rfl,hD9,hz9,rfl⟩) fun _ s10 ⟨_,H10,I10,_,e10⟩=>?_
    subst e10
    exact again I10 q9
 have key:=fun tk=>codeAny_compStart_list (R:=RR (.ref s2.heap.objs.size) s3.heap.objs.size) (loop tk) (T.self X.A 0 { s3 with heap:=h₁,toks:=tk } (fun it' s'=>codeAny (model X.prog X.w) X.A (.compLoop (.ListComp elt [⟨.Name x px,iter,ifs,0⟩] scope pos) 0 it' (.ref s2.heap.objs.size) (compEnvC scope (DX X.env scope.names []) s3.heap.objs.size X.env)) (RR (.ref s2.heap.objs.size) s3.heap.objs.size) s') _ st3 (loop tk))
 subst hs3
 exact key _
theorem Bk {px pos:Pos} {iter elt:Expr} {ifs:List Expr} {wi:TI} {tt:TT} {te:TE} (hc:X.calm=true) (S:Fz X x scope) (hi:PI X (.Name x px) iter wi)
  (ht:∀ C s₀ H₀ fp,NZ (CG X x scope C s₀ H₀ fp) ifs tt) (he:∀ C s₀ H₀ fp,PE (CG X x scope C s₀ H₀ fp) elt te) (hs:∀ x,foldedSetIterable iter X.env x=pure x:=by intro _; rfl) :
  PE X (.ListComp elt [⟨.Name x px,iter,ifs,0⟩] scope pos) (Wx wi tt te):=by
 intro pins s σ H Q I h
 rw [eval_ListComp]
 refine wpAny_comprehension_free (use:=none) (cl:=DX X.env scope.names []) rfl hs (Hs fun y hy hk=>I.ok.has y.1 (S.free y hy hk)) S.kind S.names (By (hi pins s σ H _ I h) fun v s1 h1=>By h1 fun itv s2 h2=>?_)
 obtain ⟨it,fp,tn,J,H2,e,I2,T,st2,f2,q⟩:=h2
 subst e
 refine KJ (RR:=fun acc C=>compPost (model X.prog X.w) X.A X.xe none (EP X pins σ Q) acc C) (Q:=Q) hc S ht he I2 T st2 f2 q ?_
 intro D C s' H' m hn hf hI hq
 exact ⟨m,hn,fun h' sb=>⟨.ref D,H',hI.sameBut hf sb,rfl,hq⟩⟩
theorem Qj {i:Nat} {y:Str} {px py pos spos:Pos} {iter elt:Expr} {ifs:List Expr} {wi:TI} {tt:TT} {te:TE} (hN:X.N.Nodup) (hi':X.N[i]? = some y) (hy:X.env.scope.names.lookup y=some .local) (hc:X.calm=true) (S:Fz X x scope) (hi:PI X (.Name x px) iter wi)
  (ht:∀ C s₀ H₀ fp,NZ (CG X x scope C s₀ H₀ fp) ifs tt) (he:∀ C s₀ H₀ fp,PE (CG X x scope C s₀ H₀ fp) elt te) (hsw:swapsWith (.ListComp elt [⟨.Name x px,iter,ifs,0⟩] scope pos) (some (.Name y py)) spos.line X.env=pure true:=by rfl) (hs:∀ x,foldedSetIterable iter X.env x=pure x:=by intro _; rfl) :
  PS X (.Assign [.Name y py] (.ListComp elt [⟨.Name x px,iter,ifs,0⟩] scope pos) spos) (Ut (Wx wi tt te) (Ez i)):=by
 intro pins s σ H D' I h
 rw [exec_Assign_Name_used _ _ _ _ hsw]
 refine wpAny_bind (wpAny_standAt (wpAny_bind ?_))
 show wpAny _ X.A (do let _ ← comprehension (.ListComp elt [⟨.Name x px,iter,ifs,0⟩] scope pos) scope X.env _ (newList []) false (eval iter X.env) (some (assign (.Name y py) X.env))) _ _ s
 refine wpAny_bind (wpAny_mono (wpAny_comprehension_free (use:=some (assign (.Name y py) X.env)) (cl:=DX X.env scope.names []) (Q:=fun _ s'=>SP X pins D' .next s') rfl hs (Hs fun y hy hk=>I.ok.has y.1 (S.free y hy hk)) S.kind S.names
  (By (hi pins s σ H _ I h) fun v s1 h1=>By h1 fun itv s2 h2=>?_)) (fun _ s' hq=>wpAny_pure (wpAny_pure hq)) fun _ _ e=>e)
 obtain ⟨it,fp,tn,J,H2,e,I2,T,st2,f2,q⟩:=h2
 subst e
 refine KJ (RR:=fun acc C=>compPost (model X.prog X.w) X.A X.xe (some (assign (.Name y py) X.env)) (fun _ s'=>SP X pins D' .next s') acc C) (Q:=fun x H1=>Ez i x σ H1 D'.nx) hc S ht he I2 T st2 f2 q ?_
 intro D C s' H' m hn hf hI hq
 show wpAny _ X.A (assign (.Name y py) X.env (.ref D)) _ _ _
 refine wpAny_assign_Name (JX hI hN hi' (.inl hy) (v:=.ref D) rfl (fun s6 I6 hch=>?_) (.inr hy))
 obtain ⟨a,sb,ha⟩:=hch
 have hCa:C ≠ a:=by
  rcases ha with z | z
  ·rw [z]; exact hf.2.1
  ·exact Ne.symm (hf.2.2.2.2.1 y a z)
 exact ⟨m,hn.sameBut sb hCa,fun h' sb'=>⟨_,H',I6.sameBut hf sb',hq⟩⟩
end
end L2
namespace L2
open PySem PySem.Spec PyProof.Rows
section
variable {σ:St} {H1:Hp} {Q:VK} {tt:TT} {te:TE}
theorem Gp {J:It} {xs:List V} (p:V->Bool) (f:V->V) (hz:xs.length<sizeLine)
  (hgo:∀ i H x,Ak H1 H->xs[i]? = some x->J.go i H) (hy:∀ i H y H',Ak H1 H->i<xs.length->J.yld i H y H'->H'=H/\xs[i]? = some y) (hstop:∀ H,Ak H1 H->J.stop xs.length H)
  (ht:∀ x∈xs,∀ H,Ak H1 H->∀ R:Bool->Hp->Prop,(∀ H',Ak H H'->R (p x) H')->tt (some x::σ) H R)
  (he:∀ x∈xs,p x=true->∀ H,Ak H1 H->∀ R:VK,(∀ H',Ak H H'->R (f x) H')->te (some x::σ) H R)
  (hq:∀ D H,H1 D=none->Ak H1 H->H D=some (.lst ((xs.filter p).map f))->Q (.ref D) H):GC J σ H1 Q tt te:=by
 intro D hD
 have s0:Ak H1 (upd H1 D (.lst [])):=fun b o e=>by rw [Ar (Ai e hD)]; exact e
 refine ⟨fun i m ys H=>m=xs.length - i/\i<=xs.length/\ys=((xs.take i).filter p).map f/\H D=some (.lst ys)/\Ak H1 H,⟨xs.length,by simp,Nat.zero_le _,by simp,Ah,s0⟩,?_⟩
 rintro i m ys H ⟨rfl,hi,rfl,hd,hs⟩
 by_cases hlt:i<xs.length
 ·obtain ⟨x,hx⟩:∃ x,xs[i]? = some x:=⟨xs[i],by simp [hlt]⟩
  refine .inr ⟨hgo i H x hs hx,fun y H3 hyl=>?_⟩
  obtain ⟨rfl,hy'⟩:=hy i H y H3 hs hlt hyl
  rw [hx] at hy'
  cases hy'
  have hm:x∈xs:=List.mem_of_getElem? hx
  have hlen:(((xs.take i).filter p).map f).length<sizeLine:=by
   rw [List.length_map]
   refine Nat.lt_of_le_of_lt (List.length_filter_le _ _) (Nat.lt_of_le_of_lt ?_ hz)
   rw [List.length_take]; omega
  refine ht x hm _ hs _ fun H4 s4=>?_
  by_cases hp:p x=true
  ·rw [if_pos hp]
   refine he x hm hp H4 (hs.trans s4) _ fun H5 s5=>?_
   refine ⟨s5 _ _ (s4 _ _ hd),hlen,xs.length - (i+1),by omega,rfl,hlt,?_,Ah,fun b o e=>?_⟩
   ·rw [take_succ_filter p xs i x hx,if_pos hp,List.map_append]; rfl
   ·rw [Ar (Ai e hD)]; exact s5 _ _ (s4 _ _ (hs _ _ e))
  ·rw [if_neg hp]
   refine ⟨xs.length - (i+1),by omega,rfl,hlt,?_,s4 _ _ hd,hs.trans s4⟩
   rw [take_succ_filter p xs i x hx,if_neg hp,List.append_nil]
 ·have e:i=xs.length:=by omega
  subst e
  rw [List.take_length] at hd
  exact .inl ⟨hstop H hs,hq D H hD hs hd⟩
theorem Ot {lo:Int} {n:Nat} (p:Int->Bool) (f:Int->V) (hz:n<sizeLine)
  (ht:∀ i:Nat,i<n->∀ H,Ak H1 H->∀ R:Bool->Hp->Prop,(∀ H',Ak H H'->R (p (lo+i)) H')->tt (some (.int (lo+i))::σ) H R)
  (he:∀ i:Nat,i<n->p (lo+i)=true->∀ H,Ak H1 H->∀ R:VK,(∀ H',Ak H H'->R (f (lo+i)) H')->te (some (.int (lo+i))::σ) H R)
  (hq:∀ D H,H1 D=none->Ak H1 H->H D=some (.lst ((((List.range n).map fun (i:Nat)=>lo+(i:Int)).filter p).map f))->Q (.ref D) H):GC (XM lo n) σ H1 Q tt te:=by
 let g:V->Int:=fun v=>match v with | .int i=>i | _=>0
 have hxs:∀ i:Nat,i<n->((List.range n).map fun (i:Nat)=>V.int (lo+(i:Int)))[i]? = some (.int (lo+i)):=fun i hi=>by simp [hi]
 refine Gp (xs:=(List.range n).map fun (i:Nat)=>V.int (lo+(i:Int))) (fun v=>p (g v)) (fun v=>f (g v)) (by simpa using hz) (fun i H x _ hx=>?_) (fun i H y H' _ hi hy=>?_) (fun H _=>?_) (fun x hx=>?_) (fun x hx=>?_) (fun D H h1 h2 h3=>?_)
 ·have:i<((List.range n).map fun (i:Nat)=>V.int (lo+(i:Int))).length:=(List.getElem?_eq_some_iff.mp hx).1
  show i<n
  simpa using this
 ·have hi':i<n:=by simpa using hi
  obtain ⟨e1,e2⟩:=hy
  subst e2
  exact ⟨e1,hxs i hi'⟩
 ·show n<=_
  simp
 ·obtain ⟨i,hi,rfl⟩:=List.mem_map.mp hx
  exact ht i (List.mem_range.mp hi)
 ·obtain ⟨i,hi,rfl⟩:=List.mem_map.mp hx
  exact he i (List.mem_range.mp hi)
 ·refine hq D H h1 h2 ?_
  rw [h3,List.filter_map,List.map_map,List.filter_map,List.map_map]
  rfl
noncomputable def gW (z:Str):It:=⟨fun i _=>i<z.cps.size,fun i H x H'=>H'=H/\∃ c,z.cps[i]? = some c/\x=.str ⟨#[c]⟩,fun i _=>z.cps.size<=i⟩
theorem Uv {P:Program} {w:World} {K:PySem.W.Frag} {tg:Expr} {z:Str} {t0:Tok} {it:Addr} {ty:String} (hty:ty = "str_ascii_iterator" \/ ty = "str_iterator"):Turn P w K tg (gW z) [it] it (fun i h=>h.IsStrIter it ty z t0 i) where
 mem:=by simp
 obj:=fun i h st b hb=>by
  have e:b=it:=by simpa using hb
  subst e
  obtain ⟨o,ho,hc,hd⟩:=st
  exact ⟨o,ho,fun v q=>by rw [hd] at q; cases q⟩
 keep:=fun i h h' st k=>let ⟨o,ho,r⟩:=st; ⟨o,k it (by simp) o ho,r⟩
 item:=by
  intro X hP hw hK hc i pins s σ H E I hf st hg
  subst hP hw hK
  obtain ⟨f0,f1,f2,f3,f4,f5⟩:=hf it (by simp)
  have hg':i<z.cps.size:=hg
  have hx:z.cps[i]? = some z.cps[i]:=Array.getElem?_eq_getElem hg'
  have fin:∀ h',h'.IsStrIter it ty z t0 (i+1)->Heap.SameBut it s.heap h'->∃ u,some (Value.str ⟨#[z.cps[i]]⟩ s.toks)=some u /\
    wpAny (model X.prog X.w) X.A (letOwnedTupleGo tg (.ref it) u) (fun _ s2=>∃ x H',Inv X pins σ H' s2/\RelV x u/\(gW z).yld i H x H'/\s2.heap.IsStrIter it ty z t0 (i+1)/\∀ b∈[it],H' b=none) E { s with heap:=h',toks:=s.toks+1 }:=fun h' st' sb=>by
   have I1:Inv X pins σ H { s with heap:=h',toks:=s.toks+1 }:=I.turned (fun b o hb e=>(sb.2 b hb).trans e) f0 f1 f3 f4 f5
   obtain ⟨o,e,c,d⟩:=id st'
   refine ⟨_,rfl,OD (s:={ s with heap:=h',toks:=s.toks+1 }) e c d (by rcases hty with rfl | rfl <;> decide) ⟨.str ⟨#[z.cps[i]]⟩,H,I1,⟨_,rfl⟩,⟨rfl,_,hx,rfl⟩,st',fun b hb=>(hf b hb).1⟩⟩
  rcases hty with rfl | rfl
  ·exact wpAny_pyNext_ascii_item st hx fin
  ·exact wpAny_pyNext_wide_item st hx fin
 done:=by
  intro X hP hw hK hc i pins s σ H E I hf st hg
  subst hP hw hK
  obtain ⟨f0,f1,f2,f3,f4,f5⟩:=hf it (by simp)
  have hx:z.cps[i]? = none:=by
   have hg':z.cps.size<=i:=hg
   simpa using hg'
  rcases hty with rfl | rfl
  ·exact wpAny_pyNext_ascii_end (I.ok.hd hc) st hx fun h' eb=>⟨rfl,I.turned (t':=s.toks) (fun b o hb e=>eb b o hb e) f0 f1 f3 f4 f5⟩
  ·exact wpAny_pyNext_wide_end (I.ok.hd hc) st hx fun h' eb=>⟨rfl,I.turned (t':=s.toks) (fun b o hb e=>eb b o hb e) f0 f1 f3 f4 f5⟩
 self:=fun A i s Q E st h=>by
  rcases hty with rfl | rfl
  ·exact wpAny_pyIter_striter_ascii st h
  ·exact wpAny_pyIter_striter_wide st h
end
section
variable {X:Cx} {tg:Expr}
noncomputable def j6 (tl:TE):TI:=fun σ H R=>tl σ H fun x H1=>∃ z,x=.str z/\R (gW z) H1
theorem UL {l:Expr} {tl:TE} (hl:PE X l tl):PI X tg l (j6 tl):=by
 intro pins s σ H R I h
 refine By (hl pins s σ H _ I h) fun v s1 hq0=>?_
 obtain ⟨x,H1,I1,r1,q1⟩:=hq0
 obtain ⟨z,e,q⟩:=q1
 subst e
 obtain ⟨t,rfl⟩:=r1
 have fin:∀ ty,(ty = "str_ascii_iterator" \/ ty = "str_iterator")->PIE X pins σ tg R (.ref s1.heap.objs.size) { s1 with heap:=s1.heap.push { cls:=.type ty,data:=.fields #[.str z t,.int 0 0] } }:=fun ty hty=>by
  refine ⟨s1.heap.objs.size,[s1.heap.objs.size],_,_,H1,rfl,I1.kept (t':=s1.toks) fun b o e=>Heap.get?_push_of_some _ e,Uv (z:=z) (t0:=t) hty,⟨_,Heap.get?_push_size _ rfl,rfl,rfl⟩,fun b hb=>?_,q⟩
  have e:b=s1.heap.objs.size:=by simpa using hb
  subst e
  exact I1.Lr (Nat.le_refl _) (I1.hok.fresh (Nat.le_refl _))
 cases ha:z.cps.all (· < 128)
 ·exact wpAny_pyIter_wide ha (fin _ (.inr rfl))
 ·exact wpAny_pyIter_ascii ha (fin _ (.inl rfl))
end
section
variable {σ:St} {H1:Hp} {Q:VK} {tt:TT} {te:TE}
noncomputable def sgn (c:Nat):V:=.str ⟨#[c]⟩
theorem Nu {z:Str} (p:Nat->Bool) (f:Nat->V) (hz:z.length<sizeLine)
  (ht:∀ c∈z.cps.toList,∀ H,Ak H1 H->∀ R:Bool->Hp->Prop,(∀ H',Ak H H'->R (p c) H')->tt (some (sgn c)::σ) H R)
  (he:∀ c∈z.cps.toList,p c=true->∀ H,Ak H1 H->∀ R:VK,(∀ H',Ak H H'->R (f c) H')->te (some (sgn c)::σ) H R)
  (hq:∀ D H,H1 D=none->Ak H1 H->H D=some (.lst ((z.cps.toList.filter p).map f))->Q (.ref D) H):GC (gW z) σ H1 Q tt te:=by
 let g:V->Nat:=fun v=>match v with | .str y=>y.cps.getD 0 0 | _=>0
 refine Gp (xs:=z.cps.toList.map sgn) (fun v=>p (g v)) (fun v=>f (g v)) (by simpa [Str.length] using hz) (fun i H x _ hx=>?_) (fun i H y H' _ hi hy=>?_) (fun H _=>?_) (fun x hx=>?_) (fun x hx=>?_) (fun D H h1 h2 h3=>?_)
 ·have:i<(z.cps.toList.map sgn).length:=(List.getElem?_eq_some_iff.mp hx).1
  show i<z.cps.size
  simpa using this
 ·obtain ⟨e1,c,hc,rfl⟩:=hy
  refine ⟨e1,?_⟩
  rw [List.getElem?_map,Array.getElem?_toList,hc]; rfl
 ·show z.cps.size<=_
  simp
 ·obtain ⟨c,hc,rfl⟩:=List.mem_map.mp hx
  exact ht c hc
 ·obtain ⟨c,hc,rfl⟩:=List.mem_map.mp hx
  exact he c hc
 ·refine hq D H h1 h2 ?_
  rw [h3,List.filter_map,List.map_map]
  rfl
end
section
variable {X:Cx}
theorem range_all (bs:List Bool):((List.range bs.length).all fun i=>(bs[i]?).getD true)=bs.all id:=by
 rw [Bool.eq_iff_iff,List.all_eq_true,List.all_eq_true]
 constructor
 ·intro h b hb
  obtain ⟨i,hi,e⟩:=List.mem_iff_getElem.mp hb
  have:=h i (List.mem_range.mpr hi)
  rw [List.getElem?_eq_getElem hi,e] at this
  exact this
 ·intro h i hi
  have hi':=List.mem_range.mp hi
  rw [List.getElem?_eq_getElem hi']
  exact h _ (List.getElem_mem hi')
theorem G_ (hc:X.calm=true):Em X (.builtin "all") (fun xs H Q=>∃ (p:Addr) (bs:List Bool),xs=[V.ref p]/\DQ X.K H p (bs.map V.bl)/\Q (.bl (bs.all id)) H):=by
 intro pins s σ H xs us Q I r h
 obtain ⟨p,bs,rfl,hp,q⟩:=h
 obtain ⟨u,rfl,ru⟩:=vals1 r
 cases ru
 obtain ⟨its,rv,pl,hz⟩:=I.list hp
 have hlen:bs.length=its.length:=by have:=rv.length; rw [List.length_map] at this; exact this
 have hlt:p<s.heap.objs.size:=by obtain ⟨_,e,_⟩:=pl.isList; exact Heap.lt_size e
 refine call_all_walk (wpAny_pyIter_list pl.isList ?_)
 refine ⟨s.heap.objs.size,[s.heap.objs.size,p],[s.heap.objs.size],its.toArray.size,_,_,fun i=>(bs[i]?).getD true,rfl,Walks.list (A:=X.A.in1) (I.ok.hd hc) _ p (Nat.ne_of_lt hlt) its.toArray,
  ⟨⟨_,Heap.get?_push_size _ rfl,rfl,rfl⟩,pl.isList.push _⟩,fun i v s' Q' E' hP hQ=>?_,fun h' tk hk=>?_⟩
 ·have hP':its[i]? = some v:=by simpa using hP
  have hi:i<its.length:=(List.getElem?_eq_some_iff.mp hP').1
  have hb:bs[i]? = some bs[i]:=by simp [hlen,hi]
  obtain ⟨u,hu,ru⟩:=rv.get (i:=i) (x:=.bl bs[i]) (by rw [List.getElem?_map,hb]; rfl)
  rw [hP'] at hu
  cases hu
  cases ru
  dsimp only at hQ
  rw [hb] at hQ
  exact wpAny_truthy_bool hQ
 ·have e:((List.range its.toArray.size).all fun i=>(bs[i]?).getD true)=bs.all id:=by rw [List.size_toArray,← hlen]; exact range_all bs
  rw [e]
  refine ⟨.bl (bs.all id),H,I.kept (t':=tk) fun b o eb=>hk b o (fun hm=>?_) (Heap.get?_push_of_some _ eb),rfl,q⟩
  rw [List.mem_singleton.mp hm] at eb
  exact Nat.lt_irrefl _ (Heap.lt_size eb)
theorem Cw:Em X (.builtin "isinstance") (fun xs H Q=>∃ x T t b,xs=[x,V.ty T]/\Hk X.K H x t/\PySem.W.kitOne X.K t (.type T)=some b/\Q (.bl b) H):=by
 intro pins s σ H xs us Q I r h
 obtain ⟨x,T,t,b,rfl,ty,e,q⟩:=h
 obtain ⟨u,v,rfl,ru,rv⟩:=Vals.two r
 cases rv
 exact Rq I ru ty e fun tk=>⟨.bl b,H,I.tok _,rfl,q⟩
theorem Tf:bH X (fun x lo hi H Q=>∃ z,x=.str z/\z.length<=sizeLine/\Q (.str (Txt.slice z lo hi)) H):=by
 intro pins s σ H x v vl vu lo hi sl Q I rx hs pl pu h
 obtain ⟨z,rfl,hz,q⟩:=h
 obtain ⟨t,rfl⟩:=rx
 refine ⟨"str",_,F.slot_str_getitem.lookup,typeIs_str _ _ _,?_⟩
 have fin:∀ t' k,EP X pins σ Q (.str (Txt.slice z lo hi) t') { s with toks:=k }:=fun t' k=>⟨.str _,H,I.tok _,⟨_,rfl⟩,q⟩
 cases pl with
 | none =>
  cases pu with
  | none=>exact wpAny_getItem_str_slice (l:=none) (u:=none) (st:=none) hs rfl (post_val_or_str ⟨Nat.le_trans (Txt.slice_le z _ _) hz,fin⟩)
  | int j uj=>exact wpAny_getItem_str_slice (l:=none) (u:=some (j,uj)) (st:=none) hs rfl (post_val_or_str ⟨Nat.le_trans (Txt.slice_le z _ _) hz,fin⟩)
 | int i ui =>
  cases pu with
  | none=>exact wpAny_getItem_str_slice (l:=some (i,ui)) (u:=none) (st:=none) hs rfl (post_val_or_str ⟨Nat.le_trans (Txt.slice_le z _ _) hz,fin⟩)
  | int j uj=>exact wpAny_getItem_str_slice (l:=some (i,ui)) (u:=some (j,uj)) (st:=none) hs rfl (post_val_or_str ⟨Nat.le_trans (Txt.slice_le z _ _) hz,fin⟩)
theorem GX:Hh X (binaryOp .Mult) (fun x y H Q=>∃ z n,x=.str z/\y=.int n/\MulOk z n/\Q (.str (Txt.mul z n)) H):=by
 intro pins s σ H x y v u Q I rx ry h
 obtain ⟨z,n,rfl,rfl,hok,q⟩:=h
 obtain ⟨t,rfl⟩:=rx
 obtain ⟨t',rfl⟩:=ry
 exact SB.mul hok fun t' k=>⟨.str _,H,I.tok _,⟨_,rfl⟩,q⟩
end
noncomputable def Qq (x:Str) (scope osc:Scope) (N:List Str):Bool :=
 (scope.kind == .function) && scope.names.all (fun y=>y.2 != .cell) && scope.names.all (fun y=>y.2 != .local || scope.names.lookup y.1 == some .local) && (scope.names.lookup x == some .local) &&
 scope.names.all (fun y=>y.2 != .free || osc.names.lookup y.1 == some .cell || osc.names.lookup y.1 == some .free) && decide ((x::Hi x N).Nodup) && (Hi x N).all (fun y=>scope.names.lookup y != some .local) && (scope.names.lookup ("" : Str) == none)
theorem Bb {X:Cx} {x:Str} {scope osc:Scope} {N:List Str} (hsc:X.env.scope=osc) (hN:X.N=N) (h:Qq x scope osc N=true):Fz X x scope:=by
 unfold Qq at h
 simp only [Bool.and_eq_true] at h
 obtain ⟨⟨⟨⟨⟨⟨⟨h1,h2⟩,h3⟩,h4⟩,h5⟩,h6⟩,h7⟩,h8⟩:=h
 rw [List.all_eq_true] at h2 h3 h5 h7
 have kd:∀ y,X.env.kindOf y=osc.names.lookup y:=fun y=>by rw [← hsc]; rfl
 refine ⟨by simpa using h1,fun y hy=>by simpa using h2 y hy,fun y hy e=>?_,by simpa using h4,fun y hy e=>?_,by rw [hN]; exact of_decide_eq_true h6,fun y hy=>?_,by simpa using h8⟩
 ·have:=h3 y hy
  rw [e] at this
  simpa using this
 ·have:=h5 y hy
  rw [e] at this
  rw [kd]
  simpa using this
 ·rw [hN] at hy
  simpa using h7 y hy
end L2
namespace L2
open PySem PySem.Spec PyProof.Rows
section
variable {X:Cx} {pins:List (Addr × Obj)} {σ:St} {H:Hp} {s:Shared} {h':Heap}
theorem Inv.N5 {ch:List Addr} {a:Addr} {o:HO} {t':Nat} (I:Inv X pins σ H s) (hf:∀ b∈ch,F_ X pins H b) (k:∀ b u,b ∉ ch->s.heap.get? b=some u->h'.get? b=some u) (hp:s.heap.objs.size<=a)
  (new:Bx X.prog X.w (upd H a o) h' a o):Inv X pins σ (upd H a o) { s with heap:=h',toks:=t' }:=by
 have hn:H a=none:=I.hok.fresh hp
 have up:∀ b u,H b=some u->upd H a o b=some u:=fun b u e=>by rw [Ar (Ai e hn)]; exact e
 refine I.step (g':=s.gens) (d':=s.drawn) (ch:=ch) (fun b hb=>?_) (fun b u _ _ hc e _=>k b u hc e) (fun b u _ _ hc e _=>⟨u.slots,k b u hc e⟩) (fun b u _ e n=>?_)
  (fun b u hc e=>⟨u,k b u hc e⟩) (fun b xs e=>up _ _ e) (fun b u x e=>up _ _ e) (fun b ps e=>⟨#[],by rw [up _ _ e]; simp⟩) (fun m hm=>?_) (fun b u e=>?_) I.bare
 ·obtain ⟨f0,f1,f2,f3,f4,f5⟩:=hf b hb
  exact ⟨f3,f1,f4,f5⟩
 ·rw [Ar (Nat.ne_of_lt (Nat.lt_of_lt_of_le (Heap.lt_size e) hp))]
  exact n
 ·obtain ⟨u,es,ep,ho,r⟩:=hm
  exact ⟨u,es,ep,k _ u (fun z=>(hf _ z).2.1 rfl) ho,r⟩
 ·by_cases hb:b=a
  ·subst hb
   rw [Ah] at e
   cases e
   exact new
  ·rw [Ar hb] at e
   refine (I.hok b u e).stay (fun c v hc q=>k c v (fun z=>?_) q) (fun _ q=>up _ _ q) fun _ _ q=>up _ _ q
   have z1:=(hf c z).1
   rcases hc with hc | hc
   ·rw [hc,e] at z1
    cases z1
   ·rw [hc] at z1
    cases z1
theorem Inv.Qc {ch:List Addr} {t':Nat} (I:Inv X pins σ H s) (hf:∀ b∈ch,F_ X pins H b) (k:∀ b u,b ∉ ch->s.heap.get? b=some u->h'.get? b=some u):Inv X pins σ H { s with heap:=h',toks:=t' }:=by
 refine I.step (g':=s.gens) (d':=s.drawn) (ch:=ch) (fun b hb=>?_) (fun b u _ _ hc e _=>k b u hc e) (fun b u _ _ hc e _=>⟨u.slots,k b u hc e⟩) (fun b u _ e n=>n)
  (fun b u hc e=>⟨u,k b u hc e⟩) (fun b xs e=>e) (fun b u x e=>e) (fun b ps e=>⟨#[],by rw [e]; simp⟩) (fun m hm=>?_) (fun b u e=>?_) I.bare
 ·obtain ⟨f0,f1,f2,f3,f4,f5⟩:=hf b hb
  exact ⟨f3,f1,f4,f5⟩
 ·obtain ⟨u,es,ep,ho,r⟩:=hm
  exact ⟨u,es,ep,k _ u (fun z=>(hf _ z).2.1 rfl) ho,r⟩
 ·refine (I.hok b u e).stay (fun c v hc q=>k c v (fun z=>?_) q) (fun _ q=>q) fun _ _ q=>q
  have z1:=(hf c z).1
  rcases hc with hc | hc
  ·rw [hc,e] at z1
   cases z1
  ·rw [hc] at z1
   cases z1
end
noncomputable def dD (K:PySem.W.Frag) (a:Addr):It :=
 ⟨fun i H=>∃ xs x,DQ K H a xs/\xs[i]? = some x,fun i H v H'=>∃ T,H T=none/\v=.ref T/\∀ xs,DQ K H a xs->∃ x,xs[i]? = some x/\H'=upd H T (.tup [.int (i:Int),x]),fun i H=>∃ xs,DQ K H a xs/\xs.length<=i⟩
noncomputable def mG (K:PySem.W.Frag) (a b:Addr):It :=
 ⟨fun i H=>∃ xs ys x y,Gm K H a xs/\Gm K H b ys/\xs[i]? = some x/\ys[i]? = some y,fun i H v H'=>∃ T,H T=none/\v=.ref T/\∀ xs ys,Gm K H a xs->Gm K H b ys->∃ x y,xs[i]? = some x/\ys[i]? = some y/\H'=upd H T (.tup [x,y]),
  fun i H=>∃ xs,Gm K H a xs/\xs.length<=i⟩
theorem Qz {P:Program} {w:World} {K:PySem.W.Frag} {es:List Expr} {k1:Nat} {pos:Pos} (a e it:Addr) (hne:e ≠ it) :
  Turn P w K (.Tuple es k1 pos) (dD K a) [e,it] e (fun i h=>(∃ old,IsEnum h e it i old)/\h.IsListIter it a i) where
 mem:=by simp
 obj:=fun i h st b hb=>by
  obtain ⟨⟨old,he⟩,o,ho,c,d⟩:=st
  rcases List.mem_cons.mp hb with rfl | hb
  ·exact ⟨_,he,fun v z=>by
    have z':Data.fields _=Data.cell v:=z
    cases z'⟩
  ·have q:b=it:=by simpa using hb
   subst q
   exact ⟨o,ho,fun v z=>by rw [d] at z; cases z⟩
 keep:=fun i h h' st k=>by
  obtain ⟨⟨old,he⟩,hi⟩:=st
  exact ⟨⟨old,k e (by simp) _ he⟩,hi.at fun o q=>k it (by simp) o q⟩
 item:=by
  intro X hP hw hK hc i pins s σ H E I hf st hg
  subst hP hw hK
  obtain ⟨xs,x,hq,hx⟩:=hg
  obtain ⟨its,rv,p,hz⟩:=I.list hq
  obtain ⟨u,hu,ru⟩:=rv.get hx
  obtain ⟨⟨old,he⟩,hi⟩:=st
  refine wpAny_pyNext_enum_item he hi p.isList (x:=u) (by simpa using hu) hne fun h1 n1 n2 n3 n4 n5=>?_
  refine ⟨_,rfl,wpAny_letOwnedTupleGo_enum (s:={ s with heap:=h1,toks:=s.toks+1 }) n1 fun h2 m1 m2=>?_⟩
  have hT:s.heap.objs.size ≠ e:=Nat.ne_of_gt (Heap.lt_size he)
  have hI:s.heap.objs.size ≠ it:=by obtain ⟨_,q,_⟩:=hi; exact Nat.ne_of_gt (Heap.lt_size q)
  have fr:H s.heap.objs.size=none:=I.hok.fresh (Nat.le_refl _)
  have nw:Bx X.prog X.w (upd H s.heap.objs.size (.tup [.int (i:Int),x])) h2 s.heap.objs.size (.tup [.int (i:Int),x]) :=
   ⟨by show 2<=sizeLine; decide,[.int i s.toks,u],.cons ⟨_,rfl⟩ (.cons ru .nil),_,m2.extBut _ _ hT n3,rfl,_,rfl⟩
  refine ⟨.ref s.heap.objs.size,_,I.N5 (t':=s.toks+1) (ch:=[e,it]) hf (fun b o hb q=>?_) (Nat.le_refl _) nw,rfl,⟨_,fr,rfl,fun ys hy=>⟨x,by rw [I.M3 hy hq]; exact hx,rfl⟩⟩,⟨⟨u,?_⟩,n2.at fun o q=>m2.extBut _ _ (Ne.symm hne) q⟩,fun b hb=>?_⟩
  ·exact m2.extBut _ _ (fun z=>hb (by simp [z])) (n5 b o (fun z=>hb (by simp [z])) (fun z=>hb (by simp [z])) q)
  ·have e1:((i:Int)+1)=((i+1:Nat):Int):=by omega
   rw [← e1]
   exact m1
  ·have hb':=hb
   rcases List.mem_cons.mp hb with rfl | hb
   ·rw [Ar (Ne.symm hT)]
    exact (hf _ hb').1
   ·have q:b=it:=by simpa using hb
    subst q
    rw [Ar (Ne.symm hI)]
    exact (hf _ hb').1
 done:=by
  intro X hP hw hK hc i pins s σ H E I hf st hg
  subst hP hw hK
  obtain ⟨xs,hq,hx⟩:=hg
  obtain ⟨its,rv,p,hz⟩:=I.list hq
  obtain ⟨⟨old,he⟩,hi⟩:=st
  have hl:=rv.length
  exact wpAny_pyNext_enum_end (I.ok.hd hc) he hi p.isList (by simp; omega) fun h1 eb=>⟨rfl,I.Qc (t':=s.toks) (ch:=[e,it]) hf fun b o hb q=>eb b o (fun z=>hb (by simp [z])) q⟩
 self:=fun _ _ _ _ _ st h=>by
  obtain ⟨⟨old,he⟩,_⟩:=st
  exact wpAny_pyIter_enum he h
theorem Uw {n a b:Nat} (ha:a<n) (hb:b<n):ZipApart (n+4) (n+2) (n+3) n (n+1) a b:=by
 constructor <;> (refine (show @Ne Nat _ _ from ?_); omega)
theorem Y_ {n b:Nat} {P:Nat->Prop} (h0:P n) (h1:P (n+1)) (h2:P (n+2)) (h3:P (n+3)) (h4:P (n+4)) (hb:b∈[n,n+1,n+2,n+3,n+4]):P b:=by
 simp at hb
 rcases hb with rfl | rfl | rfl | rfl | rfl <;> assumption
theorem Rp {P:Program} {w:World} {K:PySem.W.Frag} {es:List Expr} {k1:Nat} {pos:Pos} (a b n:Nat) (ha:a<n) (hb:b<n) :
  Turn P w K (.Tuple es k1 pos) (mG K a b) [n,n+1,n+2,n+3,n+4] (n+4) (fun i h=>IsZip h (n+4) (n+2) (n+3) .none/\IsPair h (n+2) (.ref n) (.ref (n+1))/\(∃ x y,IsPair h (n+3) x y)/\h.IsTupleIter n a i/\h.IsTupleIter (n+1) b i) where
 mem:=by simp
 obj:=fun i h st c hc=>by
  obtain ⟨hz,hI,⟨x,y,hO⟩,⟨o1,e1,_,d1⟩,⟨o2,e2,_,d2⟩⟩:=st
  refine Y_ (P:=fun c=>∃ o,h.get? c=some o/\∀ v,o.data ≠ .cell v) ⟨_,e1,fun v z=>?_⟩ ⟨_,e2,fun v z=>?_⟩ ⟨_,hI,fun v z=>?_⟩ ⟨_,hO,fun v z=>?_⟩ ⟨_,hz,fun v z=>?_⟩ hc
  ·rw [d1] at z; cases z
  ·rw [d2] at z; cases z
  ·have z':Data.seq _ _=Data.cell v:=z
   cases z'
  ·have z':Data.seq _ _=Data.cell v:=z
   cases z'
  ·have z':Data.fields _=Data.cell v:=z
   cases z'
 keep:=fun i h h' st k=>by
  obtain ⟨hz,hI,⟨x,y,hO⟩,j1,j2⟩:=st
  exact ⟨k _ (by simp) _ hz,k _ (by simp) _ hI,⟨x,y,k _ (by simp) _ hO⟩,j1.at fun o q=>k _ (by simp) o q,j2.at fun o q=>k _ (by simp) o q⟩
 item:=by
  intro X hP hw hK hc i pins s σ H E I hf st hg
  subst hP hw hK
  obtain ⟨xs,ys,x,y,q1,q2,hx,hy⟩:=hg
  obtain ⟨it1,r1,p1,_⟩:=I.tuple q1
  obtain ⟨it2,r2,p2,_⟩:=I.tuple q2
  obtain ⟨u,hu,ru⟩:=r1.get hx
  obtain ⟨v,hv,rv⟩:=r2.get hy
  obtain ⟨hz,hI,⟨x0,y0,hO⟩,j1,j2⟩:=st
  have D:=Uw ha hb
  have hT:s.TypeIs (.ref (n+4)) "zip":=⟨_,hz,rfl⟩
  have sz:n+4<s.heap.objs.size:=Heap.lt_size hz
  unfold pyNext
  refine wpAny_bind (wpAny_attempt (wpAny_callSpecial?_slot (name:=Str.ofString "__next__") hT F.slot_zip_next (wpAny_call_entry F.slot_zip_next hT F.entry_zip_next
   (Ra D hz hI hO j1 j2 (show s.heap.IsTuple a it1.toArray from p1) (show s.heap.IsTuple b it2.toArray from p2) (x:=u) (y:=v) (by simpa using hu) (by simpa using hv) fun h1 n1 n2 n3 n4 n5 n6 n7=>wpAny_pure ?_) (F.args_zip_next_1 _))))
  refine ⟨_,rfl,wpAny_letOwnedTupleGo_zip (s:={ s with heap:=h1 }) n1 fun h2 m1 m2=>?_⟩
  have fr:H s.heap.objs.size=none:=I.hok.fresh (Nat.le_refl _)
  have nw:Bx X.prog X.w (upd H s.heap.objs.size (.tup [x,y])) h2 s.heap.objs.size (.tup [x,y]) :=
   ⟨by show 2<=sizeLine; decide,[u,v],.cons ru (.cons rv .nil),_,m2.extBut _ _ (Nat.ne_of_gt sz) n5,rfl,_,rfl⟩
  have hI2:IsPair h1 (n+2) (.ref n) (.ref (n+1)):=n7 _ _ D.TIz D.TITO D.TIi1 D.TIi2 hI
  refine ⟨.ref s.heap.objs.size,_,I.N5 (t':=s.toks) (ch:=[n,n+1,n+2,n+3,n+4]) hf (fun c o hc q=>?_) (Nat.le_refl _) nw,rfl,⟨_,fr,rfl,fun xs' ys' h1 h2=>⟨x,y,by rw [I.JW h1 q1]; exact hx,by rw [I.JW h2 q2]; exact hy,rfl⟩⟩,
   ⟨m1,m2.extBut _ _ D.TIz hI2,⟨u,v,m2.extBut _ _ D.TOz n2⟩,n3.at fun o q=>m2.extBut _ _ D.i1z q,n4.at fun o q=>m2.extBut _ _ D.i2z q⟩,fun c hc=>?_⟩
  ·have z:∀ d,d∈[n,n+1,n+2,n+3,n+4]->c ≠ d:=fun d hd q=>hc (q ▸ hd)
   exact m2.extBut _ _ (z _ (by simp)) (n7 c o (z _ (by simp)) (z _ (by simp)) (z _ (by simp)) (z _ (by simp)) q)
  ·rw [Ar ?_]
   ·exact (hf c hc).1
   ·have lt:c<=n+4:=Y_ (P:=fun c=>c<=n+4) (by omega) (by omega) (by omega) (by omega) (Nat.le_refl _) hc
    exact Nat.ne_of_lt (Nat.lt_of_le_of_lt lt sz)
 done:=by
  intro X hP hw hK hc i pins s σ H E I hf st hg
  subst hP hw hK
  obtain ⟨xs,q1,hx⟩:=hg
  obtain ⟨it1,r1,p1,_⟩:=I.tuple q1
  obtain ⟨hz,hI,⟨x0,y0,hO⟩,j1,j2⟩:=st
  have D:=Uw ha hb
  have hT:s.TypeIs (.ref (n+4)) "zip":=⟨_,hz,rfl⟩
  have hl:=r1.length
  unfold pyNext
  refine wpAny_bind (wpAny_attempt (wpAny_callSpecial?_slot (name:=Str.ofString "__next__") hT F.slot_zip_next (wpAny_call_entry F.slot_zip_next hT F.entry_zip_next
   (Ua (I.ok.hd hc) D hz hI hO j1 (show s.heap.IsTuple a it1.toArray from p1) (by simp; omega) fun h1 x k1 hx1=>?_) (F.args_zip_next_1 _))))
  obtain ⟨o,ho,hco⟩:=hx1
  refine wpAny_bind (wpAny_isInstance (T:="StopIteration") (b:=true) ⟨o,ho,hco⟩ isSubtype_stop (wpAny_pure ?_))
  refine ⟨rfl,I.Qc (t':=s.toks) (ch:=[n,n+1,n+2,n+3,n+4]) hf fun c o hc q=>?_⟩
  have z:∀ d,d∈[n,n+1,n+2,n+3,n+4]->c ≠ d:=fun d hd q=>hc (q ▸ hd)
  exact k1 c o (z _ (by simp)) (z _ (by simp)) (z _ (by simp)) (z _ (by simp)) q
 self:=fun _ _ _ _ _ st h=>wpAny_pyIter_zip st.1 h
section
variable {X:Cx} {es:List Expr} {k1:Nat} {tpos:Pos}
noncomputable def Z1 (K:PySem.W.Frag) (ta:TA):TI:=fun σ H R=>ta σ H fun vs H1=>∃ a,vs=[.ref a]/\(∃ xs,DQ K H1 a xs)/\R (dD K a) H1
noncomputable def jl (K:PySem.W.Frag) (ta:TA):TI:=fun σ H R=>ta σ H fun vs H1=>∃ a b,vs=[.ref a,.ref b]/\(∃ xs,Gm K H1 a xs)/\(∃ ys,Gm K H1 b ys)/\R (mG K a b) H1
theorem Ju {l:Expr} {ta:TA} {p pos:Pos} (hg:Gl X "enumerate") (hm:X.mg "enumerate" = none) (ha:PA X [l] ta) (hs:starEach [l] X.env=[(false,eval l X.env)]:=by rfl) :
  PI X (.Tuple es k1 tpos) (.Call (.Name "enumerate" p) [l] [] pos) (Z1 X.K ta):=by
 intro pins s σ H R I h
 refine Call_ (Ht I hg hm boot_enumerate (PyProof.Rows.callWith_type1 (By (ha pos pins s σ H _ I h) fun us s1 ⟨vs,H1,I1,r1,q1⟩=>?_) hs rfl))
 obtain ⟨a,e,⟨xs,hq⟩,q⟩:=q1
 subst e
 obtain ⟨u,rfl,ru⟩:=vals1 r1
 cases ru
 obtain ⟨its,rv,pl,hz⟩:=I1.list hq
 refine call_enumerate_list pl.isList fun h1 n1 n2 n3 n4=>?_
 refine wpAny_pyIter_enum (s:={ s1 with heap:=h1 }) n1 ?_
 refine ⟨_,[s1.heap.objs.size+1,s1.heap.objs.size],_,_,H1,rfl,I1.kept (t':=s1.toks) n4,Qz a _ _ (Nat.succ_ne_self _),⟨⟨_,n1⟩,n2⟩,fun b hb=>?_,q⟩
 have lt:s1.heap.objs.size<=b:=by
  rcases List.mem_cons.mp hb with rfl | hb
  ·exact Nat.le_succ _
  ·exact Nat.le_of_eq ((List.mem_singleton.mp hb).symm)
 exact I1.Lr lt (I1.hok.fresh lt)
theorem V7 {x y:Expr} {ta:TA} {p pos:Pos} (hg:Gl X "zip") (hm:X.mg "zip" = none) (ha:PA X [x,y] ta) (hs:starEach [x,y] X.env=[(false,eval x X.env),(false,eval y X.env)]:=by rfl) (hs2:starEach [y] X.env=[(false,eval y X.env)]:=by rfl) :
  PI X (.Tuple es k1 tpos) (.Call (.Name "zip" p) [x,y] [] pos) (jl X.K ta):=by
 intro pins s σ H R I h
 refine Call_ (Ht I hg hm boot_zip (PyProof.Rows.callWith_type1 (By (ha pos pins s σ H _ I h) fun us s1 ⟨vs,H1,I1,r1,q1⟩=>?_) (by rw [hs,hs2]) (by rw [hs2]; rfl)))
 obtain ⟨a,b,e,⟨xs,q1⟩,⟨ys,q2⟩,q⟩:=q1
 subst e
 obtain ⟨u,v,rfl,ru,rv⟩:=Vals.two r1
 cases ru
 cases rv
 obtain ⟨it1,r1,p1,_⟩:=I1.tuple q1
 obtain ⟨it2,r2,p2,_⟩:=I1.tuple q2
 refine RG (show s1.heap.IsTuple a it1.toArray from p1) (show s1.heap.IsTuple b it2.toArray from p2) fun h1 n hn n1 n2 n3 n4 n5 n6 n7=>?_
 refine wpAny_pyIter_zip (s:={ s1 with heap:=h1 }) n1 ?_
 have la:a<n:=by rw [hn]; exact p1.lt
 have lb:b<n:=by rw [hn]; exact p2.lt
 refine ⟨_,[n,n+1,n+2,n+3,n+4],_,_,H1,rfl,I1.kept (t':=s1.toks) n7,Rp a b n la lb,⟨n1,n2,⟨_,_,n3⟩,n4,n5⟩,fun c hc=>?_,q⟩
 have lt:s1.heap.objs.size<=c:=by
  rw [← hn]
  exact Y_ (P:=fun c=>n<=c) (by omega) (by omega) (by omega) (by omega) (by omega) hc
 exact I1.Lr lt (I1.hok.fresh lt)
end
end L2
namespace L2
open PySem PySem.Spec PyProof.Rows
theorem Ve {prog:Program} {w:World} {A:Around} {R:Result->Shared->Prop} {s:Shared} {elt tg iter:Expr} {ifs:List Expr} {scope:Scope} {pos:Pos} {it acc:Value} {env:Env} (J:Nat->Shared->Prop) {E:Value->Shared->Prop} (hE:E=notedBy (model prog w) A env fun e s'=>R (.error e) s')
  (turn:∀ n s,J n s->wpAny (model prog w) A (pyNext it) (fun r s1=>match r with
   | none=>R (.ok .next) s1
   | some v=>wpAny (model prog w) A (letOwnedTupleGo tg it v) (fun _ s2=>wpAny (model prog w) A (assign tg env v) (fun _ s3 =>
     wpAny (model prog w) A (forIn ifs true fun c r=>if r=true then do let ok ← isTrue c env (eval c env); pure (ForInStep.yield ok) else pure (ForInStep.yield r)) (fun ok s4 =>
      if ok=true then wpAny (model prog w) A (eval elt env) (fun x s5=>wpAny (model prog w) A (call (.builtin "list.append") [acc,x]) (fun _ s6=>∃ m,m<n/\J m s6) E s5) E s4
      else ∃ m,m<n/\J m s4) E s3) E s2) E s1) E s) (n:Nat) (h:J n s) :
  codeAny (model prog w) A (.compLoop (.ListComp elt [⟨tg,iter,ifs,0⟩] scope pos) 0 it acc env) R s:=by
 subst hE
 refine codeAny_loop rfl J (fun n s hJ=>(show wpAny _ A ((compTurn (.ListComp elt [⟨tg,iter,ifs,0⟩] scope pos) 0 it acc env).onRaise (fun x=>do noteFrame x env; theTreesLotGoes x)) _ _ s from wpAny_noted ?_)) n h
 rw [compTurn_list]
 refine wpAny_bind (wpAny_standAt (wpAny_bind (wpAny_mono (turn n s hJ) (fun r s1 h1=>?_) fun _ _ q=>q)))
 cases r with
 | none=>exact wpAny_pure h1
 | some v =>
  refine wpAny_bind (wpAny_mono h1 (fun _ s2 h2=>wpAny_bind (wpAny_mono h2 (fun _ s3 h3=>wpAny_bind (wpAny_mono h3 (fun ok s4 h4=>?_) fun _ _ q=>q)) fun _ _ q=>q)) fun _ _ q=>q)
  cases ok with
  | false=>exact wpAny_pure ⟨rfl,h4⟩
  | true=>exact wpAny_bind (wpAny_bind (wpAny_mono h4 (fun x s5 h5=>wpAny_bind (wpAny_mono h5 (fun _ s6 h6=>wpAny_pure (wpAny_pure ⟨rfl,h6⟩)) fun _ _ q=>q)) fun _ _ q=>q))
noncomputable def Bf (X:Cx) (x z:Str) (scope:Scope) (C:Addr) (s₀:Shared) (H₀:Hp) (fp:List Addr):Cx where
 prog:=X.prog
 w:=X.w
 K:=X.K
 mg:=X.mg
 base:=X.base
 A:=X.A
 N:=x::z::X.N
 s₀:=s₀
 H₀:=H₀
 env:=compEnvC scope (DX X.env scope.names []) C X.env
 outer:=X.stack
 stack:=X.stack
 ex:=fp
 fn:=fun _=>false
 calm:=X.calm
 pn:=[]
 xe:=fun _ _=>False
structure Ed (X:Cx) (x z:Str) (scope:Scope):Prop where
 kind:scope.kind=.function
 nocell:∀ y∈scope.names,y.2 ≠ .cell
 names:∀ y∈scope.names,y.2=.local->scope.names.lookup y.1=some .local
 loc:scope.names.lookup x=some .local
 loz:scope.names.lookup z=some .local
 free:∀ y∈scope.names,y.2=.free->X.env.kindOf y.1=some .cell \/ X.env.kindOf y.1=some .free
 nd:(x::z::X.N).Nodup
 only:∀ y∈X.N,scope.names.lookup y ≠ some .local
section
variable {X:Cx} {pins:List (Addr × Obj)} {σ:St} {H:Hp} {s:Shared} {x z:Str} {scope:Scope} {fp:List Addr} {C:Addr}
theorem NB {h':Heap} {tk:Nat} {m:Str->Option Value} (I:Inv X pins σ H s) (S:Ed X x z scope) (hf:∀ b∈fp,F_ X pins H b) (hlt:∀ b∈fp,b<s.heap.objs.size) (hC:s.heap.objs.size<=C) (hn:h'.Ns C m)
  (hk:∀ b o,s.heap.get? b=some o->h'.get? b=some o):Inv (Bf X x z scope C s H fp) [] (none::none::σ) H { s with heap:=h',toks:=tk }:=by
 have cl:∀ y c,(DX X.env scope.names []).lookup y=some c->X.env.cells.lookup y=some c:=fun y c e=>by
  rcases Fp X.env scope.names [] y c e with z | z
  ·cases z
  ·exact z
 have cellK:∀ c v,s.heap.IsCell c v->h'.IsCell c v:=fun c v ⟨o,ho,hd⟩=>⟨o,hk c o ho,hd⟩
 have look:∀ y,(Bf X x z scope C s H fp).env.scope.names.lookup y=(scope.names.lookup y).map fun k=>if (k == NameKind.free && X.env.scope.kind == .function && X.env.kindOf y == some .cell) then NameKind.cell else k:=fun y=>Eo X.env y scope.names
 refine ⟨⟨I.ok.mod,S.kind,I.ok.glob,I.ok.blt,hC,fun y z c e1 e2=>I.ok.inj y z c (cl y c e1) (cl z c e2),fun y hy=>?_,fun y c e _=>(by cases e),fun h=>I.ok.hd h,I.ok.frames,.inl rfl,fun b hb=>?_,I.bs,Nat.le_trans I.ok.bsz I.sz,fun b o e hb=>?_,fun b hb hb'=>?_,I.stack,I.HH⟩,
  rfl,I.bare,Un.kept hk,⟨m,hn,fun i y v h1 h2 h3=>?_⟩,fun y c e=>?_,I.hok.fresh hC,fun y c e=>I.freeC y c (cl y c e),fun p hp=>absurd (show p∈([]:List (Addr × Obj)) from hp) (by simp),I.hok.kept hk,?_⟩
 ·have hy':(Bf X x z scope C s H fp).env.scope.names.lookup y=some .cell \/ (Bf X x z scope C s H fp).env.scope.names.lookup y=some .free:=hy
  rw [look y] at hy'
  cases e:scope.names.lookup y with
  | none=>rw [e] at hy'; rcases hy' with z | z <;> cases z
  | some k =>
   have hm:=PySem.mem_of_lookup e
   have hfree:k=.free:=by
    rw [e] at hy'
    cases k with
    | free=>rfl
    | cell=>exact absurd rfl (S.nocell _ hm)
    | _=>rcases hy' with z | z <;> simp at z
   subst hfree
   obtain ⟨c,hc⟩:=I.ok.has y (S.free _ hm rfl)
   exact Option.isSome_iff_exists.mp (Eg X.env scope.names [] y hm (by rw [hc]; rfl))
 ·obtain ⟨f0,f1,f2,f3,f4,f5⟩:=hf b hb
  exact ⟨Nat.ne_of_lt (Nat.lt_of_lt_of_le (hlt b hb) hC),fun y c e=>f4 y c (cl y c e)⟩
 ·obtain ⟨f0,f1,f2,f3,f4,f5⟩:=hf b hb
  rcases f3 with z | z
  ·exact I.ok.noex b o e z
  ·exact absurd (Nat.lt_of_lt_of_le (Heap.lt_size e) (Nat.le_trans I.ok.bsz z)) (Nat.lt_irrefl _)
 ·obtain ⟨f0,f1,f2,f3,f4,f5⟩:=hf b hb
  rcases List.mem_cons.mp (I.Ms b hb') with e | e
  ·exact f1 e
  ·exact f2 e
 ·match i,h1,h2 with
  | 0,h1,h2 =>
   have h2':(some none:Option (Option V))=some (some v):=h2
   cases h2'
  | 1,h1,h2 =>
   have h2':(some none:Option (Option V))=some (some v):=h2
   cases h2'
  | i+2,h1,h2 =>
   have e0:X.N[i]? = some y:=h1
   have h2':σ[i]? = some (some v):=h2
   have hmem:y∈X.N:=List.mem_of_getElem? e0
   have h3':(Bf X x z scope C s H fp).env.scope.names.lookup y=some .local \/ (Bf X x z scope C s H fp).env.scope.names.lookup y=some .cell \/ (Bf X x z scope C s H fp).env.scope.names.lookup y=some .free:=h3
   rw [look y] at h3'
   cases e:scope.names.lookup y with
   | none=>rw [e] at h3'; rcases h3' with z | z | z <;> cases z
   | some k =>
    have hm:=PySem.mem_of_lookup e
    have hfree:k=.free:=by
     rw [e] at h3'
     cases k with
     | free=>rfl
     | cell=>exact absurd rfl (S.nocell _ hm)
     | «local»=>exact absurd e (S.only y hmem)
     | _=>rcases h3' with z | z | z <;> simp at z
    subst hfree
    have kd:=S.free _ hm rfl
    obtain ⟨m0,hn0,hl0⟩:=I.loc
    obtain ⟨u,r,l⟩:=hl0 i y v e0 h2' (by rcases kd with z | z; exact .inr (.inl z); exact .inr (.inr z))
    refine ⟨u,r,.inr ⟨?_,?_⟩⟩
    ·have hk':(Bf X x z scope C s H fp).env.scope.names.lookup y=some (if (NameKind.free == NameKind.free && X.env.scope.kind == .function && X.env.kindOf y == some .cell) then NameKind.cell else NameKind.free):=by
      rw [look y,e]; rfl
     by_cases c:(NameKind.free == NameKind.free && X.env.scope.kind == .function && X.env.kindOf y == some .cell)=true
     ·rw [if_pos c] at hk'; exact .inl hk'
     ·rw [if_neg c] at hk'; exact .inr hk'
    ·rcases l with ⟨lk,_⟩ | ⟨_,c,hc,hcell⟩
     ·exfalso
      rcases kd with z | z <;> (rw [show X.env.kindOf y=some NameKind.local from lk] at z; cases z)
     ·obtain ⟨c',hc'⟩:=Option.isSome_iff_exists.mp (Eg X.env scope.names [] y hm (by rw [hc]; rfl))
      have:=cl y c' hc'
      rw [hc] at this
      cases this
      exact ⟨c,hc',cellK c _ hcell⟩
 ·obtain ⟨v,z⟩:=I.cell y c (cl y c e)
  exact ⟨v,cellK c v z⟩
 ·show (none::none::σ).length=(x::z::X.N).length
  simp [I.len]
end
noncomputable def MN (J:It) (σ:St) (H1:Hp) (Q:VK) (g:TG) (tt:TT) (te:TE):Prop:=∀ D,H1 D=none->∃ W:Nat->Nat->List V->Hp->Prop,(∃ m,W 0 m [] (upd H1 D (.lst [])))/\∀ i m ys H2,W i m ys H2 ->
 (J.stop i H2/\Q (.ref D) H2) \/ (J.go i H2/\∀ x H3,J.yld i H2 x H3->∀ v0 v1,g x (v0::v1::σ) H3 fun σ' H3'=>(∃ w0 w1,σ'=w0::w1::σ)/\tt σ' H3' fun b H4 =>
  if b=true then te σ' H4 fun y H5=>H5 D=some (.lst ys)/\ys.length<sizeLine/\∃ m',m'<m/\W (i+1) m' (ys++[y]) (upd H5 D (.lst (ys++[y])))
  else ∃ m',m'<m/\W (i+1) m' ys H4)
noncomputable def UV (wi:TI) (g:TG) (tt:TT) (te:TE):TE:=fun σ H Q=>wi σ H fun J H1=>MN J σ H1 Q g tt te
section
variable {X:Cx} {x z:Str} {scope:Scope}
theorem Ng {tg:Expr} {pos:Pos} {iter elt:Expr} {ifs:List Expr} {g:TG} {tt:TT} {te:TE} {pins:List (Addr × Obj)} {σ:St} {s2:Shared} {H2:Hp} {it:Addr} {fp:List Addr} {tn:Nat->Heap->Prop} {J:It} {E:Value->Shared->Prop}
  {RR:Value->Addr->Result->Shared->Prop} {Q:VK}
  (hc:X.calm=true) (S:Ed X x z scope) (hg:∀ C s₀ H₀ fp,PG (Bf X x z scope C s₀ H₀ fp) tg g) (ht:∀ C s₀ H₀ fp,NZ (Bf X x z scope C s₀ H₀ fp) ifs tt) (he:∀ C s₀ H₀ fp,PE (Bf X x z scope C s₀ H₀ fp) elt te)
  (I2:Inv X pins σ H2 s2) (T:Turn X.prog X.w X.K tg J fp it tn) (st2:tn 0 s2.heap) (f2:∀ b∈fp,F_ X pins H2 b) (q:MN J σ H2 Q g tt te)
  (hRR:∀ D C s' H' m,s'.heap.Ns C m->F_ X pins H' C->Inv X pins σ H' s'->Q (.ref D) H'->RR (.ref D) C (.ok .next) s') :
  wpAny (model X.prog X.w) X.A (newList []) (fun acc s₃=>wpAny (model X.prog X.w) X.A (newFunctionEnv scope X.env.globals (DX X.env scope.names []) [] X.env.qual none .none (some X.env)) (fun cenv s₄ =>
   codeAny (model X.prog X.w) X.A (.compStart (.ListComp elt [⟨tg,iter,ifs,0⟩] scope pos) 0 (.ref it) acc { cenv with scope:=relabel scope X.env }) (RR acc cenv.locals) s₄) E s₃) E s2:=by
 refine wpAny_newObj_type (wpAny_newFunctionEnv S.nocell (by intro y hy; simp at hy) (fun h₁ hns₁ hsb₁=>?_) S.kind)
 have I3:=I2.Yk (its:=[]) (ys:=[]) (t':=s2.toks) .nil (Nat.zero_le _)
 have hD0:H2 s2.heap.objs.size=none:=I2.fresh
 obtain ⟨W,⟨m0,w0⟩,turn⟩:=q _ hD0
 generalize hs3:({ s2 with heap:=s2.heap.push { cls:=.type "list",data:=.seq ([]:List Value).toArray },toks:=s2.toks }:Shared)=s3 at I3
 have e3:s3.heap=s2.heap.push { cls:=.type "list",data:=.seq ([]:List Value).toArray }:=by rw [← hs3]
 have hlt:∀ b∈fp,b<s2.heap.objs.size:=fun b hb=>let ⟨_,e,_⟩:=T.obj _ _ st2 b hb; Heap.lt_size e
 have hlt3:∀ b∈fp,b<s3.heap.objs.size:=fun b hb=>by rw [e3,Heap.size_push]; exact Nat.lt_succ_of_lt (hlt b hb)
 have f3:∀ b∈fp,F_ X pins (upd H2 s2.heap.objs.size (.lst [])) b:=fun b hb=>⟨by rw [Ar (Nat.ne_of_lt (hlt b hb))]; exact (f2 b hb).1,(f2 b hb).2⟩
 have hk1:∀ b o,s3.heap.get? b=some o->h₁.get? b=some o:=fun b o e=>by
  have hne:b ≠ s3.heap.objs.size:=Nat.ne_of_lt (Heap.lt_size e)
  rw [e3] at e hne
  exact hsb₁.extBut b o hne (Heap.get?_push_of_some _ e)
 have hC:s3.heap.objs.size=(s2.heap.push { cls:=.type "list",data:=.seq ([]:List Value).toArray }).objs.size:=by rw [e3]
 have hns:h₁.Ns s3.heap.objs.size (fun x=>([]:List (Str × Value)).reverse.lookup x):=by rw [hC]; exact hns₁
 have st3:tn 0 h₁:=T.keep _ _ _ st2 fun b hb o e=>hk1 b o (by rw [e3]; exact Heap.get?_push_of_some _ e)
 have start:∀ tk,Inv (Bf X x z scope s3.heap.objs.size s3 (upd H2 s2.heap.objs.size (.lst [])) fp) [] (none::none::σ) (upd H2 s2.heap.objs.size (.lst [])) { s3 with heap:=h₁,toks:=tk }:=fun tk =>
  NB I3 S f3 hlt3 (Nat.le_refl _) hns hk1
 have loop:∀ tk,codeAny (model X.prog X.w) X.A (.compLoop (.ListComp elt [⟨tg,iter,ifs,0⟩] scope pos) 0 (.ref it) (.ref s2.heap.objs.size) (compEnvC scope (DX X.env scope.names []) s3.heap.objs.size X.env))
   (RR (.ref s2.heap.objs.size) s3.heap.objs.size) { s3 with heap:=h₁,toks:=tk }:=by
  intro tk
  refine Ve (fun n s'=>∃ i ys v0 v1 H',Inv (Bf X x z scope s3.heap.objs.size s3 (upd H2 s2.heap.objs.size (.lst [])) fp) [] (v0::v1::σ) H' s'/\tn i s'.heap/\(∀ b∈fp,H' b=none)/\W i n ys H') rfl ?_ m0
   ⟨0,[],none,none,_,start tk,st3,fun b hb=>(f3 b hb).1,w0⟩
  rintro n s4 ⟨i,ys,v0,v1,H4,I4,st4,fr4,w4⟩
  have stat:∀ {H':Hp},(∀ b∈fp,H' b=none)->∀ b∈fp,F_ (Bf X x z scope s3.heap.objs.size s3 (upd H2 s2.heap.objs.size (.lst [])) fp) [] H' b:=fun hn b hb=>by
   refine ⟨hn b hb,(I4.ok.exf b hb).1,I4.ok.exfs b hb,.inl hb,(I4.ok.exf b hb).2,fun p hp=>absurd (show p∈([]:List (Addr × Obj)) from hp) (by simp)⟩
  rcases turn i n ys H4 w4 with ⟨stop,qn⟩ | ⟨go,step⟩
  ·refine By (T.done (Bf X x z scope s3.heap.objs.size s3 (upd H2 s2.heap.objs.size (.lst [])) fp) rfl rfl rfl hc i [] s4 (v0::v1::σ) H4 _ I4 (stat fr4) st4 stop) fun r s5 ⟨hr,I5⟩=>?_
   subst hr
   obtain ⟨m,hn,_⟩:=I5.loc
   refine hRR _ _ s5 H4 m hn (I3.Lr (Nat.le_refl _) I5.free) (I3.call' (s':=s5) (ch:=fp) I5.os I5.base I5.hok I5.bare (fun b hb=>?_)) qn
   obtain ⟨_,g1,_,g3,g4,g5⟩:=f3 b hb
   exact ⟨g3,g1,g4,g5⟩
  ·refine By (T.item (Bf X x z scope s3.heap.objs.size s3 (upd H2 s2.heap.objs.size (.lst [])) fp) rfl rfl rfl hc i [] s4 (v0::v1::σ) H4 _ I4 (stat fr4) st4 go) fun r s5 ⟨u,hr,h5⟩=>?_
   subst hr
   refine By h5 fun _ s6 h6=>?_
   obtain ⟨xv,H6,I6,r6,y6,st6,fr6⟩:=h6
   have I6':=I6.pinned (stat fr6) (T.obj _ _ st6)
   have again:∀ {s7:Shared} {H7:Hp} {ys':List V} {w0 w1:Option V},Inv (Bf X x z scope s3.heap.objs.size s3 (upd H2 s2.heap.objs.size (.lst [])) fp) ([]++JM fp s6.heap) (w0::w1::σ) H7 s7->(∃ m',m'<n/\W (i+1) m' ys' H7) ->
     ∃ m,m<n/\∃ i ys v0 v1 H',Inv (Bf X x z scope s3.heap.objs.size s3 (upd H2 s2.heap.objs.size (.lst [])) fp) [] (v0::v1::σ) H' s7/\tn i s7.heap/\(∀ b∈fp,H' b=none)/\W i m ys H':=fun {s7 H7 ys' w0 w1} I7 hw=>by
    obtain ⟨m',hm,w7⟩:=hw
    refine ⟨m',hm,i+1,ys',w0,w1,H7,I7.Gk,T.keep _ _ _ st6 fun b hb o e=>(I7.pin (b,o) (List.mem_append_right _ (List.mem_append_right _ (Ec hb e)))).1,fun b hb=>?_,w7⟩
    obtain ⟨o,e,d⟩:=T.obj _ _ st6 b hb
    exact (I7.pin (b,o) (List.mem_append_right _ (List.mem_append_right _ (Ec hb e)))).2.1
   refine Pj (hg _ _ _ _ _ s6 (v0::v1::σ) H6 xv u _ I6' r6 (step xv H6 y6 v0 v1)) fun _ s7 ⟨σ7,H7,I7,⟨w0,w1,e7⟩,q7⟩=>?_
   subst e7
   refine Pj (ht _ _ _ _ _ s7 (w0::w1::σ) H7 _ I7 q7) fun b s8 hq0=>?_
   obtain ⟨H8,I8,q8⟩:=hq0
   cases b with
   | false =>
    rw [if_neg Bool.false_ne_true] at q8 ⊢
    exact again I8 q8
   | true =>
    rw [if_pos rfl] at q8 ⊢
    refine Pj (he _ _ _ _ _ s8 (w0::w1::σ) H8 _ I8 q8) fun y s9 hq0=>?_
    obtain ⟨yv,H9,I9,r9,hD9,hz9,q9⟩:=hq0
    refine Pj (Br (X:=Bf X x z scope s3.heap.objs.size s3 (upd H2 s2.heap.objs.size (.lst [])) fp) _ s9 (w0::w1::σ) H9 (.ref s2.heap.objs.size) [yv] (.ref s2.heap.objs.size) [y] (fun _ H'=>H'=upd H9 s2.heap.objs.size (.lst (ys++[yv]))) I9 rfl (.cons r9 .nil)
     ⟨_,ys,yv,rfl,rfl,hD9,hz9,rfl⟩) fun _ s10 ⟨_,H10,I10,_,e10⟩=>?_
    subst e10
    exact again I10 q9
 have key:=fun tk=>codeAny_compStart_list (R:=RR (.ref s2.heap.objs.size) s3.heap.objs.size) (loop tk) (T.self X.A 0 { s3 with heap:=h₁,toks:=tk } (fun it' s'=>codeAny (model X.prog X.w) X.A (.compLoop (.ListComp elt [⟨tg,iter,ifs,0⟩] scope pos) 0 it' (.ref s2.heap.objs.size) (compEnvC scope (DX X.env scope.names []) s3.heap.objs.size X.env)) (RR (.ref s2.heap.objs.size) s3.heap.objs.size) s') _ st3 (loop tk))
 subst hs3
 exact key _
theorem Uo {tg:Expr} {pos:Pos} {iter elt:Expr} {ifs:List Expr} {wi:TI} {g:TG} {tt:TT} {te:TE} (hc:X.calm=true) (S:Ed X x z scope) (hi:PI X tg iter wi) (hg:∀ C s₀ H₀ fp,PG (Bf X x z scope C s₀ H₀ fp) tg g)
  (ht:∀ C s₀ H₀ fp,NZ (Bf X x z scope C s₀ H₀ fp) ifs tt) (he:∀ C s₀ H₀ fp,PE (Bf X x z scope C s₀ H₀ fp) elt te) (hs:∀ x,foldedSetIterable iter X.env x=pure x:=by intro _; rfl) :
  PE X (.ListComp elt [⟨tg,iter,ifs,0⟩] scope pos) (UV wi g tt te):=by
 intro pins s σ H Q I h
 rw [eval_ListComp]
 refine wpAny_comprehension_free (use:=none) (cl:=DX X.env scope.names []) rfl hs (Hs fun y hy hk=>I.ok.has y.1 (S.free y hy hk)) S.kind S.names (By (hi pins s σ H _ I h) fun v s1 h1=>By h1 fun itv s2 h2=>?_)
 obtain ⟨it,fp,tn,J,H2,e,I2,T,st2,f2,q⟩:=h2
 subst e
 refine Ng (RR:=fun acc C=>compPost (model X.prog X.w) X.A X.xe none (EP X pins σ Q) acc C) (Q:=Q) hc S hg ht he I2 T st2 f2 q ?_
 intro D C s' H' m hn hf hI hq
 exact ⟨m,hn,fun h' sb=>⟨.ref D,H',hI.sameBut hf sb,rfl,hq⟩⟩
end
end L2
namespace L2
open PySem PySem.Spec PySem.Calls PyProof.Rows
theorem Ak.tup {K:PySem.W.Frag} {H H':Hp} {a:Addr} {xs:List V} (e:Ak H H') (h:Gm K H a xs):Gm K H' a xs:=by
 rcases h with (h | ⟨o,h⟩) | h
 ·exact .inl (.inl (e _ _ h))
 ·exact .inl (.inr ⟨o,e _ _ h⟩)
 ·exact .inr h
noncomputable def TupAt (H:Hp) (zs:List V) (y:V):Prop:=∃ T,y=.ref T/\H T=some (.tup zs)
theorem TupAt.mono {H H':Hp} {zs:List V} {y:V} (s:Ak H H') (h:TupAt H zs y):TupAt H' zs y:=let ⟨T,e,q⟩:=h; ⟨T,e,s _ _ q⟩
theorem TupAt.upd {H:Hp} {zs ys ws:List V} {y:V} {D:Addr} (h:TupAt H zs y) (hD:H D=some (.lst ys)):TupAt (upd H D (.lst ws)) zs y:=by
 obtain ⟨T,e,q⟩:=h
 refine ⟨T,e,?_⟩
 rw [Ar fun z=>by rw [z,hD] at q; cases q]
 exact q
theorem Dy {α:Type} {H:Hp} {f:α->List V} {l:List α} {vs ys ws:List V} {D:Addr} (h:Paired (fun a y=>TupAt H (f a) y) l vs) (hD:H D=some (.lst ys)):Paired (fun a y=>TupAt (upd H D (.lst ws)) (f a) y) l vs:=Paired.JV h fun _ _ q=>q.upd hD
theorem Aq {α:Type} {H H':Hp} {f:α->List V} {l:List α} {vs:List V} (s:Ak H H') (h:Paired (fun a y=>TupAt H (f a) y) l vs):Paired (fun a y=>TupAt H' (f a) y) l vs:=Paired.JV h fun _ _ q=>q.mono s
noncomputable def Nv (x z:Str) (scope osc:Scope) (N:List Str):Bool :=
 (scope.kind == .function) && scope.names.all (fun y=>y.2 != .cell && (y.2 != .local || scope.names.lookup y.1 == some .local) && (y.2 != .free || osc.names.lookup y.1 == some .cell || osc.names.lookup y.1 == some .free)) && (scope.names.lookup x == some .local) && (scope.names.lookup z == some .local) &&
 decide ((x::z::N).Nodup) && N.all (fun y=>scope.names.lookup y != some .local)
theorem Py {X:Cx} {x z:Str} {scope osc:Scope} {N:List Str} (hsc:X.env.scope=osc) (hN:X.N=N) (h:Nv x z scope osc N=true):Ed X x z scope:=by
 unfold Nv at h
 simp only [Bool.and_eq_true] at h
 obtain ⟨⟨⟨⟨⟨h1,h2⟩,h3⟩,h3'⟩,h4⟩,h5⟩:=h
 rw [List.all_eq_true] at h2 h5
 have kind:∀ y,X.env.kindOf y=osc.names.lookup y:=fun y=>by show X.env.scope.names.lookup y=_; rw [hsc]
 refine ⟨by simpa using h1,fun y hy=>?_,fun y hy hk=>?_,by simpa using h3,by simpa using h3',fun y hy hk=>?_,by rw [hN]; exact of_decide_eq_true h4,fun y hy=>?_⟩
 ·have:=h2 y hy
  simp only [Bool.and_eq_true,bne_iff_ne] at this
  exact this.1.1
 ·have:=h2 y hy
  simp only [Bool.and_eq_true] at this
  simpa [hk] using this.1.2
 ·have:=h2 y hy
  simp only [Bool.and_eq_true] at this
  rw [kind]
  simpa [hk] using this.2
 ·have:=h5 y (by rw [← hN]; exact hy)
  simpa using this
section
variable {X:Cx} {x z:Str} {scope:Scope}
theorem WR {px pz pos:Pos} {k:Nat} {C:Addr} {s₀:Shared} {H₀:Hp} {fp:List Addr} (hc:X.calm=true) (S:Ed X x z scope) :
  PG (Bf X x z scope C s₀ H₀ fp) (.Tuple [.Name x px,.Name z pz] k pos) (Wm X.K 2 (Kd (Ez 0) (Kd (Ez 1) Vu))):=by
 have l1:(Bf X x z scope C s₀ H₀ fp).env.scope.names.lookup x=some .local:=lookup_relabel_local S.loc
 have l2:(Bf X x z scope C s₀ H₀ fp).env.scope.names.lookup z=some .local:=lookup_relabel_local S.loz
 exact JF (X:=Bf X x z scope C s₀ H₀ fp) (n:=2) hc (DR (B_ (X:=Bf X x z scope C s₀ H₀ fp) (i:=0) S.nd rfl (.inl l1) (.inr l1)) (DR (B_ (X:=Bf X x z scope C s₀ H₀ fp) (i:=1) S.nd rfl (.inl l2) (.inr l2)) HR))
theorem WF {px pz tpos:Pos} {k:Nat} {pos:Pos} {iter elt:Expr} {ifs:List Expr} {wi:TI} {tt:TT} {te:TE} (hc:X.calm=true) (S:Ed X x z scope) (hi:PI X (.Tuple [.Name x px,.Name z pz] k tpos) iter wi)
  (ht:∀ C s₀ H₀ fp,NZ (Bf X x z scope C s₀ H₀ fp) ifs tt) (he:∀ C s₀ H₀ fp,PE (Bf X x z scope C s₀ H₀ fp) elt te) (hs:∀ x,foldedSetIterable iter X.env x=pure x:=by intro _; rfl) :
  PE X (.ListComp elt [⟨.Tuple [.Name x px,.Name z pz] k tpos,iter,ifs,0⟩] scope pos) (UV wi (Wm X.K 2 (Kd (Ez 0) (Kd (Ez 1) Vu))) tt te) :=
 Uo hc S hi (fun _ _ _ _=>WR hc S) ht he hs
end
section
variable {σ:St} {H1:Hp} {Q:VK} {tt:TT} {te:TE}
theorem Cv {K:PySem.W.Frag} {a:Addr} {xs:List V} (p:V->Bool) (f:V->V) (hl:DQ K H1 a xs) (hz:xs.length<sizeLine)
  (ht:∀ x∈xs,∀ H,Ak H1 H->∀ R:Bool->Hp->Prop,(∀ H',Ak H H'->R (p x) H')->tt (some x::σ) H R)
  (he:∀ x∈xs,p x=true->∀ H,Ak H1 H->∀ R:VK,(∀ H',Ak H H'->R (f x) H')->te (some x::σ) H R)
  (hq:∀ D H,H1 D=none->Ak H1 H->H D=some (.lst ((xs.filter p).map f))->Q (.ref D) H):GC (Xq K a) σ H1 Q tt te :=
 Gp p f hz (fun i H x hs hx=>⟨xs,x,hs.seq hl,hx⟩) (fun i H y H' hs _ hy=>⟨hy.1,hy.2 xs (hs.seq hl)⟩) (fun H hs=>⟨xs,hs.seq hl,Nat.le_refl _⟩) ht he hq
theorem Lg {J:It} {xs:List V} (p:V->Bool) (f:V->List V) (hz:xs.length<sizeLine)
  (hgo:∀ i H x,Ak H1 H->xs[i]? = some x->J.go i H) (hy:∀ i H y H',Ak H1 H->i<xs.length->J.yld i H y H'->H'=H/\xs[i]? = some y) (hstop:∀ H,Ak H1 H->J.stop xs.length H)
  (ht:∀ x∈xs,∀ H,Ak H1 H->∀ R:Bool->Hp->Prop,(∀ H',Ak H H'->R (p x) H')->tt (some x::σ) H R)
  (he:∀ x∈xs,p x=true->∀ H,Ak H1 H->∀ R:VK,(∀ y H',Ak H H'->TupAt H' (f x) y->R y H')->te (some x::σ) H R)
  (hq:∀ D H ys,H1 D=none->Ak H1 H->H D=some (.lst ys)->Paired (fun x y=>TupAt H (f x) y) (xs.filter p) ys->Q (.ref D) H):GC J σ H1 Q tt te:=by
 intro D hD
 have s0:Ak H1 (upd H1 D (.lst [])):=fun b o e=>by rw [Ar (Ai e hD)]; exact e
 refine ⟨fun i m ys H=>m=xs.length - i/\i<=xs.length/\H D=some (.lst ys)/\Paired (fun x y=>TupAt H (f x) y) ((xs.take i).filter p) ys/\Ak H1 H,⟨xs.length,by simp,Nat.zero_le _,Ah,by simpa using Paired.nil,s0⟩,?_⟩
 rintro i m ys H ⟨rfl,hi,hd,hp,hs⟩
 by_cases hlt:i<xs.length
 ·obtain ⟨x,hx⟩:∃ x,xs[i]? = some x:=⟨xs[i],by simp [hlt]⟩
  refine .inr ⟨hgo i H x hs hx,fun y H3 hyl=>?_⟩
  obtain ⟨rfl,hy'⟩:=hy i H y H3 hs hlt hyl
  rw [hx] at hy'
  cases hy'
  have hm:x∈xs:=List.mem_of_getElem? hx
  have hlen:ys.length<sizeLine:=by
   rw [← hp.length]
   refine Nat.lt_of_le_of_lt (List.length_filter_le _ _) (Nat.lt_of_le_of_lt ?_ hz)
   rw [List.length_take]; omega
  refine ht x hm _ hs _ fun H4 s4=>?_
  by_cases hpx:p x=true
  ·rw [if_pos hpx]
   refine he x hm hpx H4 (hs.trans s4) _ fun y H5 s5 hφ=>?_
   refine ⟨s5 _ _ (s4 _ _ hd),hlen,xs.length - (i+1),by omega,rfl,hlt,Ah,?_,fun b o e=>?_⟩
   ·rw [take_succ_filter p xs i x hx,if_pos hpx]
    exact (Dy (Aq (s4.trans s5) hp) (s5 _ _ (s4 _ _ hd))).snoc (hφ.upd (s5 _ _ (s4 _ _ hd)))
   ·rw [Ar (Ai e hD)]; exact s5 _ _ (s4 _ _ (hs _ _ e))
  ·rw [if_neg hpx]
   refine ⟨xs.length - (i+1),by omega,rfl,hlt,s4 _ _ hd,?_,hs.trans s4⟩
   rw [take_succ_filter p xs i x hx,if_neg hpx,List.append_nil]
   exact Aq s4 hp
 ·have e:i=xs.length:=by omega
  subst e
  rw [List.take_length] at hp
  exact .inl ⟨hstop H hs,hq D H ys hD hs hd hp⟩
theorem J0 {K:PySem.W.Frag} {a:Addr} {xs:List V} (p:V->Bool) (f:V->List V) (hl:DQ K H1 a xs) (hz:xs.length<sizeLine)
  (ht:∀ x∈xs,∀ H,Ak H1 H->∀ R:Bool->Hp->Prop,(∀ H',Ak H H'->R (p x) H')->tt (some x::σ) H R)
  (he:∀ x∈xs,p x=true->∀ H,Ak H1 H->∀ R:VK,(∀ y H',Ak H H'->TupAt H' (f x) y->R y H')->te (some x::σ) H R)
  (hq:∀ D H ys,H1 D=none->Ak H1 H->H D=some (.lst ys)->Paired (fun x y=>TupAt H (f x) y) (xs.filter p) ys->Q (.ref D) H):GC (Xq K a) σ H1 Q tt te :=
 Lg p f hz (fun i H x hs hx=>⟨xs,x,hs.seq hl,hx⟩) (fun i H y H' hs _ hy=>⟨hy.1,hy.2 xs (hs.seq hl)⟩) (fun H hs=>⟨xs,hs.seq hl,Nat.le_refl _⟩) ht he hq
theorem Lx {α β:Type} {F:α->β->Prop} (g:Nat->α):∀ {n:Nat} {l:List α} {ys:List β},Paired F l ys->l=(List.range n).map g->Paired (fun i y=>F (g i) y) (List.range n) ys:=by
 intro n
 have key:∀ (js:List Nat) (ys:List β),Paired F (js.map g) ys->Paired (fun i y=>F (g i) y) js ys:=by
  intro js
  induction js with
  | nil=>intro ys h; cases h; exact .nil
  | cons j js ih =>
   intro ys h
   cases h with
   | cons a b=>exact .cons a (ih _ b)
 intro l ys h e
 subst e
 exact key _ _ h
theorem Rv {n:Nat} (f:Nat->List V) (hz:n<sizeLine)
  (he:∀ i:Nat,i<n->∀ H,Ak H1 H->∀ R:VK,(∀ y H',Ak H H'->TupAt H' (f i) y->R y H')->te (some (.int (i:Int))::σ) H R)
  (hq:∀ D H ys,H1 D=none->Ak H1 H->H D=some (.lst ys)->Paired (fun i y=>TupAt H (f i) y) (List.range n) ys->Q (.ref D) H):GC (XM 0 n) σ H1 Q Vm te:=by
 let g:V->Nat:=fun v=>match v with | .int i=>i.toNat | _=>0
 have hxs:∀ i:Nat,i<n->((List.range n).map fun (i:Nat)=>V.int (i:Int))[i]? = some (.int i):=fun i hi=>by simp [hi]
 refine Lg (xs:=(List.range n).map fun (i:Nat)=>V.int (i:Int)) (fun _=>true) (fun v=>f (g v)) (by simpa using hz) (fun i H x _ hx=>?_) (fun i H y H' _ hi hy=>?_) (fun H _=>?_) (fun x hx H hs R k=>k H (Ak.refl H)) (fun x hx _ H hs R k=>?_) (fun D H ys h1 h2 h3 h4=>?_)
 ·have:i<((List.range n).map fun (i:Nat)=>V.int (i:Int)).length:=(List.getElem?_eq_some_iff.mp hx).1
  show i<n
  simpa using this
 ·obtain ⟨e1,e2⟩:=hy
  have hi':i<n:=by simpa using hi
  refine ⟨e1,?_⟩
  rw [hxs i hi',e2,Int.zero_add]
 ·show n<=_
  simp
 ·obtain ⟨i,hi,rfl⟩:=List.mem_map.mp hx
  exact he i (List.mem_range.mp hi) H hs R k
 ·rw [List.filter_eq_self.mpr (fun _ _=>rfl)] at h4
  exact hq D H ys h1 h2 h3 (Lx (F:=fun x y=>TupAt H (f (g x)) y) (fun i=>V.int (i:Int)) h4 rfl)
theorem U7 {K:PySem.W.Frag} {a b:Addr} {xs ys:List V} (f:V->V->V) (hx:Gm K H1 a xs) (hy:Gm K H1 b ys) (hl:xs.length=ys.length) (hz:xs.length<sizeLine)
  (he:∀ (i:Nat) x y,xs[i]? = some x->ys[i]? = some y->∀ H,Ak H1 H->∀ R:VK,(∀ H',Ak H H'->R (f x y) H')->te (some x::some y::σ) H R)
  (hq:∀ D H,H1 D=none->Ak H1 H->H D=some (.lst (List.zipWith f xs ys))->Q (.ref D) H):MN (mG K a b) σ H1 Q (Wm K 2 (Kd (Ez 0) (Kd (Ez 1) Vu))) Vm te:=by
 intro D hD
 have s0:Ak H1 (upd H1 D (.lst [])):=fun b o e=>by rw [Ar (Ai e hD)]; exact e
 refine ⟨fun i m zs H=>m=xs.length - i/\i<=xs.length/\zs=(List.zipWith f xs ys).take i/\H D=some (.lst zs)/\Ak H1 H,⟨xs.length,by simp,Nat.zero_le _,by simp,Ah,s0⟩,?_⟩
 rintro i m zs H ⟨rfl,hi,rfl,hd,hs⟩
 have hzl:(List.zipWith f xs ys).length=xs.length:=by rw [List.length_zipWith]; omega
 by_cases hlt:i<xs.length
 ·have ex:xs[i]? = some xs[i]:=List.getElem?_eq_getElem hlt
  have ey:ys[i]? = some ys[i]:=List.getElem?_eq_getElem (hl ▸ hlt)
  refine .inr ⟨⟨xs,ys,_,_,hs.tup hx,hs.tup hy,ex,ey⟩,fun v H3 hv v0 v1=>?_⟩
  obtain ⟨T,hT,rfl,hv⟩:=hv
  obtain ⟨x,y,qx,qy,rfl⟩:=hv xs ys (hs.tup hx) (hs.tup hy)
  have s3:Ak H (upd H T (.tup [x,y])):=fun b o e=>by rw [Ar (Ai e hT)]; exact e
  refine ⟨T,[x,y],rfl,.inl (.inl Ah),rfl,x,[y],rfl,y,[],rfl,rfl,⟨_,_,rfl⟩,?_⟩
  unfold Vm
  dsimp only
  rw [if_pos rfl]
  refine he i x y qx qy _ (hs.trans s3) _ fun H5 s5=>?_
  refine ⟨s5 _ _ (s3 _ _ hd),?_,xs.length - (i+1),by omega,rfl,hlt,?_,Ah,fun b o e=>?_⟩
  ·rw [List.length_take,hzl]
   omega
  ·rw [List.take_add_one,List.getElem?_zipWith,qx,qy]
   rfl
  ·rw [Ar (Ai e hD)]
   exact s5 _ _ (s3 _ _ (hs _ _ e))
 ·have e:i=xs.length:=by omega
  subst e
  rw [← hzl,List.take_length] at hd
  exact .inl ⟨⟨xs,hs.tup hx,Nat.le_refl _⟩,hq D H hD hs hd⟩
end
theorem Iv {K:PySem.W.Frag} {a:Addr} {xs:List V} {g:TG} {tb:TS} {D:Ends} {σ:St} {H:Hp} (Pv:Nat->St->Hp->Prop) (h0:Pv 0 σ H) (hl:∀ i σ H,i<=xs.length->Pv i σ H->DQ K H a xs)
  (hb:∀ (i:Nat) x σ H T,xs[i]? = some x->Pv i σ H->H T=none->g (.ref T) σ (upd H T (.tup [.int (i:Int),x])) fun σ' H'=>tb { D with nx:=Pv (i+1),ct:=Pv (i+1),bk:=D.nx } σ' H')
  (hn:∀ σ H,Pv xs.length σ H->D.nx σ H):∃ W:Nat->Nat->St->Hp->Prop,(∃ m,W 0 m σ H)/\∀ i m σ H,W i m σ H ->
   ((dD K a).stop i H/\D.nx σ H) \/ ((dD K a).go i H/\∃ N:St->Hp->Prop,(∀ σ H,N σ H->∃ m',m'<m/\W (i+1) m' σ H)/\∀ x H',(dD K a).yld i H x H'->g x σ H' fun σ' H''=>tb { D with nx:=N,ct:=N,bk:=D.nx } σ' H''):=by
 refine ⟨fun i m σ H=>m=xs.length - i/\i<=xs.length/\Pv i σ H,⟨_,rfl,Nat.zero_le _,h0⟩,?_⟩
 rintro i m σ H ⟨rfl,hi,hp⟩
 by_cases hlt:i<xs.length
 ·refine .inr ⟨⟨xs,_,hl i σ H hi hp,List.getElem?_eq_getElem hlt⟩,Pv (i+1),fun σ' H' h=>⟨xs.length - (i+1),by omega,rfl,hlt,h⟩,fun v H' hv=>?_⟩
  obtain ⟨T,hT,rfl,hv⟩:=hv
  obtain ⟨x,qx,rfl⟩:=hv xs (hl i σ H hi hp)
  exact hb i x σ H T qx hp hT
 ·have e:i=xs.length:=by omega
  subst e
  exact .inl ⟨⟨xs,hl _ σ H hi hp,Nat.le_refl _⟩,hn σ H hp⟩
end L2
namespace L2
open PySem PySem.Spec PySem.Calls PyProof.Rows
structure MF (K:PySem.W.Frag) (C:Addr):Prop where
 ga:PySem.W.findIn K (.ref C) "__getattribute__" = some (some (.builtin "BaseException.__getattribute__"))
 gt:PySem.W.findIn K (.ref C) "__getattr__" = some none
 mb:PySem.W.mroIn K C (.type "BaseException")=some true
 hd:PySem.W.hasDictIn K C=true
 ca:PySem.W.findIn K (.ref C) "__class__" = some (some (.builtin "object.__class__"))
 cg:PySem.W.specialIn K (.builtin "object.__class__") "__get__" = some (some (.builtin "getset_descriptor.__get__"))
 ct:PySem.W.takesIn K (.builtin "object.__class__")=some true
 mo:PySem.W.mroIn K C (.type "object")=some true
section
variable {prog:Program} {w:World} {A:Around} {E:Value->Shared->Prop} {s:Shared} {K:PySem.W.Frag} {x C:Addr} {ox:Obj} {od:Option Obj} {name:Str} {tk:Tok} {R:Result->Shared->Prop}
theorem VG:builtinKind "BaseException.__getattribute__" = some .slot:=by decide +kernel
theorem Qv:splitId "BaseException.__getattribute__" = some ("BaseException","__getattribute__"):=by decide +kernel
theorem RP (X:K.In s.heap) (I:PySem.W.InstAt s.heap x ox C od) (c:MF K C)
  (h:wpAny (model prog w) A.in1 (Builtin.«object.__getattribute__» ⟨[.ref x,.str name tk],[]⟩) (fun fin s'=>match fin with | Fin.done f=>R (.ok f) s' | Fin.again c'=>c'.quiet=true/\codeAny (model prog w) A c' R s') (fun e s'=>R (.error e) s') s) :
  codeAny (model prog w) A (.call (.builtin "BaseException.__getattribute__") ⟨[.ref x,.str name tk],[]⟩) R s:=by
 have sub:PySem.W.Looks (model prog w) s.heap (isInstance (.ref x) (.type "BaseException")) true:=I.type.andThen (PySem.W.looks_mroIn X c.mb)
 exact codeAny_call_builtin PySem.F.attrBase_ValueError.ga.plain PySem.F.entry_bexc_ga (@PySem.W.check_slot (model prog w) _ _ s "BaseException.__getattribute__" "BaseException" "__getattribute__" (.ref x) [.str name tk] [] _ VG Qv sub (PySem.F.args_bexc_ga _ _) h)
theorem RB (X:K.In s.heap) (I:PySem.W.InstAt s.heap x ox C od) (c:MF K C) (h:R (.ok (.ret (.ref C))) s) :
  codeAny (model prog w) A (.call (.builtin "BaseException.__getattribute__") ⟨[.ref x,.str "__class__" tk],[]⟩) R s:=by
 have hf:PySem.W.findObj K C od "__class__" = some (.bind (.builtin "getset_descriptor.__get__") (.builtin "object.__class__")):=by
  obtain ⟨cd,hc,_⟩:=PySem.W.any_some c.hd
  unfold PySem.W.findObj
  rw [hc,Option.bind_some,c.ca,Option.bind_some]
  simp [c.cg,c.ct]
 refine RP X I c ?_
 obtain ⟨hh,g,d,t,os⟩:=s
 have L0:=I.type (M:=model prog w)
 have L1:=PySem.W.looks_find (M:=model prog w) X I hf
 unfold Builtin.«object.__getattribute__»
 refine wpAny_bind (wpAny_pure (wpAny_bind (wpAny_pure (wpAny_bind (L0.at (wpAny_bind (L1.at ?_)))))))
 show wpAny _ _ (holding [Value.builtin "object.__class__"] (call (.builtin "getset_descriptor.__get__") [.builtin "object.__class__",.ref x,.ref C]) >>= ret) _ _ _
 exact wpAny_bind (wpAny_holding (wpAny_call (PySem.W.class_get (ox:=ox) (od:=od) X I c.mo (wpAny_pure h))))
theorem pP {fill expr:Bool} {Q:Value->Shared->Prop} {v:Value} (X:K.In s.heap) (I:PySem.W.InstAt s.heap x ox C od) (c:MF K C) (hh:PySem.W.handedIn v=true)
  (hc:∀ (A:Around) (R:Result->Shared->Prop),R (.ok (.ret v)) s->codeAny (model prog w) A (.call (.builtin "BaseException.__getattribute__") ⟨[.ref x,.str name tk],[]⟩) R s) (h:Q v s) :
  wpAny (model prog w) A (getAttrBy (.ref x) (.str name tk) fill expr) Q E s:=by
 have L0:=I.type (M:=model prog w)
 have L1:=PySem.W.looks_findIn (M:=model prog w) X c.ga
 have L2:=PySem.W.looks_findIn (M:=model prog w) X c.gt
 have hx2:(Value.builtin "BaseException.__getattribute__" == Value.builtin "object.__getattribute__")=false:=by decide +kernel
 have hx0:(expr && onTheHeap (Value.builtin "BaseException.__getattribute__"))=false:=by cases expr <;> rfl
 obtain ⟨hp,g,d,t,os⟩:=s
 unfold getAttrBy
 refine wpAny_holding (wpAny_bind (L0.at (wpAny_bind (L1.at ?_))))
 show wpAny _ _ (if (onTheHeap (Value.ref C) && Value.builtin "BaseException.__getattribute__" == Value.builtin "object.__getattribute__")=true then _ else _) _ _ _
 rw [if_neg (by rw [hx2,Bool.and_false]; exact Bool.false_ne_true)]
 unfold getAttrByItsOwn hookBefore
 rw [if_pos (show onTheHeap (Value.ref C)=true from rfl)]
 refine wpAny_bind (L2.at (wpAny_bind (wpAny_attempt (wpAny_holding ?_))))
 unfold callGetattribute
 rw [if_neg (by rw [hx0]; exact Bool.false_ne_true)]
 unfold boundAndCalled
 refine wpAny_bind (wpAny_of_eq (PySem.F.attrBase_ValueError.ga.bind (.ref x)) ?_)
 refine wpAny_call (hc _ _ ?_)
 show wpAny _ _ (handedOut v) _ _ _
 rw [PySem.W.handedOut_of hh]
 exact wpAny_pure h
theorem Xf {Q:Option Value->Shared->Prop} (X:K.In s.heap) (I:PySem.W.InstAt s.heap x ox C od) (c:MF K C) (h:Q (some (.ref C)) { s with toks:=s.toks+1 }) :
  wpAny (model prog w) A (getAttr? (.ref x) "__class__") Q E s:=by
 unfold getAttr? getAttrBy?
 exact wpAny_bind (wpAny_mkText (wpAny_bind (wpAny_attempt (pP (s:={ s with toks:=s.toks+1 }) X I c rfl (fun A R q=>RB (s:={ s with toks:=s.toks+1 }) X I c q) (wpAny_pure h)))))
theorem S_ (c:MF K C):PySem.W.KitX K (.ref x) (.ref C) (fun h=>PySem.W.InstAt h x ox C od) where
 ty:=fun _ _ _ I=>I.type
 it:=fun _ _ X _=>by
  obtain ⟨cdD,hcD,_⟩:=PySem.W.any_some c.hd
  unfold PySem.W.clsIn at hcD
  split at hcD
  ·rename_i c' d' cd' sl' ho
   intro A' Q' E' s' k q
   unfold isType loadHead
   exact wpAny_bind (wpAny_loadPart (k _ _ (X _ _ ho)) (wpAny_pure q))
  ·cases hcD
 ne:=fun h tp dd its n sl X htp=>by
  obtain ⟨cdD,hcD,_⟩:=PySem.W.any_some c.hd
  refine Bool.eq_false_iff.mpr fun q=>?_
  have e:C=tp:=Value.ref.inj (beq_iff_eq.mp q)
  subst e
  unfold PySem.W.clsIn at hcD
  split at hcD
  ·rename_i c' d' cd' sl' ho
   have z:=(X _ _ ho).symm.trans htp
   cases z
  ·cases hcD
 ca:=fun X I k=>Xf X I c k
end
end L2
namespace L2
open PySem PySem.Spec PySem.Calls PyProof.Rows
noncomputable abbrev V2:List Value:=[.type "ValueError",.type "Exception",.type "BaseException",.type "object"]
section
variable {prog:Program} {w:World} {A:Around} {E:Value->Shared->Prop} {K:PySem.W.Frag} {C:Addr} {h:Heap} {g:Array GenState} {d:Drawn} {t:Nat} {os:OsState}
end
end L2
namespace L2
open PySem PySem.Spec PySem.Calls PyProof.Rows
noncomputable def Cd (x C:Addr) (od:Option Addr):HO:=.ext fun h=>∃ (d:Data) (sl:Array (Option Value)),h.get? x=some ⟨.ref C,od,d,sl⟩/\PySem.W.notCls ⟨.ref C,od,d,sl⟩=true
noncomputable def oX (dx:Addr) (fs:List (Str × V)):HO:=.ext fun h=>∃ mA,h.Ns1 dx mA/\∀ f,Ft (fs.lookup f) (mA f)
section
variable {P:Program} {w:World} {H H':Hp} {h:Heap} {x C dx:Addr} {od:Option Addr} {fs:List (Str × V)}
theorem Vv {d:Data} {sl:Array (Option Value)} (e:h.get? x=some ⟨.ref C,od,d,sl⟩) (n:PySem.W.notCls ⟨.ref C,od,d,sl⟩=true):Bx P w H h x (Cd x C od) :=
 ⟨⟨d,sl,e,n⟩,⟨_,e⟩,fun _ _ ⟨d,sl,e,n⟩ k=>⟨d,sl,k _ e,n⟩⟩
inductive M6 (H:Hp) (x C:Addr):List (Str × V)->Prop where
 | bare (e:H x=some (Cd x C none)):M6 H x C []
 | full {dx:Addr} {fs:List (Str × V)} (e:H x=some (Cd x C (some dx))) (d:H dx=some (oX dx fs)):M6 H x C fs
theorem Ur (hok:Ei P w H h) (i:M6 H x C fs):∃ ox od,PySem.W.InstAt h x ox C od/\∀ f v,fs.lookup f=some v->∃ o u,od=some o/\PySem.W.lookIn f o=some (some u)/\RelV v u:=by
 cases i with
 | bare e =>
  obtain ⟨⟨d,sl,e1,n⟩,_,_⟩:=(show Bx P w H h x (Cd x C none) from hok x _ e)
  exact ⟨_,none,⟨e1,rfl,n,trivial⟩,fun f v q=>by simp at q⟩
 | @full dx fs e d =>
  obtain ⟨⟨d',sl,e1,n⟩,_,_⟩:=(show Bx P w H h x (Cd x C (some dx)) from hok x _ e)
  obtain ⟨⟨mA,n2,r⟩,_,_⟩:=(show Bx P w H h dx (oX dx fs) from hok dx _ d)
  obtain ⟨o,ho,hl⟩:=K1 n2
  refine ⟨_,some o,⟨e1,rfl,n,ho⟩,fun f v q=>?_⟩
  obtain ⟨u,hu,ru⟩:=Ft.some_of (v:=v) (o:=mA f) (by rw [← q]; exact r f)
  exact ⟨o,u,rfl,by rw [hl,hu],ru⟩
end
section
variable {P:Program} {w:World} {X:Cx} {pins:List (Addr × Obj)} {σ:St} {H:Hp} {s:Shared} {h':Heap} {a:Addr} {o:HO}
theorem Ei.eF {h h':Heap} (x:Ei P w H h) (k:∀ b u,h.get? b=some u->h'.get? b=some u) (hn:H a=none) (new:Bx P w (upd H a o) h' a o):Ei P w (upd H a o) h':=fun b u e=>by
 by_cases hb:b=a
 ·subst hb; rw [Ah] at e; cases e; exact new
 ·rw [Ar hb] at e
  exact (x b u e).stay (fun c v _ q=>k c v q) (fun c q=>by rw [Ar (Ai q hn)]; exact q) fun c xs q=>by rw [Ar (Ai q hn)]; exact q
theorem Ei.none_of {h:Heap} (x:Ei P w H h) (e:h.get? a=none):H a=none:=by
 cases q:H a with
 | none=>rfl
 | some u =>
  exfalso
  obtain ⟨o,ho⟩:∃ o,h.get? a=some o:=by
   have z:=x a u q
   cases u with
   | lst xs=>obtain ⟨_,_,_,_,e⟩:=z; exact ⟨_,e⟩
   | tup xs=>obtain ⟨_,_,_,o,e,_⟩:=z; exact ⟨_,e⟩
   | dK kvs=>obtain ⟨_,_,_,_,o,_,_,e,_⟩:=z; exact ⟨_,e⟩
   | dT kvs=>obtain ⟨_,_,_,_,o,_,_,e,_⟩:=z; exact ⟨_,e⟩
   | set S n=>obtain ⟨o,_,_,_,e,_⟩:=z; exact ⟨_,e⟩
   | ins C dx fs=>obtain ⟨_,_,_,e,_⟩:=z; exact ⟨_,e⟩
   | own y=>obtain ⟨_,e⟩:=z; exact ⟨_,e⟩
   | xd fs=>obtain ⟨_,⟨_,_,_,e,_⟩,_⟩:=z; exact ⟨_,e⟩
   | rng lo hi=>obtain ⟨_,_,_,e⟩:=z; exact ⟨_,e⟩
   | frz ob u=>obtain ⟨e,_⟩:=z; exact ⟨_,e⟩
   | tbl ps=>exact ⟨_,(show h.get? a=some _ from z)⟩
   | met f y=>exact ⟨_,(show h.get? a=some _ from z)⟩
   | ext φ=>obtain ⟨_,⟨_,e⟩,_⟩:=z; exact ⟨_,e⟩
  rw [e] at ho; cases ho
end
theorem Qg {K:PySem.W.Frag} {h:Heap} {C:Addr} (X:K.In h) (q:PySem.W.excIn K C V2 "ValueError.__new__" = true) :
  ∃ bm N nm qn bs hdct sn sub ab col dd k0 k1 k2 k3 k5 mN,h.get? C=some (excClassObj nm qn C N bs bm hdct sn sub ab col dd k0 k1 k2 k3 k5 "ValueError.__new__")/\h.Ns N mN/\mN "__init__" = none/\OwnTail h V2 bm:=by
 unfold PySem.W.excIn at q
 split at q
 ·rename_i dd cd sl ho
  split at q
  ·rename_i C' bm k0 k1 k2 k3 n k5 hm hs
   simp only [Bool.and_eq_true,beq_iff_eq,Bool.not_eq_true'] at q
   obtain ⟨⟨⟨⟨⟨rfl,rfl⟩,hdel⟩,ht⟩,hok⟩,hni⟩:=q
   obtain ⟨nm,bs,mro,ns,qn,hd,sn,sub,ab,col,del⟩:=cd
   dsimp only at hm hdel hok hni
   subst hm hdel
   have hsl:sl = #[k0,k1,k2,k3,some (.builtin "ValueError.__new__"),k5]:=by
    obtain ⟨l⟩:=sl
    simp only at hs
    rw [hs]
   subst hsl
   exact ⟨bm,ns,nm,qn,bs,hd,sn,sub,ab,col,dd,k0,k1,k2,k3,k5,_,X _ _ ho,.of_isNs (PySem.W.isNs_of_in X hok),PySem.W.nsMap_none_of_in X hok hni,PySem.W.tail_of_in X ht⟩
  ·cases q
 ·cases q
section
variable {X:Cx} {C:Addr} {x:Str} {e:Expr} {es:List Expr} {t:TA} {p pos:Pos}
end
noncomputable def ZD:V->Option Value
 | .ref a=>some (.ref a)
 | .ty n=>some (.type n)
 | _=>none
theorem QB {X:Cx}:Em X (.builtin "isinstance") (fun xs H Q=>∃ x C fs c cv b,xs=[V.ref x,c]/\M6 H x C fs/\MF X.K C/\ZD c=some cv/\PySem.W.kitOne X.K (.ref C) cv=some b/\Q (.bl b) H):=by
 intro pins s σ H xs us Q I r h
 obtain ⟨x,C,fs,c,cv,b,rfl,ie,xc,hc,e,q⟩:=h
 obtain ⟨u,v,rfl,ru,rv⟩:=Vals.two r
 cases ru
 have ev:v=cv:=by
  cases c with
  | ref a=>cases hc; exact rv
  | ty n=>cases hc; exact rv
  | _=>simp [ZD] at hc
 subst ev
 obtain ⟨ox,od,J,_⟩:=Ur I.hok ie
 exact PySem.W.kia_one (S_ xc) I.GJ J e (fun z=>nomatch z) fun tk=>⟨.bl b,H,I.tok _,rfl,q⟩
section
variable {X:Cx} {e:Expr} {f:Str} {pos:Pos} {ta:TE}
end
section
variable {prog:Program} {w:World} {A:Around} {E:Value->Shared->Prop} {s:Shared} {K:PySem.W.Frag} {x C:Addr} {name:Str} {v:Value} {R:Result->Shared->Prop} {d:Data} {sl:Array (Option Value)}
end
section
variable {X:Cx} {pins:List (Addr × Obj)} {σ:St} {H:Hp} {s:Shared} {h':Heap} {x C dx:Addr} {f:Str} {y:V} {u:Value}
end
section
variable {X:Cx} {o value:Expr} {f:Str} {pos pos':Pos} {ta tv:TE}
end
section
variable {X:Cx} {C f:Addr} {fd:FuncData} {ps:List Str} {sp:Sp} {k:Nat} {x:Str} {e:Expr} {es:List Expr} {t:TA} {p pos:Pos}
end
section
variable {X:Cx}
theorem Qf {xs:List V} {j:Nat} (h:xs.all Es=true) (hj:j<xs.length):Es (xs.getD j .non)=true:=by
 have e:xs.getD j .non=xs[j]:=by simp [hj]
 rw [e]
 exact List.all_eq_true.mp h _ (List.getElem_mem hj)
theorem S8 {xs:List V} {us:List Value} {j:Nat} (r:Vals xs us) (hj:j<us.length):RelV (xs.getD j .non) us[j]:=by
 have hl:=r.length
 have hx:xs[j]? = some xs[j]:=by simp [hl,hj]
 obtain ⟨u,hu,ru⟩:=r.get hx
 rw [List.getElem?_eq_getElem hj] at hu
 cases hu
 have e:xs.getD j .non=xs[j]:=by simp [hl,hj]
 rw [e]
 exact ru
end
end L2
namespace Wd
noncomputable def mk (l:List Nat):Nat:=l.foldl (fun s n=>s ||| 2 ^ n) 0
theorem Qw (l:List Nat):∀ (s i:Nat),(l.foldl (fun s n=>s ||| 2 ^ n) s).testBit i=(s.testBit i || decide (i∈l)):=by
 induction l with
 | nil=>intro s i; simp
 | cons n l ih =>
  intro s i
  rw [List.foldl_cons,ih,Nat.testBit_or,Nat.testBit_two_pow]
  by_cases h:n=i
  ·subst h; simp
  ·have h':¬ i=n:=fun e=>h e.symm
   simp [h,h']
theorem Tq (l:List Nat) (i:Nat):(mk l).testBit i=decide (i∈l):=by
 unfold mk; rw [Qw]; simp
noncomputable def len (n:Nat):Nat:=if n=0 then 0 else n.log2+1
noncomputable def mem (n:Nat):List Nat:=(List.range (len n)).filter n.testBit
noncomputable def mv (n:Nat) (k:Int) (c:Nat):Nat:=(if 0<k then n * 2 ^ k.toNat else n / 2 ^ (-k).toNat) % 2 ^ c
noncomputable def stay (l:List Nat) (k:Int) (c:Nat):List Nat:=l.filter fun n=>decide (0<=(n:Int)+k) && decide ((n:Int)+k<c)
theorem Lk (l:List Nat) (n:Nat):mk (l++[n])=mk l ||| 2 ^ n:=by
 unfold mk; rw [List.foldl_append]; rfl
end Wd
namespace L2
open PySem PySem.Spec PySem.Calls PyProof.Rows
section
variable {X:Cx} {es:List Expr} {k1:Nat} {tpos:Pos}
end
theorem Eh (a b:Nat):Builtin.bitOr (a:Int) (b:Int)=((a ||| b:Nat):Int):=by
 have h1:¬ 0<=Builtin.bitNot (a:Int):=by unfold Builtin.bitNot; omega
 have h2:¬ 0<=Builtin.bitNot (b:Int):=by unfold Builtin.bitNot; omega
 have nn:∀ x:Int,Builtin.bitNot (Builtin.bitNot x)=x:=fun x=>by unfold Builtin.bitNot; omega
 unfold Builtin.bitOr
 rw [bitAnd_nn h1 h2,nn,nn,nn]
 simp
theorem Dq (a b:Nat):Builtin.bitAnd (a:Int) (b:Int)=((a &&& b:Nat):Int):=by
 rw [bitAnd_pp (Int.natCast_nonneg a) (Int.natCast_nonneg b)]
 simp
theorem Sx (k:Nat):(2:Int) ^ k=((2 ^ k:Nat):Int):=by simp
end L2
namespace Wd
open PySem
noncomputable abbrev Wc (xs:Array Nat):Prop:=xs.toList.Pairwise (· < ·)
theorem Pk {xs:Array Nat} (r:Wc xs) {i k:Nat} (h:i<k) (hk:k<xs.size):xs.getD i 0<xs.getD k 0:=by
 have hi:i<xs.size:=Nat.lt_trans h hk
 have:=(List.pairwise_iff_getElem.mp r) i k (by simpa using hi) (by simpa using hk) h
 simpa [Array.getD,hi,hk] using this
structure Cut (xs:Array Nat) (j p:Nat):Prop where
 le:p<=xs.size
 lo:∀ i,i<p->xs.getD i 0<j
 hi:∀ i,p<=i->i<xs.size->j<=xs.getD i 0
theorem Jz {xs:Array Nat} (r:Wc xs) (j:Nat):∀ (fuel lo hi:Nat),hi<=xs.size->hi - lo<=fuel->lo<=hi->(∀ i,i<lo->xs.getD i 0<j)->(∀ i,hi<=i->i<xs.size->j<=xs.getD i 0)->Cut xs j (SetTable.below.go xs j fuel lo hi)
 | 0,lo,hi,h1,h2,h3,a,b=>by
  have e:lo=hi:=by omega
  subst e
  exact ⟨h1,a,b⟩
 | fuel+1,lo,hi,h1,h2,h3,a,b=>by
  unfold SetTable.below.go
  split
  ·rename_i hlt
   have hm:(lo+hi) / 2<xs.size:=by omega
   have e:xs.getD ((lo+hi) / 2) j=xs.getD ((lo+hi) / 2) 0:=by simp [Array.getD,hm]
   dsimp only
   rw [e]
   by_cases hj:xs.getD ((lo+hi) / 2) 0<j
   ·rw [if_pos hj]
    refine Jz r j fuel ((lo+hi) / 2+1) hi h1 (by omega) (by omega) (fun i hi'=>?_) b
    by_cases q:i=(lo+hi) / 2
    ·rw [q]; exact hj
    ·have:=Pk r (i:=i) (k:=(lo+hi) / 2) (by omega) hm
     omega
   ·rw [if_neg hj]
    refine Jz r j fuel lo ((lo+hi) / 2) (by omega) (by omega) (by omega) a fun i hi' hs=>?_
    by_cases q:i=(lo+hi) / 2
    ·rw [q]; omega
    ·have:=Pk r (i:=(lo+hi) / 2) (k:=i) (by omega) hs
     omega
  ·have e:lo=hi:=by omega
   subst e
   exact ⟨h1,a,b⟩
theorem K6 {xs:Array Nat} (r:Wc xs) (j:Nat):Cut xs j (SetTable.below xs j) :=
 Jz r j xs.size 0 xs.size (Nat.le_refl _) (by omega) (Nat.zero_le _) (fun i h=>absurd h (Nat.not_lt_zero _)) (fun i h1 h2=>absurd h2 (by omega))
theorem Pn {xs:Array Nat} {j:Nat} (r:Wc xs) (h:xs[SetTable.below xs j]? ≠ some j):j ∉ xs.toList:=fun hm=>by
 have c:=K6 r j
 obtain ⟨i,hi,e⟩:=List.mem_iff_getElem.mp hm
 have hi':i<xs.size:=by simpa using hi
 have ei:xs.getD i 0=j:=by simpa [Array.getD,hi'] using e
 have h1:SetTable.below xs j<=i:=by
  rcases Nat.lt_or_ge i (SetTable.below xs j) with q | q
  ·have:=c.lo i q; omega
  ·exact q
 have h2:SetTable.below xs j<xs.size:=Nat.lt_of_le_of_lt h1 hi'
 have h3:=c.hi _ (Nat.le_refl _) h2
 have h4:SetTable.below xs j=i:=by
  rcases Nat.lt_or_ge (SetTable.below xs j) i with q | q
  ·have:=Pk r q hi'; omega
  ·omega
 refine h ?_
 have e':xs[i]=j:=by simpa [Array.getD,hi'] using ei
 rw [h4,Array.getElem?_eq_getElem hi',e']
theorem Ol {xs:Array Nat} {j:Nat} (r:Wc xs) (h:xs[SetTable.below xs j]? ≠ some j):Wc (SetTable.insertAt xs (SetTable.below xs j) j):=by
 have c:=K6 r j
 have nm:=Pn r h
 show (SetTable.insertAt xs (SetTable.below xs j) j).toList.Pairwise _
 rw [SetTable.toList_insertAt,List.pairwise_append,List.pairwise_cons]
 have lt1:∀ a∈xs.toList.take (SetTable.below xs j),a<j:=fun a ha=>by
  obtain ⟨i,hi,e⟩:=List.mem_iff_getElem.mp ha
  rw [List.length_take] at hi
  have hi2:i<xs.size:=by simp at hi; omega
  have:=c.lo i (by omega)
  simp [Array.getD,hi2] at this
  rw [List.getElem_take] at e
  rw [← e]
  simpa using this
 have lt2:∀ a∈xs.toList.drop (SetTable.below xs j),j<a:=fun a ha=>by
  obtain ⟨i,hi,e⟩:=List.mem_iff_getElem.mp ha
  rw [List.length_drop] at hi
  have hi2:SetTable.below xs j+i<xs.size:=by simp at hi; omega
  have:=c.hi (SetTable.below xs j+i) (Nat.le_add_right _ _) hi2
  simp [Array.getD,hi2] at this
  rw [List.getElem_drop] at e
  have hle:j<=a:=by rw [← e]; simpa using this
  have hne:j ≠ a:=fun z=>nm (by rw [z]; exact List.mem_of_mem_drop ha)
  omega
 exact ⟨r.sublist (List.take_sublist _ _),⟨lt2,r.sublist (List.drop_sublist _ _)⟩,fun a ha b hb=>by
  rcases List.mem_cons.mp hb with e | hb
  ·rw [e]; exact lt1 a ha
  ·have:=lt1 a ha; have:=lt2 b hb; omega⟩
theorem Rx {t:SetTable} {j:Nat} (h:∀ i,t.slot j ≠ .live i):t.place[SetTable.below t.place j]? ≠ some j:=fun e=>by
 refine h (SetTable.below t.place j) ?_
 unfold SetTable.slot
 dsimp only
 rw [e]
 simp
theorem Hd (t:SetTable) (p:SetTable.Probe):(t.advance p).dummy=p.dummy:=by
 unfold SetTable.advance
 split <;> rfl
theorem Hr {t:SetTable} {f:Nat->Int} {h:Int}:∀ (fuel:Nat) (p:SetTable.Probe) (j:Nat) (dm:Option Nat),(∀ d,p.dummy=some d->t.slot d=.dummy)->SetTable.probe.go t f h fuel p=some (.empty j dm) ->
  t.slot j=.empty/\∀ d,dm=some d->t.slot d=.dummy
 | 0,p,j,dm,hd,e=>by unfold SetTable.probe.go at e; cases e
 | fuel+1,p,j,dm,hd,e=>by
  unfold SetTable.probe.go at e
  split at e
  ·rename_i hs
   cases e
   exact ⟨hs,hd⟩
  ·rename_i hs
   refine Hr fuel _ j dm (fun d q=>?_) e
   rw [Hd] at q
   cases q
   exact hs
  ·split at e
   ·cases e
   ·refine Hr fuel _ j dm (fun d q=>?_) e
    rw [Hd] at q
    exact hd d q
theorem RQ {t:SetTable} {h:Int} {j:Nat} {d:Bool} (e:t.freeSlot h=some (j,d)):∀ i,t.slot j ≠ .live i:=by
 unfold SetTable.freeSlot at e
 split at e
 ·rename_i j' dm q
  unfold SetTable.probe at q
  obtain ⟨h1,h2⟩:=Hr _ _ _ _ (fun d hd=>by simp [SetTable.probeStart] at hd) q
  cases dm with
  | none=>cases e; intro i z; rw [show (none:Option Nat).getD j'=j' from rfl,h1] at z; cases z
  | some d' =>
   cases e
   intro i z
   rw [show (some d').getD j'=d' from rfl,h2 d' rfl] at z
   cases z
 ·cases e
structure Good (t:SetTable) (led:Bool):Prop where
 led:t.led=led
 ris:t.plain=true->Wc t.place
theorem Ov (led:Bool):Good (.fresh 0 0 led) led:=⟨rfl,fun _=>by simp [SetTable.fresh,Wc]⟩
theorem GP {t:SetTable} {led:Bool} (g:Good t led) (n:Nat):Good (t.standIn n) led:=⟨g.led,fun h=>by simp [SetTable.standIn] at h⟩
theorem Vx {t:SetTable} {led:Bool} (g:Good t led) (n:Nat):Good (t.orStandIn n) led:=by
 unfold SetTable.orStandIn
 split
 ·exact g
 ·exact GP g n
theorem Ud {t:SetTable} {led:Bool} (g:Good t led) (es:Array (Int × Value)) (h:Int) (x:Value):Good (layNew t es h x).2.1 led:=by
 unfold layNew
 split
 ·rename_i slot wd e
  refine Vx (t:=(t.put slot).1) ⟨g.led,fun hp=>?_⟩ _
  exact Ol (g.ris hp) (Rx (RQ e))
 ·exact GP g _
theorem Rn {mask finger moves:Nat} {led plain:Bool} {hs:Array Int} {t:SetTable} {o:Array Nat} (e:SetTable.laid mask finger moves led plain hs=some (t,o)):Good t led/\t.plain=plain:=by
 unfold SetTable.laid at e
 simp only [Option.bind_eq_bind,Option.bind_eq_some_iff] at e
 obtain ⟨owner,_,e⟩:=e
 cases e
 refine ⟨⟨rfl,fun _=>?_⟩,rfl⟩
 show List.Pairwise _ ((List.map _ _).toArray).toList
 rw [List.pairwise_map,List.pairwise_filterMap]
 refine List.pairwise_lt_range.imp fun {a b} hab x hx y hy=>?_
 obtain ⟨u,_,rfl⟩:=Option.map_eq_some_iff.mp hx
 obtain ⟨v,_,rfl⟩:=Option.map_eq_some_iff.mp hy
 exact hab
theorem Pz {t:SetTable} {led:Bool} (g:Good t led) (es:Array (Int × Value)) (n:Nat):Good (relayAll t es n).2.1 led:=by
 unfold relayAll
 split
 ·rename_i t' order e
  dsimp only
  split
  ·have:=Rn e
   rw [g.led] at this
   exact this.1
  ·exact GP g _
 ·exact GP g _
end Wd
namespace Wd
open PySem PySem.Spec PyProof.Rows
noncomputable def jw (prog:Program) (w:World) (h:Heap) (a:Addr) (led:Bool) (σ:List Int):Prop :=
 ∃ es ep t,h.get? a=some { cls:=.type "set",dict:=none,data:=.set es ep t }/\ElemsOf (intKind prog w) es.toList/\(∀ k,k∈σ ↔ ∃ e∈es.toList,(intKind prog w).is k e.2=true)/\es.size=σ.length/\σ.Nodup /\
  σ.length<scanBound/\t.fits es.size=true/\Good t led
section
variable {prog:Program} {w:World} {A:Around} {E:Value->Shared->Prop} {s:Shared} {a:Addr} {led:Bool} {σ:List Int} {k:Int} {tk:Tok}
theorem Qe {h:Heap} {es es':Array (Int × Value)} {ep:Nat} {t t':SetTable} (ho:h.get? a=some { cls:=.type "set",dict:=none,data:=.set es ep t }) :
  (h.update a (Obj.putSet es' t')).get? a=some { cls:=.type "set",dict:=none,data:=.set es' (ep+1) t' } :=
 (Heap.get?_update_self (Obj.putSet es' t') ho (by rw [putSet_of es' t' rfl]; rfl)).trans (by rw [putSet_of es' t' rfl])
end
end Wd
namespace Wd
open PySem PySem.Spec PyProof.Rows
section
variable {prog:Program} {w:World} {A:Around} {R:Result->Shared->Prop} {I:Addr} {fp wr:List Addr} {G:Array GenState->Array GenState->Prop} {n:Nat} {P:Nat->Value->Prop} {St:Nat->Shared->Prop} {led:Bool}
end
section
variable {prog:Program} {w:World} {A:Around} {E:Value->Shared->Prop} {s:Shared}
noncomputable abbrev Eb (w:World):Bool:=!w.params.followText "set-order"
theorem cC (a:Value) {Q1:Value->Shared->Prop} (h:Q1 (.ref s.heap.objs.size) { s with heap:=s.heap.push { cls:=.type "set",dict:=none,data:=.set #[] 0 (.fresh 0 0 (Eb w)) } }) :
  codeAny (model prog w) A (.call (.builtin "set.__new__") ⟨[.type "set",a],[]⟩) (wants Q1 E) s:=by
 refine codeAny_of_tree ?_
 show wpAny _ A.in1 (do checkBuiltinCall "set.__new__" ⟨[.type "set",a],[]⟩; again (.builtin "set.__new__" ⟨[.type "set",a],[]⟩)) _ _ s
 refine wpAny_bind (wpAny_of_eq (F.newCall_set_1 a) (wpAny_pure ⟨plainId_quiet F.plain_set_new _,codeAny_builtin F.entry_set_new ?_⟩))
 rw [Around.under_plainId F.plain_set_new _]
 unfold Builtin.«set.__new__» Builtin.Frozenset.newClass
 have hsub:=sub_set_self
 obtain ⟨hp,g,d,tk,os⟩:=s
 dsimp only
 wp_walk
 refine wpAny_askSetting (wpAny_pure ?_)
 dsimp only
 simp only [newObj]
 exact wpAny_bind (wpAny_alloc (wpAny_pure (wpAny_pure h)))
end
end Wd
namespace Wd
open PySem PySem.Spec PyProof.Rows
end Wd
namespace Wd
open PySem PySem.Spec PyProof.Rows
section
variable {M:Model} {A:Around} {E:Value->Shared->Prop}
end
inductive Way (w:World) (a:Addr) (es:Array (Int × Value)) (ep:Nat) (t:SetTable) (h:Heap):(Nat->Value)->List Value->List Addr->Prop where
 | text (hb:w.params.followText "set-order" = true):Way w a es ep t h (fun _=>rawInt 0) ((pickOrder (w.params.setOrder a ep) es).toList.map (·.2)) []
 | drawn {tp:Addr} {ps:List Nat} (hb:w.params.followText "set-order" = false) (hp:ps.Perm (List.range es.size)) (ht:∃ n,h.get? tp=some { cls:=.type "tuple",data:=.seq (ps.map fun (i:Nat)=>rawInt i).toArray n }) :
   Way w a es ep t h (fun _=>.ref tp) (ps.map fun i=>(es.getD i (0,.none)).2) [tp]
 | plain (hb:w.params.followText "set-order" = false) (hd:(!t.plain && decide (es.size > 1))=false) (hl:t.led=true) (hr:Wc t.place) (hs:t.place.size=es.size) :
   Way w a es ep t h (fun i=>rawInt (if i=0 then 0 else t.place.getD (i - 1) 0+1:Nat)) (es.toList.map (·.2)) []
section
variable {prog:Program} {w:World} {A:Around} {E:Value->Shared->Prop} {s:Shared} {a it:Addr} {es:Array (Int × Value)} {ep:Nat} {t:SetTable} {first:Nat->Value} {vs:List Value} {more:List Addr}
end
end Wd
section PartSetJ
set_option maxHeartbeats 1000000
namespace Wd
open PySem PySem.Spec PyProof.Rows
section
variable {prog:Program} {w:World} {A:Around} {E:Value->Shared->Prop} {s:Shared} {a:Addr} {σ:List Int}
end
end Wd
end PartSetJ
section PartSetK
set_option maxHeartbeats 1000000
namespace Wd
open PySem PySem.Spec PyProof.Rows
section
variable {prog:Program} {w:World} {A:Around} {E:Value->Shared->Prop} {s:Shared} {a:Addr} {σ:List Int}
end
end Wd
end PartSetK
namespace L2
open PySem PySem.Spec PyProof.Rows
noncomputable def pQ (P:Program) (w:World) (a:Addr) (τ:List Int):HO:=.ext fun h=>Wd.jw P w h a (Wd.Eb w) τ
section
variable {X:Cx} {pins:List (Addr × Obj)} {σ:St} {H:Hp} {s:Shared} {h':Heap} {a:Addr} {o:HO}
end
end L2
namespace L2
open PySem PySem.Spec PyProof.Rows
section
variable {X:Cx}
end
section
variable {prog:Program} {w:World} {A:Around} {E:Value->Shared->Prop} {s:Shared} {r l:Addr}
end
section
variable {X:Cx} {p1 p2 q1 q2:Pos} {e:Expr} {te:TE}
end
end L2
namespace L2
open PySem PySem.Spec PyProof.Rows
noncomputable def Zg (K:PySem.W.Frag) (a:Addr) (xs:List V):It :=
 ⟨fun i H=>DQ K H a xs/\i<xs.length,fun i H x H'=>H'=H/\xs[xs.length - 1 - i]? = some x,fun i H=>DQ K H a xs/\i=xs.length⟩
theorem UJ {P:Program} {w:World} {K:PySem.W.Frag} {tg:Expr} (a it:Addr) (xs:List V):Turn P w K tg (Zg K a xs) [it] it (fun i h=>h.IsRevIter it a ((xs.length:Int) - 1 - (i:Nat))) where
 mem:=by simp
 obj:=fun i h st b hb=>by
  have e:b=it:=by simpa using hb
  subst e
  obtain ⟨o,e,c,d⟩:=st
  exact ⟨o,e,fun v z=>by rw [d] at z; cases z⟩
 keep:=fun i h h' st k=>st.at fun o e=>k it (by simp) o e
 item:=by
  intro X hP hw hK hc i pins s σ H E I hf st hg
  subst hP hw hK
  obtain ⟨hq,hlt⟩:=hg
  obtain ⟨its,rv,p,hz⟩:=I.list hq
  have hx:xs[xs.length - 1 - i]? = some (xs[xs.length - 1 - i]'(by omega)):=List.getElem?_eq_getElem (by omega)
  obtain ⟨u,hu,ru⟩:=rv.get hx
  obtain ⟨f0,f1,f2,f3,f4,f5⟩:=hf it (by simp)
  have e:(xs.length:Int) - 1 - ((i:Nat):Int)=((xs.length - 1 - i:Nat):Int):=by omega
  rw [e] at st
  refine wpAny_pyNext_rev_item st p.isList (x:=u) (by simpa using hu) fun h' st' sb=>?_
  have I1:Inv X pins σ H { s with heap:=h' }:=I.turned (t':=s.toks) (fun b o hb e=>(sb.2 b hb).trans e) f0 f1 f3 f4 f5
  have e2:((xs.length - 1 - i:Nat):Int) - 1=(xs.length:Int) - 1 - ((i+1:Nat):Int):=by omega
  rw [e2] at st'
  obtain ⟨o,eo,c,d⟩:=id st'
  exact ⟨u,rfl,OD (s:={ s with heap:=h' }) eo c d (by decide) ⟨_,H,I1,ru,⟨rfl,hx⟩,st',fun b hb=>(hf b hb).1⟩⟩
 done:=by
  intro X hP hw hK hc i pins s σ H E I hf st hg
  subst hP hw hK
  obtain ⟨hq,rfl⟩:=hg
  obtain ⟨f0,f1,f2,f3,f4,f5⟩:=hf it (by simp)
  have e:(xs.length:Int) - 1 - ((xs.length:Nat):Int) = -1:=by omega
  rw [e] at st
  exact wpAny_pyNext_rev_end (I.ok.hd hc) st fun h' eb=>⟨rfl,I.turned (t':=s.toks) (fun b o hb e=>eb b o hb e) f0 f1 f3 f4 f5⟩
 self:=fun _ _ _ _ _ st h=>wpAny_pyIter_revIter st h
section
variable {X:Cx} {tg:Expr}
noncomputable def iM (K:PySem.W.Frag) (ta:TA):TI:=fun σ H R=>ta σ H fun vs H1=>∃ a xs,vs=[.ref a]/\DQ K H1 a xs/\R (Zg K a xs) H1
theorem YZ {l:Expr} {ta:TA} {p pos:Pos} (hg:Gl X "reversed") (hm:X.mg "reversed" = none) (ha:PA X [l] ta) (hs:starEach [l] X.env=[(false,eval l X.env)]:=by rfl):PI X tg (.Call (.Name "reversed" p) [l] [] pos) (iM X.K ta):=by
 intro pins s σ H R I h
 refine Call_ (Ht I hg hm PyProof.Rows.boot_reversed (PyProof.Rows.callWith_type1 (By (ha pos pins s σ H _ I h) fun us s1 ⟨vs,H1,I1,r1,q1⟩=>?_) hs rfl))
 obtain ⟨a,xs,e,hq,q⟩:=q1
 subst e
 obtain ⟨u,rfl,ru⟩:=vals1 r1
 cases ru
 obtain ⟨its,rv,pl,hz⟩:=I1.list hq
 refine call_reversed_list pl.isList ?_
 have hit:(s1.heap.push (revObj a ((its.toArray.size:Int) - 1))).IsRevIter s1.heap.objs.size a ((its.toArray.size:Int) - 1):=⟨_,Heap.get?_push_size _ rfl,rfl,rfl⟩
 refine wpAny_pyIter_revIter (s:={ s1 with heap:=s1.heap.push (revObj a ((its.toArray.size:Int) - 1)) }) hit ?_
 refine ⟨s1.heap.objs.size,[s1.heap.objs.size],_,_,H1,rfl,I1.kept (t':=s1.toks) fun b o e=>Heap.get?_push_of_some _ e,UJ a _ xs,?_,fun b hb=>?_,q⟩
 ·have hl:=rv.length
  have e2:((its.toArray.size:Nat):Int) - 1=(xs.length:Int) - 1 - ((0:Nat):Int):=by
   rw [List.size_toArray]
   omega
  show (s1.heap.push (revObj a ((its.toArray.size:Int) - 1))).IsRevIter s1.heap.objs.size a ((xs.length:Int) - 1 - ((0:Nat):Int))
  rw [← e2]
  exact hit
 ·have e:b=s1.heap.objs.size:=by simpa using hb
  subst e
  exact I1.Lr (Nat.le_refl _) (I1.hok.fresh (Nat.le_refl _))
theorem V9 {K:PySem.W.Frag} {a:Addr} {xs:List V} {g:TG} {tb:TS} {D:Ends} {σ:St} {H:Hp} (Pv:Nat->St->Hp->Prop) (h0:Pv 0 σ H) (hl:∀ i σ H,i<=xs.length->Pv i σ H->DQ K H a xs)
  (hs:∀ i x σ H,i<xs.length->xs[xs.length - 1 - i]? = some x->Pv i σ H->g x σ H fun σ2 H2=>tb { D with nx:=Pv (i+1),ct:=Pv (i+1),bk:=D.nx } σ2 H2) (hd:∀ σ H,Pv xs.length σ H->D.nx σ H) :
  ∃ W:Nat->Nat->St->Hp->Prop,(∃ m,W 0 m σ H)/\∀ i m σ H,W i m σ H ->
   ((Zg K a xs).stop i H/\D.nx σ H) \/ ((Zg K a xs).go i H/\∃ N:St->Hp->Prop,(∀ σ' H',N σ' H'->∃ m',m'<m/\W (i+1) m' σ' H')/\∀ x H',(Zg K a xs).yld i H x H'->g x σ H' fun σ2 H2=>tb { D with nx:=N,ct:=N,bk:=D.nx } σ2 H2):=by
 refine ⟨fun i m σ H=>m=xs.length - i/\i<=xs.length/\Pv i σ H,⟨xs.length,by simp,Nat.zero_le _,h0⟩,?_⟩
 rintro i m σ H ⟨rfl,hi,p⟩
 have q:=hl i σ H hi p
 by_cases hlt:i<xs.length
 ·refine .inr ⟨⟨q,hlt⟩,Pv (i+1),fun σ' H' p'=>⟨xs.length - (i+1),by omega,rfl,by omega,p'⟩,?_⟩
  rintro x H' ⟨rfl,hx⟩
  exact hs i x σ H' hlt hx p
 ·have e:i=xs.length:=by omega
  subst e
  exact .inl ⟨⟨q,rfl⟩,hd σ H p⟩
end
end L2
namespace L2
open PySem PySem.Spec PySem.Calls PyProof.Rows
section
variable {X:Cx}
theorem range_any (bs:List Bool):((List.range bs.length).any fun i=>(bs[i]?).getD false)=bs.any id:=by
 rw [Bool.eq_iff_iff,List.any_eq_true,List.any_eq_true]
 constructor
 ·rintro ⟨i,hi,e⟩
  have hi':=List.mem_range.mp hi
  rw [List.getElem?_eq_getElem hi'] at e
  exact ⟨_,List.getElem_mem hi',e⟩
 ·rintro ⟨b,hb,e⟩
  obtain ⟨i,hi,q⟩:=List.mem_iff_getElem.mp hb
  refine ⟨i,List.mem_range.mpr hi,?_⟩
  rw [List.getElem?_eq_getElem hi,q]
  exact e
theorem J4 (hc:X.calm=true):Em X (.builtin "any") (fun xs H Q=>∃ (p:Addr) (bs:List Bool),xs=[V.ref p]/\DQ X.K H p (bs.map V.bl)/\Q (.bl (bs.any id)) H):=by
 intro pins s σ H xs us Q I r h
 obtain ⟨p,bs,rfl,hp,q⟩:=h
 obtain ⟨u,rfl,ru⟩:=vals1 r
 cases ru
 obtain ⟨its,rv,pl,hz⟩:=I.list hp
 have hlen:bs.length=its.length:=by have:=rv.length; rw [List.length_map] at this; exact this
 have hlt:p<s.heap.objs.size:=by obtain ⟨_,e,_⟩:=pl.isList; exact Heap.lt_size e
 refine call_any_walk (wpAny_pyIter_list pl.isList ?_)
 refine ⟨s.heap.objs.size,[s.heap.objs.size,p],[s.heap.objs.size],its.toArray.size,_,_,fun i=>(bs[i]?).getD false,rfl,Walks.list (A:=X.A.in1) (I.ok.hd hc) _ p (Nat.ne_of_lt hlt) its.toArray,
  ⟨⟨_,Heap.get?_push_size _ rfl,rfl,rfl⟩,pl.isList.push _⟩,fun i v s' Q' E' hP hQ=>?_,fun h' tk hk=>?_⟩
 ·have hP':its[i]? = some v:=by simpa using hP
  have hi:i<its.length:=(List.getElem?_eq_some_iff.mp hP').1
  have hb:bs[i]? = some bs[i]:=by simp [hlen,hi]
  obtain ⟨u,hu,ru⟩:=rv.get (i:=i) (x:=.bl bs[i]) (by rw [List.getElem?_map,hb]; rfl)
  rw [hP'] at hu
  cases hu
  cases ru
  dsimp only at hQ
  rw [hb] at hQ
  exact wpAny_truthy_bool hQ
 ·have e:((List.range its.toArray.size).any fun i=>(bs[i]?).getD false)=bs.any id:=by rw [List.size_toArray,← hlen]; exact range_any bs
  rw [e]
  refine ⟨.bl (bs.any id),H,I.kept (t':=tk) fun b o eb=>hk b o (fun hm=>?_) (Heap.get?_push_of_some _ eb),rfl,q⟩
  rw [List.mem_singleton.mp hm] at eb
  exact Nat.lt_irrefl _ (Heap.lt_size eb)
theorem Gs (ns:List Int):∀ j,j<=ns.length->preSum (fun i=>(ns[i]?).getD 0) j=(ns.take j).sum
 | 0,_=>rfl
 | j+1,h=>by
  have ih:=Gs ns j (by omega)
  show preSum _ j+(ns[j]?).getD 0=_
  rw [ih,List.take_add_one,List.getElem?_eq_getElem (by omega),List.sum_append]
  simp
structure KDict (K:PySem.W.Frag) (P:Params) (a:Addr):Prop where
 is:∃ es n,K.lookup a=some ⟨.type "dict",none,.dict es n,#[]⟩/\PySem.W.KeysLit P es.toList
 lo:(a == sysModules)=false
noncomputable def cR (K:PySem.W.Frag) (P:Params) (td ty:TE):TE:=fun σ H Q=>td σ H fun x H1=>ty σ H1 fun y H2=>∃ a z v u,x=.ref a/\y=.str z/\KDict K P a/\PySem.W.nsIn K a z=some (some u)/\RelV v u/\Q v H2
noncomputable def eO (K:PySem.W.Frag) (P:Params) (neg:Bool) (ty td:TE):TE:=fun σ H Q=>ty σ H fun y H1=>td σ H1 fun x H2=>∃ a z r,x=.ref a/\y=.str z/\KDict K P a/\PySem.W.nsIn K a z=some r/\Q (.bl (if neg then !r.isSome else r.isSome)) H2
variable {o i:Expr} {pos:Pos} {td ty:TE}
theorem Mm (ho:PE X o td) (hi:PE X i ty) (hs:Yn i):PE X (.Subscript o i pos) (cR X.K X.w.params td ty):=by
 intro pins s σ H Q I h
 refine Qp PySem.F.slot_dict_getitem.lookup hs (By (ho pins s σ H _ I h) fun u s1 ⟨x,H1,I1,rx,q1⟩=>By (hi pins s1 σ H1 _ I1 q1) fun iv s2 hq0=>?_)
 obtain ⟨y,H2,I2,ry,a,z,v,w,ex,ey,kd,hw,rw',q2⟩:=hq0
 subst ex ey
 cases rx
 obtain ⟨t,rfl⟩:=ry
 obtain ⟨⟨es,n,hl,hk⟩,lo⟩:=kd
 have hm:=PySem.W.mapOf_K (prog:=X.prog) I2.GJ hl hk
 exact ⟨hm.typeIs,wpAny_getItem_of (strKind_is X.prog X.w z t) hm (PySem.W.find_K hl hw) ⟨v,H2,I2.tok _,rw',q2⟩⟩
theorem SM (hi:PE X i ty) (ho:PE X o td):PC X .In i o (eO X.K X.w.params false ty td):=by
 intro pins s σ H Q I h
 refine By (hi pins s σ H _ I h) fun iv s1 ⟨y,H1,I1,ry,q1⟩=>By (ho pins s1 σ H1 _ I1 q1) fun u s2 hq0=>?_
 obtain ⟨x,H2,I2,rx,a,z,r,ex,ey,kd,hw,q2⟩:=hq0
 subst ex ey
 cases rx
 obtain ⟨t,rfl⟩:=ry
 obtain ⟨⟨es,n,hl,hk⟩,lo⟩:=kd
 refine wpAny_in_of (strKind_is X.prog X.w z t) lo (PySem.W.mapOf_K (prog:=X.prog) I2.GJ hl hk) ?_
 rw [PySem.W.find_K hl hw]
 exact ⟨.bl r.isSome,H2,I2.tok _,rfl,q2⟩
theorem RK (hi:PE X i ty) (ho:PE X o td):PC X .NotIn i o (eO X.K X.w.params true ty td):=by
 intro pins s σ H Q I h
 refine By (hi pins s σ H _ I h) fun iv s1 ⟨y,H1,I1,ry,q1⟩=>By (ho pins s1 σ H1 _ I1 q1) fun u s2 hq0=>?_
 obtain ⟨x,H2,I2,rx,a,z,r,ex,ey,kd,hw,q2⟩:=hq0
 subst ex ey
 cases rx
 obtain ⟨t,rfl⟩:=ry
 obtain ⟨⟨es,n,hl,hk⟩,lo⟩:=kd
 refine wpAny_notIn_of (strKind_is X.prog X.w z t) lo (PySem.W.mapOf_K (prog:=X.prog) I2.GJ hl hk) ?_
 rw [PySem.W.find_K hl hw]
 exact ⟨.bl (!r.isSome),H2,I2.tok _,rfl,q2⟩
end
section
variable {X:Cx} {e st:Expr} {lo hi:Option Expr} {te ts:TE} {tl th:TO} {p2 pos:Pos}
end
end L2
namespace Og
open PySem L2
theorem An {X:Cx} {K:PySem.W.Frag} (h:X.K=K):ZP X (Xm K):=h ▸ Xe
theorem Fo {X:Cx} {K:PySem.W.Frag} (h:X.K=K):ZP X (cL K):=h ▸ Bv
theorem Hm {X:Cx} {K:PySem.W.Frag} (h:X.K=K):Hh X (compareOp .In) (oH K false):=h ▸ Qy
structure R where
 w:Str
 nm:Str
 rest:List V
noncomputable abbrev R.v (r:R):List V:=.str r.w :: .str r.nm::r.rest
noncomputable def isNm (z:Str):Prop:=1<=z.length/\z.length<=8/\∀ c∈z.cps.toList,97<=c/\c<=122
noncomputable def Rows (H:Hp) (ρ:V->R) (vs:List V):Prop:=∀ v∈vs,TupAt H (ρ v).v v
theorem Rows.mono {H H':Hp} {ρ:V->R} {vs:List V} (s:Ak H H') (h:Rows H ρ vs):Rows H' ρ vs:=fun v hv=>(h v hv).mono s
theorem Rows.sub {H:Hp} {ρ:V->R} {vs us:List V} (h:Rows H ρ vs) (hs:∀ v∈us,v∈vs):Rows H ρ us:=fun v hv=>h v (hs v hv)
noncomputable abbrev pw (ρ:V->R) (w:Str) (v:V):Bool:=decide (V.str (ρ v).w=V.str w)
noncomputable abbrev pn (ρ:V->R) (t:Str) (v:V):Bool:=decide (V.str (ρ v).nm=V.str t)
noncomputable def VP (ρ:V->R) (vs:List V) (w t:Str):Bool:=(vs.filter (pw ρ w)).any (pn ρ t)
noncomputable def KTup (K:PySem.W.Frag) (a:Addr) (xs:List V):Prop:=∃ (o:Obj) (its:Array Value) (n:Nat),K.lookup a=some o/\o.cls=.type "tuple" /\ o.data=.seq its n/\its.size<=sizeLine/\Vals xs its.toList
theorem KTup.sq {K:PySem.W.Frag} {a:Addr} {xs:List V} (h:KTup K a xs) (H:Hp):Gm K H a xs:=.inr h
noncomputable abbrev named:List Str:=["board","rank","stop","coupler","mute"]
noncomputable def Hw (K:PySem.W.Frag) (aB:Addr) (ρ:V->R) (vs:List V) (x:V) (part:Str):Prop :=
 (∃ (i lo hi:Int) (b:Addr),x=.int i/\PySem.W.nsIn K aB part=some (some (.ref b))/\KTup K b [.int lo,.int hi]/\lo<=i/\i<=hi) \/
 (PySem.W.nsIn K aB part=some none/\part = "new" /\ ∃ t,x=.str t/\isNm t/\∀ w∈named,VP ρ vs w t=false) \/
 (PySem.W.nsIn K aB part=some none/\¬ part = "new" /\ ∃ t,x=.str t/\isNm t/\VP ρ vs part t=true)
structure Li (K:PySem.W.Frag) (aB aP aM:Addr) (ρ:V->R) (vs:List V) (r:R):Prop where
 ns:¬ r.w = "step"
 nl:¬ r.w = "line"
 parts:∃ (ap:Addr) (ps:List Str),PySem.W.nsIn K aP r.w=some (some (.ref ap))/\KTup K ap (ps.map V.str)/\(V.str r.nm::r.rest).length=ps.length/\ps.length<=10 /\
  ∀ (i:Nat) x y,(V.str r.nm::r.rest)[i]? = some x->ps[i]? = some y->Hw K aB ρ vs x y
 room:∃ (m:Int) (t:Tok),PySem.W.nsIn K aM r.w=some (some (.int m t))/\(((vs.filter (pw ρ r.w)).length:Nat):Int)<m
noncomputable def letters:Str:="abcdefghijklmnopqrstuvwxyz"
noncomputable abbrev Wv (y:Str) (c:Nat):Bool:=!(Builtin.Str.occurrences y ⟨#[c]⟩ 0 y.length 1).isEmpty
theorem Ly:∀ c<128,Wv letters c=decide (97<=c/\c<=122):=by decide +kernel
theorem Ax {H:Hp} {p:Addr} {o:HO} (h:H p=none):Ak H (upd H p o):=fun b u e=>by rw [Ar (Ai e h)]; exact e
theorem Ds {H:Hp} {p:Addr} {o:HO} (h:H p=none):∃ H',upd H p o=H'/\Ak H H'/\H' p=some o:=⟨_,rfl,Ax h,Ah⟩
theorem Bl {n:Nat} (h:n<=1000):n<=sizeLine:=Nat.le_of_lt (BJ h)
theorem ty_int {K:PySem.W.Frag}:PySem.W.kitOne K (.type "int") (.type "int")=some true:=by kernel_rfl
theorem XD {K:PySem.W.Frag}:PySem.W.kitOne K (.type "int") (.type "bool")=some false:=by kernel_rfl
theorem QH {K:PySem.W.Frag}:PySem.W.kitOne K (.type "list") (.type "list")=some true:=by kernel_rfl
theorem fB {K:PySem.W.Frag}:PySem.W.kitOne K (.type "tuple") (.type "tuple")=some true:=by kernel_rfl
theorem U6 {K:PySem.W.Frag}:PySem.W.kitOne K (.type "str") (.type "str")=some true:=by kernel_rfl
theorem Np (vs:List V) (n:Nat) (h:n<=vs.length):Dn vs none (some (n:Int))=vs.take n:=by
 unfold Dn
 have e1:HT.Dg vs.length 0 none=0:=rfl
 have e2:HT.Dg vs.length vs.length (some (n:Int))=n:=by
  rw [HT.Du]
  omega
 rw [e1,e2]
 simp
theorem Hf {α:Type} (p:α->Bool) (l:List α):(l.filter p).length<=l.length:=List.length_filter_le _ _
noncomputable abbrev bV (b:Str × Nat):List V:=[.str b.1,.int (b.2:Nat)]
noncomputable abbrev GR (b:Str × Nat):R:=⟨"board",b.1,[.int (b.2:Nat)]⟩
noncomputable abbrev qV (q:Nat × Nat):List V:=[.int (q.1:Nat),.int (q.2:Nat)]
noncomputable def Qh (bs:List (Str × Nat)):List (Nat × Nat):=bs.zipIdx.flatMap fun p=>(List.range p.1.2).map fun e=>(p.2,e)
theorem VD (bs:List (Str × Nat)) (b:Str × Nat):Qh (bs++[b])=Qh bs++(List.range b.2).map fun e=>(bs.length,e):=by
 unfold Qh
 rw [List.zipIdx_append]
 simp
theorem Nb {bs:List (Str × Nat)} {i:Nat} {b:Str × Nat} (h:bs[i]? = some b):Qh (bs.take (i+1))=Qh (bs.take i)++(List.range b.2).map fun e=>(i,e):=by
 have hi:i<bs.length:=(List.getElem?_eq_some_iff.mp h).1
 rw [List.take_add_one,h]
 show Qh (bs.take i++[b])=_
 rw [VD,List.length_take,Nat.min_eq_left (by omega)]
theorem We (bs:List (Str × Nat)) (M:Nat):(∀ b∈bs,b.2<=M)->(Qh bs).length<=bs.length * M:=by
 intro h
 have key:∀ i,i<=bs.length->(Qh (bs.take i)).length<=i * M:=by
  intro i
  induction i with
  | zero=>intro _; simp [Qh]
  | succ i ih =>
   intro hi
   have hlt:i<bs.length:=by omega
   rw [Nb (List.getElem?_eq_getElem hlt),List.length_append,List.length_map,List.length_range]
   have h1:=ih (by omega)
   have h2:=h bs[i] (List.getElem_mem hlt)
   have:(i+1) * M=i * M+M:=by rw [Nat.add_mul,Nat.one_mul]
   omega
 have:=key bs.length (Nat.le_refl _)
 rw [List.take_length] at this
 exact this
theorem CZ {α β:Type} {F:α->β->Prop} {l:List α} {vs:List β} (h:Paired F l vs):∀ {v},v∈vs->∃ a∈l,F a v:=by
 induction h with
 | nil=>intro v hv; cases hv
 | cons a b ih =>
  intro v hv
  rcases List.mem_cons.mp hv with rfl | hv
  ·exact ⟨_,List.mem_cons_self ..,a⟩
  ·obtain ⟨x,hx,q⟩:=ih hv
   exact ⟨x,List.mem_cons_of_mem _ hx,q⟩
theorem Et {α β:Type} {F:α->β->Prop} {l:List α} {vs:List β} (h:Paired F l vs):∀ {i:Nat} {a},l[i]? = some a->∃ v,vs[i]? = some v/\F a v:=by
 induction h with
 | nil=>intro i a ha; simp at ha
 | cons x y ih =>
  intro i a ha
  cases i with
  | zero =>
   simp at ha
   subst ha
   exact ⟨_,rfl,x⟩
  | succ i=>exact ih (by simpa using ha)
theorem Nm {α β:Type} {F:α->β->Prop} {l:List α} {vs:List β} (h:Paired F l vs):∀ {i:Nat} {v},vs[i]? = some v->∃ a,l[i]? = some a/\F a v:=by
 induction h with
 | nil=>intro i a ha; simp at ha
 | cons x y ih =>
  intro i a ha
  cases i with
  | zero =>
   simp at ha
   subst ha
   exact ⟨_,rfl,x⟩
  | succ i=>exact ih (by simpa using ha)
theorem Ep {α β:Type} {F:α->β->Prop} {l l':List α} {vs vs':List β} (h:Paired F l vs) (h':Paired F l' vs'):Paired F (l++l') (vs++vs'):=by
 induction h with
 | nil=>exact h'
 | cons x y ih=>exact .cons x ih
theorem Cp {α β γ:Type} {F:γ->β->Prop} (g:α->γ) {l:List α} {vs:List β} (h:Paired (fun a v=>F (g a) v) l vs):Paired F (l.map g) vs:=by
 induction h with
 | nil=>exact .nil
 | cons x y ih=>exact .cons x ih
theorem Fi {α β γ:Type} {F:γ->β->Prop} (g:α->γ):∀ {l:List α} {vs:List β},Paired F (l.map g) vs->Paired (fun a v=>F (g a) v) l vs
 | [],_,h=>by cases h; exact .nil
 | a::l,_,h=>by
  cases h with
  | cons x y=>exact .cons x (Fi g y)
noncomputable def Kh (H:Hp) (k:Nat):V->V
 | .ref T=>match H T with
  | some (.tup xs)=>xs.getD k .non
  | _=>.non
 | _=>.non
theorem GF {H:Hp} {zs:List V} {v:V} (h:TupAt H zs v) (k:Nat):Kh H k v=zs.getD k .non:=by
 obtain ⟨T,rfl,e⟩:=h
 show (match H T with | some (.tup xs)=>xs.getD k V.non | _=>V.non)=_
 rw [e]
theorem Jr {α:Type} {H:Hp} {g:α->List V} (k:Nat) {l:List α} {vs:List V} (h:Paired (fun a v=>TupAt H (g a) v) l vs):vs.map (Kh H k)=l.map fun a=>(g a).getD k .non:=by
 induction h with
 | nil=>rfl
 | cons x y ih=>rw [List.map_cons,List.map_cons,ih,GF x]
noncomputable def SX (x:Addr) (H H':Hp):Prop:=∀ b o,H b=some o->b ≠ x->H' b=some o
theorem SX.trans {x:Addr} {H H1 H2:Hp} (a:SX x H H1) (b:SX x H1 H2):SX x H H2:=fun c o h n=>b c o (a c o h n) n
theorem SX.refl {x:Addr} {H:Hp}:SX x H H:=fun _ _ h _=>h
theorem SX.of {x:Addr} {H H':Hp} (s:Ak H H'):SX x H H':=fun b o h _=>s b o h
theorem SX.up {x:Addr} {H:Hp} {o:HO}:SX x H (upd H x o):=fun b u h n=>by rw [Ar n]; exact h
theorem SX.tup {x:Addr} {H H':Hp} {zs:List V} {y:V} {C dx:Addr} {fs:List (Str × V)} (s:SX x H H') (hx:H x=some (.ins C dx fs)) (h:TupAt H zs y):TupAt H' zs y:=by
 obtain ⟨T,e,q⟩:=h
 exact ⟨T,e,s _ _ q fun z=>by rw [z,hx] at q; cases q⟩
theorem SX.pair {α:Type} {x:Addr} {H H':Hp} {f:α->List V} {l:List α} {vs:List V} {C dx:Addr} {fs:List (Str × V)} (s:SX x H H') (hx:H x=some (.ins C dx fs)) (h:Paired (fun a y=>TupAt H (f a) y) l vs):Paired (fun a y=>TupAt H' (f a) y) l vs:=Paired.JV h fun _ _ q=>s.tup hx q
theorem SX.lst {x a:Addr} {H H':Hp} {xs:List V} {C dx:Addr} {fs:List (Str × V)} (s:SX x H H') (hx:H x=some (.ins C dx fs)) (h:H a=some (.lst xs)):H' a=some (.lst xs):=s _ _ h fun z=>by rw [z,hx] at h; cases h
theorem SX.dk {x a:Addr} {H H':Hp} {kvs:List (Key × V)} {C dx:Addr} {fs:List (Str × V)} (s:SX x H H') (hx:H x=some (.ins C dx fs)) (h:H a=some (.dK kvs)):H' a=some (.dK kvs):=s _ _ h fun z=>by rw [z,hx] at h; cases h
noncomputable abbrev meths:List Str:=["ranks","pipe_count","pipe","rank_of","board_of_knob","boards","key_count","key","board_of","coupler","knobs","knob_number","board_number","stop","mute","steps","rows"]
structure Kv (C:Addr) (H:Hp) (x:Addr) (bs:List (Str × Nat)) (ks:List R):Prop where
 ob:∃ (dx:Addr) (fs:List (Str × V)) (bl bn kp kr:Addr) (bvs pvs uvs:List V) (kvs:List (Key × V)),H x=some (.ins C dx fs)/\fs.lookup ("board_list" : Str)=some (.ref bl)/\fs.lookup ("board_numbers" : Str)=some (.ref bn)/\fs.lookup ("key_places" : Str)=some (.ref kp)/\fs.lookup ("knob_rows" : Str)=some (.ref kr) /\
  (∀ m∈meths,fs.lookup m=none)/\H bl=some (.lst bvs)/\Paired (fun b y=>TupAt H (bV b) y) bs bvs/\H bn=some (.dK kvs)/\(∀ (i:Nat) b,bs[i]? = some b->CV kvs (Sum.inr b.1)=some (.int (i:Nat))) /\
  H kp=some (.lst pvs)/\Paired (fun q y=>TupAt H (qV q) y) (Qh bs) pvs/\H kr=some (.lst uvs)/\Paired (fun (r:R) y=>TupAt H r.v y) ks uvs
 nb:bs.length<=5
 sz:∀ b∈bs,b.2<=61
 nk:ks.length<=200
theorem Kv.mono {C:Addr} {H H':Hp} {x:Addr} {bs:List (Str × Nat)} {ks:List R} (s:Ak H H') (h:Kv C H x bs ks):Kv C H' x bs ks:=by
 obtain ⟨⟨dx,fs,bl,bn,kp,kr,bvs,pvs,uvs,kvs,h1,l1,l2,l3,l4,lm,h2,h3,h4,h5,h6,h7,h8,h9⟩,a,b,c⟩:=h
 exact ⟨⟨dx,fs,bl,bn,kp,kr,bvs,pvs,uvs,kvs,s _ _ h1,l1,l2,l3,l4,lm,s _ _ h2,Aq s h3,s _ _ h4,h5,s _ _ h6,Aq s h7,s _ _ h8,Aq s h9⟩,a,b,c⟩
end Og
namespace Og
open PySem L2 PyProof.Rows
inductive Kb where
 | cp (i j:Nat) (s:Int)
 | pl (w:Str) (i:Nat)
noncomputable def Kb.w:Kb->Str
 | .cp _ _ _=>"coupler"
 | .pl w _=>w
noncomputable def Kb.v:Kb->List V
 | .cp i j s=>[.str "coupler",.int (i:Nat),.int (j:Nat),.int s]
 | .pl w i=>[.str w,.int (i:Nat)]
noncomputable def Kb.ok (n:Nat):Kb->Prop
 | .cp i j s=>i<n/\j<n /\ -60<=s/\s<=60
 | .pl w i=>i<n/\(w = "mute" \/ w = "stop")
noncomputable def Ky (w:Str):Nat:=if w = "coupler" then 12 else if w = "mute" then 5 else 24
structure KF (K:PySem.W.Frag) (aB aP aM:Addr):Prop where
 pB:∃ a,PySem.W.nsIn K aP "board" = some (some (.ref a))/\KTup K a (["new","keys"].map fun s:String=>V.str s)
 pS:∃ a,PySem.W.nsIn K aP "stop" = some (some (.ref a))/\KTup K a (["new","board"].map fun s:String=>V.str s)
 pM:∃ a,PySem.W.nsIn K aP "mute" = some (some (.ref a))/\KTup K a (["new","board"].map fun s:String=>V.str s)
 pC:∃ a,PySem.W.nsIn K aP "coupler" = some (some (.ref a))/\KTup K a (["new","board","board","leap"].map fun s:String=>V.str s)
 bK:∃ a,PySem.W.nsIn K aB "keys" = some (some (.ref a))/\KTup K a [.int 1,.int 61]
 bL:∃ a,PySem.W.nsIn K aB "leap" = some (some (.ref a))/\KTup K a [.int (-60),.int 60]
 bN:PySem.W.nsIn K aB "new" = some none
 bB:PySem.W.nsIn K aB "board" = some none
 mB:∃ t,PySem.W.nsIn K aM "board" = some (some (.int 5 t))
 mS:∃ t,PySem.W.nsIn K aM "stop" = some (some (.int 24 t))
 mC:∃ t,PySem.W.nsIn K aM "coupler" = some (some (.int 12 t))
 mM:∃ t,PySem.W.nsIn K aM "mute" = some (some (.int 5 t))
noncomputable def Gf (H:Hp):V->R
 | .ref T=>match H T with
  | some (.tup (.str w :: .str n::r))=>⟨w,n,r⟩
  | _=>⟨"","",[]⟩
 | _=>⟨"","",[]⟩
theorem Hv {H:Hp} {r:R} {v:V} (h:TupAt H r.v v):Gf H v=r:=by
 obtain ⟨T,rfl,e⟩:=h
 show (match H T with | some (.tup (.str w :: .str n::r))=>(⟨w,n,r⟩:R) | _=>⟨"","",[]⟩)=r
 rw [e]
theorem Js {H:Hp} {rs:List R} {vs:List V} (h:Paired (fun (r:R) v=>TupAt H r.v v) rs vs):vs.map (Gf H)=rs:=by
 induction h with
 | nil=>rfl
 | cons x y ih=>rw [List.map_cons,ih,Hv x]
theorem Bp (f:Str) (v:V):∀ l:List (Str × V),(BV f v l).length<=l.length+1
 | []=>Nat.le_refl _
 | p::r=>by
  unfold BV
  split
  ·simp
  ·have:=Bp f v r
   simp only [List.length_cons]
   omega
noncomputable abbrev Ej (s:Str):Bool:=inV (.str s) [.str "stop",.str "coupler",.str "mute"]
structure qF (K:PySem.W.Frag) (aB aP aM:Addr) (ρ:V->R) (us:List V) (bs:List (Str × Nat)) (ks:List R):Prop where
 kinds:∀ v∈us,(ρ v).w = "board" \/ (ρ v).w = "stop" \/ (ρ v).w = "coupler" \/ (ρ v).w = "mute"
 eb:(us.filter (pw ρ "board")).map ρ=bs.map GR
 ek:(us.filter (fun v=>Ej (ρ v).w)).map ρ=ks
 b0:1<=bs.length
 b5:bs.length<=5
 sz:∀ b∈bs,b.2<=61
 nk:ks.length<=100
 nb:(bs.map (·.1)).Nodup
 nn:(ks.map (·.nm)).Nodup
 len:us.length<=105
 ok:∀ (i:Nat) v,us[i]? = some v->Li K aB aP aM ρ (us.take i) (ρ v)
noncomputable def Gw (ρ:V->R) (vs:List V):List (Str × Str):=vs.map fun v=>((ρ v).w,(ρ v).nm)
noncomputable abbrev Qa (wn:List (Str × Str)) (w t:Str):Bool:=(wn.filter fun p=>decide (p.1=w)).any fun p=>decide (p.2=t)
noncomputable abbrev SQ (wn:List (Str × Str)) (w:Str):Nat:=(wn.filter fun p=>decide (p.1=w)).length
theorem HB (a b:Str):decide (V.str a=V.str b)=decide (a=b):=by
 rw [Bool.eq_iff_iff,decide_eq_true_eq,decide_eq_true_eq]
 exact ⟨V.str.inj,congrArg V.str⟩
theorem Ja (ρ:V->R) (vs:List V) (w t:Str):VP ρ vs w t=Qa (Gw ρ vs) w t:=by
 unfold VP Gw
 show _=((vs.map fun v=>((ρ v).w,(ρ v).nm)).filter fun p=>decide (p.1=w)).any fun p=>decide (p.2=t)
 rw [List.filter_map,List.any_map]
 have e1:pw ρ w=(fun p:Str × Str=>decide (p.1=w)) ∘ fun v=>((ρ v).w,(ρ v).nm):=by
  funext v
  exact HB _ _
 have e2:pn ρ t=(fun p:Str × Str=>decide (p.2=t)) ∘ fun v=>((ρ v).w,(ρ v).nm):=by
  funext v
  exact HB _ _
 rw [e1,e2]
theorem Hj (ρ:V->R) (vs:List V) (w:Str):(vs.filter (pw ρ w)).length=SQ (Gw ρ vs) w:=by
 unfold Gw
 show _=((vs.map fun v=>((ρ v).w,(ρ v).nm)).filter fun p=>decide (p.1=w)).length
 rw [List.filter_map,List.length_map]
 have e1:pw ρ w=(fun p:Str × Str=>decide (p.1=w)) ∘ fun v=>((ρ v).w,(ρ v).nm):=by
  funext v
  exact HB _ _
 rw [e1]
section
variable {K:PySem.W.Frag} {aB aP aM:Addr} {ρ:V->R} {vs:List V} {wn:List (Str × Str)} {t:Str}
theorem JC (F:KF K aB aP aM) (e:Gw ρ vs=wn) (ht:isNm t) (h:∀ w∈named,Qa wn w t=false):Hw K aB ρ vs (.str t) "new" :=
 .inr (.inl ⟨F.bN,rfl,_,rfl,ht,fun w hw=>by rw [Ja,e]; exact h w hw⟩)
theorem Hq (F:KF K aB aP aM) (e:Gw ρ vs=wn) (ht:isNm t) (h:Qa wn "board" t=true):Hw K aB ρ vs (.str t) "board" :=
 .inr (.inr ⟨F.bB,by decide +kernel,_,rfl,ht,by rw [Ja,e]; exact h⟩)
theorem RM (F:KF K aB aP aM) (e:Gw ρ vs=wn) (ht:isNm t) (h:∀ w∈named,Qa wn w t=false) (hc:SQ wn "board" < 5) {n:Nat} (h1:1<=n) (h2:n<=61):Li K aB aP aM ρ vs (GR (t,n)):=by
 obtain ⟨ap,g1,g2⟩:=F.pB
 obtain ⟨ab,g3,g4⟩:=F.bK
 obtain ⟨tk,g5⟩:=F.mB
 refine ⟨by show ¬ ("board" : Str) = "step"; decide +kernel,by show ¬ ("board" : Str) = "line"; decide +kernel,⟨ap,["new","keys"],g1,g2,rfl,by decide,fun j x y hx hy=>?_⟩,⟨5,tk,g5,?_⟩⟩
 ·match j,hx,hy with
  | 0,hx,hy =>
   cases (Option.some.inj hx)
   cases (Option.some.inj hy)
   exact JC F e ht h
  | 1,hx,hy =>
   cases (Option.some.inj hx)
   cases (Option.some.inj hy)
   exact .inl ⟨_,1,61,ab,rfl,g3,g4,by omega,by omega⟩
  | j+2,hx,hy=>simp at hy
 ·rw [Hj,e]
  show ((SQ wn "board" : Nat):Int)<5
  omega
theorem Oa (F:KF K aB aP aM) (e:Gw ρ vs=wn) (ht:isNm t) (h:∀ w∈named,Qa wn w t=false) (hc:SQ wn "coupler" < 12) {a b:Str} (ha:isNm a) (ha':Qa wn "board" a=true) (hb:isNm b) (hb':Qa wn "board" b=true) {s:Int} (h1 : -60<=s) (h2:s<=60):Li K aB aP aM ρ vs ⟨"coupler",t,[.str a,.str b,.int s]⟩:=by
 obtain ⟨ap,g1,g2⟩:=F.pC
 obtain ⟨ab,g3,g4⟩:=F.bL
 obtain ⟨tk,g5⟩:=F.mC
 refine ⟨by show ¬ ("coupler" : Str) = "step"; decide +kernel,by show ¬ ("coupler" : Str) = "line"; decide +kernel,⟨ap,["new","board","board","leap"],g1,g2,rfl,by decide,fun j x y hx hy=>?_⟩,⟨12,tk,g5,?_⟩⟩
 ·match j,hx,hy with
  | 0,hx,hy =>
   cases (Option.some.inj hx)
   cases (Option.some.inj hy)
   exact JC F e ht h
  | 1,hx,hy =>
   cases (Option.some.inj hx)
   cases (Option.some.inj hy)
   exact Hq F e ha ha'
  | 2,hx,hy =>
   cases (Option.some.inj hx)
   cases (Option.some.inj hy)
   exact Hq F e hb hb'
  | 3,hx,hy =>
   cases (Option.some.inj hx)
   cases (Option.some.inj hy)
   exact .inl ⟨_,-60,60,ab,rfl,g3,g4,h1,h2⟩
  | j+4,hx,hy=>simp at hy
 ·rw [Hj,e]
  show ((SQ wn "coupler" : Nat):Int)<12
  omega
end
end Og
namespace Og
open PySem L2
noncomputable def kJ (bs:List (Str × Nat)) (j1 j2:Nat) (s:Int) (qd:Nat × Nat) (z2:Nat):V :=
 if qd.1=j1/\0<=(qd.2:Int)+s/\(qd.2:Int)+s<z2 then .int ((((bs.take j2).map (·.2)).sum:Nat)+((qd.2:Int)+s)) else .non
noncomputable def gl (bs:List (Str × Nat)):Kb->Nat->Option Nat
 | .cp j1 j2 s,i=>match (Qh bs)[i]?,bs[j2]? with
  | some qd,some b2=>match kJ bs j1 j2 s qd b2.2 with
   | .int v=>some v.toNat
   | _=>none
  | _,_=>none
 | .pl _ _,_=>none
noncomputable def stp (bs:List (Str × Nat)) (kbs:List Kb) (D:Nat) (i j:Nat):Prop:=∃ k z,D.testBit k=true/\kbs[k]? = some z/\gl bs z i=some j
inductive jK (st:Nat->Nat->Prop) (hd:Nat->Prop):Nat->Prop
 | one {i j:Nat}:hd i->st i j->jK st hd j
 | more {i j:Nat}:jK st hd i->st i j->jK st hd j
end Og
namespace Og
open PySem L2 PyProof.Rows
noncomputable abbrev Th:=Str × Nat × List V
noncomputable abbrev tV (a:Th):List V:=.str a.1 :: .int (a.2.1:Nat)::a.2.2
noncomputable abbrev tN (a:Th):Str × Nat:=(a.1,a.2.1)
noncomputable abbrev ZM (r:Str × Nat × Int):Th:=(r.1,r.2.1,[.int r.2.2])
noncomputable abbrev j9 (b:Str × Nat):Th:=(b.1,b.2,[])
noncomputable abbrev oW (r:Str × Nat × Int):Str × Nat:=(r.1,r.2.1)
noncomputable abbrev Ge (r:Str × Nat × Int):R:=⟨"rank",r.1,[.int (r.2.1:Nat),.int r.2.2]⟩
structure Ln where
 r:Nat
 sh:Int
 lo:Int
 hi:Int
noncomputable abbrev oZ (l:Ln):List V:=[.int (l.r:Nat),.int l.sh,.int l.lo,.int l.hi]
noncomputable def Gy (H:Hp) (l:List Ln) (v:V):Prop:=∃ (A:Addr) (ts:List V),v=.ref A/\H A=some (.lst ts)/\Paired (fun x y=>TupAt H (oZ x) y) l ts
noncomputable def Ii (H:Hp) (D:Addr) (ls:List (List Ln)):Prop:=∃ lv,H D=some (.lst lv)/\Paired (fun l v=>Gy H l v) ls lv
theorem Gy.mono {H H':Hp} {l:List Ln} {v:V} (s:Ak H H') (h:Gy H l v):Gy H' l v:=by
 obtain ⟨A,ts,e,h1,h2⟩:=h
 exact ⟨A,ts,e,s _ _ h1,Aq s h2⟩
theorem Ii.mono {H H':Hp} {D:Addr} {ls:List (List Ln)} (s:Ak H H') (h:Ii H D ls):Ii H' D ls:=by
 obtain ⟨lv,h1,h2⟩:=h
 exact ⟨lv,s _ _ h1,Paired.JV h2 fun _ _ q=>q.mono s⟩
structure Mp (C:Addr) (H:Hp) (x:Addr) (bs:List (Str × Nat)) (rk:List (Str × Nat × Int)) (ks:List R) (ls:List (List Ln)):Prop where
 o:Kv C H x bs ks
 r:∃ (dx:Addr) (fs:List (Str × V)) (rl rn pp kl:Addr) (rvs pvs:List V) (kvs:List (Key × V)),H x=some (.ins C dx fs)/\fs.lookup ("rank_list" : Str)=some (.ref rl)/\fs.lookup ("rank_numbers" : Str)=some (.ref rn)/\fs.lookup ("pipe_places" : Str)=some (.ref pp)/\fs.lookup ("knob_lines" : Str)=some (.ref kl) /\
  H rl=some (.lst rvs)/\Paired (fun (a:Th) y=>TupAt H (tV a) y) (rk.map ZM) rvs/\H rn=some (.dK kvs)/\(∀ (i:Nat) r,rk[i]? = some r->CV kvs (Sum.inr r.1)=some (.int (i:Nat))) /\
  H pp=some (.lst pvs)/\Paired (fun q y=>TupAt H (qV q) y) (Qh (rk.map oW)) pvs/\Ii H kl ls
 nr:rk.length<=12
 nz:∀ r∈rk,r.2.1<=97
 nl:ls.length=ks.length
theorem Mp.mono {C:Addr} {H H':Hp} {x:Addr} {bs:List (Str × Nat)} {rk:List (Str × Nat × Int)} {ks:List R} {ls:List (List Ln)} (s:Ak H H') (h:Mp C H x bs rk ks ls):Mp C H' x bs rk ks ls:=by
 obtain ⟨o,⟨dx,fs,rl,rn,pp,kl,rvs,pvs,kvs,h1,l1,l2,l3,l4,h2,h3,h4,h5,h6,h7,h8⟩,a,b,c⟩:=h
 exact ⟨o.mono s,⟨dx,fs,rl,rn,pp,kl,rvs,pvs,kvs,s _ _ h1,l1,l2,l3,l4,s _ _ h2,Aq s h3,s _ _ h4,h5,s _ _ h6,Aq s h7,h8.mono s⟩,a,b,c⟩
structure W_ (ρ:V->R) (us:List V) (i:Nat):Prop where
 all:∀ j,j<i->∃ v,us[us.length - 1 - j]? = some v/\(ρ v).w = "line"
 lt:i<us.length
 no:∃ v,us[us.length - 1 - i]? = some v/\¬ (ρ v).w = "line"
noncomputable def Xl (r:R):Int:=match r.rest with
 | [.int m]=>m
 | _=>0
noncomputable abbrev keyOf (ρ:V->R) (us:List V) (bd:Str) (n:Int):Bool:=(us.filter (pw ρ "board")).any fun v=>pn ρ bd v && decide (n<Xl (ρ v))
structure Oo (ρ:V->R) (us:List V) (ro:R):Prop where
 ex:∃ (cnt:Nat) (v:V) (sh lo hi:Int) (bd:Str) (rs:List V),ro.rest=[.int sh,.int lo,.int hi]/\W_ ρ us cnt/\cnt<4/\us[us.length - 1 - cnt]? = some v/\(ρ v).w = "stop" /\ (ρ v).rest=.str bd::rs/\lo<=hi/\keyOf ρ us bd hi=true
noncomputable abbrev Er (ρ:V->R) (us:List V):Prop:=∀ v∈us,(ρ v).w = "board"->∃ m,(ρ v).rest=[.int m]
structure JS (K:PySem.W.Frag) (aB aP aM:Addr) (ρ:V->R) (vs:List V) (r:R):Prop where
 ns:¬ r.w = "step"
 parts:∃ (ap:Addr) (ps:List Str),PySem.W.nsIn K aP r.w=some (some (.ref ap))/\KTup K ap (ps.map V.str)/\(V.str r.nm::r.rest).length=ps.length/\ps.length<=10 /\
  ∀ (i:Nat) x y,(V.str r.nm::r.rest)[i]? = some x->ps[i]? = some y->Hw K aB ρ vs x y
 room:(r.w = "line" /\ PySem.W.nsIn K aM r.w=some none) \/ ∃ (m:Int) (t:Tok),PySem.W.nsIn K aM r.w=some (some (.int m t))/\(((vs.filter (pw ρ r.w)).length:Nat):Int)<m
 line:r.w = "line"->Oo ρ vs r
 ZV:Er ρ vs
noncomputable def lnOf (rk:List (Str × Nat × Int)) (r:R):Ln:=match r.rest with
 | [.int sh,.int lo,.int hi]=>⟨(rk.map (·.1)).idxOf r.nm,sh,lo,hi⟩
 | _=>⟨0,0,0,0⟩
noncomputable def putL (acc:List (List Ln)) (l:Ln):List (List Ln):=match acc.getLast? with
 | some z=>acc.dropLast++[z++[l]]
 | none=>[]
noncomputable def Dl (rk:List (Str × Nat × Int)) (acc:List (List Ln)) (r:R):List (List Ln):=if Ej r.w=true then acc++[[]] else if r.w = "line" then putL acc (lnOf rk r) else acc
noncomputable def linesOf (rk:List (Str × Nat × Int)) (rs:List R):List (List Ln):=rs.foldl (Dl rk) []
theorem Ci (rk:List (Str × Nat × Int)) (rs:List R) (r:R):linesOf rk (rs++[r])=Dl rk (linesOf rk rs) r:=by
 unfold linesOf
 rw [List.foldl_append]
 rfl
theorem HJ (acc:List (List Ln)) (z:List Ln) (l:Ln):putL (acc++[z]) l=acc++[z++[l]]:=by
 unfold putL
 rw [List.getLast?_concat,List.dropLast_concat]
structure qG (K:PySem.W.Frag) (aB aP aM:Addr) (ρ:V->R) (us:List V) (bs:List (Str × Nat)) (rk:List (Str × Nat × Int)) (ks:List R):Prop where
 kinds:∀ v∈us,(ρ v).w = "board" \/ (ρ v).w = "rank" \/ (ρ v).w = "line" \/ (ρ v).w = "stop" \/ (ρ v).w = "coupler" \/ (ρ v).w = "mute"
 eb:(us.filter (pw ρ "board")).map ρ=bs.map GR
 er:(us.filter (pw ρ "rank")).map ρ=rk.map Ge
 ek:(us.filter (fun v=>Ej (ρ v).w)).map ρ=ks
 ln:∀ (i:Nat) v,us[i]? = some v->(ρ v).w = "line"->(∃ (j:Nat) (r:Str × Nat × Int) (sh lo hi:Int),rk[j]? = some r/\r.1=(ρ v).nm/\(ρ v).rest=[.int sh,.int lo,.int hi])/\∃ u∈us.take i,Ej (ρ u).w=true
 b0:1<=bs.length
 b5:bs.length<=5
 sz:∀ b∈bs,b.2<=61
 nr:rk.length<=12
 nz:∀ r∈rk,r.2.1<=97
 nk:ks.length<=100
 nb:(bs.map (·.1)).Nodup
 nrr:(rk.map (·.1)).Nodup
 nn:(ks.map (·.nm)).Nodup
 len:us.length<=150
 ok:∀ (i:Nat) v,us[i]? = some v->JS K aB aP aM ρ (us.take i) (ρ v)
end Og
namespace Ws
open PySem PySem.Spec PyProof.Rows Wd
noncomputable def Iu (prog:Program) (w:World) (h:Heap) (a:Addr) (led:Bool) (σ:List Str):Prop :=
 ∃ es ep t,h.get? a=some { cls:=.type "set",dict:=none,data:=.set es ep t }/\ElemsOf (strKind prog w) es.toList/\(∀ k,k∈σ ↔ ∃ e∈es.toList,(strKind prog w).is k e.2=true)/\es.size=σ.length/\σ.Nodup /\
  σ.length<scanBound/\t.fits es.size=true/\Good t led
noncomputable def Ff (σ:List Str) (k:Str):List Str:=if k∈σ then σ else σ++[k]
section
variable {prog:Program} {w:World} {A:Around} {E:Value->Shared->Prop} {s:Shared} {a:Addr} {led:Bool} {σ:List Str} {k:Str} {tk:Tok}
theorem Zn {Q:Bool->Shared->Prop} (hS:Iu prog w s.heap a led σ) (room:σ.length+1<scanBound)
  (h:∀ b h',Heap.SameBut a s.heap h'->Iu prog w h' a led (Ff σ k)->Q b { s with heap:=h' }):wpAny (model prog w) A (setAddHashed a (.str k tk) ((strKind prog w).hash k)) Q E s:=by
 obtain ⟨es,ep,t,ho,hel,hmem,hn,nd,hb,hf,g⟩:=hS
 have hkey:(strKind prog w).is k (.str k tk)=true:=strKind_is _ _ _ _
 have hbe:es.size<scanBound:=by rw [hn]; exact hb
 unfold setAddHashed setAddHashedIn
 refine wpAny_holding (wpAny_bind (wpAny_setState_of ho rfl hf ?_))
 dsimp only
 rw [byScan_of rfl hbe hel,if_pos rfl]
 unfold setAddByScan
 refine wpAny_bind (wpAny_bind (wpAny_rule (wpAny_bind (wpAny_setScan_of hkey ho rfl hf hel ?_))))
 cases hr:List.findIdx? (fun e=>(strKind prog w).is k e.2) es.toList with
 | some j =>
  obtain ⟨hj,hpj,_⟩:=List.findIdx?_eq_some_iff_getElem.mp hr
  have hk:k∈σ:=(hmem k).mpr ⟨_,List.getElem_mem hj,hpj⟩
  refine wpAny_pure (wpAny_pure ?_)
  have:=h false s.heap (Heap.SameBut.refl a s.heap) (by unfold Ff; rw [if_pos hk]; exact ⟨es,ep,t,ho,hel,hmem,hn,nd,hb,hf,g⟩)
  exact this
 | none =>
  have hk:k ∉ σ:=fun q=>by
   obtain ⟨e,he,hp⟩:=(hmem k).mp q
   have:=List.findIdx?_eq_none_iff.mp hr e he
   rw [hp] at this
   cases this
  dsimp only
  have hperm:=layNew_perm t es ((strKind prog w).hash k) (.str k tk)
  have hfits:=layNew_fits t es ((strKind prog w).hash k) (.str k tk)
  have hgood:=Ud g es ((strKind prog w).hash k) (.str k tk)
  generalize layNew t es ((strKind prog w).hash k) (.str k tk)=L at hperm hfits hgood ⊢
  obtain ⟨es1,t1,wd,gave⟩:=L
  dsimp only at hperm hfits hgood ⊢
  rw [Array.toList_push] at hperm
  have hel1:ElemsOf (strKind prog w) es1.toList:=(hel.push hkey rfl).perm hperm
  have sz1:es1.size=(σ++[k]).length:=by
   have:=hperm.length_eq
   simp only [List.length_append,Array.length_toList,List.length_singleton] at this
   simp only [List.length_append,List.length_singleton]
   omega
  have mem1:∀ k',k'∈σ++[k] ↔ ∃ e∈es1.toList,(strKind prog w).is k' e.2=true:=fun k'=>by
   have:=mem_push_iff (knd:=strKind prog w) (S:=fun k'=>decide (k'∈σ)) hkey (fun k'=>by rw [decide_eq_true_eq]; exact hmem k') hperm k'
   rw [← this]
   simp
  have nd1:(σ++[k]).Nodup:=List.nodup_append.mpr ⟨nd,by simp,fun x hx y hy=>by
   rw [List.mem_singleton.mp hy]
   intro q
   exact hk (q ▸ hx)⟩
  have hb1:(σ++[k]).length<scanBound:=by simp only [List.length_append,List.length_singleton]; exact room
  have hb1':es1.size<scanBound:=by rw [sz1]; exact hb1
  have fin:∀ (es2:Array (Int × Value)) (t2:SetTable) (ep2:Nat) (h2:Heap),Heap.SameBut a s.heap h2->h2.get? a=some { cls:=.type "set",dict:=none,data:=.set es2 ep2 t2 }->es2.toList.Perm es1.toList->t2.fits es2.size=true->Good t2 led ->
    Q true { s with heap:=h2 }:=fun es2 t2 ep2 h2 sb e2 p2 f2 g2=>by
   refine h true h2 sb ?_
   unfold Ff
   rw [if_neg hk]
   refine ⟨es2,ep2,t2,e2,hel1.perm p2,fun k'=>(mem1 k').trans ⟨fun ⟨e,he,q⟩=>⟨e,p2.mem_iff.mpr he,q⟩,fun ⟨e,he,q⟩=>⟨e,p2.mem_iff.mp he,q⟩⟩,?_,nd1,hb1,f2,g2⟩
   rw [← Array.length_toList,p2.length_eq,Array.length_toList,sz1]
  have tail:∀ (t2:SetTable),t2.fits es1.size=true->Good t2 led->wpAny (model prog w) A (do
    storeSet a es1 t2
    if (!wd && t2.tooFull)=true then do
      (match (relayAll t2 es1 (SetTable.grown es1.size)).2.2 with | true=>rule "set.scan.the-table-gave-way" | false=>pure ())
      storeSet a (relayAll t2 es1 (SetTable.grown es1.size)).1 (relayAll t2 es1 (SetTable.grown es1.size)).2.1
      pure (some true)
     else pure (some true)) (fun r s'=>match r with | some b=>Q b s' | none=>False) E s:=fun t2 f2 g2=>by
   refine wpAny_bind (wpAny_storeSet_of ho rfl ?_ (fits_of_scanBound hb1'))
   have sb1:=Heap.SameBut.update s.heap a (Obj.putSet es1 t2)
   have e1:=Qe (es':=es1) (t':=t2) ho
   split
   ·have hp:=relayAll_perm t2 es1 (SetTable.grown es1.size)
    have hq:=relayAll_fits t2 es1 (SetTable.grown es1.size)
    have hg:=Pz g2 es1 (SetTable.grown es1.size)
    generalize relayAll t2 es1 (SetTable.grown es1.size)=R at hp hq hg ⊢
    obtain ⟨es2,t3,gv⟩:=R
    dsimp only at hp hq hg ⊢
    have hb2:es2.size<scanBound:=by rw [← Array.length_toList,hp.length_eq,Array.length_toList]; exact hb1'
    have last:wpAny (model prog w) A (do storeSet a es2 t3; pure (some true)) (fun r s'=>match r with | some b=>Q b s' | none=>False) E { s with heap:=s.heap.update a (Obj.putSet es1 t2) }:=by
     refine wpAny_bind (wpAny_storeSet_of e1 rfl ?_ (fits_of_scanBound hb2))
     exact wpAny_pure (fin es2 t3 _ _ (sb1.trans (Heap.SameBut.update _ a _)) (Qe e1) hp hq hg)
    cases gv
    ·exact wpAny_bind (wpAny_pure last)
    ·exact wpAny_bind (wpAny_rule last)
   ·exact wpAny_pure (fin es1 t2 _ _ sb1 e1 (List.Perm.refl _) f2 g2)
  have tail':∀ (t2:SetTable),t2.fits es1.size=true->Good t2 led->wpAny (model prog w) A (do
    storeSet a es1 t2
    if (!wd && t2.tooFull)=true then do
      (match (relayAll t2 es1 (SetTable.grown es1.size)).2.2 with | true=>rule "set.scan.the-table-gave-way" | false=>pure ())
      storeSet a (relayAll t2 es1 (SetTable.grown es1.size)).1 (relayAll t2 es1 (SetTable.grown es1.size)).2.1
      pure (some true)
     else pure (some true)) (fun r s'=>wpAny (model prog w) A (match r with | some added=>pure added | none=>setAddHashedIn a (.str k tk) ((strKind prog w).hash k) 99999) Q E s') E s:=fun t2 f2 g2 =>
   wpAny_mono (tail t2 f2 g2) (fun r s' q=>by
    cases r with
    | none=>exact q.elim
    | some b=>exact wpAny_pure q) fun _ _ e=>e
  have mid:wpAny (model prog w) A (do
    let byValue ← if t1.plain then hashByValue 8 (.str k tk) else pure true
    let t2:=if byValue=true then t1 else { t1 with plain:=false }
    storeSet a es1 t2
    if (!wd && t2.tooFull)=true then do
      (match (relayAll t2 es1 (SetTable.grown es1.size)).2.2 with | true=>rule "set.scan.the-table-gave-way" | false=>pure ())
      storeSet a (relayAll t2 es1 (SetTable.grown es1.size)).1 (relayAll t2 es1 (SetTable.grown es1.size)).2.1
      pure (some true)
     else pure (some true)) (fun r s'=>wpAny (model prog w) A (match r with | some added=>pure added | none=>setAddHashedIn a (.str k tk) ((strKind prog w).hash k) 99999) Q E s') E s:=by
   split
   ·rw [hashByValue_scannable 8 rfl]
    exact wpAny_bind (wpAny_pure (tail' { t1 with plain:=false } hfits ⟨hgood.led,fun h=>by cases h⟩))
   ·exact wpAny_bind (wpAny_pure (tail' t1 hfits hgood))
  cases gave
  ·exact wpAny_bind (wpAny_pure mid)
  ·exact wpAny_bind (wpAny_rule mid)
end
inductive StrsAre:List Value->List Str->Prop
 | nil:StrsAre [] []
 | cons (z:Str) (t:Tok) {us:List Value} {zs:List Str}:StrsAre us zs->StrsAre (.str z t::us) (z::zs)
theorem StrsAre.length:∀ {us:List Value} {zs:List Str},StrsAre us zs->us.length=zs.length
 | _,_,.nil=>rfl
 | _,_,.cons z t r=>congrArg (· + 1) r.length
theorem StrsAre.T_:∀ {us:List Value} {zs:List Str},StrsAre us zs->∀ (i:Nat) (v:Value),us[i]? = some v->∃ t,v=.str (zs.getD i "") t
 | _,_,.nil,i,v,h=>by simp at h
 | _,_,.cons z t r,0,v,h=>by simp at h; exact ⟨t,h.symm⟩
 | _,_,.cons z t r,i+1,v,h=>by
  have h':_:=h
  rw [List.getElem?_cons_succ] at h'
  obtain ⟨t',e⟩:=r.T_ i v h'
  exact ⟨t',by rw [e]; rfl⟩
theorem Iu.keep {prog:Program} {w:World} {h h':Heap} {a:Addr} {led:Bool} {σ:List Str} (g:Iu prog w h a led σ) (k:∀ o,h.get? a=some o->h'.get? a=some o):Iu prog w h' a led σ :=
 let ⟨es,ep,t,e,r⟩:=g; ⟨es,ep,t,k _ e,r⟩
theorem Tu (σ:List Str) (k:Str):(Ff σ k).length<=σ.length+1:=by
 unfold Ff
 split
 ·omega
 ·simp
theorem LQ:∀ (ns:List Str) (σ:List Str),(ns.foldl Ff σ).length<=σ.length+ns.length
 | [],σ=>by simp
 | k::ns,σ=>by
  have h1:=LQ ns (Ff σ k)
  have h2:=Tu σ k
  simp only [List.foldl_cons,List.length_cons]
  omega
section
variable {prog:Program} {w:World} {A:Around} {R:Result->Shared->Prop} {I:Addr} {fp wr:List Addr} {G:Array GenState->Array GenState->Prop} {n:Nat} {P:Nat->Value->Prop} {St:Nat->Shared->Prop} {led:Bool}
theorem Yq (W:WalksS prog w A.in1 I fp wr G n P St) (S:Addr) (hSf:S ∉ fp) (ns:List Str) (hn:ns.length=n) (hval:∀ i v,P i v->∃ t,v=.str (ns.getD i "") t) (hb:n+1<scanBound) :
  ∀ (k i:Nat) (s:Shared),n - i=k->i<=n->St i s->Iu prog w s.heap S led ((ns.take i).foldl Ff []) ->
   (∀ s',Moved (S::wr) G s s'->Iu prog w s'.heap S led (ns.foldl Ff [])->R (.ok (.ret .none)) s')->codeAny (model prog w) A (.builtin "set.update.loop" ⟨[.ref S,.ref I],[]⟩) R s:=by
 have nw:S ∉ wr:=fun z=>hSf (W.sub _ z)
 have up:∀ b∈wr,b∈S::wr:=fun b z=>List.mem_cons_of_mem _ z
 intro k
 induction k with
 | zero =>
  intro i s hk hi st g hR
  obtain rfl:i=n:=by omega
  refine codeAny_builtin F.entry_set_update_loop ?_
  rw [Around.under_plainId F.plain_set_update_loop _]
  refine wpAny_bind (W.done s _ _ st fun s' m=>wpAny_pure (hR s' (m.mono up) ?_))
  rw [List.take_of_length_le (by omega)] at g
  exact g.keep fun o e=>m.heap S o nw e
 | succ k ih =>
  intro i s hk hi st g hR
  have lt:i<n:=by omega
  refine codeAny_builtin F.entry_set_update_loop ?_
  rw [Around.under_plainId F.plain_set_update_loop _]
  refine wpAny_bind (W.item i s _ _ lt st fun v s' p st' m=>?_)
  obtain ⟨t,rfl⟩:=hval i v p
  have g':=g.keep (h':=s'.heap) fun o e=>m.heap S o nw e
  refine wpAny_bind (wpAny_holding (wpAny_holding (wpAny_bind ((strKind prog w).pyHash (k:=ns.getD i "") (strKind_is _ _ _ _) ?_))))
  have room:((ns.take i).foldl Ff []).length+1<scanBound:=by
   have:=LQ (ns.take i) []
   rw [List.length_take] at this
   simp at this
   omega
  have tk:ns.take (i+1)=ns.take i++[ns.getD i ""]:=by
   have hl:i<ns.length:=by omega
   rw [List.take_add_one,List.getElem?_eq_getElem hl]
   simp [hl]
  refine Zn (s:={ s' with toks:=s'.toks+1 }) g' room fun b h' sb g2=>?_
  have g3:Iu prog w h' S led ((ns.take (i+1)).foldl Ff []):=by
   rw [tk,List.foldl_append]
   exact g2
  refine wpAny_pure ⟨plainId_quiet F.plain_set_update_loop _,ih (i+1) _ (by omega) lt (W.frame _ s' _ _ st' (Nat.le_succ _) fun b hb o e=>?_) g3 fun s'' m2 g4=>?_⟩
  ·rw [sb.2 b (fun z:b=S=>hSf (z ▸ hb))]
   exact e
  ·refine hR s'' (Moved.trans W.gtrans ((m.mono up).then_heap (Nat.le_succ _) fun b o hb e=>?_) m2) g4
   rw [sb.2 b (fun z:b=S=>hb (by rw [z]; exact List.mem_cons_self))]
   exact e
end
section
variable {prog:Program} {w:World} {A:Around} {E:Value->Shared->Prop} {s:Shared}
theorem Vi (h:Heap):Iu prog w (h.push { cls:=.type "set",dict:=none,data:=.set #[] 0 (.fresh 0 0 (Eb w)) }) h.objs.size (Eb w) [] :=
 ⟨#[],0,_,Heap.get?_push_size _ rfl,fun e he=>by simp at he,fun k=>by simp,rfl,.nil,by decide,by rfl,Ov _⟩
set_option maxHeartbeats 4000000 in
theorem fU {l:Addr} {items:Array Value} {ns:List Str} {Q:Value->Shared->Prop} (hh:A.handled=none) (hl:s.heap.IsTuple l items) (hi:StrsAre items.toList ns) (hb:ns.length+1<scanBound)
  (h:∀ h' tk,Iu prog w h' s.heap.objs.size (Eb w) (ns.foldl Ff [])->(∀ b o,s.heap.get? b=some o->h'.get? b=some o)->Q (.ref s.heap.objs.size) { s with heap:=h',toks:=tk }) :
  wpAny (model prog w) A (call (.type "set") [.ref l]) Q E s:=by
 obtain ⟨c,tl,hmro⟩:=F.called_set.mro
 have hmade:=F.called_set.made
 have hsub:=F.called_set.sub
 have hlen:items.size=ns.length:=by rw [← StrsAre.length hi]; simp
 refine wpAny_call (codeAny_of_tree ?_)
 show wpAny _ _ (callAny (.type "set") _) _ _ _
 refine wpAny_pure ⟨Code.quiet_builtin _ (by decide +kernel),codeAny_builtin F.entry_type_call ?_⟩
 rw [Around.under_plain (weight_type_call_type "set" [.ref l] []) rfl]
 have h1:=F.called_set.notType
 have h2:=F.called_set.canCreate
 have hct:=F.typeCall_set_1 (.ref l)
 repeat (any_goals (first | assumption | wp_step))
 refine codeAny_mono (cC (.ref l) (E:=E) (Q1:=fun obj s1=>obj=.ref s.heap.objs.size/\s1 = { s with heap:=s.heap.push { cls:=.type "set",dict:=none,data:=.set #[] 0 (.fresh 0 0 (Eb w)) } }) ⟨rfl,rfl⟩) fun r s1 hr=>?_
 rcases r with e | fl
 ·exact hr
 obtain ⟨obj,rfl,hr⟩:∃ obj,fl=.ret obj/\(obj=.ref s.heap.objs.size/\s1 = { s with heap:=s.heap.push { cls:=.type "set",dict:=none,data:=.set #[] 0 (.fresh 0 0 (Eb w)) } }):=by
  cases fl with
  | ret v=>exact ⟨v,rfl,hr⟩
  | _=>exact hr.elim
 obtain ⟨rfl,rfl⟩:=hr
 have hS:(s.heap.push { cls:=.type "set",dict:=none,data:=.set #[] 0 (.fresh 0 0 (Eb w)) }).get? s.heap.objs.size=some { cls:=.type "set",dict:=none,data:=.set #[] 0 (.fresh 0 0 (Eb w)) }:=Heap.get?_push_size _ rfl
 have hT:Shared.TypeIs { s with heap:=s.heap.push { cls:=.type "set",dict:=none,data:=.set #[] 0 (.fresh 0 0 (Eb w)) } } (.ref s.heap.objs.size) "set":=⟨_,hS,rfl⟩
 have hli:=F.called_set.init.lookup
 have hbi:=F.called_set.init.bind (.ref s.heap.objs.size)
 repeat (any_goals (first | assumption | wp_step))
 refine codeAny_mono (codeAny_call_builtin (R:=wants (fun r s2=>r=.none/\∃ h' tk,s2 = { s with heap:=h',toks:=tk }/\Iu prog w h' s.heap.objs.size (Eb w) (ns.foldl Ff [])/\∀ b o,s.heap.get? b=some o->h'.get? b=some o) E)
  F.called_set.init.plain F.entry_set_init (check_set_init_1 hT ?_)) fun r2 s2 hr2=>?_
 ·obtain ⟨ol,hol,hcl,nl,hdl⟩:=hl
  obtain ⟨ocls,odict,odata,oslots⟩:=ol
  simp only at hcl hdl
  subst hcl; subst hdl
  have hol':(s.heap.push { cls:=.type "set",dict:=none,data:=.set #[] 0 (.fresh 0 0 (Eb w)) }).get? l=some { cls:=.type "tuple",dict:=odict,data:=.seq items nl,slots:=oslots }:=Heap.get?_push_of_some _ hol
  have hsls:=F.sub_tuple_set
  have hslf:=F.sub_tuple_frozenset
  have hne:(Value.type "tuple" == Value.type "dict")=false:=by decide
  have hl1:(s.heap.push { cls:=.type "set",dict:=none,data:=.set #[] 0 (.fresh 0 0 (Eb w)) }).IsTuple l items:=⟨_,hol',rfl,nl,rfl⟩
  unfold Builtin.«set.__init__» noKeywords Builtin.Frozenset.updateFrom
  generalize hPI:pyIter=PI
  wp_walk
  subst hPI
  refine wpAny_pyIter_tuple hl1 (wpAny_bind (wpAny_runValue ?_))
  have lS:l<s.heap.objs.size:=Heap.lt_size hol
  have h3:A.in1.in1.in1.handled=none:=by simp [hh]
  have nI:l ≠ (s.heap.push { cls:=.type "set",dict:=none,data:=.set #[] 0 (.fresh 0 0 (Eb w)) }).objs.size:=by
   rw [Heap.size_push]
   exact Nat.ne_of_lt (Nat.lt_succ_of_lt lS)
  have nf:s.heap.objs.size ∉ [(s.heap.push { cls:=.type "set",dict:=none,data:=.set #[] 0 (.fresh 0 0 (Eb w)) }).objs.size,l]:=by
   rw [Heap.size_push]
   intro z
   rcases List.mem_cons.mp z with q | q
   ·exact absurd q (Nat.ne_of_lt (Nat.lt_succ_self _))
   ·exact absurd (List.mem_singleton.mp q) (Nat.ne_of_gt lS)
  refine Yq ((Walks.tuple h3 _ l nI items).toS) s.heap.objs.size nf ns hlen.symm (fun i v hv=>StrsAre.T_ hi i v (by rw [Array.getElem?_toList]; exact hv)) (by rw [hlen]; exact hb) (items.size - 0) 0 _ rfl (Nat.zero_le _)
   ⟨⟨_,Heap.get?_push_size _ rfl,rfl,rfl⟩,(hl1.push _)⟩ ((Vi s.heap).keep fun o e=>Heap.get?_push_of_some _ e) fun s' m g=>?_
  obtain ⟨h',g',d',tk',os'⟩:=s'
  obtain rfl:g'=s.gens:=m.gens
  obtain rfl:d'=s.drawn:=m.drawn
  obtain rfl:os'=s.os:=m.os
  show wpAny _ _ _ _ _ _
  refine wpAny_pure ?_
  show wpAny _ _ (ret Value.none) _ _ _
  refine wpAny_pure ⟨rfl,h',tk',rfl,g,fun b o e=>?_⟩
  have b1:=Heap.lt_size e
  refine m.heap b o (fun z=>?_) (Heap.get?_push_of_some _ (Heap.get?_push_of_some _ e))
  rcases List.mem_cons.mp z with q | q
  ·exact absurd q (Nat.ne_of_lt b1)
  ·have:=List.mem_singleton.mp q
   rw [Heap.size_push] at this
   exact absurd this (Nat.ne_of_lt (Nat.lt_succ_of_lt b1))
 ·rcases r2 with e | fl2
  ·exact hr2
  obtain ⟨r,rfl,hr2⟩:∃ r,fl2=.ret r/\(r=.none/\∃ h' tk,s2 = { s with heap:=h',toks:=tk }/\Iu prog w h' s.heap.objs.size (Eb w) (ns.foldl Ff [])/\∀ b o,s.heap.get? b=some o->h'.get? b=some o):=by
   cases fl2 with
   | ret v=>exact ⟨v,rfl,hr2⟩
   | _=>exact hr2.elim
  obtain ⟨rfl,h',tk,rfl,g,hk⟩:=hr2
  repeat (any_goals (first | assumption | wp_step))
  exact h _ _ g hk
end
end Ws
namespace L2
open PySem PySem.Spec PyProof.Rows
noncomputable def M8 (P:Program) (w:World) (a:Addr) (τ:List Str):HO:=.ext fun h=>Ws.Iu P w h a (Wd.Eb w) τ
theorem Su {P:Program} {w:World} {H:Hp} {h:Heap} {a:Addr} {τ:List Str} (g:Ws.Iu P w h a (Wd.Eb w) τ):Bx P w H h a (M8 P w a τ) :=
 ⟨g,(let ⟨_,_,_,e,_⟩:=g; ⟨_,e⟩),fun _ _ g k=>g.keep k⟩
theorem LR:∀ {ts:List Str} {us:List Value},Vals (ts.map V.str) us->Ws.StrsAre us ts
 | [],_,r=>by cases r; exact .nil
 | n::ns,_,r=>by
  cases r with
  | cons r t =>
   obtain ⟨tk,rfl⟩:=r
   exact .cons n tk (LR t)
section
variable {X:Cx}
theorem RV (hc:X.calm=true):Em X (.type "set") (fun xs H Q=>∃ (l:Addr) (ts:List Str),xs=[V.ref l]/\Gm X.K H l (ts.map V.str)/\ts.length<=1000/\∀ p,H p=none->Q (.ref p) (upd H p (M8 X.prog X.w p (ts.foldl Ws.Ff [])))):=by
 intro pins s σ H xs us Q I r h
 obtain ⟨l,ts,rfl,hl,hz,q⟩:=h
 obtain ⟨u,rfl,ru⟩:=vals1 r
 cases ru
 obtain ⟨its,rv,pl,_⟩:=I.tuple hl
 have hn:H s.heap.objs.size=none:=I.hok.fresh (Nat.le_refl _)
 refine Ws.fU (I.ok.hd hc) pl (by simpa using LR rv) (by unfold scanBound; omega) fun h' tk g k=>?_
 exact ⟨.ref s.heap.objs.size,_,I.laid (t':=tk) k (Nat.le_refl _) (Su g),rfl,q _ hn⟩
theorem Ko:Em X (.builtin "len") (fun xs H Q=>∃ (a:Addr) (τ:List Str),xs=[V.ref a]/\H a=some (M8 X.prog X.w a τ)/\Q (.int (τ.length:Nat)) H):=by
 intro pins s σ H xs us Q I r h
 obtain ⟨a,τ,rfl,ha,q⟩:=h
 obtain ⟨u,rfl,ru⟩:=vals1 r
 cases ru
 obtain ⟨⟨es,ep,t,e1,e2,e3,e4,e5,e6,e7,e8⟩,_,_⟩:=(show Bx X.prog X.w H s.heap a (M8 X.prog X.w a τ) from I.hok a _ ha)
 unfold scanBound at e6
 refine call_len_set e1 ⟨rfl,rfl,rfl⟩ rfl e7 (by omega) ⟨.int ((es.size:Nat):Int),H,I.tok _,⟨_,rfl⟩,?_⟩
 rw [e4]
 exact q
end
theorem Lj:∀ (ts τ:List Str),(τ++ts).Nodup->(ts.foldl Ws.Ff τ)=τ++ts
 | [],τ,_=>(List.append_nil _).symm
 | t::ts,τ,h=>by
  have hn:t ∉ τ:=fun z=>by
   rw [List.nodup_append] at h
   exact h.2.2 t z t (List.mem_cons_self ..) rfl
  rw [List.foldl_cons]
  have e:Ws.Ff τ t=τ++[t]:=by unfold Ws.Ff; rw [if_neg hn]
  rw [e,Lj ts (τ++[t]) (by rw [List.append_assoc]; exact h),List.append_assoc]
  rfl
end L2
namespace L2
open PySem PySem.Spec PyProof.Rows
section
variable {X:Cx}
end
end L2
namespace L2
open PySem PySem.Spec PyProof.Rows
section
variable {σ:St} {H1:Hp} {Q:VK} {tt:TT} {te:TE}
theorem KH {K:PySem.W.Frag} {a:Addr} {xs:List V} (p:V->Bool) (f:V->V) (hl:Gm K H1 a xs) (hz:xs.length<sizeLine)
  (ht:∀ x∈xs,∀ H,Ak H1 H->∀ R:Bool->Hp->Prop,(∀ H',Ak H H'->R (p x) H')->tt (some x::σ) H R)
  (he:∀ x∈xs,p x=true->∀ H,Ak H1 H->∀ R:VK,(∀ H',Ak H H'->R (f x) H')->te (some x::σ) H R)
  (hq:∀ D H,H1 D=none->Ak H1 H->H D=some (.lst ((xs.filter p).map f))->Q (.ref D) H):GC (k_ K a) σ H1 Q tt te :=
 Gp p f hz (fun i H x hs hx=>⟨xs,x,hs.tup hl,hx⟩) (fun i H y H' hs _ hy=>⟨hy.1,hy.2 xs (hs.tup hl)⟩) (fun H hs=>⟨xs,hs.tup hl,Nat.le_refl _⟩) ht he hq
end
end L2
namespace Og
open PySem L2
theorem V5 {X:Cx} {K:PySem.W.Frag} {e:Expr} {f:Str} {pos:Pos} {ta:TE} (hK:X.K=K) (he:PE X e ta) (hb:attributeBase e f X.env (eval e X.env)=eval e X.env):PE X (.Attribute e f pos) (Zj K ta f):=by
 rw [← hK]
 exact Bh he hb
structure YM (K:PySem.W.Frag) (aM:Addr) (ρ:V->R) (vs:List V) (r:R):Prop where
 w:r.w = "step"
 ts:∃ ts:List Str,V.str r.nm::r.rest=ts.map V.str/\ts.Nodup/\ts.length<=24/\∀ t∈ts,isNm t/\VP ρ vs "stop" t=true
 room:∃ (m:Int) (t:Tok),PySem.W.nsIn K aM r.w=some (some (.int m t))/\(((vs.filter (pw ρ r.w)).length:Nat):Int)<m
noncomputable abbrev Gz (K:PySem.W.Frag) (aB aP aM:Addr) (ρ:V->R) (vs:List V) (r:R):Prop:=JS K aB aP aM ρ vs r \/ YM K aM ρ vs r
theorem Gz.room {K:PySem.W.Frag} {aB aP aM:Addr} {ρ:V->R} {vs:List V} {r:R} (h:Gz K aB aP aM ρ vs r):PySem.W.nsIn K aM r.w=some none \/ ∃ (m:Int) (t:Tok),PySem.W.nsIn K aM r.w=some (some (.int m t))/\(((vs.filter (pw ρ r.w)).length:Nat):Int)<m :=
 h.elim (fun h=>h.room.elim (fun z=>.inl z.2) .inr) (fun h=>.inr h.room)
noncomputable def Mr (r:R):List Str:=(V.str r.nm::r.rest).map fun v=>match v with | .str t=>t | _=>""
theorem Fv {r:R} {ts:List Str} (h:V.str r.nm::r.rest=ts.map V.str):Mr r=ts:=by
 unfold Mr
 rw [h,List.map_map]
 exact List.map_id ts
noncomputable def stN (ks:List R) (r:R):Nat:=Wd.mk ((Mr r).map fun t=>(ks.map (·.nm)).idxOf t)
structure jz (K:PySem.W.Frag) (aB aP aM:Addr) (ρ:V->R) (us:List V) (bs:List (Str × Nat)) (rk:List (Str × Nat × Int)) (ks:List R):Prop where
 eb:(us.filter (pw ρ "board")).map ρ=bs.map GR
 er:(us.filter (pw ρ "rank")).map ρ=rk.map Ge
 ek:(us.filter (fun v=>Ej (ρ v).w)).map ρ=ks
 ln:∀ (i:Nat) v,us[i]? = some v->(ρ v).w = "line"->(∃ (j:Nat) (r:Str × Nat × Int) (sh lo hi:Int),rk[j]? = some r/\r.1=(ρ v).nm/\(ρ v).rest=[.int sh,.int lo,.int hi])/\∃ u∈us.take i,Ej (ρ u).w=true
 st:∀ v∈us,(ρ v).w = "step"->∃ ts:List Str,V.str (ρ v).nm::(ρ v).rest=ts.map V.str/\ts.length<=24/\∀ t∈ts,t∈ks.map (·.nm)
 b0:1<=bs.length
 b5:bs.length<=5
 sz:∀ b∈bs,b.2<=61
 nr:rk.length<=12
 nz:∀ r∈rk,r.2.1<=97
 nk:ks.length<=100
 nb:(bs.map (·.1)).Nodup
 nrr:(rk.map (·.1)).Nodup
 nn:(ks.map (·.nm)).Nodup
 len:us.length<=150
 ok:∀ (i:Nat) v,us[i]? = some v->Gz K aB aP aM ρ (us.take i) (ρ v)
structure Jb (C:Addr) (H:Hp) (x:Addr) (us:List V) (bs:List (Str × Nat)) (rk:List (Str × Nat × Int)) (ks:List R) (ls:List (List Ln)) (sts:List Nat):Prop where
 o:Mp C H x bs rk ks ls
 m:∃ (dx:Addr) (fs:List (Str × V)) (rl kd ss:Addr) (kvs:List (Key × V)),H x=some (.ins C dx fs)/\fs.lookup ("row_list" : Str)=some (.ref rl)/\fs.lookup ("knob_numbers" : Str)=some (.ref kd)/\fs.lookup ("step_sets" : Str)=some (.ref ss) /\
  H rl=some (.lst us)/\H kd=some (.dK kvs)/\(∀ (i:Nat) t,(ks.map (·.nm))[i]? = some t->CV kvs (Sum.inr t)=some (.int (i:Nat)))/\(∀ t,t ∉ ks.map (·.nm)->CV kvs (Sum.inr t)=none)/\H ss=some (.lst (sts.map fun n:Nat=>V.int (n:Int))) /\
  ∃ (bn:Addr) (kb:List (Key × V)),fs.lookup ("board_numbers" : Str)=some (.ref bn)/\H bn=some (.dK kb)/\∀ t,t ∉ bs.map (·.1)->CV kb (Sum.inr t)=none
theorem Jb.mono {C:Addr} {H H':Hp} {x:Addr} {us:List V} {bs:List (Str × Nat)} {rk:List (Str × Nat × Int)} {ks:List R} {ls:List (List Ln)} {sts:List Nat} (s:Ak H H') (h:Jb C H x us bs rk ks ls sts):Jb C H' x us bs rk ks ls sts:=by
 obtain ⟨o,dx,fs,rl,kd,ss,kvs,h1,l1,l2,l3,h2,h3,h4,h5,h6,bn,kb,h7,h8,h9⟩:=h
 exact ⟨o.mono s,dx,fs,rl,kd,ss,kvs,s _ _ h1,l1,l2,l3,s _ _ h2,s _ _ h3,h4,h5,s _ _ h6,bn,kb,h7,s _ _ h8,h9⟩
noncomputable def Ea (p:Addr) (H:Hp) (D:Addr) (ls:List (List Ln)):Prop:=∃ lv,H D=some (.lst lv)/\D ≠ p/\Paired (fun l v=>Gy H l v/\v ≠ .ref p) ls lv
theorem Ea.mono {p:Addr} {H H':Hp} {D:Addr} {ls:List (List Ln)} (s:Ak H H') (h:Ea p H D ls):Ea p H' D ls:=by
 obtain ⟨lv,h1,h2,h3⟩:=h
 exact ⟨lv,s _ _ h1,h2,Paired.JV h3 fun _ _ q=>⟨q.1.mono s,q.2⟩⟩
theorem Ea.sx {p x C dx:Addr} {fs:List (Str × V)} {H H':Hp} {D:Addr} {ls:List (List Ln)} (h:Ea p H D ls) (s:SX x H H') (hx:H x=some (.ins C dx fs)):Ea p H' D ls:=by
 obtain ⟨lv,h1,h2,h3⟩:=h
 refine ⟨lv,s.lst hx h1,h2,Paired.JV h3 fun _ _ q=>⟨?_,q.2⟩⟩
 obtain ⟨A,ts,e,h4,h5⟩:=q.1
 exact ⟨A,ts,e,s.lst hx h4,s.pair hx h5⟩
theorem Tt {p:Addr} {H H':Hp} {us zs:List V} {y:V} (s:SX p H H') (hp:H p=some (.lst us)) (h:TupAt H zs y):TupAt H' zs y:=by
 obtain ⟨T,rfl,e⟩:=h
 exact ⟨T,rfl,s _ _ e fun z=>by rw [z,hp] at e; cases e⟩
theorem Ib {α:Type} {f:α->List V} {p:Addr} {H H':Hp} {us vs:List V} {l:List α} (s:SX p H H') (hp:H p=some (.lst us)) (h:Paired (fun a y=>TupAt H (f a) y) l vs):Paired (fun a y=>TupAt H' (f a) y) l vs:=Paired.JV h fun _ _ q=>Tt s hp q
theorem QD {p a:Addr} {H H':Hp} {us:List V} {kvs:List (Key × V)} (s:SX p H H') (hp:H p=some (.lst us)) (h:H a=some (.dK kvs)):H' a=some (.dK kvs):=s _ _ h fun z=>by rw [z,hp] at h; cases h
theorem Ea.sp {p:Addr} {H H':Hp} {us:List V} {D:Addr} {ls:List (List Ln)} (h:Ea p H D ls) (s:SX p H H') (hp:H p=some (.lst us)):Ii H' D ls:=by
 obtain ⟨lv,h1,h2,h3⟩:=h
 refine ⟨lv,s _ _ h1 h2,Paired.JV h3 fun _ v q=>?_⟩
 obtain ⟨⟨A,ts,rfl,h4,h5⟩,hn⟩:=q
 exact ⟨A,ts,rfl,s _ _ h4 (fun z=>hn (by rw [z])),Ib s hp h5⟩
end Og
namespace L2
open PySem PySem.Spec PyProof.Rows
section
variable {X:Cx} {pins:List (Addr × Obj)} {σ:St} {H:Hp} {s:Shared}
end
section
variable {X:Cx}
end
end L2
namespace L2
open PySem PySem.Spec PySem.Calls PyProof.Rows
noncomputable def Yd (h:Heap) (x T C:Addr) (od:Option Addr) (fl:Value):Prop :=
 ∃ (vs ts:Array Value) (sl:Array (Option Value)) (oT:Obj),h.get? x=some ⟨.ref C,od,.fields vs,sl⟩/\vs[1]? = some (.ref T)/\T ≠ x/\h.get? T=some oT/\oT.data=.fields ts/\ts[3]? = some fl
structure Mv (fs:List Addr) (x T:Addr) (h h':Heap):Prop where
 keep:∀ b o,h.get? b=some o->b ≠ x->b ≠ T->b ∉ fs->h'.get? b=some o
 any:∀ b o,h.get? b=some o->b ≠ x->b ≠ T->∃ sl,h'.get? b=some { o with slots:=sl }
section
variable {M:Model} {A:Around} {E:Value->Shared->Prop} {s:Shared} {base:Heap} {env:Env} {outer:List Env} {L x T C:Addr} {od:Option Addr} {Q:Unit->Shared->Prop}
theorem J9 {vs:Array Value} {sl:Array (Option Value)} {head:Value} {hadNext:Bool} (hfr:A.frames=some (env::outer)) (hl:s.heap.FunFrames base (env::outer)) (hf:env.frame=some L)
  (he:s.heap.get? x=some ⟨.ref C,od,.fields vs,sl⟩) (hsz:1<vs.size)
  (h:∀ h' T',Yd h' x T' C od (rawInt L)->Mv (frs (env::outer)) x x s.heap h'->s.heap.get? T'=none->Q () { s with heap:=h' }) :
  wpAny M A (do let a ← frameOf env; let pl ← entryPlaceOf L hadNext; let b ← EntryCells.newEntry head a .none (rawInt L) .none pl; setField (.ref x) 1 b) Q E s:=by
 have hene:x ∉ (env::outer).filterMap (·.frame):=fun hm=>by
  obtain ⟨_,o,ho,hnf⟩:=hl.mem hm
  rw [he] at ho; injection ho with ho; subst ho; exact hnf vs rfl
 refine wpAny_bind (wpAny_frameOf_fun hfr hl hf fun h₁ hs₁=>?_)
 refine wpAny_bind (wpAny_entryPlaceOf fun pl hpl=>?_)
 unfold EntryCells.newEntry newFields
 refine wpAny_bind (wpAny_newObj_type ?_ (hpl.sizeOk5 _ _ _ _ _))
 have he₁:h₁.get? x=some ⟨.ref C,od,.fields vs,sl⟩:=(hs₁.2.1 x hene).trans he
 have he₂:=Heap.get?_push_of_some (h:=h₁) { cls:=.type "traceback",dict:=none,data:=.fields ([head,.ref L,.none,rawInt L,.none]++(if pl.isEmpty then List.replicate 6 Value.none else pl)).toArray } he₁
 refine wpAny_setField he₂ rfl hsz ?_
 have hTe:h₁.objs.size ≠ x:=Nat.ne_of_gt (Heap.lt_size he₁)
 have hd₃:=Obj.data_mapFields (o:=⟨.ref C,od,.fields vs,sl⟩) rfl (·.setIfInBounds 1 (Value.ref h₁.objs.size))
 have he₃:=Heap.get?_update_self (Obj.mapFields (·.setIfInBounds 1 (Value.ref h₁.objs.size))) he₂ (Obj.isFreed_of_fields hd₃)
 have hT₃:=(Heap.get?_update_other (h₁.push { cls:=.type "traceback",dict:=none,data:=.fields ([head,.ref L,.none,rawInt L,.none]++(if pl.isEmpty then List.replicate 6 Value.none else pl)).toArray })
  (Obj.mapFields (·.setIfInBounds 1 (Value.ref h₁.objs.size))) (Ne.symm hTe)).trans (Heap.get?_push_size h₁ rfl)
 refine h _ h₁.objs.size ⟨_,_,sl,_,he₃,by simp [hsz],hTe,hT₃,rfl,by first | (simp; done) | (rcases hpl with rfl | ⟨_,_,_,_,_,_,_,rfl⟩ <;> simp)⟩ ⟨fun b o hb hx _ hn=>?_,fun b o hb hx _=>?_⟩ ?_
 ·rw [Heap.get?_update_other _ _ (Ne.symm hx)]
  exact Heap.get?_push_of_some _ ((hs₁.2.1 b hn).trans hb)
 ·obtain ⟨sl',hs⟩:=hs₁.2.2 b o hb
  rw [Heap.get?_update_other _ _ (Ne.symm hx)]
  exact ⟨sl',Heap.get?_push_of_some _ hs⟩
 ·refine Heap.get?_none_of_le ?_
  rw [hs₁.1]
  exact Nat.le_refl _
theorem O9 {vs:Array Value} {sl:Array (Option Value)} (hfr:A.frames=some (env::outer)) (hl:s.heap.FunFrames base (env::outer)) (hf:env.frame=some L)
  (he:s.heap.get? x=some ⟨.ref C,od,.fields vs,sl⟩) (h1:vs[1]? = some .none)
  (h:∀ h' T',Yd h' x T' C od (rawInt L)->Mv (frs (env::outer)) x x s.heap h'->s.heap.get? T'=none->Q () { s with heap:=h' }):wpAny M A (noteFrame (.ref x) env) Q E s:=by
 unfold noteFrame
 simp only [hf]
 refine wpAny_bind (wpAny_field he rfl h1 ?_)
 rw [if_neg (by decide)]
 exact J9 hfr hl hf he (Array.getElem?_eq_some_iff.mp h1).1 h
theorem Qd (hfr:A.frames=some (env::outer)) (hl:s.heap.FunFrames base (env::outer)) (hf:env.frame=some L) (hy:Yd s.heap x T C od .none)
  (h:∀ h' T',Yd h' x T' C od (rawInt L)->Mv (frs (env::outer)) x T s.heap h'->s.heap.get? T'=none->Q () { s with heap:=h' }):wpAny M A (noteFrame (.ref x) env) Q E s:=by
 obtain ⟨vs,ts,sl,oT,he,h1,hTe,hT,hdT,h3⟩:=hy
 have hsz3:=(Array.getElem?_eq_some_iff.mp h3).1
 unfold noteFrame
 simp only [hf]
 refine wpAny_bind (wpAny_field he rfl h1 ?_)
 rw [if_pos (show (Value.ref T != Value.none)=true from by simp)]
 refine wpAny_bind (wpAny_field hT hdT h3 ?_)
 rw [if_neg (show ¬ ((Value.none == rawInt L)=true) from by simp [rawInt])]
 refine wpAny_bind (wpAny_setField hT hdT hsz3 ?_)
 have other:∀ b,b ≠ T->(s.heap.update T (Obj.mapFields (·.setIfInBounds 3 Value.none))).get? b=s.heap.get? b:=fun b hb=>Heap.get?_update_other _ _ (Ne.symm hb)
 have hTn:=Heap.get?_update_self (Obj.mapFields (·.setIfInBounds 3 Value.none)) hT (Obj.isFreed_of_fields (Obj.data_mapFields hdT _))
 have noRecord:∀ b o,s.heap.get? b=some o->(∀ vs,o.data ≠ .fields vs)->b ≠ T:=fun b o hb hnf q=>by
  rw [q,hT] at hb; injection hb with hb; subst hb; exact hnf ts hdT
 refine J9 (s:={ s with heap:=s.heap.update T (Obj.mapFields (·.setIfInBounds 3 Value.none)) }) hfr (hl.of_keeps fun b o hb hnf=>⟨o,(other b (noRecord b o hb hnf)).trans hb,rfl⟩) hf ((other x (Ne.symm hTe)).trans he) (Array.getElem?_eq_some_iff.mp h1).1 fun h' T' y m n=>?_
 have nT:T' ≠ T:=fun z=>by
  subst z
  have n':(s.heap.update T' (Obj.mapFields (·.setIfInBounds 3 Value.none))).get? T'=none:=n
  rw [hTn] at n'; cases n'
 exact h h' T' y ⟨fun b o hb hx ht hn=>m.keep b o ((other b ht).trans hb) hx hx hn,fun b o hb hx ht=>m.any b o ((other b ht).trans hb) hx hx⟩ ((other T' nT).symm.trans n)
theorem FT {fl:Value} (hy:Yd s.heap x T C od fl) (h:∀ h',Yd h' x T C od .none->Mv [] x T s.heap h'->Q () { s with heap:=h' }):wpAny M A (setFlight (.ref x) none) Q E s:=by
 obtain ⟨vs,ts,sl,oT,he,h1,hTe,hT,hdT,h3⟩:=hy
 have hsz3:3<ts.size:=(Array.getElem?_eq_some_iff.mp h3).1
 have other:∀ b,b ≠ T->(s.heap.update T (Obj.mapFields (·.setIfInBounds 3 ((none:Option Addr).elim Value.none fun f=>rawInt f)))).get? b=s.heap.get? b :=
  fun b hb=>Heap.get?_update_other _ _ (Ne.symm hb)
 unfold setFlight
 refine wpAny_bind (wpAny_field he rfl h1 ?_)
 rw [if_pos (show (Value.ref T != Value.none)=true from by simp)]
 refine wpAny_setField hT hdT hsz3 (h _ ?_ ⟨fun b o hb _ ht _=>(other b ht).trans hb,fun b o hb _ ht=>⟨o.slots,(other b ht).trans hb⟩⟩)
 exact ⟨vs,_,sl,_,(other x (Ne.symm hTe)).trans he,h1,hTe,Heap.get?_update_self _ hT (Obj.isFreed_of_fields (Obj.data_mapFields hdT _)),Obj.data_mapFields hdT _,by simp [hsz3]⟩
end
section
variable {P:Program} {w:World} {fs:List Addr} {H H':Hp} {h h1 h2 h3:Heap} {x T T':Addr}
theorem PB {h:Heap} {b y:Addr} {o:Obj} (e:h.get? b=some o) (n:h.get? y=none):b ≠ y:=fun z=>by
 rw [z,n] at e
 cases e
theorem Ei.mv (k:Ei P w H h) (m:Mv fs x T h h1) (hx:H x=none) (hT:H T=none) (hf:∀ b∈fs,H b=none):Ei P w H h1:=fun b u e=>by
 have ne:∀ c,H c ≠ none->c ≠ x/\c ≠ T/\c ∉ fs:=fun c q=>⟨fun z=>q (z ▸ hx),fun z=>q (z ▸ hT),fun z=>q (hf c z)⟩
 refine (k b u e).stay (fun c v hc q=>?_) (fun _ q=>q) fun _ _ q=>q
 have hq:H c ≠ none:=by
  rcases hc with z | z
  ·rw [z,e]; simp
  ·rw [z]; simp
 obtain ⟨a1,a2,a3⟩:=ne c hq
 exact m.keep c v q a1 a2 a3
theorem Un.mv {gs:List Addr} (u:Un gs [] H H' h h1) (m:Mv fs x T h1 h2) (hx:h.get? x=none) (hT:h.get? T=none) (hf:∀ b∈fs,b ∉ gs->h.get? b=none):Un gs [] H H' h h2:=by
 have ne:∀ b o,h.get? b=some o->b ≠ x/\b ≠ T:=fun b o e=>⟨PB e hx,PB e hT⟩
 refine ⟨fun b o e n hb hx'=>?_,fun b o e n hb hx'=>?_,u.free,fun b o e hx'=>?_,u.tups,u.frzs,u.tbls⟩
 ·obtain ⟨a1,a2⟩:=ne b o e
  refine m.keep b o (u.keep b o e n hb hx') a1 a2 fun z=>?_
  have:=hf b z hb
  rw [e] at this; cases this
 ·obtain ⟨a1,a2⟩:=ne b o e
  obtain ⟨sl,e1⟩:=u.slot b o e n hb hx'
  obtain ⟨sl',e2⟩:=m.any b _ e1 a1 a2
  exact ⟨sl',e2⟩
 ·obtain ⟨a1,a2⟩:=ne b o e
  obtain ⟨o',e1⟩:=u.there b o e hx'
  obtain ⟨sl,e2⟩:=m.any b o' e1 a1 a2
  exact ⟨_,e2⟩
end
noncomputable def Ij (P:Program) (w:World):Mw:=fun outer H s E e s'=>∃ (x T C:Addr) (od:Option Addr) (H':Hp),e=.ref x/\s'.os=s.os/\AllBare s'.gens/\Yd s'.heap x T C od .none/\s.heap.get? x=none/\s.heap.get? T=none /\
 H' x=none/\H' T=none/\Ei P w H' s'.heap/\Un (frs outer) [] H H' s.heap s'.heap/\E (.ref C) od H'
theorem bA {P:Program} {w:World} {X:Cx}:Ek (Ij P w) X E0:=fun _ _ _ _ _ _ _ ⟨_,_,_,_,_,_,_,_,_,_,_,_,_,_,_,h⟩=>h.elim
noncomputable def ak (X:Cx) (C:Addr) (E:XK):Prop:=∀ (pins:List (Addr × Obj)) (σ:St) (H:Hp) (s:Shared) (h':Heap) (x:Addr) (as:List Value),Inv X pins σ H s->Heap.MadeExcOf s.heap h' x (.ref C) as->E (.ref C) none H->X.xe (.ref x) { s with heap:=h' }
theorem Ig {P:Program} {w:World} {K:PySem.W.Frag} {mg:Str->Option Value} {base:Heap} {N:List Str} {qual:Str} {scope:Scope} {f:Addr} {cd:Value} {A:Around} {outer:List Env} {s:Shared} {H:Hp} {E:XK} {C:Addr} :
  ak (Jk (Ij P w) P w K mg base N qual scope f cd A outer s H E) C E:=by
 intro pins σ H1 s1 h' x as I hm q
 obtain ⟨t,he,htn,ht⟩:=hm.there
 have gone:∀ b,s1.heap.get? b=none->s.heap.get? b=none:=fun b e=>by
  cases z:s.heap.get? b with
  | none=>rfl
  | some o =>
   obtain ⟨o',e'⟩:=I.base.there b o z (by show b ∉ ([]:List Addr); simp)
   rw [e] at e'; cases e'
 have hx1:H1 x=none:=I.hok.none_of hm.new
 have frees:∀ b∈frs (envOfC qual scope s.heap.objs.size f cd::outer),H1 b=none:=I.HH
 have hfr:(A.deeper (envOfC qual scope s.heap.objs.size f cd)).frames=some (envOfC qual scope s.heap.objs.size f cd::outer):=I.ok.frames
 have hff:s1.heap.FunFrames base (envOfC qual scope s.heap.objs.size f cd::outer):=I.stack
 have u0:Un (frs outer) [] H H1 s.heap s1.heap:=I.base
 have hok1:Ei P w H1 s1.heap:=I.hok
 have fsN:∀ b∈frs (envOfC qual scope s.heap.objs.size f cd::outer),b ∉ frs outer->s.heap.get? b=none:=fun b hb hn=>by
  rcases List.mem_cons.mp (show b∈s.heap.objs.size::frs outer from hb) with z | z
  ·rw [z]; exact Heap.get?_none_of_le (Nat.le_refl _)
  ·exact absurd z hn
 show wpAny (model P w) (A.deeper (envOfC qual scope s.heap.objs.size f cd)) (leaving (envOfC qual scope s.heap.objs.size f cd) (.ref x)) _ _ _
 unfold leaving
 refine wpAny_bind (O9 (s:={ s1 with heap:=h' }) (L:=s.heap.objs.size) hfr (hff.of_keeps fun b o hb _=>⟨o,hm.keeps b o hb,rfl⟩) rfl he rfl fun h2 T y m n=>?_)
 refine FT (s:={ s1 with heap:=h2 }) y fun h3 y3 m3=>?_
 have nT1:s1.heap.get? T=none:=by
  cases z:s1.heap.get? T with
  | none=>rfl
  | some o =>
   have n':h'.get? T=none:=n
   rw [hm.keeps T o z] at n'; cases n'
 have hT1:H1 T=none:=hok1.none_of nT1
 have hokA:Ei P w H1 h':=hok1.kept hm.keeps
 have hokB:Ei P w H1 h2:=hokA.mv m hx1 hx1 frees
 have hokC:Ei P w H1 h3:=hokB.mv m3 hx1 hT1 (fun _ z=>nomatch z)
 have uA:Un (frs outer) [] H H1 s.heap h':=u0.trans (Un.kept hm.keeps)
 have uB:Un (frs outer) [] H H1 s.heap h2:=uA.mv m (gone x hm.new) (gone x hm.new) fsN
 have uC:Un (frs outer) [] H H1 s.heap h3:=uB.mv m3 (gone x hm.new) (gone T nT1) (fun _ z=>nomatch z)
 exact ⟨x,T,C,none,H1,rfl,I.os,I.bare,y3,gone x hm.new,gone T nT1,hx1,hT1,hokC,uC,q⟩
section
variable {X:Cx} {C:Addr} {x:Str} {e:Expr} {es:List Expr} {t:TA} {np cpos pos:Pos} {E:XK}
noncomputable def Yz (C:Addr) (E:XK) (t:TA):TS:=fun _ σ H=>t σ H fun vs H1=>vs.length<=1000/\E (.ref C) none H1
theorem Gx (q:PySem.W.excIn X.K C V2 "ValueError.__new__" = true) (hg:Gl X x) (hm:X.mg x=some (.ref C)) (hc:X.calm=true) (hl:ak X C E) (ha:PA X (e::es) t)
  (hdb:(x == ("__debug__" : Str))=false:=by decide) (he:starEach (e::es) X.env=(false,eval e X.env)::starEach es X.env:=by rfl) (hpl:(backTo cpos (starEach es X.env)).any (·.1)=false:=by rfl) :
  PS X (.Raise (some (.Call (.Name x np) (e::es) [] cpos)) none pos) (Yz C E t):=by
 intro pins s σ H D I h
 obtain ⟨bm,N,nm,qn,bs,hdct,sn,sub,ab,col,dd,k0,k1,k2,k3,k5,mN,hC,hN,hni,TL⟩:=Qg I.ok.mod.kin q
 have hplain:(backTo cpos (starEach (e::es) X.env)).any (·.1)=false:=by
  rw [he]
  show (false || (backTo cpos (starEach es X.env)).any (·.1))=false
  rw [hpl]; rfl
 refine wpAny_Raise_call_subU (nm:=nm) (q:=qn) (C:=C) (N:=N) (bs:=bs) (bm:=bm) (hdct:=hdct) (sn:=sn) (sub:=sub) (ab:=ab) (col:=col) (dd:=dd) (k0:=k0) (k1:=k1) (k2:=k2) (k3:=k3) (k5:=k5) (mN:=mN)
  PySem.F.excBase_ValueError (by decide) PySem.F.excBase_ValueError (TL.hasType (by decide)) (I.ok.hd hc) hplain hni (HS I hg hm ⟨rfl,?_⟩ hdb)
 have:=ha cpos pins s σ H _ I h
 rw [he] at this ⊢
 refine Calls.evalArgs_plain (By this fun us s1 ⟨vs,H1,I1,r,hz,q1⟩=>⟨rfl,?_,I1.bk _ _ hC,hN.keeps I1.bk,TL.keeps I1.bk,fun h' x hm'=>?_⟩)
 ·show us.length<=sizeLine
  rw [← r.length]
  exact Nat.le_of_lt (BJ hz)
 ·exact hl pins σ H1 s1 h' x _ I1 hm' q1
end
theorem NP {prog:Program} {w:World} {A:Around} {E:Value->Shared->Prop} {s:Shared} {K:PySem.W.Frag} {x C O:Addr} {od:Option Addr} {d:Data} {sl:Array (Option Value)} {b:Bool} {Q:Bool->Shared->Prop}
  (X:K.In s.heap) (he:s.heap.get? x=some ⟨.ref C,od,d,sl⟩) (q:PySem.W.excIn K O V2 "ValueError.__new__" = true) (hm:PySem.W.mroIn K C (.ref O)=some b) (h:Q b s):wpAny (model prog w) A (excMatches (.ref x) (.ref O)) Q E s:=by
 obtain ⟨bm,N,nm,qn,bs,hdct,sn,sub,ab,col,dd,k0,k1,k2,k3,k5,mN,hC,hN,hni,TL⟩:=Qg X q
 have hbase:bm.contains (.type "BaseException")=true:=TL.hasType (by decide)
 have hcB:(Value.ref O::bm).contains (.type "BaseException")=true:=by rw [List.contains_cons,hbase,Bool.or_true]
 have L:=PySem.W.looks_mroIn (M:=model prog w) X hm
 have f:=tc_notTuple
 obtain ⟨hp,g,dr,tk,os⟩:=s
 unfold excMatches
 repeat (first | with_reducible refine wpAny_loadPart_at he ?_ | with_reducible refine wpAny_loadPart_at hC ?_ | (with_reducible refine wpAny_isSubtype_exc hC ?_; rw [hcB]) | with_reducible refine L.at ?_ | wp_step)
 cases b <;> (wp_walk; exact h)
theorem Un.adopt {gs:List Addr} {H1 H2:Hp} {h h':Heap} {x:Addr} {o:HO} (u:Un gs [] H1 H2 h h') (hx:h.get? x=none) (hn:H2 x=none):Un gs [] H1 (upd H2 x o) h h' :=
 ⟨u.keep,u.slot,fun b ob e n hb=>by rw [Ar (PB e hx)]; exact u.free b ob e n hb,u.there,fun b xs e=>by rw [Ar (Ai (u.tups b xs e) hn)]; exact u.tups b xs e,
  fun b ob v e=>by rw [Ar (Ai (u.frzs b ob v e) hn)]; exact u.frzs b ob v e,fun b ps e=>by
   obtain ⟨more,e1⟩:=u.tbls b ps e
   exact ⟨more,by rw [Ar (Ai e1 hn)]; exact e1⟩⟩
noncomputable abbrev Cx.inX (X:Cx) (x:Addr):Cx:={ X with A:=X.A.mark (some (.ref x)),calm:=false }
section
variable {X:Cx} {pins:List (Addr × Obj)} {σ:St} {H:Hp} {s:Shared}
theorem Inv.inX (I:Inv X pins σ H s) (x:Addr):Inv (X.inX x) pins σ H s :=
 ⟨⟨I.ok.mod,I.ok.kind,I.ok.glob,I.ok.blt,I.ok.above,I.ok.inj,I.ok.has,I.ok.cab,(fun z=>nomatch z),I.ok.frames,I.ok.stk,I.ok.exf,I.ok.bs,I.ok.bsz,I.ok.noex,I.ok.exfs,I.ok.Hu,I.ok.frf⟩,
  I.os,I.bare,I.base,I.loc,I.cell,I.free,I.freeC,I.pin,I.hok,I.len⟩
theorem Inv.V3 {x:Addr} (ok:X.Ok) (I:Inv (X.inX x) pins σ H s):Inv X pins σ H s:=⟨ok,I.os,I.bare,I.base,I.loc,I.cell,I.free,I.freeC,I.pin,I.hok,I.len⟩
theorem name_goes {M:Model} {A:Around} {E:Value->Shared->Prop} {i:Nat} {n:Str} {pos:Pos} {Q:Unit->Shared->Prop} (I:Inv X pins σ H s) (hN:X.N.Nodup) (hi:X.N[i]? = some n) (hk:X.env.kindOf n=some .local)
  (h:∀ s',Inv X pins (σ.set i none) H s'->Q () s'):wpAny M A (do bindName X.env n .none; unbindBehindTheSuite X.env n pos) Q E s:=by
 obtain ⟨m,hn,hl⟩:=id I.loc
 have hcls:(X.env.scope.kind == .class || (X.env.scope.kind == .module && X.env.locals != X.env.globals))=false:=by rw [I.ok.kind]; rfl
 have hiσ:i<σ.length:=by rw [I.len]; exact (List.getElem?_eq_some_iff.mp hi).1
 refine wpAny_nameGoes_keeps hk hn hcls fun h' v hn' hs=>h _ ?_
 obtain ⟨oL,_,_,hoL,_⟩:=id hn
 have nL:∀ b o,X.s₀.heap.get? b=some o->b ≠ X.env.locals:=fun b o e=>Nat.ne_of_lt (Nat.lt_of_lt_of_le (Heap.lt_size e) I.ok.above)
 have tracked:Ei X.prog X.w H h':=fun b ob e=>by
  refine (I.hok b ob e).stay (fun c w' hc q=>(hs.2 c ?_).trans q) (fun _ q=>q) fun _ _ q=>q
  rintro rfl
  have hfree:=I.free
  rcases hc with rfl | hc
  ·rw [hfree] at e; cases e
  ·rw [hfree] at hc; cases hc
 refine ⟨I.ok,I.os,I.bare,⟨fun b o e n hb hx=>?_,fun b o e n hb hx=>?_,I.base.free,fun b o e hx=>?_,I.base.tups,I.base.frzs,I.base.tbls⟩,⟨_,hn',fun j y v' e1 e2 e3=>?_⟩,fun y c e=>?_,I.free,I.freeC,fun p hp=>?_,tracked,by simpa using I.len⟩
 ·exact (hs.2 b (nL b o e)).trans (I.base.keep b o e n hb hx)
 ·obtain ⟨sl,e1⟩:=I.base.slot b o e n hb hx
  exact ⟨sl,(hs.2 b (nL b o e)).trans e1⟩
 ·obtain ⟨o',e1⟩:=I.base.there b o e hx
  exact ⟨o',(hs.2 b (nL b o e)).trans e1⟩
 ·by_cases hj:j=i
  ·subst hj
   rw [List.getElem?_set_self hiσ] at e2
   cases e2
  ·rw [List.getElem?_set_ne (Ne.symm hj)] at e2
   obtain ⟨u',r',q⟩:=hl j y v' e1 e2 e3
   refine ⟨u',r',?_⟩
   rcases q with ⟨k,e⟩ | ⟨k,c,e,z⟩
   ·refine .inl ⟨k,?_⟩
    have:y ≠ n:=fun e=>hj (KD hN e1 (e ▸ hi))
    simp [this,e]
   ·exact .inr ⟨k,c,e,z.sameBut hs (I.Vb y c e)⟩
 ·obtain ⟨w',z⟩:=I.cell y c e
  exact ⟨w',z.sameBut hs (I.Vb y c e)⟩
 ·obtain ⟨e,n,ne,nf,d⟩:=I.pin p hp
  exact ⟨(hs.2 p.1 ne).trans e,n,ne,nf,d⟩
end
noncomputable def Ends.drop (D:Ends) (i:Nat):Ends:={ nx:=fun σ H=>D.nx (σ.set i none) H,rt:=D.rt,bk:=fun σ H=>D.bk (σ.set i none) H,ct:=fun σ H=>D.ct (σ.set i none) H }
section
variable {X:Cx} {k i:Nat} {f O:Addr} {fd:FuncData} {ps:List Str} {sp:Sp} {dvs:List V} {ds:List Value} {fx cn n:Str} {p np cpos epos hpos pos:Pos} {e:Expr} {es:List Expr} {t:TA} {b0:Stmt} {suite:List Stmt} {ts:TS}
end
structure Fx (k:Nat) (A:Around):Prop where
 dp:A.depth+3 * k+5<recursionLimit
 un:A.units+16 * k+200<cLine
theorem BX.h {k:Nat} {A:Around} (r:BX k A):Fx k A:=⟨r.dp,r.un⟩
theorem Fx.mono {j k:Nat} {A:Around} (r:Fx k A) (h:j<=k):Fx j A:=⟨by have:=r.dp; omega,by have:=r.un; omega⟩
theorem Fx.deeper {k:Nat} {A:Around} (r:Fx (k+1) A) (env:Env):Fx k (A.deeper env) :=
 ⟨by have:=r.dp; show A.depth+1+3 * k+5<_; omega,by have:=r.un; show A.units+3+16 * k+200<_; omega⟩
structure M5 (P:Program) (w:World) (K:PySem.W.Frag) (mg:Str->Option Value) (base:Heap) (CX:Mw) (k:Nat) (f:Addr) (fd:FuncData) (ps:List Str) (sp:Sp):Prop where
 len:∀ vs H Q E,sp vs H Q E->vs.length=ps.length
 run:∀ (A:Around) (outer:List Env) (s:Shared) (H:Hp) (args:Args) (us:List Value) (vs:List V) (Q:VK) (E:XK),Fx k A->Mh P w K mg base A outer s H->BindsTo s fd args (ps.zip us)->Vals vs us->sp vs H Q E ->
  codeAny (model P w) A (.call (.ref f) args) (CR CX outer P w H s Q E) s
noncomputable abbrev QG (CX:Mw) (P:Program) (w:World) (K:PySem.W.Frag) (mg:Str->Option Value) (base:Heap) (N:List Str) (qual:Str) (scope:Scope) (f:Addr) (cd:Value) (A:Around) (outer:List Env) (s:Shared) (H:Hp) (E:XK):Cx :=
 { Jk CX P w K mg base N qual scope f cd A outer s H E with calm:=false }
theorem Inv.Zz {X:Cx} {pins:List (Addr × Obj)} {σ:St} {H:Hp} {s:Shared} {A':Around} {xe':Value->Shared->Prop} (I:Inv X pins σ H s) (hf:A'.frames=some X.stack):Inv { X with A:=A',calm:=false,xe:=xe' } pins σ H s :=
 ⟨⟨I.ok.mod,I.ok.kind,I.ok.glob,I.ok.blt,I.ok.above,I.ok.inj,I.ok.has,I.ok.cab,(fun z=>nomatch z),hf,I.ok.stk,I.ok.exf,I.ok.bs,I.ok.bsz,I.ok.noex,I.ok.exfs,I.ok.Hu,I.ok.frf⟩,
  I.os,I.bare,I.base,I.loc,I.cell,I.free,I.freeC,I.pin,I.hok,I.len⟩
theorem Xv {CX:Mw} {P:Program} {w:World} {K:PySem.W.Frag} {mg:Str->Option Value} {base:Heap} {k:Nat} {f:Addr} {name qual:Str} {params:Arguments} {body:List Stmt} {scope:Scope} {dV kV doc pm cdv ct oc:Value} {an od:Option Addr}
  {osl:Array (Option Value)} {N ps:List Str} {sp:Sp} (lk:K.lookup f=some ⟨oc,od,.func (PySem.W.fnOf name qual params body scope dV kV doc pm an cdv ct),osl⟩) (hcd:PySem.W.codeIn K cdv qual=true) (S:Ao N ps scope)
  (len:∀ vs H Q E,sp vs H Q E->vs.length=ps.length)
  (hbody:∀ (A:Around) (outer:List Env) (s:Shared) (H:Hp) (vs:List V) (Q:VK) (E:XK),Fx k (A.deeper (envOfC qual scope s.heap.objs.size f cdv))->sp vs H Q E ->
   ∃ t,Mj (QG CX P w K mg base N qual scope f cdv A outer s H E) body t/\t { nx:=fun _ H'=>Q .non H',rt:=Q } (start N vs) H) :
  M5 P w K mg base CX (k+1) f (PySem.W.fnOf name qual params body scope dV kV doc pm an cdv ct) ps sp:=by
 refine ⟨len,fun A outer s H args us vs Q E hr e0 hb r hsp=>?_⟩
 have hl:=len _ _ _ _ hsp
 have KX:K.In s.heap:=e0.mod.kin.keeps fun b o e=>(e0.bs b o e).1
 have lim:s.heap.NoLimit:=e0.mod.nolimit.keeps fun b o e=>(e0.bs b o e).1
 have hkind:∀ y∈ps.zip us,scope.names.lookup y.1=some .local \/ (scope.names.lookup y.1=some .cell/\((cellsFrom (s.heap.objs.size+1) scope.names []).lookup y.1).isSome=true):=fun ⟨n,v⟩ hy=>by
  rcases S.par n (List.of_mem_zip hy).1 with q | q
  ·exact .inl q
  ·exact .inr ⟨q,PySem.W.cellsFrom_some _ _ _ (.inl q)⟩
 refine codeAny_call_function (by have:=hr.dp; omega) (KX _ _ lk) rfl S.co S.gen rfl (PySem.W.codeRec_of KX hcd) (hb _ _ _ _ ?_)
 refine wpAny_newFunctionEnv_cells S.kind hkind fun env he s1 x=>?_
 subst he
 refine ⟨lim.keeps x.toInCall.keep,codeAny_func ?_⟩
 obtain ⟨t,ht,hq⟩:=hbody A outer s H vs Q E (hr.deeper _) hsp
 have e0':Mh P w K mg base { A with handled:=none } outer s H:=⟨e0.frames,e0.mod,e0.bs,e0.bsz,e0.Hu,e0.frf,e0.hok,e0.bare⟩
 have I0:Inv (Jk CX P w K mg base N qual scope f cdv { A with handled:=none } outer s H E) [] (start N vs) H s1:=Le S rfl e0' hl r x
 have I:Inv (QG CX P w K mg base N qual scope f cdv A outer s H E) [] (start N vs) H s1:=I0.Zz (Around.frames_deeper e0.frames)
 refine wpAny_mono (ht [] s1 (start N vs) H _ I hq) (fun fl s' hs=>?_) fun e s' hs=>hs
 have fin:∀ {σ':St} {H':Hp} {v:V} {u:Value},Inv (QG CX P w K mg base N qual scope f cdv A outer s H E) [] σ' H' s'->RelV v u->Q v H'->CE outer P w H s Q u s' :=
  fun {σ' H' v u} J rv q=>⟨v,H',J.os,J.bare,J.base,J.hok,rv,q⟩
 cases fl with
 | ret u =>
  obtain ⟨v,σ',H',J,rv,q⟩:=hs
  exact fin J rv q
 | next =>
  obtain ⟨σ',H',J,q⟩:=hs
  exact fin (v:=V.non) (u:=Value.none) J rfl q
 | brk =>
  obtain ⟨_,_,_,q⟩:=hs
  exact False.elim q
 | cont =>
  obtain ⟨_,_,_,q⟩:=hs
  exact False.elim q
section
variable {P:Program} {w:World} {K:PySem.W.Frag} {mg:Str->Option Value} {base:Heap}
theorem DW.oh {x qual:Str} {st:Stmt} {f:Addr} {fd:FuncData} {N ps:List Str} {k:Nat} {sp:Sp} (F:DW K x qual st f fd) (S:Ao N ps (Af st)) (len:∀ vs H Q E,sp vs H Q E->vs.length=ps.length)
  (hbody:∀ (cdv:Value) (A:Around) (outer:List Env) (s:Shared) (H:Hp) (vs:List V) (Q:VK) (E:XK),Fx k (A.deeper (envOfC qual (Af st) s.heap.objs.size f cdv))->sp vs H Q E ->
   ∃ t,Mj (QG Bg P w K mg base N qual (Af st) f cdv A outer s H E).ZQ (CJ st) t/\t { nx:=fun _ H'=>Q .non H',rt:=Q } (start N vs) H):M5 P w K mg base Bg (k+1) f fd ps sp:=by
 obtain ⟨oc,od,kV,doc,pm,an,cdv,ct,osl,rfl,lk,hcd⟩:=F.ex
 refine Xv lk hcd S len fun A outer s H vs Q E hr hsp=>?_
 obtain ⟨t,h,q⟩:=hbody cdv A outer s H vs Q E hr hsp
 exact ⟨t,h.ZQ,q⟩
theorem DW.V6 {x qual:Str} {st:Stmt} {f:Addr} {fd:FuncData} {N ps:List Str} {k:Nat} {sp:Sp} (F:DW K x qual st f fd) (S:Ao N ps (Af st)) (len:∀ vs H Q E,sp vs H Q E->vs.length=ps.length)
  (hbody:∀ (cdv:Value) (A:Around) (outer:List Env) (s:Shared) (H:Hp) (vs:List V) (Q:VK) (E:XK),BX k (A.deeper (envOfC qual (Af st) s.heap.objs.size f cdv))->sp vs H Q E ->
   ∃ t,Mj (Jk (Ij P w) P w K mg base N qual (Af st) f cdv A outer s H E) (CJ st) t/\t { nx:=fun _ H'=>Q .non H',rt:=Q } (start N vs) H):Aw P w K mg base (Ij P w) (k+1) f fd ps sp:=by
 obtain ⟨oc,od,kV,doc,pm,an,cdv,ct,osl,rfl,lk,hcd⟩:=F.ex
 refine Ux lk hcd S len fun A outer s H vs Q E hr hsp=>?_
 obtain ⟨t,h,q⟩:=hbody cdv A outer s H vs Q E hr hsp
 exact ⟨t,h,q⟩
end
section
variable {X:Cx} {CX:Mw} {k:Nat} {f:Addr} {fd:FuncData} {ps:List Str} {sp:Sp} {dvs:List V} {ds:List Value} {E:XK} {x:Str} {p pos:Pos} {e:Expr} {es:List Expr} {t:TA}
theorem S7 (F:M5 X.prog X.w X.K X.mg X.base CX k f fd ps sp) (hr:Fx k X.A) (hg:Gl X x) (hm:X.mg x=some (.ref f)) (hk:PySem.W.keepIn X.K (.ref f)=true) (hb:Binds X.K fd ps ds) (hd:Vals dvs ds) (hx:Ek CX X E)
  (ha:PA X (e::es) t) (hdb:(x == ("__debug__" : Str))=false:=by decide) (he:starEach (e::es) X.env=(false,eval e X.env)::starEach es X.env:=by rfl) (hpl:(backTo pos (starEach es X.env)).any (·.1)=false:=by rfl) :
  PE X (.Call (.Name x p) (e::es) [] pos) (Ub sp dvs E t):=by
 intro pins s σ H Q I h
 refine wpAny_Call_Name_kw (HS I hg hm ?_ hdb)
 refine PySem.W.callWith_K (h₀:=X.base) I.ok.mod.kin hk (By (ha pos pins s σ H _ I h) fun us s1 ⟨vs,H1,I1,r,h1⟩=>⟨I1.GJ,?_⟩) he hpl
 have r2:Vals (vs++dvs) (us++ds):=r.append hd
 have hl:(us++ds).length=ps.length:=by rw [← r2.length]; exact F.len _ _ _ _ h1
 refine wpAny_call (codeAny_mono (F.run X.A X.stack s1 H1 ⟨us,[]⟩ (us++ds) (vs++dvs) Q E hr I1.env0 (hb s1 us I1.GJ hl) r2 h1) fun r s' hq=>?_)
 cases r with
 | error e=>exact hx pins σ H1 s1 e s' I1 hq
 | ok fl =>
  cases fl with
  | ret u=>exact I1.after hq
  | next=>exact False.elim hq
  | brk=>exact False.elim hq
  | cont=>exact False.elim hq
end
end L2
namespace L2
open PySem PySem.Spec PySem.Calls PyProof.Rows
theorem Un.jW {fs gs:List Addr} {H H1 H2:Hp} {h h1 h2:Heap} (a:Un fs [] H H1 h h1) (b:Un gs [] H1 H2 h1 h2) (hs:∀ x∈gs,x∈fs \/ h.get? x=none):Un fs [] H H2 h h2 where
 keep:=fun c o q n hc hx=>by
  have hg:c ∉ gs:=fun z=>by
   rcases hs c z with e | e
   ·exact hc e
   ·rw [q] at e; cases e
  exact b.keep c o (a.keep c o q n hc hx) (a.free c o q n hx) hg hx
 slot:=fun c o q n hc hx=>by
  obtain ⟨sl,e⟩:=a.slot c o q n hc hx
  obtain ⟨sl',e'⟩:=b.any e (a.free c o q n hx) hx
  exact ⟨sl',e'⟩
 free:=fun c o q n hx=>by
  obtain ⟨o',e⟩:=a.there c o q hx
  exact b.free c o' e (a.free c o q n hx) hx
 there:=fun c o q hx=>by
  obtain ⟨o',e⟩:=a.there c o q hx
  exact b.there c o' e hx
 tups:=fun c xs q=>b.tups c xs (a.tups c xs q)
 frzs:=fun c o u q=>b.frzs c o u (a.frzs c o u q)
 tbls:=fun c ps q=>by
  obtain ⟨m1,e1⟩:=a.tbls c ps q
  obtain ⟨m2,e2⟩:=b.tbls c _ e1
  exact ⟨m1++m2,by rw [e2,Array.append_assoc]⟩
theorem Jp {P:Program} {w:World} {K:PySem.W.Frag} {mg:Str->Option Value} {base:Heap} {N:List Str} {qual:Str} {scope:Scope} {f:Addr} {cd:Value} {A:Around} {outer:List Env} {s:Shared} {H:Hp} {E:XK} :
  Ek (Ij P w) (Jk (Ij P w) P w K mg base N qual scope f cd A outer s H E) E:=by
 rintro pins σ H1 s1 e s' I ⟨x,T,C,od,H2,rfl,os,bare,y,nx,nT,hx2,hT2,hok2,un2,q⟩
 have gone:∀ b,s1.heap.get? b=none->s.heap.get? b=none:=fun b e=>by
  cases z:s.heap.get? b with
  | none=>rfl
  | some o =>
   obtain ⟨o',e'⟩:=I.base.there b o z (by show b ∉ ([]:List Addr); simp)
   rw [e] at e'; cases e'
 have os1:s1.os=s.os:=I.os
 obtain ⟨h1,g,dr,tk,os'⟩:=s'
 obtain rfl:os'=s1.os:=os
 have I2:=I.call (h':=h1) (g':=g) (d':=dr) (t':=tk) (ch:=[]) un2 hok2 bare (fun b z=>absurd z (by simp))
 have hfr:(A.deeper (envOfC qual scope s.heap.objs.size f cd)).frames=some (envOfC qual scope s.heap.objs.size f cd::outer):=I.ok.frames
 have hff:h1.FunFrames base (envOfC qual scope s.heap.objs.size f cd::outer):=I2.stack
 have frees:∀ b∈frs (envOfC qual scope s.heap.objs.size f cd::outer),H2 b=none:=I2.HH
 have fsN:∀ b∈frs (envOfC qual scope s.heap.objs.size f cd::outer),b∈frs outer \/ s.heap.get? b=none:=fun b hb=>by
  rcases List.mem_cons.mp (show b∈s.heap.objs.size::frs outer from hb) with z | z
  ·rw [z]; exact .inr (Heap.get?_none_of_le (Nat.le_refl _))
  ·exact .inl z
 have u0:Un (frs outer) [] H H1 s.heap s1.heap:=I.base
 have u2:Un (frs outer) [] H H2 s.heap h1:=u0.jW (show Un (frs (envOfC qual scope s.heap.objs.size f cd::outer)) [] H1 H2 s1.heap h1 from un2) fsN
 show wpAny (model P w) (A.deeper (envOfC qual scope s.heap.objs.size f cd)) (leaving (envOfC qual scope s.heap.objs.size f cd) (.ref x)) _ _ _
 unfold leaving
 refine wpAny_bind (Qd (s:=⟨h1,g,dr,tk,s1.os⟩) (L:=s.heap.objs.size) hfr hff rfl y fun h3 T3 y3 m3 n3=>?_)
 refine FT (s:=⟨h3,g,dr,tk,s1.os⟩) y3 fun h4 y4 m4=>?_
 have nT3:s.heap.get? T3=none:=by
  cases z:s.heap.get? T3 with
  | none=>rfl
  | some o =>
   obtain ⟨o',e'⟩:=u2.there T3 o z (by simp)
   have n3':h1.get? T3=none:=n3
   rw [n3'] at e'; cases e'
 have hT3:H2 T3=none:=hok2.none_of n3
 have fs2:∀ b∈frs (envOfC qual scope s.heap.objs.size f cd::outer),b ∉ frs outer->s.heap.get? b=none:=fun b hb hn=>(fsN b hb).resolve_left hn
 have u3:=u2.mv m3 (gone x nx) (gone T nT) fs2
 have u4:=u3.mv m4 (gone x nx) nT3 (fun _ z=>nomatch z)
 have k3:Ei P w H2 h3:=Ei.mv (P:=P) (w:=w) hok2 m3 hx2 hT2 frees
 have k4:Ei P w H2 h4:=k3.mv m4 hx2 hT3 (fun _ z=>nomatch z)
 exact ⟨x,T3,C,od,H2,rfl,os1,bare,y4,gone x nx,nT3,hx2,hT3,k4,u4,q⟩
end L2
namespace L2
open PySem PySem.Spec PySem.Calls PyProof.Rows
section
variable {X:Cx} {o i value:Expr} {td ty tv:TE} {pos pos':Pos}
end
section
variable {X:Cx} {k i:Nat} {f O:Addr} {fd:FuncData} {ps:List Str} {sp:Sp} {dvs:List V} {ds:List Value} {fx cn n:Str} {p np cpos epos hpos pos:Pos} {e:Expr} {es:List Expr} {t:TA} {b0:Stmt} {suite:List Stmt} {ts:TS}
end
end L2
namespace L2
open PySem PySem.Spec PySem.Calls PyProof.Rows
noncomputable abbrev XR:=Value->Option Addr->St->Hp->Prop
noncomputable def XT (X:Cx) (pins:List (Addr × Obj)) (ER:XR) (e:Value) (s':Shared):Prop:=∃ σ H1 s1,Inv X pins σ H1 s1/\Ij X.prog X.w X.stack H1 s1 (fun C od H2=>ER C od σ H2) e s'
noncomputable def jt (X:Cx) (ER:XR) (st:Stmt) (t:TS):Prop :=
 ∀ (pins:List (Addr × Obj)) (s:Shared) (σ:St) (H:Hp) (D:Ends),Inv X pins σ H s->t D σ H->wpAny (model X.prog X.w) X.A (exec st X.env) (SP X pins D) (XT X pins ER) s
noncomputable def VJ (X:Cx) (ER:XR) (st:List Stmt) (t:TS):Prop :=
 ∀ (pins:List (Addr × Obj)) (s:Shared) (σ:St) (H:Hp) (D:Ends),Inv X pins σ H s->t D σ H->wpAny (model X.prog X.w) X.A (execs st X.env) (SP X pins D) (XT X pins ER) s
noncomputable def PET (X:Cx) (ER:XR) (e:Expr) (t:TE):Prop :=
 ∀ (pins:List (Addr × Obj)) (s:Shared) (σ:St) (H:Hp) (Q:VK),Inv X pins σ H s->t σ H Q->wpAny (model X.prog X.w) X.A (eval e X.env) (EP X pins σ Q) (XT X pins ER) s
section
variable {X:Cx} {ER:XR} {st:Stmt} {sts:List Stmt} {t u:TS} {pos:Pos}
theorem UW (h:Mj X sts t) (hxe:X.xe=fun _ _=>False):VJ X ER sts t:=fun pins s σ H D I q =>
 wpAny_mono (h pins s σ H D I q) (fun _ _ z=>z) fun e s' z=>by
  rw [hxe] at z
  exact z.elim
theorem DY (h1:jt X ER st t):VJ X ER [st] t:=by
 intro pins s σ H D I h
 refine wpAny_execs_cons (By (h1 pins s σ H D I h) fun f s1 q=>?_)
 cases f with
 | next=>exact wpAny_execs_nil q
 | brk=>exact q
 | cont=>exact q
 | ret u=>exact q
theorem JZ {c:Expr} {a b:List Stmt} {tc:TT} (hc:PT X c tc) (ha:VJ X ER a t) (hb:VJ X ER b u) (hxe:X.xe=fun _ _=>False):jt X ER (.If c a b pos) (WY tc t u):=by
 intro pins s σ H D I h
 refine wpAny_If (wpAny_mono (hc pins s σ H _ I h) (fun d s1 ⟨H1,I1,q1⟩=>?_) fun e s' z=>?_)
 ·cases d with
  | true=>exact ha pins s1 σ H1 D I1 q1
  | false=>exact hb pins s1 σ H1 D I1 q1
 ·rw [hxe] at z
  exact z.elim
theorem HX {i:Nat} {x:Str} {e:Expr} {te:TE} {pos':Pos} (hN:X.N.Nodup) (hi:X.N[i]? = some x) (hx:Loc X.env.scope x) (he:PET X ER e te) (hs:swapsWith e (some (.Name x pos')) pos.line X.env=pure false:=by rfl)
  (hf:X.fn x=true \/ X.env.scope.names.lookup x=some .local:=by first | exact .inl rfl | exact .inr rfl | assumption):jt X ER (.Assign [.Name x pos'] e pos) (Ut te (Ez i)):=by
 intro pins s σ H D I h
 refine wpAny_Assign_Name (By (he pins s σ H _ I h) fun v s1 ⟨y,H1,I1,r1,q1⟩=>?_) hs
 exact Ih I1 hN hi hx r1 (fun s2 I2=>⟨_,H1,I2,q1⟩) hf
end
section
variable {X:Cx} {ER:XR} {k:Nat} {f C:Addr} {fd:FuncData} {ps:List Str} {sp:Sp} {dvs:List V} {ds:List Value} {x m:Str} {p pos apos:Pos} {e o:Expr} {es:List Expr} {ta:TE} {t:TA}
noncomputable def Xy (C:Addr) (m:Str) (sp:Sp) (dvs:List V) (ER:XR) (ta:TE) (t:TA):TE:=fun σ H Q=>Ue C m sp dvs (fun C od H2=>ER C od σ H2) ta t σ H Q
theorem WD {pins:List (Addr × Obj)} {σ:St} {H:Hp} {s:Shared} {Q:VK} {us:List Value} {vs:List V} (F:Aw X.prog X.w X.K X.mg X.base (Ij X.prog X.w) k f fd ps sp) (hr:BX k X.A) (hb:Binds X.K fd ps ds) (hd:Vals dvs ds)
  (I:Inv X pins σ H s) (r:Vals vs us) (h:sp (vs++dvs) H Q (fun C od H2=>ER C od σ H2)):wpAny (model X.prog X.w) X.A (call (.ref f) us) (EP X pins σ Q) (XT X pins ER) s:=by
 have r2:Vals (vs++dvs) (us++ds):=r.append hd
 have hl:(us++ds).length=ps.length:=by rw [← r2.length]; exact F.len _ _ _ _ h
 refine wpAny_call (codeAny_mono (F.run X.A X.stack s H ⟨us,[]⟩ (us++ds) (vs++dvs) Q _ hr I.env0 (hb s us I.GJ hl) r2 h) fun r s' hq=>?_)
 cases r with
 | error e=>exact ⟨σ,H,s,I,hq⟩
 | ok fl =>
  cases fl with
  | ret u=>exact I.after hq
  | next=>exact False.elim hq
  | brk=>exact False.elim hq
  | cont=>exact False.elim hq
theorem Fj {pl:Sem Bool} (he:PE X o ta) (c:NQ X.K C) (hm:Meth X.K C m f) (F:Aw X.prog X.w X.K X.mg X.base (Ij X.prog X.w) k f fd ps sp) (hr:BX k X.A) (hb:Binds X.K fd ps ds) (hd:Vals dvs ds) (ha:PA X (e::es) t)
  (hxe:X.xe=fun _ _=>False) (hst:starEach (e::es) X.env=(false,eval e X.env)::starEach es X.env:=by rfl) (hpl:(backTo pos (starEach es X.env)).any (·.1)=false:=by rfl)
  (ht:eval (.Call (.Attribute o m apos) (e::es) [] pos) X.env=(do
   let ov ← eval o X.env
   standAt apos.atName
   let (f,first) ← holding [ov] (getMethod ov m pl)
   callWith pos f first (backTo pos (starEach (e::es) X.env)) (backToKw pos (keywordEach [] X.env))):=by rfl) :
  PET X ER (.Call (.Attribute o m apos) (e::es) [] pos) (Xy C m sp dvs ER ta t):=by
 intro pins s σ H Q I h
 refine PySem.W.methodCall_KW (pl:=pl) (wpAny_mono (he pins s σ H _ I h) (fun u s1 ⟨x,H1,I1,rx,a,dx,fs,ex,ea,l,q⟩=>?_) fun e s' z=>?_) ht
 ·subst ex
  obtain rfl:u=Value.ref a:=rx
  refine Ex I1 ea c hm l ?_
  refine PySem.W.callWith_K (first:=[.ref a]) (h₀:=X.base) I.ok.mod.kin hm.kp (wpAny_mono (ha pos pins s1 σ H1 _ I1 q) (fun us s2 ⟨vs,H2,I2,r,q2⟩=>⟨I2.GJ,?_⟩) fun e s' z=>?_) hst hpl
  ·exact WD (us:=.ref a::us) (vs:=.ref a::vs) F hr hb hd I2 (.cons rfl r) q2
  ·rw [hxe] at z
   exact z.elim
 ·rw [hxe] at z
  exact z.elim
end
noncomputable def ji (K:PySem.W.Frag) (O:Addr) (i:Nat) (ts:TS) (D:Ends):XR:=fun C od σ H2=>∃ Ca,C=.ref Ca/\PySem.W.mroIn K Ca (.ref O)=some true/\∀ x,H2 x=none->ts (D.drop i) (σ.set i (some (.ref x))) (upd H2 x (Cd x Ca od))
noncomputable def Zi (K:PySem.W.Frag) (tb:XR->TS) (O:Addr) (i:Nat) (ts:TS):TS:=fun D σ H=>tb (ji K O i ts D) D σ H
section
variable {X:Cx} {i:Nat} {O:Addr} {cn n:Str} {np hpos pos:Pos} {body:List Stmt} {b0:Stmt} {suite:List Stmt} {ts:TS} {tb:XR->TS}
theorem V0 (hb:∀ ER,VJ X ER body (tb ER)) (hgO:Gl X cn) (hmO:X.mg cn=some (.ref O)) (qO:PySem.W.excIn X.K O V2 "ValueError.__new__" = true) (hN:X.N.Nodup) (hi:X.N[i]? = some n) (hlo:X.env.scope.names.lookup n=some .local)
  (hs:∀ x,Mj (X.inX x) (b0::suite) ts) (hxe:X.xe=fun _ _=>False:=by rfl) (hst:X.stack=X.env::X.outer:=by rfl) (hfrm:X.env.frame=some X.env.locals:=by rfl) (hdO:(cn == ("__debug__" : Str))=false:=by decide) :
  PS X (.Try body [.ExceptHandler (some (.Name cn np)) (some n) (b0::suite) hpos] [] [] pos) (Zi X.K tb O i ts):=by
 intro pins s₀ σ₀ H₀ D I₀ h₀
 refine wpAny_Try_except (wpAny_mono (hb _ pins s₀ σ₀ H₀ D I₀ h₀) (fun fl s' q=>?_) fun e' s' q=>?_)
 ·cases fl with
  | next=>exact wpAny_execs_nil q
  | brk=>exact q
  | cont=>exact q
  | ret u=>exact q
 ·obtain ⟨σ,H1,s1,I1,x,T,C,od,H2,rfl,os,bare,y,nx,nT,hx2,hT2,hok2,un2,Ca,eC,hmro,hts⟩:=q
  cases eC
  obtain ⟨h1,g,dr,tk,os'⟩:=s'
  obtain rfl:os'=s1.os:=os
  have I2:Inv X pins σ H2 ⟨h1,g,dr,tk,s1.os⟩:=I1.call (h':=h1) (g':=g) (d':=dr) (t':=tk) (ch:=[]) un2 hok2 bare (fun b z=>absurd z (by simp))
  have hfr:=I1.ok.frames
  have hff:=I2.stack
  rw [hst] at hfr hff
  refine Qd (s:=⟨h1,g,dr,tk,s1.os⟩) hfr hff hfrm y fun h3 T3 y3 m3 n3=>?_
  refine FT (s:=⟨h3,g,dr,tk,s1.os⟩) y3 fun h4 y4 m4=>?_
  have nT3:s1.heap.get? T3=none:=by
   cases z:s1.heap.get? T3 with
   | none=>rfl
   | some o =>
    obtain ⟨o',e'⟩:=un2.there T3 o z (by simp)
    have n3':h1.get? T3=none:=n3
    rw [n3'] at e'; cases e'
  have hT3:H2 T3=none:=hok2.none_of n3
  have m3':Mv (frs X.stack) x T h1 h3:=by rw [hst]; exact m3
  have u3:=un2.mv m3' nx nT (fun b z z'=>absurd z z')
  have u4:=u3.mv m4 nx nT3 (fun _ z=>nomatch z)
  have k3:Ei X.prog X.w H2 h3:=hok2.mv m3' hx2 hT2 I2.HH
  have k4:Ei X.prog X.w H2 h4:=k3.mv m4 hx2 hT3 (fun _ z=>nomatch z)
  have I4:Inv X pins σ H2 ⟨h4,g,dr,tk,s1.os⟩:=I1.call (h':=h4) (g':=g) (d':=dr) (t':=tk) (ch:=[]) u4 k4 bare (fun b z=>absurd z (by simp))
  refine wpAny_handleBy_cons (codeAny_handlers_test (HS (I4.inX x) hgO hmO ?_ hdO)) (by intro q; cases q)
  obtain ⟨ws,wt,sl,oT,ex,_⟩:=id y4
  refine NP (s:=⟨h4,g,dr,tk,s1.os⟩) I4.GJ ex qO hmro ?_
  refine codeAny_handlers_suite_as (FT (s:=⟨h4,g,dr,tk,s1.os⟩) y4 fun h5 y5 m5=>?_)
  have u5:=(u4.mv m5 nx nT3 (fun _ z=>nomatch z)).adopt (o:=Cd x C od) nx hx2
  obtain ⟨ws5,wt5,sl5,oT5,ex5,_⟩:=id y5
  have k5:Ei X.prog X.w (upd H2 x (Cd x C od)) h5:=(k4.mv m5 hx2 hT3 (fun _ z=>nomatch z)).eF (fun _ _ e=>e) hx2 (Vv ex5 rfl)
  have I5:Inv X pins σ (upd H2 x (Cd x C od)) ⟨h5,g,dr,tk,s1.os⟩:=I1.call (h':=h5) (g':=g) (d':=dr) (t':=tk) (ch:=[]) u5 k5 bare (fun b z=>absurd z (by simp))
  refine JX (s:=⟨h5,g,dr,tk,s1.os⟩) I5 hN hi (.inl hlo) (show RelV (.ref x) (.ref x) from rfl) (fun s6 I6 _=>?_) (.inr hlo)
  refine wpAny_mono (hs x pins s6 _ _ _ (I6.inX x) (hts x hx2)) (fun fl s7 h7=>?_) fun e' s7 h7=>?_
  ·cases fl with
   | next=>obtain ⟨σ',H',J,qq⟩:=h7; exact name_goes (J.V3 I1.ok) hN hi hlo fun s8 J8=>⟨_,_,J8,qq⟩
   | brk=>obtain ⟨σ',H',J,qq⟩:=h7; exact name_goes (J.V3 I1.ok) hN hi hlo fun s8 J8=>⟨_,_,J8,qq⟩
   | cont=>obtain ⟨σ',H',J,qq⟩:=h7; exact name_goes (J.V3 I1.ok) hN hi hlo fun s8 J8=>⟨_,_,J8,qq⟩
   | ret u=>obtain ⟨v,σ',H',J,rv,qq⟩:=h7; exact name_goes (J.V3 I1.ok) hN hi hlo fun s8 J8=>⟨_,_,_,J8,rv,qq⟩
  ·have h7':X.xe e' s7:=h7
   rw [hxe] at h7'
   exact h7'.elim
end
theorem FQ {X:Cx} {K:PySem.W.Frag} (hK:X.K=K):Em X (.builtin "isinstance") (fun xs H Q=>∃ x C fs c cv b,xs=[V.ref x,c]/\M6 H x C fs/\MF K C/\ZD c=some cv/\PySem.W.kitOne K (.ref C) cv=some b/\Q (.bl b) H):=by
 rw [← hK]
 exact QB
theorem TJ {X:Cx} {K:PySem.W.Frag} {o e:Expr} {es:List Expr} {to:TE} {t:TA} {name:Str} {apos cpos:Pos} {T id:String} {r:V->List V->Hp->VK->Prop} (hK:X.K=K) (pa:PlainAttrs T) (slot:Slot T name id) (hty:typeOf (.builtin id)=pure (.type "method_descriptor")) (hm:gQ X id r) (ho:PE X o to) (ha:PA X (e::es) t)
  (hbase:attributeBase o name X.env (eval o X.env)=eval o X.env:=by rfl)
  (hfew:((backTo cpos (starEach (e::es) X.env)).all (fun x=>!x.1) && (backToKw cpos (keywordEach [] X.env)).all (fun x=>x.1.isSome)
   && decide ((e::es).length+([]:List Keyword).length+(if ([]:List Keyword).isEmpty then 0 else 1)<30))=true:=by rfl)
  (hline:(apos.endLine == cpos.line)=true:=by rfl) (hs:starEach (e::es) X.env=(false,eval e X.env)::starEach es X.env:=by rfl) (hplain:(backTo cpos (starEach es X.env)).any (·.1)=false:=by rfl) :
  PE X (.Call (.Attribute o name apos) (e::es) [] cpos) (oU K T r to t):=by
 rw [← hK]
 exact El pa slot hty hm ho ha hbase hfew hline hs hplain
end L2
namespace Og
open PySem L2 PyProof.Rows
end Og
namespace Og
open PySem L2 PyProof.Rows
variable {K:PySem.W.Frag}
structure Vj (K:PySem.W.Frag) (aB aP aM:Addr):Prop where
 f:KF K aB aP aM
 pR:∃ a,PySem.W.nsIn K aP "rank" = some (some (.ref a))/\KTup K a (["new","pipes","wind"].map fun s:String=>V.str s)
 pL:∃ a,PySem.W.nsIn K aP "line" = some (some (.ref a))/\KTup K a (["rank","shift","low","high"].map fun s:String=>V.str s)
 bP:∃ a,PySem.W.nsIn K aB "pipes" = some (some (.ref a))/\KTup K a [.int 1,.int 97]
 bW:∃ a,PySem.W.nsIn K aB "wind" = some (some (.ref a))/\KTup K a [.int 0,.int 1000000000]
 bS:∃ a,PySem.W.nsIn K aB "shift" = some (some (.ref a))/\KTup K a [.int (-200),.int 200]
 bLo:∃ a,PySem.W.nsIn K aB "low" = some (some (.ref a))/\KTup K a [.int 0,.int 60]
 bHi:∃ a,PySem.W.nsIn K aB "high" = some (some (.ref a))/\KTup K a [.int 0,.int 60]
 bR:PySem.W.nsIn K aB "rank" = some none
 mR:∃ t,PySem.W.nsIn K aM "rank" = some (some (.int 12 t))
 mL:PySem.W.nsIn K aM "line" = some none
section
variable {aB aP aM:Addr} {ρ:V->R} {vs:List V} {wn:List (Str × Str)} {t:Str}
theorem QW {r:R} (h:Li K aB aP aM ρ vs r) (hb:Er ρ vs):JS K aB aP aM ρ vs r:=⟨h.ns,h.parts,.inr h.room,fun z=>absurd z h.nl,hb⟩
theorem Q0 (F:KF K aB aP aM) {wd:Str} (hw:wd = "stop" \/ wd = "mute") (e:Gw ρ vs=wn) (ht:isNm t) (h:∀ w∈named,Qa wn w t=false) (hc:SQ wn wd<Ky wd) {a:Str} (ha:isNm a) (ha':Qa wn "board" a=true):Li K aB aP aM ρ vs ⟨wd,t,[.str a]⟩:=by
 have parts:∀ (j:Nat) x (y:Str),[V.str t,.str a][j]? = some x->(["new","board"]:List Str)[j]? = some y->Hw K aB ρ vs x y:=fun j x y hx hy=>by
  match j,hx,hy with
  | 0,hx,hy =>
   cases (Option.some.inj hx)
   cases (Option.some.inj hy)
   exact JC F e ht h
  | 1,hx,hy =>
   cases (Option.some.inj hx)
   cases (Option.some.inj hy)
   exact Hq F e ha ha'
  | j+2,hx,hy=>simp at hy
 have hcnt:=Hj ρ vs wd
 rw [e] at hcnt
 rcases hw with rfl | rfl
 ·obtain ⟨ap,g1,g2⟩:=F.pS
  obtain ⟨tk,g5⟩:=F.mS
  have hm:Ky "stop" = 24:=by decide +kernel
  refine ⟨by show ¬ ("stop" : Str) = "step"; decide +kernel,by show ¬ ("stop" : Str) = "line"; decide +kernel,⟨ap,["new","board"],g1,g2,rfl,by decide,parts⟩,⟨24,tk,g5,?_⟩⟩
  show (((vs.filter (pw ρ "stop")).length:Nat):Int)<24
  omega
 ·obtain ⟨ap,g1,g2⟩:=F.pM
  obtain ⟨tk,g5⟩:=F.mM
  have hm:Ky "mute" = 5:=by decide +kernel
  refine ⟨by show ¬ ("mute" : Str) = "step"; decide +kernel,by show ¬ ("mute" : Str) = "line"; decide +kernel,⟨ap,["new","board"],g1,g2,rfl,by decide,parts⟩,⟨5,tk,g5,?_⟩⟩
  show (((vs.filter (pw ρ "mute")).length:Nat):Int)<5
  omega
theorem Q4 (F:Vj K aB aP aM) (e:Gw ρ vs=wn) (ht:isNm t) (h:∀ w∈named,Qa wn w t=false) (hc:SQ wn "rank" < 12) {n:Nat} {wi:Int} (h1:1<=n) (h2:n<=97) (h3:0<=wi) (h4:wi<=1000000000) (hb:Er ρ vs):JS K aB aP aM ρ vs (Ge (t,n,wi)):=by
 obtain ⟨ap,g1,g2⟩:=F.pR
 obtain ⟨ab,g3,g4⟩:=F.bP
 obtain ⟨aw,g6,g7⟩:=F.bW
 obtain ⟨tk,g5⟩:=F.mR
 refine ⟨by show ¬ ("rank" : Str) = "step"; decide +kernel,⟨ap,["new","pipes","wind"],g1,g2,rfl,by decide,fun j x y hx hy=>?_⟩,.inr ⟨12,tk,g5,?_⟩,fun z=>absurd z (by show ¬ ("rank" : Str) = "line"; decide +kernel),hb⟩
 ·match j,hx,hy with
  | 0,hx,hy =>
   cases (Option.some.inj hx)
   cases (Option.some.inj hy)
   exact JC F.f e ht h
  | 1,hx,hy =>
   cases (Option.some.inj hx)
   cases (Option.some.inj hy)
   exact .inl ⟨((n:Nat):Int),1,97,ab,rfl,g3,g4,by omega,by omega⟩
  | 2,hx,hy =>
   cases (Option.some.inj hx)
   cases (Option.some.inj hy)
   exact .inl ⟨_,0,1000000000,aw,rfl,g6,g7,h3,h4⟩
  | j+3,hx,hy=>simp at hy
 ·rw [Hj,e]
  show ((SQ wn "rank" : Nat):Int)<12
  omega
theorem Q6 (F:Vj K aB aP aM) (e:Gw ρ vs=wn) (ht:isNm t) (h:Qa wn "rank" t=true) {sh lo hi:Int} (b1 : -200<=sh) (b2:sh<=200) (b3:0<=lo) (b4:lo<=60) (b5:0<=hi) (b6:hi<=60) (hb:Er ρ vs) (hl:Oo ρ vs ⟨"line",t,[.int sh,.int lo,.int hi]⟩):JS K aB aP aM ρ vs ⟨"line",t,[.int sh,.int lo,.int hi]⟩:=by
 obtain ⟨ap,g1,g2⟩:=F.pL
 obtain ⟨a1,g3,g4⟩:=F.bS
 obtain ⟨a2,g5,g6⟩:=F.bLo
 obtain ⟨a3,g7,g8⟩:=F.bHi
 refine ⟨by show ¬ ("line" : Str) = "step"; decide +kernel,⟨ap,["rank","shift","low","high"],g1,g2,rfl,by decide,fun j x y hx hy=>?_⟩,.inl ⟨rfl,F.mL⟩,fun _=>hl,hb⟩
 match j,hx,hy with
 | 0,hx,hy =>
  cases (Option.some.inj hx)
  cases (Option.some.inj hy)
  exact .inr (.inr ⟨F.bR,by decide +kernel,_,rfl,ht,by rw [Ja,e]; exact h⟩)
 | 1,hx,hy =>
  cases (Option.some.inj hx)
  cases (Option.some.inj hy)
  exact .inl ⟨_,-200,200,a1,rfl,g3,g4,b1,b2⟩
 | 2,hx,hy =>
  cases (Option.some.inj hx)
  cases (Option.some.inj hy)
  exact .inl ⟨_,0,60,a2,rfl,g5,g6,b3,b4⟩
 | 3,hx,hy =>
  cases (Option.some.inj hx)
  cases (Option.some.inj hy)
  exact .inl ⟨_,0,60,a3,rfl,g7,g8,b5,b6⟩
 | j+4,hx,hy=>simp at hy
end
structure pH (K:PySem.W.Frag) (aB aP aM:Addr) (ρ:V->R) (us:List V) (bs:List (Str × Nat)) (rk:List (Str × Nat × Int)) (ks:List R):Prop where
 kinds:∀ v∈us,(ρ v).w = "board" \/ (ρ v).w = "rank" \/ (ρ v).w = "line" \/ (ρ v).w = "stop" \/ (ρ v).w = "coupler" \/ (ρ v).w = "mute"
 eb:(us.filter (pw ρ "board")).map ρ=bs.map GR
 er:(us.filter (pw ρ "rank")).map ρ=rk.map Ge
 ek:(us.filter (fun v=>Ej (ρ v).w)).map ρ=ks
 ln:∀ (i:Nat) v,us[i]? = some v->(ρ v).w = "line"->(∃ (j:Nat) (r:Str × Nat × Int) (sh lo hi:Int),rk[j]? = some r/\r.1=(ρ v).nm/\(ρ v).rest=[.int sh,.int lo,.int hi])/\∃ u∈us.take i,Ej (ρ u).w=true
 ok:∀ (i:Nat) v,us[i]? = some v->JS K aB aP aM ρ (us.take i) (ρ v)
section
variable {aB aP aM:Addr} {ρ:V->R} {us:List V} {v:V} {bs bs':List (Str × Nat)} {rk rk':List (Str × Nat × Int)} {ks ks':List R}
theorem Jq {w t:Str}:VP ρ us w t=true ↔ ∃ v∈us,(ρ v).w=w/\(ρ v).nm=t:=by
 unfold VP
 rw [List.any_eq_true]
 constructor
 ·rintro ⟨v,hv,hn⟩
  obtain ⟨h1,h2⟩:=List.mem_filter.mp hv
  exact ⟨v,h1,V.str.inj (of_decide_eq_true h2),V.str.inj (of_decide_eq_true hn)⟩
 ·rintro ⟨v,hv,h1,h2⟩
  exact ⟨v,List.mem_filter.mpr ⟨hv,decide_eq_true (congrArg V.str h1)⟩,decide_eq_true (congrArg V.str h2)⟩
theorem Jy {w:Str} (h:w = "stop" \/ w = "coupler" \/ w = "mute"):Ej w=true:=by rcases h with rfl | rfl | rfl <;> decide +kernel
theorem J_ {p:V->Bool} (h:p v=true):(us++[v]).filter p=us.filter p++[v]:=by
 rw [List.filter_append,List.filter_cons,if_pos h]
 rfl
theorem Dv {p:V->Bool} (h:p v=false):(us++[v]).filter p=us.filter p:=by
 rw [List.filter_append,List.filter_cons,if_neg (by rw [h]; decide)]
 simp
end
structure qC (K:PySem.W.Frag) (aB aP aM:Addr) (rows:List R) (bs:List (Str × Nat)) (rk:List (Str × Nat × Int)) (ks:List R) (ls:List (List Ln)):Prop where
 ok:∀ (ρ:V->R) (us:List V),us.map ρ=rows->pH K aB aP aM ρ us bs rk ks
 ln0:ks=[]->∀ rk',linesOf rk' rows=[]
 ln:linesOf rk rows=ls
section
variable {aB aP aM:Addr} {rows:List R} {bs:List (Str × Nat)} {rk:List (Str × Nat × Int)} {ks:List R} {ls:List (List Ln)}
theorem IW {ρ:V->R} {us:List V} {r:R} (e:us.map ρ=rows++[r]):∃ us' v,us=us'++[v]/\us'.map ρ=rows/\ρ v=r:=by
 obtain ⟨a,b,rfl,h1,h2⟩:=List.map_eq_append_iff.mp e
 obtain ⟨v,l,rfl,h3,h4⟩:=List.map_eq_cons_iff.mp h2
 rw [List.map_eq_nil_iff.mp h4]
 exact ⟨a,v,rfl,h1,h3⟩
noncomputable def Tl (rows:List R) (bd:Str) (cnt:Nat):Prop:=∃ (r0:List R) (st:R) (lr:List R),rows=r0++st::lr/\st.w = "stop" /\ st.rest=[.str bd]/\lr.length=cnt/\∀ r∈lr,r.w = "line"
theorem Tl.stop (rows:List R) (t bd:Str):Tl (rows++[⟨"stop",t,[.str bd]⟩]) bd 0:=⟨rows,_,[],rfl,rfl,rfl,rfl,fun _ h=>nomatch h⟩
end
end Og
namespace Og
open PySem L2 PyProof.Rows
variable {K:PySem.W.Frag}
structure Hl (K:PySem.W.Frag) (aB aP aM:Addr) (ρ:V->R) (us:List V) (bs:List (Str × Nat)) (rk:List (Str × Nat × Int)) (ks:List R):Prop where
 eb:(us.filter (pw ρ "board")).map ρ=bs.map GR
 er:(us.filter (pw ρ "rank")).map ρ=rk.map Ge
 ek:(us.filter (fun v=>Ej (ρ v).w)).map ρ=ks
 ln:∀ (i:Nat) v,us[i]? = some v->(ρ v).w = "line"->(∃ (j:Nat) (r:Str × Nat × Int) (sh lo hi:Int),rk[j]? = some r/\r.1=(ρ v).nm/\(ρ v).rest=[.int sh,.int lo,.int hi])/\∃ u∈us.take i,Ej (ρ u).w=true
 ok:∀ (i:Nat) v,us[i]? = some v->Gz K aB aP aM ρ (us.take i) (ρ v)
section
variable {aB aP aM:Addr} {ρ:V->R} {us:List V} {v:V} {bs bs':List (Str × Nat)} {rk rk':List (Str × Nat × Int)} {ks ks':List R}
theorem Hl.nil:Hl K aB aP aM ρ [] [] [] []:=⟨rfl,rfl,rfl,(fun i v h=>by simp at h),(fun i v h=>by simp at h)⟩
theorem Hl.XF (h:Hl K aB aP aM ρ us bs rk ks) (hv:v∈us) (hw:(ρ v).w = "board"):∃ b∈bs,GR b=ρ v:=by
 have:ρ v∈(us.filter (pw ρ "board")).map ρ:=List.mem_map_of_mem (List.mem_filter.mpr ⟨hv,decide_eq_true (congrArg V.str hw)⟩)
 rw [h.eb] at this
 exact List.mem_map.mp this
theorem Hl.cV (h:Hl K aB aP aM ρ us bs rk ks) (hv:v∈us) (hw:(ρ v).w = "rank"):∃ b∈rk,Ge b=ρ v:=by
 have:ρ v∈(us.filter (pw ρ "rank")).map ρ:=List.mem_map_of_mem (List.mem_filter.mpr ⟨hv,decide_eq_true (congrArg V.str hw)⟩)
 rw [h.er] at this
 exact List.mem_map.mp this
theorem Hl.S5 (h:Hl K aB aP aM ρ us bs rk ks) (hv:v∈us) (hw:Ej (ρ v).w=true):ρ v∈ks:=by
 have:ρ v∈(us.filter (fun v=>Ej (ρ v).w)).map ρ:=List.mem_map_of_mem (List.mem_filter.mpr ⟨hv,hw⟩)
 rw [h.ek] at this
 exact this
theorem Hl.ZV (h:Hl K aB aP aM ρ us bs rk ks):Er ρ us:=fun v hv hw=>by
 obtain ⟨b,_,e⟩:=h.XF hv hw
 exact ⟨_,by rw [← e]⟩
theorem Hl.W4 (h:Hl K aB aP aM ρ us bs rk ks) {b:Str × Nat} (hb:b∈bs):∃ v∈us,ρ v=GR b:=by
 have:GR b∈(us.filter (pw ρ "board")).map ρ:=by rw [h.eb]; exact List.mem_map_of_mem hb
 obtain ⟨v,hv,e⟩:=List.mem_map.mp this
 exact ⟨v,(List.mem_filter.mp hv).1,e⟩
theorem Hl.dz (h:Hl K aB aP aM ρ us bs rk ks) {r:Str × Nat × Int} (hr:r∈rk):∃ v∈us,ρ v=Ge r:=by
 have:Ge r∈(us.filter (pw ρ "rank")).map ρ:=by rw [h.er]; exact List.mem_map_of_mem hr
 obtain ⟨v,hv,e⟩:=List.mem_map.mp this
 exact ⟨v,(List.mem_filter.mp hv).1,e⟩
theorem Hl.Oz (h:Hl K aB aP aM ρ us bs rk ks) {b:Str × Nat} (hb:b∈bs):Qa (Gw ρ us) "board" b.1=true:=by
 obtain ⟨v,hv,e⟩:=h.W4 hb
 rw [← Ja,Jq]
 exact ⟨v,hv,by rw [e],by rw [e]⟩
theorem Hl.YB (h:Hl K aB aP aM ρ us bs rk ks) {r:Str × Nat × Int} (hr:r∈rk):Qa (Gw ρ us) "rank" r.1=true:=by
 obtain ⟨v,hv,e⟩:=h.dz hr
 rw [← Ja,Jq]
 exact ⟨v,hv,by rw [e],by rw [e]⟩
theorem Hl.fresh (h:Hl K aB aP aM ρ us bs rk ks) {t:Str} (hb:∀ b∈bs,b.1 ≠ t) (hr:∀ r∈rk,r.1 ≠ t) (hk:∀ k∈ks,k.nm ≠ t):∀ w∈named,Qa (Gw ρ us) w t=false:=by
 intro w hw
 rw [← Ja,← Bool.not_eq_true,Jq]
 rintro ⟨v,hv,hw',hn⟩
 simp only [List.mem_cons,List.mem_singleton,List.not_mem_nil,or_false] at hw
 rcases hw with rfl | rfl | rfl | rfl | rfl
 ·obtain ⟨b,hb',e⟩:=h.XF hv hw'
  exact hb b hb' (by rw [← hn,← e])
 ·obtain ⟨b,hb',e⟩:=h.cV hv hw'
  exact hr b hb' (by rw [← hn,← e])
 ·exact hk _ (h.S5 hv (Jy (.inl hw'))) hn
 ·exact hk _ (h.S5 hv (Jy (.inr (.inl hw')))) hn
 ·exact hk _ (h.S5 hv (Jy (.inr (.inr hw')))) hn
theorem Hl.fV (h:Hl K aB aP aM ρ us bs rk ks):SQ (Gw ρ us) "board" = bs.length:=by
 rw [← Hj,← List.length_map (f:=ρ),h.eb,List.length_map]
theorem Hl.fW (h:Hl K aB aP aM ρ us bs rk ks):SQ (Gw ρ us) "rank" = rk.length:=by
 rw [← Hj,← List.length_map (f:=ρ),h.er,List.length_map]
theorem Hl.Wy (h:Hl K aB aP aM ρ us bs rk ks) {w:Str} (hw:w = "stop" \/ w = "coupler" \/ w = "mute"):SQ (Gw ρ us) w=(ks.filter fun r=>decide (V.str r.w=V.str w)).length:=by
 rw [← Hj,← h.ek,List.filter_map,List.length_map,List.filter_filter]
 refine congrArg List.length (List.filter_congr fun v _=>?_)
 show pw ρ w v=(pw ρ w v && Ej (ρ v).w)
 by_cases e:(ρ v).w=w
 ·rw [Jy (by rw [e]; exact hw),Bool.and_true]
 ·have:pw ρ w v=false:=decide_eq_false fun z=>e (V.str.inj z)
  rw [this,Bool.false_and]
theorem Hl.snoc (h:Hl K aB aP aM ρ us bs rk ks)
  (eb:((us++[v]).filter (pw ρ "board")).map ρ=bs'.map GR) (er:((us++[v]).filter (pw ρ "rank")).map ρ=rk'.map Ge) (ek:((us++[v]).filter (fun v=>Ej (ρ v).w)).map ρ=ks')
  (hr:∀ (j:Nat) r,rk[j]? = some r->rk'[j]? = some r)
  (hl:(ρ v).w = "line"->(∃ (j:Nat) (r:Str × Nat × Int) (sh lo hi:Int),rk'[j]? = some r/\r.1=(ρ v).nm/\(ρ v).rest=[.int sh,.int lo,.int hi])/\∃ u∈us,Ej (ρ u).w=true)
  (ok:Gz K aB aP aM ρ us (ρ v)):Hl K aB aP aM ρ (us++[v]) bs' rk' ks':=by
 have at_:∀ {i:Nat} {u:V},(us++[v])[i]? = some u->us[i]? = some u/\(us++[v]).take i=us.take i \/ u=v/\(us++[v]).take i=us:=fun {i u} hi=>by
  by_cases hlt:i<us.length
  ·rw [List.getElem?_append_left hlt] at hi
   exact .inl ⟨hi,List.take_append_of_le_length (Nat.le_of_lt hlt)⟩
  ·have h2:=(List.getElem?_eq_some_iff.mp hi).1
   rw [List.length_append,List.length_singleton] at h2
   have hil:i=us.length:=by omega
   subst hil
   rw [List.getElem?_append_right (Nat.le_refl _),Nat.sub_self] at hi
   exact .inr ⟨(Option.some.inj hi).symm,by rw [List.take_append_of_le_length (Nat.le_refl _),List.take_length]⟩
 refine ⟨eb,er,ek,fun i u hi hw=>?_,fun i u hi=>?_⟩
 ·rcases at_ hi with ⟨h1,h2⟩ | ⟨rfl,h2⟩
  ·rw [h2]
   obtain ⟨⟨j,r,sh,lo,hi',g1,g2,g3⟩,g4⟩:=h.ln i u h1 hw
   exact ⟨⟨j,r,sh,lo,hi',hr j r g1,g2,g3⟩,g4⟩
  ·rw [h2]
   exact hl hw
 ·rcases at_ hi with ⟨h1,h2⟩ | ⟨rfl,h2⟩
  ·rw [h2]
   exact h.ok i u h1
  ·rw [h2]
   exact ok
end
theorem PX {rk:List (Str × Nat × Int)} {x:Str × Nat × Int}:∀ {rows:List R},(∀ r∈rows,r.w = "line"->r.nm∈rk.map (·.1))->linesOf (rk++[x]) rows=linesOf rk rows:=by
 have key:∀ (rows:List R),(∀ r∈rows,r.w = "line"->r.nm∈rk.map (·.1))->∀ acc,rows.foldl (Dl (rk++[x])) acc=rows.foldl (Dl rk) acc:=by
  intro rows
  induction rows with
  | nil=>intro _ _; rfl
  | cons r rs ih =>
   intro h acc
   have e:Dl (rk++[x]) acc r=Dl rk acc r:=by
    unfold Dl
    by_cases h1:Ej r.w=true
    ·rw [if_pos h1,if_pos h1]
    ·rw [if_neg h1,if_neg h1]
     by_cases h2:r.w = "line"
     ·rw [if_pos h2,if_pos h2]
      have hm:=h r (List.mem_cons_self ..) h2
      have:lnOf (rk++[x]) r=lnOf rk r:=by
       unfold lnOf
       rw [List.map_append,List.idxOf_append,if_pos hm]
      rw [this]
     ·rw [if_neg h2,if_neg h2]
   show rs.foldl _ (Dl (rk++[x]) acc r)=rs.foldl _ (Dl rk acc r)
   rw [e]
   exact ih (fun r hr=>h r (List.mem_cons_of_mem _ hr)) _
 exact fun {rows} h=>key rows h []
theorem VH {ks:List R} {k r:R} (h:∀ t∈Mr r,t∈ks.map (·.nm)):stN (ks++[k]) r=stN ks r:=by
 unfold stN
 refine congrArg Wd.mk (List.map_congr_left fun t ht=>?_)
 rw [List.map_append,List.idxOf_append,if_pos (h t ht)]
noncomputable abbrev Tn (r:R):Bool:=decide (V.str r.w=V.str "step")
structure Ha (K:PySem.W.Frag) (aB aP aM:Addr) (rows:List R) (bs:List (Str × Nat)) (rk:List (Str × Nat × Int)) (ks:List R) (ls:List (List Ln)) (sts:List Nat):Prop where
 ok:∀ (ρ:V->R) (us:List V),us.map ρ=rows->Hl K aB aP aM ρ us bs rk ks
 ln:linesOf rk rows=ls
 st:(rows.filter Tn).map (stN ks)=sts
 lm:∀ r∈rows,r.w = "line"->r.nm∈rk.map (·.1)
 sm:∀ r∈rows,r.w = "step"->∃ ts:List Str,V.str r.nm::r.rest=ts.map V.str/\ts.length<=24/\∀ t∈ts,t∈ks.map (·.nm)
section
variable {aB aP aM:Addr} {rows:List R} {bs:List (Str × Nat)} {rk:List (Str × Nat × Int)} {ks:List R} {ls:List (List Ln)} {sts:List Nat}
theorem Ha.nil:Ha K aB aP aM [] [] [] [] [] []:=⟨fun ρ us e=>by rw [List.map_eq_nil_iff.mp e]; exact Hl.nil,rfl,rfl,(fun _ z=>nomatch z),(fun _ z=>nomatch z)⟩
theorem QT {r:R} (h:r.w ≠ "step"):(rows++[r]).filter Tn=rows.filter Tn:=by
 rw [List.filter_append,List.filter_cons,if_neg (by intro z; exact h (V.str.inj (of_decide_eq_true z)))]
 simp
theorem Km {r:R} {Q:R->Prop} (h:∀ r∈rows,Q r) (hr:Q r):∀ x∈rows++[r],Q x:=fun x hx=>by
 rcases List.mem_append.mp hx with z | z
 ·exact h x z
 ·rw [List.mem_singleton.mp z]
  exact hr
theorem Ha.cW (F:Vj K aB aP aM) (h:Ha K aB aP aM rows bs rk ks ls sts) {t:Str} {n:Nat} (ht:isNm t) (hf:∀ b∈bs,b.1 ≠ t) (hr:∀ r∈rk,r.1 ≠ t) (hk:∀ k∈ks,k.nm ≠ t) (hb:bs.length<5) (h1:1<=n) (h2:n<=61):Ha K aB aP aM (rows++[GR (t,n)]) (bs++[(t,n)]) rk ks ls sts:=by
 refine ⟨fun ρ us e=>?_,?_,?_,Km h.lm (fun z=>absurd z (by show ¬ ("board" : Str) = "line"; decide +kernel)),Km h.sm (fun z=>absurd z (by show ¬ ("board" : Str) = "step"; decide +kernel))⟩
 ·obtain ⟨us',v,rfl,e',hv⟩:=IW e
  have O:=h.ok ρ us' e'
  refine O.snoc ?_ ?_ ?_ (fun _ _ h=>h) (fun z=>absurd (hv ▸ z) (by show ¬ ("board" : Str) = "line"; decide +kernel)) ?_
  ·rw [J_ (by unfold pw; rw [hv]; exact decide_eq_true rfl),List.map_append,O.eb,List.map_append,List.map_singleton,hv]
   rfl
  ·rw [Dv (by unfold pw; rw [hv]; show decide (V.str "board" = V.str "rank")=false; decide +kernel),O.er]
  ·rw [Dv (by rw [hv]; show Ej "board" = false; decide +kernel),O.ek]
  ·rw [hv]
   exact .inl (QW (RM F.f rfl ht (O.fresh hf hr hk) (by rw [O.fV]; exact hb) h1 h2) O.ZV)
 ·rw [Ci,h.ln]
  rfl
 ·rw [QT (by show ¬ ("board" : Str) = "step"; decide +kernel)]
  exact h.st
theorem Ha.rank (F:Vj K aB aP aM) (h:Ha K aB aP aM rows bs rk ks ls sts) {t:Str} {n:Nat} {wi:Int} (ht:isNm t) (hf:∀ b∈bs,b.1 ≠ t) (hr:∀ r∈rk,r.1 ≠ t) (hk:∀ k∈ks,k.nm ≠ t) (hc:rk.length<12) (h1:1<=n) (h2:n<=97) (h3:0<=wi) (h4:wi<=1000000000):Ha K aB aP aM (rows++[Ge (t,n,wi)]) bs (rk++[(t,n,wi)]) ks ls sts:=by
 have lm':∀ r∈rows,r.w = "line"->r.nm∈(rk++[(t,n,wi)]).map (·.1):=fun r hr z=>by
  rw [List.map_append]
  exact List.mem_append_left _ (h.lm r hr z)
 refine ⟨fun ρ us e=>?_,?_,?_,Km lm' (fun z=>absurd z (by show ¬ ("rank" : Str) = "line"; decide +kernel)),Km h.sm (fun z=>absurd z (by show ¬ ("rank" : Str) = "step"; decide +kernel))⟩
 ·obtain ⟨us',v,rfl,e',hv⟩:=IW e
  have O:=h.ok ρ us' e'
  refine O.snoc ?_ ?_ ?_ (fun j r h=>by rw [List.getElem?_append_left (List.getElem?_eq_some_iff.mp h).1]; exact h) (fun z=>absurd (hv ▸ z) (by show ¬ ("rank" : Str) = "line"; decide +kernel)) ?_
  ·rw [Dv (by unfold pw; rw [hv]; show decide (V.str "rank" = V.str "board")=false; decide +kernel),O.eb]
  ·rw [J_ (by unfold pw; rw [hv]; exact decide_eq_true rfl),List.map_append,O.er,List.map_append,List.map_singleton,hv]
   rfl
  ·rw [Dv (by rw [hv]; show Ej "rank" = false; decide +kernel),O.ek]
  ·rw [hv]
   exact .inl (Q4 F rfl ht (O.fresh hf hr hk) (by rw [O.fW]; exact hc) h1 h2 h3 h4 O.ZV)
 ·rw [Ci,PX h.lm,h.ln]
  rfl
 ·rw [QT (by show ¬ ("rank" : Str) = "step"; decide +kernel)]
  exact h.st
theorem Ha.XH (h:Ha K aB aP aM rows bs rk ks ls sts) {r:R} (hw:r.w = "stop" \/ r.w = "coupler" \/ r.w = "mute") (hr:∀ (ρ:V->R) (us:List V),us.map ρ=rows->Li K aB aP aM ρ us r):Ha K aB aP aM (rows++[r]) bs rk (ks++[r]) (ls++[[]]) sts:=by
 have hK:=Jy hw
 have sm':∀ r'∈rows,r'.w = "step"->∃ ts:List Str,V.str r'.nm::r'.rest=ts.map V.str/\ts.length<=24/\∀ t∈ts,t∈(ks++[r]).map (·.nm):=fun r' hr' z=>by
  obtain ⟨ts,g1,g2,g3⟩:=h.sm r' hr' z
  exact ⟨ts,g1,g2,fun t ht=>by rw [List.map_append]; exact List.mem_append_left _ (g3 t ht)⟩
 refine ⟨fun ρ us e=>?_,?_,?_,Km h.lm (fun z=>?_),Km sm' (fun z=>?_)⟩
 ·obtain ⟨us',v,rfl,e',hv⟩:=IW e
  have O:=h.ok ρ us' e'
  refine O.snoc ?_ ?_ ?_ (fun _ _ h=>h) (fun z=>?_) ?_
  ·rw [Dv (by unfold pw; rw [hv]; rcases hw with e | e | e <;> rw [e] <;> decide +kernel),O.eb]
  ·rw [Dv (by unfold pw; rw [hv]; rcases hw with e | e | e <;> rw [e] <;> decide +kernel),O.er]
  ·rw [J_ (by rw [hv]; exact hK),List.map_append,O.ek,List.map_singleton,hv]
  ·rw [hv] at z
   rcases hw with e | e | e <;> rw [e] at z <;> exact absurd z (by decide +kernel)
  ·rw [hv]
   exact .inl (QW (hr ρ us' e') O.ZV)
 ·rw [Ci,h.ln]
  unfold Dl
  rw [if_pos hK]
 ·rw [QT (by rcases hw with e | e | e <;> rw [e] <;> decide +kernel),← h.st]
  refine List.map_congr_left fun r' hr'=>VH fun t ht=>?_
  obtain ⟨g1,g2⟩:=List.mem_filter.mp hr'
  obtain ⟨ts,g3,_,g5⟩:=h.sm r' g1 (V.str.inj (of_decide_eq_true g2))
  rw [Fv g3] at ht
  exact g5 t ht
 ·rcases hw with e | e | e <;> rw [e] at z <;> exact absurd z (by decide +kernel)
 ·rcases hw with e | e | e <;> rw [e] at z <;> exact absurd z (by decide +kernel)
theorem Ha.Wi (F:Vj K aB aP aM) (h:Ha K aB aP aM rows bs rk ks ls sts) {t a b:Str} {n m:Nat} {s:Int} (ht:isNm t) (hb:∀ b∈bs,b.1 ≠ t) (hr:∀ r∈rk,r.1 ≠ t) (hk:∀ k∈ks,k.nm ≠ t) (hc:(ks.filter fun r=>decide (V.str r.w=V.str "coupler")).length<12) (ha:isNm a) (ha':(a,n)∈bs) (hb1:isNm b) (hb':(b,m)∈bs) (h1 : -60<=s) (h2:s<=60) :
  Ha K aB aP aM (rows++[⟨"coupler",t,[.str a,.str b,.int s]⟩]) bs rk (ks++[⟨"coupler",t,[.str a,.str b,.int s]⟩]) (ls++[[]]) sts :=
 h.XH (.inr (.inl rfl)) fun ρ us e=>by
  have O:=h.ok ρ us e
  exact Oa F.f rfl ht (O.fresh hb hr hk) (by rw [O.Wy (.inr (.inl rfl))]; exact hc) ha (O.Oz ha') hb1 (O.Oz hb') h1 h2
theorem Ha.plain (F:Vj K aB aP aM) (h:Ha K aB aP aM rows bs rk ks ls sts) {wd t a:Str} {n:Nat} (hw:wd = "stop" \/ wd = "mute") (ht:isNm t) (hb:∀ b∈bs,b.1 ≠ t) (hr:∀ r∈rk,r.1 ≠ t) (hk:∀ k∈ks,k.nm ≠ t) (hc:(ks.filter fun r=>decide (V.str r.w=V.str wd)).length<Ky wd) (ha:isNm a) (ha':(a,n)∈bs) :
  Ha K aB aP aM (rows++[⟨wd,t,[.str a]⟩]) bs rk (ks++[⟨wd,t,[.str a]⟩]) (ls++[[]]) sts:=by
 have hw3:wd = "stop" \/ wd = "coupler" \/ wd = "mute":=by rcases hw with e | e; exact .inl e; exact .inr (.inr e)
 exact h.XH hw3 fun ρ us e=>by
  have O:=h.ok ρ us e
  exact Q0 F.f hw rfl ht (O.fresh hb hr hk) (by rw [O.Wy hw3]; exact hc) ha (O.Oz ha')
theorem Ha.line (F:Vj K aB aP aM) {l0:List Ln} (h:Ha K aB aP aM rows bs rk ks (ls++[l0]) sts) {bd:Str} {cnt:Nat} (T:Tl rows bd cnt) (hc:cnt<4) {j n m:Nat} {t:Str} {wi sh lo hi:Int} (hj:rk[j]? = some (t,m,wi)) (hnd:(rk.map (·.1)).Nodup) (ht:isNm t) (hbd:(bd,n)∈bs) (hle:lo<=hi) (hn:hi<(n:Int)) (b1 : -200<=sh) (b2:sh<=200) (b3:0<=lo) (b6:hi<=60) :
  Ha K aB aP aM (rows++[⟨"line",t,[.int sh,.int lo,.int hi]⟩]) bs rk ks (ls++[l0++[⟨j,sh,lo,hi⟩]]) sts:=by
 obtain ⟨r0,st,lr,er,g1,g2,g3,g4⟩:=T
 have nK:Ej "line" = false:=by decide +kernel
 refine ⟨fun ρ us e=>?_,?_,?_,Km h.lm (fun _=>List.mem_map.mpr ⟨_,List.mem_of_getElem? hj,rfl⟩),Km h.sm (fun z=>absurd z (by show ¬ ("line" : Str) = "step"; decide +kernel))⟩
 ·obtain ⟨us',v,rfl,e',hv⟩:=IW e
  have O:=h.ok ρ us' e'
  obtain ⟨u0,u1,eu,m1,m2⟩:=List.map_eq_append_iff.mp (e'.trans er)
  obtain ⟨sv,lv,e1,m3,m4⟩:=List.map_eq_cons_iff.mp m2
  subst e1
  have hsv:sv∈us':=by rw [eu]; simp
  have hlv:lv.length=cnt:=by rw [← g3,← m4,List.length_map]
  have hus:us'.length=u0.length+(cnt+1):=by rw [eu,List.length_append,List.length_cons,hlv]
  refine O.snoc ?_ ?_ ?_ (fun _ _ h=>h) (fun _=>⟨⟨j,_,sh,lo,hi,hj,by rw [hv],by rw [hv]⟩,sv,hsv,by rw [m3,g1]; decide +kernel⟩) ?_
  ·rw [Dv (by unfold pw; rw [hv]; show decide (V.str "line" = V.str "board")=false; decide +kernel),O.eb]
  ·rw [Dv (by unfold pw; rw [hv]; show decide (V.str "line" = V.str "rank")=false; decide +kernel),O.er]
  ·rw [Dv (by rw [hv]; exact nK),O.ek]
  ·rw [hv]
   have hst:us'[us'.length - 1 - cnt]? = some sv:=by
    have:us'.length - 1 - cnt=u0.length:=by omega
    rw [this,eu,List.getElem?_append_right (Nat.le_refl _),Nat.sub_self]
    rfl
   refine .inl ?_
   refine Q6 F rfl ht (O.YB (List.mem_of_getElem? hj)) b1 b2 b3 (by omega) (by omega) b6 O.ZV ⟨cnt,sv,sh,lo,hi,bd,[],rfl,⟨fun i hi'=>?_,by omega,sv,hst,by rw [m3,g1]; decide +kernel⟩,hc,hst,by rw [m3,g1],by rw [m3,g2],hle,?_⟩
   ·have hi2:cnt - 1 - i<lv.length:=by omega
    refine ⟨lv[cnt - 1 - i],?_,?_⟩
    ·have:us'.length - 1 - i=u0.length+((cnt - 1 - i)+1):=by omega
     rw [this,eu,List.getElem?_append_right (Nat.le_add_right _ _),Nat.add_sub_cancel_left,List.getElem?_cons_succ]
     exact List.getElem?_eq_getElem hi2
    ·refine g4 _ ?_
     rw [← m4]
     exact List.mem_map_of_mem (List.getElem_mem hi2)
   ·obtain ⟨u,hu,hub⟩:=O.W4 hbd
    rw [List.any_eq_true]
    refine ⟨u,List.mem_filter.mpr ⟨hu,?_⟩,?_⟩
    ·unfold pw
     rw [hub]
     exact decide_eq_true rfl
    ·show (pn ρ bd u && decide (hi<Xl (ρ u)))=true
     unfold pn
     rw [hub,Bool.and_eq_true]
     exact ⟨decide_eq_true rfl,decide_eq_true hn⟩
 ·rw [Ci,h.ln]
  unfold Dl
  rw [if_neg (by show ¬ Ej "line" = true; rw [nK]; decide),if_pos rfl,HJ]
  have hjl:=(List.getElem?_eq_some_iff.mp hj).1
  have:(rk.map (·.1)).idxOf t=j:=by
   have hl:j<(rk.map (·.1)).length:=by rw [List.length_map]; exact hjl
   have e2:(rk.map (·.1))[j]=t:=by
    rw [List.getElem_map]
    have:=(List.getElem?_eq_some_iff.mp hj).2
    rw [this]
   rw [← e2]
   exact hnd.idxOf_getElem j hl
  show ls++[l0++[⟨(rk.map (·.1)).idxOf t,sh,lo,hi⟩]]=_
  rw [this]
 ·rw [QT (by show ¬ ("line" : Str) = "step"; decide +kernel)]
  exact h.st
theorem Ha.step (h:Ha K aB aP aM rows bs rk ks ls sts) (hM:∃ t,PySem.W.nsIn K aM "step" = some (some (.int 12 t))) {t0:Str} {ts:List Str} (nd:(t0::ts).Nodup) (h24:(t0::ts).length<=24) (hts:∀ t∈t0::ts,isNm t/\∃ k∈ks,k.w = "stop" /\ k.nm=t) (hc:sts.length<12):Ha K aB aP aM (rows++[⟨"step",t0,ts.map V.str⟩]) bs rk ks ls (sts++[Wd.mk ((t0::ts).map fun t=>(ks.map (·.nm)).idxOf t)]):=by
 have e0:V.str t0::ts.map V.str=(t0::ts).map V.str:=rfl
 have hin:∀ t∈t0::ts,t∈ks.map (·.nm):=fun t ht=>by
  obtain ⟨_,k,hk,_,rfl⟩:=hts t ht
  exact List.mem_map_of_mem hk
 refine ⟨fun ρ us e=>?_,?_,?_,Km h.lm (fun z=>absurd z (by show ¬ ("step" : Str) = "line"; decide +kernel)),Km h.sm (fun _=>⟨t0::ts,e0,h24,hin⟩)⟩
 ·obtain ⟨us',v,rfl,e',hv⟩:=IW e
  have O:=h.ok ρ us' e'
  refine O.snoc ?_ ?_ ?_ (fun _ _ h=>h) (fun z=>absurd (hv ▸ z) (by show ¬ ("step" : Str) = "line"; decide +kernel)) ?_
  ·rw [Dv (by unfold pw; rw [hv]; show decide (V.str "step" = V.str "board")=false; decide +kernel),O.eb]
  ·rw [Dv (by unfold pw; rw [hv]; show decide (V.str "step" = V.str "rank")=false; decide +kernel),O.er]
  ·rw [Dv (by rw [hv]; show Ej "step" = false; decide +kernel),O.ek]
  ·rw [hv]
   obtain ⟨tk,hM⟩:=hM
   refine .inr ⟨rfl,⟨t0::ts,e0,nd,h24,fun t ht=>?_⟩,12,tk,hM,?_⟩
   ·obtain ⟨g1,k,g2,g3,g4⟩:=hts t ht
    refine ⟨g1,Jq.mpr ?_⟩
    rw [← O.ek] at g2
    obtain ⟨u,g5,rfl⟩:=List.mem_map.mp g2
    exact ⟨u,(List.mem_filter.mp g5).1,g3,g4⟩
   ·have:(us'.filter (pw ρ "step")).length=sts.length:=by
     rw [← h.st,List.length_map,← e',List.filter_map,List.length_map]
     rfl
    show (((us'.filter (pw ρ "step")).length:Nat):Int)<12
    omega
 ·rw [Ci,h.ln]
  rfl
 ·rw [List.filter_append,List.map_append,h.st]
  have e1:([(⟨"step",t0,ts.map V.str⟩:R)]).filter Tn=[⟨"step",t0,ts.map V.str⟩]:=rfl
  rw [e1]
  show sts++[stN ks _]=_
  unfold stN
  rw [Fv (r:=⟨"step",t0,ts.map V.str⟩) e0]
theorem Ha.fin {H:Hp} {vs:List V} (h:Ha K aB aP aM rows bs rk ks ls sts) (hv:Paired (fun (r:R) v=>TupAt H r.v v) rows vs) (b0:1<=bs.length) (b5:bs.length<=5) (sz:∀ b∈bs,b.2<=61) (nr:rk.length<=12) (nz:∀ r∈rk,r.2.1<=97) (nk:ks.length<=100) (nb:(bs.map (·.1)).Nodup) (nrr:(rk.map (·.1)).Nodup) (nn:(ks.map (·.nm)).Nodup) (len:rows.length<=150) :
  Rows H (Gf H) vs/\jz K aB aP aM (Gf H) vs bs rk ks/\linesOf rk (vs.map (Gf H))=ls/\((vs.filter (pw (Gf H) "step")).map fun v=>stN ks (Gf H v))=sts:=by
 have em:=Js hv
 have O:=h.ok (Gf H) vs em
 have hR:Rows H (Gf H) vs:=fun v hv'=>by
  obtain ⟨r,_,hr⟩:=CZ hv hv'
  rw [Hv hr]
  exact hr
 refine ⟨hR,⟨O.eb,O.er,O.ek,O.ln,fun v hv' hw=>?_,b0,b5,sz,nr,nz,nk,nb,nrr,nn,by rw [← hv.length]; exact len,O.ok⟩,by rw [em]; exact h.ln,?_⟩
 ·refine h.sm (Gf H v) ?_ hw
  rw [← em]
  exact List.mem_map_of_mem hv'
 ·rw [← h.st,← em,List.filter_map,List.map_map]
  rfl
end
end Og
namespace Og
open PySem L2 PyProof.Rows
noncomputable def pD (b:Str):Prop:=b.length<=6/\∀ c∈b.cps.toList,97<=c/\c<=122
theorem len_app (a b:Str):(a++b).length=a.length+b.length:=by
 show (a.cps++b.cps).size=a.cps.size+b.cps.size
 simp
noncomputable def ZS (n:Nat):Str:=⟨#[97+n]⟩
noncomputable def kO (b:Str) (k:Nat):Str:=if 26<=k then b++ZS (k % 26)++ZS (k / 26 * 5 % 26) else b++ZS (k % 26)
end Og
namespace Og
open PySem L2
structure oA where
 p:Addr
 r:Addr
 b:Addr
 k:Addr
 n:Addr
 d:Addr
 s:Addr
inductive Dt where
 | stop (b:Nat) (L:Addr)
 | coup (a b:Nat) (s:Int)
 | mute (b:Nat)
noncomputable def Dt.L:Dt->List Addr
 | .stop _ L=>[L]
 | _=>[]
structure Pl where
 rows:List R
 bs:List (Str × Nat)
 rk:List (Str × Nat × Int)
 ks:List R
 ls:List (List Ln)
 ds:List Dt
 ch:List (List Nat)
noncomputable abbrev Pl.Ls (S:Pl):List Addr:=S.ds.flatMap Dt.L
noncomputable def lA (H:Hp) (L:Addr) (l:List Ln):Prop:=∃ ts,H L=some (.lst ts)/\Paired (fun (y:Ln) z=>TupAt H (oZ y) z) l ts
noncomputable def iU (H:Hp) (x:Dt × List Ln) (v:V):Prop:=match x.1 with
 | .stop b L=>TupAt H [.int (b:Nat),.ref L] v/\lA H L x.2
 | .coup a b s=>TupAt H [.int (a:Nat),.int (b:Nat),.int s] v
 | .mute b=>v=.int (b:Nat)
noncomputable abbrev o9 (r:Str × Nat × Int):List V:=[.str r.1,.int (r.2.1:Nat),.int r.2.2]
noncomputable abbrev pq (r:R):List V:=[.str r.w,.str r.nm]
structure pW (H0 H:Hp) (A:oA) (S:Pl) (Cs:List Addr) (lo:V):Prop where
 dp:∃ kvs:List (Key × V),H A.p=some (.dK kvs)/\kvs.length<=7/\CV kvs (Sum.inr "rows")=some (.ref A.r)/\CV kvs (Sum.inr "boards")=some (.ref A.b)/\CV kvs (Sum.inr "ranks")=some (.ref A.k)/\CV kvs (Sum.inr "knobs")=some (.ref A.n)/\CV kvs (Sum.inr "details")=some (.ref A.d)/\CV kvs (Sum.inr "steps")=some (.ref A.s)/\CV kvs (Sum.inr "lines")=some lo
 nd:(A.r::A.b::A.k::A.n::A.d::A.s::(S.Ls++Cs)).Nodup
 sm:Ak H0 H
 f0:H0 A.p=none
 fr:∀ a∈A.r::A.b::A.k::A.n::A.d::A.s::S.Ls,H0 a=none
 r:∃ vs,H A.r=some (.lst vs)/\Paired (fun (r:R) v=>TupAt H r.v v) S.rows vs
 b:∃ vs,H A.b=some (.lst vs)/\Paired (fun b v=>TupAt H (bV b) v) S.bs vs
 k:∃ vs,H A.k=some (.lst vs)/\Paired (fun r v=>TupAt H (o9 r) v) S.rk vs
 n:∃ vs,H A.n=some (.lst vs)/\Paired (fun (r:R) v=>TupAt H (pq r) v) S.ks vs
 d:∃ vs,H A.d=some (.lst vs)/\S.ds.length=S.ls.length/\Paired (iU H) (S.ds.zip S.ls) vs
 s:H A.s=some (.lst (Cs.map V.ref))
 c:Paired (fun C (l:List Nat)=>H C=some (.lst (l.map fun n:Nat=>V.int (n:Int)))) Cs S.ch
section
variable {H0 H H':Hp} {A:oA} {S:Pl} {Cs:List Addr} {lo:V}
end
end Og
namespace Og
open PySem L2
variable {K:PySem.W.Frag} {aB aP aM:Addr}
noncomputable def jZ (bs:List (Str × Nat)) (r:R):Dt->Prop
 | .stop b _=>r.w = "stop" /\ ∃ x,bs[b]? = some x/\r.rest=[.str x.1]
 | .coup a b s=>r.w = "coupler" /\ ∃ x y,bs[a]? = some x/\bs[b]? = some y/\r.rest=[.str x.1,.str y.1,.int s]
 | .mute b=>r.w = "mute" /\ ∃ x,bs[b]? = some x/\r.rest=[.str x.1]
structure pO (K:PySem.W.Frag) (aB aP aM:Addr) (base:Str) (S:Pl) (lo:V):Prop where
 bl:Ha K aB aP aM S.rows S.bs S.rk S.ks S.ls (S.ch.map Wd.mk)
 nb:∀ x∈S.bs,∃ i,i<S.rows.length/\x.1=kO base i
 nr:∀ x∈S.rk,∃ i,i<S.rows.length/\x.1=kO base i
 nk:∀ x∈S.ks,∃ i,i<S.rows.length/\x.nm=kO base i
 db:(S.bs.map (·.1)).Nodup
 dr:(S.rk.map (·.1)).Nodup
 dk:(S.ks.map (·.nm)).Nodup
 b5:S.bs.length<=5
 sb:∀ x∈S.bs,1<=x.2/\x.2<=61
 r12:S.rk.length<=12
 sr:∀ x∈S.rk,1<=x.2.1/\x.2.1<=97
 lk:S.ks.length<=S.rows.length
 pd:Paired (jZ S.bs) S.ks S.ds
 ch:∀ l∈S.ch,l.Nodup/\∀ i∈l,∃ k,S.ks[i]? = some k/\k.w = "stop"
 op:lo=.non \/ ∃ ds0 b L x ls0 l0,S.ds=ds0++[.stop b L]/\S.ls=ls0++[l0]/\lo=.ref L/\S.bs[b]? = some x/\Tl S.rows x.1 l0.length
section
variable {base:Str} {S:Pl} {lo:V}
noncomputable def gr (ks:List R) (i:Nat):Str:=((ks[i]?).map (·.nm)).getD ""
noncomputable abbrev pX (a1 a2 a3 a4 a5 a6:Addr):List (Key × V):=[(Sum.inr "rows",.ref a1),(Sum.inr "boards",.ref a2),(Sum.inr "ranks",.ref a3),(Sum.inr "knobs",.ref a4),(Sum.inr "details",.ref a5),(Sum.inr "steps",.ref a6),(Sum.inr "lines",.non)]
end
end Og
namespace Og
open PySem L2
noncomputable def o6 (x:V):Prop:=(∃ t,x=.str t) \/ ∃ i,x=.int i
noncomputable def pI (H:Hp) (vs:List V):Prop:=∀ v∈vs,∃ (T:Addr) (xs:List V),v=.ref T/\H T=some (.tup xs)/\∀ x∈xs,o6 x
variable {K:PySem.W.Frag} {aB aP aM:Addr}
noncomputable def Yj (rows:List R):V->R
 | .int i=>(rows[i.toNat]?).getD ⟨"","",[]⟩
 | _=>⟨"","",[]⟩
end Og
namespace L2
open PySem PySem.Spec PyProof.Rows
section
variable {X:Cx}
theorem U4:gQ X "list.index" (fun x xs H Q=>∃ l ys y j,x=V.ref l/\xs=[y]/\DQ X.K H l ys/\Es y=true/\ys.all Es=true/\j<ys.length/\Mg (ys.getD j .non) y=true/\(∀ m,m<j->Mg (ys.getD m .non) y=false)/\Q (.int (j:Nat)) H):=by
 intro pins s σ H x xs v us Q I rx r h
 obtain ⟨l,ys,y,j,rfl,rfl,hS,fy,fs,hj,hit,hno,q⟩:=h
 obtain ⟨u,rfl,ru⟩:=vals1 r
 cases rx
 obtain ⟨its,rv,pl,hz⟩:=I.list hS
 obtain ⟨⟨cls,dd,data,sl⟩,ho,hc,n,hd⟩:=id pl.isList
 simp only at hc hd
 subst hc hd
 have hlen:=rv.length
 have hb:ys.length<=sizeLine:=hz
 have hline:=Gu
 refine call_meets PySem.F.slot_list_index ⟨_,ho,rfl⟩ PySem.F.entry_list_index (PySem.F.args_list_index_2 _ _)
  (SeqAt.list_indexAt l its.toArray n dd sl u (R_ y) j (by simpa [← hlen] using hj) (by omega) ?_ ?_) ⟨ho,fun z hz=>Hz ru fy rv fs z (by simpa using hz),⟨.int (j:Nat),H,I.tok _,⟨_,rfl⟩,q⟩⟩
 ·have h1:j<its.length:=by omega
  show R_ y its[j]=true
  rw [Mq (S8 rv h1) (Qf fs hj)]
  exact hit
 ·intro m hm hlt
  have h1:m<its.length:=by simpa using hm
  show R_ y its[m]=false
  rw [Mq (S8 rv h1) (Qf fs (by omega))]
  exact hno m hlt
end
end L2
namespace L2
open PySem PySem.Spec PySem.Calls PySem.Builtin PySem.Builtin.Str PyProof.Rows
section
variable {X:Cx}
end
end L2
namespace Og
open PySem L2
noncomputable def Tx (t:Str):Prop:=t.length<=1000/\∀ c∈t.cps.toList,c<128
theorem isNm.tx {t:Str} (h:isNm t):Tx t:=⟨by have:=h.2.1; omega,fun c hc=>by have:=h.2.2 c hc; omega⟩
inductive E_ (H:Hp):V->Prop where
 | non:E_ H .non
 | bl (b:Bool):E_ H (.bl b)
 | int (i:Int):E_ H (.int i)
 | lst {a:Addr} {xs:List V} (h:H a=some (.lst xs)):E_ H (.ref a)
 | tup {a:Addr} {xs:List V} (h:H a=some (.tup xs)):E_ H (.ref a)
 | str {t:Str} (h:Tx t):E_ H (.str t)
noncomputable def Gh (ns:List Str):V->V
 | .str t=>if t∈ns then .int ((ns.idxOf t:Nat):Int) else .non
 | _=>.non
theorem GQ {ns:List Str} {t:Str} (h:t∈ns):ns[ns.idxOf t]? = some t:=by
 have hl:=List.idxOf_lt_length_of_mem h
 rw [List.getElem?_eq_getElem hl,List.getElem_idxOf hl]
theorem Jt (a b:Str):Mg (.str a) (.str b)=decide (a=b):=by
 show (a == b)=_
 rw [Bool.eq_iff_iff,beq_iff_eq,decide_eq_true_eq]
theorem Oj {t:Str}:∀ {ns:List Str} {m:Nat},m<ns.idxOf t->∀ z,ns[m]? = some z->z ≠ t
 | [],m,h,z,hz=>by simp at hz
 | a::ns,m,h,z,hz=>by
  rw [List.idxOf_cons] at h
  by_cases e:a=t
  ·rw [e,beq_self_eq_true] at h
   exact absurd h (Nat.not_lt_zero _)
  ·rw [show (a == t)=false from beq_eq_false_iff_ne.mpr e] at h
   cases m with
   | zero =>
    simp at hz
    rw [← hz]
    exact e
   | succ m =>
    rw [List.getElem?_cons_succ] at hz
    exact Oj (Nat.lt_of_succ_lt_succ h) z hz
end Og
namespace Og
open PySem L2
noncomputable def TY (K:PySem.W.Frag) (C:Addr):Bool:=(PySem.W.findIn K (.ref C) "__getattribute__" == some (some (.builtin "BaseException.__getattribute__"))) && (PySem.W.findIn K (.ref C) "__getattr__" == some none) &&
 (PySem.W.mroIn K C (.type "BaseException") == some true) && PySem.W.hasDictIn K C && (PySem.W.findIn K (.ref C) "__class__" == some (some (.builtin "object.__class__"))) &&
 (PySem.W.specialIn K (.builtin "object.__class__") "__get__" == some (some (.builtin "getset_descriptor.__get__"))) && (PySem.W.takesIn K (.builtin "object.__class__") == some true) && (PySem.W.mroIn K C (.type "object") == some true) && PySem.W.keepIn K (.ref C)
theorem N8 {K:PySem.W.Frag} {C:Addr} (h:TY K C=true):MF K C/\PySem.W.keepIn K (.ref C)=true:=by
 simp only [TY,Bool.and_eq_true,beq_iff_eq] at h
 obtain ⟨⟨⟨⟨⟨⟨⟨⟨h1,h2⟩,h3⟩,h4⟩,h5⟩,h6⟩,h7⟩,h8⟩,h9⟩:=h
 exact ⟨⟨h1,h2,h3,h4,h5,h6,h7,h8⟩,h9⟩
noncomputable def LK (K:PySem.W.Frag) (C cO:Addr) (ds:List Addr):Bool :=
 TY K C && (PySem.W.kitOne K (.ref C) (.ref C) == some true) && (PySem.W.kitOne K (.ref C) (.type "ValueError") == some true) && (PySem.W.kitAny K (.ref C) (ds.map Value.ref) == some false) && (ds.all fun D=>PySem.W.kitOne K (.ref C) (.ref D) == some false) &&
 PySem.W.excIn K C V2 "ValueError.__new__" && (PySem.W.mroIn K C (.ref cO) == some true)
structure Rc (K:PySem.W.Frag) (C cO:Addr) (ds:List Addr):Prop where
 xc:MF K C
 kp:PySem.W.keepIn K (.ref C)=true
 k0:PySem.W.kitOne K (.ref C) (.ref C)=some true
 kv:PySem.W.kitOne K (.ref C) (.type "ValueError")=some true
 ka:PySem.W.kitAny K (.ref C) (ds.map Value.ref)=some false
 kf:∀ D∈ds,PySem.W.kitOne K (.ref C) (.ref D)=some false
 ex:PySem.W.excIn K C V2 "ValueError.__new__" = true
 mro:PySem.W.mroIn K C (.ref cO)=some true
theorem Rc.of {K:PySem.W.Frag} {C cO:Addr} {ds:List Addr} (h:LK K C cO ds=true):Rc K C cO ds:=by
 unfold LK at h
 simp only [Bool.and_eq_true,beq_iff_eq,List.all_eq_true] at h
 obtain ⟨⟨⟨⟨⟨⟨a1,a2⟩,a3⟩,a4⟩,a5⟩,a6⟩,a7⟩:=h
 exact ⟨(N8 a1).1,(N8 a1).2,a2,a3,a4,a5,a6,a7⟩
structure pY (K:PySem.W.Frag) (mg:Str->Option Value) (cK cP cB cS cO:Addr):Prop where
 verr:mg "ValueError" = none
 mK:mg "NoKnob" = some (.ref cK)
 mP:mg "NoPiston" = some (.ref cP)
 mB:mg "NoBoard" = some (.ref cB)
 mS:mg "NoStep" = some (.ref cS)
 mO:mg "OrganError" = some (.ref cO)
 exO:PySem.W.excIn K cO V2 "ValueError.__new__" = true
 rK:Rc K cK cO [cB,cP,cS]
 rP:Rc K cP cO [cB,cK,cS]
 rB:Rc K cB cO [cK,cP,cS]
 rS:Rc K cS cO [cB,cK,cP]
noncomputable abbrev KR:List Str:=["__init__","draw","pull","push","store","press","cancel","shoe","drawn","knobs","step"]
structure Df (Cy:Addr) (H:Hp) (y x:Addr) (dr sh:Nat) (sd:Addr):Prop where
 ex:∃ dy fs,H y=some (.ins Cy dy fs)/\fs.lookup ("organ" : Str)=some (.ref x)/\fs.lookup ("drawn_set" : Str)=some (.int (dr:Nat))/\fs.lookup ("shoe_step" : Str)=some (.int (sh:Nat))/\fs.lookup ("stored" : Str)=some (.ref sd)/\fs.length<=4/\∀ m∈KR,fs.lookup m=none
theorem Df.mono {Cy:Addr} {H H':Hp} {y x:Addr} {dr sh:Nat} {sd:Addr} (s:Ak H H') (h:Df Cy H y x dr sh sd):Df Cy H' y x dr sh sd:=by
 obtain ⟨dy,fs,h1,h2⟩:=h.ex
 exact ⟨dy,fs,s _ _ h1,h2⟩
structure ZR (C Cy:Addr) (Ho H:Hp) (y x:Addr) (us:List V) (bs:List (Str × Nat)) (rk:List (Str × Nat × Int)) (ks:List R) (ls:List (List Ln)) (sts:List Nat) (dr sh:Nat) (sd:Addr):Prop where
 o:Jb C Ho x us bs rk ks ls sts
 s:Ak Ho H
 n:Ho y=none
 c:Df Cy H y x dr sh sd
theorem ZR.mono {C Cy:Addr} {Ho H H':Hp} {y x:Addr} {us:List V} {bs:List (Str × Nat)} {rk:List (Str × Nat × Int)} {ks:List R} {ls:List (List Ln)} {sts:List Nat} {dr sh:Nat} {sd:Addr} (s:Ak H H') (h:ZR C Cy Ho H y x us bs rk ks ls sts dr sh sd):ZR C Cy Ho H' y x us bs rk ks ls sts dr sh sd :=
 ⟨h.o,h.s.trans s,h.n,h.c.mono s⟩
theorem KQ {f:Str} {v u:V}:∀ {fs:List (Str × V)},fs.lookup f=some u->(BV f v fs).length=fs.length
 | [],h=>by cases h
 | (g,x)::r,h=>by
  unfold BV
  by_cases e:g=f
  ·rw [if_pos e]
   rfl
  ·rw [if_neg e]
   rw [List.lookup_cons,show (f == g)=false from beq_eq_false_iff_ne.mpr (Ne.symm e)] at h
   rw [List.length_cons,List.length_cons,KQ h]
theorem FP (f:Str) (v:V):∀ fs:List (Str × V),(BV f v fs).length<=fs.length+1
 | []=>Nat.le_refl _
 | (g,x)::r=>by
  unfold BV
  split
  ·exact Nat.le_succ _
  ·exact Nat.succ_le_succ (FP f v r)
theorem Df.new {Cy:Addr} {H:Hp} {y dy x sd:Addr} (h:H y=some (.ins Cy dy (BV "stored" (.ref sd) (BV "shoe_step" (.int 0) (BV "drawn_set" (.int 0) (BV "organ" (.ref x) [])))))):Df Cy H y x 0 0 sd:=by
 refine ⟨dy,_,h,?_,?_,?_,?_,?_,fun m hm=>?_⟩
 ·rw [Ag,if_neg (by decide +kernel),Ag,if_neg (by decide +kernel),Ag,if_neg (by decide +kernel),Ag,if_pos rfl]
 ·rw [Ag,if_neg (by decide +kernel),Ag,if_neg (by decide +kernel),Ag,if_pos rfl]
  rfl
 ·rw [Ag,if_neg (by decide +kernel),Ag,if_pos rfl]
  rfl
 ·rw [Ag,if_pos rfl]
 ·have h1:=FP "stored" (.ref sd) (BV "shoe_step" (.int 0) (BV "drawn_set" (.int 0) (BV "organ" (.ref x) [])))
  have h2:=FP "shoe_step" (.int 0) (BV "drawn_set" (.int 0) (BV "organ" (.ref x) []))
  have h3:=FP "drawn_set" (.int 0) (BV "organ" (.ref x) [])
  have h4:=FP "organ" (.ref x) []
  have h5:([]:List (Str × V)).length=0:=rfl
  omega
 ·have ne:∀ f:Str,f ∉ KR->¬ m=f:=fun f hf e=>hf (e ▸ hm)
  rw [Ag,if_neg (ne _ (by decide +kernel)),Ag,if_neg (ne _ (by decide +kernel)),Ag,if_neg (ne _ (by decide +kernel)),Ag,if_neg (ne _ (by decide +kernel))]
  rfl
theorem Df.putD {Cy:Addr} {H:Hp} {y dy x sd:Addr} {dr sh:Nat} {fs:List (Str × V)} (n:Nat) (l1:fs.lookup ("organ" : Str)=some (.ref x)) (l2:fs.lookup ("drawn_set" : Str)=some (.int (dr:Nat))) (l3:fs.lookup ("shoe_step" : Str)=some (.int (sh:Nat))) (l4:fs.lookup ("stored" : Str)=some (.ref sd)) (l5:fs.length<=4) (lm:∀ m∈KR,fs.lookup m=none) (h:H y=some (.ins Cy dy (BV "drawn_set" (.int (n:Nat)) fs))):Df Cy H y x n sh sd:=by
 refine ⟨dy,_,h,?_,?_,?_,?_,by rw [KQ l2]; exact l5,fun m hm=>?_⟩
 ·rw [Ag,if_neg (by decide +kernel)]
  exact l1
 ·rw [Ag,if_pos rfl]
 ·rw [Ag,if_neg (by decide +kernel)]
  exact l3
 ·rw [Ag,if_neg (by decide +kernel)]
  exact l4
 ·rw [Ag,if_neg fun e=>absurd hm (by rw [e]; decide +kernel)]
  exact lm m hm
theorem Df.bF {Cy:Addr} {H:Hp} {y dy x sd:Addr} {dr sh:Nat} {fs:List (Str × V)} (n:Nat) (l1:fs.lookup ("organ" : Str)=some (.ref x)) (l2:fs.lookup ("drawn_set" : Str)=some (.int (dr:Nat))) (l3:fs.lookup ("shoe_step" : Str)=some (.int (sh:Nat))) (l4:fs.lookup ("stored" : Str)=some (.ref sd)) (l5:fs.length<=4) (lm:∀ m∈KR,fs.lookup m=none) (h:H y=some (.ins Cy dy (BV "shoe_step" (.int (n:Nat)) fs))):Df Cy H y x dr n sd:=by
 refine ⟨dy,_,h,?_,?_,?_,?_,by rw [KQ l3]; exact l5,fun m hm=>?_⟩
 ·rw [Ag,if_neg (by decide +kernel)]
  exact l1
 ·rw [Ag,if_neg (by decide +kernel)]
  exact l2
 ·rw [Ag,if_pos rfl]
 ·rw [Ag,if_neg (by decide +kernel)]
  exact l4
 ·rw [Ag,if_neg fun e=>absurd hm (by rw [e]; decide +kernel)]
  exact lm m hm
end Og
namespace L2
open PySem PySem.Spec PyProof.Rows
structure Wu (K:PySem.W.Frag) (x qual:Str) (st:Stmt) (f:Addr) (fd:FuncData):Prop where
 ex:∃ (oc:Value) (od:Option Addr) (dV kV doc pm:Value) (an:Option Addr) (cdv ct:Value) (osl:Array (Option Value)),
  fd=PySem.W.fnOf x qual (Cr st) (CJ st) (Af st) dV kV doc pm an cdv ct/\K.lookup f=some ⟨oc,od,.func fd,osl⟩/\PySem.W.codeIn K cdv qual=true
 kp:PySem.W.keepIn K (.ref f)=true
section
variable {P:Program} {w:World} {K:PySem.W.Frag} {mg:Str->Option Value} {base:Heap}
theorem Vr {x qual:Str} {st:Stmt} {f:Addr} {oc:Value} {od an:Option Addr} {osl:Array (Option Value)} {dV kV doc pm cdv ct:Value} (l:K.lookup f=some ⟨oc,od,.func (PySem.W.fnOf x qual (Cr st) (CJ st) (Af st) dV kV doc pm an cdv ct),osl⟩)
  (c:PySem.W.codeIn K cdv qual=true) (k:PySem.W.keepIn K (.ref f)=true):Wu K x qual st f (PySem.W.fnOf x qual (Cr st) (CJ st) (Af st) dV kV doc pm an cdv ct):=⟨⟨oc,od,dV,kV,doc,pm,an,cdv,ct,osl,rfl,l,c⟩,k⟩
theorem Xw {fd:FuncData} {ps:List Str} {t:Addr} {ot:Value} {odt:Option Addr} {items:Array Value} {n:Nat} {slt:Array (Option Value)} (lt:K.lookup t=some ⟨ot,odt,.seq items n,slt⟩) (hd:fd.defaults=.ref t)
  (h:∀ us:List Value,us.length=ps.length->∃ k,bindArgs fd ⟨us,[]⟩=seqItems? fd.defaults >>= k/\k (some items)=pure (ps.zip us)):Binds K fd ps []:=fun s us hK hl=>by
 rw [List.append_nil] at hl ⊢
 obtain ⟨k,h1,h2⟩:=h us hl
 exact BindsTo.of_defaults hd (hK _ _ lt) rfl h1 h2
end
end L2
namespace L2
open PySem PySem.Spec PyProof.Rows
section
variable {K:PySem.W.Frag}
theorem WL {fd:FuncData} {ps:List Str} {ds:List Value} {t:Addr} {ot:Value} {odt:Option Addr} {items:Array Value} {n:Nat} {slt:Array (Option Value)} (lt:K.lookup t=some ⟨ot,odt,.seq items n,slt⟩) (hd:fd.defaults=.ref t)
  (h:∀ us:List Value,(us++ds).length=ps.length->∃ k,bindArgs fd ⟨us,[]⟩=seqItems? fd.defaults >>= k/\k (some items)=pure (ps.zip (us++ds))):Binds K fd ps ds:=fun s us hK hl=>by
 obtain ⟨k,h1,h2⟩:=h us hl
 exact BindsTo.of_defaults hd (hK _ _ lt) rfl h1 h2
end
end L2
namespace L2
open PySem PySem.Spec PySem.Calls PyProof.Rows
structure XQ (K:PySem.W.Frag) (C:Addr) (m:Str) (f:Addr) (mc:Value):Prop where
 ga:PySem.W.specialIn K (.ref C) "__getattribute__" = some (some (.builtin "type.__getattribute__"))
 rd:PySem.W.readsIn K C mc=true
 fc:PySem.W.findCls K (.ref C) mc m=some (.val (.ref f))
 kp:PySem.W.keepIn K (.ref f)=true
section
variable {X:Cx} {CX:Mw} {k:Nat} {f C:Addr} {fd:FuncData} {ps:List Str} {sp:Sp} {dvs:List V} {ds:List Value} {E:XK} {x m:Str} {p pos apos:Pos} {e:Expr} {es:List Expr} {t:TA} {mc:Value}
theorem Pr {pl:Sem Bool} (hg:Gl X x) (hm:X.mg x=some (.ref C)) (M:XQ X.K C m f mc) (F:Aw X.prog X.w X.K X.mg X.base CX k f fd ps sp) (hr:BX k X.A) (hb:Binds X.K fd ps ds) (hd:Vals dvs ds) (hx:Ek CX X E) (ha:PA X (e::es) t)
  (hdb:(x == ("__debug__" : Str))=false:=by decide)
  (hst:starEach (e::es) X.env=(false,eval e X.env)::starEach es X.env:=by rfl) (hpl:(backTo pos (starEach es X.env)).any (·.1)=false:=by rfl)
  (ht:eval (.Call (.Attribute (.Name x p) m apos) (e::es) [] pos) X.env=(do
   let ov ← eval (.Name x p) X.env
   standAt apos.atName
   let (f,first) ← holding [ov] (getMethod ov m pl)
   callWith pos f first (backTo pos (starEach (e::es) X.env)) (backToKw pos (keywordEach [] X.env))):=by rfl) :
  PE X (.Call (.Attribute (.Name x p) m apos) (e::es) [] pos) (Ub sp dvs E t):=by
 intro pins s σ H Q I h
 have he:PE X (.Name x p) (tC (.ref C)):=Bu hg hm rfl hdb
 refine PySem.W.methodCall_KW (pl:=pl) (By (he pins s σ H (fun v H1=>v=.ref C/\H1=H) I ⟨rfl,rfl⟩) fun u s1 ⟨v,H1,I1,rv,ev,eh⟩=>?_) ht
 subst ev
 subst eh
 obtain rfl:u=Value.ref C:=rv
 refine PySem.W.method_cls I1.GJ M.ga (PySem.W.cls_value I1.GJ M.rd M.fc rfl ?_)
 have I2:=I1.tok (s1.toks+1)
 refine PySem.W.callWith_K (first:=[]) (h₀:=X.base) I.ok.mod.kin M.kp (By (ha pos pins _ σ H1 _ I2 h) fun us s2 ⟨vs,H2,I3,r,q2⟩=>⟨I3.GJ,?_⟩) hst hpl
 exact JK (us:=us) (vs:=vs) F hr hb hd hx I3 r q2
end
section
variable {X:Cx} {CX:Mw} {k:Nat} {f1 f2 C1 C2:Addr} {fd1 fd2:FuncData} {ps1 ps2:List Str} {sp1 sp2:Sp} {E:XK} {m:Str} {p pos apos:Pos} {e o:Expr} {es:List Expr} {ta:TE} {t:TA}
noncomputable def YX (C1 C2:Addr) (m:Str) (sp1 sp2:Sp) (E:XK) (ta:TE) (t:TA):TE:=fun σ H Q=>ta σ H fun x H1=>∃ a dx fs,x=.ref a/\fs.lookup m=none /\
 ((H1 a=some (.ins C1 dx fs)/\t σ H1 fun vs H2=>sp1 (x::(vs++[])) H2 Q E) \/ (H1 a=some (.ins C2 dx fs)/\t σ H1 fun vs H2=>sp2 (x::(vs++[])) H2 Q E))
theorem Sq {pl:Sem Bool} (he:PE X o ta) (c1:NQ X.K C1) (hm1:Meth X.K C1 m f1) (F1:Aw X.prog X.w X.K X.mg X.base CX k f1 fd1 ps1 sp1) (hb1:Binds X.K fd1 ps1 [])
  (c2:NQ X.K C2) (hm2:Meth X.K C2 m f2) (F2:Aw X.prog X.w X.K X.mg X.base CX k f2 fd2 ps2 sp2) (hb2:Binds X.K fd2 ps2 []) (hr:BX k X.A) (hx:Ek CX X E) (ha:PA X (e::es) t)
  (hst:starEach (e::es) X.env=(false,eval e X.env)::starEach es X.env:=by rfl) (hpl:(backTo pos (starEach es X.env)).any (·.1)=false:=by rfl)
  (ht:eval (.Call (.Attribute o m apos) (e::es) [] pos) X.env=(do
   let ov ← eval o X.env
   standAt apos.atName
   let (f,first) ← holding [ov] (getMethod ov m pl)
   callWith pos f first (backTo pos (starEach (e::es) X.env)) (backToKw pos (keywordEach [] X.env))):=by rfl) :
  PE X (.Call (.Attribute o m apos) (e::es) [] pos) (YX C1 C2 m sp1 sp2 E ta t):=by
 intro pins s σ H Q I h
 refine PySem.W.methodCall_KW (pl:=pl) (By (he pins s σ H _ I h) fun u s1 ⟨x,H1,I1,rx,a,dx,fs,ex,l,q⟩=>?_) ht
 subst ex
 obtain rfl:u=Value.ref a:=rx
 rcases q with ⟨ea,q⟩ | ⟨ea,q⟩
 ·refine Ex I1 ea c1 hm1 l ?_
  refine PySem.W.callWith_K (first:=[.ref a]) (h₀:=X.base) I.ok.mod.kin hm1.kp (By (ha pos pins s1 σ H1 _ I1 q) fun us s2 ⟨vs,H2,I2,r,q2⟩=>⟨I2.GJ,?_⟩) hst hpl
  exact JK (us:=.ref a::us) (vs:=.ref a::vs) F1 hr hb1 .nil hx I2 (.cons rfl r) q2
 ·refine Ex I1 ea c2 hm2 l ?_
  refine PySem.W.callWith_K (first:=[.ref a]) (h₀:=X.base) I.ok.mod.kin hm2.kp (By (ha pos pins s1 σ H1 _ I1 q) fun us s2 ⟨vs,H2,I2,r,q2⟩=>⟨I2.GJ,?_⟩) hst hpl
  exact JK (us:=.ref a::us) (vs:=.ref a::vs) F2 hr hb2 .nil hx I2 (.cons rfl r) q2
end
section
variable {P:Program} {w:World} {K:PySem.W.Frag} {mg:Str->Option Value} {base:Heap}
theorem Wu.V6 {x qual:Str} {st:Stmt} {f:Addr} {fd:FuncData} {N ps:List Str} {k:Nat} {sp:Sp} (F:Wu K x qual st f fd) (S:Ao N ps (Af st)) (len:∀ vs H Q E,sp vs H Q E->vs.length=ps.length)
  (hbody:∀ (cdv:Value) (A:Around) (outer:List Env) (s:Shared) (H:Hp) (vs:List V) (Q:VK) (E:XK),BX k (A.deeper (envOfC qual (Af st) s.heap.objs.size f cdv))->sp vs H Q E ->
   ∃ t,Mj (Jk (Ij P w) P w K mg base N qual (Af st) f cdv A outer s H E) (CJ st) t/\t { nx:=fun _ H'=>Q .non H',rt:=Q } (start N vs) H):Aw P w K mg base (Ij P w) (k+1) f fd ps sp:=by
 obtain ⟨oc,od,dV,kV,doc,pm,an,cdv,ct,osl,rfl,lk,hcd⟩:=F.ex
 refine Ux lk hcd S len fun A outer s H vs Q E hr hsp=>?_
 obtain ⟨t,h,q⟩:=hbody cdv A outer s H vs Q E hr hsp
 exact ⟨t,h,q⟩
end
end L2
namespace Og
open PySem L2
structure lJ (K:PySem.W.Frag) (mg:Str->Option Value) (pB pE pA:Addr):Prop where
 mB:mg "Piston" = some (.ref pB)
 mE:mg "Every" = some (.ref pE)
 mA:mg "Part" = some (.ref pA)
 cE:NQ K pE
 cA:NQ K pA
 nEk:CQ K pE "knob_set"
 nAk:CQ K pA "knob_set"
 nAw:CQ K pA "whole_set"
 most:∃ t,mg "PISTON_COUNT" = some (.int 10 t)
inductive Ps where
 | every (k:Nat)
 | part (k w:Nat)
noncomputable def Ps.put:Ps->Nat->Nat
 | .every k,_=>k
 | .part k w,d=>(d - (d &&& w)) ||| k
noncomputable def Gb (pE pA:Addr) (H:Hp) (o:Addr):Ps->Prop
 | .every k=>∃ dx,H o=some (.ins pE dx [("knob_set",.int (k:Nat))])
 | .part k w=>∃ dx,H o=some (.ins pA dx [("knob_set",.int (k:Nat)),("whole_set",.int (w:Nat))])
structure Vy (pE pA:Addr) (H:Hp) (sd:Addr) (m:Nat->Option Ps) (c:Nat):Prop where
 ex:∃ kvs:List (Key × V),H sd=some (.dK kvs)/\kvs.length<=c/\(∀ p,p<10->m p=none->CV kvs (Sum.inl (p:Nat))=none)/\∀ p ps,p<10->m p=some ps->∃ o,CV kvs (Sum.inl (p:Nat))=some (.ref o)/\Gb pE pA H o ps
theorem Gb.keep {pE pA:Addr} {H H':Hp} {o:Addr} {ps:Ps} (h:Gb pE pA H o ps) (f:∀ c dx fs,H o=some (.ins c dx fs)->H' o=some (.ins c dx fs)):Gb pE pA H' o ps:=by
 cases ps with
 | every k =>
  obtain ⟨dx,e⟩:=h
  exact ⟨dx,f _ _ _ e⟩
 | part k w =>
  obtain ⟨dx,e⟩:=h
  exact ⟨dx,f _ _ _ e⟩
theorem Vy.mono {pE pA:Addr} {H H':Hp} {sd:Addr} {m:Nat->Option Ps} {c:Nat} (s:Ak H H') (h:Vy pE pA H sd m c):Vy pE pA H' sd m c:=by
 obtain ⟨kvs,e1,e2,e3,e4⟩:=h.ex
 refine ⟨kvs,s _ _ e1,e2,e3,fun p ps hp hm=>?_⟩
 obtain ⟨o,f1,f2⟩:=e4 p ps hp hm
 exact ⟨o,f1,f2.keep fun _ _ _ e=>s _ _ e⟩
end Og
namespace Gn
theorem Y5 {a b:Nat} (h:a &&& b=0):a+b=a ||| b:=by
 have ha:a<2 ^ (a+b+1):=Nat.lt_trans (Nat.lt_of_le_of_lt (Nat.le_add_right a b) (Nat.lt_succ_self _)) Nat.lt_two_pow_self
 have hb:b<2 ^ (a+b+1):=Nat.lt_trans (Nat.lt_of_le_of_lt (Nat.le_add_left b a) (Nat.lt_succ_self _)) Nat.lt_two_pow_self
 have hab:a+b<2 ^ (a+b+1):=Nat.lt_trans (Nat.lt_succ_self _) Nat.lt_two_pow_self
 have:=BitVec.add_eq_or_of_and_eq_zero (BitVec.ofNat (a+b+1) a) (BitVec.ofNat (a+b+1) b) (by
  apply BitVec.eq_of_toNat_eq
  rw [BitVec.toNat_and,BitVec.toNat_ofNat,BitVec.toNat_ofNat,Nat.mod_eq_of_lt ha,Nat.mod_eq_of_lt hb,h]
  simp)
 have:=congrArg BitVec.toNat this
 rw [BitVec.toNat_add,BitVec.toNat_or,BitVec.toNat_ofNat,BitVec.toNat_ofNat,Nat.mod_eq_of_lt ha,Nat.mod_eq_of_lt hb,Nat.mod_eq_of_lt hab] at this
 exact this
theorem IV (D M k:Nat):(D - (D &&& M)).testBit k=(D.testBit k && !M.testBit k):=by
 have hz:(D &&& M) &&& (D ^^^ (D &&& M))=0:=Nat.eq_of_testBit_eq fun i=>by
  simp only [Nat.testBit_and,Nat.testBit_xor,Nat.zero_testBit]
  cases D.testBit i <;> cases M.testBit i <;> rfl
 have hs:(D &&& M)+(D ^^^ (D &&& M))=D:=by
  rw [Y5 hz]
  refine Nat.eq_of_testBit_eq fun i=>?_
  simp only [Nat.testBit_and,Nat.testBit_xor,Nat.testBit_or]
  cases D.testBit i <;> cases M.testBit i <;> rfl
 have e:D - (D &&& M)=D ^^^ (D &&& M):=by omega
 rw [e]
 simp only [Nat.testBit_and,Nat.testBit_xor]
 cases D.testBit k <;> cases M.testBit k <;> rfl
end Gn
namespace L2
open PySem PySem.Spec PySem.Calls PyProof.Rows
section
variable {X:Cx} {pins:List (Addr × Obj)} {σ:St} {H:Hp} {s:Shared} {x z y3:Str} {scope:Scope} {fp:List Addr} {C:Addr}
end
section
variable {X:Cx} {x z y3:Str} {scope:Scope}
end
section
variable {X:Cx} {x z y3:Str} {scope:Scope}
end
section
variable {X:Cx} {x z y3:Str} {scope:Scope}
end
section
variable {σ:St} {H1:Hp} {Q:VK} {tt:TT} {te:TE}
end
end L2
namespace Bw
noncomputable abbrev Tr:=Int × Int × Int
noncomputable abbrev Dr:=List Tr
noncomputable def Chain:Int->Dr->Prop
 | _,[]=>True
 | t,x::r=>x.1=t/\x.1<x.2.1/\Chain x.2.1 r
noncomputable def cnt (x:Tr):Nat:=(x.2.1 - x.1).toNat
noncomputable def tk (P:Int):Dr->List Int
 | []=>[]
 | x::r=>List.replicate (cnt x) (x.2.2 - P)++tk P r
noncomputable def stp (e x:Int):Int:=max 0 (e+x)
noncomputable def EF (e:Int) (W:List Int):Int:=W.foldl stp e
noncomputable abbrev E (W:List Int):Int:=EF 0 W
structure qD (W:List Int) (b0 b1 b2 taken since:Int):Prop where
 e:E W=max 0 taken
 le:∀ t,t<=W.length->E (W.take t)<=b0
 s0:0<=since
 s1:since<=W.length
 tk:taken=W.sum - (W.take since.toNat).sum
 b:(b0=0/\b1=0/\b2=0) \/ (0<b0/\0<=b1/\b1<b2/\b2<=W.length/\b0=(W.take b2.toNat).sum - (W.take b1.toNat).sum/\E (W.take b2.toNat)=b0)
noncomputable def fl (cap:Int):Int->List Int->Option Nat
 | _,[]=>none
 | e,x::r=>if e+x > cap then some 0 else (fl cap (stp e x) r).map (· + 1)
noncomputable def good (cap e x:Int) (c:Nat):Int:=if cap - e - x<0 then 0 else if -x ≥ 0 then (c:Int) else min (c:Int) ((cap - e) / x)
noncomputable def ps:Int->List Int->List Int
 | s,[]=>[s]
 | s,x::r=>s::ps (s+x) r
structure p_ (W:List Int) (t:Nat) (low due:Int):Prop where
 e:(W.take t).sum - low=E (W.take t)
 le:∀ s,s<=t->E (W.take s)<=due
 ex:∃ s,s<=t/\E (W.take s)=due
end Bw
namespace Bw
end Bw
namespace Bw
noncomputable def ov (f b:Int) (x:Tr):Int:=max 0 (min x.2.1 b - max x.1 f)
end Bw
namespace Bw
end Bw
namespace Bw
end Bw
namespace Bw
end Bw
namespace Bw
open PySem L2 Og
theorem Ss (ns:List Int) (lo hi:Option Int):∃ ms:List Int,Dn (ns.map V.int) lo hi=ms.map V.int/\ms.length<=ns.length:=by
 unfold Dn
 refine ⟨(ns.drop (HT.Dg (ns.map V.int).length 0 lo)).take (HT.Dg (ns.map V.int).length (ns.map V.int).length hi - HT.Dg (ns.map V.int).length 0 lo),?_,?_⟩
 ·rw [← List.map_drop,← List.map_take]
 ·rw [List.length_take,List.length_drop]
  omega
theorem Lz {ns:List Int} {i:Int} (h0:0<=i) (h1:i<ns.length):∃ c,ns[i.toNat]? = some c/\c∈ns/\SJ (ns.map V.int) i=some (.int c):=by
 have hlt:i.toNat<ns.length:=by omega
 refine ⟨ns[i.toNat],List.getElem?_eq_getElem hlt,List.getElem_mem hlt,?_⟩
 have e:(ns.map V.int)[i.toNat]? = some (.int ns[i.toNat]):=by rw [List.getElem?_map,List.getElem?_eq_getElem hlt]; rfl
 have:=Aj e
 rw [show ((i.toNat:Nat):Int)=i by omega] at this
 exact this
theorem Ti {n:Nat} {i:Int} (h0:0<=i) (h1:i<n):VR n i=some i.toNat:=by unfold VR; rw [if_pos h0,if_pos h1]
noncomputable abbrev lM (x:Tr):List V:=[.int x.1,.int x.2.1,.int x.2.2]
structure Z6 (H:Hp) (a:Addr) (d:Dr) (ys:List V):Prop where
 l:H a=some (.lst ys)
 p:Paired (fun x v=>TupAt H (lM x) v) d ys
noncomputable def Bd (d:Dr):Prop:=∀ x∈d,0<=x.2.2/\x.2.2<2 ^ 41/\x.2.1 - x.1<2 ^ 35
noncomputable def DH (H:Hp) (dh pc:Addr) (n:Nat):Prop:=∃ (cs:List Int) (m r:Int),H dh=some (.lst [.ref pc,.int m,.int r,.int (n:Int)])/\H pc=some (.lst (cs.map V.int))/\dh ≠ pc/\(∀ c∈cs,0<=c)/\0<=m/\m<=cs.length/\0<=r/\r<2147483647/\cs.length<=64
noncomputable def YK (H H':Hp) (dh pc:Addr):Prop:=∀ b,b ≠ dh->b ≠ pc->H' b=H b
theorem DH.same {H H':Hp} {dh pc:Addr} {n:Nat} (D:DH H dh pc n) (s:Ak H H'):DH H' dh pc n:=by
 obtain ⟨cs,m,r,e1,e2,e3⟩:=D
 exact ⟨cs,m,r,s _ _ e1,s _ _ e2,e3⟩
theorem DH.upd {H:Hp} {dh pc l:Addr} {n:Nat} {o:HO} (D:DH H dh pc n) (h1:l ≠ dh) (h2:l ≠ pc):DH (upd H l o) dh pc n:=by
 obtain ⟨cs,m,r,e1,e2,e3⟩:=D
 exact ⟨cs,m,r,by rw [Ar (Ne.symm h1)]; exact e1,by rw [Ar (Ne.symm h2)]; exact e2,e3⟩
noncomputable def V_:Sp:=fun vs H Q _=>∃ (x:V) (b:Bool),vs=[x]/\((∃ i,x=.int i/\b=true) \/ (x=.non/\b=false))/\Q (.bl b) H
noncomputable def gC (K:PySem.W.Frag):Sp:=fun vs H Q _=>∃ (a:Addr) (st:Int) (ns:List Int),vs=[.ref a,.int st]/\DQ K H a (ns.map V.int)/\0<=st/\st<2147483647/\ns.length<=63/\∀ dh pc H',H dh=none->H pc=none->Ak H H'->DH H' dh pc 0->Q (.ref dh) H'
noncomputable def fu:Sp:=fun vs H Q _=>∃ (dh pc:Addr) (n:Nat) (many:Int),vs=[.ref dh,.int many]/\DH H dh pc n/\n<1000000/\0<many/\many<1073741824/\∀ (r:Int) H',0<=r->r<many->DH H' dh pc (n+1)->YK H H' dh pc->Q (.int r) H'
noncomputable def oV:Option Nat->V
 | some t=>.int (t:Int)
 | none=>.non
noncomputable def Yr:Sp:=fun vs H Q _=>∃ (a:Addr) (d:Dr) (ys:List V) (P cap:Int),vs=[.ref a,.int P,.int cap]/\Z6 H a d ys/\Chain 0 d/\Bd d/\0<=P/\0<=cap /\
 ∀ H',Ak H H'->Q (oV (fl cap 0 (tk P d))) H'
noncomputable def Tv:Sp:=fun vs H Q _=>∃ (l:Addr) (d:Dr) (ys:List V) (P cap T:Int),vs=[.ref l,.int P,.int cap,.int T]/\Z6 H l d ys/\Chain 0 d/\Bd d/\d.length<=100/\0<=P/\P<2 ^ 60/\0<=cap/\0<=T/\T<(tk P d).length /\
 ∀ H',Ak H H'->Q (.bl true) H'
noncomputable def Nz (K:PySem.W.Frag):Sp:=fun vs H Q _=>∃ (a:Addr) (ns:List Int),vs=[.ref a]/\DQ K H a (ns.map V.int)/\ns.length<=63/\∀ H',Q (.bl true) H'
theorem Us {c:TT} {tb u:TS} {D:Ends} {r:VK} {b k:St->Hp->Prop} {σ:St} {H:Hp} (h:Lp c tb { D with nx:=u D } σ H):({ nx:=Yx (Lp c tb) u D,rt:=r,bk:=b,ct:=k }:Ends).nx σ H:=h
end Bw
namespace L2
open PySem PySem.Spec PyProof.Rows
section
variable {X:Cx} {o e f:Expr} {apos cpos:Pos} {td ty tx:TE}
end
end L2
namespace L2
open PySem PySem.Spec PyProof.Rows
theorem Ba {X:Cx} {x:Str} {e:Expr} {te:TE} {pos' pos:Pos} (i:Nat) (hN:X.N.Nodup) (hi:X.N[i]? = some x) (hx:Loc X.env.scope x) (he:PE X e te) (hs:swapsWith e (some (.Name x pos')) pos.line X.env=pure false) (hf:X.fn x=true \/ X.env.scope.names.lookup x=some .local) :
  PS X (.Assign [.Name x pos'] e pos) (Ut te (Ez i)):=C_ hN hi hx he hs hf
end L2
namespace L2
open PySem PySem.Spec PyProof.Rows
theorem Am {X:Cx} {e:Expr} {es:List Expr} {te:TE} {t:TA} (h:starEach (e::es) X.env=(false,eval e X.env)::starEach es X.env) (he:PE X e te) (ht:PA X es t):PA X (e::es) (XC te t):=Ab he ht h
end L2
namespace L2
open PySem PySem.Spec PyProof.Rows
end L2
namespace Og
open PySem L2
noncomputable def Hb (kd a k:Nat):Str:=if kd=0 then ZS k++Txt.mul "v" (a:Nat) else if kd=1 then Txt.mul "o" (((1+k % 6:Nat)):Int)++Txt.mul "b" (((k / 6:Nat)):Int) else (Txt.slice "qrst" none (some (a:Nat))++ZS k)++Txt.slice "qrst" (some (a:Nat)) none
noncomputable def iG (z:Str):Bool:=decide (1<=z.length) && decide (z.length<=8) && z.cps.toList.all (fun c=>decide (97<=c/\c<=122)) && (match z.cps.toList with | c::_=>decide (c<=116) | []=>false)
theorem Vo:((List.range 3).all fun kd=>(List.range 5).all fun a=>(List.range 12).all fun k=>iG (Hb kd a k))=true:=by decide +kernel
theorem Wj:((List.range 3).all fun kd=>(List.range 5).all fun a=>(List.range 12).all fun k=>(List.range k).all fun j=>!decide (Hb kd a j=Hb kd a k))=true:=by decide +kernel
theorem JP {kd a k:Nat} (h1:kd<3) (h2:a<5) (h3:k<12):iG (Hb kd a k)=true:=by
 have h:=Vo
 rw [List.all_eq_true] at h
 have h':=h kd (List.mem_range.mpr h1)
 rw [List.all_eq_true] at h'
 have h'':=h' a (List.mem_range.mpr h2)
 rw [List.all_eq_true] at h''
 exact h'' k (List.mem_range.mpr h3)
noncomputable def Rz (z:Str):Nat:=z.cps.toList.headD 0
theorem JG {z:Str} (h:iG z=true):isNm z/\Rz z<=116:=by
 unfold iG at h
 simp only [Bool.and_eq_true] at h
 obtain ⟨⟨⟨h1,h2⟩,h3⟩,h4⟩:=h
 rw [List.all_eq_true] at h3
 refine ⟨⟨of_decide_eq_true h1,of_decide_eq_true h2,fun c hc=>of_decide_eq_true (h3 c hc)⟩,?_⟩
 unfold Rz
 cases e:z.cps.toList with
 | nil=>exact Nat.zero_le _
 | cons c r =>
  rw [e] at h4
  exact of_decide_eq_true h4
theorem S9 {kd a k j:Nat} (h1:kd<3) (h2:a<5) (h3:k<12) (hj:j<k):Hb kd a j ≠ Hb kd a k:=by
 have h:=Wj
 rw [List.all_eq_true] at h
 have h':=h kd (List.mem_range.mpr h1)
 rw [List.all_eq_true] at h'
 have h'':=h' a (List.mem_range.mpr h2)
 rw [List.all_eq_true] at h''
 have h4:=h'' k (List.mem_range.mpr h3)
 rw [List.all_eq_true] at h4
 have h5:=h4 j (List.mem_range.mpr hj)
 intro e
 rw [decide_eq_true e] at h5
 cases h5
noncomputable def Wn (k r:Nat):Str:=(⟨#[120+k]⟩:Str)++Txt.mul "w" (r:Nat)
noncomputable def au (k r:Nat):Bool:=let z:=Wn k r; decide (1<=z.length) && decide (z.length<=8) && z.cps.toList.all (fun c=>decide (97<=c/\c<=122)) && decide (Rz z=120+k)
theorem WM:((List.range 3).all fun k=>(List.range 3).all fun r=>au k r)=true:=by decide +kernel
theorem YT {k r:Nat} (h1:k<3) (h2:r<3):isNm (Wn k r)/\Rz (Wn k r)=120+k:=by
 have h:=WM
 rw [List.all_eq_true] at h
 have h':=h k (List.mem_range.mpr h1)
 rw [List.all_eq_true] at h'
 have h3:=h' r (List.mem_range.mpr h2)
 unfold au at h3
 simp only [Bool.and_eq_true] at h3
 obtain ⟨⟨⟨h4,h5⟩,h6⟩,h7⟩:=h3
 rw [List.all_eq_true] at h6
 exact ⟨⟨of_decide_eq_true h4,of_decide_eq_true h5,fun c hc=>of_decide_eq_true (h6 c hc)⟩,of_decide_eq_true h7⟩
theorem Uy:((List.range 3).all fun k=>(List.range 3).all fun r=>!decide (Wn k r = "zz"))=true:=by decide +kernel
theorem Xp {k r:Nat} (h1:k<3) (h2:r<3):Wn k r ≠ "zz":=by
 have h:=Uy
 rw [List.all_eq_true] at h
 have h':=h k (List.mem_range.mpr h1)
 rw [List.all_eq_true] at h'
 have h3:=h' r (List.mem_range.mpr h2)
 intro e
 rw [decide_eq_true e] at h3
 cases h3
theorem V4:isNm "u" /\ Rz "u" = 117:=by
 refine ⟨⟨by decide +kernel,by decide +kernel,fun c hc=>?_⟩,by decide +kernel⟩
 have e:("u" : Str).cps.toList=[117]:=by decide +kernel
 rw [e] at hc
 rw [List.mem_singleton.mp hc]
 decide
structure Pb where
 rows:List R
 bs:List (Str × Nat)
 rk:List (Str × Nat × Int)
 ks:List R
 ls:List (List Ln)
 sts:List Nat
 sn:List Str
structure De (K:PySem.W.Frag) (aB aP aM:Addr) (kd a i m:Nat) (S:Pb):Prop where
 bl:Ha K aB aP aM S.rows S.bs S.rk S.ks S.ls S.sts
 rb:∀ (j:Nat) b,S.bs[j]? = some b->S.rows[j]? = some (GR b)
 b1:1<=S.bs.length
 b3:S.bs.length<=3
 sb:∀ b∈S.bs,isNm b.1/\120<=Rz b.1/\1<=b.2/\b.2<=61
 db:(S.bs.map (·.1)).Nodup
 rk1:∃ (m:Nat) (wi:Int),S.rk=[(("u" : Str),m,wi)]/\1<=m/\m<=97
 ek:S.rows.filter (fun r=>Ej r.w)=S.ks
 nk:S.ks.map (·.nm)=(List.range i).map (Hb kd a)
 sn:∀ t∈S.sn,∃ k∈S.ks,k.w = "stop" /\ k.nm=t
 sd:S.sn.Nodup
 sl:S.sn.length<=i
 st:S.sts.length<=i
 lr:S.rows.length<=m
 kb:∀ r∈S.ks,∃ b∈S.bs,∃ rs,r.rest=V.str b.1::rs
 bz:∀ b∈S.bs,b.1 ≠ "zz"
section
variable {K:PySem.W.Frag} {aB aP aM:Addr} {kd a i m:Nat} {S:Pb}
theorem De.lk (h:De K aB aP aM kd a i m S):S.ks.length=i:=by
 have:=congrArg List.length h.nk
 rw [List.length_map,List.length_map,List.length_range] at this
 exact this
theorem De.kn (h:De K aB aP aM kd a i m S) {k:R} (hk:k∈S.ks):∃ j,j<i/\k.nm=Hb kd a j:=by
 have:=List.mem_map_of_mem (f:=fun r:R=>r.nm) hk
 rw [h.nk] at this
 obtain ⟨j,hj,e⟩:=List.mem_map.mp this
 exact ⟨j,List.mem_range.mp hj,e.symm⟩
theorem De.fb (h:De K aB aP aM kd a i m S) (h1:kd<3) (h2:a<5) {j:Nat} (h3:j<12):∀ b∈S.bs,b.1 ≠ Hb kd a j:=fun b hb e=>by
 have:=(h.sb b hb).2.1
 have:=(JG (JP h1 h2 h3)).2
 rw [e] at *
 omega
theorem De.fr (h:De K aB aP aM kd a i m S) (h1:kd<3) (h2:a<5) {j:Nat} (h3:j<12):∀ r∈S.rk,r.1 ≠ Hb kd a j:=fun r hr e=>by
 obtain ⟨m',wi,er,_⟩:=h.rk1
 rw [er] at hr
 rw [List.mem_singleton.mp hr] at e
 have e':("u" : Str)=Hb kd a j:=e
 have h4:=(JG (JP h1 h2 h3)).2
 rw [← e',V4.2] at h4
 omega
theorem De.fk (h:De K aB aP aM kd a i m S) (h1:kd<3) (h2:a<5) (h3:i<12):∀ k∈S.ks,k.nm ≠ Hb kd a i:=fun k hk e=>by
 obtain ⟨j,hj,e'⟩:=h.kn hk
 exact S9 h1 h2 h3 hj (e'.symm.trans e)
theorem De.dk (h:De K aB aP aM kd a i m S) (h1:kd<3) (h2:a<5) (h3:i<=12):(S.ks.map (·.nm)).Nodup:=by
 rw [h.nk]
 refine List.pairwise_map.mpr (List.Pairwise.imp_of_mem (R:=(· < ·)) (fun {x y} hx hy hxy e=>?_) List.pairwise_lt_range)
 exact S9 h1 h2 (by have:=List.mem_range.mp hy; omega) hxy e
theorem De.Yl (h:De K aB aP aM kd a i m S) {r:R} (hw:Ej r.w=true) (hn:r.nm=Hb kd a i) (hx:∃ b∈S.bs,∃ rs,r.rest=V.str b.1::rs) (hb:Ha K aB aP aM (S.rows++[r]) S.bs S.rk (S.ks++[r]) (S.ls++[[]]) S.sts) :
  De K aB aP aM kd a (i+1) (m+1) { S with rows:=S.rows++[r],ks:=S.ks++[r],ls:=S.ls++[[]] } :=
 ⟨hb,fun j b hj=>by rw [List.getElem?_append_left (List.getElem?_eq_some_iff.mp (h.rb j b hj)).1]; exact h.rb j b hj,h.b1,h.b3,h.sb,h.db,h.rk1,by
  show (S.rows++[r]).filter _=S.ks++[r]
  rw [List.filter_append,h.ek,List.filter_cons,if_pos hw]
  rfl,by
  show (S.ks++[r]).map _=_
  rw [List.map_append,h.nk,List.range_succ,List.map_append,List.map_singleton,List.map_singleton,hn],fun t ht=>by
  obtain ⟨k,hk,e⟩:=h.sn t ht
  exact ⟨k,List.mem_append_left _ hk,e⟩,h.sd,Nat.le_succ_of_le h.sl,Nat.le_succ_of_le h.st,by
  show (S.rows++[r]).length<=m+1
  rw [List.length_append]
  exact Nat.succ_le_succ h.lr,fun k hk=>by
  rcases List.mem_append.mp hk with hk | hk
  ·exact h.kb k hk
  ·rw [List.mem_singleton.mp hk]
   exact hx,h.bz⟩
theorem De.row (h:De K aB aP aM kd a i m S) {r:R} {ls':List (List Ln)} {sts':List Nat} (hw:Ej r.w=false) (hs:sts'.length<=i) (hb:Ha K aB aP aM (S.rows++[r]) S.bs S.rk S.ks ls' sts') :
  De K aB aP aM kd a i (m+1) { S with rows:=S.rows++[r],ls:=ls',sts:=sts' } :=
 ⟨hb,fun j b hj=>by rw [List.getElem?_append_left (List.getElem?_eq_some_iff.mp (h.rb j b hj)).1]; exact h.rb j b hj,h.b1,h.b3,h.sb,h.db,h.rk1,by
  show (S.rows++[r]).filter _=S.ks
  rw [List.filter_append,h.ek,List.filter_cons,if_neg (by rw [hw]; decide)]
  simp,h.nk,h.sn,h.sd,h.sl,hs,by
  show (S.rows++[r]).length<=m+1
  rw [List.length_append]
  exact Nat.succ_le_succ h.lr,h.kb,h.bz⟩
theorem De.Uk (h:De K aB aP aM kd a i m S):(S.rows.filter fun r=>decide (V.str r.w=V.str "mute")).length=(S.ks.filter fun r=>decide (V.str r.w=V.str "mute")).length:=by
 rw [← h.ek,List.filter_filter]
 congr 1
 refine List.filter_congr fun r _=>?_
 by_cases e:r.w = "mute"
 ·rw [e]
  decide +kernel
 ·rw [decide_eq_false fun z=>e (V.str.inj z)]
  rfl
theorem De.le (h:De K aB aP aM kd a i m S) {m':Nat} (hm:m<=m'):De K aB aP aM kd a i m' S :=
 ⟨h.bl,h.rb,h.b1,h.b3,h.sb,h.db,h.rk1,h.ek,h.nk,h.sn,h.sd,h.sl,h.st,Nat.le_trans h.lr hm,h.kb,h.bz⟩
theorem De.snap (h:De K aB aP aM kd a i m S) {t:Str} (hk:∃ k∈S.ks,k.w = "stop" /\ k.nm=t) (hn:t ∉ S.sn) (hl:S.sn.length<i):De K aB aP aM kd a i m { S with sn:=S.sn++[t] } :=
 ⟨h.bl,h.rb,h.b1,h.b3,h.sb,h.db,h.rk1,h.ek,h.nk,fun z hz=>by
  rcases List.mem_append.mp hz with hz | hz
  ·exact h.sn z hz
  ·rw [List.mem_singleton.mp hz]
   exact hk,List.nodup_append.mpr ⟨h.sd,List.nodup_cons.mpr ⟨List.not_mem_nil,List.nodup_nil⟩,fun x hx y hy e=>hn (by rw [← List.mem_singleton.mp hy,← e]; exact hx)⟩,by
  show (S.sn++[t]).length<=i
  rw [List.length_append]
  exact hl,h.st,h.lr,h.kb,h.bz⟩
theorem QL {p:R->Bool} {l:List R} {n:Nat} (h:l.length<n):(l.filter p).length<n:=Nat.lt_of_le_of_lt (List.length_filter_le _ _) h
end
end Og
namespace Og
open PySem L2 Bw
noncomputable def Jj (H H':Hp) (dh pc:Addr):Prop:=∀ b u,b ≠ dh->b ≠ pc->H b=some u->H' b=some u
theorem Jj.trans {H H1 H2:Hp} {dh pc:Addr} (a:Jj H H1 dh pc) (b:Jj H1 H2 dh pc):Jj H H2 dh pc:=fun c u h1 h2 e=>b c u h1 h2 (a c u h1 h2 e)
theorem Jj.of2 {H H1:Hp} {dh pc:Addr} (a:YK H H1 dh pc):Jj H H1 dh pc:=fun c u h1 h2 e=>by rw [a c h1 h2]; exact e
theorem Jj.of {H H1:Hp} {dh pc:Addr} (a:Ak H H1):Jj H H1 dh pc:=fun c u _ _ e=>a c u e
theorem Jj.put {H H1:Hp} {dh pc a:Addr} {o:HO} (f:Jj H H1 dh pc) (h:H a=none):Jj H (upd H1 a o) dh pc:=fun c u h1 h2 e=>by
 rw [Ar (Ai e h)]
 exact f c u h1 h2 e
theorem Jj.free {H H1:Hp} {dh pc a:Addr} (f:Jj H H1 dh pc) (h:H1 a=none) (h1:a ≠ dh) (h2:a ≠ pc):H a=none:=by
 cases z:H a with
 | none=>rfl
 | some o =>
  have:=f a o h1 h2 z
  rw [h] at this
  cases this
theorem TQ {H H':Hp} {dh pc:Addr} {n:Nat} {xs:List V} {y:V} (D:DH H dh pc n) (f:Jj H H' dh pc) (h:TupAt H xs y):TupAt H' xs y:=by
 obtain ⟨T,rfl,e⟩:=h
 obtain ⟨cs,m,r,e1,e2,_⟩:=D
 exact ⟨T,rfl,f T _ (fun z=>by rw [z,e1] at e; cases e) (fun z=>by rw [z,e2] at e; cases e) e⟩
theorem WK {H H':Hp} {dh pc:Addr} {n:Nat} {rs:List R} {vs:List V} (D:DH H dh pc n) (f:Jj H H' dh pc) (h:Paired (fun (r:R) v=>TupAt H r.v v) rs vs):Paired (fun (r:R) v=>TupAt H' r.v v) rs vs:=Paired.JV h fun _ _ z=>TQ D f z
theorem DH.gb {H:Hp} {dh pc a:Addr} {n:Nat} (D:DH H dh pc n) (h:H a=none):a ≠ dh/\a ≠ pc:=by
 obtain ⟨cs,m,r,e1,e2,_⟩:=D
 exact ⟨fun z=>(by rw [z,e1] at h; cases h),fun z=>(by rw [z,e2] at h; cases h)⟩
structure Qs (H0 H:Hp) (dh pc pR:Addr) (n:Nat) (rows:List R):Prop where
 r:∃ vs,H pR=some (.lst vs)/\Paired (fun (r:R) v=>TupAt H r.v v) rows vs
 d:DH H dh pc n
 f:Jj H0 H dh pc
 n1:pR ≠ dh
 n2:pR ≠ pc
 n0:H0 pR=none
section
variable {H0 H H':Hp} {dh pc pR pT:Addr} {n:Nat} {rows:List R} {sn:List Str}
theorem Qs.fr (h:Qs H0 H dh pc pR n rows) (f:YK H H' dh pc) {k:Nat} (D:DH H' dh pc k):Qs H0 H' dh pc pR k rows:=by
 obtain ⟨vs,h1,h2⟩:=h.r
 exact ⟨⟨vs,(Jj.of2 f) pR _ h.n1 h.n2 h1,WK h.d (Jj.of2 f) h2⟩,D,h.f.trans (Jj.of2 f),h.n1,h.n2,h.n0⟩
theorem Qs.same (h:Qs H0 H dh pc pR n rows) (s:Ak H H'):Qs H0 H' dh pc pR n rows:=by
 obtain ⟨vs,h1,h2⟩:=h.r
 exact ⟨⟨vs,s _ _ h1,Aq s h2⟩,h.d.same s,h.f.trans (Jj.of s),h.n1,h.n2,h.n0⟩
theorem Qs.app (h:Qs H0 H dh pc pR n rows) {vs:List V} (e:H pR=some (.lst vs)) {r:R} {v:V} (hv:TupAt H r.v v):Qs H0 (upd H pR (.lst (vs++[v]))) dh pc pR n (rows++[r]):=by
 obtain ⟨vs',h1,h2⟩:=h.r
 obtain rfl:vs'=vs:=HO.lst.inj (Option.some.inj (h1.symm.trans e))
 exact ⟨⟨_,Ah,Ep (Dy h2 e) (.cons (hv.upd e) .nil)⟩,h.d.upd h.n1 h.n2,h.f.put h.n0,h.n1,h.n2,h.n0⟩
structure Oe (H0 H:Hp) (dh pc pR pT:Addr) (n:Nat) (rows:List R) (sn:List Str):Prop where
 s:Qs H0 H dh pc pR n rows
 t:H pT=some (.lst (sn.map V.str))
 n1:pT ≠ dh
 n2:pT ≠ pc
 n3:pT ≠ pR
 n0:H0 pT=none
theorem Oe.fr (h:Oe H0 H dh pc pR pT n rows sn) (f:YK H H' dh pc) {k:Nat} (D:DH H' dh pc k):Oe H0 H' dh pc pR pT k rows sn :=
 ⟨h.s.fr f D,(Jj.of2 f) pT _ h.n1 h.n2 h.t,h.n1,h.n2,h.n3,h.n0⟩
theorem Oe.same (h:Oe H0 H dh pc pR pT n rows sn) (s:Ak H H'):Oe H0 H' dh pc pR pT n rows sn :=
 ⟨h.s.same s,s _ _ h.t,h.n1,h.n2,h.n3,h.n0⟩
theorem Oe.app (h:Oe H0 H dh pc pR pT n rows sn) {vs:List V} (e:H pR=some (.lst vs)) {r:R} {v:V} (hv:TupAt H r.v v):Oe H0 (upd H pR (.lst (vs++[v]))) dh pc pR pT n (rows++[r]) sn :=
 ⟨h.s.app e hv,by rw [Ar h.n3]; exact h.t,h.n1,h.n2,h.n3,h.n0⟩
theorem Oe.nj (h:Oe H0 H dh pc pR pT n rows sn) (t:Str):Oe H0 (upd H pT (.lst (sn.map V.str++[.str t]))) dh pc pR pT n rows (sn++[t]):=by
 obtain ⟨vs,h1,h2⟩:=h.s.r
 exact ⟨⟨⟨vs,by rw [Ar (Ne.symm h.n3)]; exact h1,Dy h2 h.t⟩,h.s.d.upd h.n1 h.n2,h.s.f.put h.n0,h.s.n1,h.s.n2,h.s.n0⟩,by rw [Ah,List.map_append]; rfl,h.n1,h.n2,h.n3,h.n0⟩
end
end Og
namespace L2
open PySem PySem.Spec PySem.Calls PyProof.Rows
section
variable {X:Cx}
end
end L2
namespace L2
open PySem PySem.Spec PySem.Calls PyProof.Rows
section
variable {X:Cx}
theorem NT (hu:X.A.units<cLine):Hh X (compareOp .NotEq) (fun x y H Q=>∃ p q xs,x=V.ref p/\y=V.ref q/\DQ X.K H p xs/\DQ X.K H q []/\Q (.bl (!xs.isEmpty)) H):=by
 intro pins s σ H x y v u Q I rx ry h
 obtain ⟨p,q,xs,rfl,rfl,hp,hq,k⟩:=h
 cases rx
 cases ry
 obtain ⟨its,r,pl,hz⟩:=I.list hp
 obtain ⟨its2,r2,pl2,hz2⟩:=I.list hq
 have l1:=r.length
 cases r2
 cases xs with
 | nil =>
  cases r
  refine SeqAt.RcNeAt.lists (e:=fun _=>true) pl.isList pl2.isList rfl hu (fun j h1 h2=>?_) _ _ _ _ ⟨.bl _,H,I,rfl,k⟩
  exact absurd h1 (Nat.not_lt_zero _)
 | cons a b =>
  refine SeqAt.RcNeAt.lists_lengths pl.isList pl2.isList (by simp; intro z; rw [z] at l1; simp at l1) hu _ _ _ _ ⟨.bl _,H,I,rfl,k⟩
end
end L2
namespace L2
open PySem PySem.Spec PyProof.Rows
theorem Lq:∀ ns:List Int,(∀ n∈ns,0<=n)->0<=ns.sum
 | [],_=>Int.le_refl _
 | x::r,h=>by
  rw [List.sum_cons]
  have h1:=h x (List.mem_cons_self ..)
  have h2:=Lq r fun y hy=>h y (List.mem_cons_of_mem _ hy)
  omega
theorem WP (ns:List Int) (j:Nat) (h:∀ n∈ns,0<=n):0<=(ns.take j).sum/\(ns.take j).sum<=ns.sum:=by
 have e:ns.sum=(ns.take j).sum+(ns.drop j).sum:=by rw [← List.sum_append,List.take_append_drop]
 have h1:=Lq (ns.take j) fun n hn=>h n (List.mem_of_mem_take hn)
 have h2:=Lq (ns.drop j) fun n hn=>h n (List.mem_of_mem_drop hn)
 omega
theorem KZ:∀ ns:List Int,(∀ n∈ns,0<=n)->∀ n∈ns,n<=ns.sum
 | [],_,n,hn=>nomatch hn
 | x::r,h,n,hn=>by
  rw [List.sum_cons]
  have h1:=h x (List.mem_cons_self ..)
  have h2:=Lq r fun y hy=>h y (List.mem_cons_of_mem _ hy)
  rcases List.mem_cons.mp hn with rfl | hn
  ·omega
  ·have:=KZ r (fun y hy=>h y (List.mem_cons_of_mem _ hy)) n hn
   omega
section
variable {X:Cx}
theorem Qx (hc:X.calm=true):Em X (.builtin "sum") (fun xs H Q=>∃ (p:Addr) (ns:List Int),xs=[V.ref p]/\DQ X.K H p (ns.map V.int)/\(∀ n∈ns,0<=n)/\ns.sum<=4611686018427387904/\Q (.int ns.sum) H):=by
 intro pins s σ H xs us Q I r h
 obtain ⟨p,ns,rfl,hp,hb,hl,q⟩:=h
 obtain ⟨u,rfl,ru⟩:=vals1 r
 cases ru
 obtain ⟨its,rv,pl,hz⟩:=I.list hp
 have hlen:ns.length=its.length:=by have:=rv.length; rw [List.length_map] at this; exact this
 have hlt:p<s.heap.objs.size:=by obtain ⟨_,e,_⟩:=pl.isList; exact Heap.lt_size e
 refine call_sum_walk (wpAny_pyIter_list pl.isList ?_)
 refine ⟨s.heap.objs.size,[s.heap.objs.size,p],[s.heap.objs.size],its.toArray.size,_,_,fun i=>(ns[i]?).getD 0,rfl,Walks.list (A:=X.A.in1) (I.ok.hd hc) _ p (Nat.ne_of_lt hlt) its.toArray,
  ⟨⟨_,Heap.get?_push_size _ rfl,rfl,rfl⟩,pl.isList.push _⟩,fun b hb=>?_,fun i v hP=>?_,fun j hj=>?_,fun h' tk t' hk=>?_⟩
 ·rw [Heap.size_push]
  rcases List.mem_cons.mp hb with rfl | hb
  ·exact Nat.lt_succ_self _
  ·rw [List.mem_singleton.mp hb]
   exact Nat.lt_succ_of_lt hlt
 ·have hP':its[i]? = some v:=by simpa using hP
  have hi:i<its.length:=(List.getElem?_eq_some_iff.mp hP').1
  have hb:ns[i]? = some ns[i]:=by simp [hlen,hi]
  obtain ⟨u,hu,ru⟩:=rv.get (i:=i) (x:=.int ns[i]) (by rw [List.getElem?_map,hb]; rfl)
  rw [hP'] at hu
  cases hu
  obtain ⟨t,rfl⟩:=ru
  exact ⟨t,by dsimp only; rw [hb]; rfl⟩
 ·have hj':j<ns.length:=by rw [hlen]; simpa using hj
  rw [Gs ns (j+1) (by omega)]
  have h1:=hb ns[j] (List.getElem_mem hj')
  have h2:=WP ns (j+1) hb
  have h3:=KZ ns hb ns[j] (List.getElem_mem hj')
  unfold InLong
  dsimp only
  rw [List.getElem?_eq_getElem hj']
  rw [Option.getD_some]
  refine ⟨⟨?_,?_⟩,⟨?_,?_⟩⟩ <;> omega
 ·have e:preSum (fun i=>(ns[i]?).getD 0) its.toArray.size=ns.sum:=by rw [List.size_toArray,← hlen,Gs ns _ (Nat.le_refl _),List.take_length]
  rw [e]
  refine ⟨.int ns.sum,H,I.kept (t':=tk) fun b o eb=>hk b o (fun hm=>?_) (Heap.get?_push_of_some _ eb),⟨_,rfl⟩,q⟩
  rw [List.mem_singleton.mp hm] at eb
  exact Nat.lt_irrefl _ (Heap.lt_size eb)
end
end L2
namespace Og
theorem Y9 {a n:Nat} (h:a.testBit n=false):a ||| 2 ^ n=a+2 ^ n:=by
 have e:=Nat.div_add_mod a (2 ^ n)
 have hr:a % 2 ^ n<2 ^ n:=Nat.mod_lt _ (Nat.two_pow_pos n)
 rw [Nat.testBit_eq_decide_div_mod_eq] at h
 have h2:a / 2 ^ n % 2=0:=by
  have:=of_decide_eq_false h
  omega
 obtain ⟨q,hq⟩:∃ q,a / 2 ^ n=2 * q:=⟨a / 2 ^ n / 2,by omega⟩
 rw [hq] at e
 generalize a % 2 ^ n=r at e hr
 have e1:2 ^ n * (2 * q)+r=2 ^ n * (2 * q) ||| r:=Nat.two_pow_add_eq_or_of_lt hr _
 have e2:2 ^ n * (2 * q+1)+r=2 ^ n * (2 * q+1) ||| r:=Nat.two_pow_add_eq_or_of_lt hr _
 have e3:2 * q ||| 1=2 * q+1:=by
  have:=Nat.two_pow_add_eq_or_of_lt (i:=1) (b:=1) (by decide) q
  rw [Nat.pow_one] at this
  exact this.symm
 have e4:2 ^ n * (2 * q) ||| 2 ^ n=2 ^ n * (2 * q+1):=by
  have e5:2 ^ n * (2 * q) ||| 2 ^ n * 1=2 ^ n * (2 * q ||| 1):=by
   rw [Nat.mul_comm,Nat.mul_comm (2 ^ n) 1,Nat.mul_comm (2 ^ n) (2 * q ||| 1),← Nat.shiftLeft_eq,← Nat.shiftLeft_eq,← Nat.shiftLeft_eq,Nat.shiftLeft_or_distrib]
  rw [Nat.mul_one,e3] at e5
  exact e5
 calc a ||| 2 ^ n=(2 ^ n * (2 * q) ||| r) ||| 2 ^ n:=by rw [← e1,e]
  _=(2 ^ n * (2 * q) ||| 2 ^ n) ||| r:=by rw [Nat.or_assoc,Nat.or_comm r,← Nat.or_assoc]
  _=2 ^ n * (2 * q+1)+r:=by rw [e4,e2]
  _=a+2 ^ n:=by rw [← e,Nat.mul_add,Nat.mul_one]; omega
theorem Sd:∀ l:List Nat,l.Nodup->(l.map fun n=>2 ^ n).sum=Wd.mk l:=by
 intro l
 suffices h:∀ r:List Nat,r.reverse.Nodup->(r.reverse.map fun n=>2 ^ n).sum=Wd.mk r.reverse by
  have:=h l.reverse
  rw [List.reverse_reverse] at this
  exact this
 intro r
 induction r with
 | nil=>intro _; rfl
 | cons x r ih =>
  intro nd
  rw [List.reverse_cons] at nd ⊢
  obtain ⟨n1,_,n2⟩:=List.nodup_append.mp nd
  have hx:x ∉ r.reverse:=fun hx=>n2 x hx x (List.mem_singleton.mpr rfl) rfl
  rw [List.map_append,List.sum_append,ih n1,Wd.Lk,Y9 (by rw [Wd.Tq]; exact decide_eq_false hx)]
  simp
theorem Yg {l:List Nat} {m:Nat} (hb:∀ n∈l,n<m):Wd.mk l<2 ^ m:=by
 refine Nat.lt_pow_two_of_testBit _ fun i hi=>?_
 rw [Wd.Tq]
 exact decide_eq_false fun h=>by have:=hb i h; omega
end Og
namespace Og
open PySem L2
theorem Ha.Ld {K:PySem.W.Frag} {aB aP aM:Addr} {rows:List R} {bs:List (Str × Nat)} {rk:List (Str × Nat × Int)} {ks:List R} {ls:List (List Ln)} {sts:List Nat} (h:Ha K aB aP aM rows bs rk ks ls sts):∀ r∈rows,r.w = "step"->∃ ts:List Str,V.str r.nm::r.rest=ts.map V.str/\ts.Nodup/\ts.length<=24/\∀ t∈ts,t∈ks.map (·.nm):=by
 intro r hr hw
 obtain ⟨ts,e1,e2,e3⟩:=h.sm r hr hw
 refine ⟨ts,e1,?_,e2,e3⟩
 have em:((List.range rows.length).map fun i:Nat=>V.int (i:Int)).map (Yj rows)=rows:=by
  rw [List.map_map]
  refine List.ext_getElem? fun i=>?_
  rw [List.getElem?_map]
  by_cases hi:i<rows.length
  ·rw [List.getElem?_range hi,List.getElem?_eq_getElem hi]
   show some (Yj rows (V.int (i:Int)))=_
   show some ((rows[((i:Nat):Int).toNat]?).getD ⟨"","",[]⟩)=_
   rw [Int.toNat_natCast,List.getElem?_eq_getElem hi]
   rfl
  ·rw [List.getElem?_eq_none (by rw [List.length_range]; omega),List.getElem?_eq_none (by omega)]
   rfl
 have O:=h.ok (Yj rows) _ em
 rw [← em] at hr
 obtain ⟨v,hv,rfl⟩:=List.mem_map.mp hr
 obtain ⟨i,hi,e⟩:=List.getElem_of_mem hv
 have ok:=O.ok i v (by rw [List.getElem?_eq_getElem hi,e])
 rcases ok with ok | ok
 ·exact absurd hw ok.ns
 ·obtain ⟨ts',f1,f2,_⟩:=ok.ts
  have:ts=ts':=by
   have:=e1.symm.trans f1
   exact (List.map_inj_right (fun x y h=>V.str.inj h)).mp this
  rw [this]
  exact f2
theorem Q_ {ns ts:List Str} (nd:ts.Nodup) (hin:∀ t∈ts,t∈ns):(ts.map fun t=>ns.idxOf t).Nodup:=by
 induction ts with
 | nil=>exact List.nodup_nil
 | cons t ts ih =>
  rw [List.map_cons,List.nodup_cons]
  obtain ⟨n1,n2⟩:=List.nodup_cons.mp nd
  refine ⟨fun hm=>?_,ih n2 fun x hx=>hin x (List.mem_cons_of_mem _ hx)⟩
  obtain ⟨x,hx,e⟩:=List.mem_map.mp hm
  have a1:=GQ (hin t (List.mem_cons_self ..))
  have a2:=GQ (hin x (List.mem_cons_of_mem _ hx))
  rw [e,a1] at a2
  rw [Option.some.inj a2] at n1
  exact n1 hx
end Og
section PartK39a
set_option maxHeartbeats 4000000
namespace K39
open PySem L2 Og
noncomputable def top (i:Nat):Stmt:=PySem.Challenge.pw_windchest_k39_whole_pressed_again.main.body.getD i (.Pass ⟨0,0,0,0⟩)
noncomputable abbrev ju:Stmt:=top 16
noncomputable abbrev cH:Stmt:=top 17
noncomputable abbrev ik:Stmt:=top 18
noncomputable abbrev gO:Stmt:=top 38
noncomputable abbrev gJ:Stmt:=top 39
noncomputable abbrev jx:Stmt:=top 40
noncomputable abbrev gw:Stmt:=top 41
noncomputable abbrev gn:Stmt:=top 42
noncomputable abbrev jT:Stmt:=top 43
noncomputable abbrev gU:Stmt:=top 44
noncomputable abbrev j_:Stmt:=top 45
noncomputable abbrev gj:Stmt:=top 46
noncomputable abbrev kh:Stmt:=top 47
noncomputable abbrev nW:Stmt:=top 48
noncomputable abbrev jV:Stmt:=top 49
noncomputable abbrev lV:Stmt:=top 50
noncomputable abbrev m7:Stmt:=top 53
noncomputable abbrev gF:Stmt:=top 54
noncomputable abbrev jo:Stmt:=top 55
noncomputable abbrev gP:Stmt:=top 56
noncomputable abbrev nq:Stmt:=top 21
noncomputable abbrev gm:Stmt:=top 22
noncomputable abbrev jQ:Stmt:=top 23
noncomputable abbrev jn:Stmt:=top 26
noncomputable abbrev jk:Stmt:=top 27
noncomputable abbrev g_:Stmt:=top 28
noncomputable abbrev mX:Stmt:=top 29
noncomputable abbrev gG:Stmt:=top 59
noncomputable abbrev jD:Stmt:=top 60
noncomputable abbrev nO:Stmt:=top 61
noncomputable abbrev gq:Stmt:=top 62
noncomputable abbrev iB:Stmt:=top 63
noncomputable abbrev ZL:Stmt:=top 64
noncomputable abbrev nJ:Stmt:=top 65
noncomputable abbrev jL:Stmt:=top 67
noncomputable abbrev gZ:Stmt:=top 66
noncomputable abbrev lK:Stmt:=top 68
noncomputable abbrev mJ:Stmt:=top 69
noncomputable abbrev gM:Stmt:=top 70
noncomputable abbrev iz:Stmt:=top 71
noncomputable abbrev jE:Stmt:=top 72
noncomputable abbrev Va:Stmt:=inClass (top 57) 0
noncomputable abbrev jR:Stmt:=inClass (top 57) 11
noncomputable abbrev jh:Stmt:=inClass (top 57) 13
noncomputable abbrev lL:Stmt:=inClass (top 57) 12
noncomputable abbrev lQ:Stmt:=inClass (top 57) 17
noncomputable abbrev gf:Stmt:=inClass (top 57) 4
noncomputable abbrev lO:Stmt:=inClass (top 30) 0
noncomputable abbrev my:Stmt:=inClass (top 30) 1
noncomputable abbrev jO:Stmt:=inClass (top 30) 2
noncomputable abbrev iw:Stmt:=inClass (top 30) 3
noncomputable abbrev lE:Stmt:=inClass (top 30) 8
noncomputable abbrev l_:Stmt:=inClass (top 30) 9
noncomputable abbrev jq:Stmt:=inClass (top 30) 10
noncomputable abbrev lB:Stmt:=inClass (top 30) 7
noncomputable abbrev R4:Stmt:=inClass (top 30) 4
noncomputable abbrev lq:Stmt:=inClass (top 30) 5
noncomputable abbrev iW:Stmt:=inClass (top 30) 6
noncomputable abbrev iR:Stmt:=inClass (top 10) 0
noncomputable abbrev lg:Stmt:=inClass (top 11) 0
noncomputable abbrev kW:Stmt:=inClass (top 12) 0
noncomputable abbrev iH:Stmt:=inClass (top 12) 1
noncomputable abbrev Ml:Stmt:=top 73
structure Txt (K:PySem.W.Frag) (P:Params) (mg:Str->Option Value) (C Cy cK cP cB cS cO pB pE pA aN aK aB aP aM:Addr):Prop where
 len:mg "len" = none
 isin:mg "isinstance" = none
 int:mg "int" = none
 bool:mg "bool" = none
 str:mg "str" = none
 list:mg "list" = none
 tuple:mg "tuple" = none
 all:mg "all" = none
 any:mg "any" = none
 sum:mg "sum" = none
 range:mg "range" = none
 zip:mg "zip" = none
 enumerate:mg "enumerate" = none
 max:mg "max" = none
 reversed:mg "reversed" = none
 set:mg "set" = none
 abs:mg "abs" = none
 letters:∃ t,mg "LETTERS" = some (.str letters t)
 mostL:∃ t,mg "MOST_LETTERS" = some (.int 8 t)
 mostR:∃ t,mg "MOST_ROWS" = some (.int 150 t)
 mostLn:∃ t,mg "MOST_LINES" = some (.int 4 t)
 below:∃ t,mg "MEMBERS_BELOW" = some (.int 1200 t)
 mN:mg "NAMED" = some (.ref aN)
 mK:mg "KNOBS" = some (.ref aK)
 mB:mg "BOUNDS" = some (.ref aB)
 mP:mg "PARTS" = some (.ref aP)
 mM:mg "MOST_OF" = some (.ref aM)
 tN:KTup K aN (named.map V.str)
 tK:KTup K aK [.str "stop",.str "coupler",.str "mute"]
 dB:KDict K P aB
 dP:KDict K P aP
 dM:KDict K P aM
 cl:NQ K C
 mC:mg "Organ" = some (.ref C)
 clR:NQ K Cy
 mCR:mg "Console" = some (.ref Cy)
 nr_organ:CQ K Cy "organ"
 nr_drawn_set:CQ K Cy "drawn_set"
 nr_shoe_step:CQ K Cy "shoe_step"
 nr_stored:CQ K Cy "stored"
 x4:pY K mg cK cP cB cS cO
 pis:lJ K mg pB pE pA
 n_row_list:CQ K C "row_list"
 n_board_list:CQ K C "board_list"
 n_rank_list:CQ K C "rank_list"
 n_knob_rows:CQ K C "knob_rows"
 n_board_numbers:CQ K C "board_numbers"
 n_rank_numbers:CQ K C "rank_numbers"
 n_knob_numbers:CQ K C "knob_numbers"
 n_key_places:CQ K C "key_places"
 n_pipe_places:CQ K C "pipe_places"
 n_knob_lines:CQ K C "knob_lines"
 n_step_sets:CQ K C "step_sets"
structure nu (K:PySem.W.Frag) (mg:Str->Option Value) (C Cy pB pE pA fWh fMd fNm fRo fTo fWi fPa fHp fCl fIk fSb fIs fWm fHr fIr fCk fNu fPl fLi fSs fMy fSt fUn fKn fBn fKb fIp fDn fDw fNa fLg fLx fSp fOb fLm fDe fDo fWo fOn fFi fIf fOi fOu fBk fOj fOy fOz fXi fXd fXp fXq fXw fXk fXs fXh fXt fXr fXc fPi fEp fAi fAp:Addr) (dWh dMd dNm dRo dTo dWi dPa dHp dCl dIk dSb dIs dWm dHr dIr dCk dNu dPl dLi dSs dMy dSt dUn dKn dBn dKb dIp dDn dDw dNa dLg dLx dSp dOb dLm dDe dDo dWo dOn dFi dIf dOi dOu dBk dOj dOy dOz dXi dXd dXp dXq dXw dXk dXs dXh dXt dXr dXc dPi dEp dAi dAp:FuncData):Prop where
 FWh:DW K "is_whole" "is_whole" ju fWh dWh∧Binds K dWh ["thing"] []∧mg "is_whole" = some (.ref fWh)
 FMd:DW K "is_made_of" "is_made_of" cH fMd dMd∧Binds K dMd ["text","signs","most"] []∧mg "is_made_of" = some (.ref fMd)
 FNm:DW K "is_name" "is_name" ik fNm dNm∧Binds K dNm ["thing"] []∧mg "is_name" = some (.ref fNm)
 FRo:DW K "rows_of" "rows_of" gO fRo dRo∧Binds K dRo ["rows","word"] []∧mg "rows_of" = some (.ref fRo)
 FTo:DW K "is_told" "is_told" gJ fTo dTo∧Binds K dTo ["rows","word","thing"] []∧mg "is_told" = some (.ref fTo)
 FWi:DW K "is_within" "is_within" jx fWi dWi∧Binds K dWi ["thing","bounds"] []∧mg "is_within" = some (.ref fWi)
 FPa:DW K "is_part" "is_part" gw fPa dPa∧Binds K dPa ["thing","part","ahead"] []∧mg "is_part" = some (.ref fPa)
 FHp:DW K "has_parts" "has_parts" gn fHp dHp∧Binds K dHp ["row","ahead"] []∧mg "has_parts" = some (.ref fHp)
 FCl:DW K "count_of_last_lines" "count_of_last_lines" jT fCl dCl∧Binds K dCl ["rows"] []∧mg "count_of_last_lines" = some (.ref fCl)
 FIk:DW K "is_key_of" "is_key_of" gU fIk dIk∧Binds K dIk ["number","board","ahead"] []∧mg "is_key_of" = some (.ref fIk)
 FSb:DW K "stands_behind_stop" "stands_behind_stop" j_ fSb dSb∧Binds K dSb ["line","ahead"] []∧mg "stands_behind_stop" = some (.ref fSb)
 FIs:DW K "is_step" "is_step" gj fIs dIs∧Binds K dIs ["row","ahead"] []∧mg "is_step" = some (.ref fIs)
 FWm:DW K "is_well_made" "is_well_made" kh fWm dWm∧Binds K dWm ["row","ahead"] []∧mg "is_well_made" = some (.ref fWm)
 FHr:DW K "has_room" "has_room" nW fHr dHr∧Binds K dHr ["word","ahead"] []∧mg "has_room" = some (.ref fHr)
 FIr:DW K "is_row" "is_row" jV fIr dIr∧Binds K dIr ["thing","ahead"] []∧mg "is_row" = some (.ref fIr)
 FCk:DW K "check_rows" "check_rows" lV fCk dCk∧Binds K dCk ["rows"] []∧mg "check_rows" = some (.ref fCk)
 FNu:DW K "numbers_of" "numbers_of" m7 fNu dNu∧Binds K dNu ["names"] []∧mg "numbers_of" = some (.ref fNu)
 FPl:DW K "places_of" "places_of" gF fPl dPl∧Binds K dPl ["things"] []∧mg "places_of" = some (.ref fPl)
 FLi:DW K "lines_by_knob" "lines_by_knob" jo fLi dLi∧Binds K dLi ["rows","rank_numbers"] []∧mg "lines_by_knob" = some (.ref fLi)
 FSs:DW K "set_of_step" "set_of_step" gP fSs dSs∧Binds K dSs ["row","knob_numbers"] []∧mg "set_of_step" = some (.ref fSs)
 FMy:DW K "may_be_member" "may_be_member" nq fMy dMy∧Binds K dMy ["thing"] []∧mg "may_be_member" = some (.ref fMy)
 FSt:DW K "set_of" "set_of" gm fSt dSt∧Binds K dSt ["numbers"] []∧mg "set_of" = some (.ref fSt)
 FUn:DW K "union_of" "union_of" jQ fUn dUn∧Binds K dUn ["sets"] []∧mg "union_of" = some (.ref fUn)
 FKn:DW K "knob_named" "knob_named" jn fKn dKn∧Binds K dKn ["organ","name"] []∧mg "knob_named" = some (.ref fKn)
 FBn:DW K "board_named" "board_named" jk fBn dBn∧Binds K dBn ["organ","name"] []∧mg "board_named" = some (.ref fBn)
 FKb:DW K "knobs_of_board" "knobs_of_board" g_ fKb dKb∧Binds K dKb ["organ","name"] []∧mg "knobs_of_board" = some (.ref fKb)
 FIp:DW K "is_piston" "is_piston" mX fIp dIp∧Binds K dIp ["thing"] []∧mg "is_piston" = some (.ref fIp)
 FDn:DW K "_law_drawn" "_law_drawn" gG fDn dDn∧Binds K dDn ["_law_script","_law_start"] []∧mg "_law_drawn" = some (.ref fDn)
 FDw:DW K "_law_draw" "_law_draw" jD fDw dDw∧Binds K dDw ["_law_drawn_here","_law_many"] []∧mg "_law_draw" = some (.ref fDw)
 FNa:DW K "_law_name" "_law_name" nO fNa dNa∧Binds K dNa ["_law_kind","_law_at","_law_k"] []∧mg "_law_name" = some (.ref fNa)
 FLg:DW K "_law_organ" "_law_organ" gq fLg dLg∧Binds K dLg ["_law_drawn_here"] []∧mg "_law_organ" = some (.ref fLg)
 FLx:DW K "_law_knobs" "_law_knobs" iB fLx dLx∧Binds K dLx ["_law_rows"] []∧mg "_law_knobs" = some (.ref fLx)
 FSp:DW K "_law_steps" "_law_steps" ZL fSp dSp∧Binds K dSp ["_law_rows"] []∧mg "_law_steps" = some (.ref fSp)
 FOb:DW K "_law_of_board" "_law_of_board" nJ fOb dOb∧Binds K dOb ["_law_rows","_law_board"] []∧mg "_law_of_board" = some (.ref fOb)
 FLm:DW K "_law_names" "_law_names" jL fLm dLm∧Binds K dLm ["_law_e"] []∧mg "_law_names" = some (.ref fLm)
 FDe:DW K "_law_deed" "_law_deed" gZ fDe dDe∧Binds K dDe ["_law_rows","_law_number"] []∧mg "_law_deed" = some (.ref fDe)
 FDo:DW K "_law_do" "_law_do" lK fDo dDo∧Binds K dDo ["_law_console","_law_deed_here"] []∧mg "_law_do" = some (.ref fDo)
 FWo:DW K "_law_whole_of" "_law_whole_of" mJ fWo dWo∧Binds K dWo ["_law_rows","_law_deed_here"] []∧mg "_law_whole_of" = some (.ref fWo)
 FOn:DW K "_law_one" "_law_one" gM fOn dOn∧Binds K dOn ["_law_rows","_law_name_here"] []∧mg "_law_one" = some (.ref fOn)
 FFi:DW K "_law_fits" "_law_fits" iz fFi dFi∧Binds K dFi ["_law_rows","_law_deed_here","_law_ahead","_law_behind","_law_kept"] []∧mg "_law_fits" = some (.ref fFi)
 FIf:DW K "_law_in_force" "_law_in_force" jE fIf dIf∧Binds K dIf ["_law_console","_law_rows"] []∧mg "_law_in_force" = some (.ref fIf)
 FOi:DW K "__init__" "Organ.__init__" Va fOi dOi∧Binds K dOi ["self","rows"] []∧Mk K C fOi
 FOu:DW K "board_number" "Organ.board_number" jR fOu dOu∧Binds K dOu ["self","name"] []∧Meth K C "board_number" fOu
 FBk:DW K "board_of_knob" "Organ.board_of_knob" jh fBk dBk∧Binds K dBk ["self","knob"] []∧Meth K C "board_of_knob" fBk
 FOj:DW K "knob_number" "Organ.knob_number" lL fOj dOj∧Binds K dOj ["self","name"] []∧Meth K C "knob_number" fOj
 FOy:DW K "steps" "Organ.steps" lQ fOy dOy∧Binds K dOy ["self"] []∧Meth K C "steps" fOy
 FOz:DW K "knobs" "Organ.knobs" gf fOz dOz∧Binds K dOz ["self"] []∧Meth K C "knobs" fOz
 FXi:DW K "__init__" "Console.__init__" lO fXi dXi∧Binds K dXi ["self","organ"] []∧Mk K Cy fXi
 FXd:DW K "draw" "Console.draw" my fXd dXd∧Binds K dXd ["self","knobs"] []∧Meth K Cy "draw" fXd
 FXp:DW K "pull" "Console.pull" jO fXp dXp∧Binds K dXp ["self","name"] []∧Meth K Cy "pull" fXp
 FXq:DW K "push" "Console.push" iw fXq dXq∧Binds K dXq ["self","name"] []∧Meth K Cy "push" fXq
 FXw:DW K "drawn" "Console.drawn" lE fXw dXw∧Binds K dXw ["self"] []∧Meth K Cy "drawn" fXw
 FXk:DW K "knobs" "Console.knobs" l_ fXk dXk∧Binds K dXk ["self"] []∧Meth K Cy "knobs" fXk
 FXs:DW K "step" "Console.step" jq fXs dXs∧Binds K dXs ["self"] []∧Meth K Cy "step" fXs
 FXh:DW K "shoe" "Console.shoe" lB fXh dXh∧Binds K dXh ["self","step"] []∧Meth K Cy "shoe" fXh
 FXt:Wu K "store" "Console.store" R4 fXt dXt∧Binds K dXt ["self","piston","board"] []∧Meth K Cy "store" fXt
 FXr:DW K "press" "Console.press" lq fXr dXr∧Binds K dXr ["self","piston"] []∧Meth K Cy "press" fXr
 FXc:DW K "cancel" "Console.cancel" iW fXc dXc∧Binds K dXc ["self"] []∧Meth K Cy "cancel" fXc
 FPi:DW K "__init__" "Piston.__init__" iR fPi dPi∧Binds K dPi ["self","knobs"] []∧Mk K pE fPi
 FEp:DW K "put" "Every.put" lg fEp dEp∧Binds K dEp ["self","drawn"] []∧Meth K pE "put" fEp
 FAi:DW K "__init__" "Part.__init__" kW fAi dAi∧Binds K dAi ["self","knobs","whole"] []∧Mk K pA fAi
 FAp:DW K "put" "Part.put" iH fAp dAp∧Binds K dAp ["self","drawn"] []∧Meth K pA "put" fAp
 bXt0:Binds K dXt ["self","piston","board"] [.none]
 cPi:XQ K pB "__init__" fPi (.type "type")
section
variable {P:Program} {w:World} {K:PySem.W.Frag} {mg:Str->Option Value} {base:Heap} {C Cy cK cP cB cS cO pB pE pA aN aK aB aP aM:Addr} {fWh fMd fNm fRo fTo fWi fPa fHp fCl fIk fSb fIs fWm fHr fIr fCk fNu fPl fLi fSs fMy fSt fUn fKn fBn fKb fIp fDn fDw fNa fLg fLx fSp fOb fLm fDe fDo fWo fOn fFi fIf fOi fOu fBk fOj fOy fOz fXi fXd fXp fXq fXw fXk fXs fXh fXt fXr fXc fPi fEp fAi fAp:Addr} {dWh dMd dNm dRo dTo dWi dPa dHp dCl dIk dSb dIs dWm dHr dIr dCk dNu dPl dLi dSs dMy dSt dUn dKn dBn dKb dIp dDn dDw dNa dLg dLx dSp dOb dLm dDe dDo dWo dOn dFi dIf dOi dOu dBk dOj dOy dOz dXi dXd dXp dXq dXw dXk dXs dXh dXt dXr dXc dPi dEp dAi dAp:FuncData}
variable (N:nu K mg C Cy pB pE pA fWh fMd fNm fRo fTo fWi fPa fHp fCl fIk fSb fIs fWm fHr fIr fCk fNu fPl fLi fSs fMy fSt fUn fKn fBn fKb fIp fDn fDw fNa fLg fLx fSp fOb fLm fDe fDo fWo fOn fFi fIf fOi fOu fBk fOj fOy fOz fXi fXd fXp fXq fXw fXk fXs fXh fXt fXr fXc fPi fEp fAi fAp dWh dMd dNm dRo dTo dWi dPa dHp dCl dIk dSb dIs dWm dHr dIr dCk dNu dPl dLi dSs dMy dSt dUn dKn dBn dKb dIp dDn dDw dNa dLg dLx dSp dOb dLm dDe dDo dWo dOn dFi dIf dOi dOu dBk dOj dOy dOz dXi dXd dXp dXq dXw dXk dXs dXh dXt dXr dXc dPi dEp dAi dAp) (T:Txt K w.params mg C Cy cK cP cB cS cO pB pE pA aN aK aB aP aM)
noncomputable def V_:Sp:=fun vs H Q _=>∃ i:Int,vs=[.int i]/\Q (.bl true) H
theorem aO:Ao ["thing"] ["thing"] (Af ju):=Bm
include N T in
theorem Ww:Aw P w K mg base Bg 1 fWh dWh ["thing"] V_:=by
 refine N.FWh.1.ok aO (fun vs H Q E h=>?_) (fun cdv A outer s H vs Q E hr h=>?_)
 ·obtain ⟨i,rfl,_⟩:=h
  rfl
 ·obtain ⟨i,rfl,q⟩:=h
  refine ⟨_,(Ae (Av (Dc (BK Cw rfl T.isin PyProof.Rows.boot_isinstance (Ab (pv 0) (Ab (EY (v:=.ty "int") rfl T.int PyProof.Rows.boot_int rfl) Aa))) (DP (Pq (BK Cw rfl T.isin PyProof.Rows.boot_isinstance (Ab (pv 0) (Ab (EY (v:=.ty "bool") rfl T.bool PyProof.Rows.boot_bool rfl) Aa)))))))),?_⟩
  refine ⟨_,rfl,_,"int",_,_,rfl,.int i,ty_int,_,rfl,Cm ?_⟩
  exact ⟨_,rfl,_,"bool",_,_,rfl,.int i,XD,_,rfl,q⟩
noncomputable def dI:Sp:=fun vs H Q _=>∃ z:Str,vs=[.str z,.str letters,.int 8]/\isNm z/\∀ H',Ak H H'->Q (.bl true) H'
theorem Zy:Ao ["text","signs","most"] ["text","signs","most"] (Af cH):=Bm
include N T in
theorem Z0:Aw P w K mg base Bg 1 fMd dMd ["text","signs","most"] dI:=by
 refine N.FMd.1.ok Zy (fun vs H Q E h=>?_) (fun cdv A outer s H vs Q E hr h=>?_)
 ·obtain ⟨z,rfl,_⟩:=h
  rfl
 ·obtain ⟨z,rfl,hz,q⟩:=h
  refine ⟨_,(Ae (Av (Dc (Gq Fy Fy Ac (BK IK rfl T.len PySem.boot_len (Ab (pv 0) Aa)) (pv 2)) (DP (BK (G_ rfl) rfl T.all PyProof.Rows.boot_all (Ab (Bk rfl (Bb (osc:=Af cH) (N:=["text","signs","most"]) rfl rfl (by decide +kernel)) (UL (pv 0)) (fun _ _ _ _=>Ck) (fun _ _ _ _=>(Cg Kz (pv 0) (pv 2) rfl))) Aa)))))),?_⟩
  have hzl:z.length<sizeLine:=BJ (by have:=hz.2.1; omega)
  refine ⟨_,rfl,z,rfl,Nat.le_of_lt hzl,_,_,rfl,rfl,_,rfl,?_⟩
  refine Cq (fun h1=>?_) (fun h1=>absurd (decide_eq_true (by have:=hz.1; omega)) h1)
  refine ⟨_,rfl,_,_,rfl,rfl,_,rfl,?_⟩
  refine Cq (fun h2=>?_) (fun h2=>absurd (decide_eq_true (by have:=hz.2.1; omega)) h2)
  refine ⟨_,rfl,z,rfl,Nu (fun _=>true) (fun c=>.bl (Wv letters c)) hzl (fun c hc H' hs R k=>k H' (Ak.refl H')) (fun c hc _ H' hs R k=>⟨_,rfl,_,rfl,_,_,rfl,rfl,k H' (Ak.refl H')⟩) (fun D H' hD hs hl=>?_)⟩
  refine ⟨D,z.cps.toList.map (Wv letters),rfl,.inl (.inl ?_),?_⟩
  ·rw [hl,List.filter_eq_self.mpr (fun _ _=>rfl),List.map_map]
   rfl
  ·have e:(z.cps.toList.map (Wv letters)).all id=true:=by
    rw [List.all_map,List.all_eq_true]
    intro c hc
    have:=hz.2.2 c hc
    show Wv letters c=true
    rw [Ly c (by omega)]
    exact decide_eq_true this
   rw [e]
   exact q H' hs
noncomputable def Xn:Sp:=fun vs H Q _=>∃ z:Str,vs=[.str z]/\isNm z/\∀ H',Ak H H'->Q (.bl true) H'
theorem aV:Ao ["thing"] ["thing"] (Af ik):=Bm
include N T in
theorem XX:Aw P w K mg base Bg 2 fNm dNm ["thing"] Xn:=by
 have GMd:Aw P w K mg base Bg 1 fMd dMd ["text","signs","most"] dI:=Z0 N T
 refine N.FNm.1.ok aV (fun vs H Q E h=>?_) (fun cdv A outer s H vs Q E hr h=>?_)
 ·obtain ⟨z,rfl,_⟩:=h
  rfl
 ·obtain ⟨z,rfl,hz,q⟩:=h
  have hrMd:BX 1 _:=hr.mono (by decide)
  obtain ⟨tLET,hLET⟩:=T.letters
  obtain ⟨tML,hML⟩:=T.mostL
  refine ⟨_,(Ae (Av (Dc (BK Cw rfl T.isin PyProof.Rows.boot_isinstance (Ab (pv 0) (Ab (EY (v:=.ty "str") rfl T.str PyProof.Rows.boot_str rfl) Aa))) (DP (Al GMd hrMd rfl N.FMd.2.2 N.FMd.1.kp N.FMd.2.1 .nil Ay (Ab (pv 0) (Ab (Bu (v:=.str letters) rfl hLET ⟨tLET,rfl⟩) (Ab (Bu (v:=.int 8) rfl hML ⟨tML,rfl⟩) Aa)))))))),?_⟩
  refine ⟨_,rfl,_,"str",_,_,rfl,.str z,U6,_,rfl,Cm ?_⟩
  exact ⟨_,rfl,z,rfl,hz,q⟩
noncomputable def Rr:Sp:=fun vs H Q _=>∃ (p:Addr) (us:List V) (w:Str) (ρ:V->R),vs=[.ref p,.str w]/\H p=some (.lst us)/\Rows H ρ us/\us.length<=500/\∀ D H',H D=none->Ak H H'->H' D=some (.lst (us.filter (pw ρ w)))->Q (.ref D) H'
theorem nD:Ao ["rows","word"] ["rows","word"] (Af gO):=Bm
include N T in
theorem Nj:Aw P w K mg base Bg 1 fRo dRo ["rows","word"] Rr:=by
 refine N.FRo.1.ok nD (fun vs H Q E h=>?_) (fun cdv A outer s H vs Q E hr h=>?_)
 ·obtain ⟨p,us,w,ρ,rfl,_⟩:=h
  rfl
 ·obtain ⟨p,us,w,ρ,rfl,hp,hR,hl,q⟩:=h
  refine ⟨_,(Ae (Av (Bk rfl (Bb (osc:=Af gO) (N:=["rows","word"]) rfl rfl (by decide +kernel)) (Bq (pv 0)) (fun _ _ _ _=>(Hn (Az Be (A_ (An (K:=K) rfl) (pv 0) Ac (fun _ _=>rfl)) (pv 2) (BL _)))) (fun _ _ _ _=>(pv 0))))),?_⟩
  have hS:DQ K H p us:=.inl (.inl hp)
  refine ⟨_,rfl,p,rfl,⟨_,hS⟩,Cv (K:=K) (xs:=us) (pw ρ w) id hS (BJ (by omega)) (fun x hx H' hs R k=>?_) (fun x hx _ H' hs R k=>⟨_,rfl,k H' (Ak.refl H')⟩) (fun D H' hD hs hl'=>?_)⟩
  ·obtain ⟨T0,rfl,hT⟩:=(hR x hx).mono hs
   exact ⟨_,rfl,T0,_,_,_,rfl,rfl,.inl (.inl hT),Aj (j:=0) rfl,_,rfl,rfl,_,rfl,k H' (Ak.refl H')⟩
  ·rw [List.map_id] at hl'
   exact q D H' hD hs hl'
noncomputable def Yb:Sp:=fun vs H Q _=>∃ (p:Addr) (us:List V) (w t:Str) (ρ:V->R),vs=[.ref p,.str w,.str t]/\H p=some (.lst us)/\Rows H ρ us/\us.length<=500/\isNm t/\∀ H',Ak H H'->Q (.bl (VP ρ us w t)) H'
theorem jJ:Ao ["rows","word","thing"] ["rows","word","thing"] (Af gJ):=Bm
include N T in
theorem W2:Aw P w K mg base Bg 3 fTo dTo ["rows","word","thing"] Yb:=by
 have GNm:Aw P w K mg base Bg 2 fNm dNm ["thing"] Xn:=XX N T
 have GRo:Aw P w K mg base Bg 1 fRo dRo ["rows","word"] Rr:=Nj N T
 refine N.FTo.1.ok jJ (fun vs H Q E h=>?_) (fun cdv A outer s H vs Q E hr h=>?_)
 ·obtain ⟨p,us,w,t,ρ,rfl,_⟩:=h
  rfl
 ·obtain ⟨p,us,w,t,ρ,rfl,hp,hR,hl,ht,q⟩:=h
  have hrNm:BX 2 _:=hr.mono (by decide)
  have hrRo:BX 1 _:=hr.mono (by decide)
  refine ⟨_,(Ae (Av (Dc (Al GNm hrNm rfl N.FNm.2.2 N.FNm.1.kp N.FNm.2.1 .nil Ay (Ab (pv 2) Aa)) (DP (BK (J4 rfl) rfl T.any PyProof.Rows.boot_any (Ab (Bk rfl (Bb (osc:=Af gJ) (N:=["rows","word","thing"]) rfl rfl (by decide +kernel)) (Bq (Al GRo hrRo rfl N.FRo.2.2 N.FRo.1.kp N.FRo.2.1 .nil Ay (Ab (pv 0) (Ab (pv 1) Aa)))) (fun _ _ _ _=>Ck) (fun _ _ _ _=>(Cg Be (A_ (An (K:=K) rfl) (pv 0) Ac (fun _ _=>rfl)) (pv 3) (BL _)))) Aa)))))),?_⟩
  refine ⟨_,rfl,t,rfl,ht,fun H1 s1=>⟨_,rfl,Cm ?_⟩⟩
  refine ⟨_,rfl,_,rfl,p,us,w,ρ,rfl,s1 _ _ hp,hR.mono s1,hl,fun D H2 hD s2 hl2=>?_⟩
  have hS:DQ K H2 D (us.filter (pw ρ w)):=.inl (.inl hl2)
  refine ⟨D,rfl,⟨_,hS⟩,Cv (K:=K) (xs:=us.filter (pw ρ w)) (fun _=>true) (fun v=>.bl (pn ρ t v)) hS (BJ (by have:=Hf (pw ρ w) us; omega)) (fun x hx H' hs R k=>k H' (Ak.refl H')) (fun x hx _ H' hs R k=>?_) (fun D3 H3 hD3 s3 hl3=>?_)⟩
  ·obtain ⟨T0,rfl,hT⟩:=(((hR.mono s1).mono s2).mono hs) x (List.mem_filter.mp hx).1
   exact ⟨_,rfl,T0,_,_,_,rfl,rfl,.inl (.inl hT),Aj (j:=1) rfl,_,rfl,rfl,k H' (Ak.refl H')⟩
  ·refine ⟨D3,(us.filter (pw ρ w)).map (pn ρ t),rfl,.inl (.inl ?_),?_⟩
   ·rw [hl3,List.filter_eq_self.mpr (fun _ _=>rfl),List.map_map]
    rfl
   ·have e:((us.filter (pw ρ w)).map (pn ρ t)).any id=VP ρ us w t:=by
     rw [List.any_map]
     rfl
    rw [e]
    exact q H3 ((s1.trans s2).trans s3)
noncomputable def Zk (K:PySem.W.Frag):Sp:=fun vs H Q _=>∃ (i lo hi:Int) (b:Addr),vs=[.int i,.ref b]/\KTup K b [.int lo,.int hi]/\lo<=i/\i<=hi/\Q (.bl true) H
theorem lR:Ao ["thing","bounds"] ["thing","bounds"] (Af jx):=Bm
include N T in
theorem aR:Aw P w K mg base Bg 2 fWi dWi ["thing","bounds"] (Zk K):=by
 have GWh:Aw P w K mg base Bg 1 fWh dWh ["thing"] V_:=Ww N T
 refine N.FWi.1.ok lR (fun vs H Q E h=>?_) (fun cdv A outer s H vs Q E hr h=>?_)
 ·obtain ⟨i,lo,hi,b,rfl,_⟩:=h
  rfl
 ·obtain ⟨i,lo,hi,b,rfl,hb,h1,h2,q⟩:=h
  have hrWh:BX 1 _:=hr.mono (by decide)
  refine ⟨_,(Ae (Av (Dc (Al GWh hrWh rfl N.FWh.2.2 N.FWh.1.kp N.FWh.2.1 .nil Ay (Ab (pv 0) Aa)) (DP (Gq Fy Fy (A_ (An (K:=K) rfl) (pv 1) Ac (fun _ _=>rfl)) (pv 0) (A_ (An (K:=K) rfl) (pv 1) Ac (fun _ _=>rfl))))))),?_⟩
  refine ⟨_,rfl,i,rfl,_,rfl,Cm ?_⟩
  refine ⟨_,rfl,b,_,_,_,rfl,rfl,hb.sq _,Aj (j:=0) rfl,_,rfl,_,_,rfl,rfl,_,rfl,?_⟩
  refine Cq (fun _=>?_) (fun z=>absurd (decide_eq_true h1) z)
  refine ⟨_,rfl,b,_,_,_,rfl,rfl,hb.sq _,Aj (j:=1) rfl,_,_,rfl,rfl,?_⟩
  show Q (.bl (decide (i<=hi))) H
  rw [decide_eq_true h2]
  exact q
noncomputable def d7 (K:PySem.W.Frag) (aB:Addr):Sp:=fun vs H Q _=>∃ (x:V) (part:Str) (p:Addr) (us:List V) (ρ:V->R),vs=[x,.str part,.ref p]/\H p=some (.lst us)/\Rows H ρ us/\us.length<=500/\Hw K aB ρ us x part/\∀ H',Ak H H'->Q (.bl true) H'
theorem lU:Ao ["thing","part","ahead"] ["thing","part","ahead"] (Af gw):=Bm
include N T in
theorem Zx:Aw P w K mg base Bg 4 fPa dPa ["thing","part","ahead"] (d7 K aB):=by
 have GNm:Aw P w K mg base Bg 2 fNm dNm ["thing"] Xn:=XX N T
 have GTo:Aw P w K mg base Bg 3 fTo dTo ["rows","word","thing"] Yb:=W2 N T
 have GWi:Aw P w K mg base Bg 2 fWi dWi ["thing","bounds"] (Zk K):=aR N T
 refine N.FPa.1.ok lU (fun vs H Q E h=>?_) (fun cdv A outer s H vs Q E hr h=>?_)
 ·obtain ⟨x,part,p,us,ρ,rfl,_⟩:=h
  rfl
 ·obtain ⟨x,part,p,us,ρ,rfl,hp,hR,hl,hok,q⟩:=h
  have hrNm:BX 2 _:=hr.mono (by decide)
  have hrTo:BX 3 _:=hr.mono (by decide)
  have hrWi:BX 2 _:=hr.mono (by decide)
  refine ⟨_,(Ad (Bc (U5 (SM (pv 1) (Bu (v:=.ref aB) rfl T.mB rfl))) (Ae (Av (Al GWi hrWi rfl N.FWi.2.2 N.FWi.1.kp N.FWi.2.1 .nil Ay (Ab (pv 0) (Ab (Mm (Bu (v:=.ref aB) rfl T.mB rfl) (pv 1) (fun _ _=>rfl)) Aa))))) BW)
   (Ad (Bc (Az Be (pv 1) BR (BL _)) (Ae (Av (Dc (Al GNm hrNm rfl N.FNm.2.2 N.FNm.1.kp N.FNm.2.1 .nil Ay (Ab (pv 0) Aa)) (DP (Pq (BK (J4 rfl) rfl T.any PyProof.Rows.boot_any (Ab (Bk rfl (Bb (osc:=Af gw) (N:=["thing","part","ahead"]) rfl rfl (by decide +kernel)) (Mu (Bu (v:=.ref aN) rfl T.mN rfl)) (fun _ _ _ _=>Ck) (fun _ _ _ _=>(Al GTo hrTo rfl N.FTo.2.2 N.FTo.1.kp N.FTo.2.1 .nil Ay (Ab (pv 3) (Ab (pv 0) (Ab (pv 1) Aa)))))) Aa))))))) BW)
   (Ae (Av (Al GTo hrTo rfl N.FTo.2.2 N.FTo.1.kp N.FTo.2.1 .nil Ay (Ab (pv 2) (Ab (pv 1) (Ab (pv 0) Aa)))))))),?_⟩
  rcases hok with ⟨i,lo,hi,b,rfl,hn,hb,h1,h2⟩ | ⟨hn,rfl,t,rfl,ht,hno⟩ | ⟨hn,hne,t,rfl,ht,hyes⟩
  ·refine ⟨_,rfl,aB,part,_,rfl,rfl,T.dB,hn,_,rfl,Cm ?_⟩
   exact ⟨_,rfl,_,rfl,aB,part,.ref b,_,rfl,rfl,T.dB,hn,rfl,i,lo,hi,b,rfl,hb,h1,h2,q H (Ak.refl H)⟩
  ·refine ⟨_,rfl,aB,_,_,rfl,rfl,T.dB,hn,_,rfl,Bo ?_⟩
   refine ⟨_,rfl,rfl,_,rfl,Cm ?_⟩
   refine ⟨_,rfl,t,rfl,ht,fun H1 s1=>⟨_,rfl,Cm ?_⟩⟩
   have hS:Gm K H1 aN (named.map V.str):=T.tN.sq _
   refine ⟨aN,rfl,⟨_,hS⟩,Gp (xs:=named.map V.str) (fun _=>true) (fun _=>.bl false) (by show 5<sizeLine; decide) (fun i H2 x hs hx=>⟨_,x,hs.tup hS,hx⟩) (fun i H2 y H3 hs _ hy=>⟨hy.1,hy.2 _ (hs.tup hS)⟩) (fun H2 hs=>⟨_,hs.tup hS,Nat.le_refl _⟩)
    (fun x hx H' hs R k=>k H' (Ak.refl H')) (fun x hx _ H' hs R k=>?_) (fun D H2 hD s2 hl2=>?_)⟩
   ·obtain ⟨w0,hw0,rfl⟩:=List.mem_map.mp hx
    refine ⟨_,rfl,_,rfl,_,rfl,p,us,w0,t,ρ,rfl,hs _ _ (s1 _ _ hp),(hR.mono s1).mono hs,hl,ht,fun H'' s''=>?_⟩
    rw [hno w0 hw0]
    exact k H'' s''
   ·refine ⟨D,[false,false,false,false,false],rfl,.inl (.inl hl2),_,rfl,?_⟩
    exact q H2 (s1.trans s2)
  ·refine ⟨_,rfl,aB,_,_,rfl,rfl,T.dB,hn,_,rfl,Bo ?_⟩
   refine ⟨_,rfl,rfl,_,rfl,?_⟩
   refine Cq (fun z=>absurd (V.str.inj (of_decide_eq_true z)) hne) (fun _=>?_)
   refine ⟨_,rfl,_,rfl,_,rfl,p,us,part,t,ρ,rfl,hp,hR,hl,ht,fun H' hs=>?_⟩
   rw [hyes]
   exact q H' hs
noncomputable def fL (K:PySem.W.Frag) (aB aP:Addr):Sp:=fun vs H Q _=>∃ (r p:Addr) (w:Str) (xs:List V) (us:List V) (ρ:V->R) (ap:Addr) (ps:List Str),vs=[.ref r,.ref p]/\H r=some (.tup (.str w::xs))/\H p=some (.lst us)/\Rows H ρ us/\us.length<=500 /\
 PySem.W.nsIn K aP w=some (some (.ref ap))/\KTup K ap (ps.map V.str)/\xs.length=ps.length/\ps.length<=10/\(∀ (i:Nat) x y,xs[i]? = some x->ps[i]? = some y->Hw K aB ρ us x y)/\∀ H',Ak H H'->Q (.bl true) H'
theorem bw:Ao ["row","ahead","parts"] ["row","ahead"] (Af gn):=Bm
include N T in
theorem cu:Aw P w K mg base Bg 5 fHp dHp ["row","ahead"] (fL K aB aP):=by
 have GPa:Aw P w K mg base Bg 4 fPa dPa ["thing","part","ahead"] (d7 K aB):=Zx N T
 refine N.FHp.1.ok bw (fun vs H Q E h=>?_) (fun cdv A outer s H vs Q E hr h=>?_)
 ·obtain ⟨r,p,w,xs,us,ρ,ap,ps,rfl,_⟩:=h
  rfl
 ·obtain ⟨r,p,w,xs,us,ρ,ap,ps,rfl,hr0,hp,hR,hl,hn,hap,hlen,hps,hok,q⟩:=h
  have hrPa:BX 4 _:=hr.mono (by decide)
  refine ⟨_,(Ad (C_ (i:=2) bw.nd rfl (Or.inl rfl) (Mm (Bu (v:=.ref aP) rfl T.mP rfl) (A_ (An (K:=K) rfl) (pv 0) Ac (fun _ _=>rfl)) (fun _ _=>rfl)))
   (Ad (Bc (Az Kc (BK BZ rfl T.len PySem.boot_len (Ab (pv 0) Aa)) (BP Dp Ac (BK BZ rfl T.len PySem.boot_len (Ab (pv 2) Aa))) (BL _)) (Ae (Av Hg)) BW)
   (Ae (Av (BK (G_ rfl) rfl T.all PyProof.Rows.boot_all (Ab (WF rfl (Py (osc:=Af gn) (N:=["row","ahead","parts"]) rfl rfl (by decide +kernel)) (V7 rfl T.zip (Ab (Ce Ma (pv 0) (DG Ac) Dm) (Ab (pv 2) Aa))) (fun _ _ _ _=>Ck) (fun _ _ _ _=>(Al GPa hrPa rfl N.FPa.2.2 N.FPa.1.kp N.FPa.2.1 .nil Ay (Ab (pv 0) (Ab (pv 1) (Ab (pv 3) Aa)))))) Aa)))))),?_⟩
  refine ⟨_,rfl,r,_,_,_,rfl,rfl,.inl (.inl hr0),Aj (j:=0) rfl,aP,w,.ref ap,_,rfl,rfl,T.dP,hn,rfl,?_⟩
  refine ⟨_,rfl,r,_,rfl,.inr (.inl (.inl hr0)),_,rfl,ap,_,rfl,.inr (hap.sq _),_,_,rfl,rfl,rfl,_,rfl,?_⟩
  refine Cq (fun z=>?_) (fun _=>?_)
  ·exfalso
   have e:(((V.str w::xs).length:Nat):Int)=1+(((ps.map V.str).length:Nat):Int):=by
    rw [List.length_cons,List.length_map,hlen]
    omega
   rw [e] at z
   simp at z
  ·have hcut:Dn (V.str w::xs) (some 1) none=xs:=by
    unfold Dn
    have e1:HT.Dg (V.str w::xs).length 0 (some ((1:Nat):Int))=1:=by rw [HT.Du,List.length_cons]; omega
    have e1':HT.Dg (V.str w::xs).length 0 (some (1:Int))=1:=e1
    rw [e1',HT.G8,List.drop_succ_cons,List.drop_zero]
    exact List.take_of_length_le (by rw [List.length_cons]; omega)
   refine ⟨_,rfl,_,rfl,r,_,rfl,.inl (.inl hr0),(fun z=>?_),fun p2 hp2=>?_⟩
   ·have e1:HT.Dg (V.str w::xs).length 0 (some ((1:Nat):Int))=1:=by rw [HT.Du,List.length_cons]; omega
    have:=z.1.symm.trans e1
    cases this
   rw [hcut]
   obtain ⟨H2,eqH,s2,a2⟩:=Ds (o:=HO.tup xs) hp2
   rw [eqH]
   have h1:Gm K H2 p2 xs:=.inl (.inl a2)
   refine ⟨_,rfl,p2,ap,rfl,⟨_,h1⟩,⟨_,hap.sq _⟩,U7 (K:=K) (xs:=xs) (ys:=ps.map V.str) (fun _ _=>.bl true) h1 (hap.sq _) (by rw [List.length_map]; exact hlen) (BJ (by omega)) (fun i x y hx hy H3 s3 R k=>?_) (fun D H3 hD s3 hl3=>?_)⟩
   ·rw [List.getElem?_map] at hy
    obtain ⟨part,hpart,rfl⟩:=Option.map_eq_some_iff.mp hy
    exact ⟨_,rfl,_,rfl,_,rfl,x,part,p,us,ρ,rfl,s3 _ _ (s2 _ _ hp),(hR.mono s2).mono s3,hl,hok i x part hx hpart,fun H4 s4=>k H4 s4⟩
   ·have e:List.zipWith (fun _ _=>V.bl true) xs (ps.map V.str)=(List.replicate xs.length true).map V.bl:=by
     rw [List.map_replicate]
     refine List.ext_getElem? fun i=>?_
     rw [List.getElem?_zipWith]
     by_cases hi:i<xs.length
     ·rw [List.getElem?_eq_getElem hi,List.getElem?_eq_getElem (by rw [List.length_map]; omega),List.getElem?_eq_getElem (by rw [List.length_replicate]; exact hi)]
      simp
     ·rw [List.getElem?_eq_none (by omega),List.getElem?_eq_none (l:=List.replicate _ _) (by rw [List.length_replicate]; omega)]
    rw [e] at hl3
    refine ⟨D,List.replicate xs.length true,rfl,.inl (.inl hl3),?_⟩
    have e2:(List.replicate xs.length true).all id=true:=by simp
    rw [e2]
    exact q H3 (s2.trans s3)
noncomputable def dZ:Sp:=fun vs H Q _=>∃ (p:Addr) (us:List V) (ρ:V->R) (c:Nat),vs=[.ref p]/\H p=some (.lst us)/\Rows H ρ us/\us.length<=500/\W_ ρ us c/\Q (.int (c:Nat)) H
theorem Wt:Ao ["rows","count","row"] ["rows"] (Af jT):=Bm
include N T in
theorem cT:Aw P w K mg base Bg 1 fCl dCl ["rows"] dZ:=by
 refine N.FCl.1.ok Wt (fun vs H Q E h=>?_) (fun cdv A outer s H vs Q E hr h=>?_)
 ·obtain ⟨p,us,ρ,c,rfl,_⟩:=h
  rfl
 ·obtain ⟨p,us,ρ,c,rfl,hp,hR,hl,hc,q⟩:=h
  refine ⟨_,(Ad (C_ (i:=1) Wt.nd rfl (Or.inl rfl) Ac)
   (Ad (Ef PassesOwn.never rfl (YZ rfl T.reversed (Ab (pv 0) Aa)) (B_ (i:=2) Wt.nd rfl (Or.inl rfl)) (Ad (Bc (Az Kc (A_ (An (K:=K) rfl) (pv 2) Ac (fun _ _=>rfl)) BR (BL _)) (Ae U8) BW)
   (Ae (C_ (i:=1) Wt.nd rfl (Or.inl rfl) (BP Dp (pv 1) Ac)))))
   (Ae (Av (pv 1))))),?_⟩
  have hS:DQ K H p us:=.inl (.inl hp)
  refine ⟨_,rfl,p,us,rfl,hS,V9 (K:=K) (a:=p) (xs:=us) (fun i σ H4=>H4=H/\i<=c/\∃ v2,σ=[some (.ref p),some (.int (i:Nat)),v2]) ⟨rfl,Nat.zero_le _,_,rfl⟩ (fun i σ H4 _ h=>by rw [h.1]; exact hS) ?_ ?_⟩
  ·rintro i x σ H4 hi hx ⟨rfl,hic,v2,rfl⟩
   obtain ⟨r,rfl,hr0⟩:=hR x (List.mem_of_getElem? hx)
   refine ⟨_,rfl,r,_,_,_,rfl,rfl,.inl (.inl hr0),Aj (j:=0) rfl,rfl,_,rfl,?_⟩
   by_cases e:(ρ (.ref r)).w = "line"
   ·have hne:i ≠ c:=fun z=>by
     obtain ⟨v,hv,hno⟩:=hc.no
     rw [← z,hx] at hv
     cases hv
     exact hno e
    refine W6 (congrArg V.str e) ?_
    exact ⟨_,rfl,_,_,rfl,rfl,rfl,by omega,_,rfl⟩
   ·have hic':i=c:=by
     refine Classical.byContradiction fun z=>?_
     obtain ⟨v,hv,hyes⟩:=hc.all i (by omega)
     rw [hx] at hv
     cases hv
     exact e hyes
    subst hic'
    rw [decide_eq_false fun z=>e (V.str.inj z)]
    refine Cm ?_
    exact ⟨_,rfl,q⟩
  ·rintro σ H4 ⟨rfl,hic,v2,rfl⟩
   have:=hc.lt
   omega
noncomputable def bJ:Sp:=fun vs H Q _=>∃ (n:Int) (bd:Str) (p:Addr) (us:List V) (ρ:V->R),vs=[.int n,.str bd,.ref p]/\H p=some (.lst us)/\Rows H ρ us/\us.length<=500/\Er ρ us/\∀ H',Ak H H'->Q (.bl (keyOf ρ us bd n)) H'
theorem lN:Ao ["number","board","ahead"] ["number","board","ahead"] (Af gU):=Bm
include N T in
theorem dF:Aw P w K mg base Bg 2 fIk dIk ["number","board","ahead"] bJ:=by
 have GRo:Aw P w K mg base Bg 1 fRo dRo ["rows","word"] Rr:=Nj N T
 refine N.FIk.1.ok lN (fun vs H Q E h=>?_) (fun cdv A outer s H vs Q E hr h=>?_)
 ·obtain ⟨n,bd,p,us,ρ,rfl,_⟩:=h
  rfl
 ·obtain ⟨n,bd,p,us,ρ,rfl,hp,hR,hl,hB,q⟩:=h
  have hrRo:BX 1 _:=hr.mono (by decide)
  refine ⟨_,(Ae (Av (BK (J4 rfl) rfl T.any PyProof.Rows.boot_any (Ab (Bk rfl (Bb (osc:=Af gU) (N:=["number","board","ahead"]) rfl rfl (by decide +kernel)) (Bq (Al GRo hrRo rfl N.FRo.2.2 N.FRo.1.kp N.FRo.2.1 .nil Ay (Ab (pv 2) (Ab BR Aa)))) (fun _ _ _ _=>Ck) (fun _ _ _ _=>(Dc (Cg Be (A_ (An (K:=K) rfl) (pv 0) Ac (fun _ _=>rfl)) (pv 2) (BL _)) (DP (Cg Jg (pv 1) (A_ (An (K:=K) rfl) (pv 0) Ac (fun _ _=>rfl)) (BL _)))))) Aa)))),?_⟩
  refine ⟨_,rfl,p,us,"board",ρ,rfl,hp,hR,hl,fun D H2 hD s2 hl2=>?_⟩
  have hS:DQ K H2 D (us.filter (pw ρ "board")):=.inl (.inl hl2)
  refine ⟨D,rfl,⟨_,hS⟩,Cv (K:=K) (xs:=us.filter (pw ρ "board")) (fun _=>true) (fun v=>.bl (pn ρ bd v && decide (n<Xl (ρ v)))) hS (BJ (by have:=Hf (pw ρ "board") us; omega)) (fun x hx H' hs R k=>k H' (Ak.refl H')) (fun x hx _ H' hs R k=>?_) (fun D3 H3 hD3 s3 hl3=>?_)⟩
  ·have hx':=List.mem_filter.mp hx
   obtain ⟨m,em⟩:=hB x hx'.1 (V.str.inj (of_decide_eq_true hx'.2))
   have hz:Xl (ρ x)=m:=by unfold Xl; rw [em]
   have hT:=((hR.mono s2).mono hs) x hx'.1
   have kk:=k H' (Ak.refl H')
   rw [hz] at kk
   obtain ⟨T0,rfl,hT⟩:=hT
   have kk:R (.bl (decide (V.str (ρ (.ref T0)).nm=V.str bd) && decide (n<m))) H':=kk
   have hT':H' T0=some (.tup (.str (ρ (.ref T0)).w :: .str (ρ (.ref T0)).nm::(ρ (.ref T0)).rest)):=hT
   rw [em] at hT'
   refine ⟨_,rfl,T0,_,_,_,rfl,rfl,.inl (.inl hT'),Aj (j:=1) rfl,_,rfl,rfl,_,rfl,?_⟩
   refine Cq (fun g=>?_) (fun g=>?_)
   ·rw [g,Bool.true_and] at kk
    exact ⟨_,rfl,_,rfl,T0,_,_,_,rfl,rfl,.inl (.inl hT'),Aj (j:=2) rfl,_,_,rfl,rfl,kk⟩
   ·rw [(Bool.not_eq_true _).mp g,Bool.false_and] at kk
    exact kk
  ·refine ⟨D3,(us.filter (pw ρ "board")).map (fun v=>pn ρ bd v && decide (n<Xl (ρ v))),rfl,.inl (.inl ?_),?_⟩
   ·rw [hl3,List.filter_eq_self.mpr (fun _ _=>rfl),List.map_map]
    rfl
   ·have e:((us.filter (pw ρ "board")).map (fun v=>pn ρ bd v && decide (n<Xl (ρ v)))).any id=keyOf ρ us bd n:=by
     rw [List.any_map]
     rfl
    rw [e]
    exact q H3 (s2.trans s3)
noncomputable def eE:Sp:=fun vs H Q _=>∃ (r p:Addr) (ro:R) (us:List V) (ρ:V->R),vs=[.ref r,.ref p]/\H r=some (.tup ro.v)/\H p=some (.lst us)/\Rows H ρ us/\us.length<=500/\Oo ρ us ro/\Er ρ us/\∀ H',Ak H H'->Q (.bl true) H'
theorem Xx:Ao ["line","ahead","count","row"] ["line","ahead"] (Af j_):=Bm
include N T in
theorem a_:Aw P w K mg base Bg 3 fSb dSb ["line","ahead"] eE:=by
 have GCl:Aw P w K mg base Bg 1 fCl dCl ["rows"] dZ:=cT N T
 have GIk:Aw P w K mg base Bg 2 fIk dIk ["number","board","ahead"] bJ:=dF N T
 refine N.FSb.1.ok Xx (fun vs H Q E h=>?_) (fun cdv A outer s H vs Q E hr h=>?_)
 ·obtain ⟨r,p,ro,us,ρ,rfl,_⟩:=h
  rfl
 ·obtain ⟨r,p,ro,us,ρ,rfl,hr0,hp,hR,hl,hL,hB,q⟩:=h
  have hrCl:BX 1 _:=hr.mono (by decide)
  have hrIk:BX 2 _:=hr.mono (by decide)
  obtain ⟨tML4,hML4⟩:=T.mostLn
  refine ⟨_,(Ad (C_ (i:=2) Xx.nd rfl (Or.inl rfl) (Al GCl hrCl rfl N.FCl.2.2 N.FCl.1.kp N.FCl.2.1 .nil Ay (Ab (pv 1) Aa)))
   (Ad (C_ (i:=3) Xx.nd rfl (Or.inl rfl) (A_ Bv (pv 1) (BP JR (BP JR (BK BZ rfl T.len PySem.boot_len (Ab (pv 1) Aa)) Ac) (pv 2)) (fun _ _=>rfl)))
   (Ad (Bc (PW.pt (Im (Az Kc (A_ (An (K:=K) rfl) (pv 3) Ac (fun _ _=>rfl)) BR (BL _)) (G9 (Az eU (pv 2) (Bu (v:=.int 4) rfl hML4 ⟨tML4,rfl⟩) (BL _))))) (Ae (Av Hg)) BW)
   (Ae (Av (Dc (Cg Fy (A_ (An (K:=K) rfl) (pv 0) Ac (fun _ _=>rfl)) (A_ (An (K:=K) rfl) (pv 0) Ac (fun _ _=>rfl)) (BL _)) (DP (Al GIk hrIk rfl N.FIk.2.2 N.FIk.1.kp N.FIk.2.1 .nil Ay (Ab (A_ (An (K:=K) rfl) (pv 0) Ac (fun _ _=>rfl)) (Ab (A_ (An (K:=K) rfl) (pv 3) Ac (fun _ _=>rfl)) (Ab (pv 1) Aa))))))))))),?_⟩
  obtain ⟨cnt,v,sh,lo,hi,bd,rs,er,hc,h4,hv,hw,hrest,hle,hk⟩:=hL.ex
  have hr1:H r=some (.tup [.str ro.w,.str ro.nm,.int sh,.int lo,.int hi]):=by rw [hr0,← er]
  obtain ⟨r2,rfl,hr2⟩:=hR v (List.mem_of_getElem? hv)
  have hr2':H r2=some (.tup (.str (ρ (.ref r2)).w :: .str (ρ (.ref r2)).nm :: .str bd::rs)):=by rw [hr2,← hrest]
  have hlt:=hc.lt
  have ei:((us.length:Nat):Int) - 1 - ((cnt:Nat):Int)=((us.length - 1 - cnt:Nat):Int):=by omega
  have hS:DQ K H p us:=.inl (.inl hp)
  refine ⟨_,rfl,p,us,ρ,cnt,rfl,hp,hR,hl,hc,?_⟩
  refine ⟨_,rfl,_,rfl,p,us,rfl,.inl hS,_,_,rfl,rfl,_,rfl,_,_,rfl,rfl,p,us,_,_,rfl,rfl,hS,(by rw [ei]; exact Aj hv),?_⟩
  refine ⟨_,rfl,r2,_,_,_,rfl,rfl,.inl (.inl hr2'),Aj (j:=0) rfl,rfl,_,rfl,W6 (congrArg V.str hw) ?_⟩
  refine ⟨_,rfl,_,_,rfl,rfl,_,rfl,?_⟩
  refine Cq (fun z=>?_) (fun _=>?_)
  ·have:=of_decide_eq_true z
   omega
  refine ⟨_,rfl,r,_,_,_,rfl,rfl,.inl (.inl hr1),Aj (j:=3) rfl,_,rfl,r,_,_,_,rfl,rfl,.inl (.inl hr1),Aj (j:=4) rfl,_,_,rfl,rfl,_,rfl,?_⟩
  refine Cq (fun _=>?_) (fun z=>absurd (decide_eq_true hle) z)
  refine ⟨_,rfl,r,_,_,_,rfl,rfl,.inl (.inl hr1),Aj (j:=4) rfl,_,rfl,r2,_,_,_,rfl,rfl,.inl (.inl hr2'),Aj (j:=2) rfl,_,rfl,hi,bd,p,us,ρ,rfl,hp,hR,hl,hB,fun H' s'=>?_⟩
  rw [hk]
  exact q H' s'
noncomputable def Ze:Sp:=fun vs H Q _=>∃ (r p:Addr) (ro:R) (us:List V) (ρ:V->R) (ts:List Str),vs=[.ref r,.ref p]/\H r=some (.tup ro.v)/\H p=some (.lst us)/\Rows H ρ us/\us.length<=500/\V.str ro.nm::ro.rest=ts.map V.str/\ts.Nodup/\ts.length<=24/\(∀ t∈ts,isNm t/\VP ρ us "stop" t=true)/\∀ H',Ak H H'->Q (.bl true) H'
theorem cD:Ao ["row","ahead","names"] ["row","ahead"] (Af gj):=Bm
include N T in
theorem Z2:Aw P w K mg base Bg 5 fIs dIs ["row","ahead"] Ze:=by
 have GTo:Aw P w K mg base Bg 3 fTo dTo ["rows","word","thing"] Yb:=W2 N T
 refine N.FIs.1.ok cD (fun vs H Q E h=>?_) (fun cdv A outer s H vs Q E hr h=>?_)
 ·obtain ⟨r,p,ro,us,ρ,ts,rfl,_⟩:=h
  rfl
 ·obtain ⟨r,p,ro,us,ρ,ts,rfl,hr0,hp,hR,hl,ets,nd,h24,hts,q⟩:=h
  have hrTo:BX 3 _:=hr.mono (by decide)
  refine ⟨_,(Ad (C_ (i:=2) cD.nd rfl (Or.inl rfl) (Ce Ma (pv 0) (DG Ac) Dm))
   (Ad (Bc (PW.pt (Im (Az Be (BK BZ rfl T.len PySem.boot_len (Ab (pv 2) Aa)) Ac (BL _)) (G9 (Dw (DN (BK (G_ rfl) rfl T.all PyProof.Rows.boot_all (Ab (Bk rfl (Bb (osc:=Af gj) (N:=["row","ahead","names"]) rfl rfl (by decide +kernel)) (Mu (pv 2)) (fun _ _ _ _=>Ck) (fun _ _ _ _=>(Al GTo hrTo rfl N.FTo.2.2 N.FTo.1.kp N.FTo.2.1 .nil Ay (Ab (pv 2) (Ab BR (Ab (pv 0) Aa)))))) Aa))))))) (Ae (Av Hg)) BW)
   (Ae (Av (Cg Be (BK Ko rfl T.len PySem.boot_len (Ab (HD (RV rfl) rfl T.set PyProof.Rows.boot_set (Ab (pv 2) Aa)) Aa)) (BK BZ rfl T.len PySem.boot_len (Ab (pv 2) Aa)) (BL _)))))),?_⟩
  have hv:ro.v=V.str ro.w::ts.map V.str:=by
   show V.str ro.w::(V.str ro.nm::ro.rest)=_
   rw [ets]
  rw [hv] at hr0
  have tne:1<=ts.length:=by
   cases ts with
   | nil=>cases ets
   | cons a b=>exact Nat.succ_le_succ (Nat.zero_le _)
  have hcut:Dn (V.str ro.w::ts.map V.str) (some 1) none=ts.map V.str:=by
   unfold Dn
   have e1:HT.Dg (V.str ro.w::ts.map V.str).length 0 (some 1)=1:=by
    rw [show (some (1:Int))=some ((1:Nat):Int) from rfl,HT.Du]
    simp
   rw [e1,HT.G8]
   simp
   exact List.take_of_length_le (by rw [List.length_map]; exact Nat.le_refl _)
  refine ⟨_,rfl,_,rfl,r,_,rfl,.inl (.inl hr0),?_,fun n0 hn0=>?_⟩
  ·rintro ⟨z,_⟩
   have e1:HT.Dg (V.str ro.w::ts.map V.str).length 0 (some 1)=1:=by
    rw [show (some (1:Int))=some ((1:Nat):Int) from rfl,HT.Du]
    simp
   rw [e1] at z
   cases z
  rw [hcut]
  obtain ⟨H1,eqH,s1,a1⟩:=Ds (o:=HO.tup (ts.map V.str)) hn0
  rw [eqH]
  have hT:Gm K H1 n0 (ts.map V.str):=.inl (.inl a1)
  have ltm:(ts.map V.str).length=ts.length:=List.length_map ..
  refine ⟨_,rfl,n0,_,rfl,.inr hT,rfl,_,rfl,Cq (fun z=>?_) (fun _=>?_)⟩
  ·exfalso
   have:=V.int.inj (of_decide_eq_true z)
   omega
  refine ⟨_,rfl,n0,rfl,⟨_,hT⟩,KH (K:=K) (xs:=ts.map V.str) (fun _=>true) (fun _=>.bl true) hT (BJ (by omega)) (fun x hx H' hs R k=>k H' (Ak.refl H')) (fun x hx _ H' hs R k=>?_) (fun D H2 hD s2 hl2=>?_)⟩
  ·obtain ⟨z,hz,rfl⟩:=List.mem_map.mp hx
   obtain ⟨z1,z2⟩:=hts z hz
   refine ⟨_,rfl,_,rfl,p,us,"stop",z,ρ,rfl,hs _ _ (s1 _ _ hp),(hR.mono s1).mono hs,hl,z1,fun H3 s3=>?_⟩
   rw [z2]
   exact k H3 s3
  ·refine ⟨D,List.replicate ts.length true,rfl,.inl (.inl ?_),_,rfl,?_⟩
   ·rw [hl2,List.filter_eq_self.mpr (fun _ _=>rfl),List.map_map]
    congr 2
    refine List.ext_getElem? fun i=>?_
    rw [List.getElem?_map,List.getElem?_map,List.getElem?_replicate]
    by_cases hi:i<ts.length
    ·rw [List.getElem?_eq_getElem hi,if_pos hi]
     rfl
    ·rw [List.getElem?_eq_none (by omega),if_neg hi]
     rfl
   have ea:(List.replicate ts.length true).all id=true:=by simp
   rw [ea]
   refine Bo ?_
   have hT2:=s2 _ _ a1
   refine ⟨_,rfl,n0,ts,rfl,.inl (.inl hT2),by omega,fun S hS=>?_⟩
   have s3:=Ax (o:=M8 P w S (ts.foldl Ws.Ff [])) hS
   refine ⟨S,_,rfl,Ah,_,rfl,n0,_,rfl,.inr (.inl (.inl (s3 _ _ hT2))),rfl,?_⟩
   have e:ts.foldl Ws.Ff []=ts:=(Lj ts [] (by rw [List.nil_append]; exact nd)).trans (List.nil_append _)
   have e2:decide (V.int (((ts.foldl Ws.Ff []).length:Nat):Int)=V.int (((ts.map V.str).length:Nat):Int))=true:=decide_eq_true (by rw [e,ltm])
   rw [e2]
   exact q _ (s1.trans (s2.trans s3))
noncomputable def YC (K:PySem.W.Frag) (aB aP aM:Addr):Sp:=fun vs H Q _=>∃ (r p:Addr) (ro:R) (us:List V) (ρ:V->R),vs=[.ref r,.ref p]/\H r=some (.tup ro.v)/\H p=some (.lst us)/\Rows H ρ us/\us.length<=500/\Gz K aB aP aM ρ us ro/\∀ H',Ak H H'->Q (.bl true) H'
theorem nF:Ao ["row","ahead"] ["row","ahead"] (Af kh):=Bm
include N T in
theorem aD:Aw P w K mg base Bg 6 fWm dWm ["row","ahead"] (YC K aB aP aM):=by
 have GHp:Aw P w K mg base Bg 5 fHp dHp ["row","ahead"] (fL K aB aP):=cu N T
 have GSb:Aw P w K mg base Bg 3 fSb dSb ["line","ahead"] eE:=a_ N T
 have GIs:Aw P w K mg base Bg 5 fIs dIs ["row","ahead"] Ze:=Z2 N T
 refine N.FWm.1.ok nF (fun vs H Q E h=>?_) (fun cdv A outer s H vs Q E hr h=>?_)
 ·obtain ⟨r,p,ro,us,ρ,rfl,_⟩:=h
  rfl
 ·obtain ⟨r,p,ro,us,ρ,rfl,hr0,hp,hR,hl,ok3,q⟩:=h
  have hrHp:BX 5 _:=hr.mono (by decide)
  have hrSb:BX 3 _:=hr.mono (by decide)
  have hrIs:BX 5 _:=hr.mono (by decide)
  refine ⟨_,(Ad (Bc (Az Be (A_ (An (K:=K) rfl) (pv 0) Ac (fun _ _=>rfl)) BR (BL _)) (Ae (Av (Al GIs hrIs rfl N.FIs.2.2 N.FIs.1.kp N.FIs.2.1 .nil Ay (Ab (pv 0) (Ab (pv 1) Aa))))) BW)
   (Ad (Bc (Az Be (A_ (An (K:=K) rfl) (pv 0) Ac (fun _ _=>rfl)) BR (BL _)) (Ae (Av (Dc (Al GHp hrHp rfl N.FHp.2.2 N.FHp.1.kp N.FHp.2.1 .nil Ay (Ab (pv 0) (Ab (pv 1) Aa))) (DP (Al GSb hrSb rfl N.FSb.2.2 N.FSb.1.kp N.FSb.2.1 .nil Ay (Ab (pv 0) (Ab (pv 1) Aa))))))) BW)
   (Ae (Av (Dc (UG (SM (A_ (An (K:=K) rfl) (pv 0) Ac (fun _ _=>rfl)) (Bu (v:=.ref aP) rfl T.mP rfl))) (DP (Al GHp hrHp rfl N.FHp.2.2 N.FHp.1.kp N.FHp.2.1 .nil Ay (Ab (pv 0) (Ab (pv 1) Aa))))))))),?_⟩
  refine ⟨_,rfl,r,_,_,_,rfl,rfl,.inl (.inl hr0),Aj (j:=0) rfl,rfl,_,rfl,?_⟩
  rcases ok3 with ok | ok
  case inr =>
   obtain ⟨ts,ets,nd,h24,hts⟩:=ok.ts
   refine Cq (fun _=>?_) (fun z=>absurd (decide_eq_true (congrArg V.str ok.w)) z)
   exact ⟨_,rfl,_,rfl,r,p,ro,us,ρ,ts,rfl,hr0,hp,hR,hl,ets,nd,h24,hts,q⟩
  obtain ⟨ap,ps,hn,hap,hlen,hps,hok⟩:=ok.parts
  refine Cq (fun z=>absurd (V.str.inj (of_decide_eq_true z)) ok.ns) (fun _=>?_)
  refine ⟨_,rfl,r,_,_,_,rfl,rfl,.inl (.inl hr0),Aj (j:=0) rfl,rfl,_,rfl,?_⟩
  refine Cq (fun z=>?_) (fun _=>?_)
  ·have hline:=ok.line (V.str.inj (of_decide_eq_true z))
   refine ⟨_,rfl,_,rfl,r,p,ro.w,_,us,ρ,ap,ps,rfl,hr0,hp,hR,hl,hn,hap,hlen,hps,hok,fun H1 s1=>⟨_,rfl,Cm ?_⟩⟩
   exact ⟨_,rfl,_,rfl,r,p,ro,us,ρ,rfl,s1 _ _ hr0,s1 _ _ hp,hR.mono s1,hl,hline,ok.ZV,fun H2 s2=>q H2 (s1.trans s2)⟩
  refine ⟨_,rfl,r,_,_,_,rfl,rfl,.inl (.inl hr0),Aj (j:=0) rfl,aP,_,_,rfl,rfl,T.dP,hn,_,rfl,Cm ?_⟩
  exact ⟨_,rfl,_,rfl,r,p,ro.w,_,us,ρ,ap,ps,rfl,hr0,hp,hR,hl,hn,hap,hlen,hps,hok,q⟩
noncomputable def ZW (K:PySem.W.Frag) (aM:Addr):Sp:=fun vs H Q _=>∃ (p:Addr) (w:Str) (us:List V) (ρ:V->R),vs=[.str w,.ref p]/\H p=some (.lst us)/\Rows H ρ us/\us.length<=500/\(PySem.W.nsIn K aM w=some none \/ ∃ (m:Int) (t:Tok),PySem.W.nsIn K aM w=some (some (.int m t))/\(((us.filter (pw ρ w)).length:Nat):Int)<m)/\∀ H',Ak H H'->Q (.bl true) H'
theorem ig:Ao ["word","ahead"] ["word","ahead"] (Af nW):=Bm
include N T in
theorem dN:Aw P w K mg base Bg 2 fHr dHr ["word","ahead"] (ZW K aM):=by
 have GRo:Aw P w K mg base Bg 1 fRo dRo ["rows","word"] Rr:=Nj N T
 refine N.FHr.1.ok ig (fun vs H Q E h=>?_) (fun cdv A outer s H vs Q E hr h=>?_)
 ·obtain ⟨p,w,us,ρ,rfl,_⟩:=h
  rfl
 ·obtain ⟨p,w,us,ρ,rfl,hp,hR,hl,hroom,q⟩:=h
  have hrRo:BX 1 _:=hr.mono (by decide)
  refine ⟨_,(Ae (Av (dO (UG (RK (pv 0) (Bu (v:=.ref aM) rfl T.mM rfl))) (DP (Cg Jg (BK BZ rfl T.len PySem.boot_len (Ab (Al GRo hrRo rfl N.FRo.2.2 N.FRo.1.kp N.FRo.2.1 .nil Ay (Ab (pv 1) (Ab (pv 0) Aa))) Aa)) (Mm (Bu (v:=.ref aM) rfl T.mM rfl) (pv 0) (fun _ _=>rfl)) (BL _)))))),?_⟩
  rcases hroom with hn | ⟨m,t,hn,hm⟩
  ·refine ⟨_,rfl,aM,w,_,rfl,rfl,T.dM,hn,_,rfl,Cm ?_⟩
   exact q H (Ak.refl H)
  refine ⟨_,rfl,aM,w,_,rfl,rfl,T.dM,hn,_,rfl,Bo ?_⟩
  refine ⟨_,rfl,_,rfl,p,us,w,ρ,rfl,hp,hR,hl,fun D H2 hD s2 hl2=>?_⟩
  refine ⟨D,_,rfl,.inl (.inl (.inl hl2)),_,rfl,aM,w,.int m,_,rfl,rfl,T.dM,hn,⟨t,rfl⟩,_,_,rfl,rfl,?_⟩
  show Q (.bl (decide ((((us.filter (pw ρ w)).length:Nat):Int)<m))) H2
  rw [decide_eq_true hm]
  exact q H2 s2
noncomputable def bQ (K:PySem.W.Frag) (aB aP aM:Addr):Sp:=YC K aB aP aM
theorem jH:Ao ["thing","ahead"] ["thing","ahead"] (Af jV):=Bm
include N T in
theorem di:Aw P w K mg base Bg 7 fIr dIr ["thing","ahead"] (bQ K aB aP aM):=by
 have GWm:Aw P w K mg base Bg 6 fWm dWm ["row","ahead"] (YC K aB aP aM):=aD N T
 have GHr:Aw P w K mg base Bg 2 fHr dHr ["word","ahead"] (ZW K aM):=dN N T
 refine N.FIr.1.ok jH (fun vs H Q E h=>?_) (fun cdv A outer s H vs Q E hr h=>?_)
 ·obtain ⟨r,p,ro,us,ρ,rfl,_⟩:=h
  rfl
 ·obtain ⟨r,p,ro,us,ρ,rfl,hr0,hp,hR,hl,ok,q⟩:=h
  have hrWm:BX 6 _:=hr.mono (by decide)
  have hrHr:BX 2 _:=hr.mono (by decide)
  refine ⟨_,(Ad (Bc (PW.pt (Im (Dw (DN (BK Cw rfl T.isin PyProof.Rows.boot_isinstance (Ab (pv 0) (Ab (EY (v:=.ty "tuple") rfl T.tuple PyProof.Rows.boot_tuple rfl) Aa))))) (Im (Az Be (BK BZ rfl T.len PySem.boot_len (Ab (pv 0) Aa)) Ac (BL _)) (G9 (Dw (DN (BK Cw rfl T.isin PyProof.Rows.boot_isinstance (Ab (A_ (An (K:=K) rfl) (pv 0) Ac (fun _ _=>rfl)) (Ab (EY (v:=.ty "str") rfl T.str PyProof.Rows.boot_str rfl) Aa))))))))) (Ae (Av Hg)) BW)
   (Ae (Av (Dc (Al GWm hrWm rfl N.FWm.2.2 N.FWm.1.kp N.FWm.2.1 .nil Ay (Ab (pv 0) (Ab (pv 1) Aa))) (DP (Al GHr hrHr rfl N.FHr.2.2 N.FHr.1.kp N.FHr.2.1 .nil Ay (Ab (A_ (An (K:=K) rfl) (pv 0) Ac (fun _ _=>rfl)) (Ab (pv 1) Aa)))))))),?_⟩
  have hroom:PySem.W.nsIn K aM ro.w=some none \/ ∃ (m:Int) (t:Tok),PySem.W.nsIn K aM ro.w=some (some (.int m t))/\(((us.filter (pw ρ ro.w)).length:Nat):Int)<m:=Gz.room ok
  refine ⟨_,rfl,_,"tuple",_,_,rfl,.tup hr0,fB,_,rfl,Bo ?_⟩
  refine ⟨_,rfl,r,_,rfl,.inr (.inl (.inl hr0)),rfl,_,rfl,?_⟩
  refine Cq (fun z=>?_) (fun _=>?_)
  ·exfalso
   have:=of_decide_eq_true z
   have:=V.int.inj this
   simp at this
   omega
  refine ⟨_,rfl,r,_,_,_,rfl,rfl,.inl (.inl hr0),Aj (j:=0) rfl,_,"str",_,_,rfl,.str _,U6,_,rfl,Bo ?_⟩
  refine ⟨_,rfl,_,rfl,r,p,ro,us,ρ,rfl,hr0,hp,hR,hl,ok,fun H1 s1=>⟨_,rfl,Cm ?_⟩⟩
  exact ⟨_,rfl,r,_,_,_,rfl,rfl,.inl (.inl (s1 _ _ hr0)),Aj (j:=0) rfl,_,rfl,p,ro.w,us,ρ,rfl,s1 _ _ hp,hR.mono s1,hl,hroom,fun H2 s2=>q H2 (s1.trans s2)⟩
noncomputable def Zw (K:PySem.W.Frag) (aB aP aM:Addr):Sp:=fun vs H Q _=>∃ (p:Addr) (us:List V) (ρ:V->R),vs=[.ref p]/\H p=some (.lst us)/\Rows H ρ us/\1<=us.length/\us.length<=150/\(∀ (i:Nat) v,us[i]? = some v->Gz K aB aP aM ρ (us.take i) (ρ v))/\(us.filter (pw ρ "board")).isEmpty=false/\∀ H',Ak H H'->Q .non H'
theorem Y6:Ao ["rows","at","row"] ["rows"] (Af lV):=Bm
include N T in
theorem gD:Aw P w K mg base Bg 8 fCk dCk ["rows"] (Zw K aB aP aM):=by
 have GIr:Aw P w K mg base Bg 7 fIr dIr ["thing","ahead"] (bQ K aB aP aM):=di N T
 have GRo:Aw P w K mg base Bg 1 fRo dRo ["rows","word"] Rr:=Nj N T
 refine N.FCk.1.ok Y6 (fun vs H Q E h=>?_) (fun cdv A outer s H vs Q E hr h=>?_)
 ·obtain ⟨p,us,ρ,rfl,_⟩:=h
  rfl
 ·obtain ⟨p,us,ρ,rfl,hp,hR,h1,h2,hok,hb,q⟩:=h
  have hrIr:BX 7 _:=hr.mono (by decide)
  have hrRo:BX 1 _:=hr.mono (by decide)
  obtain ⟨tMR,hMR⟩:=T.mostR
  refine ⟨_,(Ad (Bc (PW.pt (Im (Dw (DN (BK Cw rfl T.isin PyProof.Rows.boot_isinstance (Ab (pv 0) (Ab (EY (v:=.ty "list") rfl T.list PyProof.Rows.boot_list rfl) Aa))))) (G9 (Dw (N_ Fy Fy Ac (BK BZ rfl T.len PySem.boot_len (Ab (pv 0) Aa)) (Bu (v:=.int 150) rfl hMR ⟨tMR,rfl⟩)))))) (Ae I_) BW)
   (Ad (Ef PassesOwn.never rfl (Ju rfl T.enumerate (Ab (pv 0) Aa)) (JF rfl (DR (B_ (i:=1) Y6.nd rfl (Or.inl rfl)) (DR (B_ (i:=2) Y6.nd rfl (Or.inl rfl)) HR))) (Ae (Bc (Dw (DN (Al GIr hrIr rfl N.FIr.2.2 N.FIr.1.kp N.FIr.2.1 .nil Ay (Ab (pv 2) (Ab (Ce FJ (pv 0) Dm (DG (pv 1))) Aa))))) (Ae I_) BW)))
   (Ae (Bc (Dw (Uz (Al GRo hrRo rfl N.FRo.2.2 N.FRo.1.kp N.FRo.2.1 .nil Ay (Ab (pv 0) (Ab BR Aa))) (fun _=>rfl))) (Ae I_) BW)))),?_⟩
  have hS:DQ K H p us:=.inl (.inl hp)
  refine ⟨_,rfl,_,"list",_,_,rfl,.lst hp,QH,_,rfl,Bo ?_⟩
  refine ⟨_,rfl,p,_,rfl,.inl hS,_,_,rfl,rfl,_,rfl,?_⟩
  refine Cq (fun _=>?_) (fun z=>absurd (decide_eq_true (by omega)) z)
  refine ⟨_,_,rfl,rfl,_,rfl,?_⟩
  have e150:decide ((us.length:Int)<=150)=true:=decide_eq_true (by omega)
  rw [e150]
  refine Bo ?_
  refine ⟨_,rfl,p,rfl,⟨_,hS⟩,Iv (K:=K) (a:=p) (xs:=us) (fun i σ H4=>Ak H H4/\∃ v1 v2,σ=[some (.ref p),v1,v2]) ⟨Ak.refl H,_,_,rfl⟩ (fun i σ H4 _ h=>h.1.seq hS) ?_ ?_⟩
  ·rintro i x σ H4 T0 hx ⟨s4,v1,v2,rfl⟩ hT
   have s5:=Ax (o:=HO.tup [.int (i:Int),x]) hT
   refine ⟨T0,_,rfl,.inl (.inl Ah),rfl,_,_,rfl,_,_,rfl,rfl,?_⟩
   generalize upd H4 T0 (HO.tup [.int (i:Int),x])=H5 at s5 ⊢
   have s05:=s4.trans s5
   have hi:i<us.length:=(List.getElem?_eq_some_iff.mp hx).1
   obtain ⟨r,rfl,hr0⟩:=(hR.mono s05) x (List.mem_of_getElem? hx)
   refine ⟨_,rfl,_,rfl,_,rfl,_,rfl,p,_,rfl,s05.seq hS,fun p6 hp6=>?_⟩
   have s6:=Ax (o:=HO.lst (Dn us none (some (i:Int)))) hp6
   have a6:upd H5 p6 (HO.lst (Dn us none (some (i:Int)))) p6=_:=Ah
   generalize upd H5 p6 (HO.lst (Dn us none (some (i:Int))))=H6 at s6 a6 ⊢
   rw [Np us i (by omega)] at a6
   have s06:=s05.trans s6
   refine ⟨r,p6,ρ (.ref r),us.take i,ρ,rfl,s6 _ _ hr0,a6,(hR.mono s06).sub fun v hv=>List.mem_of_mem_take hv,by rw [List.length_take]; omega,hok i _ hx,fun H7 s7=>⟨_,rfl,Bo ?_⟩⟩
   exact ⟨s06.trans s7,_,_,rfl⟩
  ·rintro σ H4 ⟨s4,v1,v2,rfl⟩
   refine ⟨_,rfl,p,us,"board",ρ,rfl,s4 _ _ hp,hR.mono s4,by omega,fun D H5 hD s5 hl5=>?_⟩
   refine ⟨_,.inl ⟨_,.inl (.inl hl5),rfl⟩,?_⟩
   rw [hb]
   exact Bo (q H5 (s4.trans s5))
noncomputable def aU:Sp:=fun vs H Q _=>∃ (p:Addr) (ts:List Str),vs=[.ref p]/\H p=some (.lst (ts.map V.str))/\ts.length<=300/\ts.Nodup/\∀ D (kvs:List (Key × V)) H',H D=none->Ak H H'->H' D=some (.dK kvs)->(∀ (i:Nat) t,ts[i]? = some t->CV kvs (Sum.inr t)=some (.int (i:Nat)))->(∀ t,t ∉ ts->CV kvs (Sum.inr t)=none)->Q (.ref D) H'
theorem Wb:Ao ["names","numbers","number","name"] ["names"] (Af m7):=Bm
include N T in
theorem az:Aw P w K mg base Bg 1 fNu dNu ["names"] aU:=by
 refine N.FNu.1.ok Wb (fun vs H Q E h=>?_) (fun cdv A outer s H vs Q E hr h=>?_)
 ·obtain ⟨p,ts,rfl,_⟩:=h
  rfl
 ·obtain ⟨p,ts,rfl,hp,hl,nd,q⟩:=h
  have hu:=CN hr
  refine ⟨_,(Ad (C_ (i:=1) Wb.nd rfl (Or.inl rfl) J6)
   (Ad (Ef PassesOwn.never rfl (Ju rfl T.enumerate (Ab (pv 0) Aa)) (JF rfl (DR (B_ (i:=2) Wb.nd rfl (Or.inl rfl)) (DR (B_ (i:=3) Wb.nd rfl (Or.inl rfl)) HR))) (Ae (Jo hu (pv 1) (pv 3) (pv 2) rfl)))
   (Ae (Av (pv 1))))),?_⟩
  intro D hD
  have s0:=Ax (o:=HO.dK []) hD
  have hS:DQ K H p (ts.map V.str):=.inl (.inl hp)
  refine ⟨_,rfl,p,rfl,⟨_,s0.seq hS⟩,Iv (K:=K) (a:=p) (xs:=ts.map V.str) (fun i σ H4=>Ak H H4/\∃ (kvs:List (Key × V)),H4 D=some (.dK kvs)/\kvs.length<=i/\(∀ (j:Nat) t,j<i->ts[j]? = some t->CV kvs (Sum.inr t)=some (.int (j:Nat)))/\(∀ t,t ∉ ts->CV kvs (Sum.inr t)=none)/\∃ v2 v3,σ=[some (.ref p),some (.ref D),v2,v3])
   ⟨s0,[],Ah,Nat.le_refl _,fun j t hj=>absurd hj (Nat.not_lt_zero _),fun t _=>M_,_,_,rfl⟩ (fun i σ H4 _ h=>h.1.seq hS) ?_ ?_⟩
  ·rintro i x σ H4 T0 hx ⟨s4,kvs,hd,hk,hv,hv0,v2,v3,rfl⟩ hT
   rw [List.getElem?_map] at hx
   obtain ⟨t,ht,rfl⟩:=Option.map_eq_some_iff.mp hx
   have hi:i<ts.length:=(List.getElem?_eq_some_iff.mp ht).1
   have s5:=Ax (o:=HO.tup [.int (i:Int),.str t]) hT
   refine ⟨T0,_,rfl,.inl (.inl Ah),rfl,_,_,rfl,_,_,rfl,rfl,?_⟩
   generalize upd H4 T0 (HO.tup [.int (i:Int),.str t])=H5 at s5 ⊢
   refine ⟨_,rfl,_,rfl,_,rfl,D,_,rfl,L_.k (k:=Sum.inr t) (s5 _ _ hd) (BJ (by omega)),?_⟩
   refine ⟨fun b u e=>?_,putK kvs (Sum.inr t) (.int (i:Int)),Ah,Nat.le_trans (Gr _ _ _) (by omega),fun j t' hj ht'=>?_,fun t' ht'=>(by rw [Ew,if_neg fun z=>ht' (by rw [Sum.inr.inj z]; exact List.mem_of_getElem? ht)]; exact hv0 t' ht'),_,_,rfl⟩
   ·rw [Ar (Ai e hD)]
    exact s5 _ _ (s4 _ _ e)
   ·rw [Ew]
    by_cases e:t'=t
    ·subst e
     have:j=i:=by
      obtain ⟨h1,e1⟩:=List.getElem?_eq_some_iff.mp ht'
      obtain ⟨h2,e2⟩:=List.getElem?_eq_some_iff.mp ht
      exact (List.getElem_inj nd).mp (e1.trans e2.symm)
     subst this
     rw [if_pos rfl]
    ·rw [if_neg fun z=>e (Sum.inr.inj z)]
     refine hv j t' ?_ ht'
     rcases Nat.lt_succ_iff_lt_or_eq.mp hj with z | z
     ·exact z
     ·subst z
      rw [ht] at ht'
      exact absurd (Option.some.inj ht').symm e
  ·rintro σ H4 ⟨s4,kvs,hd,hk,hv,hv0,v2,v3,rfl⟩
   refine ⟨_,rfl,q D kvs H4 hD s4 hd (fun i t ht=>hv i t ?_ ht) hv0⟩
   rw [List.length_map]
   exact (List.getElem?_eq_some_iff.mp ht).1
theorem aG {n:Nat} (h:n<=3000):n<sizeLine:=Nat.lt_of_le_of_lt h (by decide)
noncomputable def ao:Sp:=fun vs H Q _=>∃ (p:Addr) (as:List Th) (us:List V),vs=[.ref p]/\H p=some (.lst us)/\Paired (fun (a:Th) y=>TupAt H (tV a) y) as us/\as.length<=12/\(∀ a∈as,a.2.1<=97)/\∀ D ys H',H D=none->Ak H H'->H' D=some (.lst ys)->Paired (fun q y=>TupAt H' (qV q) y) (Qh (as.map tN)) ys->Q (.ref D) H'
theorem Vc:Ao ["things","places","number","thing"] ["things"] (Af gF):=Bm
include N T in
theorem Zo:Aw P w K mg base Bg 1 fPl dPl ["things"] ao:=by
 refine N.FPl.1.ok Vc (fun vs H Q E h=>?_) (fun cdv A outer s H vs Q E hr h=>?_)
 ·obtain ⟨p,as,us,rfl,_⟩:=h
  rfl
 ·obtain ⟨p,as,us,rfl,hp,hb,hl,hz,q⟩:=h
  refine ⟨_,(Ad (C_ (i:=1) Vc.nd rfl (Or.inl rfl) (Dz Aa))
   (Ad (Ef PassesOwn.never rfl (Ju rfl T.enumerate (Ab (pv 0) Aa)) (JF rfl (DR (B_ (i:=2) Vc.nd rfl (Or.inr rfl)) (DR (B_ (i:=3) Vc.nd rfl (Or.inl rfl)) HR))) (Ae (CK (El PySem.F.plainAttrs_list PySem.F.slot_list_extend PySem.F.type_list_extend Q5 (pv 1) (Ab (Bk rfl (Bb (osc:=Af gF) (N:=["things","places","number","thing"]) rfl rfl (by decide +kernel)) (Fq rfl T.range (Ab (A_ (An (K:=K) rfl) (pv 3) Ac (fun _ _=>rfl)) Aa)) (fun _ _ _ _=>Ck) (fun _ _ _ _=>(Bt (Ab (pv 3) (Ab (pv 0) Aa))))) Aa)))))
   (Ae (Av (pv 1))))),?_⟩
  refine ⟨Bl (by simp),fun D hD=>?_⟩
  have s0:=Ax (o:=HO.lst []) hD
  have hS:DQ K H p us:=.inl (.inl hp)
  have hul:=hb.length
  refine ⟨_,rfl,p,rfl,⟨_,s0.seq hS⟩,Iv (K:=K) (a:=p) (xs:=us) (fun i σ H4=>Ak H H4/\∃ ys,H4 D=some (.lst ys)/\Paired (fun q y=>TupAt H4 (qV q) y) (Qh ((as.map tN).take i)) ys/\∃ v2 v3,σ=[some (.ref p),some (.ref D),v2,v3])
   ⟨s0,[],Ah,.nil,_,_,rfl⟩ (fun i σ H4 _ h=>h.1.seq hS) ?_ ?_⟩
  ·rintro i x σ H4 T0 hx ⟨s4,ys,hd,hpr,v2,v3,rfl⟩ hT
   obtain ⟨b,hbi,hxb⟩:=Nm hb hx
   have hi:i<as.length:=(List.getElem?_eq_some_iff.mp hbi).1
   have hb97:=hz b (List.mem_of_getElem? hbi)
   have hbi':(as.map tN)[i]? = some (tN b):=by rw [List.getElem?_map,hbi]; rfl
   have s5:=Ax (o:=HO.tup [.int (i:Int),x]) hT
   refine ⟨T0,_,rfl,.inl (.inl Ah),rfl,_,_,rfl,_,_,rfl,rfl,?_⟩
   generalize upd H4 T0 (HO.tup [.int (i:Int),x])=H5 at s5 ⊢
   obtain ⟨r,rfl,hr0⟩:=hxb.mono (s4.trans s5)
   have p5:=Aq s5 hpr
   have d5:=s5 _ _ hd
   refine ⟨_,rfl,.inl ⟨rfl,_,.inl (.inl d5)⟩,_,rfl,r,_,_,_,rfl,rfl,.inl (.inl hr0),Aj (j:=1) rfl,_,rfl,by omega,by omega,?_⟩
   rw [Int.toNat_natCast]
   refine Rv (n:=b.2.1) (fun e=>qV (i,e)) (BJ (by omega)) (fun e he H6 s6 R k=>?_) (fun D6 H6 zs hD6 s6 hl6 hz6=>?_)
   ·refine ⟨_,rfl,_,rfl,by show 2<=sizeLine; decide,fun T6 hT6=>?_⟩
    exact k _ _ (Ax hT6) ⟨T6,rfl,Ah⟩
   ·have ly:=(Aq s6 p5).length
    have lz:=hz6.length
    have lp:=We ((as.map tN).take i) 97 fun b hb=>by
     obtain ⟨a,ha,rfl⟩:=List.mem_map.mp (List.mem_of_mem_take hb)
     exact hz a ha
    rw [List.length_take,List.length_map] at lp
    rw [List.length_range] at lz
    have:min i as.length * 97<=12 * 97:=Nat.mul_le_mul_right _ (by omega)
    refine ⟨D,D6,ys,zs,rfl,rfl,s6 _ _ d5,hl6,Nat.le_of_lt (aG (by omega)),?_⟩
    refine ⟨fun b u e=>?_,ys++zs,Ah,?_,_,_,rfl⟩
    ·rw [Ar (Ai e hD)]
     exact s6 _ _ (s5 _ _ (s4 _ _ e))
    ·rw [Nb hbi']
     exact Ep (Dy (Aq s6 p5) (s6 _ _ d5)) (Cp (F:=fun q y=>TupAt _ (qV q) y) (fun e=>(i,e)) (Dy hz6 (s6 _ _ d5)))
  ·rintro σ H4 ⟨s4,ys,hd,hpr,v2,v3,rfl⟩
   rw [← hul,List.take_of_length_le (by rw [List.length_map]; exact Nat.le_refl _)] at hpr
   exact ⟨_,rfl,q D ys H4 hD s4 hd hpr⟩
theorem WW {α:Type} (l:List α) (x:α):SJ (l++[x]) (-1)=some x:=by
 unfold SJ VR
 rw [if_neg (by decide),if_pos (by rw [List.length_append,List.length_singleton]; omega)]
 show (l++[x])[(-1+(((l++[x]).length:Nat):Int)).toNat]? = some x
 have e:(-1+(((l++[x]).length:Nat):Int)).toNat=l.length:=by
  rw [List.length_append,List.length_singleton]
  omega
 rw [e,List.getElem?_append_right (Nat.le_refl _),Nat.sub_self]
 rfl
theorem J7 {H:Hp} {l:List Ln} {v:V} {A:Addr} {xs ys:List V} (h:Gy H l v) (hA:H A=some (.lst xs)) (hv:v ≠ .ref A):Gy (upd H A (.lst ys)) l v:=by
 obtain ⟨B,ts,rfl,h1,h2⟩:=h
 have:B ≠ A:=fun z=>hv (by rw [z])
 exact ⟨B,ts,rfl,by rw [Ar this]; exact h1,Dy h2 hA⟩
theorem Fe {α β:Type} {F G:α->β->Prop}:∀ {l:List α} {vs:List β},Paired F l vs->(∀ a b,b∈vs->F a b->G a b)->Paired G l vs
 | [],_,h,_=>by cases h; exact .nil
 | a::l,_,h,k=>by
  cases h with
  | cons x y=>exact .cons (k _ _ (List.mem_cons_self ..) x) (Fe y fun a b hb=>k a b (List.mem_cons_of_mem _ hb))
theorem JD {α β:Type} {F:α->β->Prop}:∀ {l:List α} {z:α} {vs:List β},Paired F (l++[z]) vs->∃ us u,vs=us++[u]/\Paired F l us/\F z u
 | [],z,_,h=>by
  cases h with
  | cons x y=>cases y; exact ⟨[],_,rfl,.nil,x⟩
 | a::l,z,_,h=>by
  cases h with
  | cons x y =>
   obtain ⟨us,u,rfl,h1,h2⟩:=JD y
   exact ⟨_::us,u,rfl,.cons x h1,h2⟩
theorem Fd {α:Type} {l:List α} (h:l ≠ []):∃ a z,l=a++[z]:=⟨l.dropLast,l.getLast h,(List.dropLast_concat_getLast h).symm⟩
theorem M9 {rk:List (Str × Nat × Int)}:∀ {rs:List R},(∃ r∈rs,Ej r.w=true)->linesOf rk rs ≠ []:=by
 have key:∀ (n:Nat) (rs:List R),rs.length=n->(∃ r∈rs,Ej r.w=true)->linesOf rk rs ≠ []:=by
  intro n
  induction n with
  | zero =>
   rintro rs hl ⟨r,hr,_⟩
   cases rs with
   | nil=>cases hr
   | cons a b=>cases hl
  | succ n ih =>
   rintro rs hl ⟨r,hr,hk⟩
   obtain ⟨a,z,rfl⟩:=Fd (l:=rs) (by intro e; rw [e] at hl; cases hl)
   rw [Ci]
   rw [List.length_append,List.length_singleton] at hl
   unfold Dl
   by_cases hz:Ej z.w=true
   ·rw [if_pos hz]
    simp
   ·rw [if_neg hz]
    have hr':r∈a:=by
     rcases List.mem_append.mp hr with h | h
     ·exact h
     ·rw [List.mem_singleton.mp h] at hk
      exact absurd hk hz
    have ih':=ih a (by omega) ⟨r,hr',hk⟩
    split
    ·obtain ⟨b,y,e⟩:=Fd ih'
     rw [e,HJ]
     simp
    ·exact ih'
 exact fun {rs} h=>key rs.length rs rfl h
noncomputable def d8:Sp:=fun vs H Q _=>∃ (p d:Addr) (us:List V) (ρ:V->R) (rk:List (Str × Nat × Int)) (kvs:List (Key × V)),vs=[.ref p,.ref d]/\H p=some (.lst us)/\Rows H ρ us/\us.length<=500/\H d=some (.dK kvs)/\(∀ (i:Nat) r,rk[i]? = some r->CV kvs (Sum.inr r.1)=some (.int (i:Nat)))/\(rk.map (·.1)).Nodup /\
 (∀ (i:Nat) v,us[i]? = some v->(ρ v).w = "line"->(∃ (j:Nat) (r:Str × Nat × Int) (sh lo hi:Int),rk[j]? = some r/\r.1=(ρ v).nm/\(ρ v).rest=[.int sh,.int lo,.int hi])/\∃ u∈us.take i,Ej (ρ u).w=true)/\∀ D H',H D=none->Ak H H'->Ea p H' D (linesOf rk (us.map ρ))->Q (.ref D) H'
theorem Y8 {rk:List (Str × Nat × Int)} {j:Nat} {r:Str × Nat × Int} (nd:(rk.map (·.1)).Nodup) (h:rk[j]? = some r):(rk.map (·.1)).idxOf r.1=j:=by
 have hj:j<(rk.map (·.1)).length:=by rw [List.length_map]; exact (List.getElem?_eq_some_iff.mp h).1
 have e:(rk.map (·.1))[j]=r.1:=by
  rw [List.getElem_map]
  exact congrArg (·.1) (List.getElem?_eq_some_iff.mp h).2
 rw [← e]
 exact List.Nodup.idxOf_getElem nd j hj
theorem X_:Ao ["rows","rank_numbers","lines","row"] ["rows","rank_numbers"] (Af jo):=Bm
include N T in
theorem dR:Aw P w K mg base Bg 1 fLi dLi ["rows","rank_numbers"] d8:=by
 refine N.FLi.1.ok X_ (fun vs H Q E h=>?_) (fun cdv A outer s H vs Q E hr h=>?_)
 ·obtain ⟨p,d,us,ρ,rk,kvs,rfl,_⟩:=h
  rfl
 ·obtain ⟨p,d,us,ρ,rk,kvs,rfl,hp,hR,hl,hdk,hval,hnd,hln,q⟩:=h
  have hu:=CN hr
  refine ⟨_,(Ad (C_ (i:=2) X_.nd rfl (Or.inl rfl) (Dz Aa))
   (Ad (Ef PassesOwn.never rfl (Bq (pv 0)) (B_ (i:=3) X_.nd rfl (Or.inl rfl)) (Ad (Bc (Az (Hm (K:=K) rfl) (A_ (An (K:=K) rfl) (pv 3) Ac (fun _ _=>rfl)) (Bu (v:=.ref aK) rfl T.mK rfl) rfl) (Ae (CK (El PySem.F.plainAttrs_list PySem.F.slot_list_append PySem.F.type_list_append Br (pv 2) (Ab (Dz Aa) Aa)))) BW)
   (Ae (Bc (Az Be (A_ (An (K:=K) rfl) (pv 3) Ac (fun _ _=>rfl)) BR (BL _)) (Ae (CK (El PySem.F.plainAttrs_list PySem.F.slot_list_append PySem.F.type_list_append Br (A_ (Fo (K:=K) rfl) (pv 2) (QV Sy Ac) (fun _ _=>rfl)) (Ab (Bt (Ab (H_ hu (pv 1) (A_ (An (K:=K) rfl) (pv 3) Ac (fun _ _=>rfl)) (fun _ _=>rfl)) (Ab (A_ (An (K:=K) rfl) (pv 3) Ac (fun _ _=>rfl)) (Ab (A_ (An (K:=K) rfl) (pv 3) Ac (fun _ _=>rfl)) (Ab (A_ (An (K:=K) rfl) (pv 3) Ac (fun _ _=>rfl)) Aa))))) Aa)))) BW))))
   (Ae (Av (pv 2))))),?_⟩
  refine ⟨Bl (by simp),fun D hD=>?_⟩
  have s0:=Ax (o:=HO.lst []) hD
  have hS:DQ K H p us:=.inl (.inl hp)
  refine ⟨_,rfl,p,rfl,⟨_,s0.seq hS⟩,Gg (K:=K) (a:=p) (xs:=us) (fun i σ H4=>Ak H H4/\∃ lv,H4 D=some (.lst lv)/\Paired (fun l v=>Gy H4 l v) (linesOf rk ((us.take i).map ρ)) lv/\lv.Nodup/\(∀ v∈lv,v ≠ .ref D)/\(∀ v∈lv,∃ A,v=.ref A/\H A=none)/\lv.length<=i/\(∀ l∈linesOf rk ((us.take i).map ρ),l.length<=i)/\∃ v3,σ=[some (.ref p),some (.ref d),some (.ref D),v3])
   ⟨s0,[],Ah,.nil,List.nodup_nil,(fun v hv=>nomatch hv),(fun v hv=>nomatch hv),Nat.le_refl _,(fun l hl=>nomatch hl),_,rfl⟩ (fun i σ H4 _ h=>h.1.seq hS) ?_ ?_⟩
  ·rintro i x σ H4 hx ⟨s4,lv,hd,hpr,nd,hne,hA0,hlv,hll,v3,rfl⟩
   have hm:=List.mem_of_getElem? hx
   have hi:i<us.length:=(List.getElem?_eq_some_iff.mp hx).1
   obtain ⟨r,rfl,hr0⟩:=(hR.mono s4) x hm
   have etake:(us.take (i+1)).map ρ=(us.take i).map ρ++[ρ (.ref r)]:=by
    rw [List.take_add_one,hx,List.map_append]
    rfl
   have est:linesOf rk ((us.take (i+1)).map ρ)=Dl rk (linesOf rk ((us.take i).map ρ)) (ρ (.ref r)):=by rw [etake,Ci]
   have lvl:(linesOf rk ((us.take i).map ρ)).length=lv.length:=hpr.length
   by_cases hk:Ej (ρ (.ref r)).w=true
   ·have hnl:¬ (ρ (.ref r)).w = "line":=fun z=>by rw [z] at hk; exact absurd hk (by decide +kernel)
    have est2:linesOf rk ((us.take (i+1)).map ρ)=linesOf rk ((us.take i).map ρ)++[[]]:=by rw [est]; unfold Dl; rw [if_pos hk]
    refine ⟨_,rfl,r,_,_,_,rfl,rfl,.inl (.inl hr0),Aj (j:=0) rfl,aK,_,rfl,.inr (T.tK.sq _),rfl,rfl,_,rfl,?_⟩
    refine Cq (fun _=>?_) (fun z=>absurd hk z)
    refine ⟨_,rfl,.inl ⟨rfl,_,.inl (.inl hd)⟩,Bl (by simp),fun p5 hp5=>?_⟩
    obtain ⟨H5,eqH,s5,u5⟩:=Ds (o:=HO.lst []) hp5
    rw [eqH]
    have hd5:=s5 _ _ hd
    refine ⟨D,lv,_,rfl,rfl,hd5,BJ (by omega),?_⟩
    have hrD:r ≠ D:=W7 (s5 _ _ hr0) hd5 (by intro z; cases z)
    have hpD:p5 ≠ D:=fun z=>by rw [z,hd] at hp5; cases hp5
    refine ⟨_,rfl,r,_,_,_,rfl,rfl,.inl (.inl (by rw [Ar hrD]; exact s5 _ _ hr0)),Aj (j:=0) rfl,rfl,_,rfl,?_⟩
    refine Cq (fun z=>absurd (V.str.inj (of_decide_eq_true z)) hnl) (fun _=>?_)
    refine ⟨fun b u e=>?_,lv++[.ref p5],Ah,?_,?_,?_,?_,by simp; omega,?_,_,rfl⟩
    ·rw [Ar (Ai e hD)]
     exact s5 _ _ (s4 _ _ e)
    ·rw [est2]
     refine Ep (Fe hpr fun l v hv h=>J7 (h.mono s5) hd5 (hne v hv)) (.cons ⟨p5,[],rfl,by rw [Ar hpD]; exact u5,.nil⟩ .nil)
    ·refine QQ nd fun hm=>?_
     obtain ⟨l,_,hA⟩:=CZ hpr hm
     obtain ⟨A,ts,e,h1,_⟩:=hA
     cases e
     rw [h1] at hp5
     cases hp5
    ·intro v hv
     rcases List.mem_append.mp hv with h | h
     ·exact hne v h
     ·rw [List.mem_singleton.mp h]
      intro z
      exact hpD (V.ref.inj z)
    ·intro v hv
     rcases List.mem_append.mp hv with h | h
     ·exact hA0 v h
     ·exact ⟨p5,List.mem_singleton.mp h,s4.free hp5⟩
    ·intro l hl'
     rw [est2] at hl'
     rcases List.mem_append.mp hl' with h | h
     ·exact Nat.le_succ_of_le (hll l h)
     ·rw [List.mem_singleton.mp h]
      exact Nat.zero_le _
   ·refine ⟨_,rfl,r,_,_,_,rfl,rfl,.inl (.inl hr0),Aj (j:=0) rfl,aK,_,rfl,.inr (T.tK.sq _),rfl,rfl,_,rfl,?_⟩
    refine Cq (fun z=>absurd z hk) (fun _=>?_)
    refine ⟨_,rfl,r,_,_,_,rfl,rfl,.inl (.inl hr0),Aj (j:=0) rfl,rfl,_,rfl,?_⟩
    by_cases hwl:(ρ (.ref r)).w = "line"
    ·refine Cq (fun _=>?_) (fun z=>absurd (decide_eq_true (congrArg V.str hwl)) z)
     obtain ⟨⟨j,rr,sh,lo,hi',hj,hnm,hrest⟩,u,hu,hku⟩:=hln i _ hx hwl
     have hne0:linesOf rk ((us.take i).map ρ) ≠ []:=M9 ⟨ρ u,List.mem_map_of_mem hu,hku⟩
     obtain ⟨ac,z,eac⟩:=Fd hne0
     rw [eac] at hpr
     obtain ⟨lv',v,rfl,hpr',hz⟩:=JD hpr
     obtain ⟨A,ts,rfl,hA,htp⟩:=hz
     have est2:linesOf rk ((us.take (i+1)).map ρ)=ac++[z++[⟨j,sh,lo,hi'⟩]]:=by
      rw [est]
      unfold Dl
      rw [if_neg hk,if_pos hwl,eac,HJ]
      unfold lnOf
      rw [hrest,← hnm,Y8 hnd hj]
     have hr1:H4 r=some (.tup [.str (ρ (.ref r)).w,.str (ρ (.ref r)).nm,.int sh,.int lo,.int hi']):=by rw [hr0,← hrest]
     have g:=Gd.k (k:=Sum.inr rr.1) (s4 _ _ hdk)
     rw [hval j rr hj,hnm] at g
     have hAD:A ≠ D:=fun e=>hne (.ref A) (by simp) (by rw [e])
     have hzl:z.length<=i:=hll z (by rw [eac]; simp)
     have htl:=htp.length
     refine ⟨_,rfl,_,rfl,D,_,_,_,rfl,rfl,.inl (.inl hd),WW lv' (V.ref A),.inl ⟨rfl,_,.inl (.inl hA)⟩,_,rfl,_,rfl,r,_,_,_,rfl,rfl,.inl (.inl hr1),Aj (j:=1) rfl,d,_,rfl,g,_,rfl,r,_,_,_,rfl,rfl,.inl (.inl hr1),Aj (j:=2) rfl,_,rfl,r,_,_,_,rfl,rfl,.inl (.inl hr1),Aj (j:=3) rfl,_,rfl,r,_,_,_,rfl,rfl,.inl (.inl hr1),Aj (j:=4) rfl,by show 4<=sizeLine; decide,fun T5 hT5=>?_⟩
     obtain ⟨H5,eqH,s5,u5⟩:=Ds (o:=HO.tup [.int (j:Nat),.int sh,.int lo,.int hi']) hT5
     rw [eqH]
     have hA5:=s5 _ _ hA
     have hTA:T5 ≠ A:=fun e=>by rw [e,hA] at hT5; cases hT5
     have hdj:D ≠ A:=fun e=>hAD e.symm
     obtain ⟨nd1,_,hdisj⟩:=List.nodup_append.mp nd
     refine ⟨A,ts,_,rfl,rfl,hA5,BJ (by omega),?_⟩
     refine ⟨fun b u e=>?_,lv'++[.ref A],by rw [Ar hdj]; exact s5 _ _ hd,?_,nd,hne,hA0,by omega,?_,_,rfl⟩
     ·obtain ⟨A',eA,hA'⟩:=hA0 (.ref A) (by simp)
      cases eA
      rw [Ar (Ai e hA')]
      exact s5 _ _ (s4 _ _ e)
     ·rw [est2]
      refine Ep (Fe hpr' fun l v hv h=>J7 (h.mono s5) hA5 (fun e=>hdisj v hv _ (List.mem_singleton.mpr rfl) e)) (.cons ⟨A,ts++[.ref T5],rfl,Ah,Ep (Dy (Aq s5 htp) hA5) (.cons ⟨T5,rfl,by rw [Ar hTA]; exact u5⟩ .nil)⟩ .nil)
     ·intro l hl'
      rw [est2] at hl'
      rcases List.mem_append.mp hl' with h | h
      ·exact Nat.le_succ_of_le (hll l (by rw [eac]; exact List.mem_append_left _ h))
      ·rw [List.mem_singleton.mp h,List.length_append,List.length_singleton]
       omega
    ·refine Cq (fun z=>absurd (V.str.inj (of_decide_eq_true z)) hwl) (fun _=>?_)
     have est2:linesOf rk ((us.take (i+1)).map ρ)=linesOf rk ((us.take i).map ρ):=by rw [est]; unfold Dl; rw [if_neg hk,if_neg hwl]
     rw [← est2] at hpr hll
     exact ⟨s4,lv,hd,hpr,nd,hne,hA0,by omega,fun l hl'=>Nat.le_succ_of_le (hll l hl'),_,rfl⟩
  ·rintro σ H4 ⟨s4,lv,hd,hpr,nd,hne,hA0,hlv,hll,v3,rfl⟩
   rw [List.take_length] at hpr
   have hDp:D ≠ p:=Ne.symm (Ai hp hD)
   refine ⟨_,rfl,q D H4 hD s4 ⟨lv,hd,hDp,Fe hpr fun l v hv h=>⟨h,fun z=>?_⟩⟩⟩
   obtain ⟨A,e,hA⟩:=hA0 v hv
   rw [e] at z
   rw [V.ref.inj z,hp] at hA
   cases hA
noncomputable abbrev nV (l:List Nat):List V:=l.map fun n:Nat=>V.int (n:Int)
noncomputable def gB:Sp:=fun vs H Q _=>∃ i:Int,vs=[.int i]/\Q (.bl (decide (0<=i) && decide (i<1200))) H
theorem nC:Ao ["thing"] ["thing"] (Af nq):=Bm
include N T in
theorem bZ:Aw P w K mg base Bg 2 fMy dMy ["thing"] gB:=by
 have GWh:Aw P w K mg base Bg 1 fWh dWh ["thing"] V_:=Ww N T
 refine N.FMy.1.ok nC (fun vs H Q E h=>?_) (fun cdv A outer s H vs Q E hr h=>?_)
 ·obtain ⟨i,rfl,_⟩:=h
  rfl
 ·obtain ⟨i,rfl,q⟩:=h
  have hrWh:BX 1 _:=hr.mono (by decide)
  obtain ⟨tMB,hMB⟩:=T.below
  refine ⟨_,(Ae (Av (Dc (Al GWh hrWh rfl N.FWh.2.2 N.FWh.1.kp N.FWh.2.1 .nil Ay (Ab (pv 0) Aa)) (DP (Gq Fy Jg Ac (pv 0) (Bu (v:=.int 1200) rfl hMB ⟨tMB,rfl⟩)))))),?_⟩
  refine ⟨_,rfl,i,rfl,_,rfl,Cm ?_⟩
  refine ⟨_,rfl,_,_,rfl,rfl,_,rfl,?_⟩
  refine Cq (fun h1=>?_) (fun h1=>?_)
  ·rw [h1,Bool.true_and] at q
   exact ⟨_,_,rfl,rfl,q⟩
  ·rw [(Bool.not_eq_true _).mp h1,Bool.false_and] at q
   exact q
noncomputable def Tv:Sp:=fun vs H Q _=>∃ (p:Addr) (l:List Nat),vs=[.ref p]/\H p=some (.lst (nV l))/\l.length<=500/\(∀ n∈l,n<1200)/\∀ H',Ak H H'->Q (.int (Wd.mk l:Nat)) H'
theorem eY (l:List Nat) (n:Nat):Builtin.bitOr ((Wd.mk l:Nat):Int) (1 * 2 ^ ((n:Nat):Int).toNat)=((Wd.mk (l++[n]):Nat):Int):=by
 rw [Int.one_mul,Int.toNat_natCast,Sx,Eh,Wd.Lk]
theorem Wk:Ao ["numbers","some","number"] ["numbers"] (Af gm):=Bm
include N T in
theorem Uh:Aw P w K mg base Bg 3 fSt dSt ["numbers"] Tv:=by
 have GMy:Aw P w K mg base Bg 2 fMy dMy ["thing"] gB:=bZ N T
 refine N.FSt.1.ok Wk (fun vs H Q E h=>?_) (fun cdv A outer s H vs Q E hr h=>?_)
 ·obtain ⟨p,l,rfl,_⟩:=h
  rfl
 ·obtain ⟨p,l,rfl,hp,hz,hb,q⟩:=h
  have hrMy:BX 2 _:=hr.mono (by decide)
  refine ⟨_,(Ad (Bc (PW.pt (Im (Dw (DN (BK Cw rfl T.isin PyProof.Rows.boot_isinstance (Ab (pv 0) (Ab (EY (v:=.ty "list") rfl T.list PyProof.Rows.boot_list rfl) Aa))))) (G9 (Dw (DN (BK (G_ rfl) rfl T.all PyProof.Rows.boot_all (Ab (Bk rfl (Bb (osc:=Af gm) (N:=["numbers","some","number"]) rfl rfl (by decide +kernel)) (Bq (pv 0)) (fun _ _ _ _=>Ck) (fun _ _ _ _=>(Al GMy hrMy rfl N.FMy.2.2 N.FMy.1.kp N.FMy.2.1 .nil Ay (Ab (pv 0) Aa)))) Aa))))))) (Ae I_) BW)
   (Ad (C_ (i:=1) Wk.nd rfl (Or.inl rfl) Ac)
   (Ad (Ef PassesOwn.never rfl (Bq (pv 0)) (B_ (i:=2) Wk.nd rfl (Or.inl rfl)) (Ae (C_ (i:=1) Wk.nd rfl (Or.inl rfl) (BP Hc (pv 1) (BP J1 Ac (pv 2))))))
   (Ae (Av (pv 1)))))),?_⟩
  have hS:DQ K H p (nV l):=.inl (.inl hp)
  refine ⟨_,rfl,_,"list",_,_,rfl,.lst hp,QH,_,rfl,Bo ?_⟩
  have hzl:(nV l).length<sizeLine:=BJ (by simp; omega)
  refine ⟨_,rfl,p,rfl,⟨_,hS⟩,Cv (K:=K) (xs:=nV l) (fun _=>true) (fun _=>.bl true) hS hzl (fun x hx H' hs R k=>k H' (Ak.refl H')) (fun x hx _ H' hs R k=>?_) (fun D H' hD hs hl=>?_)⟩
  ·obtain ⟨n,hn,rfl⟩:=List.mem_map.mp hx
   refine ⟨_,rfl,(n:Int),rfl,?_⟩
   have e:(decide ((0:Int)<=(n:Int)) && decide ((n:Int)<1200))=true:=by
    have:=hb n hn
    simp
    omega
   rw [e]
   exact k H' (Ak.refl H')
  ·refine ⟨D,(nV l).map fun _=>true,rfl,.inl (.inl ?_),?_⟩
   ·rw [hl,List.filter_eq_self.mpr (fun _ _=>rfl)]
    simp
   ·have e:((nV l).map fun _=>true).all id=true:=by simp
    rw [e]
    refine ⟨_,rfl,Bo ?_⟩
    refine ⟨_,rfl,p,rfl,⟨_,hs.seq hS⟩,Gg (K:=K) (a:=p) (xs:=nV l) (fun i σ H4=>H4=H'/\∃ v2,σ=[some (.ref p),some (.int (Wd.mk (l.take i):Nat)),v2]) ⟨rfl,_,rfl⟩ (fun i σ H4 _ h=>by rw [h.1]; exact hs.seq hS) ?_ ?_⟩
    ·rintro i y σ H4 hi ⟨rfl,v2,rfl⟩
     rw [List.getElem?_map] at hi
     obtain ⟨n,hn,rfl⟩:=Option.map_eq_some_iff.mp hi
     have hn':=hb n (List.mem_of_getElem? hn)
     refine ⟨_,rfl,_,rfl,_,_,rfl,rfl,⟨by omega,by omega,by decide⟩,_,_,rfl,rfl,?_⟩
     refine ⟨rfl,some (.int (n:Int)),?_⟩
     dsimp only
     rw [eY,List.take_add_one,hn]
     rfl
    ·rintro σ H4 ⟨rfl,v2,rfl⟩
     have el:l.take (nV l).length=l:=List.take_of_length_le (by simp)
     rw [el]
     exact ⟨_,rfl,q _ hs⟩
noncomputable def n_ (nms:List Str):V->V
 | .str t=>.int (nms.idxOf t:Nat)
 | _=>.non
theorem RL {nms:List Str} {t:Str} (h:t∈nms):nms[nms.idxOf t]? = some t:=by
 rw [List.getElem?_eq_getElem (List.idxOf_lt_length_of_mem h),List.getElem_idxOf]
noncomputable def cF:Sp:=fun vs H Q _=>∃ (r kd:Addr) (ro:R) (kvs:List (Key × V)) (nms ts:List Str),vs=[.ref r,.ref kd]/\H r=some (.tup ro.v)/\H kd=some (.dK kvs)/\V.str ro.nm::ro.rest=ts.map V.str/\ts.length<=24/\nms.length<=300/\(∀ (i:Nat) t,nms[i]? = some t->CV kvs (Sum.inr t)=some (.int (i:Nat)))/\(∀ t∈ts,t∈nms)/\∀ H',Ak H H'->Q (.int (Wd.mk (ts.map fun t=>nms.idxOf t):Nat)) H'
theorem mF:Ao ["row","knob_numbers"] ["row","knob_numbers"] (Af gP):=Bm
include N T in
theorem aY:Aw P w K mg base Bg 4 fSs dSs ["row","knob_numbers"] cF:=by
 have GSt:Aw P w K mg base Bg 3 fSt dSt ["numbers"] Tv:=Uh N T
 refine N.FSs.1.ok mF (fun vs H Q E h=>?_) (fun cdv A outer s H vs Q E hr h=>?_)
 ·obtain ⟨r,kd,ro,kvs,nms,ts,rfl,_⟩:=h
  rfl
 ·obtain ⟨r,kd,ro,kvs,nms,ts,rfl,hr0,hkd,ets,h24,hnm,hval,hin,q⟩:=h
  have hrSt:BX 3 _:=hr.mono (by decide)
  have hu:=CN hr
  refine ⟨_,(Ae (Av (Al GSt hrSt rfl N.FSt.2.2 N.FSt.1.kp N.FSt.2.1 .nil Ay (Ab (Bk rfl (Bb (osc:=Af gP) (N:=["row","knob_numbers"]) rfl rfl (by decide +kernel)) (Mu (Ce Ma (pv 0) (DG Ac) Dm)) (fun _ _ _ _=>Ck) (fun _ _ _ _=>(H_ hu (pv 2) (pv 0) (fun _ _=>rfl)))) Aa)))),?_⟩
  have hv:ro.v=V.str ro.w::ts.map V.str:=by
   show V.str ro.w::(V.str ro.nm::ro.rest)=_
   rw [ets]
  rw [hv] at hr0
  have e1:HT.Dg (V.str ro.w::ts.map V.str).length 0 (some 1)=1:=by
   rw [show (some (1:Int))=some ((1:Nat):Int) from rfl,HT.Du]
   simp
  have hcut:Dn (V.str ro.w::ts.map V.str) (some 1) none=ts.map V.str:=by
   unfold Dn
   rw [e1,HT.G8]
   simp
   exact List.take_of_length_le (by rw [List.length_map]; exact Nat.le_refl _)
  refine ⟨_,rfl,_,rfl,r,_,rfl,.inl (.inl hr0),?_,fun n0 hn0=>?_⟩
  ·rintro ⟨z,_⟩
   rw [e1] at z
   cases z
  rw [hcut]
  obtain ⟨H1,eqH,s1,a1⟩:=Ds (o:=HO.tup (ts.map V.str)) hn0
  rw [eqH]
  have hT:Gm K H1 n0 (ts.map V.str):=.inl (.inl a1)
  have ltm:(ts.map V.str).length=ts.length:=List.length_map ..
  refine ⟨n0,rfl,⟨_,hT⟩,KH (K:=K) (xs:=ts.map V.str) (fun _=>true) (n_ nms) hT (BJ (by omega)) (fun x hx H' hs R k=>k H' (Ak.refl H')) (fun x hx _ H' hs R k=>?_) (fun D H2 hD s2 hl2=>?_)⟩
  ·obtain ⟨t,ht,rfl⟩:=List.mem_map.mp hx
   have g:=Gd.k (k:=Sum.inr t) (hs _ _ (s1 _ _ hkd))
   rw [hval _ t (RL (hin t ht))] at g
   exact ⟨_,rfl,_,rfl,kd,_,rfl,g,k H' (Ak.refl H')⟩
  ·rw [List.filter_eq_self.mpr (fun _ _=>rfl),List.map_map] at hl2
   have e2:ts.map (n_ nms ∘ V.str)=nV (ts.map fun t=>nms.idxOf t):=by
    unfold nV
    rw [List.map_map]
    rfl
   rw [e2] at hl2
   refine ⟨D,_,rfl,hl2,by rw [List.length_map]; omega,fun n hn=>?_,fun H3 s3=>q H3 (s1.trans (s2.trans s3))⟩
   obtain ⟨t,ht,rfl⟩:=List.mem_map.mp hn
   have:=List.idxOf_lt_length_of_mem (hin t ht)
   omega
noncomputable abbrev Wo:List Str:=["row_list","board_list","rank_list","knob_rows","board_numbers","rank_numbers","knob_numbers","key_places","pipe_places","knob_lines","step_sets"]
theorem D_:∀ m∈meths,∀ f∈Wo,¬ m=f:=by decide +kernel
theorem Ri {rk:List (Str × Nat × Int)} {ρ:V->R} {us:List V} {P1:Nat->V->Prop} (h:∀ (i:Nat) v,us[i]? = some v->(ρ v).w = "line"->P1 i v/\∃ u∈us.take i,Ej (ρ u).w=true):(linesOf rk (us.map ρ)).length=(us.filter (fun v=>Ej (ρ v).w)).length:=by
 have key:∀ n,n<=us.length->(linesOf rk ((us.take n).map ρ)).length=((us.take n).filter (fun v=>Ej (ρ v).w)).length:=by
  intro n
  induction n with
  | zero=>intro _; rfl
  | succ n ih =>
   intro hn
   have hx:=List.getElem?_eq_getElem (l:=us) (i:=n) (by omega)
   rw [List.take_add_one,hx,List.map_append]
   show (linesOf rk ((us.take n).map ρ++[ρ us[n]])).length=((us.take n++[us[n]]).filter _).length
   rw [Ci,List.filter_append,List.length_append,← ih (by omega)]
   unfold Dl
   by_cases hk:Ej (ρ us[n]).w=true
   ·rw [if_pos hk,List.filter_cons,if_pos hk]
    simp
   ·rw [if_neg hk,List.filter_cons,if_neg hk]
    by_cases hl:(ρ us[n]).w = "line"
    ·rw [if_pos hl]
     obtain ⟨_,u,hu,hku⟩:=h n _ hx hl
     obtain ⟨a,z,e⟩:=Fd (M9 (rk:=rk) ⟨ρ u,List.mem_map_of_mem hu,hku⟩)
     rw [e,HJ]
     simp
    ·rw [if_neg hl]
     simp
 have:=key us.length (Nat.le_refl _)
 rw [List.take_length] at this
 exact this
noncomputable def fH (K:PySem.W.Frag) (aB aP aM C:Addr):Sp:=fun vs H Q _=>∃ (x dx p:Addr) (us:List V) (ρ:V->R) (bs:List (Str × Nat)) (rk:List (Str × Nat × Int)) (ks:List R),vs=[.ref x,.ref p]/\H x=some (.ins C dx [])/\H p=some (.lst us)/\Rows H ρ us/\jz K aB aP aM ρ us bs rk ks/\∀ H',Jb C H' x us bs rk ks (linesOf rk (us.map ρ)) ((us.filter (pw ρ "step")).map fun v=>stN ks (ρ v))->(∀ H'',SX p H' H''->Jb C H'' x us bs rk ks (linesOf rk (us.map ρ)) ((us.filter (pw ρ "step")).map fun v=>stN ks (ρ v)))->SX x H H'->Q .non H'
theorem kY:Ao ["self","rows"] ["self","rows"] (Af Va):=Bm
include N T in
theorem ZX:Aw P w K mg base Bg 9 fOi dOi ["self","rows"] (fH K aB aP aM C):=by
 have GCk:Aw P w K mg base Bg 8 fCk dCk ["rows"] (Zw K aB aP aM):=gD N T
 have GRo:Aw P w K mg base Bg 1 fRo dRo ["rows","word"] Rr:=Nj N T
 have GNu:Aw P w K mg base Bg 1 fNu dNu ["names"] aU:=az N T
 have GPl:Aw P w K mg base Bg 1 fPl dPl ["things"] ao:=Zo N T
 have GLi:Aw P w K mg base Bg 1 fLi dLi ["rows","rank_numbers"] d8:=dR N T
 have GSs:Aw P w K mg base Bg 4 fSs dSs ["row","knob_numbers"] cF:=aY N T
 refine N.FOi.1.ok kY (fun vs H Q E h=>?_) (fun cdv A outer s H vs Q E hr h=>?_)
 ·obtain ⟨x,dx,p,us,ρ,bs,rk,ks,rfl,_⟩:=h
  rfl
 ·obtain ⟨x,dx,p,us,ρ,bs,rk,ks,rfl,hx,hp,hR,O,q⟩:=h
  have hrCk:BX 8 _:=hr.mono (by decide)
  have hrRo:BX 1 _:=hr.mono (by decide)
  have hrNu:BX 1 _:=hr.mono (by decide)
  have hrPl:BX 1 _:=hr.mono (by decide)
  have hrLi:BX 1 _:=hr.mono (by decide)
  have hrSs:BX 4 _:=hr.mono (by decide)
  refine ⟨_,(Ad (CK (Al GCk hrCk rfl N.FCk.2.2 N.FCk.1.kp N.FCk.2.1 .nil Ay (Ab (pv 1) Aa)))
   (Ad (Cz (pv 0) (HD Iz rfl T.list PyProof.Rows.boot_list (Ab (pv 1) Aa)) rfl)
   (Ad (Cz (pv 0) (Bk rfl (Bb (osc:=Af Va) (N:=["self","rows"]) rfl rfl (by decide +kernel)) (Bq (Al GRo hrRo rfl N.FRo.2.2 N.FRo.1.kp N.FRo.2.1 .nil Ay (Ab (pv 1) (Ab BR Aa)))) (fun _ _ _ _=>Ck) (fun _ _ _ _=>(Bt (Ab (A_ (An (K:=K) rfl) (pv 0) Ac (fun _ _=>rfl)) (Ab (A_ (An (K:=K) rfl) (pv 0) Ac (fun _ _=>rfl)) Aa))))) rfl)
   (Ad (Cz (pv 0) (Bk rfl (Bb (osc:=Af Va) (N:=["self","rows"]) rfl rfl (by decide +kernel)) (Bq (Al GRo hrRo rfl N.FRo.2.2 N.FRo.1.kp N.FRo.2.1 .nil Ay (Ab (pv 1) (Ab BR Aa)))) (fun _ _ _ _=>Ck) (fun _ _ _ _=>(Bt (Ab (A_ (An (K:=K) rfl) (pv 0) Ac (fun _ _=>rfl)) (Ab (A_ (An (K:=K) rfl) (pv 0) Ac (fun _ _=>rfl)) (Ab (A_ (An (K:=K) rfl) (pv 0) Ac (fun _ _=>rfl)) Aa)))))) rfl)
   (Ad (Cz (pv 0) (Bk rfl (Bb (osc:=Af Va) (N:=["self","rows"]) rfl rfl (by decide +kernel)) (Bq (pv 1)) (fun _ _ _ _=>(Hn (Az (Hm (K:=K) rfl) (A_ (An (K:=K) rfl) (pv 0) Ac (fun _ _=>rfl)) (Bu (v:=.ref aK) rfl T.mK rfl) rfl))) (fun _ _ _ _=>(pv 0))) rfl)
   (Ad (Cz (pv 0) (Al GNu hrNu rfl N.FNu.2.2 N.FNu.1.kp N.FNu.2.1 .nil Ay (Ab (Bk rfl (Bb (osc:=Af Va) (N:=["self","rows"]) rfl rfl (by decide +kernel)) (Bq (Bh (pv 0) rfl)) (fun _ _ _ _=>Ck) (fun _ _ _ _=>(A_ (An (K:=K) rfl) (pv 0) Ac (fun _ _=>rfl)))) Aa)) rfl)
   (Ad (Cz (pv 0) (Al GNu hrNu rfl N.FNu.2.2 N.FNu.1.kp N.FNu.2.1 .nil Ay (Ab (Bk rfl (Bb (osc:=Af Va) (N:=["self","rows"]) rfl rfl (by decide +kernel)) (Bq (Bh (pv 0) rfl)) (fun _ _ _ _=>Ck) (fun _ _ _ _=>(A_ (An (K:=K) rfl) (pv 0) Ac (fun _ _=>rfl)))) Aa)) rfl)
   (Ad (Cz (pv 0) (Al GNu hrNu rfl N.FNu.2.2 N.FNu.1.kp N.FNu.2.1 .nil Ay (Ab (Bk rfl (Bb (osc:=Af Va) (N:=["self","rows"]) rfl rfl (by decide +kernel)) (Bq (Bh (pv 0) rfl)) (fun _ _ _ _=>Ck) (fun _ _ _ _=>(A_ (An (K:=K) rfl) (pv 0) Ac (fun _ _=>rfl)))) Aa)) rfl)
   (Ad (Cz (pv 0) (Al GPl hrPl rfl N.FPl.2.2 N.FPl.1.kp N.FPl.2.1 .nil Ay (Ab (Bh (pv 0) rfl) Aa)) rfl)
   (Ad (Cz (pv 0) (Al GPl hrPl rfl N.FPl.2.2 N.FPl.1.kp N.FPl.2.1 .nil Ay (Ab (Bh (pv 0) rfl) Aa)) rfl)
   (Ad (Cz (pv 0) (Al GLi hrLi rfl N.FLi.2.2 N.FLi.1.kp N.FLi.2.1 .nil Ay (Ab (pv 1) (Ab (Bh (pv 0) rfl) Aa))) rfl)
   (Ae (Cz (pv 0) (Bk rfl (Bb (osc:=Af Va) (N:=["self","rows"]) rfl rfl (by decide +kernel)) (Bq (Al GRo hrRo rfl N.FRo.2.2 N.FRo.1.kp N.FRo.2.1 .nil Ay (Ab (pv 1) (Ab BR Aa)))) (fun _ _ _ _=>Ck) (fun _ _ _ _=>(Al GSs hrSs rfl N.FSs.2.2 N.FSs.1.kp N.FSs.2.1 .nil Ay (Ab (pv 0) (Ab (V5 (K:=K) rfl (pv 1) rfl) Aa))))) rfl))))))))))))),?_⟩
  have hlen:=O.len
  obtain ⟨ur,hur⟩:∃ ur,us.filter (pw ρ "rank")=ur:=⟨_,rfl⟩
  have er:ur.map ρ=rk.map Ge:=by rw [← hur]; exact O.er
  have lr:ur.length=rk.length:=by have:=congrArg List.length er; simpa using this
  have inR:∀ {v},v∈ur->v∈us:=fun {v} hv=>by rw [← hur] at hv; exact (List.mem_filter.mp hv).1
  have ofR:∀ {v},v∈ur->∃ b∈rk,ρ v=Ge b:=fun {v} hv=>by
   have:ρ v∈rk.map Ge:=by rw [← er]; exact List.mem_map_of_mem hv
   obtain ⟨b,hb,e⟩:=List.mem_map.mp this
   exact ⟨b,hb,e.symm⟩
  obtain ⟨ub,hub⟩:∃ ub,us.filter (pw ρ "board")=ub:=⟨_,rfl⟩
  obtain ⟨uk,huk⟩:∃ uk,us.filter (fun v=>Ej (ρ v).w)=uk:=⟨_,rfl⟩
  have eb:ub.map ρ=bs.map GR:=by rw [← hub]; exact O.eb
  have ek:uk.map ρ=ks:=by rw [← huk]; exact O.ek
  have lb:ub.length=bs.length:=by have:=congrArg List.length eb; simpa using this
  have lku:uk.length=ks.length:=by have:=congrArg List.length ek; simpa using this
  have inB:∀ {v},v∈ub->v∈us:=fun {v} hv=>by rw [← hub] at hv; exact (List.mem_filter.mp hv).1
  have inKn:∀ {v},v∈uk->v∈us:=fun {v} hv=>by rw [← huk] at hv; exact (List.mem_filter.mp hv).1
  have ofB:∀ {v},v∈ub->∃ b∈bs,ρ v=GR b:=fun {v} hv=>by
   have:ρ v∈bs.map GR:=by rw [← eb]; exact List.mem_map_of_mem hv
   obtain ⟨b,hb,e⟩:=List.mem_map.mp this
   exact ⟨b,hb,e.symm⟩
  have l1us:1<=us.length:=by
   have h1:=O.b0
   have h2:ub.length<=us.length:=by rw [← hub]; exact List.length_filter_le _ _
   omega
  refine ⟨_,rfl,p,us,ρ,rfl,hp,hR,l1us,by omega,O.ok,?_,fun H1 s1=>?_⟩
  ·rw [hub]
   cases ub with
   | nil =>
    have:=O.b0
    simp at lb
    omega
   | cons a b=>rfl
  have c1:SX x H H1:=SX.of s1
  have x1:=s1 _ _ hx
  refine ⟨_,rfl,p,_,rfl,.inl (.inl (.inl (s1 _ _ hp))),fun l1 hl1=>?_⟩
  have nl1:l1 ≠ p:=Ne.symm (Ai (s1 _ _ hp) hl1)
  obtain ⟨H2,eqH,s2,rw2⟩:=Ds (o:=HO.lst us) hl1
  rw [eqH]
  refine ⟨_,rfl,x,C,dx,_,rfl,s2 _ _ x1,T.cl,T.n_row_list,(by show 0<1000; decide),?_⟩
  have c2:SX x H _:=(c1.trans (SX.of s2)).trans (SX.up (o:=HO.ins C dx (BV "row_list" (.ref l1) [])))
  have x2:upd H2 x (HO.ins C dx (BV "row_list" (.ref l1) [])) x=_:=Ah
  have rw3:=(SX.up (o:=HO.ins C dx (BV "row_list" (.ref l1) [])):SX x H2 _).lst (s2 _ _ x1) rw2
  generalize upd H2 x (HO.ins C dx (BV "row_list" (.ref l1) []))=H3 at c2 x2 rw3 ⊢
  have c0:=c2
  replace hR:Rows H3 ρ us:=fun v hv=>c2.tup hx (hR v hv)
  replace hp:=c2.lst hx hp
  clear c2
  replace hx:=x2
  have c2:SX x H3 H3:=SX.of (Ak.refl _)
  have R3:Rows H3 ρ us:=fun v hv=>c2.tup hx (hR v hv)
  refine ⟨_,rfl,p,_,"board",ρ,rfl,c2.lst hx hp,R3,by omega,fun D4 H4 hD4 s4 hl4=>?_⟩
  rw [hub] at hl4
  have hS4:DQ K H4 D4 ub:=.inl (.inl hl4)
  refine ⟨D4,rfl,⟨_,hS4⟩,J0 (K:=K) (xs:=ub) (fun _=>true) (fun v=>[.str (ρ v).nm,(ρ v).rest.getD 0 .non]) hS4 (BJ (by have:=O.b5; omega)) (fun y hy H' hs R k=>k H' (Ak.refl H')) (fun y hy _ H' hs R k=>?_) (fun D5 H5 bvs hD5 s5 hl5 hb5=>?_)⟩
  ·obtain ⟨b,_,e⟩:=ofB hy
   have hT:=(R3 y (inB hy)).mono (s4.trans hs)
   rw [e] at hT k
   obtain ⟨T0,rfl,hT⟩:=hT
   exact ⟨_,rfl,T0,_,_,_,rfl,rfl,.inl (.inl hT),Aj (j:=1) rfl,_,rfl,T0,_,_,_,rfl,rfl,.inl (.inl hT),Aj (j:=2) rfl,by show 2<=sizeLine; decide,fun T6 hT6=>k _ _ (Ax hT6) ⟨T6,rfl,Ah⟩⟩
  rw [List.filter_eq_self.mpr (fun _ _=>rfl)] at hb5
  have hb5':Paired (fun b y=>TupAt H5 (bV b) y) bs bvs:=by
   have h1:=Cp (F:=fun (r:R) y=>TupAt H5 [.str r.nm,r.rest.getD 0 .non] y) ρ hb5
   rw [eb] at h1
   exact Fi GR h1
  clear hb5
  refine ⟨_,rfl,x,C,dx,_,rfl,s5 _ _ (s4 _ _ x2),T.cl,T.n_board_list,Nat.lt_of_le_of_lt (Bp _ _ _) (by show 1<1000; decide),?_⟩
  have u6:SX x H5 _:=SX.up (o:=HO.ins C dx (BV "board_list" (.ref D5) (BV "row_list" (.ref l1) [])))
  have x5:=s5 _ _ (s4 _ _ x2)
  have c6:=(c2.trans (SX.of (s4.trans s5))).trans u6
  have x6:upd H5 x (HO.ins C dx (BV "board_list" (.ref D5) (BV "row_list" (.ref l1) []))) x=_:=Ah
  have hl6:=u6.lst x5 hl5
  have hb6:=u6.pair x5 hb5'
  generalize upd H5 x (HO.ins C dx (BV "board_list" (.ref D5) (BV "row_list" (.ref l1) [])))=H6 at c6 x6 hl6 hb6 ⊢
  clear u6
  have R6:Rows H6 ρ us:=fun v hv=>c6.tup hx (hR v hv)
  refine ⟨_,rfl,p,_,"rank",ρ,rfl,c6.lst hx hp,R6,by omega,fun D7 H7 hD7 s7 hl7=>?_⟩
  rw [hur] at hl7
  have hS7:DQ K H7 D7 ur:=.inl (.inl hl7)
  refine ⟨D7,rfl,⟨_,hS7⟩,J0 (K:=K) (xs:=ur) (fun _=>true) (fun v=>[.str (ρ v).nm,(ρ v).rest.getD 0 .non,(ρ v).rest.getD 1 .non]) hS7 (BJ (by have:=O.nr; omega)) (fun y hy H' hs R k=>k H' (Ak.refl H')) (fun y hy _ H' hs R k=>?_) (fun D8 H8 rvs hD8 s8 hl8 hr8=>?_)⟩
  ·obtain ⟨b,_,e⟩:=ofR hy
   have hT:=(R6 y (inR hy)).mono (s7.trans hs)
   rw [e] at hT k
   obtain ⟨T0,rfl,hT⟩:=hT
   exact ⟨_,rfl,T0,_,_,_,rfl,rfl,.inl (.inl hT),Aj (j:=1) rfl,_,rfl,T0,_,_,_,rfl,rfl,.inl (.inl hT),Aj (j:=2) rfl,_,rfl,T0,_,_,_,rfl,rfl,.inl (.inl hT),Aj (j:=3) rfl,by show 3<=sizeLine; decide,fun T6 hT6=>k _ _ (Ax hT6) ⟨T6,rfl,Ah⟩⟩
  rw [List.filter_eq_self.mpr (fun _ _=>rfl)] at hr8
  have hr8':Paired (fun (a:Th) y=>TupAt H8 (tV a) y) (rk.map ZM) rvs:=by
   have h1:=Cp (F:=fun (r:R) y=>TupAt H8 [.str r.nm,r.rest.getD 0 .non,r.rest.getD 1 .non] y) ρ hr8
   rw [er] at h1
   exact Cp (F:=fun (a:Th) y=>TupAt H8 (tV a) y) ZM (Fi Ge h1)
  clear hr8
  refine ⟨_,rfl,x,C,dx,_,rfl,s8 _ _ (s7 _ _ x6),T.cl,T.n_rank_list,Nat.lt_of_le_of_lt (Nat.le_trans (Bp _ _ _) (Nat.succ_le_succ (Bp _ _ _))) (by show 2<1000; decide),?_⟩
  have s68:=s7.trans s8
  have x8:=s68 _ _ x6
  have c8:=c6.trans (SX.of s68)
  have hl8b:=s68 _ _ hl6
  have hb8:=Aq s68 hb6
  have u9:SX x H8 _:=SX.up (o:=HO.ins C dx (BV "rank_list" (.ref D8) (BV "board_list" (.ref D5) (BV "row_list" (.ref l1) []))))
  have x9:upd H8 x (HO.ins C dx (BV "rank_list" (.ref D8) (BV "board_list" (.ref D5) (BV "row_list" (.ref l1) [])))) x=_:=Ah
  have c9:=c8.trans u9
  have bl9:=u9.lst x8 hl8b
  have bp9:=u9.pair x8 hb8
  have rl9:=u9.lst x8 hl8
  have rp9:=u9.pair x8 hr8'
  generalize hf9:BV "rank_list" (.ref D8) (BV "board_list" (.ref D5) (BV "row_list" (.ref l1) []))=f9 at x9 c9 bl9 bp9 rl9 rp9 u9 ⊢
  generalize upd H8 x (HO.ins C dx f9)=H9 at x9 c9 bl9 bp9 rl9 rp9 ⊢
  have n9:f9.length<=3:=by rw [← hf9]; exact Nat.le_trans (Bp _ _ _) (Nat.succ_le_succ (Nat.le_trans (Bp _ _ _) (Nat.succ_le_succ (Bp _ _ _))))
  have lb9:f9.lookup ("board_list" : Str)=some (.ref D5):=by rw [← hf9,Ag,if_neg (by decide +kernel),Ag,if_pos rfl]
  have lw9:f9.lookup ("row_list" : Str)=some (.ref l1):=by rw [← hf9,Ag,if_neg (by decide +kernel),Ag,if_neg (by decide +kernel),Ag,if_pos rfl]
  have lr9:f9.lookup ("rank_list" : Str)=some (.ref D8):=by rw [← hf9,Ag,if_pos rfl]
  have no9:∀ m∈meths,f9.lookup m=none:=fun m hm=>by
   rw [← hf9,Ag,if_neg (D_ m hm _ (by decide +kernel)),Ag,if_neg (D_ m hm _ (by decide +kernel)),Ag,if_neg (D_ m hm _ (by decide +kernel))]
   rfl
  clear u9 hf9
  have R9:Rows H9 ρ us:=fun v hv=>c9.tup hx (hR v hv)
  have hS9:DQ K H9 p us:=.inl (.inl (c9.lst hx hp))
  refine ⟨_,rfl,p,rfl,⟨_,hS9⟩,Cv (K:=K) (xs:=us) (fun v=>Ej (ρ v).w) id hS9 (BJ (by omega)) (fun y hy H' hs R k=>?_) (fun y hy _ H' hs R k=>⟨_,rfl,k H' (Ak.refl H')⟩) (fun D10 H10 hD10 s10 hl10=>?_)⟩
  ·obtain ⟨T0,rfl,hT⟩:=(R9.mono hs) y hy
   exact ⟨_,rfl,T0,_,_,_,rfl,rfl,.inl (.inl hT),Aj (j:=0) rfl,aK,_,rfl,.inr (T.tK.sq _),rfl,rfl,_,rfl,k H' (Ak.refl H')⟩
  rw [List.map_id,huk] at hl10
  refine ⟨_,rfl,x,C,dx,_,rfl,s10 _ _ x9,T.cl,T.n_knob_rows,by omega,?_⟩
  have x10:=s10 _ _ x9
  have u11:SX x H10 _:=SX.up (o:=HO.ins C dx (BV "knob_rows" (.ref D10) f9))
  have x11:upd H10 x (HO.ins C dx (BV "knob_rows" (.ref D10) f9)) x=_:=Ah
  have c11:=(c9.trans (SX.of s10)).trans u11
  have bl11:=u11.lst x10 (s10 _ _ bl9)
  have bp11:=u11.pair x10 (Aq s10 bp9)
  have rl11:=u11.lst x10 (s10 _ _ rl9)
  have rp11:=u11.pair x10 (Aq s10 rp9)
  have kr11:=u11.lst x10 hl10
  generalize upd H10 x (HO.ins C dx (BV "knob_rows" (.ref D10) f9))=H11 at x11 c11 bl11 bp11 rl11 rp11 kr11 ⊢
  clear u11
  have hul:=bp11.length
  have hS11:DQ K H11 D5 bvs:=.inl (.inl bl11)
  refine ⟨_,rfl,x,C,dx,_,_,rfl,x11,T.cl,T.n_board_list,(by rw [Ag,if_neg (by decide +kernel)]; exact lb9),D5,rfl,⟨_,hS11⟩,Cv (K:=K) (xs:=bvs) (fun _=>true) (Kh H11 0) hS11 (BJ (by have:=O.b5; omega)) (fun y hy H' hs R k=>k H' (Ak.refl H')) (fun y hy _ H' hs R k=>?_) (fun D12 H12 hD12 s12 hl12=>?_)⟩
  ·obtain ⟨b,_,hx'⟩:=CZ bp11 hy
   have e:=GF hx' 0
   obtain ⟨T0,rfl,hT⟩:=hx'.mono hs
   refine ⟨_,rfl,T0,_,_,_,rfl,rfl,.inl (.inl hT),Aj (j:=0) rfl,?_⟩
   have:=k H' (Ak.refl H')
   rw [e] at this
   exact this
  rw [List.filter_eq_self.mpr (fun _ _=>rfl),Jr 0 bp11] at hl12
  have e12:(bs.map fun b=>(bV b).getD 0 V.non)=(bs.map (·.1)).map V.str:=by
   rw [List.map_map]
   rfl
  rw [e12] at hl12
  refine ⟨D12,_,rfl,hl12,by rw [List.length_map]; have:=O.b5; omega,O.nb,fun D13 kvs H13 hD13 s13 hl13 hv13 hw13=>?_⟩
  have s1113:=s12.trans s13
  have x13:=s1113 _ _ x11
  refine ⟨_,rfl,x,C,dx,_,rfl,x13,T.cl,T.n_board_numbers,Nat.lt_of_le_of_lt (Bp _ _ _) (by omega),?_⟩
  have u14:SX x H13 _:=SX.up (o:=HO.ins C dx (BV "board_numbers" (.ref D13) (BV "knob_rows" (.ref D10) f9)))
  have x14:upd H13 x (HO.ins C dx (BV "board_numbers" (.ref D13) (BV "knob_rows" (.ref D10) f9))) x=_:=Ah
  have c14:=(c11.trans (SX.of s1113)).trans u14
  have bl14:=u14.lst x13 (s1113 _ _ bl11)
  have bp14:=u14.pair x13 (Aq s1113 bp11)
  have rl14:=u14.lst x13 (s1113 _ _ rl11)
  have rp14:=u14.pair x13 (Aq s1113 rp11)
  have kr14:=u14.lst x13 (s1113 _ _ kr11)
  have bn14:=u14.dk x13 hl13
  generalize upd H13 x (HO.ins C dx (BV "board_numbers" (.ref D13) (BV "knob_rows" (.ref D10) f9)))=H14 at x14 c14 bl14 bp14 rl14 rp14 kr14 bn14 ⊢
  clear u14
  have hrl:=rp14.length
  rw [List.length_map] at hrl
  have hS14:DQ K H14 D8 rvs:=.inl (.inl rl14)
  refine ⟨_,rfl,x,C,dx,_,_,rfl,x14,T.cl,T.n_rank_list,(by rw [Ag,if_neg (by decide +kernel),Ag,if_neg (by decide +kernel)]; exact lr9),D8,rfl,⟨_,hS14⟩,Cv (K:=K) (xs:=rvs) (fun _=>true) (Kh H14 0) hS14 (BJ (by have:=O.nr; omega)) (fun y hy H' hs R k=>k H' (Ak.refl H')) (fun y hy _ H' hs R k=>?_) (fun D15 H15 hD15 s15 hl15=>?_)⟩
  ·obtain ⟨b,_,hx'⟩:=CZ rp14 hy
   have e:=GF hx' 0
   obtain ⟨T0,rfl,hT⟩:=hx'.mono hs
   refine ⟨_,rfl,T0,_,_,_,rfl,rfl,.inl (.inl hT),Aj (j:=0) rfl,?_⟩
   have:=k H' (Ak.refl H')
   rw [e] at this
   exact this
  rw [List.filter_eq_self.mpr (fun _ _=>rfl),Jr 0 rp14] at hl15
  have e15:((rk.map ZM).map fun b=>(tV b).getD 0 V.non)=(rk.map (·.1)).map V.str:=by
   rw [List.map_map,List.map_map]
   rfl
  rw [e15] at hl15
  refine ⟨D15,_,rfl,hl15,by rw [List.length_map]; have:=O.nr; omega,O.nrr,fun D16 kvs16 H16 hD16 s16 hl16 hv16 hw16=>?_⟩
  have s1416:=s15.trans s16
  have x16:=s1416 _ _ x14
  refine ⟨_,rfl,x,C,dx,_,rfl,x16,T.cl,T.n_rank_numbers,Nat.lt_of_le_of_lt (Nat.le_trans (Bp _ _ _) (Nat.succ_le_succ (Bp _ _ _))) (by omega),?_⟩
  have u17:SX x H16 _:=SX.up (o:=HO.ins C dx (BV "rank_numbers" (.ref D16) (BV "board_numbers" (.ref D13) (BV "knob_rows" (.ref D10) f9))))
  have x17:upd H16 x (HO.ins C dx (BV "rank_numbers" (.ref D16) (BV "board_numbers" (.ref D13) (BV "knob_rows" (.ref D10) f9)))) x=_:=Ah
  have c17:=(c14.trans (SX.of s1416)).trans u17
  have bl17:=u17.lst x16 (s1416 _ _ bl14)
  have bp17:=u17.pair x16 (Aq s1416 bp14)
  have rl17:=u17.lst x16 (s1416 _ _ rl14)
  have rp17:=u17.pair x16 (Aq s1416 rp14)
  have kr17:=u17.lst x16 (s1416 _ _ kr14)
  have bn17:=u17.dk x16 (s1416 _ _ bn14)
  have rn17:=u17.dk x16 hl16
  generalize hf17:BV "rank_numbers" (.ref D16) (BV "board_numbers" (.ref D13) (BV "knob_rows" (.ref D10) f9))=f17 at x17 c17 bl17 bp17 rl17 rp17 kr17 bn17 rn17 u17 ⊢
  generalize upd H16 x (HO.ins C dx f17)=H17 at x17 c17 bl17 bp17 rl17 rp17 kr17 bn17 rn17 ⊢
  have n17:f17.length<=6:=by rw [← hf17]; exact Nat.le_trans (Bp _ _ _) (Nat.succ_le_succ (Nat.le_trans (Bp _ _ _) (Nat.succ_le_succ (Nat.le_trans (Bp _ _ _) (Nat.succ_le_succ n9)))))
  have lb17:f17.lookup ("board_list" : Str)=some (.ref D5):=by rw [← hf17,Ag,if_neg (by decide +kernel),Ag,if_neg (by decide +kernel),Ag,if_neg (by decide +kernel)]; exact lb9
  have lw17:f17.lookup ("row_list" : Str)=some (.ref l1):=by rw [← hf17,Ag,if_neg (by decide +kernel),Ag,if_neg (by decide +kernel),Ag,if_neg (by decide +kernel)]; exact lw9
  have lr17:f17.lookup ("rank_list" : Str)=some (.ref D8):=by rw [← hf17,Ag,if_neg (by decide +kernel),Ag,if_neg (by decide +kernel),Ag,if_neg (by decide +kernel)]; exact lr9
  have lrn17:f17.lookup ("rank_numbers" : Str)=some (.ref D16):=by rw [← hf17,Ag,if_pos rfl]
  have lbn17:f17.lookup ("board_numbers" : Str)=some (.ref D13):=by rw [← hf17,Ag,if_neg (by decide +kernel),Ag,if_pos rfl]
  have lkr17:f17.lookup ("knob_rows" : Str)=some (.ref D10):=by rw [← hf17,Ag,if_neg (by decide +kernel),Ag,if_neg (by decide +kernel),Ag,if_pos rfl]
  have no17:∀ m∈meths,f17.lookup m=none:=fun m hm=>by
   rw [← hf17,Ag,if_neg (D_ m hm _ (by decide +kernel)),Ag,if_neg (D_ m hm _ (by decide +kernel)),Ag,if_neg (D_ m hm _ (by decide +kernel))]
   exact no9 m hm
  clear u17 hf17
  have hS17:DQ K H17 D10 uk:=.inl (.inl kr17)
  have R17:Rows H17 ρ us:=fun v hv=>c17.tup hx (hR v hv)
  refine ⟨_,rfl,x,C,dx,_,_,rfl,x17,T.cl,T.n_knob_rows,lkr17,D10,rfl,⟨_,hS17⟩,Cv (K:=K) (xs:=uk) (fun _=>true) (fun v=>.str (ρ v).nm) hS17 (BJ (by have:=O.nk; omega)) (fun y hy H' hs R k=>k H' (Ak.refl H')) (fun y hy _ H' hs R k=>?_) (fun D18 H18 hD18 s18 hl18=>?_)⟩
  ·obtain ⟨T0,rfl,hT⟩:=(R17.mono hs) y (inKn hy)
   exact ⟨_,rfl,T0,_,_,_,rfl,rfl,.inl (.inl hT),Aj (j:=1) rfl,k H' (Ak.refl H')⟩
  rw [List.filter_eq_self.mpr (fun _ _=>rfl)] at hl18
  have e18:(uk.map fun v=>V.str (ρ v).nm)=(ks.map (·.nm)).map V.str:=by
   rw [← ek,List.map_map,List.map_map]
   rfl
  rw [e18] at hl18
  refine ⟨D18,_,rfl,hl18,by rw [List.length_map]; have:=O.nk; omega,O.nn,fun D19 kvs19 H19 hD19 s19 hl19 hv19 hw19=>?_⟩
  have s1719:=s18.trans s19
  have x19:=s1719 _ _ x17
  refine ⟨_,rfl,x,C,dx,_,rfl,x19,T.cl,T.n_knob_numbers,by omega,?_⟩
  have u20:SX x H19 _:=SX.up (o:=HO.ins C dx (BV "knob_numbers" (.ref D19) f17))
  have x20:upd H19 x (HO.ins C dx (BV "knob_numbers" (.ref D19) f17)) x=_:=Ah
  have c20:=(c17.trans (SX.of s1719)).trans u20
  have bl20:=u20.lst x19 (s1719 _ _ bl17)
  have bp20:=u20.pair x19 (Aq s1719 bp17)
  have rl20:=u20.lst x19 (s1719 _ _ rl17)
  have rp20:=u20.pair x19 (Aq s1719 rp17)
  have kr20:=u20.lst x19 (s1719 _ _ kr17)
  have kn20:=u20.dk x19 hl19
  have bn20:=u20.dk x19 (s1719 _ _ bn17)
  have rn20:=u20.dk x19 (s1719 _ _ rn17)
  generalize upd H19 x (HO.ins C dx (BV "knob_numbers" (.ref D19) f17))=H20 at x20 c20 bl20 bp20 rl20 rp20 kr20 bn20 rn20 kn20 ⊢
  clear u20
  refine ⟨_,rfl,x,C,dx,_,_,rfl,x20,T.cl,T.n_board_list,(by rw [Ag,if_neg (by decide +kernel)]; exact lb17),D5,bs.map j9,bvs,rfl,bl20,Cp (F:=fun (a:Th) y=>TupAt H20 (tV a) y) j9 bp20,(by rw [List.length_map]; have:=O.b5; omega),(fun a ha=>by obtain ⟨b,hb,rfl⟩:=List.mem_map.mp ha; have:=O.sz b hb; show b.2<=97; omega),fun D21 pvs H21 hD21 s21 hl21 hp21=>?_⟩
  have e21:(bs.map j9).map tN=bs:=by
   rw [List.map_map]
   exact List.map_id bs
  rw [e21] at hp21
  have x21:=s21 _ _ x20
  refine ⟨_,rfl,x,C,dx,_,rfl,x21,T.cl,T.n_key_places,Nat.lt_of_le_of_lt (Bp _ _ _) (by omega),?_⟩
  have u22:SX x H21 _:=SX.up (o:=HO.ins C dx (BV "key_places" (.ref D21) (BV "knob_numbers" (.ref D19) f17)))
  have x22:upd H21 x (HO.ins C dx (BV "key_places" (.ref D21) (BV "knob_numbers" (.ref D19) f17))) x=_:=Ah
  have c22:=(c20.trans (SX.of s21)).trans u22
  have bl22:=u22.lst x21 (s21 _ _ bl20)
  have bp22:=u22.pair x21 (Aq s21 bp20)
  have rl22:=u22.lst x21 (s21 _ _ rl20)
  have rp22:=u22.pair x21 (Aq s21 rp20)
  have kr22:=u22.lst x21 (s21 _ _ kr20)
  have kn22:=u22.dk x21 (s21 _ _ kn20)
  have bn22:=u22.dk x21 (s21 _ _ bn20)
  have rn22:=u22.dk x21 (s21 _ _ rn20)
  have kp22:=u22.lst x21 hl21
  have kq22:=u22.pair x21 hp21
  generalize upd H21 x (HO.ins C dx (BV "key_places" (.ref D21) (BV "knob_numbers" (.ref D19) f17)))=H22 at x22 c22 bl22 bp22 rl22 rp22 kr22 bn22 rn22 kp22 kq22 kn22 ⊢
  clear u22
  refine ⟨_,rfl,x,C,dx,_,_,rfl,x22,T.cl,T.n_rank_list,(by rw [Ag,if_neg (by decide +kernel),Ag,if_neg (by decide +kernel)]; exact lr17),D8,rk.map ZM,rvs,rfl,rl22,rp22,(by rw [List.length_map]; exact O.nr),(fun a ha=>by obtain ⟨r,hr,rfl⟩:=List.mem_map.mp ha; exact O.nz r hr),fun D23 qvs H23 hD23 s23 hl23 hp23=>?_⟩
  have e23:(rk.map ZM).map tN=rk.map oW:=by
   rw [List.map_map]
   rfl
  rw [e23] at hp23
  have x23:=s23 _ _ x22
  refine ⟨_,rfl,x,C,dx,_,rfl,x23,T.cl,T.n_pipe_places,Nat.lt_of_le_of_lt (Nat.le_trans (Bp _ _ _) (Nat.succ_le_succ (Bp _ _ _))) (by omega),?_⟩
  have u24:SX x H23 _:=SX.up (o:=HO.ins C dx (BV "pipe_places" (.ref D23) (BV "key_places" (.ref D21) (BV "knob_numbers" (.ref D19) f17))))
  have x24:upd H23 x (HO.ins C dx (BV "pipe_places" (.ref D23) (BV "key_places" (.ref D21) (BV "knob_numbers" (.ref D19) f17)))) x=_:=Ah
  have c24:=(c22.trans (SX.of s23)).trans u24
  have bl24:=u24.lst x23 (s23 _ _ bl22)
  have bp24:=u24.pair x23 (Aq s23 bp22)
  have kr24:=u24.lst x23 (s23 _ _ kr22)
  have rl24:=u24.lst x23 (s23 _ _ rl22)
  have rp24:=u24.pair x23 (Aq s23 rp22)
  have pp24:=u24.lst x23 hl23
  have pq24:=u24.pair x23 hp23
  have kn24:=u24.dk x23 (s23 _ _ kn22)
  have bn24:=u24.dk x23 (s23 _ _ bn22)
  have rn24:=u24.dk x23 (s23 _ _ rn22)
  have kp24:=u24.lst x23 (s23 _ _ kp22)
  have kq24:=u24.pair x23 (Aq s23 kq22)
  generalize hf24:BV "pipe_places" (.ref D23) (BV "key_places" (.ref D21) (BV "knob_numbers" (.ref D19) f17))=f24 at x24 c24 bl24 bp24 kr24 rl24 rp24 pp24 pq24 bn24 rn24 kp24 kq24 u24 kn24 ⊢
  generalize upd H23 x (HO.ins C dx f24)=H24 at x24 c24 bl24 bp24 kr24 rl24 rp24 pp24 pq24 bn24 rn24 kp24 kq24 kn24 ⊢
  have n24:f24.length<=9:=by rw [← hf24]; exact Nat.le_trans (Bp _ _ _) (Nat.succ_le_succ (Nat.le_trans (Bp _ _ _) (Nat.succ_le_succ (Nat.le_trans (Bp _ _ _) (Nat.succ_le_succ n17)))))
  have old24:∀ {f:Str} {v:V},¬ f = "pipe_places"->¬ f = "key_places"->¬ f = "knob_numbers"->f17.lookup f=some v->f24.lookup f=some v:=fun h1 h2 h3 h=>by
   rw [← hf24,Ag,if_neg h1,Ag,if_neg h2,Ag,if_neg h3]; exact h
  have lb24:=old24 (by decide +kernel) (by decide +kernel) (by decide +kernel) lb17
  have lbn24:=old24 (by decide +kernel) (by decide +kernel) (by decide +kernel) lbn17
  have lw24:=old24 (by decide +kernel) (by decide +kernel) (by decide +kernel) lw17
  have lkn24:f24.lookup ("knob_numbers" : Str)=some (.ref D19):=by rw [← hf24,Ag,if_neg (by decide +kernel),Ag,if_neg (by decide +kernel),Ag,if_pos rfl]
  have lr24:=old24 (by decide +kernel) (by decide +kernel) (by decide +kernel) lr17
  have lpp24:f24.lookup ("pipe_places" : Str)=some (.ref D23):=by rw [← hf24,Ag,if_pos rfl]
  have lrn24:=old24 (by decide +kernel) (by decide +kernel) (by decide +kernel) lrn17
  have lkr24:=old24 (by decide +kernel) (by decide +kernel) (by decide +kernel) lkr17
  have lkp24:f24.lookup ("key_places" : Str)=some (.ref D21):=by rw [← hf24,Ag,if_neg (by decide +kernel),Ag,if_pos rfl]
  have no24:∀ m∈meths,f24.lookup m=none:=fun m hm=>by
   rw [← hf24,Ag,if_neg (D_ m hm _ (by decide +kernel)),Ag,if_neg (D_ m hm _ (by decide +kernel)),Ag,if_neg (D_ m hm _ (by decide +kernel))]
   exact no17 m hm
  clear u24 hf24 old24
  have R24:Rows H24 ρ us:=fun v hv=>c24.tup hx (hR v hv)
  refine ⟨_,rfl,_,rfl,x,C,dx,_,_,rfl,x24,T.cl,T.n_rank_numbers,lrn24,p,D16,us,ρ,rk,kvs16,rfl,c24.lst hx hp,R24,by omega,rn24,(fun i r hr=>hv16 i r.1 (by rw [List.getElem?_map,hr]; rfl)),O.nrr,O.ln,fun D25 H25 hD25 s25 hl25=>?_⟩
  have x25:=s25 _ _ x24
  refine ⟨_,rfl,x,C,dx,_,rfl,x25,T.cl,T.n_knob_lines,by omega,?_⟩
  have u26:SX x H25 _:=SX.up (o:=HO.ins C dx (BV "knob_lines" (.ref D25) f24))
  have x26:upd H25 x (HO.ins C dx (BV "knob_lines" (.ref D25) f24)) x=_:=Ah
  have c26:=(c24.trans (SX.of s25)).trans u26
  have bl26:=u26.lst x25 (s25 _ _ bl24)
  have bp26:=u26.pair x25 (Aq s25 bp24)
  have kr26:=u26.lst x25 (s25 _ _ kr24)
  have rl26:=u26.lst x25 (s25 _ _ rl24)
  have rp26:=u26.pair x25 (Aq s25 rp24)
  have pp26:=u26.lst x25 (s25 _ _ pp24)
  have pq26:=u26.pair x25 (Aq s25 pq24)
  have ln26:=hl25.sx u26 x25
  have kn26:=u26.dk x25 (s25 _ _ kn24)
  have bn26:=u26.dk x25 (s25 _ _ bn24)
  have rn26:=u26.dk x25 (s25 _ _ rn24)
  have kp26:=u26.lst x25 (s25 _ _ kp24)
  have kq26:=u26.pair x25 (Aq s25 kq24)
  generalize upd H25 x (HO.ins C dx (BV "knob_lines" (.ref D25) f24))=H26 at x26 c26 bl26 bp26 kr26 rl26 rp26 pp26 pq26 ln26 bn26 rn26 kp26 kq26 kn26 ⊢
  clear u26
  have R26:Rows H26 ρ us:=fun v hv=>c26.tup hx (hR v hv)
  refine ⟨_,rfl,p,_,"step",ρ,rfl,c26.lst hx hp,R26,by omega,fun D27 H27 hD27 s27 hl27=>?_⟩
  have kn27:=s27 _ _ kn26
  have x27:=s27 _ _ x26
  have hS27:DQ K H27 D27 (us.filter (pw ρ "step")):=.inl (.inl hl27)
  have lus:(us.filter (pw ρ "step")).length<=us.length:=List.length_filter_le _ _
  refine ⟨D27,rfl,⟨_,hS27⟩,Cv (K:=K) (xs:=us.filter (pw ρ "step")) (fun _=>true) (fun v=>.int (stN ks (ρ v):Nat)) hS27 (BJ (by omega)) (fun y hy H' hs R k=>k H' (Ak.refl H')) (fun y hy _ H' hs R k=>?_) (fun D28 H28 hD28 s28 hl28=>?_)⟩
  ·obtain ⟨hyu,hyw⟩:=List.mem_filter.mp hy
   obtain ⟨ts,ets,t24,tin⟩:=O.st y hyu (V.str.inj (of_decide_eq_true hyw))
   obtain ⟨T0,rfl,hT⟩:=((R26.mono s27).mono hs) y hyu
   refine ⟨_,rfl,_,rfl,x,C,dx,_,_,rfl,hs _ _ x27,T.cl,T.n_knob_numbers,(by rw [Ag,if_neg (by decide +kernel)]; exact lkn24),T0,D19,ρ (.ref T0),kvs19,ks.map (·.nm),ts,rfl,hT,hs _ _ kn27,ets,t24,(by rw [List.length_map]; have:=O.nk; omega),hv19,tin,fun H3 s3=>?_⟩
   have e:Wd.mk (ts.map fun t=>(ks.map (·.nm)).idxOf t)=stN ks (ρ (.ref T0)):=by unfold stN; rw [Fv ets]
   rw [e]
   exact k H3 s3
  rw [List.filter_eq_self.mpr (fun _ _=>rfl)] at hl28
  have s2628:=s27.trans s28
  have x28:=s2628 _ _ x26
  refine ⟨_,rfl,x,C,dx,_,rfl,x28,T.cl,T.n_step_sets,Nat.lt_of_le_of_lt (Bp _ _ _) (by omega),?_⟩
  have u29:SX x H28 _:=SX.up (o:=HO.ins C dx (BV "step_sets" (.ref D28) (BV "knob_lines" (.ref D25) f24)))
  have old:∀ {f:Str},¬ f = "step_sets"->¬ f = "knob_lines"->(BV "step_sets" (.ref D28) (BV "knob_lines" (.ref D25) f24)).lookup f=f24.lookup f:=fun h1 h2=>by rw [Ag,if_neg h1,Ag,if_neg h2]
  have es:((us.filter (pw ρ "step")).map fun v=>V.int (stN ks (ρ v):Nat))=(((us.filter (pw ρ "step")).map fun v=>stN ks (ρ v)).map fun n:Nat=>V.int (n:Int)):=by rw [List.map_map]; rfl
  rw [es] at hl28
  have hpF:=u29.lst x28 (s2628 _ _ (c26.lst hx hp))
  have nx:x ≠ p:=fun z=>by rw [z,hp] at hx; cases hx
  have n5:D5 ≠ p:=Ne.symm (Ai (s4 _ _ hp) hD5)
  have n8:D8 ≠ p:=Ne.symm (Ai (s7 _ _ (c6.lst hx hp)) hD8)
  have n10:D10 ≠ p:=Ne.symm (Ai (c9.lst hx hp) hD10)
  have n21:D21 ≠ p:=Ne.symm (Ai (c20.lst hx hp) hD21)
  have n23:D23 ≠ p:=Ne.symm (Ai (c22.lst hx hp) hD23)
  have n28:D28 ≠ p:=Ne.symm (Ai (s27 _ _ (c26.lst hx hp)) hD28)
  suffices key:∀ H'',SX p (upd H28 x _) H''->Jb C H'' x us bs rk ks (linesOf rk (us.map ρ)) ((us.filter (pw ρ "step")).map fun v=>stN ks (ρ v)) from q _ (key _ SX.refl) key  (c0.trans ((c26.trans (SX.of s2628)).trans u29))
  intro H'' sp
  refine ⟨⟨⟨⟨dx,_,D5,D13,D21,D10,bvs,pvs,uk,kvs,sp _ _ Ah nx,(old (by decide +kernel) (by decide +kernel)).trans lb24,(old (by decide +kernel) (by decide +kernel)).trans lbn24,(old (by decide +kernel) (by decide +kernel)).trans lkp24,(old (by decide +kernel) (by decide +kernel)).trans lkr24,
   fun m hm=>(old (D_ m hm _ (by decide +kernel)) (D_ m hm _ (by decide +kernel))).trans (no24 m hm),sp _ _ (u29.lst x28 (s2628 _ _ bl26)) n5,Ib sp hpF (u29.pair x28 (Aq s2628 bp26)),QD sp hpF (u29.dk x28 (s2628 _ _ bn26)),fun i b hb=>hv13 i b.1 (by rw [List.getElem?_map,hb]; rfl),sp _ _ (u29.lst x28 (s2628 _ _ kp26)) n21,Ib sp hpF (u29.pair x28 (Aq s2628 kq26)),sp _ _ (u29.lst x28 (s2628 _ _ kr26)) n10,?_⟩,O.b5,O.sz,by have:=O.nk; omega⟩,⟨dx,_,D8,D16,D23,D25,rvs,qvs,kvs16,sp _ _ Ah nx,(old (by decide +kernel) (by decide +kernel)).trans lr24,(old (by decide +kernel) (by decide +kernel)).trans lrn24,(old (by decide +kernel) (by decide +kernel)).trans lpp24,(by rw [Ag,if_neg (by decide +kernel),Ag,if_pos rfl]),sp _ _ (u29.lst x28 (s2628 _ _ rl26)) n8,Ib sp hpF (u29.pair x28 (Aq s2628 rp26)),QD sp hpF (u29.dk x28 (s2628 _ _ rn26)),(fun i r hr=>hv16 i r.1 (by rw [List.getElem?_map,hr]; rfl)),sp _ _ (u29.lst x28 (s2628 _ _ pp26)) n23,Ib sp hpF (u29.pair x28 (Aq s2628 pq26)),((ln26.mono s2628).sx u29 x28).sp sp hpF⟩,O.nr,O.nz,?_⟩,dx,_,l1,D19,D28,kvs19,sp _ _ Ah nx,(old (by decide +kernel) (by decide +kernel)).trans lw24,(old (by decide +kernel) (by decide +kernel)).trans lkn24,(by rw [Ag,if_pos rfl]),sp _ _ (u29.lst x28 (s2628 _ _ (c26.lst hx rw3))) nl1,QD sp hpF (u29.dk x28 (s2628 _ _ kn26)),hv19,hw19,sp _ _ (u29.lst x28 hl28) n28,D13,kvs,(old (by decide +kernel) (by decide +kernel)).trans lbn24,QD sp hpF (u29.dk x28 (s2628 _ _ bn26)),hw13⟩
  case refine_2=>rw [Ri O.ln,← ek,List.length_map,huk]
  rw [← ek]
  refine Cp (F:=fun (r:R) y=>TupAt _ r.v y) ρ ?_
  have R29:Rows _ ρ uk:=fun v hv=>Tt sp hpF (u29.tup x28 ((R26.mono s2628) v (inKn hv)))
  generalize H''=H29 at R29 ⊢
  have key:∀ l:List V,(∀ v∈l,TupAt H29 (ρ v).v v)->Paired (fun v y=>TupAt H29 (ρ v).v y) l l:=by
   intro l
   induction l with
   | nil=>intro _; exact .nil
   | cons a b ih=>intro h; exact .cons (h a (List.mem_cons_self ..)) (ih fun v hv=>h v (List.mem_cons_of_mem _ hv))
  exact key uk R29
noncomputable def Yy (C:Addr):Sp:=fun vs H Q _=>∃ (x:Addr) (us:List V) (bs:List (Str × Nat)) (rk:List (Str × Nat × Int)) (ks:List R) (ls:List (List Ln)) (sts:List Nat),vs=[.ref x]/\Jb C H x us bs rk ks ls sts/\∀ D H',H D=none->Ak H H'->H' D=some (.lst (nV sts))->Q (.ref D) H'
theorem kI:Ao ["self"] ["self"] (Af lQ):=Bm
include N T in
theorem W9:Aw P w K mg base Bg 1 fOy dOy ["self"] (Yy C):=by
 refine N.FOy.1.ok kI (fun vs H Q E h=>?_) (fun cdv A outer s H vs Q E hr h=>?_)
 ·obtain ⟨x,us,bs,rk,ks,ls,sts,rfl,_⟩:=h
  rfl
 ·obtain ⟨x,us,bs,rk,ks,ls,sts,rfl,O,q⟩:=h
  refine ⟨_,(Ae (Av (HD Iz rfl T.list PyProof.Rows.boot_list (Ab (Bh (pv 0) rfl) Aa)))),?_⟩
  obtain ⟨_,dx,fs,rl,kd,ss,kvs,h1,l1,l2,l3,h2,h3,h4,h5,h6,_⟩:=id O
  exact ⟨_,rfl,x,C,dx,_,_,rfl,h1,T.cl,T.n_step_sets,l3,ss,_,rfl,.inl (.inl (.inl h6)),fun l hl=>q l _ hl (Ax hl) Ah⟩
noncomputable def Xb:Sp:=fun vs H Q _=>∃ z:Str,vs=[.str z,.str letters,.int 8]/\Tx z/\∀ b H',Ak H H'->(b=true ↔ isNm z)->Q (.bl b) H'
include N T in
theorem Xg:Aw P w K mg base Bg 1 fMd dMd ["text","signs","most"] Xb:=by
 refine N.FMd.1.ok Zy (fun vs H Q E h=>?_) (fun cdv A outer s H vs Q E hr h=>?_)
 ·obtain ⟨z,rfl,_⟩:=h
  rfl
 ·obtain ⟨z,rfl,hz,q⟩:=h
  refine ⟨_,(Ae (Av (Dc (Gq Fy Fy Ac (BK IK rfl T.len PySem.boot_len (Ab (pv 0) Aa)) (pv 2)) (DP (BK (G_ rfl) rfl T.all PyProof.Rows.boot_all (Ab (Bk rfl (Bb (osc:=Af cH) (N:=["text","signs","most"]) rfl rfl (by decide +kernel)) (UL (pv 0)) (fun _ _ _ _=>Ck) (fun _ _ _ _=>(Cg Kz (pv 0) (pv 2) rfl))) Aa)))))),?_⟩
  have hzl:z.length<sizeLine:=BJ hz.1
  have no:¬ isNm z->Q (.bl false) H:=fun h=>q false H (Ak.refl H) ⟨fun z=>(nomatch z),fun z=>absurd z h⟩
  refine ⟨_,rfl,z,rfl,Nat.le_of_lt hzl,_,_,rfl,rfl,_,rfl,?_⟩
  refine Cq (fun h1=>?_) (fun h1=>⟨_,rfl,Bo (no fun c=>h1 (decide_eq_true (by have:=c.1; omega)))⟩)
  refine ⟨_,rfl,_,_,rfl,rfl,_,rfl,?_⟩
  refine Cq (fun h2=>?_) (fun h2=>no fun c=>h2 (decide_eq_true (by have:=c.2.1; omega)))
  refine ⟨_,rfl,z,rfl,Nu (fun _=>true) (fun c=>.bl (Wv letters c)) hzl (fun c hc H' hs R k=>k H' (Ak.refl H')) (fun c hc _ H' hs R k=>⟨_,rfl,_,rfl,_,_,rfl,rfl,k H' (Ak.refl H')⟩) (fun D H' hD hs hl=>?_)⟩
  refine ⟨D,z.cps.toList.map (Wv letters),rfl,.inl (.inl ?_),q _ H' hs ?_⟩
  ·rw [hl,List.filter_eq_self.mpr (fun _ _=>rfl),List.map_map]
   rfl
  ·rw [List.all_map,List.all_eq_true]
   have b1:1<=z.length:=by have:=of_decide_eq_true h1; omega
   have b2:z.length<=8:=by have:=of_decide_eq_true h2; omega
   constructor
   ·intro h
    refine ⟨b1,b2,fun c hc=>?_⟩
    have e:Wv letters c=true:=h c hc
    rw [Ly c (hz.2 c hc)] at e
    exact of_decide_eq_true e
   ·intro h c hc
    show Wv letters c=true
    rw [Ly c (hz.2 c hc)]
    exact decide_eq_true (h.2.2 c hc)
theorem je {K:PySem.W.Frag}:PySem.W.kitOne K (.type "int") (.type "str")=some false:=by kernel_rfl
theorem lX {K:PySem.W.Frag}:PySem.W.kitOne K (.type "bool") (.type "str")=some false:=by kernel_rfl
theorem lY {K:PySem.W.Frag}:PySem.W.kitOne K (.type "NoneType") (.type "str")=some false:=by kernel_rfl
theorem mW {K:PySem.W.Frag}:PySem.W.kitOne K (.type "list") (.type "str")=some false:=by kernel_rfl
theorem j8 {K:PySem.W.Frag}:PySem.W.kitOne K (.type "tuple") (.type "str")=some false:=by kernel_rfl
noncomputable def isStr:V->Bool
 | .str _=>true
 | _=>false
theorem Ys (K:PySem.W.Frag) {H:Hp} {v:V} (h:E_ H v):∃ n,Hk K H v (.type n)/\PySem.W.kitOne K (.type n) (.type "str")=some (isStr v):=by
 cases h with
 | non=>exact ⟨_,.non,lY⟩
 | bl b=>exact ⟨_,.bl b,lX⟩
 | int i=>exact ⟨_,.int i,je⟩
 | lst h=>exact ⟨_,.lst h,mW⟩
 | tup h=>exact ⟨_,.tup h,j8⟩
 | str h=>exact ⟨_,.str _,U6⟩
noncomputable def bj (v:V):Prop:=∃ t,v=.str t/\isNm t
noncomputable def Up:Sp:=fun vs H Q _=>∃ v:V,vs=[v]/\E_ H v/\∀ b H',Ak H H'->(b=true ↔ bj v)->Q (.bl b) H'
include N T in
theorem Uq:Aw P w K mg base Bg 2 fNm dNm ["thing"] Up:=by
 have GMdG:Aw P w K mg base Bg 1 fMd dMd ["text","signs","most"] Xb:=Xg N T
 refine N.FNm.1.ok aV (fun vs H Q E h=>?_) (fun cdv A outer s H vs Q E hr h=>?_)
 ·obtain ⟨v,rfl,_⟩:=h
  rfl
 ·obtain ⟨v,rfl,hv,q⟩:=h
  have hrMdG:BX 1 _:=hr.mono (by decide)
  obtain ⟨tLET,hLET⟩:=T.letters
  obtain ⟨tML,hML⟩:=T.mostL
  refine ⟨_,(Ae (Av (Dc (BK Cw rfl T.isin PyProof.Rows.boot_isinstance (Ab (pv 0) (Ab (EY (v:=.ty "str") rfl T.str PyProof.Rows.boot_str rfl) Aa))) (DP (Al GMdG hrMdG rfl N.FMd.2.2 N.FMd.1.kp N.FMd.2.1 .nil Ay (Ab (pv 0) (Ab (Bu (v:=.str letters) rfl hLET ⟨tLET,rfl⟩) (Ab (Bu (v:=.int 8) rfl hML ⟨tML,rfl⟩) Aa)))))))),?_⟩
  obtain ⟨n,e1,e2⟩:=Ys K hv
  refine ⟨_,rfl,_,"str",_,_,rfl,e1,e2,_,rfl,?_⟩
  cases hv with
  | str h =>
   refine Cm ⟨_,rfl,_,rfl,h,fun b H' s hb=>q b H' s (hb.trans ⟨fun z=>⟨_,rfl,z⟩,fun ⟨t,e,z⟩=>by cases e; exact z⟩)⟩
  | _=>exact Bo (q false H (Ak.refl H) ⟨fun z=>(nomatch z),fun ⟨t,e,z⟩=>(nomatch e)⟩)
noncomputable def bM (C:Addr):Sp:=fun vs H Q _=>∃ (x:Addr) (us:List V) (bs:List (Str × Nat)) (rk:List (Str × Nat × Int)) (ks:List R) (ls:List (List Ln)) (sts:List Nat) (v:V),vs=[.ref x,v]/\Jb C H x us bs rk ks ls sts/\E_ H v/\(∀ n∈bs.map (·.1),isNm n)/\∀ H',Ak H H'->Q (Gh (bs.map (·.1)) v) H'
noncomputable def bY (C:Addr):Sp:=fun vs H Q _=>∃ (x:Addr) (us:List V) (bs:List (Str × Nat)) (rk:List (Str × Nat × Int)) (ks:List R) (ls:List (List Ln)) (sts:List Nat) (v:V),vs=[.ref x,v]/\Jb C H x us bs rk ks ls sts/\E_ H v/\(∀ n∈ks.map (·.nm),isNm n)/\∀ H',Ak H H'->Q (Gh (ks.map (·.nm)) v) H'
theorem Ql {ns:List Str} {v:V} (hn:∀ n∈ns,isNm n) (h:¬ bj v):Gh ns v=.non:=by
 cases v with
 | str t=>exact if_neg fun z=>h ⟨t,rfl,hn t z⟩
 | _=>rfl
theorem valN {ns:List Str} {kvs:List (Key × V)} (h1:∀ (i:Nat) t,ns[i]? = some t->CV kvs (Sum.inr t)=some (.int (i:Nat))) (h2:∀ t,t ∉ ns->CV kvs (Sum.inr t)=none) (t:Str):(CV kvs (Sum.inr t)).getD .non=Gh ns (.str t):=by
 by_cases h:t∈ns
 ·rw [h1 _ t (GQ h)]
  exact (if_pos h).symm
 ·rw [h2 t h]
  exact (if_neg h).symm
theorem mV:Ao ["self","name"] ["self","name"] (Af lL):=Bm
include N T in
theorem dJ:Aw P w K mg base Bg 3 fOj dOj ["self","name"] (bY C):=by
 have GNmG:Aw P w K mg base Bg 2 fNm dNm ["thing"] Up:=Uq N T
 refine N.FOj.1.ok mV (fun vs H Q E h=>?_) (fun cdv A outer s H vs Q E hr h=>?_)
 ·obtain ⟨x,us,bs,rk,ks,ls,sts,v,rfl,_⟩:=h
  rfl
 ·obtain ⟨x,us,bs,rk,ks,ls,sts,v,rfl,O,hv,hn,q⟩:=h
  have hrNmG:BX 2 _:=hr.mono (by decide)
  have hu:=CN hr
  refine ⟨_,(Ae (Av (M4 (DN (Al GNmG hrNmG rfl N.FNm.2.2 N.FNm.1.kp N.FNm.2.1 .nil Ay (Ab (pv 1) Aa))) (N7 hu (Bh (pv 0) rfl) (pv 1) ⟨rfl,rfl,rfl,rfl⟩) Ga))),?_⟩
  obtain ⟨O1,dx,fs,rl,kd,ss,kvs,h1,l1,l2,l3,h2,h3,h4,h5,h6,bn,kb,h7,h8,h9⟩:=id O
  refine ⟨_,rfl,v,rfl,hv,fun b H1 s1 hb=>⟨_,rfl,?_⟩⟩
  refine Cq (fun z=>?_) (fun z=>?_)
  ·obtain ⟨t,rfl,ht⟩:=hb.mp z
   refine ⟨_,rfl,x,C,dx,_,_,rfl,s1 _ _ h1,T.cl,T.n_knob_numbers,l2,kd,rfl,.inl ⟨_,.inl (s1 _ _ h3)⟩,_,rfl,_,Gd.k (k:=Sum.inr t) (s1 _ _ h3),?_⟩
   rw [valN h4 h5 t]
   exact q _ s1
  ·have e:=Ql hn fun c=>z (hb.mpr c)
   rw [e] at q
   exact q _ s1
noncomputable def R1 (l:List Nat):Nat:=l.foldl (· ||| ·) 0
theorem Nh (l:List Nat) (n:Nat):R1 (l++[n])=R1 l ||| n:=by
 unfold R1
 rw [List.foldl_append]
 rfl
noncomputable def bf:Sp:=fun vs H Q _=>∃ (p:Addr) (l:List Nat),vs=[.ref p]/\H p=some (.lst (nV l))/\l.length<=500/\Q (.int (R1 l:Nat)) H
theorem Vk:Ao ["sets","some","each"] ["sets"] (Af jQ):=Bm
include N T in
theorem eV:Aw P w K mg base Bg 1 fUn dUn ["sets"] bf:=by
 refine N.FUn.1.ok Vk (fun vs H Q E h=>?_) (fun cdv A outer s H vs Q E hr h=>?_)
 ·obtain ⟨p,l,rfl,_⟩:=h
  rfl
 ·obtain ⟨p,l,rfl,hp,hz,q⟩:=h
  refine ⟨_,(Ad (C_ (i:=1) Vk.nd rfl (Or.inl rfl) Ac)
   (Ad (Ef PassesOwn.never rfl (Bq (pv 0)) (B_ (i:=2) Vk.nd rfl (Or.inl rfl)) (Ae (C_ (i:=1) Vk.nd rfl (Or.inl rfl) (BP Hc (pv 1) (pv 2)))))
   (Ae (Av (pv 1))))),?_⟩
  have hS:DQ K H p (nV l):=.inl (.inl hp)
  refine ⟨_,rfl,p,rfl,⟨_,hS⟩,Gg (K:=K) (a:=p) (xs:=nV l) (fun i σ H4=>H4=H/\∃ v2,σ=[some (.ref p),some (.int (R1 (l.take i):Nat)),v2]) ⟨rfl,_,rfl⟩ (fun i σ H4 _ h=>by rw [h.1]; exact hS) ?_ ?_⟩
  ·rintro i y σ H4 hi ⟨rfl,v2,rfl⟩
   rw [List.getElem?_map] at hi
   obtain ⟨n,hn,rfl⟩:=Option.map_eq_some_iff.mp hi
   refine ⟨_,rfl,_,rfl,_,_,rfl,rfl,?_⟩
   refine ⟨rfl,some (.int (n:Int)),?_⟩
   dsimp only
   rw [Eh,List.take_add_one,hn]
   show _=[some (V.ref p),some (V.int ((R1 (l.take i++[n]):Nat):Int)),_]
   rw [Nh]
   rfl
  ·rintro σ H4 ⟨rfl,v2,rfl⟩
   have el:l.take (nV l).length=l:=List.take_of_length_le (by simp)
   rw [el]
   exact ⟨_,rfl,q⟩
theorem Xr (k:Nat):Wd.mk [k]=2 ^ k:=by
 show 0 ||| 2 ^ k=2 ^ k
 rw [Nat.zero_or]
theorem aF {ns:List Str} {t:Str} (h:t∈ns):Gh ns (.str t)=.int ((ns.idxOf t:Nat):Int):=if_pos h
noncomputable def Yp (C cK:Addr):Sp:=fun vs H Q E=>∃ (x:Addr) (us:List V) (bs:List (Str × Nat)) (rk:List (Str × Nat × Int)) (ks:List R) (ls:List (List Ln)) (sts:List Nat) (v:V),vs=[.ref x,v]/\Jb C H x us bs rk ks ls sts/\E_ H v/\(∀ n∈ks.map (·.nm),isNm n)/\ks.length<=100 /\
 (∀ t H',Ak H H'->v=.str t->t∈ks.map (·.nm)->Q (.int ((2 ^ (ks.map (·.nm)).idxOf t:Nat):Int)) H')/\(∀ H',Ak H H'->Gh (ks.map (·.nm)) v=.non->E (.ref cK) none H')
theorem Kw (ns:List Str) (v:V):Gh ns v=.non \/ ∃ t,v=.str t/\t∈ns/\Gh ns v=.int ((ns.idxOf t:Nat):Int):=by
 cases v with
 | str t =>
  by_cases h:t∈ns
  ·exact .inr ⟨t,rfl,h,if_pos h⟩
  ·exact .inl (if_neg h)
 | _=>exact .inl rfl
theorem fD:Ao ["organ","name","knob"] ["organ","name"] (Af jn):=Bm
include N T in
theorem Wz:Aw P w K mg base (Ij P w) 4 fKn dKn ["organ","name"] (Yp C cK):=by
 have GOj:Aw P w K mg base Bg 3 fOj dOj ["self","name"] (bY C):=dJ N T
 have GSt:Aw P w K mg base Bg 3 fSt dSt ["numbers"] Tv:=Uh N T
 refine N.FKn.1.V6 fD (fun vs H Q E h=>?_) (fun cdv A outer s H vs Q E hr h=>?_)
 ·obtain ⟨x,us,bs,rk,ks,ls,sts,v,rfl,_⟩:=h
  rfl
 ·obtain ⟨x,us,bs,rk,ks,ls,sts,v,rfl,O,hv,hn,hl,q,qe⟩:=h
  have hrOj:BX 3 _:=hr.mono (by decide)
  have hrSt:BX 3 _:=hr.mono (by decide)
  have hu:=CN hr
  refine ⟨_,(Ad (C_ (i:=2) fD.nd rfl (Or.inl rfl) (FN (pv 0) T.cl N.FOj.2.2 GOj hrOj N.FOj.2.1 .nil Ay (Ab (pv 1) Aa)))
   (Ad (Bc (Az Pa (pv 2) Ga (BL _)) (Ae (Gx T.x4.rK.ex rfl T.x4.mK rfl Ig (Ab BR Aa))) BW)
   (Ae (Av (Al GSt hrSt rfl N.FSt.2.2 N.FSt.1.kp N.FSt.2.1 .nil Ay (Ab (Dz (Ab (pv 2) Aa)) Aa)))))),?_⟩
  obtain ⟨⟨⟨dx,fs,_,_,_,_,_,_,_,_,h1,_,_,_,_,lm,_⟩,_⟩,_⟩:=id O.o
  refine ⟨_,rfl,x,dx,fs,rfl,h1,lm _ (by decide +kernel),_,rfl,x,us,bs,rk,ks,ls,sts,v,rfl,O,hv,hn,fun H1 s1=>?_⟩
  rcases Kw (ks.map (·.nm)) v with e | ⟨t,rfl,ht,e⟩
  ·have qe':=qe H1 s1 e
   rw [e]
   exact ⟨_,rfl,rfl,_,rfl,Cm ⟨by show 1<=1000; decide,qe'⟩⟩
  ·rw [e]
   have hi:=List.idxOf_lt_length_of_mem ht
   rw [List.length_map] at hi
   refine ⟨_,rfl,rfl,_,rfl,Bo ?_⟩
   refine ⟨_,rfl,Bl (by simp),fun p2 hp2=>?_⟩
   have s2:=Ax (o:=HO.lst [V.int (((ks.map (·.nm)).idxOf t:Nat):Int)]) hp2
   refine ⟨p2,[(ks.map (·.nm)).idxOf t],rfl,Ah,by simp,fun n hn=>by rw [List.mem_singleton.mp hn]; omega,fun H3 s3=>?_⟩
   rw [Xr]
   exact q t H3 (s1.trans (s2.trans s3)) rfl ht
noncomputable def cG (Cy:Addr):Sp:=fun vs H Q _=>∃ (y dy x:Addr),vs=[.ref y,.ref x]/\H y=some (.ins Cy dy [])/\∀ (sd:Addr) H',SX y H H'->H sd=none->H' sd=some (.dK [])->Df Cy H' y x 0 0 sd->Q .non H'
noncomputable def RJ (Cy:Addr):Sp:=fun vs H Q _=>∃ (y x:Addr) (dr sh:Nat) (sd:Addr) (n:Nat),vs=[.ref y,.int (n:Nat)]/\Df Cy H y x dr sh sd/\∀ H',SX y H H'->Df Cy H' y x n sh sd->Q (.bl (!decide (n=dr))) H'
theorem jb:Ao ["self","organ"] ["self","organ"] (Af lO):=Bm
include N T in
theorem aa:Aw P w K mg base Bg 1 fXi dXi ["self","organ"] (cG Cy):=by
 refine N.FXi.1.ok jb (fun vs H Q E h=>?_) (fun cdv A outer s H vs Q E hr h=>?_)
 ·obtain ⟨y,dy,x,rfl,_⟩:=h
  rfl
 ·obtain ⟨y,dy,x,rfl,h1,q⟩:=h
  have hu:=CN hr
  refine ⟨_,(Ad (Cz (pv 0) (pv 1) rfl)
   (Ad (Cz (pv 0) Ac rfl)
   (Ad (Cz (pv 0) Ac rfl)
   (Ae (Cz (pv 0) J6 rfl))))),?_⟩
  refine ⟨_,rfl,_,rfl,y,Cy,dy,_,rfl,h1,T.clR,T.nr_organ,by show 0<1000; decide,?_⟩
  have x1:upd H y (HO.ins Cy dy (BV "organ" (.ref x) [])) y=some (.ins Cy dy (BV "organ" (.ref x) [])):=Ah
  have c1:SX y H (upd H y (HO.ins Cy dy (BV "organ" (.ref x) []))):=SX.up
  generalize upd H y (HO.ins Cy dy (BV "organ" (.ref x) []))=H1 at x1 c1 ⊢
  have z1:=FP "organ" (.ref x) []
  have z2:=FP "drawn_set" (.int 0) (BV "organ" (.ref x) [])
  have z3:=FP "shoe_step" (.int 0) (BV "drawn_set" (.int 0) (BV "organ" (.ref x) []))
  have z0:([]:List (Str × V)).length=0:=rfl
  refine ⟨_,rfl,y,Cy,dy,_,rfl,x1,T.clR,T.nr_drawn_set,by omega,?_⟩
  have x2:upd H1 y (HO.ins Cy dy (BV "drawn_set" (.int 0) (BV "organ" (.ref x) []))) y=some (.ins Cy dy (BV "drawn_set" (.int 0) (BV "organ" (.ref x) []))):=Ah
  have c2:SX y H1 (upd H1 y (HO.ins Cy dy (BV "drawn_set" (.int 0) (BV "organ" (.ref x) [])))):=SX.up
  generalize upd H1 y (HO.ins Cy dy (BV "drawn_set" (.int 0) (BV "organ" (.ref x) [])))=H2 at x2 c2 ⊢
  refine ⟨_,rfl,y,Cy,dy,_,rfl,x2,T.clR,T.nr_shoe_step,by omega,?_⟩
  have x3:upd H2 y (HO.ins Cy dy (BV "shoe_step" (.int 0) (BV "drawn_set" (.int 0) (BV "organ" (.ref x) [])))) y=some (.ins Cy dy (BV "shoe_step" (.int 0) (BV "drawn_set" (.int 0) (BV "organ" (.ref x) [])))):=Ah
  have c3:SX y H2 (upd H2 y (HO.ins Cy dy (BV "shoe_step" (.int 0) (BV "drawn_set" (.int 0) (BV "organ" (.ref x) []))))):=SX.up
  generalize upd H2 y (HO.ins Cy dy (BV "shoe_step" (.int 0) (BV "drawn_set" (.int 0) (BV "organ" (.ref x) []))))=H3 at x3 c3 ⊢
  intro sd hsd
  obtain ⟨H4,eqH,s4,e4⟩:=Ds (o:=HO.dK []) hsd
  rw [eqH]
  refine ⟨_,rfl,y,Cy,dy,_,rfl,s4 _ _ x3,T.clR,T.nr_stored,by omega,?_⟩
  have ny:sd ≠ y:=Ne.symm (Ai x3 hsd)
  have c03:=c1.trans (c2.trans c3)
  have fsd:H sd=none:=by
   cases z:H sd with
   | none=>rfl
   | some ob =>
    have:=c03 sd ob z ny
    rw [hsd] at this
    cases this
  exact q sd _ (c03.trans ((SX.of s4).trans SX.up)) fsd (by rw [Ar ny]; exact e4) (Df.new Ah)
theorem ZZ:Ao ["self","knobs","changed"] ["self","knobs"] (Af my):=Bm
include N T in
theorem QX:Aw P w K mg base Bg 1 fXd dXd ["self","knobs"] (RJ Cy):=by
 refine N.FXd.1.ok ZZ (fun vs H Q E h=>?_) (fun cdv A outer s H vs Q E hr h=>?_)
 ·obtain ⟨y,x,dr,sh,sd,n,rfl,_⟩:=h
  rfl
 ·obtain ⟨y,x,dr,sh,sd,n,rfl,D,q⟩:=h
  have hu:=CN hr
  refine ⟨_,(Ad (C_ (i:=2) ZZ.nd rfl (Or.inl rfl) (Cg Kc (pv 1) (Bh (pv 0) rfl) (BL _)))
   (Ad (Cz (pv 0) (pv 1) rfl)
   (Ae (Av (pv 2))))),?_⟩
  obtain ⟨dy,fs,h1,l1,l2,l3,l4,l5,lm⟩:=id D.ex
  refine ⟨_,rfl,_,rfl,y,Cy,dy,_,_,rfl,h1,T.clR,T.nr_drawn_set,l2,rfl,?_⟩
  refine ⟨_,rfl,_,rfl,y,Cy,dy,_,rfl,h1,T.clR,T.nr_drawn_set,by omega,?_⟩
  have c1:SX y H (upd H y (HO.ins Cy dy (BV "drawn_set" (.int (n:Nat)) fs))):=SX.up
  have D1:Df Cy (upd H y (HO.ins Cy dy (BV "drawn_set" (.int (n:Nat)) fs))) y x n sh sd:=Df.putD n l1 l2 l3 l4 l5 lm Ah
  have e:(!decide (V.int ((n:Nat):Int)=V.int ((dr:Nat):Int))) = !decide (n=dr):=by
   congr 1
   rw [decide_eq_decide]
   constructor
   ·intro z
    have:=V.int.inj z
    omega
   ·rintro rfl
    rfl
  have q1:=q _ c1 D1
  rw [← e] at q1
  exact ⟨_,rfl,q1⟩
theorem QS (a b:Nat):Builtin.bitAnd (a:Int) (Builtin.bitNot (b:Int))=((a - (a &&& b):Nat):Int):=by
 have h:¬ 0<=Builtin.bitNot (b:Int):=by unfold Builtin.bitNot; omega
 have nn:Builtin.bitNot (Builtin.bitNot (b:Int))=(b:Int):=by unfold Builtin.bitNot; omega
 have hle:a &&& b<=a:=Nat.and_le_left
 unfold Builtin.bitAnd
 rw [decide_eq_true (Int.natCast_nonneg a),decide_eq_false h]
 show (a:Int) - ((((a:Int).toNat &&& (Builtin.bitNot (Builtin.bitNot (b:Int))).toNat:Nat)):Int)=_
 rw [nn,Int.toNat_natCast,Int.toNat_natCast]
 omega
noncomputable abbrev En (ks:List R):List Str:=ks.map (·.nm)
noncomputable def FW (C Cy:Addr) (Ho H:Hp) (y x:Addr) (ks:List R) (sts:List Nat) (dr sh:Nat) (sd:Addr):Prop:=(∃ us bs rk ls,ZR C Cy Ho H y x us bs rk ks ls sts dr sh sd)/\(∀ n∈En ks,isNm n)/\ks.length<=100
theorem FW.mono {C Cy:Addr} {Ho H H':Hp} {y x:Addr} {ks:List R} {sts:List Nat} {dr sh:Nat} {sd:Addr} (s:Ak H H') (h:FW C Cy Ho H y x ks sts dr sh sd):FW C Cy Ho H' y x ks sts dr sh sd:=by
 obtain ⟨⟨us,bs,rk,ls,h1⟩,h2,h3⟩:=h
 exact ⟨⟨us,bs,rk,ls,h1.mono s⟩,h2,h3⟩
theorem FW.put {C Cy:Addr} {Ho H H':Hp} {y x:Addr} {ks:List R} {sts:List Nat} {dr sh dr' sh':Nat} {sd:Addr} (h:FW C Cy Ho H y x ks sts dr sh sd) (s:SX y H H') (c:Df Cy H' y x dr' sh' sd):FW C Cy Ho H' y x ks sts dr' sh' sd:=by
 obtain ⟨⟨us,bs,rk,ls,h1⟩,h2,h3⟩:=h
 exact ⟨⟨us,bs,rk,ls,h1.o,fun b o e=>s b o (h1.s b o e) (Ai e h1.n),h1.n,c⟩,h2,h3⟩
noncomputable def Vd (up:Bool) (C Cy cK:Addr):Sp:=fun vs H Q E=>∃ (Ho:Hp) (y x:Addr) (ks:List R) (sts:List Nat) (dr sh:Nat) (sd:Addr) (v:V),vs=[.ref y,v]/\FW C Cy Ho H y x ks sts dr sh sd/\E_ H v /\
 (∀ t d2 H',SX y H H'->v=.str t->t∈En ks->d2=(if up then dr ||| 2 ^ (En ks).idxOf t else dr - (dr &&& 2 ^ (En ks).idxOf t))->FW C Cy Ho H' y x ks sts d2 sh sd->Q (.bl (!decide (d2=dr))) H')/\(∀ H',Ak H H'->Gh (En ks) v=.non->E (.ref cK) none H')
theorem iK:Ao ["self","name"] ["self","name"] (Af jO):=Bm
include N T in
theorem Zh:Aw P w K mg base (Ij P w) 5 fXp dXp ["self","name"] (Vd true C Cy cK):=by
 have GKn:Aw P w K mg base (Ij P w) 4 fKn dKn ["organ","name"] (Yp C cK):=Wz N T
 have GXd:Aw P w K mg base Bg 1 fXd dXd ["self","knobs"] (RJ Cy):=QX N T
 refine N.FXp.1.V6 iK (fun vs H Q E h=>?_) (fun cdv A outer s H vs Q E hr h=>?_)
 ·obtain ⟨Ho,y,x,ks,sts,dr,sh,sd,v,rfl,_⟩:=h
  rfl
 ·obtain ⟨Ho,y,x,ks,sts,dr,sh,sd,v,rfl,O,hv,q,qe⟩:=h
  have hrKn:BX 4 _:=hr.mono (by decide)
  have hrXd:BX 1 _:=hr.mono (by decide)
  have hu:=CN hr
  refine ⟨_,(Ae (Av (FN (pv 0) T.clR N.FXd.2.2 GXd hrXd N.FXd.2.1 .nil Ay (Ab (BP Hc (Bh (pv 0) rfl) (Al GKn hrKn rfl N.FKn.2.2 N.FKn.1.kp N.FKn.2.1 .nil Jp (Ab (Bh (pv 0) rfl) (Ab (pv 1) Aa)))) Aa)))),?_⟩
  obtain ⟨⟨us,bs,rk,ls,D⟩,hn,hl⟩:=id O
  obtain ⟨dy,fs,h1,l1,l2,l3,l4,l5,lm⟩:=id D.c.ex
  refine ⟨_,rfl,y,dy,fs,rfl,h1,lm _ (by decide +kernel),_,rfl,y,Cy,dy,_,_,rfl,h1,T.clR,T.nr_drawn_set,l2,_,rfl,y,Cy,dy,_,_,rfl,h1,T.clR,T.nr_organ,l1,_,rfl,x,us,bs,rk,ks,ls,sts,v,rfl,D.o.mono D.s,hv,hn,hl,fun t H1 s1 ev ht=>?_,fun H1 s1 e=>qe H1 s1 e⟩
  subst ev
  refine ⟨_,_,rfl,rfl,?_⟩
  dsimp only
  rw [Eh]
  refine ⟨y,x,dr,sh,sd,_,rfl,D.c.mono s1,fun H2 c2 D2=>?_⟩
  exact q t _ H2 ((SX.of s1).trans c2) rfl ht rfl ((O.mono s1).put c2 D2)
theorem iu:Ao ["self","name"] ["self","name"] (Af iw):=Bm
include N T in
theorem du:Aw P w K mg base (Ij P w) 5 fXq dXq ["self","name"] (Vd false C Cy cK):=by
 have GKn:Aw P w K mg base (Ij P w) 4 fKn dKn ["organ","name"] (Yp C cK):=Wz N T
 have GXd:Aw P w K mg base Bg 1 fXd dXd ["self","knobs"] (RJ Cy):=QX N T
 refine N.FXq.1.V6 iu (fun vs H Q E h=>?_) (fun cdv A outer s H vs Q E hr h=>?_)
 ·obtain ⟨Ho,y,x,ks,sts,dr,sh,sd,v,rfl,_⟩:=h
  rfl
 ·obtain ⟨Ho,y,x,ks,sts,dr,sh,sd,v,rfl,O,hv,q,qe⟩:=h
  have hrKn:BX 4 _:=hr.mono (by decide)
  have hrXd:BX 1 _:=hr.mono (by decide)
  have hu:=CN hr
  refine ⟨_,(Ae (Av (FN (pv 0) T.clR N.FXd.2.2 GXd hrXd N.FXd.2.1 .nil Ay (Ab (BP Fg (Bh (pv 0) rfl) (QV TX (Al GKn hrKn rfl N.FKn.2.2 N.FKn.1.kp N.FKn.2.1 .nil Jp (Ab (Bh (pv 0) rfl) (Ab (pv 1) Aa))))) Aa)))),?_⟩
  obtain ⟨⟨us,bs,rk,ls,D⟩,hn,hl⟩:=id O
  obtain ⟨dy,fs,h1,l1,l2,l3,l4,l5,lm⟩:=id D.c.ex
  refine ⟨_,rfl,y,dy,fs,rfl,h1,lm _ (by decide +kernel),_,rfl,y,Cy,dy,_,_,rfl,h1,T.clR,T.nr_drawn_set,l2,_,rfl,y,Cy,dy,_,_,rfl,h1,T.clR,T.nr_organ,l1,_,rfl,x,us,bs,rk,ks,ls,sts,v,rfl,D.o.mono D.s,hv,hn,hl,fun t H1 s1 ev ht=>?_,fun H1 s1 e=>qe H1 s1 e⟩
  subst ev
  refine ⟨_,rfl,_,_,rfl,rfl,?_⟩
  dsimp only
  rw [QS]
  refine ⟨y,x,dr,sh,sd,_,rfl,D.c.mono s1,fun H2 c2 D2=>?_⟩
  exact q t _ H2 ((SX.of s1).trans c2) rfl ht rfl ((O.mono s1).put c2 D2)
noncomputable def ZG (Cy:Addr):Sp:=fun vs H Q _=>∃ (y x:Addr) (dr sh:Nat) (sd:Addr),vs=[.ref y]/\Df Cy H y x dr sh sd/\Q (.int (dr:Nat)) H
noncomputable def cM (Cy:Addr):Sp:=fun vs H Q _=>∃ (y x:Addr) (dr sh:Nat) (sd:Addr),vs=[.ref y]/\Df Cy H y x dr sh sd/\Q (.int (sh:Nat)) H
noncomputable def e_ (C Cy:Addr):Sp:=fun vs H Q _=>∃ (Ho:Hp) (y x:Addr) (ks:List R) (sts:List Nat) (dr sh:Nat) (sd:Addr),vs=[.ref y]/\FW C Cy Ho H y x ks sts dr sh sd/\sh<=sts.length/\sts.length<=100/\∀ H',Ak H H'->Q (.int ((dr ||| R1 (sts.take sh):Nat):Int)) H'
theorem jP:Ao ["self"] ["self"] (Af lE):=Bm
include N T in
theorem XN:Aw P w K mg base Bg 1 fXw dXw ["self"] (ZG Cy):=by
 refine N.FXw.1.ok jP (fun vs H Q E h=>?_) (fun cdv A outer s H vs Q E hr h=>?_)
 ·obtain ⟨y,x,dr,sh,sd,rfl,_⟩:=h
  rfl
 ·obtain ⟨y,x,dr,sh,sd,rfl,D,q⟩:=h
  have hu:=CN hr
  refine ⟨_,(Ae (Av (Bh (pv 0) rfl))),?_⟩
  obtain ⟨dy,fs,h1,l1,l2,l3,l4,l5,lm⟩:=id D.ex
  exact ⟨_,rfl,y,Cy,dy,_,_,rfl,h1,T.clR,T.nr_drawn_set,l2,q⟩
theorem jY:Ao ["self"] ["self"] (Af jq):=Bm
include N T in
theorem dq:Aw P w K mg base Bg 1 fXs dXs ["self"] (cM Cy):=by
 refine N.FXs.1.ok jY (fun vs H Q E h=>?_) (fun cdv A outer s H vs Q E hr h=>?_)
 ·obtain ⟨y,x,dr,sh,sd,rfl,_⟩:=h
  rfl
 ·obtain ⟨y,x,dr,sh,sd,rfl,D,q⟩:=h
  have hu:=CN hr
  refine ⟨_,(Ae (Av (Bh (pv 0) rfl))),?_⟩
  obtain ⟨dy,fs,h1,l1,l2,l3,l4,l5,lm⟩:=id D.ex
  exact ⟨_,rfl,y,Cy,dy,_,_,rfl,h1,T.clR,T.nr_shoe_step,l3,q⟩
theorem jd:Ao ["self"] ["self"] (Af l_):=Bm
include N T in
theorem cY:Aw P w K mg base Bg 2 fXk dXk ["self"] (e_ C Cy):=by
 have GUn:Aw P w K mg base Bg 1 fUn dUn ["sets"] bf:=eV N T
 have GOy:Aw P w K mg base Bg 1 fOy dOy ["self"] (Yy C):=W9 N T
 refine N.FXk.1.ok jd (fun vs H Q E h=>?_) (fun cdv A outer s H vs Q E hr h=>?_)
 ·obtain ⟨Ho,y,x,ks,sts,dr,sh,sd,rfl,_⟩:=h
  rfl
 ·obtain ⟨Ho,y,x,ks,sts,dr,sh,sd,rfl,O,hsh,hst,q⟩:=h
  have hrUn:BX 1 _:=hr.mono (by decide)
  have hrOy:BX 1 _:=hr.mono (by decide)
  have hu:=CN hr
  refine ⟨_,(Ae (Av (BP Hc (Bh (pv 0) rfl) (Al GUn hrUn rfl N.FUn.2.2 N.FUn.1.kp N.FUn.2.1 .nil Ay (Ab (Ce FJ (CW (Bh (pv 0) rfl) T.cl N.FOy.2.2 GOy hrOy N.FOy.2.1 .nil Ay) Dm (DG (Bh (pv 0) rfl))) Aa))))),?_⟩
  obtain ⟨⟨us,bs,rk,ls,D⟩,hn,hl⟩:=id O
  obtain ⟨dy,fs,h1,l1,l2,l3,l4,l5,lm⟩:=id D.c.ex
  have OX:=D.o.mono D.s
  obtain ⟨⟨⟨dx,gs,_,_,_,_,_,_,_,_,k1,_,_,_,_,km,_⟩,_⟩,_⟩:=id OX.o
  refine ⟨_,rfl,y,Cy,dy,_,_,rfl,h1,T.clR,T.nr_drawn_set,l2,_,rfl,y,Cy,dy,_,_,rfl,h1,T.clR,T.nr_organ,l1,x,dx,gs,rfl,k1,km _ (by decide +kernel),x,us,bs,rk,ks,ls,sts,rfl,OX,fun D1 H1 hD1 s1 q1=>?_⟩
  refine ⟨_,rfl,y,Cy,dy,_,_,rfl,s1 _ _ h1,T.clR,T.nr_shoe_step,l3,_,rfl,D1,_,rfl,.inl (.inl q1),fun p2 hp2=>?_⟩
  have s2:=Ax (o:=HO.lst (Dn (nV sts) none (some (sh:Int)))) hp2
  have a2:upd H1 p2 (HO.lst (Dn (nV sts) none (some (sh:Int)))) p2=_:=Ah
  generalize upd H1 p2 (HO.lst (Dn (nV sts) none (some (sh:Int))))=H2 at s2 a2 ⊢
  have lz:(nV sts).length=sts.length:=List.length_map _
  rw [Np (nV sts) sh (by omega)] at a2
  have e2:(nV sts).take sh=nV (sts.take sh):=(List.map_take ..).symm
  rw [e2] at a2
  refine ⟨p2,sts.take sh,rfl,a2,by rw [List.length_take]; omega,_,_,rfl,rfl,?_⟩
  dsimp only
  rw [Eh]
  exact q H2 (s1.trans s2)
noncomputable def isI:V->Bool
 | .int _=>true
 | _=>false
theorem kE {K:PySem.W.Frag}:PySem.W.kitOne K (.type "NoneType") (.type "int")=some false:=by kernel_rfl
theorem lG {K:PySem.W.Frag}:PySem.W.kitOne K (.type "bool") (.type "int")=some true:=by kernel_rfl
theorem lC {K:PySem.W.Frag}:PySem.W.kitOne K (.type "bool") (.type "bool")=some true:=by kernel_rfl
theorem iy {K:PySem.W.Frag}:PySem.W.kitOne K (.type "list") (.type "int")=some false:=by kernel_rfl
theorem nY {K:PySem.W.Frag}:PySem.W.kitOne K (.type "tuple") (.type "int")=some false:=by kernel_rfl
theorem nQ {K:PySem.W.Frag}:PySem.W.kitOne K (.type "str") (.type "int")=some false:=by kernel_rfl
noncomputable def U0:Sp:=fun vs H Q _=>∃ v:V,vs=[v]/\E_ H v/\Q (.bl (isI v)) H
include N T in
theorem Uu:Aw P w K mg base Bg 1 fWh dWh ["thing"] U0:=by
 refine N.FWh.1.ok aO (fun vs H Q E h=>?_) (fun cdv A outer s H vs Q E hr h=>?_)
 ·obtain ⟨v,rfl,_⟩:=h
  rfl
 ·obtain ⟨v,rfl,hv,q⟩:=h
  refine ⟨_,(Ae (Av (Dc (BK Cw rfl T.isin PyProof.Rows.boot_isinstance (Ab (pv 0) (Ab (EY (v:=.ty "int") rfl T.int PyProof.Rows.boot_int rfl) Aa))) (DP (Pq (BK Cw rfl T.isin PyProof.Rows.boot_isinstance (Ab (pv 0) (Ab (EY (v:=.ty "bool") rfl T.bool PyProof.Rows.boot_bool rfl) Aa)))))))),?_⟩
  cases hv with
  | non=>exact ⟨_,rfl,_,"int",_,_,rfl,.non,kE,_,rfl,Bo q⟩
  | bl b=>exact ⟨_,rfl,_,"int",_,_,rfl,.bl b,lG,_,rfl,Cm ⟨_,rfl,_,"bool",_,_,rfl,.bl b,lC,_,rfl,q⟩⟩
  | int i=>exact ⟨_,rfl,_,"int",_,_,rfl,.int i,ty_int,_,rfl,Cm ⟨_,rfl,_,"bool",_,_,rfl,.int i,XD,_,rfl,q⟩⟩
  | lst h=>exact ⟨_,rfl,_,"int",_,_,rfl,.lst h,iy,_,rfl,Bo q⟩
  | tup h=>exact ⟨_,rfl,_,"int",_,_,rfl,.tup h,nY,_,rfl,Bo q⟩
  | str h=>exact ⟨_,rfl,_,"int",_,_,rfl,.str _,nQ,_,rfl,Bo q⟩
noncomputable def YH (n:Nat):V->Bool
 | .int i=>decide (0<=i) && decide (i<=(n:Nat))
 | _=>false
noncomputable def dj (C Cy cS:Addr):Sp:=fun vs H Q E=>∃ (Ho:Hp) (y x:Addr) (ks:List R) (sts:List Nat) (dr sh:Nat) (sd:Addr) (v:V),vs=[.ref y,v]/\FW C Cy Ho H y x ks sts dr sh sd/\E_ H v /\
 (∀ (i:Nat) H',v=.int (i:Nat)->i<=sts.length->SX y H H'->FW C Cy Ho H' y x ks sts dr i sd->Q .non H')/\(∀ H',Ak H H'->YH sts.length v=false->E (.ref cS) none H')
theorem lH:Ao ["self","step"] ["self","step"] (Af lB):=Bm
include N T in
theorem Za:Aw P w K mg base (Ij P w) 3 fXh dXh ["self","step"] (dj C Cy cS):=by
 have GWhG:Aw P w K mg base Bg 1 fWh dWh ["thing"] U0:=Uu N T
 have GOy:Aw P w K mg base Bg 1 fOy dOy ["self"] (Yy C):=W9 N T
 refine N.FXh.1.V6 lH (fun vs H Q E h=>?_) (fun cdv A outer s H vs Q E hr h=>?_)
 ·obtain ⟨Ho,y,x,ks,sts,dr,sh,sd,v,rfl,_⟩:=h
  rfl
 ·obtain ⟨Ho,y,x,ks,sts,dr,sh,sd,v,rfl,O,hv,q,qe⟩:=h
  have hrWhG:BX 1 _:=hr.mono (by decide)
  have hrOy:BX 1 _:=hr.mono (by decide)
  have hu:=CN hr
  refine ⟨_,(Ad (Bc (PW.pt (Im (Dw (DN (Al GWhG hrWhG rfl N.FWh.2.2 N.FWh.1.kp N.FWh.2.1 .nil Ay (Ab (pv 1) Aa)))) (G9 (Dw (N_ Fy Fy Ac (pv 1) (BK BZ rfl T.len PySem.boot_len (Ab (CW (Bh (pv 0) rfl) T.cl N.FOy.2.2 GOy hrOy N.FOy.2.1 .nil Ay) Aa))))))) (Ae (Gx T.x4.rS.ex rfl T.x4.mS rfl Ig (Ab BR Aa))) BW)
   (Ae (Cz (pv 0) (pv 1) rfl))),?_⟩
  obtain ⟨⟨us,bs,rk,ls,D⟩,hn,hl⟩:=id O
  obtain ⟨dy,fs,h1,l1,l2,l3,l4,l5,lm⟩:=id D.c.ex
  have OX:=D.o.mono D.s
  obtain ⟨⟨⟨dx,gs,_,_,_,_,_,_,_,_,k1,_,_,_,_,km,_⟩,_⟩,_⟩:=id OX.o
  refine ⟨_,rfl,v,rfl,hv,_,rfl,?_⟩
  cases v with
  | int i =>
   refine Bo ⟨_,rfl,_,_,rfl,rfl,_,rfl,Cq (fun h0=>?_) (fun h0=>?_)⟩
   ·refine ⟨_,rfl,y,Cy,dy,_,_,rfl,h1,T.clR,T.nr_organ,l1,x,dx,gs,rfl,k1,km _ (by decide +kernel),x,us,bs,rk,ks,ls,sts,rfl,OX,fun D1 H1 hD1 s1 q1=>?_⟩
    refine ⟨D1,_,rfl,.inl (.inl (.inl q1)),_,_,rfl,rfl,decide (i<=(((nV sts).length:Nat):Int)),rfl,?_⟩
    have lst:(nV sts).length=sts.length:=List.length_map _
    by_cases hi:i<=((sts.length:Nat):Int)
    ·rw [decide_eq_true (show i<=(((nV sts).length:Nat):Int) by omega)]
     have i0:0<=i:=of_decide_eq_true h0
     refine Bo ?_
     refine ⟨_,rfl,_,rfl,y,Cy,dy,_,rfl,s1 _ _ h1,T.clR,T.nr_shoe_step,by omega,?_⟩
     obtain ⟨j,rfl⟩:=Int.eq_ofNat_of_zero_le i0
     exact q j _ rfl (by omega) ((SX.of s1).trans SX.up) ((O.mono s1).put SX.up (Df.bF j l1 l2 l3 l4 l5 lm Ah))
    ·rw [decide_eq_false (show ¬ i<=(((nV sts).length:Nat):Int) by omega)]
     exact Cm ⟨by show 1<=1000; decide,qe H1 s1 (by show (decide (0<=i) && decide (i<=((sts.length:Nat):Int)))=false; rw [decide_eq_false hi,Bool.and_false])⟩
   ·exact ⟨_,rfl,Cm ⟨by show 1<=1000; decide,qe H (Ak.refl H) (by show (decide (0<=i) && decide (i<=((sts.length:Nat):Int)))=false; rw [decide_eq_false (fun z=>h0 (decide_eq_true z)),Bool.false_and])⟩⟩
  | _=>exact Cm ⟨by show 1<=1000; decide,qe H (Ak.refl H) rfl⟩
open Bw
theorem jU {c:Int}:0<=(if c<0 then -c else c):=by split <;> omega
theorem RZ:Ao ["_law_script","_law_start","_law_cells","_law_number","_law_k","_law_mixed"] ["_law_script","_law_start"] (Af gG):=Bm
include N T in
theorem bD:Aw P w K mg base Bg 1 fDn dDn ["_law_script","_law_start"] (gC K):=by
 refine N.FDn.1.ok RZ (fun vs H Q E h=>?_) (fun cdv A outer s H vs Q E hr h=>?_)
 ·obtain ⟨a,st,ns,rfl,_⟩:=h
  rfl
 ·obtain ⟨a,st,ns,rfl,hS,h0,h1,hz,q⟩:=h
  refine ⟨_,(@Ad _ _ _ _ _ (@Ba _ _ _ _ _ _ 2 RZ.nd rfl (Or.inl rfl) (BP PL (Bk rfl (Bb (osc:=Af gG) (N:=["_law_script","_law_start","_law_cells","_law_number","_law_k","_law_mixed"]) rfl rfl (by decide +kernel)) (Bq (Ce FJ (pv 0) Dm (DG Ac))) (fun _ _ _ _=>Ck) (fun _ _ _ _=>(BK Sh rfl T.abs PyProof.Rows.boot_abs (@Am _ _ _ _ _ rfl (pv 0) Aa)))) (@Dz _ _ _ _ (@Am _ _ _ _ _ rfl Ac Aa))) (by kernel_rfl) (.inl rfl))
   (@Ad _ _ _ _ _ (@Ba _ _ _ _ _ _ 3 RZ.nd rfl (Or.inl rfl) (pv 1) (by kernel_rfl) (.inl rfl))
   (@Ad _ _ _ _ _ (Ef PassesOwn.never rfl (Fq rfl T.range (@Am _ _ _ _ _ rfl (BK BZ rfl T.len PySem.boot_len (@Am _ _ _ _ _ rfl (pv 2) Aa)) Aa)) (B_ (i:=4) RZ.nd rfl (Or.inl rfl)) (@Ae _ _ _ (@Ba _ _ _ _ _ _ 3 RZ.nd rfl (Or.inl rfl) (BP CT (BP Dp (BP Dp (BP GD (pv 3) Ac) (BP GD (BP CT (@A_ _ _ _ _ _ _ _ Bv (pv 2) (pv 4) (fun _ _=>rfl)) Ac) (BP Dp (BP GD (pv 4) (pv 4)) Ac))) Ac) Ac) (by kernel_rfl) (.inl rfl))))
   (@Ad _ _ _ _ _ (@Ba _ _ _ _ _ _ 5 RZ.nd rfl (Or.inl rfl) (BP GD (BP CT (@A_ _ _ _ _ _ _ _ Bv (pv 2) Ac (fun _ _=>rfl)) Ac) (BK BZ rfl T.len PySem.boot_len (@Am _ _ _ _ _ rfl (pv 2) Aa))) (by kernel_rfl) (.inl rfl))
   (@Ad _ _ _ _ _ (JT (BP GK (@A_ _ _ _ _ _ _ _ Bv (pv 2) Ac (fun _ _=>rfl)) Ac) (J3 (pv 2) Ac set_list))
   (@Ae _ _ _ (@Av _ _ _ _ (@Dz _ _ _ _ (@Am _ _ _ _ _ rfl (pv 2) (@Am _ _ _ _ _ rfl (pv 5) (@Am _ _ _ _ _ rfl (pv 3) (@Am _ _ _ _ _ rfl Ac Aa)))))))))))),?_⟩
  refine ⟨_,rfl,_,rfl,a,_,rfl,hS,fun p1 hp1=>?_⟩
  obtain ⟨ms,em,hm⟩:=Ss ns none (some 63)
  rw [em]
  have s1:=Ax (o:=HO.lst (ms.map V.int)) hp1
  have l1:DQ K (upd H p1 (HO.lst (ms.map V.int))) p1 (ms.map V.int):=.inl (.inl Ah)
  generalize upd H p1 (HO.lst (ms.map V.int))=H1 at s1 l1 ⊢
  refine ⟨p1,rfl,⟨_,l1⟩,Cv (K:=K) (xs:=ms.map V.int) (fun _=>true) (fun v=>match v with | .int i=>.int (if i<0 then -i else i) | x=>x) l1 (BJ (by simp; omega)) (fun x hx H' hs R k=>k H' (Ak.refl H')) (fun x hx _ H' hs R k=>?_) (fun D H2 hD hs hl=>?_)⟩
  ·obtain ⟨i,_,rfl⟩:=List.mem_map.mp hx
   exact ⟨_,rfl,i,rfl,k H' (Ak.refl H')⟩
  rw [List.filter_eq_self.mpr (fun _ _=>rfl),List.map_map] at hl
  have hl':H2 D=some (.lst ((ms.map fun i=>if i<0 then -i else i).map V.int)):=by rw [hl,List.map_map]; rfl
  clear hl
  have hnn:∀ c∈ms.map (fun i:Int=>if i<0 then -i else i),(0:Int)<=c:=fun c hc=>by
   obtain ⟨i,_,rfl⟩:=List.mem_map.mp hc
   exact jU
  have hml:(ms.map fun i:Int=>if i<0 then -i else i).length<=63:=by rw [List.length_map]; omega
  generalize (ms.map fun i:Int=>if i<0 then -i else i)=as at hl' hnn hml
  refine ⟨by show 1<=sizeLine; decide,fun p3 hp3=>?_⟩
  obtain ⟨H3,eqH,s3,l3⟩:=Ds (o:=HO.lst [V.int 0]) hp3
  rw [eqH]
  refine ⟨D,p3,_,_,rfl,rfl,s3 _ _ hl',l3,Bl (by simp; omega),fun pc hpc=>?_⟩
  have s4:=Ax (o:=HO.lst (as.map V.int++[V.int 0])) hpc
  have l4:upd H3 pc (HO.lst (as.map V.int++[V.int 0])) pc=some (.lst ((as++[0]).map V.int)):=by rw [Ah,List.map_append]; rfl
  have hn4:∀ c∈as++[0],(0:Int)<=c:=fun c hc=>by
   rcases List.mem_append.mp hc with h | h
   ·exact hnn c h
   ·rw [List.mem_singleton.mp h]; exact Int.le_refl _
  have hl4:0<(as++[0]).length/\(as++[(0:Int)]).length<=64:=by rw [List.length_append,List.length_singleton]; omega
  have hfree:H pc=none:=(s1.trans (hs.trans s3)).free hpc
  have s04:=s1.trans (hs.trans (s3.trans s4))
  generalize upd H3 pc (HO.lst (as.map V.int++[V.int 0]))=H4 at s4 l4 s04 ⊢
  generalize as++[0]=cs at l4 hn4 hl4
  clear s1 l1 hl' hnn hml s3 l3 s4 hpc hp3 hp1 hD hs
  have qc:DQ K H4 pc (cs.map V.int):=.inl (.inl l4)
  have hlen:(cs.map V.int).length=cs.length:=List.length_map ..
  refine ⟨_,rfl,?_⟩
  refine ⟨_,rfl,pc,_,rfl,.inl qc,_,rfl,by omega,by omega,JQ (lo:=0) (n:=(((cs.map V.int).length:Nat):Int).toNat) (fun i σ H5=>H5=H4/\∃ (num:Int) (v4:Option V),0<=num/\num<2147483647/\σ=[some (.ref a),some (.int st),some (.ref pc),some (.int num),v4,none]) ⟨rfl,st,none,h0,h1,rfl⟩ ?_ ?_⟩
  ·rintro i σ H5 hi ⟨rfl,num,v4,hn0,hn1,rfl⟩
   obtain ⟨c,_,hc,hat⟩:=Lz (ns:=cs) (i:=(0:Int)+(i:Int)) (by omega) (by omega)
   have c0:0<=c % 2147483647/\c % 2147483647<2147483647:=⟨Int.emod_nonneg _ (by decide),Int.emod_lt_of_pos _ (by decide)⟩
   refine ⟨_,rfl,_,_,rfl,rfl,.inr ⟨by decide,by decide⟩,_,rfl,_,rfl,pc,_,_,_,rfl,rfl,qc,hat,_,_,rfl,rfl,(by show (0:Int)<2147483647; decide),_,rfl,_,rfl,_,_,rfl,rfl,.inl ⟨by omega,by omega⟩,_,_,rfl,rfl,_,_,rfl,rfl,.inl ⟨by omega,by omega⟩,_,_,rfl,rfl,_,_,rfl,rfl,_,_,rfl,rfl,(by show (0:Int)<2147483629; decide),?_⟩
   refine ⟨rfl,_,_,Int.emod_nonneg _ (by decide),?_,rfl⟩
   exact Int.lt_trans (Int.emod_lt_of_pos _ (by decide)) (by decide)
  ·rintro σ H5 ⟨rfl,num,v4,hn0,hn1,rfl⟩
   obtain ⟨c,ec,hc,hat⟩:=Lz (ns:=cs) (i:=0) (by decide) (by omega)
   have m2:0<=c % 2/\c % 2<2:=⟨Int.emod_nonneg _ (by decide),Int.emod_lt_of_pos _ (by decide)⟩
   refine ⟨_,rfl,pc,_,_,_,rfl,rfl,qc,hat,_,_,rfl,rfl,(by show (0:Int)<2; decide),_,rfl,pc,_,rfl,.inl qc,_,_,rfl,rfl,.inl ⟨by omega,by omega⟩,?_⟩
   have hmx:0<=c % 2 * ((cs.map V.int).length:Int)/\c % 2 * ((cs.map V.int).length:Int)<=cs.length:=by
    rw [hlen]
    have:c % 2=0 \/ c % 2=1:=by omega
    rcases this with e | e <;> rw [e] <;> omega
   show Ez 5 (V.int (c % 2 * ((cs.map V.int).length:Int))) _ _ _
   generalize c % 2 * ((cs.map V.int).length:Int)=mx at hmx
   refine ⟨_,rfl,pc,_,_,_,rfl,rfl,qc,hat,_,_,rfl,rfl,⟨by decide,by decide⟩,_,rfl,pc,_,0,0,rfl,rfl,l4,Ti (by decide) (by omega),?_⟩
   have e5:((cs.map V.int).set 0 (V.int (c / 2)))=(cs.set 0 (c / 2)).map V.int:=by rw [List.map_set]
   have l5:upd H5 pc (HO.lst ((cs.map V.int).set 0 (V.int (c / 2)))) pc=some (.lst ((cs.set 0 (c / 2)).map V.int)):=by rw [Ah,e5]
   have s5:Ak H (upd H5 pc (HO.lst ((cs.map V.int).set 0 (V.int (c / 2))))):=fun b o e=>by rw [Ar (Ai e hfree)]; exact s04 b o e
   generalize upd H5 pc (HO.lst ((cs.map V.int).set 0 (V.int (c / 2))))=H6 at l5 s5 ⊢
   refine ⟨_,rfl,_,rfl,_,rfl,by show 4<=sizeLine; decide,fun dh hdh=>?_⟩
   refine q dh pc _ (s5.free hdh) hfree (s5.trans (Ax hdh)) ?_
   refine ⟨cs.set 0 (c / 2),mx,num,Ah,?_,?_,?_,hmx.1,by rw [List.length_set]; exact hmx.2,hn0,hn1,by rw [List.length_set]; exact hl4.2⟩
   ·rw [Ar (Ai l5 hdh)]
    exact l5
   ·intro e
    rw [e,l5] at hdh
    cases hdh
   ·intro x hx
    rcases List.mem_or_eq_of_mem_set hx with h | h
    ·exact hn4 x h
    ·rw [h]
     have:=hn4 c hc
     omega
theorem Vn:Ao ["_law_drawn_here","_law_many","_law_cells","_law_turn","_law_digit"] ["_law_drawn_here","_law_many"] (Af jD):=Bm
include N T in
theorem fO:Aw P w K mg base Bg 1 fDw dDw ["_law_drawn_here","_law_many"] fu:=by
 refine N.FDw.1.ok Vn (fun vs H Q E h=>?_) (fun cdv A outer s H vs Q E hr h=>?_)
 ·obtain ⟨dh,pc,n,many,rfl,_⟩:=h
  rfl
 ·obtain ⟨dh,pc,n,many,rfl,⟨cs,m,r,hd,hp,ne,hn,hm0,hm1,hr0,hr1,hl⟩,hnn,hma,hmb,q⟩:=h
  refine ⟨_,(@Ad _ _ _ _ _ (@Ba _ _ _ _ _ _ 2 Vn.nd rfl (Or.inl rfl) (@A_ _ _ _ _ _ _ _ Bv (pv 0) Ac (fun _ _=>rfl)) (by kernel_rfl) (.inl rfl))
   (@Ad _ _ _ _ _ (JT (BP Dp (@A_ _ _ _ _ _ _ _ Bv (pv 0) Ac (fun _ _=>rfl)) Ac) (J3 (pv 0) Ac set_list))
   (@Ad _ _ _ _ _ (VL PassesOwn.never (PW.pt (JH (Az Jg (@A_ _ _ _ _ _ _ _ Bv (pv 0) Ac (fun _ _=>rfl)) (BK BZ rfl T.len PySem.boot_len (@Am _ _ _ _ _ rfl (pv 2) Aa)) (BL _)) (HW (Az Be (@A_ _ _ _ _ _ _ _ Bv (pv 2) (@A_ _ _ _ _ _ _ _ Bv (pv 0) Ac (fun _ _=>rfl)) (fun _ _=>rfl)) Ac (BL _))))) (@Ae _ _ _ (JT (BP Dp (@A_ _ _ _ _ _ _ _ Bv (pv 0) Ac (fun _ _=>rfl)) Ac) (J3 (pv 0) Ac set_list))))
   (@Ad _ _ _ _ _ (@Bc _ _ _ _ _ _ _ _ (Az Be (@A_ _ _ _ _ _ _ _ Bv (pv 0) Ac (fun _ _=>rfl)) (BK BZ rfl T.len PySem.boot_len (@Am _ _ _ _ _ rfl (pv 2) Aa)) (BL _)) (@Ad _ _ _ _ _ (@Ba _ _ _ _ _ _ 3 Vn.nd rfl (Or.inl rfl) (@A_ _ _ _ _ _ _ _ Bv (pv 0) Ac (fun _ _=>rfl)) (by kernel_rfl) (.inl rfl))
   (@Ad _ _ _ _ _ (JT (BP CT (BP Dp (BP Dp (BP GD (@A_ _ _ _ _ _ _ _ Bv (pv 0) Ac (fun _ _=>rfl)) Ac) (BP GD (BP GD (pv 3) (pv 3)) (pv 3))) Ac) Ac) (J3 (pv 0) Ac set_list))
   (@Ae _ _ _ (@Av _ _ _ _ (BP CT (BP GK (BP CT (BP GD (@A_ _ _ _ _ _ _ _ Bv (pv 0) Ac (fun _ _=>rfl)) (@A_ _ _ _ _ _ _ _ Bv (pv 0) Ac (fun _ _=>rfl))) Ac) Ac) (pv 1)))))) BW)
   (@Ad _ _ _ _ _ (@Ba _ _ _ _ _ _ 4 Vn.nd rfl (Or.inl rfl) (BP CT (@A_ _ _ _ _ _ _ _ Bv (pv 2) (@A_ _ _ _ _ _ _ _ Bv (pv 0) Ac (fun _ _=>rfl)) (fun _ _=>rfl)) (pv 1)) (by kernel_rfl) (.inl rfl))
   (@Ad _ _ _ _ _ (JT (BP GK (@A_ _ _ _ _ _ _ _ Bv (pv 2) (@A_ _ _ _ _ _ _ _ Bv (pv 0) Ac (fun _ _=>rfl)) (fun _ _=>rfl)) (pv 1)) (J3 (pv 2) (@A_ _ _ _ _ _ _ _ Bv (pv 0) Ac (fun _ _=>rfl)) set_list))
   (@Ae _ _ _ (@Av _ _ _ _ (pv 4))))))))),?_⟩
  have qd:DQ K H dh _:=.inl (.inl hd)
  refine ⟨_,rfl,dh,_,_,_,rfl,rfl,qd,Aj (j:=0) rfl,?_⟩
  refine ⟨_,rfl,dh,_,_,_,rfl,rfl,qd,Aj (j:=3) rfl,_,_,rfl,rfl,_,rfl,dh,_,3,3,rfl,rfl,hd,rfl,?_⟩
  have d1:upd H dh (HO.lst ([V.ref pc,V.int m,V.int r,V.int (n:Int)].set 3 (V.int ((n:Int)+1)))) dh=some (.lst [V.ref pc,V.int m,V.int r,V.int ((n+1:Nat):Int)]):=Ah
  have f1:YK H (upd H dh (HO.lst ([V.ref pc,V.int m,V.int r,V.int (n:Int)].set 3 (V.int ((n:Int)+1))))) dh pc:=fun b h1 h2=>Ar h1
  have p1:upd H dh (HO.lst ([V.ref pc,V.int m,V.int r,V.int (n:Int)].set 3 (V.int ((n:Int)+1)))) pc=some (.lst (cs.map V.int)):=by rw [Ar (Ne.symm ne)]; exact hp
  generalize upd H dh (HO.lst ([V.ref pc,V.int m,V.int r,V.int (n:Int)].set 3 (V.int ((n:Int)+1))))=H1 at d1 f1 p1 ⊢
  refine Us ?_
  have hlen:(cs.map V.int).length=cs.length:=List.length_map ..
  refine SN (fun σ H4=>σ=[some (.ref dh),some (.int many),some (.ref pc),none,none]/\∃ m,0<=m/\m<=(cs.length:Int)/\H4 dh=some (.lst [V.ref pc,V.int m,V.int r,V.int ((n+1:Nat):Int)])/\H4 pc=some (.lst (cs.map V.int))/\YK H H4 dh pc)
   (fun _ H4=>match H4 dh with | some (.lst [_,.int m,_,_])=>((cs.length:Int) - m).toNat | _=>0) ⟨rfl,m,hm0,hm1,d1,p1,f1⟩ ?_ ?_
  ·rintro σ H4 ⟨rfl,m,hm0,hm1,d4,p4,f4⟩
   have qd:DQ K H4 dh _:=.inl (.inl d4)
   have qc:DQ K H4 pc _:=.inl (.inl p4)
   refine ⟨_,rfl,dh,_,_,_,rfl,rfl,qd,Aj (j:=1) rfl,_,rfl,pc,_,rfl,.inl qc,_,_,rfl,rfl,_,rfl,?_⟩
   refine Cq (fun h1=>?_) (fun h1=>?_)
   ·have h1':m<cs.length:=by have:=of_decide_eq_true h1; omega
    obtain ⟨c,ec,hc,hat⟩:=Lz (ns:=cs) (i:=m) hm0 h1'
    refine ⟨_,rfl,_,rfl,dh,_,_,_,rfl,rfl,qd,Aj (j:=1) rfl,pc,_,_,_,rfl,rfl,qc,hat,rfl,_,rfl,?_⟩
    refine Cq (fun h2=>?_) (fun h2=>?_)
    ·refine ⟨_,rfl,dh,_,_,_,rfl,rfl,qd,Aj (j:=1) rfl,_,_,rfl,rfl,_,rfl,dh,_,1,1,rfl,rfl,d4,rfl,?_⟩
     have d5:upd H4 dh (HO.lst ([V.ref pc,V.int m,V.int r,V.int ((n+1:Nat):Int)].set 1 (V.int (m+1)))) dh=some (.lst [V.ref pc,V.int (m+1),V.int r,V.int ((n+1:Nat):Int)]):=Ah
     refine ⟨⟨rfl,m+1,by omega,by omega,d5,by rw [Ar (Ne.symm ne)]; exact p4,fun b h3 h4=>by rw [Ar h3]; exact f4 b h3 h4⟩,?_⟩
     dsimp only
     rw [d4,d5]
     show ((cs.length:Int) - (m+1)).toNat<((cs.length:Int) - m).toNat
     omega
    ·have hcz:c ≠ 0:=fun z=>h2 (by rw [z]; rfl)
     refine ⟨_,rfl,dh,_,_,_,rfl,rfl,qd,Aj (j:=1) rfl,_,rfl,pc,_,rfl,.inl qc,rfl,_,rfl,?_⟩
     refine Cq (fun h3=>?_) (fun h3=>?_)
     ·have h3':V.int m=V.int ((cs.map V.int).length:Int):=of_decide_eq_true h3
      have:=V.int.inj h3'
      omega
     ·refine ⟨_,rfl,_,rfl,dh,_,_,_,rfl,rfl,qd,Aj (j:=1) rfl,pc,_,_,_,rfl,rfl,qc,hat,_,rfl,_,_,rfl,rfl,hma,?_⟩
      refine ⟨_,rfl,_,rfl,dh,_,_,_,rfl,rfl,qd,Aj (j:=1) rfl,pc,_,_,_,rfl,rfl,qc,hat,_,rfl,_,_,rfl,rfl,⟨hma,hmb⟩,_,rfl,_,rfl,dh,_,_,_,rfl,rfl,qd,Aj (j:=1) rfl,pc,_,_,m.toNat,rfl,rfl,p4,Ti hm0 (by omega),?_⟩
      have l5:upd H4 pc (HO.lst ((cs.map V.int).set m.toNat (V.int (c / many)))) pc=some (.lst ((cs.set m.toNat (c / many)).map V.int)):=by rw [Ah,List.map_set]
      refine ⟨_,rfl,q (c % many) _ (Int.emod_nonneg _ (by omega)) (Int.emod_lt_of_pos _ hma) ⟨cs.set m.toNat (c / many),m,r,by rw [Ar ne]; exact d4,l5,ne,fun x hx=>?_,hm0,by rw [List.length_set]; omega,hr0,hr1,by rw [List.length_set]; exact hl⟩ (fun b h3 h4=>by rw [Ar h4]; exact f4 b h3 h4)⟩
      rcases List.mem_or_eq_of_mem_set hx with h | h
      ·exact hn x h
      ·rw [h]
       exact Int.ediv_nonneg (hn c hc) (by omega)
   ·have h1':¬ m<cs.length:=fun z=>h1 (decide_eq_true (by omega))
    have em:m=((cs.map V.int).length:Int):=by omega
    refine ⟨_,rfl,dh,_,_,_,rfl,rfl,qd,Aj (j:=1) rfl,_,rfl,pc,_,rfl,.inl qc,rfl,_,rfl,?_⟩
    refine Cq (fun h3=>?_) (fun h3=>absurd (decide_eq_true (by rw [em])) h3)
    refine ⟨_,rfl,dh,_,_,_,rfl,rfl,qd,Aj (j:=3) rfl,?_⟩
    refine ⟨_,rfl,dh,_,_,_,rfl,rfl,qd,Aj (j:=2) rfl,_,_,rfl,rfl,.inr ⟨by decide,by decide⟩,_,rfl,_,rfl,_,_,rfl,rfl,.inl ⟨by omega,by omega⟩,_,rfl,_,_,rfl,rfl,.inr ⟨by omega,by omega⟩,_,_,rfl,rfl,_,_,rfl,rfl,_,_,rfl,rfl,(by show (0:Int)<2147483647; decide),_,rfl,dh,_,2,2,rfl,rfl,d4,rfl,?_⟩
    dsimp only
    have hb0:=Int.emod_nonneg (r * 48271+((n+1:Nat):Int) * ((n+1:Nat):Int) * ((n+1:Nat):Int)+1) (show (2147483647:Int) ≠ 0 by decide)
    have hb1:=Int.emod_lt_of_pos (r * 48271+((n+1:Nat):Int) * ((n+1:Nat):Int) * ((n+1:Nat):Int)+1) (show (0:Int)<2147483647 by decide)
    generalize (r * 48271+((n+1:Nat):Int) * ((n+1:Nat):Int) * ((n+1:Nat):Int)+1) % 2147483647=r2 at hb0 hb1 ⊢
    have d5:upd H4 dh (HO.lst ([V.ref pc,V.int m,V.int r,V.int ((n+1:Nat):Int)].set 2 (V.int r2))) dh=some (.lst [V.ref pc,V.int m,V.int r2,V.int ((n+1:Nat):Int)]):=Ah
    have p5:upd H4 dh (HO.lst ([V.ref pc,V.int m,V.int r,V.int ((n+1:Nat):Int)].set 2 (V.int r2))) pc=some (.lst (cs.map V.int)):=by rw [Ar (Ne.symm ne)]; exact p4
    have f5:YK H (upd H4 dh (HO.lst ([V.ref pc,V.int m,V.int r,V.int ((n+1:Nat):Int)].set 2 (V.int r2)))) dh pc:=fun b h3 h4=>by rw [Ar h3]; exact f4 b h3 h4
    generalize upd H4 dh (HO.lst ([V.ref pc,V.int m,V.int r,V.int ((n+1:Nat):Int)].set 2 (V.int r2)))=H5 at d5 p5 f5 ⊢
    have qd5:DQ K H5 dh _:=.inl (.inl d5)
    refine ⟨_,rfl,dh,_,_,_,rfl,rfl,qd5,Aj (j:=2) rfl,_,rfl,dh,_,_,_,rfl,rfl,qd5,Aj (j:=2) rfl,_,_,rfl,rfl,.inl ⟨by omega,by omega⟩,_,_,rfl,rfl,(by show (0:Int)<2147483629; decide),_,_,rfl,rfl,⟨by decide,by decide⟩,_,rfl,_,_,rfl,rfl,hma,?_⟩
    exact q _ _ (Int.emod_nonneg _ (by omega)) (Int.emod_lt_of_pos _ hma) ⟨cs,m,r2,d5,p5,ne,hn,hm0,hm1,hb0,hb1,hl⟩ f5
  ·rintro σ H4 Q1 Q2 hq ⟨v,e1,p,xs,i,z,e2,e3,hs,ha,v2,e4,p2,ys,e5,hy,i2,j2,e6,e7,k,e8,hh⟩
   refine ⟨v,e1,p,xs,i,z,e2,e3,hs,ha,v2,e4,p2,ys,e5,hy,i2,j2,e6,e7,k,e8,?_⟩
   cases k with
   | false =>
    rw [if_neg Bool.false_ne_true] at hh
    exact Bo (hq _ _ hh)
   | true =>
    rw [if_pos rfl] at hh
    obtain ⟨v3,f1,v4,f2,p3,xs3,i3,z3,f3,f4,hs3,ha3,p4,xs4,i4,z4,f5,f6,hs4,ha4,f7,k2,f8,hQ⟩:=hh
    exact Cm ⟨v3,f1,v4,f2,p3,xs3,i3,z3,f3,f4,hs3,ha3,p4,xs4,i4,z4,f5,f6,hs4,ha4,f7,k2,f8,hq _ _ hQ⟩
open Bw
theorem mj {k:Nat} (h:k<12):SJ ("abcdefghijkl" : Str).cps.toList ((k:Nat):Int)=some (97+k):=by
 have e:("abcdefghijkl" : Str).cps.toList=[97,98,99,100,101,102,103,104,105,106,107,108]:=by decide +kernel
 rw [e]
 refine Aj ?_
 match k,h with
 | 0,_=>rfl
 | 1,_=>rfl
 | 2,_=>rfl
 | 3,_=>rfl
 | 4,_=>rfl
 | 5,_=>rfl
 | 6,_=>rfl
 | 7,_=>rfl
 | 8,_=>rfl
 | 9,_=>rfl
 | 10,_=>rfl
 | 11,_=>rfl
theorem Mf {c:Str} (hc:c.length=1) {m:Nat} (hm:m<=8):MulOk c ((m:Nat):Int):=by
 refine ⟨?_,fun _ _=>?_,fun _ _=>?_⟩
 ·rw [Bool.or_eq_false_iff,decide_eq_false_iff_not,decide_eq_false_iff_not]
  omega
 ·rw [hc]
  by_cases h0:m=0
  ·subst h0
   contradiction
  have:(1:Int)<=(2 ^ 63 - 1) / (m:Int):=by
   rw [Int.le_ediv_iff_mul_le (by omega)]
   omega
  show ¬ ((1:Int) > (2 ^ 63 - 1) / (m:Int))
  omega
 ·rw [hc,Int.toNat_natCast]
  have h1:∀ j<9,Builtin.Str.tooLong (1 * j)=false:=by decide +kernel
  exact h1 m (by omega)
theorem HQ {f:Nat->Str} {n:Nat} (h:((List.range n).all fun a=>decide ((f a).length<=100))=true) {a:Nat} (ha:a<n):(f a).length<=100:=by
 rw [List.all_eq_true] at h
 exact of_decide_eq_true (h a (List.mem_range.mpr ha))
theorem Ob {a b:Nat} (h1:a<=200) (h2:b<=200):a+b<=sizeLine:=Nat.le_of_lt (BJ (by omega))
theorem fY {a:Nat} (h:a<5):(Txt.mul "v" (a:Nat)).length<=100:=HQ (f:=fun a=>Txt.mul "v" (a:Nat)) (n:=5) (by decide +kernel) h
theorem dX {a:Nat} (h:a<9):(Txt.mul "o" (a:Nat)).length<=100:=HQ (f:=fun a=>Txt.mul "o" (a:Nat)) (n:=9) (by decide +kernel) h
theorem Zu {a:Nat} (h:a<9):(Txt.mul "b" (a:Nat)).length<=100:=HQ (f:=fun a=>Txt.mul "b" (a:Nat)) (n:=9) (by decide +kernel) h
theorem TV {a:Nat} (h:a<5):(Txt.slice "qrst" none (some (a:Nat))).length<=100:=HQ (f:=fun a=>Txt.slice "qrst" none (some (a:Nat))) (n:=5) (by decide +kernel) h
theorem Yu {a:Nat} (h:a<5):(Txt.slice "qrst" (some (a:Nat)) none).length<=100:=HQ (f:=fun a=>Txt.slice "qrst" (some (a:Nat)) none) (n:=5) (by decide +kernel) h
noncomputable def aA:Sp:=fun vs H Q _=>∃ (kd a k:Nat),vs=[.int (kd:Nat),.int (a:Nat),.int (k:Nat)]/\kd<3/\a<5/\k<12/\Q (.str (Hb kd a k)) H
theorem Zc:Ao ["_law_kind","_law_at","_law_k","_law_letter"] ["_law_kind","_law_at","_law_k"] (Af nO):=Bm
include N T in
theorem Zf:Aw P w K mg base Bg 1 fNa dNa ["_law_kind","_law_at","_law_k"] aA:=by
 refine N.FNa.1.ok Zc (fun vs H Q E h=>?_) (fun cdv A outer s H vs Q E hr h=>?_)
 ·obtain ⟨kd,a,k,rfl,_⟩:=h
  rfl
 ·obtain ⟨kd,a,k,rfl,h1,h2,h3,q⟩:=h
  refine ⟨_,(@Ad _ _ _ _ _ (@Ba _ _ _ _ _ _ 3 Zc.nd rfl (Or.inl rfl) (@A_ _ _ _ _ _ _ _ Ui BR (pv 2) (fun _ _=>rfl)) (by kernel_rfl) (.inl rfl))
   (@Ad _ _ _ _ _ (@Bc _ _ _ _ _ _ _ _ (Az Be (pv 0) Ac (BL _)) (@Ae _ _ _ (@Av _ _ _ _ (BP Ey (pv 3) (BP GX BR (pv 1))))) BW)
   (@Ad _ _ _ _ _ (@Bc _ _ _ _ _ _ _ _ (Az Be (pv 0) Ac (BL _)) (@Ae _ _ _ (@Av _ _ _ _ (BP Ey (BP GX BR (BP Dp Ac (BP CT (pv 2) Ac))) (BP GX BR (BP GK (pv 2) Ac))))) BW)
   (@Ae _ _ _ (@Av _ _ _ _ (BP Ey (BP Ey (Ce Tf BR Dm (DG (pv 1))) (pv 3)) (Ce Tf BR (DG (pv 1)) Dm))))))),?_⟩
  refine ⟨_,rfl,_,_,_,rfl,rfl,Bl (by decide +kernel),mj h3,?_⟩
  refine ⟨_,rfl,rfl,_,rfl,?_⟩
  by_cases k0:kd=0
  ·subst k0
   rw [decide_eq_true (show V.int ((0:Nat):Int)=V.int 0 from rfl)]
   refine Cm ⟨_,rfl,_,rfl,_,_,rfl,rfl,Mf (by decide +kernel) (by omega),_,_,rfl,rfl,Ob (by show 1<=200; decide) (by have:=fY h2; omega),?_⟩
   exact q
  rw [decide_eq_false (fun z=>k0 (by have:=V.int.inj z; omega))]
  refine Bo ⟨_,rfl,rfl,_,rfl,?_⟩
  by_cases k1:kd=1
  ·subst k1
   rw [decide_eq_true (show V.int ((1:Nat):Int)=V.int 1 from rfl)]
   have e1:(1:Int)+((k:Nat):Int) % 6=((1+k % 6:Nat):Int):=by omega
   have e2:((k:Nat):Int) / 6=((k / 6:Nat):Int):=by omega
   refine Cm ⟨_,rfl,_,_,rfl,rfl,(by show (0:Int)<6; decide),_,_,rfl,rfl,_,_,rfl,rfl,(by show MulOk _ ((1:Int)+((k:Nat):Int) % 6); rw [e1]; exact Mf (by decide +kernel) (by omega)),_,rfl,_,_,rfl,rfl,⟨by decide,by decide⟩,_,_,rfl,rfl,(by show MulOk _ (((k:Nat):Int) / 6); rw [e2]; exact Mf (by decide +kernel) (by omega)),_,_,rfl,rfl,?_,?_⟩
   ·rw [e1,e2]
    exact Ob (by have:=dX (a:=1+k % 6) (by omega); omega) (by have:=Zu (a:=k / 6) (by omega); omega)
   ·rw [e1,e2]
    exact q
  rw [decide_eq_false (fun z=>k1 (by have:=V.int.inj z; omega))]
  refine Bo ⟨_,rfl,_,rfl,_,rfl,Bl (by decide +kernel),_,rfl,_,_,rfl,rfl,Ob (by have:=TV h2; omega) (by show 1<=200; decide),_,rfl,_,rfl,_,rfl,Bl (by decide +kernel),_,_,rfl,rfl,Ob (by rw [len_app]; have:=TV h2; show _+1<=200; omega) (by have:=Yu h2; omega),?_⟩
  have e:Hb kd a k=(Txt.slice "qrst" none (some (a:Nat))++ZS k)++Txt.slice "qrst" (some (a:Nat)) none:=by
   unfold Hb
   rw [if_neg k0,if_neg k1]
  rw [e] at q
  exact q
open Bw
theorem o_ {k:Nat} (h:k<3):SJ ("xyz" : Str).cps.toList ((k:Nat):Int)=some (120+k):=by
 have e:("xyz" : Str).cps.toList=[120,121,122]:=by decide +kernel
 rw [e]
 refine Aj ?_
 match k,h with
 | 0,_=>rfl
 | 1,_=>rfl
 | 2,_=>rfl
theorem fM {a:Nat} (h:a<5):(Txt.mul "w" (a:Nat)).length<=100:=HQ (f:=fun a=>Txt.mul "w" (a:Nat)) (n:=5) (by decide +kernel) h
structure c7 (K:PySem.W.Frag) (aB aP aM:Addr):Prop where
 f:Vj K aB aP aM
 mT:∃ t,PySem.W.nsIn K aM "step" = some (some (.int 12 t))
structure RD (K:PySem.W.Frag) (aB aP aM:Addr) (rows:List R) (bs:List (Str × Nat)):Prop where
 bl:Ha K aB aP aM rows bs [] [] [] []
 rb:rows=bs.map GR
 nm:∀ (j:Nat) b,bs[j]? = some b->isNm b.1/\Rz b.1=120+j/\1<=b.2/\b.2<=61/\b.1 ≠ "zz"
theorem RD.new:RD K aB aP aM [] []:=⟨Ha.nil,rfl,fun j b h=>by simp at h⟩
theorem RD.fresh {rows:List R} {bs:List (Str × Nat)} (h:RD K aB aP aM rows bs) {t:Str} (ht:Rz t=120+bs.length):∀ b∈bs,b.1 ≠ t:=fun b hb e=>by
 obtain ⟨j,hj⟩:=List.getElem?_of_mem hb
 have:=(h.nm j b hj).2.1
 have:=(List.getElem?_eq_some_iff.mp hj).1
 rw [e] at *
 omega
theorem RD.app (F:c7 K aB aP aM) {rows:List R} {bs:List (Str × Nat)} (h:RD K aB aP aM rows bs) (hl:bs.length<3) {r m:Nat} (hr:r<3) (h1:1<=m) (h2:m<=61):RD K aB aP aM (rows++[GR (Wn bs.length r,m)]) (bs++[(Wn bs.length r,m)]):=by
 obtain ⟨n1,n2⟩:=YT hl hr
 refine ⟨h.bl.cW F.f n1 (h.fresh n2) (fun _ z=>nomatch z) (fun _ z=>nomatch z) (by omega) h1 h2,by rw [h.rb,List.map_append]; rfl,fun j b hj=>?_⟩
 by_cases hlt:j<bs.length
 ·rw [List.getElem?_append_left hlt] at hj
  exact h.nm j b hj
 ·rw [List.getElem?_append_right (by omega)] at hj
  have e:j - bs.length=0:=by
   cases z:j - bs.length with
   | zero=>rfl
   | succ q=>rw [z] at hj; simp at hj
  rw [e] at hj
  obtain rfl:(Wn bs.length r,m)=b:=by simpa using hj
  have:j=bs.length:=by omega
  subst this
  exact ⟨n1,n2,h1,h2,Xp hl hr⟩
theorem RD.db {rows:List R} {bs:List (Str × Nat)} (h:RD K aB aP aM rows bs):(bs.map (·.1)).Nodup:=by
 have e:(bs.map (·.1)).map Rz=(List.range bs.length).map fun j=>120+j:=by
  rw [List.map_map]
  refine List.ext_getElem? fun j=>?_
  rw [List.getElem?_map,List.getElem?_map]
  by_cases hj:j<bs.length
  ·rw [List.getElem?_range hj,List.getElem?_eq_getElem hj]
   show some (Rz bs[j].1)=some (120+j)
   rw [(h.nm j _ (List.getElem?_eq_getElem hj)).2.1]
  ·rw [List.getElem?_eq_none (by omega),List.getElem?_eq_none (by rw [List.length_range]; omega)]
   rfl
 have nd:((List.range bs.length).map fun j=>120+j).Nodup:=List.pairwise_map.mpr (List.Pairwise.imp (fun {x y} hxy=>by omega) List.pairwise_lt_range)
 rw [← e] at nd
 exact List.Pairwise.of_map Rz (fun x y h z=>h (by rw [z])) nd
theorem RD.rank (F:c7 K aB aP aM) {rows:List R} {bs:List (Str × Nat)} (h:RD K aB aP aM rows bs) (b1:1<=bs.length) (b3:bs.length<=3) {m:Nat} {wi:Int} (h1:1<=m) (h2:m<=97) (h3:0<=wi) (h4:wi<=1000000000) (kd a:Nat) :
  De K aB aP aM kd a 0 4 ⟨rows++[Ge (("u" : Str),m,wi)],bs,[(("u" : Str),m,wi)],[],[],[],[]⟩:=by
 have nb:∀ b∈bs,isNm b.1/\120<=Rz b.1/\1<=b.2/\b.2<=61:=fun b hb=>by
  obtain ⟨j,hj⟩:=List.getElem?_of_mem hb
  obtain ⟨z1,z2,z3⟩:=h.nm j b hj
  exact ⟨z1,by omega,z3.1,z3.2.1⟩
 have hlr:rows.length=bs.length:=by rw [h.rb,List.length_map]
 refine ⟨h.bl.rank F.f V4.1 (fun b hb e=>by have:=(nb b hb).2.1; rw [e,V4.2] at this; omega) (fun _ z=>nomatch z) (fun _ z=>nomatch z) (by decide) h1 h2 h3 h4,fun j b hj=>?_,b1,b3,nb,h.db,⟨m,wi,rfl,h1,h2⟩,?_,rfl,(fun _ z=>nomatch z),List.nodup_nil,Nat.le_refl _,Nat.le_refl _,?_,(fun _ z=>nomatch z),(fun b hb=>by obtain ⟨j,hj⟩:=List.getElem?_of_mem hb; exact (h.nm j b hj).2.2.2.2)⟩
 ·have hj':bs[j]? = some b:=hj
  have hlt:j<bs.length:=(List.getElem?_eq_some_iff.mp hj').1
  show (rows++_)[j]? = _
  rw [List.getElem?_append_left (by omega),h.rb,List.getElem?_map,hj']
  rfl
 ·show (rows++[Ge (("u" : Str),m,wi)]).filter _=[]
  rw [List.filter_eq_nil_iff]
  intro r hr
  rcases List.mem_append.mp hr with z | z
  ·rw [h.rb] at z
   obtain ⟨b,_,rfl⟩:=List.mem_map.mp z
   show ¬ Ej "board" = true
   decide +kernel
  ·rw [List.mem_singleton.mp z]
   show ¬ Ej "rank" = true
   decide +kernel
 ·show (rows++[_]).length<=4
  rw [List.length_append,hlr]
  show bs.length+1<=4
  omega
noncomputable def cJ (K:PySem.W.Frag) (aB aP aM:Addr):Sp:=fun vs H Q _=>∃ (dh pc:Addr) (n:Nat),vs=[.ref dh]/\DH H dh pc n/\n<=1000/\c7 K aB aP aM /\
 ∀ (pR:Addr) (S:Pb) (kd a i n':Nat) H',kd<3->a<5->1<=i->i<=12->De K aB aP aM kd a i (4+3 * i) S->Qs H H' dh pc pR n' S.rows->n'<=n+150->Q (.ref pR) H'
theorem oR {c:TT} {t t2 u:TS} {D:Ends} {σ:St} {H:Hp} (C:Bool->Hp->Prop) (hc:∀ Q:Bool->Hp->Prop,(∀ H1,C true H1->Q true H1)->(∀ H1,C false H1->Q false H1)->c σ H Q) (ht:∀ H1,C true H1->t { D with nx:=u D } σ H1) (hu:∀ H1,C false H1->t2 { D with nx:=u D } σ H1):Yx (WY c t t2) u D σ H :=
 hc _ (fun H1 h=>by rw [if_pos rfl]; exact ht H1 h) (fun H1 h=>by rw [if_neg Bool.false_ne_true]; exact hu H1 h)
theorem o7 {c:TT} {t t2:TS} {D:Ends} {σ:St} {H:Hp} (C:Bool->Hp->Prop) (hc:∀ Q:Bool->Hp->Prop,(∀ H1,C true H1->Q true H1)->(∀ H1,C false H1->Q false H1)->c σ H Q) (ht:∀ H1,C true H1->t D σ H1) (hu:∀ H1,C false H1->t2 D σ H1):WY c t t2 D σ H :=
 hc _ (fun H1 h=>by rw [if_pos rfl]; exact ht H1 h) (fun H1 h=>by rw [if_neg Bool.false_ne_true]; exact hu H1 h)
theorem Vs {sn:List Str} (nd:sn.Nodup) (hne:sn ≠ []) (a z:Nat):∃ t0 ts,(sn.drop a++sn.take a).take (1+z)=t0::ts/\(t0::ts).Nodup/\(∀ t∈t0::ts,t∈sn)/\(t0::ts).length<=sn.length:=by
 have pm:(sn.drop a++sn.take a).Perm sn:=List.perm_append_comm.trans (by rw [List.take_append_drop])
 have hl:(sn.drop a++sn.take a).length=sn.length:=pm.length_eq
 have hpos:0<sn.length:=List.length_pos_iff.mpr hne
 cases e:(sn.drop a++sn.take a).take (1+z) with
 | nil =>
  have:=congrArg List.length e
  rw [List.length_take,hl,List.length_nil] at this
  omega
 | cons t0 ts =>
  refine ⟨t0,ts,rfl,?_,fun t ht=>?_,?_⟩
  ·rw [← e]
   exact List.Nodup.sublist (List.take_sublist _ _) (pm.nodup_iff.mpr nd)
  ·rw [← e] at ht
   exact pm.mem_iff.mp (List.mem_of_mem_take ht)
  ·rw [← e,List.length_take,hl]
   omega
theorem cQ {G:Prop} {K:Hp->Prop} (P:Hp->Prop) (h1:(∀ H,P H->K H)->G) (h2:∀ H,P H->K H):G:=h1 h2
theorem Qu {xs:List V} {k:Nat}:Dn xs (some (k:Int)) none=xs.drop k:=by
 unfold Dn
 have e1:HT.Dg xs.length 0 (some (k:Int))=min k xs.length:=by rw [HT.Du]
 have e2:HT.Dg xs.length xs.length none=xs.length:=rfl
 rw [e1,e2]
 by_cases h:k<=xs.length
 ·rw [Nat.min_eq_left h,List.take_of_length_le (by rw [List.length_drop]; omega)]
 ·rw [Nat.min_eq_right (by omega),List.drop_of_length_le (by omega),List.drop_of_length_le (by omega),List.take_nil]
theorem Lf {xs:List V} {k:Nat}:Dn xs none (some (k:Int))=xs.take k:=by
 unfold Dn
 have e1:HT.Dg xs.length 0 none=0:=rfl
 have e2:HT.Dg xs.length xs.length (some (k:Int))=min k xs.length:=by rw [HT.Du]
 rw [e1,e2,List.drop_zero,Nat.sub_zero]
 by_cases h:k<=xs.length
 ·rw [Nat.min_eq_left h]
 ·rw [Nat.min_eq_right (by omega),List.take_length,List.take_of_length_le (by omega)]
theorem U_ {H:Hp} {rows:List R} {vs:List V} (p:Paired (fun (r:R) v=>TupAt H r.v v) rows vs):(vs.filter (pw (Gf H) "mute")).length=(rows.filter fun r=>decide (V.str r.w=V.str "mute")).length:=by
 rw [← Js p,List.filter_map,List.length_map]
 rfl
theorem JB {H:Hp} {rows:List R} {vs:List V} (p:Paired (fun (r:R) v=>TupAt H r.v v) rows vs):Rows H (Gf H) vs:=fun v hv=>by
 obtain ⟨r,_,h⟩:=CZ p hv
 rw [Hv h]
 exact h
theorem Jh:Ao ["_law_drawn_here","_law_boards","_law_kind","_law_at","_law_rows","_law_k","_law_stops","_law_board","_law_way","_law_name_here","_law_turn"] ["_law_drawn_here"] (Af gq):=Bm
include N T in
theorem Z4:Aw P w K mg base Bg 3 fLg dLg ["_law_drawn_here"] (cJ K aB aP aM):=by
 have GDw:Aw P w K mg base Bg 1 fDw dDw ["_law_drawn_here","_law_many"] fu:=fO N T
 have GNa:Aw P w K mg base Bg 1 fNa dNa ["_law_kind","_law_at","_law_k"] aA:=Zf N T
 refine N.FLg.1.ok Jh (fun vs H Q E h=>?_) (fun cdv A outer s H vs Q E hr h=>?_)
 ·obtain ⟨dh,pc,n,rfl,_⟩:=h
  rfl
 ·obtain ⟨dh,pc,n,rfl,D,hn,F,q⟩:=h
  have hrDw:BX 1 _:=hr.mono (by decide)
  have hrNa:BX 1 _:=hr.mono (by decide)
  have hu:=CN hr
  refine ⟨_,(@Ad _ _ _ _ _ (@Ba _ _ _ _ _ _ 1 Jh.nd rfl (Or.inl rfl) (BP Dp Ac (Al GDw hrDw rfl N.FDw.2.2 N.FDw.1.kp N.FDw.2.1 .nil Ay (@Am _ _ _ _ _ rfl (pv 0) (@Am _ _ _ _ _ rfl Ac Aa)))) (by kernel_rfl) (.inl rfl))
   (@Ad _ _ _ _ _ (@Ba _ _ _ _ _ _ 2 Jh.nd rfl (Or.inl rfl) (Al GDw hrDw rfl N.FDw.2.2 N.FDw.1.kp N.FDw.2.1 .nil Ay (@Am _ _ _ _ _ rfl (pv 0) (@Am _ _ _ _ _ rfl Ac Aa))) (by kernel_rfl) (.inl rfl))
   (@Ad _ _ _ _ _ (@Ba _ _ _ _ _ _ 3 Jh.nd rfl (Or.inl rfl) (Al GDw hrDw rfl N.FDw.2.2 N.FDw.1.kp N.FDw.2.1 .nil Ay (@Am _ _ _ _ _ rfl (pv 0) (@Am _ _ _ _ _ rfl Ac Aa))) (by kernel_rfl) (.inl rfl))
   (@Ad _ _ _ _ _ (@Ba _ _ _ _ _ _ 4 Jh.nd rfl (Or.inl rfl) (@Dz _ _ _ _ Aa) (by kernel_rfl) (.inl rfl))
   (@Ad _ _ _ _ _ (Ef PassesOwn.never rfl (Fq rfl T.range (@Am _ _ _ _ _ rfl (pv 1) Aa)) (B_ (i:=5) Jh.nd rfl (Or.inl rfl)) (@Ae _ _ _ (CK (El PySem.F.plainAttrs_list PySem.F.slot_list_append PySem.F.type_list_append Br (pv 4) (@Am _ _ _ _ _ rfl (@Bt _ _ _ _ _ (@Am _ _ _ _ _ rfl BR (@Am _ _ _ _ _ rfl (BP Ey (@A_ _ _ _ _ _ _ _ Ui BR (pv 5) (fun _ _=>rfl)) (BP GX BR (Al GDw hrDw rfl N.FDw.2.2 N.FDw.1.kp N.FDw.2.1 .nil Ay (@Am _ _ _ _ _ rfl (pv 0) (@Am _ _ _ _ _ rfl Ac Aa))))) (@Am _ _ _ _ _ rfl (BP Dp Ac (Al GDw hrDw rfl N.FDw.2.2 N.FDw.1.kp N.FDw.2.1 .nil Ay (@Am _ _ _ _ _ rfl (pv 0) (@Am _ _ _ _ _ rfl Ac Aa)))) Aa)))) Aa)))))
   (@Ad _ _ _ _ _ (CK (El PySem.F.plainAttrs_list PySem.F.slot_list_append PySem.F.type_list_append Br (pv 4) (@Am _ _ _ _ _ rfl (@Bt _ _ _ _ _ (@Am _ _ _ _ _ rfl BR (@Am _ _ _ _ _ rfl BR (@Am _ _ _ _ _ rfl (BP Dp Ac (Al GDw hrDw rfl N.FDw.2.2 N.FDw.1.kp N.FDw.2.1 .nil Ay (@Am _ _ _ _ _ rfl (pv 0) (@Am _ _ _ _ _ rfl Ac Aa)))) (@Am _ _ _ _ _ rfl (Al GDw hrDw rfl N.FDw.2.2 N.FDw.1.kp N.FDw.2.1 .nil Ay (@Am _ _ _ _ _ rfl (pv 0) (@Am _ _ _ _ _ rfl Ac Aa))) Aa))))) Aa)))
   (@Ad _ _ _ _ _ (@Ba _ _ _ _ _ _ 6 Jh.nd rfl (Or.inl rfl) (@Dz _ _ _ _ Aa) (by kernel_rfl) (.inl rfl))
   (@Ad _ _ _ _ _ (Ef PassesOwn.never rfl (Fq rfl T.range (@Am _ _ _ _ _ rfl (BP Dp Ac (Al GDw hrDw rfl N.FDw.2.2 N.FDw.1.kp N.FDw.2.1 .nil Ay (@Am _ _ _ _ _ rfl (pv 0) (@Am _ _ _ _ _ rfl Ac Aa)))) Aa)) (B_ (i:=5) Jh.nd rfl (Or.inl rfl)) (@Ad _ _ _ _ _ (@Ba _ _ _ _ _ _ 7 Jh.nd rfl (Or.inl rfl) (@A_ _ _ _ _ _ _ _ (An (K:=K) rfl) (@A_ _ _ _ _ _ _ _ (Fo (K:=K) rfl) (pv 4) (Al GDw hrDw rfl N.FDw.2.2 N.FDw.1.kp N.FDw.2.1 .nil Ay (@Am _ _ _ _ _ rfl (pv 0) (@Am _ _ _ _ _ rfl (pv 1) Aa))) (fun _ _=>rfl)) Ac (fun _ _=>rfl)) (by kernel_rfl) (.inl rfl))
   (@Ad _ _ _ _ _ (@Ba _ _ _ _ _ _ 8 Jh.nd rfl (Or.inl rfl) (Al GDw hrDw rfl N.FDw.2.2 N.FDw.1.kp N.FDw.2.1 .nil Ay (@Am _ _ _ _ _ rfl (pv 0) (@Am _ _ _ _ _ rfl Ac Aa))) (by kernel_rfl) (.inl rfl))
   (@Ad _ _ _ _ _ (@Ba _ _ _ _ _ _ 9 Jh.nd rfl (Or.inl rfl) (Al GNa hrNa rfl N.FNa.2.2 N.FNa.1.kp N.FNa.2.1 .nil Ay (@Am _ _ _ _ _ rfl (pv 2) (@Am _ _ _ _ _ rfl (pv 3) (@Am _ _ _ _ _ rfl (pv 5) Aa)))) (by kernel_rfl) (.inl rfl))
   (@Ad _ _ _ _ _ (@Bc _ _ _ _ _ _ _ _ (PW.pt (JH (Az Be (pv 8) Ac (BL _)) (HW (Az Jg (BK BZ rfl T.len PySem.boot_len (@Am _ _ _ _ _ rfl (Bk rfl (Bb (osc:=Af gq) (N:=["_law_drawn_here","_law_boards","_law_kind","_law_at","_law_rows","_law_k","_law_stops","_law_board","_law_way","_law_name_here","_law_turn"]) rfl rfl (by decide +kernel)) (Bq (pv 4)) (fun _ _ _ _=>(Hn (Az Be (@A_ _ _ _ _ _ _ _ (An (K:=K) rfl) (pv 0) Ac (fun _ _=>rfl)) BR (BL _)))) (fun _ _ _ _=>(pv 0))) Aa)) Ac (BL _))))) (@Ae _ _ _ (CK (El PySem.F.plainAttrs_list PySem.F.slot_list_append PySem.F.type_list_append Br (pv 4) (@Am _ _ _ _ _ rfl (@Bt _ _ _ _ _ (@Am _ _ _ _ _ rfl BR (@Am _ _ _ _ _ rfl (pv 9) (@Am _ _ _ _ _ rfl (pv 7) Aa)))) Aa)))) (@Ae _ _ _ (@Bc _ _ _ _ _ _ _ _ (Az Jg (pv 8) Ac (BL _)) (@Ae _ _ _ (CK (El PySem.F.plainAttrs_list PySem.F.slot_list_append PySem.F.type_list_append Br (pv 4) (@Am _ _ _ _ _ rfl (@Bt _ _ _ _ _ (@Am _ _ _ _ _ rfl BR (@Am _ _ _ _ _ rfl (pv 9) (@Am _ _ _ _ _ rfl (pv 7) (@Am _ _ _ _ _ rfl (@A_ _ _ _ _ _ _ _ (An (K:=K) rfl) (@A_ _ _ _ _ _ _ _ (Fo (K:=K) rfl) (pv 4) (Al GDw hrDw rfl N.FDw.2.2 N.FDw.1.kp N.FDw.2.1 .nil Ay (@Am _ _ _ _ _ rfl (pv 0) (@Am _ _ _ _ _ rfl (pv 1) Aa))) (fun _ _=>rfl)) Ac (fun _ _=>rfl)) (@Am _ _ _ _ _ rfl (BP JR (Al GDw hrDw rfl N.FDw.2.2 N.FDw.1.kp N.FDw.2.1 .nil Ay (@Am _ _ _ _ _ rfl (pv 0) (@Am _ _ _ _ _ rfl Ac Aa))) Ac) Aa)))))) Aa)))) (@Ad _ _ _ _ _ (CK (El PySem.F.plainAttrs_list PySem.F.slot_list_append PySem.F.type_list_append Br (pv 6) (@Am _ _ _ _ _ rfl (pv 9) Aa)))
   (@Ad _ _ _ _ _ (CK (El PySem.F.plainAttrs_list PySem.F.slot_list_append PySem.F.type_list_append Br (pv 4) (@Am _ _ _ _ _ rfl (@Bt _ _ _ _ _ (@Am _ _ _ _ _ rfl BR (@Am _ _ _ _ _ rfl (pv 9) (@Am _ _ _ _ _ rfl (pv 7) Aa)))) Aa)))
   (@Ae _ _ _ (@Bc _ _ _ _ _ _ _ _ (Az Be (pv 8) Ac (BL _)) (@Ae _ _ _ (CK (El PySem.F.plainAttrs_list PySem.F.slot_list_append PySem.F.type_list_append Br (pv 4) (@Am _ _ _ _ _ rfl (@Bt _ _ _ _ _ (@Am _ _ _ _ _ rfl BR (@Am _ _ _ _ _ rfl BR (@Am _ _ _ _ _ rfl Ac (@Am _ _ _ _ _ rfl Ac (@Am _ _ _ _ _ rfl Ac Aa)))))) Aa)))) BW)))))))
   (@Ae _ _ _ (@Bc _ _ _ _ _ _ _ _ (PW.pt (JH (Az (NT (Nat.lt_of_succ_lt hu)) (pv 6) (@Dz _ _ _ _ Aa) (BL _)) (HW (Az Be (Al GDw hrDw rfl N.FDw.2.2 N.FDw.1.kp N.FDw.2.1 .nil Ay (@Am _ _ _ _ _ rfl (pv 0) (@Am _ _ _ _ _ rfl Ac Aa))) Ac (BL _))))) (@Ad _ _ _ _ _ (@Ba _ _ _ _ _ _ 10 Jh.nd rfl (Or.inl rfl) (Al GDw hrDw rfl N.FDw.2.2 N.FDw.1.kp N.FDw.2.1 .nil Ay (@Am _ _ _ _ _ rfl (pv 0) (@Am _ _ _ _ _ rfl (BK BZ rfl T.len PySem.boot_len (@Am _ _ _ _ _ rfl (pv 6) Aa)) Aa))) (by kernel_rfl) (.inl rfl))
   (@Ae _ _ _ (CK (El PySem.F.plainAttrs_list PySem.F.slot_list_append PySem.F.type_list_append Br (pv 4) (@Am _ _ _ _ _ rfl (HD Kg rfl T.tuple PyProof.Rows.boot_tuple (@Am _ _ _ _ _ rfl (BP PL (@Dz _ _ _ _ (@Am _ _ _ _ _ rfl BR Aa)) (Ce FJ (BP PL (Ce FJ (pv 6) (DG (pv 10)) Dm) (Ce FJ (pv 6) Dm (DG (pv 10)))) Dm (DG (BP Dp Ac (Al GDw hrDw rfl N.FDw.2.2 N.FDw.1.kp N.FDw.2.1 .nil Ay (@Am _ _ _ _ _ rfl (pv 0) (@Am _ _ _ _ _ rfl Ac Aa))))))) Aa)) Aa))))) BW)))))))
   (@Ae _ _ _ (@Av _ _ _ _ (pv 4))))))))))),?_⟩
  refine ⟨_,rfl,dh,pc,n,3,rfl,D,by omega,by decide,by decide,fun x0 H1 x00 x01 D1 f1=>⟨_,_,rfl,rfl,?_⟩⟩
  refine ⟨_,rfl,dh,pc,_,3,rfl,D1,by omega,by decide,by decide,fun x1 H2 x10 x11 D2 f2=>?_⟩
  refine ⟨_,rfl,dh,pc,_,5,rfl,D2,by omega,by decide,by decide,fun x2 H3 x20 x21 D3 f3=>?_⟩
  obtain ⟨nb,rfl⟩:∃ m:Nat,x0=(m:Int):=⟨x0.toNat,by omega⟩
  obtain ⟨kd,rfl⟩:∃ m:Nat,x1=(m:Int):=⟨x1.toNat,by omega⟩
  obtain ⟨at_,rfl⟩:∃ m:Nat,x2=(m:Int):=⟨x2.toNat,by omega⟩
  have F3:Jj H H3 dh pc:=(Jj.of2 f1).trans ((Jj.of2 f2).trans (Jj.of2 f3))
  refine ⟨Bl (by simp),fun pR hpR=>?_⟩
  obtain ⟨a1,a2⟩:=DH.gb D3 hpR
  have h0:H pR=none:=F3.free hpR a1 a2
  have R0:Qs H (upd H3 pR (HO.lst [])) dh pc pR (n+3) []:=⟨⟨[],Ah,.nil⟩,D3.upd a1 a2,F3.put h0,a1,a2,h0⟩
  generalize upd H3 pR (HO.lst [])=H4 at R0 ⊢
  have adv:∀ m:Nat,(fun i j:Int=>V.int (i+j)) 1 ((m:Nat):Int)=V.int (((1+m:Nat)):Int):=fun m=>by
   show V.int (1+(m:Int))=_
   congr 1
  rw [adv nb]
  have e0:∀ i:Nat,(0:Int)+(i:Int)=((i:Nat):Int):=fun i=>by omega
  refine ⟨_,rfl,_,rfl,by omega,by omega,JQ (lo:=0) (n:=1+nb) (fun i σ H'=>∃ (rows:List R) (bs:List (Str × Nat)) (v5:Option V),Qs H H' dh pc pR (n+3+2 * i) rows/\RD K aB aP aM rows bs/\bs.length=i/\σ=[some (.ref dh),some (.int ((1+nb:Nat):Int)),some (.int (kd:Nat)),some (.int (at_:Nat)),some (.ref pR),v5,none,none,none,none,none]) ⟨[],[],_,R0,RD.new,rfl,rfl⟩ ?_ ?_⟩
  ·rintro i σ H5 hi ⟨rows,bs,v5,R5,B5,hl,rfl⟩
   rw [e0]
   obtain ⟨vs,e5,p5⟩:=R5.r
   have hi3:i<3:=by omega
   refine ⟨_,rfl,.inl ⟨rfl,_,.inl (.inl e5)⟩,_,rfl,_,_,_,rfl,rfl,Bl (by decide +kernel),o_ hi3,_,rfl,dh,pc,_,3,rfl,R5.d,by omega,by decide,by decide,fun r H6 r0 r1 D6 f6=>?_⟩
   obtain ⟨r,rfl⟩:∃ m:Nat,r=(m:Int):=⟨r.toNat,by omega⟩
   refine ⟨_,_,rfl,rfl,Mf (by decide +kernel) (by omega),_,_,rfl,rfl,Ob (by show 1<=200; decide) (by have:=fM (a:=r) (by omega); omega),?_⟩
   refine ⟨_,rfl,dh,pc,_,61,rfl,D6,by omega,by decide,by decide,fun m H7 m0 m1 D7 f7=>⟨_,_,rfl,rfl,?_⟩⟩
   obtain ⟨m,rfl⟩:∃ z:Nat,m=(z:Int):=⟨m.toNat,by omega⟩
   rw [adv m]
   have R7:=(R5.fr f6 D6).fr f7 D7
   obtain ⟨vs7,e7,p7⟩:=R7.r
   refine ⟨by show 3<=sizeLine; decide,fun T8 hT8=>?_⟩
   obtain ⟨H8,eqH,s8,t8⟩:=Ds (o:=HO.tup [V.str "board",.str ((⟨#[120+i]⟩:Str)++Txt.mul "w" (r:Nat)),.int ((1+m:Nat):Int)]) hT8
   rw [eqH]
   have R8:=R7.same s8
   have e8:=s8 _ _ e7
   have lv:vs7.length=rows.length:=p7.length.symm
   have lrb:rows.length=bs.length:=by rw [B5.rb,List.length_map]
   refine ⟨pR,vs7,_,rfl,rfl,e8,BJ (by omega),?_⟩
   have R9:=R8.app e8 (r:=GR (Wn bs.length r,1+m)) (v:=.ref T8) ⟨T8,rfl,by rw [t8,hl]; rfl⟩
   exact ⟨_,_,_,R9,B5.app F (by omega) (by omega) (by omega) (by omega),by rw [List.length_append,hl]; rfl,rfl⟩
  rintro σ H5 ⟨rows,bs,v5,R5,B5,hl,rfl⟩
  obtain ⟨vs,e5,p5⟩:=R5.r
  refine ⟨_,rfl,.inl ⟨rfl,_,.inl (.inl e5)⟩,_,rfl,dh,pc,_,97,rfl,R5.d,by omega,by decide,by decide,fun m H6 m0 m1 D6 f6=>⟨_,_,rfl,rfl,?_⟩⟩
  obtain ⟨m,rfl⟩:∃ z:Nat,m=(z:Int):=⟨m.toNat,by omega⟩
  rw [adv m]
  refine ⟨_,rfl,dh,pc,_,9,rfl,D6,by omega,by decide,by decide,fun wi H7 w0 w1 D7 f7=>?_⟩
  have R7:=(R5.fr f6 D6).fr f7 D7
  obtain ⟨vs7,e7,p7⟩:=R7.r
  refine ⟨by show 4<=sizeLine; decide,fun T8 hT8=>?_⟩
  obtain ⟨H8,eqH,s8,t8⟩:=Ds (o:=HO.tup [V.str "rank",.str "u",.int ((1+m:Nat):Int),.int wi]) hT8
  rw [eqH]
  have R8:=R7.same s8
  have e8:=s8 _ _ e7
  have lv:vs7.length=rows.length:=p7.length.symm
  have lrb:rows.length=bs.length:=by rw [B5.rb,List.length_map]
  refine ⟨pR,vs7,_,rfl,rfl,e8,BJ (by omega),?_⟩
  have R9:=R8.app e8 (r:=Ge (("u" : Str),1+m,wi)) (v:=.ref T8) ⟨T8,rfl,t8⟩
  have C9:=B5.rank F (by omega) (by omega) (m:=1+m) (wi:=wi) (by omega) (by omega) w0 (by omega) kd at_
  generalize upd H8 pR (HO.lst (vs7++[V.ref T8]))=H9 at R9 ⊢
  clear R8 e8 s8 t8 hT8 R7 e7 p7 D7 f7 D6 f6 R5 e5 p5 R0 B5
  refine ⟨Bl (by simp),fun pT hpT=>?_⟩
  obtain ⟨c1,c2⟩:=DH.gb R9.d hpT
  have T0:Oe H (upd H9 pT (HO.lst [])) dh pc pR pT (n+3+2 * (1+nb)+2) (rows++[Ge (("u" : Str),1+m,wi)]) []:=by
   obtain ⟨vs9,e9,_⟩:=R9.r
   have n3:pT ≠ pR:=fun z=>by rw [z,e9] at hpT; cases hpT
   exact ⟨R9.same (Ax hpT),Ah,c1,c2,n3,R9.f.free hpT c1 c2⟩
  generalize upd H9 pT (HO.lst [])=H10 at T0 ⊢
  clear R9 hpT
  refine ⟨_,rfl,dh,pc,_,12,rfl,T0.s.d,by omega,by decide,by decide,fun x H11 x0 x1 D11 f11=>⟨_,_,rfl,rfl,?_⟩⟩
  obtain ⟨ni,rfl⟩:∃ z:Nat,x=(z:Int):=⟨x.toNat,by omega⟩
  rw [adv ni]
  have T1:=T0.fr f11 D11
  refine ⟨_,rfl,by omega,by omega,JQ (lo:=0) (n:=1+ni) (fun i σ H'=>∃ (S:Pb) (k:Nat) (v5 v7 v8 v9 v10:Option V),Oe H H' dh pc pR pT k S.rows S.sn/\k<=n+20+10 * i/\De K aB aP aM kd at_ i (4+3 * i) S/\S.bs.length=1+nb/\σ=[some (.ref dh),some (.int ((1+nb:Nat):Int)),some (.int (kd:Nat)),some (.int (at_:Nat)),some (.ref pR),v5,some (.ref pT),v7,v8,v9,v10]) ⟨⟨_,bs,_,[],[],[],[]⟩,_,_,_,_,_,_,T1,by omega,C9,hl,rfl⟩ ?_ ?_⟩
  ·rintro i σ H12 hi ⟨S,k,v5,v7,v8,v9,v10,T2,hk,O2,hb,rfl⟩
   clear T0 T1 C9 D11 f11
   have hi12:i<12:=by omega
   rw [e0]
   refine ⟨_,rfl,_,rfl,_,rfl,dh,pc,_,_,rfl,T2.s.d,by omega,(by show (0:Int)<((1+nb:Nat):Int); omega),(by show (((1+nb:Nat):Int))<1073741824; omega),fun j H13 j0 j1 D13 f13=>?_⟩
   obtain ⟨j,rfl⟩:∃ z:Nat,j=(z:Int):=⟨j.toNat,by omega⟩
   have T3:=T2.fr f13 D13
   obtain ⟨vs,e13,p13⟩:=T3.s.r
   have hjb:j<S.bs.length:=by omega
   obtain ⟨b,hbj⟩:∃ b,S.bs[j]? = some b:=⟨_,List.getElem?_eq_getElem hjb⟩
   obtain ⟨yb,eyb,Tb,rfl,tb⟩:=Et p13 (O2.rb j b hbj)
   have bmem:=List.mem_of_getElem? hbj
   refine ⟨pR,vs,_,_,rfl,rfl,.inl (.inl e13),Aj eyb,Tb,_,_,_,rfl,rfl,.inl (.inl tb),Aj (j:=1) rfl,?_⟩
   refine ⟨_,rfl,dh,pc,_,6,rfl,D13,by omega,by decide,by decide,fun wy H14 wy0 wy1 D14 f14=>?_⟩
   have T4:=T3.fr f14 D14
   refine ⟨_,rfl,_,rfl,_,rfl,kd,at_,i,rfl,by omega,by omega,hi12,?_⟩
   clear T2 T3 vs e13 p13 eyb tb D13 f13 f14
   have nm1:=(JG (JP (show kd<3 by omega) (show at_<5 by omega) hi12)).1
   have fb:=O2.fb (show kd<3 by omega) (show at_<5 by omega) hi12
   have fr:=O2.fr (show kd<3 by omega) (show at_<5 by omega) hi12
   have fk:=O2.fk (show kd<3 by omega) (show at_<5 by omega) hi12
   have sbb:=O2.sb b bmem
   have lk:=O2.lk
   have lr:=O2.lr
   obtain ⟨H15,eH⟩:∃ H15,H15=H14:=⟨_,rfl⟩
   rw [← eH] at T4 D14 ⊢
   clear eH
   show Ez 9 (V.str (Hb kd at_ i)) _ H15 _
   unfold Ez
   dsimp only
   apply cQ (P:=fun H'=>∃ (S':Pb) (k':Nat),Oe H H' dh pc pR pT k' S'.rows S'.sn/\k'<=k+5/\De K aB aP aM kd at_ (i+1) (4+3 * i+2) S'/\S'.bs=S.bs/\S'.sts=S.sts)
   case h1 =>
    intro rest
    obtain ⟨vs,e15,p15⟩:=T4.s.r
    have lv:vs.length=S.rows.length:=p15.length.symm
    have hS15:DQ K H15 pR vs:=.inl (.inl e15)
    refine oR (fun bt H2=>Ak H15 H2/\(bt=true->(S.ks.filter fun r=>decide (V.str r.w=V.str "mute")).length<5)) (fun Q' qt qf=>?_) (fun H16 hC=>?_) (fun H16 hC=>?_)
    ·refine ⟨_,rfl,rfl,_,rfl,Cq (fun w0=>?_) (fun _=>qf _ ⟨Ak.refl _,fun z=>nomatch z⟩)⟩
     refine ⟨_,rfl,pR,rfl,⟨_,hS15⟩,Cv (K:=K) (xs:=vs) (pw (Gf H15) "mute") id hS15 (BJ (by omega)) (fun y hy Hx hs R kk=>?_) (fun y hy _ Hx hs R kk=>⟨_,rfl,kk Hx (Ak.refl Hx)⟩) (fun D6 H6 hD6 s6 hl6=>?_)⟩
     ·obtain ⟨T0,rfl,hT⟩:=((JB p15) y hy).mono hs
      exact ⟨_,rfl,T0,_,_,_,rfl,rfl,.inl (.inl hT),Aj (j:=0) rfl,rfl,_,rfl,kk Hx (Ak.refl Hx)⟩
     rw [List.map_id] at hl6
     refine ⟨D6,_,rfl,.inl (.inl (.inl hl6)),_,_,rfl,rfl,_,rfl,?_⟩
     have ec:=(U_ p15).trans O2.Uk
     by_cases h5:(S.ks.filter fun r=>decide (V.str r.w=V.str "mute")).length<5
     ·rw [decide_eq_true (show (((vs.filter (pw (Gf H15) "mute")).length:Nat):Int)<5 by rw [ec]; omega)]
      exact qt _ ⟨s6,fun _=>h5⟩
     ·rw [decide_eq_false (show ¬ (((vs.filter (pw (Gf H15) "mute")).length:Nat):Int)<5 by rw [ec]; omega)]
      exact qf _ ⟨s6,fun z=>nomatch z⟩
    ·obtain ⟨s16,hm5⟩:=hC
     have h5:=hm5 rfl
     have T6:=T4.same s16
     have e16:=s16 _ _ e15
     refine ⟨_,rfl,.inl ⟨rfl,_,.inl (.inl e16)⟩,_,rfl,_,rfl,by show 3<=sizeLine; decide,fun T7 hT7=>?_⟩
     obtain ⟨H17,eqH,s7,t7⟩:=Ds (o:=HO.tup [V.str "mute",.str (Hb kd at_ i),.str b.1]) hT7
     rw [eqH]
     refine ⟨pR,vs,_,rfl,rfl,s7 _ _ e16,BJ (by omega),?_⟩
     have hB:=O2.bl.plain F.f (wd:="mute") (.inr rfl) nm1 fb fr fk (by rw [show Ky "mute" = 5 by decide +kernel]; exact h5) sbb.1 (n:=b.2) bmem
     have R7:=(T6.same s7).app (s7 _ _ e16) (r:=⟨"mute",Hb kd at_ i,[.str b.1]⟩) (v:=.ref T7) ⟨T7,rfl,t7⟩
     have O3:=O2.Yl (r:=⟨"mute",Hb kd at_ i,[.str b.1]⟩) (by show Ej "mute" = true; decide +kernel) rfl ⟨b,bmem,_,rfl⟩ hB
     exact rest _ ⟨_,_,R7,by omega,O3.le (by omega),rfl,rfl⟩
    ·obtain ⟨s16,_⟩:=hC
     have T6:=T4.same s16
     have e16:=s16 _ _ e15
     refine ⟨_,rfl,_,_,rfl,rfl,_,rfl,Cq (fun w3=>?_) (fun w3=>?_)⟩
     ·refine ⟨_,rfl,.inl ⟨rfl,_,.inl (.inl e16)⟩,_,rfl,_,rfl,_,rfl,_,rfl,_,rfl,dh,pc,_,_,rfl,T6.s.d,by omega,(by show (0:Int)<((1+nb:Nat):Int); omega),(by show (((1+nb:Nat):Int))<1073741824; omega),fun g H17 g0 g1 D17 f17=>?_⟩
      obtain ⟨g,rfl⟩:∃ z:Nat,g=(z:Int):=⟨g.toNat,by omega⟩
      have T7:=T6.fr f17 D17
      obtain ⟨vs7,e17,p17⟩:=T7.s.r
      have lv7:vs7.length=S.rows.length:=p17.length.symm
      obtain ⟨b2,hb2⟩:∃ b,S.bs[g]? = some b:=⟨_,List.getElem?_eq_getElem (by omega)⟩
      obtain ⟨yg,eyg,Tg,rfl,tg⟩:=Et p17 (O2.rb g b2 hb2)
      have sb2:=O2.sb b2 (List.mem_of_getElem? hb2)
      refine ⟨pR,vs7,_,_,rfl,rfl,.inl (.inl e17),Aj eyg,Tg,_,_,_,rfl,rfl,.inl (.inl tg),Aj (j:=1) rfl,?_⟩
      refine ⟨_,rfl,dh,pc,_,121,rfl,D17,by omega,by decide,by decide,fun sh H18 sh0 sh1 D18 f18=>⟨_,_,rfl,rfl,?_⟩⟩
      have T8:=T7.fr f18 D18
      obtain ⟨vs8,e18,p18⟩:=T8.s.r
      have lv8:vs8.length=S.rows.length:=p18.length.symm
      refine ⟨by show 5<=sizeLine; decide,fun T9 hT9=>?_⟩
      have s9:=Ax (o:=HO.tup [V.str "coupler",.str (Hb kd at_ i),.str b.1,.str b2.1,.int (sh - 60)]) hT9
      have t9:upd H18 T9 (HO.tup [V.str "coupler",.str (Hb kd at_ i),.str b.1,.str b2.1,.int (sh - 60)]) T9=some (.tup [V.str "coupler",.str (Hb kd at_ i),.str b.1,.str b2.1,.int (sh - 60)]):=Ah
      refine ⟨pR,vs8,_,rfl,rfl,s9 _ _ e18,BJ (by omega),?_⟩
      have hB:=O2.bl.Wi F.f nm1 fb fr fk (QL (by omega)) sbb.1 (n:=b.2) bmem sb2.1 (m:=b2.2) (List.mem_of_getElem? hb2) (s:=sh - 60) (by omega) (by omega)
      have R9:=(T8.same s9).app (s9 _ _ e18) (r:=⟨"coupler",Hb kd at_ i,[.str b.1,.str b2.1,.int (sh - 60)]⟩) (v:=.ref T9) ⟨T9,rfl,t9⟩
      have O3:=O2.Yl (r:=⟨"coupler",Hb kd at_ i,[.str b.1,.str b2.1,.int (sh - 60)]⟩) (by show Ej "coupler" = true; decide +kernel) rfl ⟨b,bmem,_,rfl⟩ hB
      exact rest _ ⟨_,_,R9,by omega,O3.le (by omega),rfl,rfl⟩
     ·have lsn:=O2.sl
      refine ⟨_,rfl,.inl ⟨rfl,_,.inl (.inl T6.t)⟩,_,rfl,pT,_,_,rfl,rfl,T6.t,BJ (by rw [List.length_map]; omega),?_⟩
      have T7:=T6.nj (Hb kd at_ i)
      generalize upd H16 pT (HO.lst (S.sn.map V.str++[.str (Hb kd at_ i)]))=H17 at T7 ⊢
      obtain ⟨vs7,e17,p17⟩:=T7.s.r
      have lv7:vs7.length=S.rows.length:=p17.length.symm
      refine ⟨_,rfl,.inl ⟨rfl,_,.inl (.inl e17)⟩,_,rfl,_,rfl,by show 3<=sizeLine; decide,fun T8 hT8=>?_⟩
      obtain ⟨H18,eqH,s8,t8⟩:=Ds (o:=HO.tup [V.str "stop",.str (Hb kd at_ i),.str b.1]) hT8
      rw [eqH]
      refine ⟨pR,vs7,_,rfl,rfl,s8 _ _ e17,BJ (by omega),?_⟩
      have hB:=O2.bl.plain F.f (wd:="stop") (.inl rfl) nm1 fb fr fk (by rw [show Ky "stop" = 24 by decide +kernel]; exact QL (by omega)) sbb.1 (n:=b.2) bmem
      have R8:=(T7.same s8).app (s8 _ _ e17) (r:=⟨"stop",Hb kd at_ i,[.str b.1]⟩) (v:=.ref T8) ⟨T8,rfl,t8⟩
      have O3:=(O2.Yl (r:=⟨"stop",Hb kd at_ i,[.str b.1]⟩) (by show Ej "stop" = true; decide +kernel) rfl ⟨b,bmem,_,rfl⟩ hB).snap (t:=Hb kd at_ i) ⟨⟨"stop",Hb kd at_ i,[.str b.1]⟩,List.mem_append_right _ (List.mem_singleton.mpr rfl),rfl,rfl⟩ (fun hx=>by
       obtain ⟨z,hz,_,e⟩:=O2.sn _ hx
       exact fk z hz e) (by show S.sn.length<i+1; omega)
      generalize upd H18 pR (HO.lst (vs7++[V.ref T8]))=H19 at R8 ⊢
      refine ⟨_,rfl,rfl,_,rfl,Cq (fun w5=>?_) (fun w5=>?_)⟩
      ·obtain ⟨vs9,e19,p19⟩:=R8.s.r
       have lv9:vs9.length=S.rows.length+1:=by rw [← p19.length,List.length_append]; rfl
       refine ⟨_,rfl,.inl ⟨rfl,_,.inl (.inl e19)⟩,by show 5<=sizeLine; decide,fun T20 hT20=>?_⟩
       obtain ⟨H20,eqH,s20,t20⟩:=Ds (o:=HO.tup [V.str "line",.str "u",.int 0,.int 0,.int 0]) hT20
       rw [eqH]
       refine ⟨pR,vs9,_,rfl,rfl,s20 _ _ e19,BJ (by omega),?_⟩
       obtain ⟨mm,ww,erk,_⟩:=O2.rk1
       have hL:=hB.line F.f (Tl.stop S.rows (Hb kd at_ i) b.1) (by decide) (j:=0) (n:=b.2) (m:=mm) (t:="u") (wi:=ww) (sh:=0) (lo:=0) (hi:=0) (by rw [erk]; rfl) (by rw [erk]; exact List.nodup_cons.mpr ⟨List.not_mem_nil,List.nodup_nil⟩) V4.1 bmem (by decide) (by omega) (by decide) (by decide) (by decide) (by decide)
       have R9:=(R8.same s20).app (s20 _ _ e19) (r:=⟨"line","u",[.int 0,.int 0,.int 0]⟩) (v:=.ref T20) ⟨T20,rfl,t20⟩
       have O4:=O3.row (r:=⟨"line","u",[.int 0,.int 0,.int 0]⟩) (by show Ej "line" = false; decide +kernel) O3.st hL
       exact rest _ ⟨_,_,R9,by omega,O4,rfl,rfl⟩
      ·exact rest _ ⟨_,_,R8,by omega,O3.le (by omega),rfl,rfl⟩
   rintro H16 ⟨S',k',T6,hk',O6,ebs,ests⟩
   have lsn:=O6.sl
   have lst:S'.sts.length<=i:=by rw [ests]; exact O2.st
   dsimp only
   have lr6:=O6.lr
   refine o7 (fun bt H2=>∃ k2,Oe H H2 dh pc pR pT k2 S'.rows S'.sn/\k2<=k'+1/\(bt=true->S'.sn ≠ [])) (fun Q' qt qf=>?_) (fun H17 hC=>?_) (fun H17 hC=>?_)
   ·refine ⟨_,rfl,Bl (by simp),fun E1 hE1=>?_⟩
    obtain ⟨H17,eqH,s7,l7⟩:=Ds (o:=HO.lst []) hE1
    rw [eqH]
    have T7:=T6.same s7
    refine ⟨pT,E1,_,rfl,rfl,.inl (.inl T7.t),.inl (.inl l7),_,rfl,?_⟩
    by_cases hsn:S'.sn=[]
    ·rw [show (S'.sn.map V.str).isEmpty=true by rw [hsn]; rfl]
     exact Bo (qf _ ⟨_,T7,by omega,fun z=>nomatch z⟩)
    ·rw [show (S'.sn.map V.str).isEmpty=false by
      cases z:S'.sn with
      | nil=>exact absurd z hsn
      | cons x y=>rfl]
     refine Cm ⟨_,rfl,dh,pc,_,4,rfl,T7.s.d,by omega,by decide,by decide,fun r H18 r0 r1 D18 f18=>⟨rfl,_,rfl,?_⟩⟩
     have T8:=T7.fr f18 D18
     by_cases hr0:r=0
     ·rw [decide_eq_true (show V.int r=V.int 0 by rw [hr0])]
      exact qt _ ⟨_,T8,by omega,fun _=>hsn⟩
     ·rw [decide_eq_false (show ¬ V.int r=V.int 0 from fun z=>hr0 (V.int.inj z))]
      exact qf _ ⟨_,T8,by omega,fun z=>nomatch z⟩
   ·obtain ⟨k2,T7,hk2,hne'⟩:=hC
    have hne:=hne' rfl
    have lpos:0<S'.sn.length:=List.length_pos_iff.mpr hne
    refine ⟨_,rfl,_,rfl,pT,_,rfl,.inl (.inl (.inl T7.t)),dh,pc,_,_,rfl,T7.s.d,by omega,(by show (0:Int)<(((S'.sn.map V.str).length:Nat):Int); rw [List.length_map]; omega),(by show (((S'.sn.map V.str).length:Nat):Int)<1073741824; rw [List.length_map]; omega),fun tn H18 tn0 tn1 D18 f18=>?_⟩
    obtain ⟨tn,rfl⟩:∃ z:Nat,tn=(z:Int):=⟨tn.toNat,by omega⟩
    have T8:=T7.fr f18 D18
    obtain ⟨vs8,e8,p8⟩:=T8.s.r
    refine ⟨_,rfl,.inl ⟨rfl,_,.inl (.inl e8)⟩,by show 1<=sizeLine; decide,fun q1 hq1=>?_⟩
    obtain ⟨H19,eqH,s9,l9⟩:=Ds (o:=HO.lst [V.str "step"]) hq1
    rw [eqH]
    have T9:=T8.same s9
    refine ⟨_,rfl,_,rfl,_,rfl,pT,_,rfl,.inl (.inl T9.t),fun q2 hq2=>?_⟩
    rw [Qu]
    obtain ⟨H20,eqH,s10,l10⟩:=Ds (o:=HO.lst ((S'.sn.map V.str).drop tn)) hq2
    rw [eqH]
    have T10:=T9.same s10
    refine ⟨_,rfl,_,rfl,_,rfl,pT,_,rfl,.inl (.inl T10.t),fun q3 hq3=>?_⟩
    rw [Lf]
    obtain ⟨H21,eqH,s11,l11⟩:=Ds (o:=HO.lst ((S'.sn.map V.str).take tn)) hq3
    rw [eqH]
    refine ⟨q2,q3,_,_,rfl,rfl,s11 _ _ l10,l11,Bl (by rw [List.length_drop,List.length_take,List.length_map]; omega),fun q4 hq4=>?_⟩
    obtain ⟨H22,eqH,s12,l12⟩:=Ds (o:=HO.lst ((S'.sn.map V.str).drop tn++(S'.sn.map V.str).take tn)) hq4
    rw [eqH]
    have T12:=T10.same (s11.trans s12)
    refine ⟨_,rfl,dh,pc,_,3,rfl,T12.s.d,by omega,by decide,by decide,fun z H23 z0 z1 D23 f23=>?_⟩
    have n4:=DH.gb (T10.same s11).s.d hq4
    rw [← f23 q4 n4.1 n4.2] at l12
    refine ⟨_,_,rfl,rfl,_,rfl,q4,_,rfl,.inl (.inl l12),fun q5 hq5=>?_⟩
    obtain ⟨z,rfl⟩:∃ y:Nat,z=(y:Int):=⟨z.toNat,by omega⟩
    have ez:(1:Int)+((z:Nat):Int)=((1+z:Nat):Int):=by omega
    rw [ez,Lf,← List.map_drop,← List.map_take,← List.map_append,← List.map_take]
    obtain ⟨t0,ts,ets,nd,hin,hlen⟩:=Vs O6.sd hne tn z
    rw [ets]
    have T13:=T12.fr f23 D23
    have n1:=DH.gb T8.s.d hq1
    have l9':H23 q1=some (.lst [V.str "step"]):=by
     rw [f23 q1 n1.1 n1.2]
     exact s12 _ _ (s11 _ _ (s10 _ _ l9))
    obtain ⟨H24,eqH,s14,l14⟩:=Ds (o:=HO.lst ((t0::ts).map V.str)) hq5
    rw [eqH]
    refine ⟨q1,q5,_,_,rfl,rfl,s14 _ _ l9',l14,Bl (by rw [List.length_map]; show 1+(t0::ts).length<=1000; omega),fun q6 hq6=>?_⟩
    have s15:=Ax (o:=HO.lst ([V.str "step"]++(t0::ts).map V.str)) hq6
    refine ⟨q6,_,rfl,.inl ⟨.inl (.inl Ah),fun T16 hT16=>?_⟩⟩
    have s16:=Ax (o:=HO.tup ([V.str "step"]++(t0::ts).map V.str)) hT16
    have t16:upd (upd H24 q6 (HO.lst ([V.str "step"]++(t0::ts).map V.str))) T16 (HO.tup ([V.str "step"]++(t0::ts).map V.str)) T16=some (.tup ([V.str "step"]++(t0::ts).map V.str)):=Ah
    generalize upd (upd H24 q6 (HO.lst ([V.str "step"]++(t0::ts).map V.str))) T16 (HO.tup ([V.str "step"]++(t0::ts).map V.str))=H25 at s16 t16 ⊢
    have T16':=T13.same (s14.trans (s15.trans s16))
    obtain ⟨vs25,e25,p25⟩:=T16'.s.r
    have lv25:vs25.length=S'.rows.length:=p25.length.symm
    refine ⟨pR,vs25,_,rfl,rfl,e25,BJ (by omega),?_⟩
    have hB:=O6.bl.step F.mT nd (by omega) (fun t ht=>by
     obtain ⟨kk,hkk,hkw,hkn⟩:=O6.sn t (hin t ht)
     obtain ⟨jj,hjj,ejj⟩:=O6.kn hkk
     refine ⟨?_,kk,hkk,hkw,hkn⟩
     rw [← hkn,ejj]
     exact (JG (JP (show kd<3 by omega) (show at_<5 by omega) (by omega))).1) (by omega)
    have R25:=T16'.app e25 (r:=⟨"step",t0,ts.map V.str⟩) (v:=.ref T16) ⟨T16,rfl,t16⟩
    have O7:=O6.row (r:=⟨"step",t0,ts.map V.str⟩) (by show Ej "step" = false; decide +kernel) (sts':=_) (by rw [List.length_append]; show S'.sts.length+1<=i+1; omega) hB
    exact ⟨_,_,_,_,_,_,_,R25,by omega,O7.le (by omega),by show S'.bs.length=_; rw [ebs]; exact hb,rfl⟩
   ·obtain ⟨k2,T7,hk2,_⟩:=hC
    exact ⟨S',k2,_,_,_,_,_,T7,by omega,O6.le (by omega),by rw [ebs]; exact hb,rfl⟩
  rintro σ H12 ⟨S,k,v5,v7,v8,v9,v10,T2,hk,O2,hb,rfl⟩
  exact ⟨_,rfl,q pR S kd at_ (1+ni) k H12 (by omega) (by omega) (by omega) (by omega) O2 T2.s (by omega)⟩
open Bw
theorem bh (z:Str):inV (.str z) [.str "stop",.str "coupler",.str "mute"]=Ej z:=rfl
noncomputable def Rm:Sp:=fun vs H Q _=>∃ (p:Addr) (us:List V) (rows:List R),vs=[.ref p]/\H p=some (.lst us)/\Paired (fun (r:R) v=>TupAt H r.v v) rows us/\rows.length<=200/\∀ D us' H',H D=none->Ak H H'->H' D=some (.lst us')->Paired (fun (r:R) v=>TupAt H' r.v v) (rows.filter fun r=>Ej r.w) us'->Q (.ref D) H'
theorem G7 {H:Hp}:∀ {rows:List R} {vs:List V},Paired (fun (r:R) v=>TupAt H r.v v) rows vs->Paired (fun (r:R) v=>TupAt H r.v v) (rows.filter fun r=>Ej r.w) (vs.filter fun v=>Ej (Gf H v).w)
 | [],_,h=>by
  cases h
  exact .nil
 | r::rows,_,h=>by
  cases h with
  | cons a b =>
   have ih:=G7 b
   rw [List.filter_cons,List.filter_cons,Hv a]
   by_cases hk:Ej r.w=true
   ·rw [if_pos hk,if_pos hk]
    exact .cons a ih
   ·rw [if_neg hk,if_neg hk]
    exact ih
theorem jr:Ao ["_law_rows"] ["_law_rows"] (Af iB):=Bm
include N T in
theorem Nf:Aw P w K mg base Bg 1 fLx dLx ["_law_rows"] Rm:=by
 refine N.FLx.1.ok jr (fun vs H Q E h=>?_) (fun cdv A outer s H vs Q E hr h=>?_)
 ·obtain ⟨p,us,rows,rfl,_⟩:=h
  rfl
 ·obtain ⟨p,us,rows,rfl,hp,hpr,hl,q⟩:=h
  refine ⟨_,(@Ae _ _ _ (@Av _ _ _ _ (Bk rfl (Bb (osc:=Af iB) (N:=["_law_rows"]) rfl rfl (by decide +kernel)) (Bq (pv 0)) (fun _ _ _ _=>(Hn (Az (Hm (K:=K) rfl) (@A_ _ _ _ _ _ _ _ (An (K:=K) rfl) (pv 0) Ac (fun _ _=>rfl)) (@Bt _ _ _ _ _ (@Am _ _ _ _ _ rfl BR (@Am _ _ _ _ _ rfl BR (@Am _ _ _ _ _ rfl BR Aa)))) rfl))) (fun _ _ _ _=>(pv 0))))),?_⟩
  have hS:DQ K H p us:=.inl (.inl hp)
  have lu:us.length=rows.length:=hpr.length.symm
  refine ⟨_,rfl,p,rfl,⟨_,hS⟩,Cv (K:=K) (xs:=us) (fun v=>Ej (Gf H v).w) id hS (BJ (by omega)) (fun y hy Hx hs R kk=>?_) (fun y hy _ Hx hs R kk=>⟨_,rfl,kk Hx (Ak.refl Hx)⟩) (fun D H' hD hs hl'=>?_)⟩
  ·obtain ⟨T0,rfl,hT⟩:=((JB hpr) y hy).mono hs
   refine ⟨_,rfl,T0,_,_,_,rfl,rfl,.inl (.inl hT),Aj (j:=0) rfl,by show 3<=sizeLine; decide,fun q1 hq1=>?_⟩
   have s1:=Ax (o:=HO.tup [V.str "stop",.str "coupler",.str "mute"]) hq1
   refine ⟨q1,_,rfl,.inr (.inl (.inl Ah)),rfl,rfl,_,rfl,?_⟩
   have:=kk _ s1
   rw [← bh] at this
   exact this
  rw [List.map_id] at hl'
  exact q D _ H' hD hs hl' (Aq hs (G7 hpr))
theorem HF {H0 H:Hp} {a:Addr} {o:HO} (s:Ak H0 H) (h:H0 a=none):Ak H0 (upd H a o):=fun b u e=>by
 rw [Ar (Ai e h)]
 exact s _ _ e
theorem Td {ns:List Str} {v:V} {t:Str} (h:Gh ns v=.non) (e:v=.str t) (ht:t∈ns):False:=by
 subst e
 rw [aF ht] at h
 cases h
noncomputable def YG (pE pA:Addr):Sp:=fun vs H Q _=>∃ (x c dx:Addr) (k:Nat),vs=[.ref x,.int (k:Nat)]/\(c=pE \/ c=pA)/\H x=some (.ins c dx [])/\Q .non (upd H x (.ins c dx [("knob_set",.int (k:Nat))]))
noncomputable def fK (pE pA:Addr):Sp:=fun vs H Q _=>∃ (x dx:Addr) (k w:Nat),vs=[.ref x,.int (k:Nat),.int (w:Nat)]/\H x=some (.ins pA dx [])/\∀ H',SX x H H'->Gb pE pA H' x (.part k w)->Q .non H'
noncomputable def eZ (pE:Addr):Sp:=fun vs H Q _=>∃ (x dx:Addr) (k d:Nat),vs=[.ref x,.int (d:Nat)]/\H x=some (.ins pE dx [("knob_set",.int (k:Nat))])/\Q (.int (k:Nat)) H
noncomputable def bx (pA:Addr):Sp:=fun vs H Q _=>∃ (x dx:Addr) (k w d:Nat),vs=[.ref x,.int (d:Nat)]/\H x=some (.ins pA dx [("knob_set",.int (k:Nat)),("whole_set",.int (w:Nat))])/\Q (.int (((d - (d &&& w)) ||| k:Nat):Int)) H
theorem lW:Ao ["self","knobs"] ["self","knobs"] (Af iR):=Bm
include N T in
theorem XJ:Aw P w K mg base Bg 1 fPi dPi ["self","knobs"] (YG pE pA):=by
 refine N.FPi.1.ok lW (fun vs H Q E h=>?_) (fun cdv A outer s H vs Q E hr h=>?_)
 ·obtain ⟨x,c,dx,k,rfl,_⟩:=h
  rfl
 ·obtain ⟨x,c,dx,k,rfl,hc,h1,q⟩:=h
  have hu:=CN hr
  refine ⟨_,(Ae (Cz (pv 0) (pv 1) rfl)),?_⟩
  rcases hc with rfl | rfl
  ·exact ⟨_,rfl,_,rfl,x,_,dx,_,rfl,h1,T.pis.cE,T.pis.nEk,by show 0<1000; decide,q⟩
  ·exact ⟨_,rfl,_,rfl,x,_,dx,_,rfl,h1,T.pis.cA,T.pis.nAk,by show 0<1000; decide,q⟩
theorem iJ:Ao ["self","knobs","whole"] ["self","knobs","whole"] (Af kW):=Bm
include N T in
theorem dw:Aw P w K mg base Bg 2 fAi dAi ["self","knobs","whole"] (fK pE pA):=by
 have GPi:Aw P w K mg base Bg 1 fPi dPi ["self","knobs"] (YG pE pA):=XJ N T
 refine N.FAi.1.ok iJ (fun vs H Q E h=>?_) (fun cdv A outer s H vs Q E hr h=>?_)
 ·obtain ⟨x,dx,k,w0,rfl,_⟩:=h
  rfl
 ·obtain ⟨x,dx,k,w0,rfl,h1,q⟩:=h
  have hrPi:BX 1 _:=hr.mono (by decide)
  have hu:=CN hr
  refine ⟨_,(Ad (CK (Pr rfl T.pis.mB N.cPi GPi hrPi N.FPi.2.1 .nil Ay (Ab (pv 0) (Ab (pv 1) Aa))))
   (Ae (Cz (pv 0) (pv 2) rfl))),?_⟩
  refine ⟨_,rfl,_,rfl,x,pA,dx,k,rfl,.inr rfl,h1,?_⟩
  refine ⟨_,rfl,_,rfl,x,pA,dx,_,rfl,Ah,T.pis.cA,T.pis.nAw,by show 1<1000; decide,?_⟩
  exact q _ (SX.up.trans SX.up) ⟨dx,Ah⟩
theorem jy:Ao ["self","drawn"] ["self","drawn"] (Af lg):=Bm
include N T in
theorem aX:Aw P w K mg base Bg 1 fEp dEp ["self","drawn"] (eZ pE):=by
 refine N.FEp.1.ok jy (fun vs H Q E h=>?_) (fun cdv A outer s H vs Q E hr h=>?_)
 ·obtain ⟨x,dx,k,d,rfl,_⟩:=h
  rfl
 ·obtain ⟨x,dx,k,d,rfl,h1,q⟩:=h
  have hu:=CN hr
  refine ⟨_,(Ae (Av (Bh (pv 0) rfl))),?_⟩
  exact ⟨_,rfl,x,pE,dx,_,_,rfl,h1,T.pis.cE,T.pis.nEk,rfl,q⟩
theorem jc:Ao ["self","drawn"] ["self","drawn"] (Af iH):=Bm
include N T in
theorem bG:Aw P w K mg base Bg 1 fAp dAp ["self","drawn"] (bx pA):=by
 refine N.FAp.1.ok jc (fun vs H Q E h=>?_) (fun cdv A outer s H vs Q E hr h=>?_)
 ·obtain ⟨x,dx,k,w0,d,rfl,_⟩:=h
  rfl
 ·obtain ⟨x,dx,k,w0,d,rfl,h1,q⟩:=h
  have hu:=CN hr
  refine ⟨_,(Ae (Av (BP Hc (BP Fg (pv 1) (QV TX (Bh (pv 0) rfl))) (Bh (pv 0) rfl)))),?_⟩
  refine ⟨_,rfl,_,rfl,x,pA,dx,_,_,rfl,h1,T.pis.cA,T.pis.nAw,rfl,_,rfl,_,_,rfl,rfl,_,rfl,x,pA,dx,_,_,rfl,h1,T.pis.cA,T.pis.nAk,rfl,_,_,rfl,rfl,?_⟩
  dsimp only
  rw [QS,Eh]
  exact q
noncomputable def Jc:V->Bool
 | .int i=>decide (0<=i) && decide (i<10)
 | _=>false
noncomputable def Xu:Sp:=fun vs H Q _=>∃ v:V,vs=[v]/\E_ H v/\Q (.bl (Jc v)) H
theorem nR:Ao ["thing"] ["thing"] (Af mX):=Bm
include N T in
theorem Xc:Aw P w K mg base Bg 2 fIp dIp ["thing"] Xu:=by
 have GWhG:Aw P w K mg base Bg 1 fWh dWh ["thing"] U0:=Uu N T
 refine N.FIp.1.ok nR (fun vs H Q E h=>?_) (fun cdv A outer s H vs Q E hr h=>?_)
 ·obtain ⟨v,rfl,_⟩:=h
  rfl
 ·obtain ⟨v,rfl,hv,q⟩:=h
  have hrWhG:BX 1 _:=hr.mono (by decide)
  obtain ⟨tPC,hPC⟩:=T.pis.most
  refine ⟨_,(Ae (Av (Dc (Al GWhG hrWhG rfl N.FWh.2.2 N.FWh.1.kp N.FWh.2.1 .nil Ay (Ab (pv 0) Aa)) (DP (Gq Fy Jg Ac (pv 0) (Bu (v:=.int 10) rfl hPC ⟨tPC,rfl⟩)))))),?_⟩
  refine ⟨_,rfl,v,rfl,hv,_,rfl,?_⟩
  cases v with
  | int i =>
   refine Cm ⟨_,rfl,_,_,rfl,rfl,_,rfl,Cq (fun h0=>?_) (fun h0=>?_)⟩
   ·refine ⟨_,_,rfl,rfl,?_⟩
    have e:Jc (.int i)=decide (i<10):=by
     show (decide (0<=i) && decide (i<10))=_
     rw [h0,Bool.true_and]
    rw [e] at q
    exact q
   ·have e:Jc (.int i)=false:=by
     show (decide (0<=i) && decide (i<10))=_
     rw [(Bool.not_eq_true _).mp h0,Bool.false_and]
    rw [e] at q
    exact q
  | _=>exact Bo q
theorem lw:Ao ["self","name"] ["self","name"] (Af jR):=Bm
include N T in
theorem aL:Aw P w K mg base Bg 3 fOu dOu ["self","name"] (bM C):=by
 have GNmG:Aw P w K mg base Bg 2 fNm dNm ["thing"] Up:=Uq N T
 refine N.FOu.1.ok lw (fun vs H Q E h=>?_) (fun cdv A outer s H vs Q E hr h=>?_)
 ·obtain ⟨x,us,bs,rk,ks,ls,sts,v,rfl,_⟩:=h
  rfl
 ·obtain ⟨x,us,bs,rk,ks,ls,sts,v,rfl,O,hv,hn,q⟩:=h
  have hrNmG:BX 2 _:=hr.mono (by decide)
  have hu:=CN hr
  obtain ⟨tLET,hLET⟩:=T.letters
  obtain ⟨tML,hML⟩:=T.mostL
  refine ⟨_,(Ae (Av (M4 (DN (Al GNmG hrNmG rfl N.FNm.2.2 N.FNm.1.kp N.FNm.2.1 .nil Ay (Ab (pv 1) Aa))) (N7 hu (Bh (pv 0) rfl) (pv 1) ⟨rfl,rfl,rfl,rfl⟩) Ga))),?_⟩
  obtain ⟨O1,dx,fs,rl,kd,ss,kvs,h1,l1,l2,l3,h2,h3,h4,h5,h6,bn,kb,h7,h8,h9⟩:=id O
  obtain ⟨⟨dx',fs',bl,bn',kp,kr,bvs,pvs,uvs,kvs',g1,m1,m2,m3,m4,lm,e2,e3,e4,e5,e6,e7,e8,e9⟩,ob5,osz,onk⟩:=id O1.o
  rw [h1] at g1
  cases g1
  rw [h7] at m2
  cases m2
  rw [h8] at e4
  cases e4
  refine ⟨_,rfl,v,rfl,hv,fun b H1 s1 hb=>⟨_,rfl,?_⟩⟩
  refine Cq (fun z=>?_) (fun z=>?_)
  ·obtain ⟨t,rfl,ht⟩:=hb.mp z
   refine ⟨_,rfl,x,C,dx,_,_,rfl,s1 _ _ h1,T.cl,T.n_board_numbers,h7,bn,rfl,.inl ⟨_,.inl (s1 _ _ h8)⟩,_,rfl,_,Gd.k (k:=Sum.inr t) (s1 _ _ h8),?_⟩
   rw [valN (fun i t ht=>by rw [List.getElem?_map] at ht; obtain ⟨b,hb,rfl⟩:=Option.map_eq_some_iff.mp ht; exact e5 i b hb) h9 t]
   exact q _ s1
  ·have e:=Ql hn fun c=>z (hb.mpr c)
   rw [e] at q
   exact q _ s1
noncomputable def fP (C:Addr):Sp:=fun vs H Q _=>∃ (x:Addr) (bs:List (Str × Nat)) (ks:List R) (k j1:Nat) (b1:Str × Nat) (wd nm:Str) (rs:List V),vs=[.ref x,.int (k:Nat)]/\Kv C H x bs ks/\ks[k]? = some ⟨wd,nm,.str b1.1::rs⟩/\bs[j1]? = some b1/\Q (.int (j1:Nat)) H
theorem jN:Ao ["self","knob"] ["self","knob"] (Af jh):=Bm
include N T in
theorem dC:Aw P w K mg base Bg 1 fBk dBk ["self","knob"] (fP C):=by
 refine N.FBk.1.ok jN (fun vs H Q E h=>?_) (fun cdv A outer s H vs Q E hr h=>?_)
 ·obtain ⟨x,bs,ks,k,j1,b1,wd,nm,rs,rfl,_⟩:=h
  rfl
 ·obtain ⟨x,bs,ks,k,j1,b1,wd,nm,rs,rfl,O,hk,hb1,q⟩:=h
  have hu:=CN hr
  refine ⟨_,(Ae (Av (H_ hu (Bh (pv 0) rfl) (A_ (An (K:=K) rfl) (A_ Bv (Bh (pv 0) rfl) (pv 1) (fun _ _=>rfl)) Ac (fun _ _=>rfl)) (fun _ _=>rfl)))),?_⟩
  obtain ⟨⟨dx,fs,bl,bn,kp,kr,bvs,pvs,uvs,kvs,h1,l1,l2,l3,l4,lm,h2,h3,h4,h5,h6,h7,h8,h9⟩,ob5,osz,onk⟩:=id O
  obtain ⟨y,hy,T0,rfl,ht⟩:=Et h9 hk
  have g1:=Gd.k (k:=Sum.inr b1.1) h4
  rw [h5 j1 b1 hb1] at g1
  exact ⟨_,rfl,x,C,dx,_,_,rfl,h1,T.cl,T.n_board_numbers,l2,_,rfl,x,C,dx,_,_,rfl,h1,T.cl,T.n_knob_rows,l4,_,rfl,kr,uvs,_,_,rfl,rfl,.inl (.inl h8),Aj hy,T0,_,_,_,rfl,rfl,.inl (.inl ht),Aj (j:=2) rfl,bn,_,rfl,g1,q⟩
noncomputable def dg (C:Addr):Sp:=fun vs H Q _=>∃ (x:Addr) (bs:List (Str × Nat)) (ks:List R),vs=[.ref x]/\Kv C H x bs ks/\∀ D ys H',H D=none->Ak H H'->H' D=some (.lst ys)->Paired (fun (r:R) y=>TupAt H' [.str r.w,.str r.nm] y) ks ys->Q (.ref D) H'
theorem mz:Ao ["self"] ["self"] (Af gf):=Bm
include N T in
theorem Zv:Aw P w K mg base Bg 1 fOz dOz ["self"] (dg C):=by
 refine N.FOz.1.ok mz (fun vs H Q E h=>?_) (fun cdv A outer s H vs Q E hr h=>?_)
 ·obtain ⟨x,bs,ks,rfl,_⟩:=h
  rfl
 ·obtain ⟨x,bs,ks,rfl,O,q⟩:=h
  refine ⟨_,(Ae (Av (Bk rfl (Bb (osc:=Af gf) (N:=["self"]) rfl rfl (by decide +kernel)) (Bq (Bh (pv 0) rfl)) (fun _ _ _ _=>Ck) (fun _ _ _ _=>(Bt (Ab (A_ (An (K:=K) rfl) (pv 0) Ac (fun _ _=>rfl)) (Ab (A_ (An (K:=K) rfl) (pv 0) Ac (fun _ _=>rfl)) Aa))))))),?_⟩
  obtain ⟨⟨dx,fs,bl,bn,kp,kr,bvs,pvs,uvs,kvs,h1,l1,l2,l3,l4,lm,h2,h3,h4,h5,h6,h7,h8,h9⟩,ob5,osz,onk⟩:=id O
  have hS:DQ K H kr uvs:=.inl (.inl h8)
  have hul:=h9.length
  refine ⟨_,rfl,x,C,dx,_,_,rfl,h1,T.cl,T.n_knob_rows,l4,kr,rfl,⟨_,hS⟩,J0 (K:=K) (xs:=uvs) (fun _=>true) (fun v=>[.str (Gf H v).w,.str (Gf H v).nm]) hS (BJ (by omega)) (fun y hy H' hs R k=>k H' (Ak.refl H')) (fun y hy _ H' hs R k=>?_) (fun D H' ys hD hs hl hv=>?_)⟩
  ·obtain ⟨r,_,hr0⟩:=CZ h9 hy
   have e:=Hv hr0
   rw [e] at k
   obtain ⟨T0,rfl,hT⟩:=hr0.mono hs
   exact ⟨_,rfl,T0,_,_,_,rfl,rfl,.inl (.inl hT),Aj (j:=0) rfl,_,rfl,T0,_,_,_,rfl,rfl,.inl (.inl hT),Aj (j:=1) rfl,by show 2<=sizeLine; decide,fun T6 hT6=>k _ _ (Ax hT6) ⟨T6,rfl,Ah⟩⟩
  ·rw [List.filter_eq_self.mpr (fun _ _=>rfl)] at hv
   have h:=Cp (F:=fun (r:R) y=>TupAt H' [.str r.w,.str r.nm] y) (Gf H) hv
   rw [Js h9] at h
   exact q D ys H' hD hs hl h
noncomputable def dW (C cB:Addr):Sp:=fun vs H Q E=>∃ (x:Addr) (us:List V) (bs:List (Str × Nat)) (rk:List (Str × Nat × Int)) (ks:List R) (ls:List (List Ln)) (sts:List Nat) (v:V),vs=[.ref x,v]/\Jb C H x us bs rk ks ls sts/\E_ H v/\(∀ n∈bs.map (·.1),isNm n) /\
 (∀ t H',Ak H H'->v=.str t->t∈bs.map (·.1)->Q (.int (((bs.map (·.1)).idxOf t:Nat):Int)) H')/\(∀ H',Ak H H'->Gh (bs.map (·.1)) v=.non->E (.ref cB) none H')
theorem aq:Ao ["organ","name","board"] ["organ","name"] (Af jk):=Bm
include N T in
theorem cz:Aw P w K mg base (Ij P w) 4 fBn dBn ["organ","name"] (dW C cB):=by
 have GOu:Aw P w K mg base Bg 3 fOu dOu ["self","name"] (bM C):=aL N T
 refine N.FBn.1.V6 aq (fun vs H Q E h=>?_) (fun cdv A outer s H vs Q E hr h=>?_)
 ·obtain ⟨x,us,bs,rk,ks,ls,sts,v,rfl,_⟩:=h
  rfl
 ·obtain ⟨x,us,bs,rk,ks,ls,sts,v,rfl,O,hv,hn,q,qe⟩:=h
  have hrOu:BX 3 _:=hr.mono (by decide)
  have hu:=CN hr
  refine ⟨_,(Ad (C_ (i:=2) aq.nd rfl (Or.inl rfl) (FN (pv 0) T.cl N.FOu.2.2 GOu hrOu N.FOu.2.1 .nil Ay (Ab (pv 1) Aa)))
   (Ad (Bc (Az Pa (pv 2) Ga (BL _)) (Ae (Gx T.x4.rB.ex rfl T.x4.mB rfl Ig (Ab BR Aa))) BW)
   (Ae (Av (pv 2))))),?_⟩
  obtain ⟨⟨⟨dx,fs,_,_,_,_,_,_,_,_,h1,_,_,_,_,lm,_⟩,_⟩,_⟩:=id O.o
  refine ⟨_,rfl,x,dx,fs,rfl,h1,lm _ (by decide +kernel),_,rfl,x,us,bs,rk,ks,ls,sts,v,rfl,O,hv,hn,fun H1 s1=>?_⟩
  rcases Kw (bs.map (·.1)) v with e | ⟨t,rfl,ht,e⟩
  ·have qe':=qe H1 s1 e
   rw [e]
   exact ⟨_,rfl,rfl,_,rfl,Cm ⟨by show 1<=1000; decide,qe'⟩⟩
  ·rw [e]
   exact ⟨_,rfl,rfl,_,rfl,Bo ⟨_,rfl,q t H1 s1 rfl ht⟩⟩
noncomputable def My (ks:List R) (t:Str) (k:Nat):Bool:=match ks[k]? with
 | some r=>decide (r.rest.head? = some (V.str t))
 | none=>false
noncomputable def Bs (ks:List R) (t:Str):Nat:=Wd.mk ((List.range ks.length).filter (My ks t))
noncomputable def Zr (C cB:Addr):Sp:=fun vs H Q E=>∃ (x:Addr) (us:List V) (bs:List (Str × Nat)) (rk:List (Str × Nat × Int)) (ks:List R) (ls:List (List Ln)) (sts:List Nat) (v:V),vs=[.ref x,v]/\Jb C H x us bs rk ks ls sts/\E_ H v/\(∀ n∈bs.map (·.1),isNm n)/\(bs.map (·.1)).Nodup/\ks.length<=100/\(∀ r∈ks,∃ b∈bs,∃ rs,r.rest=.str b.1::rs) /\
 (∀ t H',Ak H H'->v=.str t->t∈bs.map (·.1)->Q (.int ((Bs ks t:Nat):Int)) H')/\(∀ H',Ak H H'->Gh (bs.map (·.1)) v=.non->E (.ref cB) none H')
theorem dH:Ao ["organ","name","board"] ["organ","name"] (Af g_):=Bm
include N T in
theorem bI:Aw P w K mg base (Ij P w) 5 fKb dKb ["organ","name"] (Zr C cB):=by
 have GBn:Aw P w K mg base (Ij P w) 4 fBn dBn ["organ","name"] (dW C cB):=cz N T
 have GBk:Aw P w K mg base Bg 1 fBk dBk ["self","knob"] (fP C):=dC N T
 have GOz:Aw P w K mg base Bg 1 fOz dOz ["self"] (dg C):=Zv N T
 have GSt:Aw P w K mg base Bg 3 fSt dSt ["numbers"] Tv:=Uh N T
 refine N.FKb.1.V6 dH (fun vs H Q E h=>?_) (fun cdv A outer s H vs Q E hr h=>?_)
 ·obtain ⟨x,us,bs,rk,ks,ls,sts,v,rfl,_⟩:=h
  rfl
 ·obtain ⟨x,us,bs,rk,ks,ls,sts,v,rfl,O,hv,hn,nd,hl,hkb,q,qe⟩:=h
  have hrBn:BX 4 _:=hr.mono (by decide)
  have hrBk:BX 1 _:=hr.mono (by decide)
  have hrOz:BX 1 _:=hr.mono (by decide)
  have hrSt:BX 3 _:=hr.mono (by decide)
  have hu:=CN hr
  refine ⟨_,(Ad (C_ (i:=2) dH.nd rfl (Or.inr rfl) (Al GBn hrBn rfl N.FBn.2.2 N.FBn.1.kp N.FBn.2.1 .nil Jp (Ab (pv 0) (Ab (pv 1) Aa))))
   (Ae (Av (Al GSt hrSt rfl N.FSt.2.2 N.FSt.1.kp N.FSt.2.1 .nil Ay (Ab (Bk rfl (Bb (osc:=Af g_) (N:=["organ","name","board"]) rfl rfl (by decide +kernel)) (Fq rfl T.range (Ab (BK BZ rfl T.len PySem.boot_len (Ab (CW (pv 0) T.cl N.FOz.2.2 GOz hrOz N.FOz.2.1 .nil Ay) Aa)) Aa)) (fun _ _ _ _=>(Hn (Az Be (FN (pv 1) T.cl N.FBk.2.2 GBk hrBk N.FBk.2.1 .nil Ay (Ab (pv 0) Aa)) (pv 3) (BL _)))) (fun _ _ _ _=>(pv 0))) Aa))))),?_⟩
  refine ⟨_,rfl,_,rfl,x,us,bs,rk,ks,ls,sts,v,rfl,O,hv,hn,fun t H1 s1 ev ht=>?_,fun H1 s1 e=>qe H1 s1 e⟩
  subst ev
  have O1:=O.mono s1
  obtain ⟨⟨⟨dx,fs,_,_,_,_,_,_,_,_,h1,_,_,_,_,lm,_⟩,_⟩,_⟩:=id O1.o
  refine ⟨_,rfl,x,dx,fs,rfl,h1,lm _ (by decide +kernel),x,_,_,rfl,O1.o.o,fun D2 nvs H2 hD2 s2 q2 p2=>?_⟩
  have ln2:nvs.length=ks.length:=p2.length.symm
  refine ⟨D2,_,rfl,.inl (.inl (.inl q2)),_,rfl,by omega,by omega,Ot (lo:=0) (n:=nvs.length) (fun z=>My ks t z.toNat) (fun z=>.int z) (BJ (by omega)) (fun i hi Hx hs R kk=>?_) (fun i hi _ Hx hs R kk=>⟨_,rfl,kk Hx (Ak.refl Hx)⟩) (fun D3 H3 hD3 s3 hl3=>?_)⟩
  ·have ei:(0:Int)+((i:Nat):Int)=((i:Nat):Int):=by omega
   rw [ei] at kk ⊢
   obtain ⟨r,hr⟩:∃ r,ks[i]? = some r:=⟨_,List.getElem?_eq_getElem (by omega)⟩
   obtain ⟨b,hb,rs,er⟩:=hkb r (List.mem_of_getElem? hr)
   obtain ⟨j,hj⟩:=List.getElem?_of_mem hb
   have e1:My ks t i=decide (V.int ((j:Nat):Int)=V.int (((bs.map (·.1)).idxOf t:Nat):Int)):=by
    unfold My
    rw [hr]
    show decide (r.rest.head? = some (V.str t))=_
    rw [er,decide_eq_decide]
    have hjm:(bs.map (·.1))[j]? = some b.1:=by rw [List.getElem?_map,hj]; rfl
    constructor
    ·intro z
     have z':b.1=t:=V.str.inj (Option.some.inj z)
     rw [z'] at hjm
     have hjl:=(List.getElem?_eq_some_iff.mp hjm).1
     rw [(List.getElem?_inj hjl nd).mp (hjm.trans (GQ ht).symm)]
    ·intro z
     have z':j=(bs.map (·.1)).idxOf t:=by have:=V.int.inj z; omega
     rw [z',GQ ht] at hjm
     show some (V.str b.1)=some (V.str t)
     rw [← Option.some.inj hjm]
   obtain ⟨rw_,rn,rr⟩:=r
   obtain rfl:rr=.str b.1::rs:=er
   have Ox:=(O1.mono s2).mono hs
   obtain ⟨⟨⟨dx',fs',_,_,_,_,_,_,_,_,h1',_,_,_,_,lm',_⟩,_⟩,_⟩:=id Ox.o
   refine ⟨_,rfl,x,dx',fs',rfl,h1',lm' _ (by decide +kernel),_,rfl,x,bs,ks,i,j,b,rw_,rn,rs,rfl,Ox.o.o,hr,hj,_,rfl,rfl,_,rfl,?_⟩
   have:=kk Hx (Ak.refl Hx)
   rw [Int.toNat_natCast,e1] at this
   exact this
  have el:((((List.range nvs.length).map fun (i:Nat)=>(0:Int)+(i:Int)).filter fun z=>My ks t z.toNat).map fun z=>V.int z)=nV ((List.range ks.length).filter (My ks t)):=by
   rw [ln2,List.filter_map,List.map_map]
   have ef:((fun z:Int=>My ks t z.toNat) ∘ fun (i:Nat)=>(0:Int)+(i:Int))=My ks t:=by
    funext k
    show My ks t ((0:Int)+(k:Int)).toNat=My ks t k
    rw [Int.zero_add,Int.toNat_natCast]
   rw [ef]
   unfold nV
   refine List.map_congr_left fun k _=>?_
   show V.int ((0:Int)+(k:Int))=V.int (k:Int)
   rw [Int.zero_add]
  rw [el] at hl3
  refine ⟨D3,_,rfl,hl3,Nat.le_trans (List.length_filter_le _ _) (by rw [List.length_range]; omega),fun n hn=>?_,fun H4 s4=>q t H4 (s1.trans (s2.trans (s3.trans s4))) rfl ht⟩
  have:=List.mem_range.mp (List.mem_filter.mp hn).1
  omega
structure iI (bs:List (Str × Nat)) (ks:List R):Prop where
 bn:∀ n∈bs.map (·.1),isNm n
 bd:(bs.map (·.1)).Nodup
 kn:∀ n∈En ks,isNm n
 kd:(En ks).Nodup
 kl:ks.length<=12
 kb:∀ r∈ks,∃ b∈bs,∃ rs,r.rest=.str b.1::rs
structure Dd (C Cy pE pA:Addr) (Ho H:Hp) (y x:Addr) (bs:List (Str × Nat)) (ks:List R) (sts:List Nat) (dr sh:Nat) (sd:Addr) (m:Nat->Option Ps) (c:Nat):Prop where
 o:∃ us rk ls,ZR C Cy Ho H y x us bs rk ks ls sts dr sh sd
 f:iI bs ks
 hs:Ho sd=none
 ny:sd ≠ y
 st:Vy pE pA H sd m c
section
variable {C Cy pE pA:Addr} {Ho H H':Hp} {y x:Addr} {bs:List (Str × Nat)} {ks:List R} {sts:List Nat} {dr sh dr' sh':Nat} {sd:Addr} {m m':Nat->Option Ps} {c c':Nat}
theorem Dd.ok (h:Dd C Cy pE pA Ho H y x bs ks sts dr sh sd m c):FW C Cy Ho H y x ks sts dr sh sd:=by
 obtain ⟨us,rk,ls,h1⟩:=h.o
 exact ⟨⟨us,bs,rk,ls,h1⟩,h.f.kn,by have:=h.f.kl; omega⟩
theorem Dd.mono (s:Ak H H') (h:Dd C Cy pE pA Ho H y x bs ks sts dr sh sd m c):Dd C Cy pE pA Ho H' y x bs ks sts dr sh sd m c:=by
 obtain ⟨us,rk,ls,h1⟩:=h.o
 exact ⟨⟨us,rk,ls,h1.mono s⟩,h.f,h.hs,h.ny,h.st.mono s⟩
theorem Dd.at (h:Dd C Cy pE pA Ho H y x bs ks sts dr sh sd m c):Df Cy H y x dr sh sd:=by
 obtain ⟨us,rk,ls,h1⟩:=h.o
 exact h1.c
theorem Dd.not (h:Dd C Cy pE pA Ho H y x bs ks sts dr sh sd m c) {o:Addr} {ps:Ps} (hp:Gb pE pA H o ps):o ≠ y/\o ≠ sd:=by
 obtain ⟨dy,fs,h1,l1,_⟩:=h.at.ex
 obtain ⟨kvs,d1,_⟩:=h.st.ex
 have key:∃ c dx fs',H o=some (.ins c dx fs')/\fs'.lookup ("organ" : Str)=none:=by
  cases ps with
  | every k =>
   obtain ⟨dx,e⟩:=hp
   exact ⟨_,_,_,e,by rw [List.lookup_cons,show (("organ" : Str) == "knob_set")=false by decide +kernel]; rfl⟩
  | part k w =>
   obtain ⟨dx,e⟩:=hp
   exact ⟨_,_,_,e,by rw [List.lookup_cons,show (("organ" : Str) == "knob_set")=false by decide +kernel]; show List.lookup _ _=none; rw [List.lookup_cons,show (("organ" : Str) == "whole_set")=false by decide +kernel]; rfl⟩
 obtain ⟨c',dx,fs',e,l⟩:=key
 refine ⟨fun z=>?_,fun z=>by rw [z,d1] at e; cases e⟩
 rw [z,h1] at e
 cases e
 rw [l1] at l
 cases l
theorem Dd.put (h:Dd C Cy pE pA Ho H y x bs ks sts dr sh sd m c) (s:SX y H H') (a:Df Cy H' y x dr' sh' sd):Dd C Cy pE pA Ho H' y x bs ks sts dr' sh' sd m c:=by
 obtain ⟨us,rk,ls,h1⟩:=h.o
 obtain ⟨kvs,d1,d2,d3,d4⟩:=h.st.ex
 refine ⟨⟨us,rk,ls,h1.o,fun b o e=>s b o (h1.s b o e) (Ai e h1.n),h1.n,a⟩,h.f,h.hs,h.ny,kvs,s _ _ d1 h.ny,d2,d3,fun p ps hp hm=>?_⟩
 obtain ⟨o,f1,f2⟩:=d4 p ps hp hm
 exact ⟨o,f1,f2.keep fun _ _ _ e=>s _ _ e (h.not f2).1⟩
end
noncomputable def GZ (m:Nat->Option Ps) (p:Nat) (ps:Ps):Nat->Option Ps:=fun q=>if q=p then some ps else m q
theorem Qk (kvs:List (Key × V)) (k:Key) (v:V):(putK kvs k v).length<=kvs.length+1:=by
 unfold putK
 split
 ·rw [List.length_map]
  omega
 ·rw [List.length_append]
  exact Nat.le_refl _
theorem PP {v:V} (h:Jc v=true):∃ p:Nat,v=.int (p:Nat)/\p<10:=by
 cases v with
 | int i =>
  have h1:(decide (0<=i) && decide (i<10))=true:=h
  rw [Bool.and_eq_true,decide_eq_true_eq,decide_eq_true_eq] at h1
  obtain ⟨j,rfl⟩:=Int.eq_ofNat_of_zero_le h1.1
  exact ⟨j,rfl,by omega⟩
 | _=>cases h
theorem Yw {p:Nat} (h:p<10):Jc (.int (p:Nat))=true:=by
 show (decide (0<=(p:Int)) && decide ((p:Int)<10))=true
 rw [decide_eq_true (Int.natCast_nonneg p),decide_eq_true (by omega)]
 rfl
section
variable {C Cy pE pA:Addr} {Ho H H':Hp} {y x:Addr} {bs:List (Str × Nat)} {ks:List R} {sts:List Nat} {dr sh dr' sh':Nat} {sd:Addr} {m m':Nat->Option Ps} {c c':Nat}
theorem Dd.keep (h:Dd C Cy pE pA Ho H y x bs ks sts dr sh sd m c) {kvs:List (Key × V)} {p:Nat} {ps:Ps} {o:Addr} (e:H sd=some (.dK kvs)) (hc:kvs.length<=c) (h0:∀ p,p<10->m p=none->CV kvs (Sum.inl (p:Nat))=none) (h1:∀ p ps,p<10->m p=some ps->∃ o,CV kvs (Sum.inl (p:Nat))=some (.ref o)/\Gb pE pA H o ps) (hp:Gb pE pA H o ps) :
  Dd C Cy pE pA Ho (upd H sd (.dK (putK kvs (Sum.inl (p:Nat)) (.ref o)))) y x bs ks sts dr sh sd (GZ m p ps) (c+1):=by
 obtain ⟨us,rk,ls,g⟩:=h.o
 have up:SX sd H (upd H sd (.dK (putK kvs (Sum.inl (p:Nat)) (.ref o)))):=SX.up
 have keepP:∀ {o ps},Gb pE pA H o ps->Gb pE pA (upd H sd (.dK (putK kvs (Sum.inl (p:Nat)) (.ref o)))) o ps:=fun {_ _} f=>f.keep fun _ _ _ e=>by
  rw [Ar (h.not f).2]
  exact e
 have ne:∀ q:Nat,¬ q=p->¬ (Sum.inl ((q:Nat):Int):Key)=Sum.inl ((p:Nat):Int):=fun q hq z=>hq (by have:=Sum.inl.inj z; omega)
 refine ⟨⟨us,rk,ls,g.o,fun b ob eb=>up b ob (g.s b ob eb) (fun z=>by rw [z,h.hs] at eb; cases eb),g.n,?_⟩,h.f,h.hs,h.ny,_,Ah,Nat.le_trans (Qk _ _ _) (by omega),fun q hq hm=>?_,fun q qs hq hm=>?_⟩
 ·obtain ⟨dy,fs,a1,a2⟩:=g.c.ex
  exact ⟨dy,fs,by rw [Ar (Ne.symm h.ny)]; exact a1,a2⟩
 ·unfold GZ at hm
  by_cases z:q=p
  ·rw [if_pos z] at hm
   cases hm
  ·rw [if_neg z] at hm
   rw [Ew,if_neg (ne q z)]
   exact h0 q hq hm
 ·unfold GZ at hm
  by_cases z:q=p
  ·rw [if_pos z] at hm
   cases hm
   subst z
   exact ⟨o,by rw [Ew,if_pos rfl],hp.keep fun _ _ _ e=>by rw [Ar (h.not hp).2]; exact e⟩
  ·rw [if_neg z] at hm
   obtain ⟨o',f1,f2⟩:=h1 q qs hq hm
   exact ⟨o',by rw [Ew,if_neg (ne q z)]; exact f1,f2.keep fun _ _ _ e=>by rw [Ar (h.not f2).2]; exact e⟩
end
noncomputable def b_ (C Cy pE pA:Addr):Sp:=fun vs H Q _=>∃ (Ho:Hp) (y x:Addr) (bs:List (Str × Nat)) (ks:List R) (sts:List Nat) (dr sh:Nat) (sd:Addr) (m:Nat->Option Ps) (c:Nat),vs=[.ref y]/\Dd C Cy pE pA Ho H y x bs ks sts dr sh sd m c/\∀ H',SX y H H'->Dd C Cy pE pA Ho H' y x bs ks sts 0 0 sd m c->Q .non H'
noncomputable def ZF (C Cy pE pA cP:Addr):Sp:=fun vs H Q E=>∃ (Ho:Hp) (y x:Addr) (bs:List (Str × Nat)) (ks:List R) (sts:List Nat) (dr sh:Nat) (sd:Addr) (m:Nat->Option Ps) (c:Nat) (v:V),vs=[.ref y,v]/\Dd C Cy pE pA Ho H y x bs ks sts dr sh sd m c/\E_ H v /\
 (∀ (p:Nat) ps H',v=.int (p:Nat)->p<10->m p=some ps->SX y H H'->Dd C Cy pE pA Ho H' y x bs ks sts (ps.put dr) sh sd m c->Q .non H')/\(∀ H',Ak H H'->(∀ p:Nat,v=.int (p:Nat)->p<10->m p=none)->E (.ref cP) none H')
noncomputable def fG (C Cy pE pA cP cB:Addr):Sp:=fun vs H Q E=>∃ (Ho:Hp) (y x:Addr) (bs:List (Str × Nat)) (ks:List R) (sts:List Nat) (dr sh:Nat) (sd:Addr) (m:Nat->Option Ps) (c:Nat) (v b:V),vs=[.ref y,v,b]/\Dd C Cy pE pA Ho H y x bs ks sts dr sh sd m c/\c<900/\E_ H v/\E_ H b /\
 (∀ (p:Nat) H',v=.int (p:Nat)->p<10->b=.non->SX sd H H'->Dd C Cy pE pA Ho H' y x bs ks sts dr sh sd (GZ m p (.every dr)) (c+1)->Q .non H') /\
 (∀ (p:Nat) t H',v=.int (p:Nat)->p<10->b=.str t->t∈bs.map (·.1)->SX sd H H'->Dd C Cy pE pA Ho H' y x bs ks sts dr sh sd (GZ m p (.part (dr &&& Bs ks t) (Bs ks t))) (c+1)->Q .non H') /\
 (∀ H',Ak H H'->Jc v=false->E (.ref cP) none H')/\(∀ H',Ak H H'->Jc v=true->b ≠ .non->Gh (bs.map (·.1)) b=.non->E (.ref cB) none H')
theorem jf:Ao ["self"] ["self"] (Af iW):=Bm
include N T in
theorem Z3:Aw P w K mg base Bg 2 fXc dXc ["self"] (b_ C Cy pE pA):=by
 have GXd:Aw P w K mg base Bg 1 fXd dXd ["self","knobs"] (RJ Cy):=QX N T
 refine N.FXc.1.ok jf (fun vs H Q E h=>?_) (fun cdv A outer s H vs Q E hr h=>?_)
 ·obtain ⟨Ho,y,x,bs,ks,sts,dr,sh,sd,m,c,rfl,_⟩:=h
  rfl
 ·obtain ⟨Ho,y,x,bs,ks,sts,dr,sh,sd,m,c,rfl,O,q⟩:=h
  have hrXd:BX 1 _:=hr.mono (by decide)
  have hu:=CN hr
  refine ⟨_,(Ad (CK (FN (pv 0) T.clR N.FXd.2.2 GXd hrXd N.FXd.2.1 .nil Ay (Ab Ac Aa)))
   (Ae (Cz (pv 0) Ac rfl))),?_⟩
  obtain ⟨us,rk,ls,D⟩:=id O.o
  obtain ⟨dy,fs,h1,l1,l2,l3,l4,l5,lm⟩:=id D.c.ex
  refine ⟨_,rfl,y,dy,fs,rfl,h1,lm _ (by decide +kernel),y,x,dr,sh,sd,0,rfl,D.c,fun H1 c1 D1=>?_⟩
  obtain ⟨dy',fs',k1,j1,j2,j3,j4,j5,jm⟩:=id D1.ex
  refine ⟨_,rfl,y,Cy,dy',_,rfl,k1,T.clR,T.nr_shoe_step,by omega,?_⟩
  exact q _ (c1.trans SX.up) ((O.put c1 D1).put SX.up (Df.bF 0 j1 j2 j3 j4 j5 jm Ah))
theorem nZ:Ao ["self","piston"] ["self","piston"] (Af lq):=Bm
include N T in
theorem W3:Aw P w K mg base (Ij P w) 3 fXr dXr ["self","piston"] (ZF C Cy pE pA cP):=by
 have GIp:Aw P w K mg base Bg 2 fIp dIp ["thing"] Xu:=Xc N T
 have GXd:Aw P w K mg base Bg 1 fXd dXd ["self","knobs"] (RJ Cy):=QX N T
 have GEp:Aw P w K mg base Bg 1 fEp dEp ["self","drawn"] (eZ pE):=aX N T
 have GAp:Aw P w K mg base Bg 1 fAp dAp ["self","drawn"] (bx pA):=bG N T
 refine N.FXr.1.V6 nZ (fun vs H Q E h=>?_) (fun cdv A outer s H vs Q E hr h=>?_)
 ·obtain ⟨Ho,y,x,bs,ks,sts,dr,sh,sd,m,c,v,rfl,_⟩:=h
  rfl
 ·obtain ⟨Ho,y,x,bs,ks,sts,dr,sh,sd,m,c,v,rfl,O,hv,q,qe⟩:=h
  have hrIp:BX 2 _:=hr.mono (by decide)
  have hrXd:BX 1 _:=hr.mono (by decide)
  have hrEp:BX 1 _:=hr.mono (by decide)
  have hrAp:BX 1 _:=hr.mono (by decide)
  have hu:=CN hr
  refine ⟨_,(Ad (Bc (PW.pt (Im (Dw (DN (Al GIp hrIp rfl N.FIp.2.2 N.FIp.1.kp N.FIp.2.1 .nil Ay (Ab (pv 1) Aa)))) (G9 (U5 (Q7 hu (pv 1) (Bh (pv 0) rfl)))))) (Ae (Gx T.x4.rP.ex rfl T.x4.mP rfl Ig (Ab BR Aa))) BW)
   (Ae (CK (FN (pv 0) T.clR N.FXd.2.2 GXd hrXd N.FXd.2.1 .nil Ay (Ab (Sq (H_ hu (Bh (pv 0) rfl) (pv 1) (fun _ _=>rfl)) T.pis.cE N.FEp.2.2 GEp N.FEp.2.1 T.pis.cA N.FAp.2.2 GAp N.FAp.2.1 hrEp Ay (Ab (Bh (pv 0) rfl) Aa)) Aa))))),?_⟩
  obtain ⟨us,rk,ls,D⟩:=id O.o
  obtain ⟨dy,fs,h1,l1,l2,l3,l4,l5,lm⟩:=id D.c.ex
  obtain ⟨kvs,d1,d2,d3,d4⟩:=id O.st.ex
  refine ⟨_,rfl,v,rfl,hv,_,rfl,?_⟩
  cases hb:Jc v with
  | false =>
   refine Cm ⟨by show 1<=1000; decide,qe H (Ak.refl H) fun p ev hp=>?_⟩
   rw [ev,Yw hp] at hb
   cases hb
  | true =>
   obtain ⟨p,rfl,hp⟩:=PP hb
   refine Bo ⟨_,rfl,_,rfl,y,Cy,dy,_,_,rfl,h1,T.clR,T.nr_stored,l4,sd,_,rfl,Gd.k (k:=Sum.inl ((p:Nat):Int)) d1,_,rfl,?_⟩
   cases hm:m p with
   | none =>
    rw [d3 p hp hm]
    exact Cm ⟨by show 1<=1000; decide,qe H (Ak.refl H) fun p' ev _=>by rw [show p'=p by have:=V.int.inj ev; omega]; exact hm⟩
   | some ps =>
    obtain ⟨o,f1,f2⟩:=d4 p ps hp hm
    rw [f1]
    refine Bo ⟨_,rfl,y,dy,fs,rfl,h1,lm _ (by decide +kernel),_,rfl,y,Cy,dy,_,_,rfl,h1,T.clR,T.nr_stored,l4,_,rfl,sd,_,rfl,f1 ▸ Gd.k (k:=Sum.inl ((p:Nat):Int)) d1,?_⟩
    have fin:∀ n:Nat,n=ps.put dr->RJ Cy [.ref y,.int (n:Nat)] H (fun _ H2=>Q .non H2) E:=fun n en=>⟨y,x,dr,sh,sd,n,rfl,D.c,fun H1 c1 D1=>q p ps H1 rfl hp hm c1 (en ▸ O.put c1 D1)⟩
    cases ps with
    | every k =>
     obtain ⟨dx,e⟩:=f2
     refine ⟨o,dx,_,rfl,by rw [List.lookup_cons,show (("put" : Str) == "knob_set")=false by decide +kernel]; rfl,.inl ⟨e,_,rfl,y,Cy,dy,_,_,rfl,h1,T.clR,T.nr_drawn_set,l2,o,dx,k,dr,rfl,e,fin k rfl⟩⟩
    | part k w0 =>
     obtain ⟨dx,e⟩:=f2
     refine ⟨o,dx,_,rfl,by rw [List.lookup_cons,show (("put" : Str) == "knob_set")=false by decide +kernel]; show List.lookup _ _=none; rw [List.lookup_cons,show (("put" : Str) == "whole_set")=false by decide +kernel]; rfl,.inr ⟨e,_,rfl,y,Cy,dy,_,_,rfl,h1,T.clR,T.nr_drawn_set,l2,o,dx,k,w0,dr,rfl,e,fin _ rfl⟩⟩
theorem dU:Ao ["self","piston","board","whole"] ["self","piston","board"] (Af R4):=Bm
include N T in
theorem Z_:Aw P w K mg base (Ij P w) 6 fXt dXt ["self","piston","board"] (fG C Cy pE pA cP cB):=by
 have GIp:Aw P w K mg base Bg 2 fIp dIp ["thing"] Xu:=Xc N T
 have GPi:Aw P w K mg base Bg 1 fPi dPi ["self","knobs"] (YG pE pA):=XJ N T
 have GAi:Aw P w K mg base Bg 2 fAi dAi ["self","knobs","whole"] (fK pE pA):=dw N T
 have GKb:Aw P w K mg base (Ij P w) 5 fKb dKb ["organ","name"] (Zr C cB):=bI N T
 refine N.FXt.1.V6 dU (fun vs H Q E h=>?_) (fun cdv A outer s H vs Q E hr h=>?_)
 ·obtain ⟨Ho,y,x,bs,ks,sts,dr,sh,sd,m,c,v,b,rfl,_⟩:=h
  rfl
 ·obtain ⟨Ho,y,x,bs,ks,sts,dr,sh,sd,m,c,v,b,rfl,O,hc,hv,hb,q1,q2,qe1,qe2⟩:=h
  have hrIp:BX 2 _:=hr.mono (by decide)
  have hrPi:BX 1 _:=hr.mono (by decide)
  have hrAi:BX 2 _:=hr.mono (by decide)
  have hrKb:BX 5 _:=hr.mono (by decide)
  have hu:=CN hr
  refine ⟨_,(Ad (Bc (Dw (DN (Al GIp hrIp rfl N.FIp.2.2 N.FIp.1.kp N.FIp.2.1 .nil Ay (Ab (pv 1) Aa)))) (Ae (Gx T.x4.rP.ex rfl T.x4.mP rfl Ig (Ab BR Aa))) BW)
   (Ae (Bc (Az Pa (pv 2) Ga (BL _)) (Ae (Jo hu (Bh (pv 0) rfl) (pv 1) (Jw N.FPi.2.2 GPi (hr.mono (by decide)) rfl T.pis.mE N.FPi.2.1 .nil Ay (Ab (Bh (pv 0) rfl) Aa)) rfl)) (Ad (C_ (i:=3) dU.nd rfl (Or.inl rfl) (Al GKb hrKb rfl N.FKb.2.2 N.FKb.1.kp N.FKb.2.1 .nil Jp (Ab (Bh (pv 0) rfl) (Ab (pv 2) Aa))))
   (Ae (Jo hu (Bh (pv 0) rfl) (pv 1) (Jw N.FAi.2.2 GAi (hr.mono (by decide)) rfl T.pis.mA N.FAi.2.1 .nil Ay (Ab (BP Fg (Bh (pv 0) rfl) (pv 3)) (Ab (pv 3) Aa))) rfl)))))),?_⟩
  obtain ⟨us,rk,ls,D⟩:=id O.o
  obtain ⟨dy,fs,h1,l1,l2,l3,l4,l5,lm⟩:=id D.c.ex
  refine ⟨_,rfl,v,rfl,hv,_,rfl,?_⟩
  cases hk:Jc v with
  | false=>exact Cm ⟨by show 1<=1000; decide,qe1 H (Ak.refl H) hk⟩
  | true =>
   obtain ⟨p,rfl,hp⟩:=PP hk
   refine Bo ?_
   have sto:∀ H1,Ak H H1->∀ (o:Addr) (ps:Ps),Gb pE pA H1 o ps->∃ H2,L_ H1 sd (.int ((p:Nat):Int)) (.ref o) H2/\SX sd H H2/\Dd C Cy pE pA Ho H2 y x bs ks sts dr sh sd (GZ m p ps) (c+1):=fun H1 s1 o ps hps=>by
    obtain ⟨kvs,d1,d2,d3,d4⟩:=(O.mono s1).st.ex
    exact ⟨_,L_.k (k:=Sum.inl ((p:Nat):Int)) d1 (BJ (by omega)),(SX.of s1).trans SX.up,(O.mono s1).keep d1 d2 d3 d4 hps⟩
   by_cases en:b=.non
   ·subst en
    refine ⟨_,rfl,rfl,_,rfl,Cm ⟨_,rfl,y,Cy,dy,_,_,rfl,h1,T.clR,T.nr_drawn_set,l2,fun o dx ho hdx hne=>?_⟩⟩
    refine ⟨o,pE,dx,dr,rfl,.inl rfl,Ah,rfl,?_⟩
    have sN:Ak H (upd (upd (upd H dx (.own o)) o (.ins pE dx [])) o (.ins pE dx [("knob_set",.int (dr:Nat))])):=fun a ob e=>by
     rw [Ar (Ai e ho),Ar (Ai e ho),Ar (Ai e hdx)]
     exact e
    have pN:Gb pE pA (upd (upd (upd H dx (.own o)) o (.ins pE dx [])) o (.ins pE dx [("knob_set",.int (dr:Nat))])) o (.every dr):=⟨dx,Ah⟩
    generalize (upd (upd (upd H dx (.own o)) o (.ins pE dx [])) o (.ins pE dx [("knob_set",.int (dr:Nat))]))=H1 at sN pN ⊢
    obtain ⟨H2,g1,g2,g3⟩:=sto H1 sN o _ pN
    exact ⟨_,rfl,y,Cy,dy,_,_,rfl,sN _ _ h1,T.clR,T.nr_stored,l4,_,rfl,sd,H2,rfl,g1,q1 p H2 rfl hp rfl g2 g3⟩
   ·have en':(decide (b=V.non))=false:=decide_eq_false en
    refine ⟨_,rfl,rfl,_,rfl,?_⟩
    rw [en']
    refine Bo ?_
    refine ⟨_,rfl,y,Cy,dy,_,_,rfl,h1,T.clR,T.nr_organ,l1,_,rfl,x,us,bs,rk,ks,ls,sts,b,rfl,D.o.mono D.s,hb,O.f.bn,O.f.bd,Nat.le_trans O.f.kl (by decide),O.f.kb,fun t H1 s1 ev ht=>?_,fun H1 s1 e=>qe2 H1 s1 hk en e⟩
    subst ev
    refine ⟨_,rfl,y,Cy,dy,_,_,rfl,s1 _ _ h1,T.clR,T.nr_drawn_set,l2,_,rfl,_,_,rfl,rfl,_,rfl,fun o dx ho hdx hne=>?_⟩
    dsimp only
    rw [Dq]
    refine ⟨o,dx,_,_,rfl,Ah,fun H2 c2 pN=>⟨rfl,?_⟩⟩
    have sN:Ak H1 H2:=fun a ob e=>c2 a ob (by rw [Ar (Ai e ho),Ar (Ai e hdx)]; exact e) (Ai e ho)
    obtain ⟨H3,g1,g2,g3⟩:=sto H2 (s1.trans sN) o _ pN
    exact ⟨_,rfl,y,Cy,dy,_,_,rfl,sN _ _ (s1 _ _ h1),T.clR,T.nr_stored,l4,_,rfl,sd,H3,rfl,g1,q2 p t H3 rfl hp rfl ht g2 g3⟩
open Bw
theorem Vl {X:Cx} {K:PySem.W.Frag} {tg l:Expr} {tl:TE} (hK:X.K=K) (hl:PE X l tl):PI X tg l (bU K tl):=by
 rw [← hK]
 exact Mu hl
theorem Wf {X:Cx} {K:PySem.W.Frag} (hK:X.K=K):bH X (bT K):=by
 rw [← hK]
 exact Ma
theorem Ry {X:Cx} {K:PySem.W.Frag} (hK:X.K=K) (hc:X.calm=true):Em X (.builtin "sum") (fun xs H Q=>∃ (p:Addr) (ns:List Int),xs=[V.ref p]/\DQ K H p (ns.map V.int)/\(∀ n∈ns,0<=n)/\ns.sum<=4611686018427387904/\Q (.int ns.sum) H):=by
 rw [← hK]
 exact Qx hc
theorem Ku {X:Cx} {K:PySem.W.Frag} (hK:X.K=K):gQ X "list.index" (fun x xs H Q=>∃ l ys y j,x=V.ref l/\xs=[y]/\DQ K H l ys/\Es y=true/\ys.all Es=true/\j<ys.length/\Mg (ys.getD j .non) y=true/\(∀ m,m<j->Mg (ys.getD m .non) y=false)/\Q (.int (j:Nat)) H):=by
 rw [← hK]
 exact U4
noncomputable def Ul (scope osc:Scope):Scope:={ scope with names:=scope.names.map fun (n,k)=>if (k == NameKind.free && osc.kind == .function && osc.names.lookup n == some .cell) then (n,NameKind.cell) else (n,k) }
theorem Mt {X:Cx} {x:Str} {scope osc:Scope} {C:Addr} {s₀:Shared} {H₀:Hp} {fp:List Addr} (h:X.env.scope=osc):(CG X x scope C s₀ H₀ fp).env.scope=Ul scope osc:=by
 subst h
 rfl
structure nA (rows ks:List R) (sts:List Nat):Prop where
 ek:rows.filter (fun r=>Ej r.w)=ks
 st:(rows.filter Tn).map (stN ks)=sts
 nm:∀ r∈rows,r.w = "step"->∃ ts:List Str,V.str r.nm::r.rest=ts.map V.str/\ts.Nodup/\ts.length<=24/\∀ t∈ts,t∈ks.map (·.nm)
 lr:rows.length<=100
 lk:ks.length<=12
noncomputable def Xh:Sp:=fun vs H Q _=>∃ (p:Addr) (us:List V) (rows ks:List R) (sts:List Nat),vs=[.ref p]/\H p=some (.lst us)/\Paired (fun (r:R) v=>TupAt H r.v v) rows us/\nA rows ks sts/\∀ D H',H D=none->Ak H H'->H' D=some (.lst (nV sts))->Q (.ref D) H'
theorem Ka (ns:List Str):(ns.map V.str).all Es=true:=List.all_eq_true.mpr fun v hv=>by
 obtain ⟨n,_,rfl⟩:=List.mem_map.mp hv
 rfl
noncomputable def oN (ns:List Str):V->V
 | .str t=>.int (1 * 2 ^ ((ns.idxOf t:Nat):Int).toNat)
 | v=>v
theorem Od:∀ l:List Nat,(l.map fun n:Nat=>(n:Int)).sum=((l.sum:Nat):Int)
 | []=>rfl
 | n::l=>by
  rw [List.map_cons,List.sum_cons,List.sum_cons,Od l]
  omega
theorem Vg (ns ts:List Str):(ts.map V.str).map (oN ns)=(((ts.map fun t=>ns.idxOf t).map fun n=>2 ^ n).map fun n:Nat=>(n:Int)).map V.int:=by
 rw [List.map_map,List.map_map,List.map_map,List.map_map]
 refine List.map_congr_left fun t _=>?_
 show V.int (1 * 2 ^ ((ns.idxOf t:Nat):Int).toNat)=V.int ((2 ^ ns.idxOf t:Nat):Int)
 rw [Int.toNat_natCast,Int.one_mul,Int.natCast_pow]
 rfl
theorem cI:Ao ["_law_rows","_law_names_here"] ["_law_rows"] (Af ZL):=Bm
include N T in
theorem W5:Aw P w K mg base Bg 2 fSp dSp ["_law_rows"] Xh:=by
 have GLx:Aw P w K mg base Bg 1 fLx dLx ["_law_rows"] Rm:=Nf N T
 refine N.FSp.1.ok cI (fun vs H Q E h=>?_) (fun cdv A outer s H vs Q E hr h=>?_)
 ·obtain ⟨p,us,rows,ks,sts,rfl,_⟩:=h
  rfl
 ·obtain ⟨p,us,rows,ks,sts,rfl,hp,hpr,St,q⟩:=h
  have hrLx:BX 1 _:=hr.mono (by decide)
  have hu:=CN hr
  refine ⟨_,(@Ad _ _ _ _ _ (C_ (i:=1) cI.nd rfl (Or.inr rfl) (Bk rfl (Bb (osc:=Af ZL) (N:=["_law_rows","_law_names_here"]) rfl rfl (by decide +kernel)) (Bq (Al GLx hrLx rfl N.FLx.2.2 N.FLx.1.kp N.FLx.2.1 .nil Ay (@Am _ _ _ _ _ rfl (pv 0) Aa))) (fun _ _ _ _=>Ck) (fun _ _ _ _=>(@A_ _ _ _ _ _ _ _ (An (K:=K) rfl) (pv 0) Ac (fun _ _=>rfl)))))
   (@Ae _ _ _ (@Av _ _ _ _ (Bk rfl (Bb (osc:=Af ZL) (N:=["_law_rows","_law_names_here"]) rfl rfl (by decide +kernel)) (Bq (pv 0)) (fun _ _ _ _=>(Hn (Az Be (@A_ _ _ _ _ _ _ _ (An (K:=K) rfl) (pv 0) Ac (fun _ _=>rfl)) BR (BL _)))) (fun _ _ _ _=>(BK (Ry (K:=K) rfl rfl) rfl T.sum PyProof.Rows.boot_sum (@Am _ _ _ _ _ rfl (Bk rfl (Bb (osc:=Ul _ (Af ZL)) (N:=["_law_row","_law_rows","_law_names_here"]) (Mt rfl) rfl (by decide +kernel)) (Vl (K:=K) rfl (Ce (Wf (K:=K) rfl) (pv 0) (DG Ac) Dm)) (fun _ _ _ _=>Ck) (fun _ _ _ _=>(BP J1 Ac (TJ (K:=K) rfl PySem.F.plainAttrs_list PySem.F.slot_list_index PySem.F.type_list_index (Ku (K:=K) rfl) (pv 3) (@Am _ _ _ _ _ rfl (pv 0) Aa))))) Aa))))))),?_⟩
  have lr:=St.lr
  have lu:us.length=rows.length:=hpr.length.symm
  refine ⟨_,rfl,p,us,rows,rfl,hp,hpr,by omega,fun DK us3 H3 hDK s3 l3 p3=>?_⟩
  rw [St.ek] at p3
  have hS3:DQ K H3 DK us3:=.inl (.inl l3)
  have l3k:us3.length=ks.length:=p3.length.symm
  have lk:=St.lk
  refine ⟨DK,rfl,⟨_,hS3⟩,Cv (K:=K) (xs:=us3) (fun _=>true) (Kh H3 1) hS3 (BJ (by omega)) (fun y hy Hx hs R kk=>kk Hx (Ak.refl Hx)) (fun y hy _ Hx hs R kk=>?_) (fun pN H4 hpN s4 hl4=>?_)⟩
  ·obtain ⟨b',_,hx'⟩:=CZ p3 hy
   have e:=GF hx' 1
   obtain ⟨T0,rfl,hT⟩:=hx'.mono hs
   refine ⟨_,rfl,T0,_,_,_,rfl,rfl,.inl (.inl hT),Aj (j:=1) rfl,?_⟩
   have:=kk Hx (Ak.refl Hx)
   rw [e] at this
   exact this
  rw [List.filter_eq_self.mpr (fun _ _=>rfl),Jr 1 p3] at hl4
  have e4:(ks.map fun r=>(R.v r).getD 1 V.non)=(En ks).map V.str:=by
   rw [List.map_map]
   rfl
  rw [e4] at hl4
  have s04:=s3.trans s4
  have hpr4:=Aq s04 hpr
  have hS4:DQ K H4 p us:=.inl (.inl (s04 _ _ hp))
  refine ⟨_,rfl,p,rfl,⟨_,hS4⟩,Cv (K:=K) (xs:=us) (pw (Gf H4) "step") (fun v=>.int (stN ks (Gf H4 v):Nat)) hS4 (BJ (by omega)) (fun y hy Hx hs R kk=>?_) (fun y hy hp' Hx hs R kk=>?_) (fun D5 H5 hD5 s5 hl5=>?_)⟩
  ·obtain ⟨T0,rfl,hT⟩:=((JB hpr4) y hy).mono hs
   exact ⟨_,rfl,T0,_,_,_,rfl,rfl,.inl (.inl hT),Aj (j:=0) rfl,rfl,_,rfl,kk Hx (Ak.refl Hx)⟩
  ·obtain ⟨r,hr,ht⟩:=CZ hpr4 hy
   have er:=Hv ht
   rw [er] at kk
   have hw:r.w = "step":=by
    have h1:decide (V.str (Gf H4 y).w=V.str "step")=true:=hp'
    rw [er] at h1
    exact V.str.inj (of_decide_eq_true h1)
   obtain ⟨ts,ets,nd,h24,hin⟩:=St.nm r hr hw
   obtain ⟨T0,rfl,hT⟩:=ht.mono hs
   have hv:r.v=V.str r.w::ts.map V.str:=by
    show V.str r.w::(V.str r.nm::r.rest)=_
    rw [ets]
   rw [hv] at hT
   have e1:HT.Dg (V.str r.w::ts.map V.str).length 0 (some 1)=1:=by
    rw [show (some (1:Int))=some ((1:Nat):Int) from rfl,HT.Du]
    simp
   have hcut:Dn (V.str r.w::ts.map V.str) (some 1) none=ts.map V.str:=by
    unfold Dn
    rw [e1,HT.G8]
    simp
    exact List.take_of_length_le (by rw [List.length_map]; exact Nat.le_refl _)
   refine ⟨_,rfl,_,rfl,T0,_,rfl,.inl (.inl hT),?_,fun n0 hn0=>?_⟩
   ·rintro ⟨z,_⟩
    rw [e1] at z
    cases z
   rw [hcut]
   obtain ⟨Hy,eqH,s1,a1⟩:=Ds (o:=HO.tup (ts.map V.str)) hn0
   rw [eqH]
   have hT1:Gm K Hy n0 (ts.map V.str):=.inl (.inl a1)
   have ltm:(ts.map V.str).length=ts.length:=List.length_map ..
   refine ⟨n0,rfl,⟨_,hT1⟩,KH (K:=K) (xs:=ts.map V.str) (fun _=>true) (oN (En ks)) hT1 (BJ (by omega)) (fun x hx H' hs R k=>k H' (Ak.refl H')) (fun x hx _ H' hs2 R2 k2=>?_) (fun D H2 hD s2 hl2=>?_)⟩
   ·obtain ⟨t,ht',rfl⟩:=List.mem_map.mp hx
    have htn:=hin t ht'
    have hN':=hs2 _ _ (s1 _ _ (hs _ _ hl4))
    have hil:(En ks).idxOf t<(En ks).length:=List.idxOf_lt_length_of_mem htn
    have lnk:(En ks).length=ks.length:=List.length_map _
    refine ⟨_,rfl,.inl ⟨rfl,_,.inl (.inl hN')⟩,_,rfl,pN,_,_,(En ks).idxOf t,rfl,rfl,.inl (.inl hN'),rfl,Ka (En ks),by rw [List.length_map]; exact hil,?_,?_,_,_,rfl,rfl,⟨by omega,by omega,by decide⟩,k2 _ (Ak.refl _)⟩
    ·rw [List.getD_eq_getElem?_getD,List.getElem?_map,GQ htn]
     show Mg (.str t) (.str t)=true
     rw [Jt]
     exact decide_eq_true rfl
    ·intro m hm
     have hm':m<(En ks).length:=by omega
     rw [List.getD_eq_getElem?_getD,List.getElem?_map,List.getElem?_eq_getElem hm']
     show Mg (.str (En ks)[m]) (.str t)=false
     rw [Jt]
     exact decide_eq_false (Oj hm _ (List.getElem?_eq_getElem hm'))
   ·rw [List.filter_eq_self.mpr (fun _ _=>rfl),Vg] at hl2
    have ndx:=Q_ nd hin
    have hsum:(((ts.map fun t=>(En ks).idxOf t).map fun n=>2 ^ n).map fun n:Nat=>(n:Int)).sum=((stN ks r:Nat):Int):=by
     rw [Od,Sd _ ndx]
     unfold stN
     rw [Fv ets]
    have hlt:stN ks r<2 ^ 12:=by
     unfold stN
     rw [Fv ets]
     refine Yg fun n hn=>?_
     obtain ⟨t,ht',rfl⟩:=List.mem_map.mp hn
     have:=List.idxOf_lt_length_of_mem (hin t ht')
     rw [List.length_map] at this
     omega
    have e12:(2:Nat) ^ 12=4096:=by decide
    refine ⟨D,_,rfl,.inl (.inl hl2),fun n hn=>?_,?_,?_⟩
    ·obtain ⟨m,_,rfl⟩:=List.mem_map.mp hn
     omega
    ·rw [hsum]
     omega
    rw [hsum]
    exact kk H2 (s1.trans s2)
  have e5:((us.filter (pw (Gf H4) "step")).map fun v=>V.int (stN ks (Gf H4 v):Nat))=nV sts:=by
   rw [← St.st,← Js hpr4,List.filter_map]
   unfold nV
   rw [List.map_map,List.map_map]
   rfl
  rw [e5] at hl5
  exact q D5 H5 (s04.free hD5) (s04.trans s5) hl5
theorem Io (k:Nat):(1:Int) * 2 ^ ((k:Nat):Int).toNat=((2 ^ k:Nat):Int):=by
 rw [Int.toNat_natCast,Int.one_mul,Int.natCast_pow]
 rfl
noncomputable def Zd:Sp:=fun vs H Q _=>∃ (p:Addr) (us:List V) (rows ks:List R) (t:Str),vs=[.ref p,.str t]/\H p=some (.lst us)/\Paired (fun (r:R) v=>TupAt H r.v v) rows us/\rows.filter (fun r=>Ej r.w)=ks/\rows.length<=100/\ks.length<=12/\(∀ r∈ks,∃ (n:Str) (rs:List V),r.rest=.str n::rs)/\∀ H',Ak H H'->Q (.int ((Bs ks t:Nat):Int)) H'
theorem Sg:Ao ["_law_rows","_law_board","_law_found","_law_k","_law_row"] ["_law_rows","_law_board"] (Af nJ):=Bm
include N T in
theorem Z7:Aw P w K mg base Bg 2 fOb dOb ["_law_rows","_law_board"] Zd:=by
 have GLx:Aw P w K mg base Bg 1 fLx dLx ["_law_rows"] Rm:=Nf N T
 refine N.FOb.1.ok Sg (fun vs H Q E h=>?_) (fun cdv A outer s H vs Q E hr h=>?_)
 ·obtain ⟨p,us,rows,ks,t,rfl,_⟩:=h
  rfl
 ·obtain ⟨p,us,rows,ks,t,rfl,hp,hpr,ek,lr,lk,hkb,q⟩:=h
  have hrLx:BX 1 _:=hr.mono (by decide)
  have hu:=CN hr
  refine ⟨_,(@Ad _ _ _ _ _ (@Ba _ _ _ _ _ _ 2 Sg.nd rfl (Or.inl rfl) Ac (by kernel_rfl) (.inl rfl))
   (@Ad _ _ _ _ _ (Ef PassesOwn.never rfl (Ju rfl T.enumerate (@Am _ _ _ _ _ rfl (Al GLx hrLx rfl N.FLx.2.2 N.FLx.1.kp N.FLx.2.1 .nil Ay (@Am _ _ _ _ _ rfl (pv 0) Aa)) Aa)) (JF rfl (DR (B_ (i:=3) Sg.nd rfl (Or.inl rfl)) (DR (B_ (i:=4) Sg.nd rfl (Or.inl rfl)) HR))) (@Ae _ _ _ (@Bc _ _ _ _ _ _ _ _ (Az Be (@A_ _ _ _ _ _ _ _ (An (K:=K) rfl) (pv 4) Ac (fun _ _=>rfl)) (pv 1) (BL _)) (@Ae _ _ _ (@Ba _ _ _ _ _ _ 2 Sg.nd rfl (Or.inl rfl) (BP Hc (pv 2) (BP J1 Ac (pv 3))) (by kernel_rfl) (.inl rfl))) BW)))
   (@Ae _ _ _ (@Av _ _ _ _ (pv 2))))),?_⟩
  refine ⟨_,rfl,p,us,rows,rfl,hp,hpr,by omega,fun DK us3 H3 hDK s3 l3 p3=>?_⟩
  rw [ek] at p3
  have hS3:DQ K H3 DK us3:=.inl (.inl l3)
  have l3k:us3.length=ks.length:=p3.length.symm
  refine ⟨DK,rfl,⟨_,hS3⟩,Iv (K:=K) (a:=DK) (xs:=us3) (fun i σ H4=>Ak H3 H4/\∃ v3 v4,σ=[some (.ref p),some (.str t),some (.int ((Wd.mk ((List.range i).filter (My ks t)):Nat):Int)),v3,v4]) ⟨Ak.refl _,_,_,rfl⟩ (fun i σ H4 _ h=>h.1.seq hS3) ?_ ?_⟩
  ·rintro i xv σ H4 T0 hx ⟨s4,v3,v4,rfl⟩ hT
   have hi:i<us3.length:=(List.getElem?_eq_some_iff.mp hx).1
   obtain ⟨r,hr⟩:∃ r,ks[i]? = some r:=⟨_,List.getElem?_eq_getElem (by omega)⟩
   obtain ⟨yr,eyr,tr⟩:=Et p3 hr
   obtain rfl:yr=xv:=Option.some.inj (eyr.symm.trans hx)
   have s5:=Ax (o:=HO.tup [V.int ((i:Nat):Int),yr]) hT
   refine ⟨T0,_,rfl,.inl (.inl Ah),rfl,_,_,rfl,_,_,rfl,rfl,?_⟩
   generalize upd H4 T0 (HO.tup [V.int ((i:Nat):Int),yr])=H5 at s5 ⊢
   obtain ⟨n,rs,er⟩:=hkb r (List.mem_of_getElem? hr)
   obtain ⟨Tr,rfl,hTr⟩:=tr.mono (s4.trans s5)
   have hv:r.v=[V.str r.w,.str r.nm,.str n]++rs:=by
    show V.str r.w::V.str r.nm::r.rest=_
    rw [er]
    rfl
   rw [hv] at hTr
   have eo:My ks t i=decide (V.str n=V.str t):=by
    unfold My
    rw [hr]
    show decide (r.rest.head? = some (V.str t))=_
    rw [er,decide_eq_decide]
    exact ⟨fun z=>Option.some.inj z,fun z=>congrArg some z⟩
   have ef:(List.range (i+1)).filter (My ks t)=(List.range i).filter (My ks t)++(if My ks t i=true then [i] else []):=by
    rw [List.range_succ,List.filter_append]
    congr 1
    rw [List.filter_cons]
    rfl
   refine ⟨_,rfl,Tr,_,_,_,rfl,rfl,.inl (.inl hTr),Aj (j:=2) rfl,_,rfl,rfl,_,rfl,Cq (fun hw=>?_) (fun hw=>?_)⟩
   ·refine ⟨_,rfl,_,rfl,_,_,rfl,rfl,⟨by omega,by omega,by decide⟩,_,_,rfl,rfl,s4.trans s5,some (.int ((i:Nat):Int)),some (.ref Tr),?_⟩
    have hw':My ks t i=true:=eo.trans hw
    rw [ef,if_pos hw',Wd.Lk]
    dsimp only
    rw [Io,Eh]
    rfl
   ·refine ⟨s4.trans s5,some (.int ((i:Nat):Int)),some (.ref Tr),?_⟩
    have hw':¬ My ks t i=true:=fun z=>hw (eo.symm.trans z)
    rw [ef,if_neg hw',List.append_nil]
    rfl
  ·rintro σ H4 ⟨s4,v3,v4,rfl⟩
   refine ⟨_,rfl,?_⟩
   have:=q H4 (s3.trans s4)
   unfold Bs at this
   rw [← l3k] at this
   exact this
theorem De.org {kd a i m:Nat} {S:Pb} (h:De K aB aP aM kd a i m S) (h1:kd<3) (h2:a<5) (h3:i<=12) (hm:m<=100) {H:Hp} {vs:List V} (hv:Paired (fun (r:R) v=>TupAt H r.v v) S.rows vs):Rows H (Gf H) vs/\jz K aB aP aM (Gf H) vs S.bs S.rk S.ks/\linesOf S.rk (vs.map (Gf H))=S.ls/\((vs.filter (pw (Gf H) "step")).map fun v=>stN S.ks (Gf H v))=S.sts:=by
 obtain ⟨mm,wi,erk,r1,r2⟩:=h.rk1
 have lr:=h.lr
 have lk:=h.lk
 have b3:=h.b3
 exact h.bl.fin hv h.b1 (by omega) (fun b hb=>(h.sb b hb).2.2.2) (by rw [erk]; simp) (fun r hr=>by rw [erk] at hr; rw [List.mem_singleton.mp hr]; exact r2) (by omega) h.db (by rw [erk]; exact List.nodup_cons.mpr ⟨List.not_mem_nil,List.nodup_nil⟩) (h.dk h1 h2 h3) (by omega)
theorem Wr {k:Nat} {A:Around} (r:Fx k A) (h:Option Value):Fx k (A.mark h):=⟨r.dp,r.un⟩
noncomputable def nmE:Nat->Str
 | 0=>"knob"
 | 1=>"piston"
 | 2=>"board"
 | _=>"step"
noncomputable def pU (cK cP cB cS:Addr):Nat->Addr
 | 0=>cK
 | 1=>cP
 | 2=>cB
 | _=>cS
noncomputable def aH (cK cP cB cS:Addr):Sp:=fun vs H Q _=>∃ (ex:Addr) (i:Nat),vs=[.ref ex]/\H ex=some (Cd ex (pU cK cP cB cS i) none)/\i<4/\∀ D H',H D=none->Ak H H'->H' D=some (.lst [.str (nmE i)])->Q (.ref D) H'
theorem Zm:Ao ["_law_e","_law_some"] ["_law_e"] (Af jL):=Bm
include N T in
theorem cN:M5 P w K mg base Bg 1 fLm dLm ["_law_e"] (aH cK cP cB cS):=by
 refine N.FLm.1.oh Zm (fun vs H Q E h=>?_) (fun cdv A outer s H vs Q E hr h=>?_)
 ·obtain ⟨ex,i,rfl,_⟩:=h
  rfl
 ·obtain ⟨ex,i,rfl,hx,hi,q⟩:=h
  refine ⟨_,(@Ad _ _ _ _ _ (@Ba _ _ _ _ _ _ 1 Zm.nd rfl (Or.inl rfl) (@Dz _ _ _ _ Aa) (by kernel_rfl) (.inl rfl))
   (@Ad _ _ _ _ _ (@Bc _ _ _ _ _ _ _ _ (DN (BK (FQ (K:=K) rfl) rfl T.isin PyProof.Rows.boot_isinstance (@Am _ _ _ _ _ rfl (pv 0) (@Am _ _ _ _ _ rfl (Bu (v:=.ref cK) rfl T.x4.mK rfl) Aa)))) (@Ae _ _ _ (CK (El PySem.F.plainAttrs_list PySem.F.slot_list_append PySem.F.type_list_append Br (pv 1) (@Am _ _ _ _ _ rfl BR Aa)))) BW)
   (@Ad _ _ _ _ _ (@Bc _ _ _ _ _ _ _ _ (DN (BK (FQ (K:=K) rfl) rfl T.isin PyProof.Rows.boot_isinstance (@Am _ _ _ _ _ rfl (pv 0) (@Am _ _ _ _ _ rfl (Bu (v:=.ref cP) rfl T.x4.mP rfl) Aa)))) (@Ae _ _ _ (CK (El PySem.F.plainAttrs_list PySem.F.slot_list_append PySem.F.type_list_append Br (pv 1) (@Am _ _ _ _ _ rfl BR Aa)))) BW)
   (@Ad _ _ _ _ _ (@Bc _ _ _ _ _ _ _ _ (DN (BK (FQ (K:=K) rfl) rfl T.isin PyProof.Rows.boot_isinstance (@Am _ _ _ _ _ rfl (pv 0) (@Am _ _ _ _ _ rfl (Bu (v:=.ref cB) rfl T.x4.mB rfl) Aa)))) (@Ae _ _ _ (CK (El PySem.F.plainAttrs_list PySem.F.slot_list_append PySem.F.type_list_append Br (pv 1) (@Am _ _ _ _ _ rfl BR Aa)))) BW)
   (@Ad _ _ _ _ _ (@Bc _ _ _ _ _ _ _ _ (DN (BK (FQ (K:=K) rfl) rfl T.isin PyProof.Rows.boot_isinstance (@Am _ _ _ _ _ rfl (pv 0) (@Am _ _ _ _ _ rfl (Bu (v:=.ref cS) rfl T.x4.mS rfl) Aa)))) (@Ae _ _ _ (CK (El PySem.F.plainAttrs_list PySem.F.slot_list_append PySem.F.type_list_append Br (pv 1) (@Am _ _ _ _ _ rfl BR Aa)))) BW)
   (@Ae _ _ _ (@Av _ _ _ _ (pv 1)))))))),?_⟩
  refine ⟨Bl (by simp),fun p1 hp1=>?_⟩
  obtain ⟨H1,eqH,s1,l1⟩:=Ds (o:=HO.lst []) hp1
  rw [eqH]
  have hx1:=s1 _ _ hx
  obtain rfl | rfl | rfl | rfl:i=0 \/ i=1 \/ i=2 \/ i=3:=by omega
  ·have hx1:H1 ex=some (Cd ex cK none):=hx1
   refine ⟨_,rfl,ex,cK,[],_,_,_,rfl,.bare hx1,T.x4.rK.xc,rfl,T.x4.rK.k0,_,rfl,Cm ?_⟩
   have s2:Ak H (upd H1 p1 (HO.lst ([]++[V.str "knob"]))):=HF s1 hp1
   have hx2:upd H1 p1 (HO.lst ([]++[V.str "knob"])) ex=some (Cd ex cK none):=by rw [Ar (Ai hx hp1)]; exact hx1
   refine ⟨_,rfl,.inl ⟨rfl,_,.inl (.inl l1)⟩,p1,_,_,rfl,rfl,l1,by show 1<=sizeLine; decide,?_⟩
   exact ⟨_,rfl,ex,cK,[],_,_,_,rfl,.bare hx2,T.x4.rK.xc,rfl,T.x4.rK.kf _ (by simp),_,rfl,Bo ⟨_,rfl,ex,cK,[],_,_,_,rfl,.bare hx2,T.x4.rK.xc,rfl,T.x4.rK.kf _ (by simp),_,rfl,Bo ⟨_,rfl,ex,cK,[],_,_,_,rfl,.bare hx2,T.x4.rK.xc,rfl,T.x4.rK.kf _ (by simp),_,rfl,Bo ⟨_,rfl,q p1 _ hp1 s2 Ah⟩⟩⟩⟩
  ·have hx1:H1 ex=some (Cd ex cP none):=hx1
   refine ⟨_,rfl,ex,cP,[],_,_,_,rfl,.bare hx1,T.x4.rP.xc,rfl,T.x4.rP.kf _ (by simp),_,rfl,Bo ⟨_,rfl,ex,cP,[],_,_,_,rfl,.bare hx1,T.x4.rP.xc,rfl,T.x4.rP.k0,_,rfl,Cm ?_⟩⟩
   have s2:Ak H (upd H1 p1 (HO.lst ([]++[V.str "piston"]))):=HF s1 hp1
   have hx2:upd H1 p1 (HO.lst ([]++[V.str "piston"])) ex=some (Cd ex cP none):=by rw [Ar (Ai hx hp1)]; exact hx1
   refine ⟨_,rfl,.inl ⟨rfl,_,.inl (.inl l1)⟩,p1,_,_,rfl,rfl,l1,by show 1<=sizeLine; decide,?_⟩
   exact ⟨_,rfl,ex,cP,[],_,_,_,rfl,.bare hx2,T.x4.rP.xc,rfl,T.x4.rP.kf _ (by simp),_,rfl,Bo ⟨_,rfl,ex,cP,[],_,_,_,rfl,.bare hx2,T.x4.rP.xc,rfl,T.x4.rP.kf _ (by simp),_,rfl,Bo ⟨_,rfl,q p1 _ hp1 s2 Ah⟩⟩⟩
  ·have hx1:H1 ex=some (Cd ex cB none):=hx1
   refine ⟨_,rfl,ex,cB,[],_,_,_,rfl,.bare hx1,T.x4.rB.xc,rfl,T.x4.rB.kf _ (by simp),_,rfl,Bo ⟨_,rfl,ex,cB,[],_,_,_,rfl,.bare hx1,T.x4.rB.xc,rfl,T.x4.rB.kf _ (by simp),_,rfl,Bo ⟨_,rfl,ex,cB,[],_,_,_,rfl,.bare hx1,T.x4.rB.xc,rfl,T.x4.rB.k0,_,rfl,Cm ?_⟩⟩⟩
   have s2:Ak H (upd H1 p1 (HO.lst ([]++[V.str "board"]))):=HF s1 hp1
   have hx2:upd H1 p1 (HO.lst ([]++[V.str "board"])) ex=some (Cd ex cB none):=by rw [Ar (Ai hx hp1)]; exact hx1
   refine ⟨_,rfl,.inl ⟨rfl,_,.inl (.inl l1)⟩,p1,_,_,rfl,rfl,l1,by show 1<=sizeLine; decide,?_⟩
   exact ⟨_,rfl,ex,cB,[],_,_,_,rfl,.bare hx2,T.x4.rB.xc,rfl,T.x4.rB.kf _ (by simp),_,rfl,Bo ⟨_,rfl,q p1 _ hp1 s2 Ah⟩⟩
  ·have hx1:H1 ex=some (Cd ex cS none):=hx1
   refine ⟨_,rfl,ex,cS,[],_,_,_,rfl,.bare hx1,T.x4.rS.xc,rfl,T.x4.rS.kf _ (by simp),_,rfl,Bo ⟨_,rfl,ex,cS,[],_,_,_,rfl,.bare hx1,T.x4.rS.xc,rfl,T.x4.rS.kf _ (by simp),_,rfl,Bo ⟨_,rfl,ex,cS,[],_,_,_,rfl,.bare hx1,T.x4.rS.xc,rfl,T.x4.rS.kf _ (by simp),_,rfl,Bo ⟨_,rfl,ex,cS,[],_,_,_,rfl,.bare hx1,T.x4.rS.xc,rfl,T.x4.rS.k0,_,rfl,Cm ?_⟩⟩⟩⟩
   have s2:Ak H (upd H1 p1 (HO.lst ([]++[V.str "step"]))):=HF s1 hp1
   have hx2:upd H1 p1 (HO.lst ([]++[V.str "step"])) ex=some (Cd ex cS none):=by rw [Ar (Ai hx hp1)]; exact hx1
   refine ⟨_,rfl,.inl ⟨rfl,_,.inl (.inl l1)⟩,p1,_,_,rfl,rfl,l1,by show 1<=sizeLine; decide,?_⟩
   exact ⟨_,rfl,q p1 _ hp1 s2 Ah⟩
inductive Gv where
 | pull (v:V)
 | push (v:V)
 | store (v:V)
 | storeB (v b:V)
 | press (v:V)
 | shoe (v:V)
 | cancel
noncomputable def Gv.v:Gv->List V
 | .pull v=>[.str "pull",v]
 | .push v=>[.str "push",v]
 | .store v=>[.str "store",v]
 | .storeB v b=>[.str "store",v,b]
 | .press v=>[.str "press",v]
 | .shoe v=>[.str "shoe",v]
 | .cancel=>[.str "cancel"]
noncomputable def Xa (v:V):Prop:=v=.non \/ ∃ t,v=.str t/\Tx t
noncomputable def VV (v:V):Prop:=v=.bl true \/ ∃ i,v=.int i
noncomputable def Gv.ok:Gv->Prop
 | .pull v=>Xa v
 | .push v=>Xa v
 | .store v=>VV v
 | .storeB v b=>VV v/\Xa b
 | .press v=>VV v
 | .shoe v=>VV v
 | .cancel=>True
theorem Xa.odd {v:V} (h:Xa v) (H:Hp):E_ H v:=by
 rcases h with rfl | ⟨t,rfl,h⟩
 ·exact .non
 ·exact .str h
theorem VV.odd {v:V} (h:VV v) (H:Hp):E_ H v:=by
 rcases h with rfl | ⟨t,rfl⟩
 ·exact .bl _
 ·exact .int _
theorem Fl {c A B:Prop} [Decidable c] (hc:c) (h:A):if decide c=true then A else B:=by
 rw [decide_eq_true hc,if_pos rfl]
 exact h
theorem X5 {c A B:Prop} [Decidable c] (hc:¬ c) (h:B):if decide c=true then A else B:=by
 rw [decide_eq_false hc,if_neg Bool.false_ne_true]
 exact h
theorem eX {a b:Str} (h:(a == b)=false):¬ V.str a=V.str b:=fun z=>by
 rw [V.str.inj z,beq_self_eq_true] at h
 cases h
theorem Eu {a b:Str} {A B:Prop} (h:B) (hn:(a == b)=false:=by decide +kernel):if decide (V.str a=V.str b)=true then A else B:=X5 (eX hn) h
noncomputable def cX (K:PySem.W.Frag) (aB aP aM:Addr):Sp:=fun vs H Q _=>∃ (p:Addr) (us:List V) (S:Pb) (kd a i:Nat) (n:Int),vs=[.ref p,.int n]/\0<=n/\H p=some (.lst us)/\Paired (fun (r:R) v=>TupAt H r.v v) S.rows us/\De K aB aP aM kd a i (4+3 * i) S/\kd<3/\a<5/\1<=i/\i<=12 /\
 ∀ (T:Addr) (d:Gv) H',H T=none->Ak H H'->H' T=some (.tup d.v)->d.ok->Q (.ref T) H'
theorem QC:Ao ["_law_rows","_law_number","_law_knobs_here","_law_boards","_law_way","_law_more","_law_name_here","_law_board"] ["_law_rows","_law_number"] (Af gZ):=Bm
include N T in
theorem fX:Aw P w K mg base Bg 3 fDe dDe ["_law_rows","_law_number"] (cX K aB aP aM):=by
 have GLx:Aw P w K mg base Bg 1 fLx dLx ["_law_rows"] Rm:=Nf N T
 have GSp:Aw P w K mg base Bg 2 fSp dSp ["_law_rows"] Xh:=W5 N T
 refine N.FDe.1.ok QC (fun vs H Q E h=>?_) (fun cdv A outer s H vs Q E hr h=>?_)
 ·obtain ⟨p,us,S,kd,a,i,n,rfl,_⟩:=h
  rfl
 ·obtain ⟨p,us,S,kd,a,i,n,rfl,hn,hp,hpr,O,k3,a5,i1,i12,q⟩:=h
  have hrLx:BX 1 _:=hr.mono (by decide)
  have hrSp:BX 2 _:=hr.mono (by decide)
  have hu:=CN hr
  refine ⟨_,(@Ad _ _ _ _ _ (@Ba _ _ _ _ _ _ 2 QC.nd rfl (Or.inl rfl) (Al GLx hrLx rfl N.FLx.2.2 N.FLx.1.kp N.FLx.2.1 .nil Ay (@Am _ _ _ _ _ rfl (pv 0) Aa)) (by kernel_rfl) (.inl rfl))
   (@Ad _ _ _ _ _ (Qj (i:=3) QC.nd rfl rfl rfl (Bb (osc:=Af gZ) (N:=["_law_rows","_law_number","_law_knobs_here","_law_boards","_law_way","_law_more","_law_name_here","_law_board"]) rfl rfl (by decide +kernel)) (Bq (pv 0)) (fun _ _ _ _=>(Hn (Az Be (@A_ _ _ _ _ _ _ _ (An (K:=K) rfl) (pv 0) Ac (fun _ _=>rfl)) BR (BL _)))) (fun _ _ _ _=>(@A_ _ _ _ _ _ _ _ (An (K:=K) rfl) (pv 0) Ac (fun _ _=>rfl))))
   (@Ad _ _ _ _ _ (@Ba _ _ _ _ _ _ 4 QC.nd rfl (Or.inl rfl) (BP CT (pv 1) Ac) (by kernel_rfl) (.inl rfl))
   (@Ad _ _ _ _ _ (@Ba _ _ _ _ _ _ 5 QC.nd rfl (Or.inl rfl) (BP GK (pv 1) Ac) (by kernel_rfl) (.inl rfl))
   (@Ad _ _ _ _ _ (@Ba _ _ _ _ _ _ 6 QC.nd rfl (Or.inl rfl) (@A_ _ _ _ _ _ _ _ (An (K:=K) rfl) (@A_ _ _ _ _ _ _ _ (Fo (K:=K) rfl) (pv 2) (BP CT (pv 5) (BK BZ rfl T.len PySem.boot_len (@Am _ _ _ _ _ rfl (pv 2) Aa))) (fun _ _=>rfl)) Ac (fun _ _=>rfl)) (by kernel_rfl) (.inl rfl))
   (@Ad _ _ _ _ _ (@Ba _ _ _ _ _ _ 7 QC.nd rfl (Or.inl rfl) (@A_ _ _ _ _ _ _ _ (Fo (K:=K) rfl) (pv 3) (BP CT (BP GK (pv 5) Ac) (BK BZ rfl T.len PySem.boot_len (@Am _ _ _ _ _ rfl (pv 3) Aa))) (fun _ _=>rfl)) (by kernel_rfl) (.inl rfl))
   (@Ad _ _ _ _ _ (@Bc _ _ _ _ _ _ _ _ (Az Jg (pv 4) Ac (BL _)) (@Ae _ _ _ (@Av _ _ _ _ (@Bt _ _ _ _ _ (@Am _ _ _ _ _ rfl BR (@Am _ _ _ _ _ rfl (pv 6) Aa))))) BW)
   (@Ad _ _ _ _ _ (@Bc _ _ _ _ _ _ _ _ (Az Be (pv 4) Ac (BL _)) (@Ae _ _ _ (@Av _ _ _ _ (@Bt _ _ _ _ _ (@Am _ _ _ _ _ rfl BR (@Am _ _ _ _ _ rfl (pv 6) Aa))))) BW)
   (@Ad _ _ _ _ _ (@Bc _ _ _ _ _ _ _ _ (Az Be (pv 4) Ac (BL _)) (@Ae _ _ _ (@Av _ _ _ _ (@Bt _ _ _ _ _ (@Am _ _ _ _ _ rfl BR (@Am _ _ _ _ _ rfl (BP CT (BP CT (pv 5) Ac) Ac) Aa))))) BW)
   (@Ad _ _ _ _ _ (@Bc _ _ _ _ _ _ _ _ (Az Be (pv 4) Ac (BL _)) (@Ae _ _ _ (@Av _ _ _ _ (@Bt _ _ _ _ _ (@Am _ _ _ _ _ rfl BR (@Am _ _ _ _ _ rfl (BP CT (BP CT (pv 5) Ac) Ac) (@Am _ _ _ _ _ rfl (pv 7) Aa)))))) BW)
   (@Ad _ _ _ _ _ (@Bc _ _ _ _ _ _ _ _ (Az Be (pv 4) Ac (BL _)) (@Ae _ _ _ (@Av _ _ _ _ (@Bt _ _ _ _ _ (@Am _ _ _ _ _ rfl BR (@Am _ _ _ _ _ rfl (BP CT (BP CT (pv 5) Ac) Ac) Aa))))) BW)
   (@Ad _ _ _ _ _ (@Bc _ _ _ _ _ _ _ _ (Az Be (pv 4) Ac (BL _)) (@Ae _ _ _ (@Av _ _ _ _ (@Bt _ _ _ _ _ (@Am _ _ _ _ _ rfl BR (@Am _ _ _ _ _ rfl (BP CT (pv 5) Ac) Aa))))) BW)
   (@Ad _ _ _ _ _ (@Bc _ _ _ _ _ _ _ _ (Az Be (pv 4) Ac (BL _)) (@Ae _ _ _ (@Av _ _ _ _ (@Bt _ _ _ _ _ (@Am _ _ _ _ _ rfl BR (@Am _ _ _ _ _ rfl (BP CT (pv 5) (BP Dp (BK BZ rfl T.len PySem.boot_len (@Am _ _ _ _ _ rfl (Al GSp hrSp rfl N.FSp.2.2 N.FSp.1.kp N.FSp.2.1 .nil Ay (@Am _ _ _ _ _ rfl (pv 0) Aa)) Aa)) Ac)) Aa))))) BW)
   (@Ad _ _ _ _ _ (@Bc _ _ _ _ _ _ _ _ (PW.pt (JH (Az Be (pv 4) Ac (BL _)) (HW (Az Be (BP CT (pv 5) Ac) Ac (BL _))))) (@Ae _ _ _ (@Av _ _ _ _ (@Bt _ _ _ _ _ (@Am _ _ _ _ _ rfl BR Aa)))) BW)
   (@Ad _ _ _ _ _ (@Bc _ _ _ _ _ _ _ _ (Az Be (pv 4) Ac (BL _)) (@Ae _ _ _ (@Av _ _ _ _ (@Bt _ _ _ _ _ (@Am _ _ _ _ _ rfl BR (@Am _ _ _ _ _ rfl (BP CT (pv 5) Ac) (@Am _ _ _ _ _ rfl Ga Aa)))))) BW)
   (@Ae _ _ _ (@Av _ _ _ _ (@A_ _ _ _ _ _ _ _ (Fo (K:=K) rfl) (@Dz _ _ _ _ (@Am _ _ _ _ _ rfl (@Bt _ _ _ _ _ (@Am _ _ _ _ _ rfl BR (@Am _ _ _ _ _ rfl (pv 7) Aa))) (@Am _ _ _ _ _ rfl (@Bt _ _ _ _ _ (@Am _ _ _ _ _ rfl BR (@Am _ _ _ _ _ rfl Ga Aa))) (@Am _ _ _ _ _ rfl (@Bt _ _ _ _ _ (@Am _ _ _ _ _ rfl BR (@Am _ _ _ _ _ rfl Ac Aa))) (@Am _ _ _ _ _ rfl (@Bt _ _ _ _ _ (@Am _ _ _ _ _ rfl BR (@Am _ _ _ _ _ rfl (QV Sy Ac) Aa))) (@Am _ _ _ _ _ rfl (@Bt _ _ _ _ _ (@Am _ _ _ _ _ rfl BR (@Am _ _ _ _ _ rfl Hg Aa))) (@Am _ _ _ _ _ rfl (@Bt _ _ _ _ _ (@Am _ _ _ _ _ rfl BR (@Am _ _ _ _ _ rfl Ac (@Am _ _ _ _ _ rfl (pv 6) Aa)))) Aa))))))) (BP CT (pv 5) Ac) (fun _ _=>rfl))))))))))))))))))),?_⟩
  have lk:=O.lk
  have lr:=O.lr
  have lus:us.length=S.rows.length:=hpr.length.symm
  have b1:=O.b1
  have b3:=O.b3
  have gr:∀ n∈En S.ks,Tx n:=fun n hn=>by
   obtain ⟨r,hr,rfl⟩:=List.mem_map.mp hn
   obtain ⟨j,hj,e⟩:=O.kn hr
   rw [e]
   exact (JG (JP k3 a5 (by omega))).1.tx
  have St:nA S.rows S.ks S.sts:=⟨O.ek,O.bl.st,O.bl.Ld,by omega,by omega⟩
  obtain ⟨_,O8,_,_⟩:=De.org O k3 a5 i12 (by omega) hpr
  refine ⟨_,rfl,p,us,S.rows,rfl,hp,hpr,by omega,fun DK us3 H3 hDK s3 l3 p3=>?_⟩
  rw [O.ek] at p3
  have l3k:us3.length=S.ks.length:=p3.length.symm
  have hp3:=s3 _ _ hp
  have hpr3:=Aq s3 hpr
  obtain ⟨_,O8,_,_⟩:=De.org O k3 a5 i12 (by omega) hpr3
  have hS2:DQ K H3 p us:=.inl (.inl hp3)
  refine ⟨_,rfl,p,rfl,⟨_,hS2⟩,Cv (K:=K) (xs:=us) (pw (Gf H3) "board") (Kh H3 1) hS2 (BJ (by omega)) (fun y hy Hx hs R kk=>?_) (fun y hy _ Hx hs R kk=>?_) (fun pB H4 hpB s4 hl4=>?_)⟩
  ·obtain ⟨T0,rfl,hT⟩:=((JB hpr3) y hy).mono hs
   exact (wT hT (kk Hx (Ak.refl Hx)))
  ·obtain ⟨b',_,hx'⟩:=CZ hpr3 hy
   have e:=GF hx' 1
   obtain ⟨T0,rfl,hT⟩:=hx'.mono hs
   refine ⟨_,rfl,T0,_,_,_,rfl,rfl,.inl (.inl hT),Aj (j:=1) rfl,?_⟩
   have:=kk Hx (Ak.refl Hx)
   rw [e] at this
   exact this
  have e3:(us.filter (pw (Gf H3) "board")).map (Kh H3 1)=(S.bs.map (·.1)).map V.str:=by
   have e:(us.filter (pw (Gf H3) "board")).map (Kh H3 1)=((us.filter (pw (Gf H3) "board")).map (Gf H3)).map fun r=>V.str r.nm:=by
    rw [List.map_map]
    refine List.map_congr_left fun y hy=>?_
    obtain ⟨b',_,hx'⟩:=CZ hpr3 (List.mem_filter.mp hy).1
    show Kh H3 1 y=V.str (Gf H3 y).nm
    rw [GF hx' 1,Hv hx']
    rfl
   rw [e,O8.eb,List.map_map,List.map_map]
   rfl
  rw [e3] at hl4
  have lbs:((S.bs.map (·.1)).map V.str).length=S.bs.length:=by rw [List.length_map,List.length_map]
  have s04:=s3.trans s4
  have l34:=s4 _ _ l3
  refine ⟨_,rfl,_,_,rfl,rfl,(by show (0:Int)<12; decide),_,rfl,_,_,rfl,rfl,⟨by decide,by decide⟩,?_⟩
  dsimp only
  obtain ⟨wy,ewy⟩:∃ wy,n % 12=wy:=⟨_,rfl⟩
  obtain ⟨mo,emo,hmo⟩:∃ mo,n / 12=mo/\0<=mo:=⟨_,rfl,by omega⟩
  rw [ewy,emo]
  obtain ⟨j1,hj1,ej1⟩:∃ j:Nat,j<S.ks.length/\mo % ((us3.length:Nat):Int)=(j:Int):=by
   have h0:=Int.emod_nonneg mo (show ((us3.length:Nat):Int) ≠ 0 by omega)
   have h1:=Int.emod_lt_of_pos mo (show (0:Int)<((us3.length:Nat):Int) by omega)
   obtain ⟨j,hj⟩:=Int.eq_ofNat_of_zero_le h0
   exact ⟨j,by omega,hj⟩
  obtain ⟨rn,hrn⟩:∃ r,S.ks[j1]? = some r:=⟨_,List.getElem?_eq_getElem hj1⟩
  obtain ⟨yr,eyr,Tr,rfl,tr⟩:=Et p3 hrn
  have txn:Tx rn.nm:=gr _ (List.mem_map_of_mem (List.mem_of_getElem? hrn))
  refine ⟨_,rfl,_,rfl,_,rfl,DK,_,rfl,.inl (.inl (.inl l34)),_,_,rfl,rfl,(by show (0:Int)<((us3.length:Nat):Int); omega),DK,us3,_,_,rfl,rfl,.inl (.inl l34),(by rw [ej1]; exact Aj eyr),Tr,_,_,_,rfl,rfl,.inl (.inl (s4 _ _ tr)),Aj (j:=1) rfl,?_⟩
  obtain ⟨j2,hj2,ej2⟩:∃ j:Nat,j<S.bs.length/\mo / 16 % ((((S.bs.map (·.1)).map V.str).length:Nat):Int)=(j:Int):=by
   have h0:=Int.emod_nonneg (mo / 16) (show (((((S.bs.map (·.1)).map V.str).length:Nat)):Int) ≠ 0 by omega)
   have h1:=Int.emod_lt_of_pos (mo / 16) (show (0:Int)<(((((S.bs.map (·.1)).map V.str).length:Nat)):Int) by omega)
   obtain ⟨j,hj⟩:=Int.eq_ofNat_of_zero_le h0
   exact ⟨j,by omega,hj⟩
  obtain ⟨b0,hb0⟩:∃ b,S.bs[j2]? = some b:=⟨_,List.getElem?_eq_getElem hj2⟩
  have txb:Tx b0.1:=(O.sb b0 (List.mem_of_getElem? hb0)).1.tx
  have eb0:((S.bs.map (·.1)).map V.str)[j2]? = some (.str b0.1):=by rw [List.getElem?_map,List.getElem?_map,hb0]; rfl
  refine ⟨_,rfl,_,rfl,_,_,rfl,rfl,⟨by decide,by decide⟩,_,rfl,pB,_,rfl,.inl (.inl (.inl hl4)),_,_,rfl,rfl,(by show (0:Int)<(((((S.bs.map (·.1)).map V.str).length:Nat)):Int); omega),pB,_,_,_,rfl,rfl,.inl (.inl hl4),(by rw [ej2]; exact Aj eb0),?_⟩
  have fin:∀ (d:Gv) (T:Addr),H4 T=none->d.ok->Q (.ref T) (upd H4 T (.tup d.v)):=fun d T hT hd=>q T d _ (s04.free hT) (s04.trans (Ax hT)) Ah hd
  refine ⟨_,rfl,_,_,rfl,rfl,_,rfl,Cq (fun _=>⟨_,rfl,by show 2<=sizeLine; decide,fun T hT=>fin (.pull _) T hT (.inr ⟨_,rfl,txn⟩)⟩) (fun _=>?_)⟩
  refine ⟨_,rfl,rfl,_,rfl,Cq (fun _=>⟨_,rfl,by show 2<=sizeLine; decide,fun T hT=>fin (.push _) T hT (.inr ⟨_,rfl,txn⟩)⟩) (fun _=>?_)⟩
  refine ⟨_,rfl,rfl,_,rfl,Cq (fun _=>⟨_,rfl,_,_,rfl,rfl,(by show (0:Int)<10; decide),_,_,rfl,rfl,(by show (0:Int)<4; decide),by show 2<=sizeLine; decide,fun T hT=>fin (.store _) T hT (.inr ⟨_,rfl⟩)⟩) (fun _=>?_)⟩
  refine ⟨_,rfl,rfl,_,rfl,Cq (fun _=>⟨_,rfl,_,_,rfl,rfl,(by show (0:Int)<10; decide),_,_,rfl,rfl,(by show (0:Int)<4; decide),_,rfl,by show 3<=sizeLine; decide,fun T hT=>fin (.storeB _ _) T hT ⟨.inr ⟨_,rfl⟩,.inr ⟨_,rfl,txb⟩⟩⟩) (fun _=>?_)⟩
  refine ⟨_,rfl,rfl,_,rfl,Cq (fun _=>⟨_,rfl,_,_,rfl,rfl,(by show (0:Int)<10; decide),_,_,rfl,rfl,(by show (0:Int)<4; decide),by show 2<=sizeLine; decide,fun T hT=>fin (.press _) T hT (.inr ⟨_,rfl⟩)⟩) (fun _=>?_)⟩
  refine ⟨_,rfl,rfl,_,rfl,Cq (fun _=>⟨_,rfl,_,_,rfl,rfl,(by show (0:Int)<10; decide),by show 2<=sizeLine; decide,fun T hT=>fin (.press _) T hT (.inr ⟨_,rfl⟩)⟩) (fun _=>?_)⟩
  refine ⟨_,rfl,rfl,_,rfl,Cq (fun _=>?_) (fun _=>?_)⟩
  ·refine ⟨_,rfl,_,rfl,p,us,S.rows,S.ks,S.sts,rfl,s04 _ _ hp,Aq s04 hpr,St,fun DS H5 hDS s5 l5=>⟨DS,_,rfl,.inl (.inl (.inl l5)),_,_,rfl,rfl,_,_,rfl,rfl,(by show (0:Int)<(((nV S.sts).length:Nat):Int)+1; omega),by show 2<=sizeLine; decide,fun T hT=>?_⟩⟩
   exact q T (.shoe _) _ (s04.free (s5.free hT)) (s04.trans (s5.trans (Ax hT))) Ah (.inr ⟨_,rfl⟩)
  unfold W0
  dsimp only
  refine oR (fun b H1=>H1=H4) (fun Q1 qt qf=>⟨_,rfl,rfl,_,rfl,Cq (fun _=>⟨_,rfl,_,_,rfl,rfl,(by show (0:Int)<4; decide),rfl,_,rfl,?_⟩) (fun _=>qf _ rfl)⟩) (fun H1 e=>?_) (fun H1 e=>?_)
  ·by_cases h4:V.int (mo % 4)=V.int 0
   ·rw [decide_eq_true h4]
    exact qt _ rfl
   ·rw [decide_eq_false h4]
    exact qf _ rfl
  ·subst e
   exact ⟨by show 1<=sizeLine; decide,fun T hT=>fin .cancel T hT trivial⟩
  subst e
  refine ⟨_,rfl,rfl,_,rfl,Cq (fun _=>⟨_,rfl,_,_,rfl,rfl,(by show (0:Int)<10; decide),by show 3<=sizeLine; decide,fun T hT=>fin (.storeB _ _) T hT ⟨.inr ⟨_,rfl⟩,.inl rfl⟩⟩) (fun _=>?_)⟩
  refine ⟨_,rfl,by show 2<=sizeLine; decide,fun T0 hT0=>?_⟩
  obtain ⟨G0,eqH,t0,u0⟩:=Ds (o:=HO.tup [V.str "pull",.str b0.1]) hT0
  rw [eqH]
  refine ⟨by show 2<=sizeLine; decide,fun T1 hT1=>?_⟩
  obtain ⟨G1,eqH,t1,u1⟩:=Ds (o:=HO.tup [V.str "push",.non]) hT1
  rw [eqH]
  refine ⟨by show 2<=sizeLine; decide,fun T2 hT2=>?_⟩
  obtain ⟨G2,eqH,t2,u2⟩:=Ds (o:=HO.tup [V.str "press",.int 10]) hT2
  rw [eqH]
  refine ⟨_,rfl,by show 2<=sizeLine; decide,fun T3 hT3=>?_⟩
  obtain ⟨G3,eqH,t3,u3⟩:=Ds (o:=HO.tup [V.str "shoe",.int (-1)]) hT3
  rw [eqH]
  refine ⟨by show 2<=sizeLine; decide,fun T4 hT4=>?_⟩
  obtain ⟨G4,eqH,t4,u4⟩:=Ds (o:=HO.tup [V.str "store",.bl true]) hT4
  rw [eqH]
  refine ⟨_,rfl,by show 3<=sizeLine; decide,fun T5 hT5=>?_⟩
  obtain ⟨G5,eqH,t5,u5⟩:=Ds (o:=HO.tup [V.str "store",.int 3,.str rn.nm]) hT5
  rw [eqH]
  refine ⟨by show 6<=sizeLine; decide,fun pL hpL=>?_⟩
  obtain ⟨G6,eqH,t6,u6⟩:=Ds (o:=HO.lst [V.ref T0,.ref T1,.ref T2,.ref T3,.ref T4,.ref T5]) hpL
  rw [eqH]
  obtain ⟨j,hj,ej⟩:∃ j:Nat,j<6/\mo % 6=(j:Int):=⟨(mo % 6).toNat,by omega,by omega⟩
  refine ⟨_,rfl,_,_,rfl,rfl,(by show (0:Int)<6; decide),?_⟩
  dsimp only
  rw [ej]
  obtain rfl | rfl | rfl | rfl | rfl | rfl:j=0 \/ j=1 \/ j=2 \/ j=3 \/ j=4 \/ j=5:=by omega
  ·exact ⟨pL,_,_,_,rfl,rfl,.inl (.inl u6),Aj (j:=0) rfl,q T0 (.pull (.str b0.1)) _ (s04.free hT0) (s04.trans (t0.trans ( t1.trans ( t2.trans ( t3.trans ( t4.trans ( t5.trans (t6)))))))) (t6 _ _ (t5 _ _ (t4 _ _ (t3 _ _ (t2 _ _ (t1 _ _ (u0))))))) (.inr ⟨_,rfl,txb⟩)⟩
  ·exact ⟨pL,_,_,_,rfl,rfl,.inl (.inl u6),Aj (j:=1) rfl,q T1 (.push .non) _ (s04.free (t0.free hT1)) (s04.trans (t0.trans ( t1.trans ( t2.trans ( t3.trans ( t4.trans ( t5.trans (t6)))))))) (t6 _ _ (t5 _ _ (t4 _ _ (t3 _ _ (t2 _ _ (u1)))))) (.inl rfl)⟩
  ·exact ⟨pL,_,_,_,rfl,rfl,.inl (.inl u6),Aj (j:=2) rfl,q T2 (.press (.int 10)) _ (s04.free (t0.free (t1.free hT2))) (s04.trans (t0.trans ( t1.trans ( t2.trans ( t3.trans ( t4.trans ( t5.trans (t6)))))))) (t6 _ _ (t5 _ _ (t4 _ _ (t3 _ _ (u2))))) (.inr ⟨_,rfl⟩)⟩
  ·exact ⟨pL,_,_,_,rfl,rfl,.inl (.inl u6),Aj (j:=3) rfl,q T3 (.shoe (.int (-1))) _ (s04.free (t0.free (t1.free (t2.free hT3)))) (s04.trans (t0.trans ( t1.trans ( t2.trans ( t3.trans ( t4.trans ( t5.trans (t6)))))))) (t6 _ _ (t5 _ _ (t4 _ _ (u3)))) (.inr ⟨_,rfl⟩)⟩
  ·exact ⟨pL,_,_,_,rfl,rfl,.inl (.inl u6),Aj (j:=4) rfl,q T4 (.store (.bl true)) _ (s04.free (t0.free (t1.free (t2.free (t3.free hT4))))) (s04.trans (t0.trans ( t1.trans ( t2.trans ( t3.trans ( t4.trans ( t5.trans (t6)))))))) (t6 _ _ (t5 _ _ (u4))) (.inl rfl)⟩
  ·exact ⟨pL,_,_,_,rfl,rfl,.inl (.inl u6),Aj (j:=5) rfl,q T5 (.storeB (.int 3) (.str rn.nm)) _ (s04.free (t0.free (t1.free (t2.free (t3.free (t4.free hT5)))))) (s04.trans (t0.trans ( t1.trans ( t2.trans ( t3.trans ( t4.trans ( t5.trans (t6)))))))) (t6 _ _ (u5)) ⟨.inr ⟨_,rfl⟩,.inr ⟨_,rfl,txn⟩⟩⟩
open Bw
structure Cs where
 dr:Nat
 sh:Nat
 m:Nat->Option Ps
inductive Rs where
 | told (v:V)
 | no (i:Nat)
noncomputable def Dh (ks:List R):V->Option Nat
 | .str t=>if t∈En ks then some ((En ks).idxOf t) else none
 | _=>none
noncomputable def Dk:V->Option Nat
 | .int i=>if 0<=i/\i<10 then some i.toNat else none
 | _=>none
noncomputable def Gj (n:Nat):V->Option Nat
 | .int i=>if 0<=i/\i<=(n:Nat) then some i.toNat else none
 | _=>none
noncomputable def XS (ns:List Str) (ks:List R) (dr:Nat):V->Option Ps
 | .non=>some (.every dr)
 | .str t=>if t∈ns then some (.part (dr &&& Bs ks t) (Bs ks t)) else none
 | _=>none
noncomputable def Jm (up:Bool) (dr k:Nat):Nat:=if up then dr ||| 2 ^ k else dr - (dr &&& 2 ^ k)
noncomputable def act (ns:List Str) (ks:List R) (n:Nat) (s:Cs):Gv->Cs × Rs
 | .pull v=>match Dh ks v with
  | some k=>(⟨Jm true s.dr k,s.sh,s.m⟩,.told (.bl (!decide (Jm true s.dr k=s.dr))))
  | none=>(s,.no 0)
 | .push v=>match Dh ks v with
  | some k=>(⟨Jm false s.dr k,s.sh,s.m⟩,.told (.bl (!decide (Jm false s.dr k=s.dr))))
  | none=>(s,.no 0)
 | .store v=>match Dk v with
  | some p=>(⟨s.dr,s.sh,GZ s.m p (.every s.dr)⟩,.told .non)
  | none=>(s,.no 1)
 | .storeB v b=>match Dk v with
  | some p=>match XS ns ks s.dr b with
   | some ps=>(⟨s.dr,s.sh,GZ s.m p ps⟩,.told .non)
   | none=>(s,.no 2)
  | none=>(s,.no 1)
 | .press v=>match (Dk v).bind s.m with
  | some ps=>(⟨ps.put s.dr,s.sh,s.m⟩,.told .non)
  | none=>(s,.no 1)
 | .shoe v=>match Gj n v with
  | some i=>(⟨s.dr,i,s.m⟩,.told .non)
  | none=>(s,.no 3)
 | .cancel=>(⟨0,0,s.m⟩,.told .non)
noncomputable def o8 (H H':Hp):Rs->V->Prop
 | .told u,v=>v=u
 | .no i,v=>i<4/\∃ D,v=.ref D/\H D=none/\H' D=some (.lst [.str (nmE i)])
theorem QM {ks:List R} {v:V} (h:Gh (En ks) v=.non):Dh ks v=none:=by
 cases v with
 | str t=>exact if_neg fun z=>Td h rfl z
 | _=>rfl
theorem U9 {v:V} (h:Jc v=false):Dk v=none:=by
 cases v with
 | int i =>
  refine if_neg fun z=>?_
  have h1:(decide (0<=i) && decide (i<10))=false:=h
  rw [decide_eq_true z.1,decide_eq_true z.2] at h1
  cases h1
 | _=>rfl
theorem Ir {p:Nat} (h:p<10):Dk (.int (p:Nat))=some p:=if_pos ⟨by omega,by omega⟩
theorem Mi {v:V} {p:Nat} (h:Dk v=some p):v=.int (p:Nat)/\p<10:=by
 cases v with
 | int i =>
  have h1:(if 0<=i/\i<10 then some i.toNat else none)=some p:=h
  by_cases c:0<=i/\i<10
  ·rw [if_pos c] at h1
   have:=Option.some.inj h1
   exact ⟨congrArg V.int (by omega),by omega⟩
  ·rw [if_neg c] at h1
   cases h1
 | _=>cases h
theorem Wl {n:Nat} {v:V} (h:YH n v=false):Gj n v=none:=by
 cases v with
 | int i =>
  refine if_neg fun z=>?_
  have h1:(decide (0<=i) && decide (i<=(n:Nat)))=false:=h
  rw [decide_eq_true z.1,decide_eq_true z.2] at h1
  cases h1
 | _=>rfl
theorem Sv {n i:Nat} (h:i<=n):Gj n (.int (i:Nat))=some i:=if_pos ⟨by omega,by omega⟩
section
variable {ns:List Str} {ks:List R} {n:Nat} {s:Cs} {v b:V}
theorem Tw {t:Str} (h:t∈En ks):act ns ks n s (.pull (.str t))=(⟨Jm true s.dr ((En ks).idxOf t),s.sh,s.m⟩,.told (.bl (!decide (Jm true s.dr ((En ks).idxOf t)=s.dr)))):=by
 unfold act
 dsimp only
 rw [show Dh ks (.str t)=some _ from if_pos h]
theorem Sw {t:Str} (h:t∈En ks):act ns ks n s (.push (.str t))=(⟨Jm false s.dr ((En ks).idxOf t),s.sh,s.m⟩,.told (.bl (!decide (Jm false s.dr ((En ks).idxOf t)=s.dr)))):=by
 unfold act
 dsimp only
 rw [show Dh ks (.str t)=some _ from if_pos h]
theorem Rb (h:Gh (En ks) v=.non):act ns ks n s (.pull v)=(s,.no 0):=by
 unfold act
 dsimp only
 rw [QM h]
theorem RN (h:Gh (En ks) v=.non):act ns ks n s (.push v)=(s,.no 0):=by
 unfold act
 dsimp only
 rw [QM h]
theorem RC {p:Nat} (h:p<10):act ns ks n s (.store (.int (p:Nat)))=(⟨s.dr,s.sh,GZ s.m p (.every s.dr)⟩,.told .non):=by
 unfold act
 dsimp only
 rw [Ir h]
theorem Pg (h:Jc v=false):act ns ks n s (.store v)=(s,.no 1):=by
 unfold act
 dsimp only
 rw [U9 h]
theorem P0 {p:Nat} (h:p<10):act ns ks n s (.storeB (.int (p:Nat)) .non)=(⟨s.dr,s.sh,GZ s.m p (.every s.dr)⟩,.told .non):=by
 unfold act
 dsimp only
 rw [Ir h]
 rfl
theorem PJ {p:Nat} (h:p<10) {t:Str} (ht:t∈ns):act ns ks n s (.storeB (.int (p:Nat)) (.str t))=(⟨s.dr,s.sh,GZ s.m p (.part (s.dr &&& Bs ks t) (Bs ks t))⟩,.told .non):=by
 unfold act
 dsimp only
 rw [Ir h,show XS ns ks s.dr (.str t)=some _ from if_pos ht]
theorem N6 (h:Jc v=false):act ns ks n s (.storeB v b)=(s,.no 1):=by
 unfold act
 dsimp only
 rw [U9 h]
theorem Nk (h:Jc v=true) (h1:b ≠ .non) (h2:Gh ns b=.non):act ns ks n s (.storeB v b)=(s,.no 2):=by
 obtain ⟨p,rfl,hp⟩:=PP h
 unfold act
 dsimp only
 rw [Ir hp]
 have e:XS ns ks s.dr b=none:=by
  cases b with
  | non=>exact (h1 rfl).elim
  | str t=>exact if_neg fun z=>Td h2 rfl z
  | _=>rfl
 rw [e]
theorem Rj {p:Nat} {ps:Ps} (h:p<10) (hm:s.m p=some ps):act ns ks n s (.press (.int (p:Nat)))=(⟨ps.put s.dr,s.sh,s.m⟩,.told .non):=by
 unfold act
 dsimp only
 rw [Ir h,Option.bind_some,hm]
theorem Px (h:∀ p:Nat,v=.int (p:Nat)->p<10->s.m p=none):act ns ks n s (.press v)=(s,.no 1):=by
 unfold act
 dsimp only
 have e:(Dk v).bind s.m=none:=by
  cases z:Dk v with
  | none=>rfl
  | some p =>
   obtain ⟨e,hp⟩:=Mi z
   exact h p e hp
 rw [e]
theorem TF {i:Nat} (h:i<=n):act ns ks n s (.shoe (.int (i:Nat)))=(⟨s.dr,i,s.m⟩,.told .non):=by
 unfold act
 dsimp only
 rw [Sv h]
theorem Rw (h:YH n v=false):act ns ks n s (.shoe v)=(s,.no 3):=by
 unfold act
 dsimp only
 rw [Wl h]
end
noncomputable def Fb (H H':Hp) (a b:Addr):Prop:=∀ c o,H c=some o->c ≠ a->c ≠ b->H' c=some o
theorem Dd.le {C Cy pE pA:Addr} {Ho H:Hp} {y x:Addr} {bs:List (Str × Nat)} {ks:List R} {sts:List Nat} {dr sh:Nat} {sd:Addr} {m:Nat->Option Ps} {c c':Nat} (h:Dd C Cy pE pA Ho H y x bs ks sts dr sh sd m c) (hc:c<=c'):Dd C Cy pE pA Ho H y x bs ks sts dr sh sd m c':=by
 obtain ⟨kvs,e1,e2,e3⟩:=h.st.ex
 exact ⟨h.o,h.f,h.hs,h.ny,kvs,e1,Nat.le_trans e2 hc,e3⟩
theorem FW.mQ {C Cy:Addr} {Ho H:Hp} {y x:Addr} {ks:List R} {sts:List Nat} {dr sh:Nat} {sd:Addr} (h:FW C Cy Ho H y x ks sts dr sh sd):Df Cy H y x dr sh sd:=by
 obtain ⟨⟨us,bs,rk,ls,h1⟩,h2,h3⟩:=h
 exact h1.c
noncomputable def Z8 (C Cy pE pA:Addr):Sp:=fun vs H Q _=>∃ (Ho:Hp) (y x:Addr) (bs:List (Str × Nat)) (ks:List R) (sts:List Nat) (s:Cs) (sd:Addr) (c:Nat) (T:Addr) (d:Gv),vs=[.ref y,.ref T]/\Dd C Cy pE pA Ho H y x bs ks sts s.dr s.sh sd s.m c/\c<900/\H T=some (.tup d.v)/\d.ok /\
 ∀ v H',Fb H H' y sd->Dd C Cy pE pA Ho H' y x bs ks sts (act (bs.map (·.1)) ks sts.length s d).1.dr (act (bs.map (·.1)) ks sts.length s d).1.sh sd (act (bs.map (·.1)) ks sts.length s d).1.m (c+1)->o8 H H' (act (bs.map (·.1)) ks sts.length s d).2 v->Q v H'
theorem Ji:Ao ["_law_console","_law_deed_here","_law_told","_law_found","_law_e"] ["_law_console","_law_deed_here"] (Af lK):=Bm
include N T in
theorem bc:Aw P w K mg base Bg 7 fDo dDo ["_law_console","_law_deed_here"] (Z8 C Cy pE pA):=by
 have GXr:Aw P w K mg base (Ij P w) 3 fXr dXr ["self","piston"] (ZF C Cy pE pA cP):=W3 N T
 have GXt:Aw P w K mg base (Ij P w) 6 fXt dXt ["self","piston","board"] (fG C Cy pE pA cP cB):=Z_ N T
 have GXp:Aw P w K mg base (Ij P w) 5 fXp dXp ["self","name"] (Vd true C Cy cK):=Zh N T
 have GXq:Aw P w K mg base (Ij P w) 5 fXq dXq ["self","name"] (Vd false C Cy cK):=du N T
 have GXh:Aw P w K mg base (Ij P w) 3 fXh dXh ["self","step"] (dj C Cy cS):=Za N T
 have GXc:Aw P w K mg base Bg 2 fXc dXc ["self"] (b_ C Cy pE pA):=Z3 N T
 have GLm:M5 P w K mg base Bg 1 fLm dLm ["_law_e"] (aH cK cP cB cS):=cN N T
 refine N.FDo.1.ok Ji (fun vs H Q E h=>?_) (fun cdv A outer s0 H vs Q E hr h=>?_)
 ·obtain ⟨Ho,y,x,bs,ks,sts,s,sd,c,T,d,rfl,_⟩:=h
  rfl
 ·obtain ⟨Ho,y,x,bs,ks,sts,s,sd,c,T0,d,rfl,O,hc,hT,hd,q⟩:=h
  have hrXr:BX 3 _:=hr.mono (by decide)
  have hrXt:BX 6 _:=hr.mono (by decide)
  have hrXp:BX 5 _:=hr.mono (by decide)
  have hrXq:BX 5 _:=hr.mono (by decide)
  have hrXh:BX 3 _:=hr.mono (by decide)
  have hrXc:BX 2 _:=hr.mono (by decide)
  have hu:=CN hr
  refine ⟨_,(@Ad _ _ _ _ _ (@Ba _ _ _ _ _ _ 2 Ji.nd rfl (Or.inl rfl) Ga (by kernel_rfl) (.inl rfl))
   (@Ad _ _ _ _ _ (@Ba _ _ _ _ _ _ 3 Ji.nd rfl (Or.inl rfl) (@Dz _ _ _ _ Aa) (by kernel_rfl) (.inl rfl))
   (@Ad _ _ _ _ _ (V0 (fun ER=>(DY (JZ (Az Be (@A_ _ _ _ _ _ _ _ (An (K:=K) rfl) (pv 1) Ac (fun _ _=>rfl)) BR (BL _)) (DY (HX (i:=2) Ji.nd rfl (Or.inl rfl) (Fj (pv 0) T.clR N.FXp.2.2 GXp hrXp N.FXp.2.1 .nil (@Am _ _ _ _ _ rfl (@A_ _ _ _ _ _ _ _ (An (K:=K) rfl) (pv 1) Ac (fun _ _=>rfl)) Aa) rfl))) (DY (JZ (Az Be (@A_ _ _ _ _ _ _ _ (An (K:=K) rfl) (pv 1) Ac (fun _ _=>rfl)) BR (BL _)) (DY (HX (i:=2) Ji.nd rfl (Or.inl rfl) (Fj (pv 0) T.clR N.FXq.2.2 GXq hrXq N.FXq.2.1 .nil (@Am _ _ _ _ _ rfl (@A_ _ _ _ _ _ _ _ (An (K:=K) rfl) (pv 1) Ac (fun _ _=>rfl)) Aa) rfl))) (DY (JZ (PW.pt (JH (Az Be (@A_ _ _ _ _ _ _ _ (An (K:=K) rfl) (pv 1) Ac (fun _ _=>rfl)) BR (BL _)) (HW (Az Be (BK BZ rfl T.len PySem.boot_len (@Am _ _ _ _ _ rfl (pv 1) Aa)) Ac (BL _))))) (DY (HX (i:=2) Ji.nd rfl (Or.inl rfl) (Fj (dvs:=[.non]) (pv 0) T.clR N.FXt.2.2 GXt hrXt N.bXt0 (.cons rfl .nil) (@Am _ _ _ _ _ rfl (@A_ _ _ _ _ _ _ _ (An (K:=K) rfl) (pv 1) Ac (fun _ _=>rfl)) Aa) rfl))) (DY (JZ (Az Be (@A_ _ _ _ _ _ _ _ (An (K:=K) rfl) (pv 1) Ac (fun _ _=>rfl)) BR (BL _)) (DY (HX (i:=2) Ji.nd rfl (Or.inl rfl) (Fj (pv 0) T.clR N.FXt.2.2 GXt hrXt N.FXt.2.1 .nil (@Am _ _ _ _ _ rfl (@A_ _ _ _ _ _ _ _ (An (K:=K) rfl) (pv 1) Ac (fun _ _=>rfl)) (@Am _ _ _ _ _ rfl (@A_ _ _ _ _ _ _ _ (An (K:=K) rfl) (pv 1) Ac (fun _ _=>rfl)) Aa)) rfl))) (DY (JZ (Az Be (@A_ _ _ _ _ _ _ _ (An (K:=K) rfl) (pv 1) Ac (fun _ _=>rfl)) BR (BL _)) (DY (HX (i:=2) Ji.nd rfl (Or.inl rfl) (Fj (pv 0) T.clR N.FXr.2.2 GXr hrXr N.FXr.2.1 .nil (@Am _ _ _ _ _ rfl (@A_ _ _ _ _ _ _ _ (An (K:=K) rfl) (pv 1) Ac (fun _ _=>rfl)) Aa) rfl))) (DY (JZ (Az Be (@A_ _ _ _ _ _ _ _ (An (K:=K) rfl) (pv 1) Ac (fun _ _=>rfl)) BR (BL _)) (DY (HX (i:=2) Ji.nd rfl (Or.inl rfl) (Fj (pv 0) T.clR N.FXh.2.2 GXh hrXh N.FXh.2.1 .nil (@Am _ _ _ _ _ rfl (@A_ _ _ _ _ _ _ _ (An (K:=K) rfl) (pv 1) Ac (fun _ _=>rfl)) Aa) rfl))) (UW (@Ae _ _ _ (@Ba _ _ _ _ _ _ 2 Ji.nd rfl (Or.inl rfl) (CW (pv 0) T.clR N.FXc.2.2 GXc hrXc N.FXc.2.1 .nil Ay) (by kernel_rfl) (.inl rfl))) rfl) rfl)) rfl)) rfl)) rfl)) rfl)) rfl))) rfl T.x4.mO T.x4.exO Ji.nd (i:=4) rfl rfl (fun x=>(@Ae _ _ _ (@Ba _ _ _ _ _ _ 3 Ji.nd rfl (Or.inl rfl) (S7 GLm (Wr (k:=1) (hr.h.mono (by decide)) _) rfl N.FLm.2.2 N.FLm.1.kp N.FLm.2.1 .nil Ay (@Am _ _ _ _ _ rfl (pv 4) Aa)) (by kernel_rfl) (.inl rfl)))))
   (@Ad _ _ _ _ _ (@Bc _ _ _ _ _ _ _ _ (Az (NT (Nat.lt_of_succ_lt hu)) (pv 3) (@Dz _ _ _ _ Aa) (BL _)) (@Ae _ _ _ (@Av _ _ _ _ (pv 3))) BW)
   (@Ae _ _ _ (@Av _ _ _ _ (pv 2))))))),?_⟩
  refine ⟨Bl (by simp),fun pF hpF=>?_⟩
  obtain ⟨H1,eqH,s1,l1⟩:=Ds (o:=HO.lst []) hpF
  rw [eqH]
  have O1:=O.mono s1
  have hT1:=s1 _ _ hT
  obtain ⟨dy,fs,h1,_,_,_,_,_,lm⟩:=id O1.at.ex
  obtain ⟨kvs,d1,_⟩:=id O1.st.ex
  have pFy:pF ≠ y:=fun z=>by
   rw [z,h1] at l1
   cases l1
  have pFd:pF ≠ sd:=fun z=>by
   rw [z,d1] at l1
   cases l1
  have finN:∀ (i:Nat) (D:Addr) (H4:Hp),act (bs.map (·.1)) ks sts.length s d=(s,.no i)->i<4->Ak H H4->H D=none->H4 D=some (.lst [.str (nmE i)])->∀ E1,H4 E1=none->Q (.ref D) (upd H4 E1 (.lst [])):=fun i D H4 ha hi s4 hD l4 E1 hE1=>by
   have s5:=s4.trans (Ax (o:=HO.lst []) hE1)
   refine q _ _ (fun c o e _ _=>s5 _ _ e) ?_ ?_
   ·rw [ha]
    exact (O.mono s5).le (by omega)
   ·rw [ha]
    exact ⟨hi,D,rfl,hD,(Ax (o:=HO.lst []) hE1) _ _ l4⟩
  have finT:∀ (s':Cs) (u:V) (H2:Hp),act (bs.map (·.1)) ks sts.length s d=(s',.told u)->Fb H1 H2 y sd->Dd C Cy pE pA Ho H2 y x bs ks sts s'.dr s'.sh sd s'.m (c+1)->∀ E1,H2 E1=none->Q u (upd H2 E1 (.lst [])):=fun s' u H2 ha f2 K2 E1 hE1=>by
   have s3:=Ax (o:=HO.lst []) hE1
   refine q _ _ (fun c o e n1 n2=>s3 _ _ (f2 _ _ (s1 _ _ e) n1 n2)) ?_ ?_
   ·rw [ha]
    exact K2.mono s3
   ·rw [ha]
    rfl
  have fy:∀ {H2},SX y H1 H2->Fb H1 H2 y sd:=fun {_} c b o e n _=>c b o e n
  have fd:∀ {H2},SX sd H1 H2->Fb H1 H2 y sd:=fun {_} c b o e _ n=>c b o e n
  cases d with
  | pull v =>
   refine (wT hT1 (Fl rfl ⟨_,rfl,y,dy,fs,rfl,h1,lm _ (by decide +kernel),_,rfl,T0,_,_,_,rfl,rfl,.inl (.inl hT1),Aj (j:=1) rfl,Ho,y,x,ks,sts,s.dr,s.sh,sd,v,rfl,O1.ok,Xa.odd hd _,(fun t d2 H2 c2 ev ht ed O2=>?_),fun H2 s2 hno=>⟨cK,rfl,T.x4.rK.mro,fun ex hex=>?_⟩⟩))
   ·subst ev
    subst ed
    exact ⟨_,rfl,Bl (by simp),fun E1 hE1=>⟨pF,E1,_,rfl,rfl,.inl (.inl (Ax hE1 _ _ (fy c2 _ _ l1 pFy pFd))),.inl (.inl Ah),_,rfl,Bo ⟨_,rfl,finT ⟨_,_,_⟩ _ H2 (Tw ht) (fy c2) ((O1.put c2 O2.mQ).le (by omega)) E1 hE1⟩⟩⟩
   ·have s3:=Ax (o:=Cd ex cK none) hex
    have x3:upd H2 ex (Cd ex cK none) ex=some (Cd ex cK none):=Ah
    generalize upd H2 ex (Cd ex cK none)=H3 at s3 x3 ⊢
    have s03:=s1.trans (s2.trans s3)
    exact ⟨_,rfl,ex,0,rfl,x3,by decide,fun D H4 hD s4 l4=>⟨_,rfl,Bl (by simp),fun E1 hE1=>⟨D,E1,_,rfl,rfl,.inl (.inl (Ax hE1 _ _ l4)),.inl (.inl Ah),_,rfl,Cm ⟨_,rfl,finN 0 D H4 (Rb hno) (by decide) (s03.trans s4) (s03.free hD) l4 E1 hE1⟩⟩⟩⟩
  | push v =>
   refine (wT hT1 (Eu (wT hT1 (Fl rfl ⟨_,rfl,y,dy,fs,rfl,h1,lm _ (by decide +kernel),_,rfl,T0,_,_,_,rfl,rfl,.inl (.inl hT1),Aj (j:=1) rfl,Ho,y,x,ks,sts,s.dr,s.sh,sd,v,rfl,O1.ok,Xa.odd hd _,(fun t d2 H2 c2 ev ht ed O2=>?_),fun H2 s2 hno=>⟨cK,rfl,T.x4.rK.mro,fun ex hex=>?_⟩⟩))))
   ·subst ev
    subst ed
    exact ⟨_,rfl,Bl (by simp),fun E1 hE1=>⟨pF,E1,_,rfl,rfl,.inl (.inl (Ax hE1 _ _ (fy c2 _ _ l1 pFy pFd))),.inl (.inl Ah),_,rfl,Bo ⟨_,rfl,finT ⟨_,_,_⟩ _ H2 (Sw ht) (fy c2) ((O1.put c2 O2.mQ).le (by omega)) E1 hE1⟩⟩⟩
   ·have s3:=Ax (o:=Cd ex cK none) hex
    have x3:upd H2 ex (Cd ex cK none) ex=some (Cd ex cK none):=Ah
    generalize upd H2 ex (Cd ex cK none)=H3 at s3 x3 ⊢
    have s03:=s1.trans (s2.trans s3)
    exact ⟨_,rfl,ex,0,rfl,x3,by decide,fun D H4 hD s4 l4=>⟨_,rfl,Bl (by simp),fun E1 hE1=>⟨D,E1,_,rfl,rfl,.inl (.inl (Ax hE1 _ _ l4)),.inl (.inl Ah),_,rfl,Cm ⟨_,rfl,finN 0 D H4 (RN hno) (by decide) (s03.trans s4) (s03.free hD) l4 E1 hE1⟩⟩⟩⟩
  | store v =>
   refine (wT hT1 (Eu (wT hT1 (Eu (wT hT1 (Fl rfl ⟨_,rfl,T0,_,rfl,.inr (.inl (.inl hT1)),rfl,_,rfl,Fl rfl ⟨_,rfl,y,dy,fs,rfl,h1,lm _ (by decide +kernel),_,rfl,T0,_,_,_,rfl,rfl,.inl (.inl hT1),Aj (j:=1) rfl,Ho,y,x,bs,ks,sts,s.dr,s.sh,sd,s.m,c,v,.non,rfl,O1,hc,VV.odd hd _,.non,(fun p H2 ev hp _ c2 K2=>?_),(fun p t H2 _ _ ev=>nomatch ev),(fun H2 s2 hno=>⟨cP,rfl,T.x4.rP.mro,fun ex hex=>?_⟩),(fun H2 _ _ h=>(h rfl).elim)⟩⟩))))))
   ·subst ev
    exact ⟨_,rfl,Bl (by simp),fun E1 hE1=>⟨pF,E1,_,rfl,rfl,.inl (.inl (Ax hE1 _ _ (fd c2 _ _ l1 pFy pFd))),.inl (.inl Ah),_,rfl,Bo ⟨_,rfl,finT ⟨_,_,_⟩ _ H2 (RC hp) (fd c2) K2 E1 hE1⟩⟩⟩
   ·have s3:=Ax (o:=Cd ex cP none) hex
    have x3:upd H2 ex (Cd ex cP none) ex=some (Cd ex cP none):=Ah
    generalize upd H2 ex (Cd ex cP none)=H3 at s3 x3 ⊢
    have s03:=s1.trans (s2.trans s3)
    exact ⟨_,rfl,ex,1,rfl,x3,by decide,fun D H4 hD s4 l4=>⟨_,rfl,Bl (by simp),fun E1 hE1=>⟨D,E1,_,rfl,rfl,.inl (.inl (Ax hE1 _ _ l4)),.inl (.inl Ah),_,rfl,Cm ⟨_,rfl,finN 1 D H4 (Pg hno) (by decide) (s03.trans s4) (s03.free hD) l4 E1 hE1⟩⟩⟩⟩
  | storeB v b =>
   refine (wT hT1 (Eu (wT hT1 (Eu (wT hT1 (Fl rfl ⟨_,rfl,T0,_,rfl,.inr (.inl (.inl hT1)),rfl,_,rfl,X5 (fun z=>absurd (V.int.inj z) (by show ¬ ((3:Nat):Int)=2; decide)) (wT hT1 (Fl rfl ⟨_,rfl,y,dy,fs,rfl,h1,lm _ (by decide +kernel),_,rfl,T0,_,_,_,rfl,rfl,.inl (.inl hT1),Aj (j:=1) rfl,_,rfl,T0,_,_,_,rfl,rfl,.inl (.inl hT1),Aj (j:=2) rfl,Ho,y,x,bs,ks,sts,s.dr,s.sh,sd,s.m,c,v,b,rfl,O1,hc,VV.odd hd.1 _,Xa.odd hd.2 _,(fun p H2 ev hp eb c2 K2=>?_),(fun p t H2 ev hp eb ht c2 K2=>?_),(fun H2 s2 hno=>⟨cP,rfl,T.x4.rP.mro,fun ex hex=>?_⟩),(fun H2 s2 h8 h9 hno=>⟨cB,rfl,T.x4.rB.mro,fun ex hex=>?_⟩)⟩))⟩))))))
   ·subst ev
    subst eb
    exact ⟨_,rfl,Bl (by simp),fun E1 hE1=>⟨pF,E1,_,rfl,rfl,.inl (.inl (Ax hE1 _ _ (fd c2 _ _ l1 pFy pFd))),.inl (.inl Ah),_,rfl,Bo ⟨_,rfl,finT ⟨_,_,_⟩ _ H2 (P0 hp) (fd c2) K2 E1 hE1⟩⟩⟩
   ·subst ev
    subst eb
    exact ⟨_,rfl,Bl (by simp),fun E1 hE1=>⟨pF,E1,_,rfl,rfl,.inl (.inl (Ax hE1 _ _ (fd c2 _ _ l1 pFy pFd))),.inl (.inl Ah),_,rfl,Bo ⟨_,rfl,finT ⟨_,_,_⟩ _ H2 (PJ hp ht) (fd c2) K2 E1 hE1⟩⟩⟩
   ·have s3:=Ax (o:=Cd ex cP none) hex
    have x3:upd H2 ex (Cd ex cP none) ex=some (Cd ex cP none):=Ah
    generalize upd H2 ex (Cd ex cP none)=H3 at s3 x3 ⊢
    have s03:=s1.trans (s2.trans s3)
    exact ⟨_,rfl,ex,1,rfl,x3,by decide,fun D H4 hD s4 l4=>⟨_,rfl,Bl (by simp),fun E1 hE1=>⟨D,E1,_,rfl,rfl,.inl (.inl (Ax hE1 _ _ l4)),.inl (.inl Ah),_,rfl,Cm ⟨_,rfl,finN 1 D H4 (N6 hno) (by decide) (s03.trans s4) (s03.free hD) l4 E1 hE1⟩⟩⟩⟩
   ·have s3:=Ax (o:=Cd ex cB none) hex
    have x3:upd H2 ex (Cd ex cB none) ex=some (Cd ex cB none):=Ah
    generalize upd H2 ex (Cd ex cB none)=H3 at s3 x3 ⊢
    have s03:=s1.trans (s2.trans s3)
    exact ⟨_,rfl,ex,2,rfl,x3,by decide,fun D H4 hD s4 l4=>⟨_,rfl,Bl (by simp),fun E1 hE1=>⟨D,E1,_,rfl,rfl,.inl (.inl (Ax hE1 _ _ l4)),.inl (.inl Ah),_,rfl,Cm ⟨_,rfl,finN 2 D H4 (Nk h8 h9 hno) (by decide) (s03.trans s4) (s03.free hD) l4 E1 hE1⟩⟩⟩⟩
  | press v =>
   refine (wT hT1 (Eu (wT hT1 (Eu (wT hT1 (Eu (Bo ((wT hT1 (Eu (wT hT1 (Fl rfl ⟨_,rfl,y,dy,fs,rfl,h1,lm _ (by decide +kernel),_,rfl,T0,_,_,_,rfl,rfl,.inl (.inl hT1),Aj (j:=1) rfl,Ho,y,x,bs,ks,sts,s.dr,s.sh,sd,s.m,c,v,rfl,O1,VV.odd hd _,(fun p ps H2 ev hp hm c2 K2=>?_),fun H2 s2 hno=>⟨cP,rfl,T.x4.rP.mro,fun ex hex=>?_⟩⟩))))))))))))
   ·subst ev
    exact ⟨_,rfl,Bl (by simp),fun E1 hE1=>⟨pF,E1,_,rfl,rfl,.inl (.inl (Ax hE1 _ _ (fy c2 _ _ l1 pFy pFd))),.inl (.inl Ah),_,rfl,Bo ⟨_,rfl,finT ⟨_,_,_⟩ _ H2 (Rj hp hm) (fy c2) (K2.le (by omega)) E1 hE1⟩⟩⟩
   ·have s3:=Ax (o:=Cd ex cP none) hex
    have x3:upd H2 ex (Cd ex cP none) ex=some (Cd ex cP none):=Ah
    generalize upd H2 ex (Cd ex cP none)=H3 at s3 x3 ⊢
    have s03:=s1.trans (s2.trans s3)
    exact ⟨_,rfl,ex,1,rfl,x3,by decide,fun D H4 hD s4 l4=>⟨_,rfl,Bl (by simp),fun E1 hE1=>⟨D,E1,_,rfl,rfl,.inl (.inl (Ax hE1 _ _ l4)),.inl (.inl Ah),_,rfl,Cm ⟨_,rfl,finN 1 D H4 (Px hno) (by decide) (s03.trans s4) (s03.free hD) l4 E1 hE1⟩⟩⟩⟩
  | shoe v =>
   refine (wT hT1 (Eu (wT hT1 (Eu (wT hT1 (Eu (Bo ((wT hT1 (Eu (wT hT1 (Eu (wT hT1 (Fl rfl ⟨_,rfl,y,dy,fs,rfl,h1,lm _ (by decide +kernel),_,rfl,T0,_,_,_,rfl,rfl,.inl (.inl hT1),Aj (j:=1) rfl,Ho,y,x,ks,sts,s.dr,s.sh,sd,v,rfl,O1.ok,VV.odd hd _,(fun i H2 ev hi c2 O2=>?_),fun H2 s2 hno=>⟨cS,rfl,T.x4.rS.mro,fun ex hex=>?_⟩⟩))))))))))))))
   ·subst ev
    exact ⟨_,rfl,Bl (by simp),fun E1 hE1=>⟨pF,E1,_,rfl,rfl,.inl (.inl (Ax hE1 _ _ (fy c2 _ _ l1 pFy pFd))),.inl (.inl Ah),_,rfl,Bo ⟨_,rfl,finT ⟨_,_,_⟩ _ H2 (TF hi) (fy c2) ((O1.put c2 O2.mQ).le (by omega)) E1 hE1⟩⟩⟩
   ·have s3:=Ax (o:=Cd ex cS none) hex
    have x3:upd H2 ex (Cd ex cS none) ex=some (Cd ex cS none):=Ah
    generalize upd H2 ex (Cd ex cS none)=H3 at s3 x3 ⊢
    have s03:=s1.trans (s2.trans s3)
    exact ⟨_,rfl,ex,3,rfl,x3,by decide,fun D H4 hD s4 l4=>⟨_,rfl,Bl (by simp),fun E1 hE1=>⟨D,E1,_,rfl,rfl,.inl (.inl (Ax hE1 _ _ l4)),.inl (.inl Ah),_,rfl,Cm ⟨_,rfl,finN 3 D H4 (Rw hno) (by decide) (s03.trans s4) (s03.free hD) l4 E1 hE1⟩⟩⟩⟩
  | cancel =>
   refine (wT hT1 (Eu (wT hT1 (Eu (wT hT1 (Eu (Bo ((wT hT1 (Eu (wT hT1 (Eu (wT hT1 (Eu ⟨_,rfl,y,dy,fs,rfl,h1,lm _ (by decide +kernel),Ho,y,x,bs,ks,sts,s.dr,s.sh,sd,s.m,c,rfl,O1,fun H2 c2 K2=>?_⟩))))))))))))))
   exact ⟨_,rfl,Bl (by simp),fun E1 hE1=>⟨pF,E1,_,rfl,rfl,.inl (.inl (Ax hE1 _ _ (fy c2 _ _ l1 pFy pFd))),.inl (.inl Ah),_,rfl,Bo ⟨_,rfl,finT ⟨_,_,_⟩ _ H2 (rfl) (fy c2) (K2.le (by omega)) E1 hE1⟩⟩⟩
open Bw
theorem V8 {ns:List Str} {t:Str} (h:t∈ns):ns.idxOf t<(ns.map V.str).length/\Mg ((ns.map V.str).getD (ns.idxOf t) .non) (.str t)=true/\∀ m,m<ns.idxOf t->Mg ((ns.map V.str).getD m .non) (.str t)=false:=by
 have hl:=List.idxOf_lt_length_of_mem h
 refine ⟨by rw [List.length_map]; exact hl,?_,fun m hm=>?_⟩
 ·rw [List.getD_eq_getElem?_getD,List.getElem?_map,GQ h]
  show Mg (.str t) (.str t)=true
  rw [Jt]
  exact decide_eq_true rfl
 ·rw [List.getD_eq_getElem?_getD,List.getElem?_map,List.getElem?_eq_getElem (by omega)]
  show Mg (.str ns[m]) (.str t)=false
  rw [Jt]
  exact decide_eq_false (Oj hm _ (List.getElem?_eq_getElem (by omega)))
noncomputable def CP (n:Nat):Ps->Nat × Nat
 | .every k=>(k,2 ^ n - 1)
 | .part k w=>(k,w)
theorem J2 {n d:Nat} {q:Ps} (hd:d<2 ^ n):q.put d=(d - (d &&& (CP n q).2)) ||| (CP n q).1:=by
 cases q with
 | every k =>
  show k=(d - (d &&& (2 ^ n - 1))) ||| k
  rw [Nat.and_two_pow_sub_one_eq_mod,Nat.mod_eq_of_lt hd,Nat.sub_self,Nat.zero_or]
 | part k w=>rfl
theorem QJ {n d k:Nat} {up:Bool} (hd:d<2 ^ n) (hk:k<n):Jm up d k<2 ^ n:=by
 cases up with
 | true=>exact Nat.or_lt_two_pow hd (Nat.pow_lt_pow_right (by decide) hk)
 | false=>exact Nat.lt_of_le_of_lt (Nat.sub_le _ _) hd
structure YQ (n st:Nat) (s:Cs):Prop where
 d:s.dr<2 ^ n
 h:s.sh<=st
 m:∀ p q,s.m p=some q->(CP n q).1<2 ^ n
 w:∀ p q,s.m p=some q->(CP n q).1 &&& (CP n q).2=(CP n q).1
theorem Ie {n d:Nat} (hd:d<2 ^ n):d &&& (2 ^ n - 1)=d:=by
 rw [Nat.and_two_pow_sub_one_eq_mod,Nat.mod_eq_of_lt hd]
theorem Vw {d w:Nat}:(d &&& w) &&& w=d &&& w:=by rw [Nat.and_assoc,Nat.and_self]
theorem YQ.go {ns:List Str} {ks:List R} {st:Nat} {s:Cs} (h:YQ ks.length st s) (d:Gv):YQ ks.length st (act ns ks st s d).1:=by
 have hk:∀ {v k},Dh ks v=some k->k<ks.length:=fun {v k} e=>by
  cases v with
  | str t =>
   have e':(if t∈En ks then some ((En ks).idxOf t) else none)=some k:=e
   by_cases c:t∈En ks
   ·rw [if_pos c] at e'
    rw [← Option.some.inj e']
    have:=List.idxOf_lt_length_of_mem c
    rw [List.length_map] at this
    exact this
   ·rw [if_neg c] at e'
    cases e'
  | _=>cases e
 have hp:∀ {p:Nat} {q:Ps},(CP ks.length q).1<2 ^ ks.length->∀ p' q',GZ s.m p q p'=some q'->(CP ks.length q').1<2 ^ ks.length:=fun {p q} hq p' q' e=>by
  unfold GZ at e
  by_cases c:p'=p
  ·rw [if_pos c] at e
   rw [← Option.some.inj e]
   exact hq
  ·rw [if_neg c] at e
   exact h.m _ _ e
 have hw:∀ {p:Nat} {q:Ps},(CP ks.length q).1 &&& (CP ks.length q).2=(CP ks.length q).1->∀ p' q',GZ s.m p q p'=some q'->(CP ks.length q').1 &&& (CP ks.length q').2=(CP ks.length q').1:=fun {p q} hq p' q' e=>by
  unfold GZ at e
  by_cases c:p'=p
  ·rw [if_pos c] at e
   rw [← Option.some.inj e]
   exact hq
  ·rw [if_neg c] at e
   exact h.w _ _ e
 cases d with
 | pull v =>
  unfold act
  dsimp only
  cases e:Dh ks v with
  | none=>exact h
  | some k=>exact ⟨QJ (up:=true) h.d (hk e),h.h,h.m,h.w⟩
 | push v =>
  unfold act
  dsimp only
  cases e:Dh ks v with
  | none=>exact h
  | some k=>exact ⟨QJ (up:=false) h.d (hk e),h.h,h.m,h.w⟩
 | store v =>
  unfold act
  dsimp only
  cases e:Dk v with
  | none=>exact h
  | some p=>exact ⟨h.d,h.h,hp (q:=.every s.dr) h.d,hw (q:=.every s.dr) (Ie h.d)⟩
 | storeB v b =>
  unfold act
  dsimp only
  cases e:Dk v with
  | none=>exact h
  | some p =>
   dsimp only
   cases e2:XS ns ks s.dr b with
   | none=>exact h
   | some q =>
    suffices z:(CP ks.length q).1<2 ^ ks.length/\(CP ks.length q).1 &&& (CP ks.length q).2=(CP ks.length q).1 from ⟨h.d,h.h,hp z.1,hw z.2⟩
    cases b with
    | non =>
     cases e2
     exact ⟨h.d,Ie h.d⟩
    | str t =>
     have e':(if t∈ns then some (Ps.part (s.dr &&& Bs ks t) (Bs ks t)) else none)=some q:=e2
     by_cases c:t∈ns
     ·rw [if_pos c] at e'
      rw [← Option.some.inj e']
      exact ⟨Nat.lt_of_le_of_lt Nat.and_le_left h.d,Vw⟩
     ·rw [if_neg c] at e'
      cases e'
    | _=>cases e2
 | press v =>
  unfold act
  dsimp only
  cases e:(Dk v).bind s.m with
  | none=>exact h
  | some q =>
   refine ⟨?_,h.h,h.m,h.w⟩
   show q.put s.dr<_
   rw [J2 h.d]
   obtain ⟨p,_,e2⟩:=Option.bind_eq_some_iff.mp e
   exact Nat.or_lt_two_pow (Nat.lt_of_le_of_lt (Nat.sub_le _ _) h.d) (h.m _ _ e2)
 | shoe v =>
  unfold act
  dsimp only
  cases e:Gj st v with
  | none=>exact h
  | some i =>
   refine ⟨h.d,?_,h.m,h.w⟩
   cases v with
   | int j =>
    have e':(if 0<=j/\j<=(st:Nat) then some j.toNat else none)=some i:=e
    by_cases c:0<=j/\j<=(st:Nat)
    ·rw [if_pos c] at e'
     have:=Option.some.inj e'
     show i<=st
     omega
    ·rw [if_neg c] at e'
     cases e'
   | _=>cases e
 | cancel=>exact ⟨Nat.two_pow_pos _,Nat.zero_le _,h.m,h.w⟩
structure Mx (H:Hp) (n:Nat) (kp:Addr) (m:Nat->Option Ps) (c:Nat):Prop where
 ex:∃ kvs2:List (Key × V),H kp=some (.dK kvs2)/\kvs2.length<=c/\∀ p q,p<10->m p=some q->∃ o,CV kvs2 (Sum.inl (p:Nat))=some (.ref o)/\H o=some (.tup [.int ((CP n q).1:Nat),.int ((CP n q).2:Nat)])
section
variable {H H':Hp} {n:Nat} {kp:Addr} {m:Nat->Option Ps} {c:Nat}
theorem Mx.mono (h:Mx H n kp m c) (f:Ak H H'):Mx H' n kp m c:=by
 obtain ⟨kvs2,a6,a7,a9⟩:=h.ex
 exact ⟨kvs2,f _ _ a6,a7,fun p q hp hm=>by
  obtain ⟨o,e1,e2⟩:=a9 p q hp hm
  exact ⟨o,e1,f _ _ e2⟩⟩
theorem Mx.fb {a b:Addr} (h:Mx H n kp m c) (f:Fb H H' a b) (n3:kp ≠ a) (n4:kp ≠ b) (ta:∀ xs,H a ≠ some (.tup xs)) (tb:∀ xs,H b ≠ some (.tup xs)):Mx H' n kp m c:=by
 obtain ⟨kvs2,a6,a7,a9⟩:=h.ex
 exact ⟨kvs2,f _ _ a6 n3 n4,a7,fun p q hp hm=>by
  obtain ⟨o,e1,e2⟩:=a9 p q hp hm
  exact ⟨o,e1,f _ _ e2 (fun z=>ta _ (z ▸ e2)) (fun z=>tb _ (z ▸ e2))⟩⟩
theorem Mx.le (h:Mx H n kp m c) {c':Nat} (hc:c<=c'):Mx H n kp m c':=by
 obtain ⟨kvs2,a6,a7,a9⟩:=h.ex
 exact ⟨kvs2,a6,by omega,a9⟩
theorem Mx.get (h:Mx H n kp m c) {p:Nat} {q:Ps} (hp:p<10) (hm:m p=some q):∃ o,Gd H kp (.int (p:Nat)) (some (.ref o))/\H o=some (.tup [.int ((CP n q).1:Nat),.int ((CP n q).2:Nat)]):=by
 obtain ⟨kvs2,a6,a7,a9⟩:=h.ex
 obtain ⟨o,e1,e2⟩:=a9 p q hp hm
 exact ⟨o,e1 ▸ Gd.k (k:=Sum.inl ((p:Nat):Int)) a6,e2⟩
theorem Mx.Xk (h:Mx H n kp m c) (hc:c<900) (p:Nat) (q:Ps) {o:Addr} (ho:H o=some (.tup [.int ((CP n q).1:Nat),.int ((CP n q).2:Nat)])):∃ H',L_ H kp (.int (p:Nat)) (.ref o) H'/\Fb H H' kp kp/\Mx H' n kp (GZ m p q) (c+1):=by
 obtain ⟨kvs2,a6,a7,a9⟩:=h.ex
 have ne:∀ q:Nat,¬ q=p->¬ (Sum.inl ((q:Nat):Int):Key)=Sum.inl ((p:Nat):Int):=fun q hq z=>hq (by have:=Sum.inl.inj z; omega)
 refine ⟨_,L_.k (k:=Sum.inl ((p:Nat):Int)) a6 (BJ (by omega)),fun b o e _ n1=>by rw [Ar n1]; exact e,_,Ah,Nat.le_trans (Qk _ _ _) (by omega),fun p' q' hp' hm=>?_⟩
 have hm':(if p'=p then some q else m p')=some q':=hm
 by_cases z:p'=p
 ·rw [if_pos z] at hm'
  cases hm'
  subst z
  exact ⟨o,by rw [Ew,if_pos rfl],by rw [Ar (fun z=>by rw [z,a6] at ho; cases ho)]; exact ho⟩
 ·rw [if_neg z] at hm'
  obtain ⟨o',f1,f2⟩:=a9 p' q' hp' hm'
  exact ⟨o',by rw [Ew,if_neg (ne p' z)]; exact f1,by rw [Ar (fun z=>by rw [z,a6] at f2; cases f2)]; exact f2⟩
end
structure QZ (K:PySem.W.Frag) (aB aP aM:Addr) (H:Hp) (p:Addr) (us:List V) (S:Pb) (kd a i:Nat):Prop where
 l:H p=some (.lst us)
 r:Paired (fun (r:R) v=>TupAt H r.v v) S.rows us
 o:De K aB aP aM kd a i (4+3 * i) S
 k3:kd<3
 a5:a<5
 i1:1<=i
 i12:i<=12
theorem QZ.to {K:PySem.W.Frag} {aB aP aM:Addr} {H H':Hp} {p:Addr} {us:List V} {S:Pb} {kd a i:Nat} (h:QZ K aB aP aM H p us S kd a i) (hl:∀ a xs,H a=some (.lst xs)->H' a=some (.lst xs)) (ht:∀ a xs,H a=some (.tup xs)->H' a=some (.tup xs)):QZ K aB aP aM H' p us S kd a i :=
 ⟨hl _ _ h.l,Paired.JV h.r fun _ _ z=>(by
  obtain ⟨T,e,h⟩:=z
  exact ⟨T,e,ht _ _ h⟩),h.o,h.k3,h.a5,h.i1,h.i12⟩
theorem QZ.mono {K:PySem.W.Frag} {aB aP aM:Addr} {H H':Hp} {p:Addr} {us:List V} {S:Pb} {kd a i:Nat} (h:QZ K aB aP aM H p us S kd a i) (s:Ak H H'):QZ K aB aP aM H' p us S kd a i:=h.to (fun _ _ e=>s _ _ e) (fun _ _ e=>s _ _ e)
theorem QZ.st {K:PySem.W.Frag} {aB aP aM:Addr} {H:Hp} {p:Addr} {us:List V} {S:Pb} {kd a i:Nat} (h:QZ K aB aP aM H p us S kd a i):nA S.rows S.ks S.sts/\S.rows.length<=100/\S.ks.length<=12:=by
 have:=h.o.lr
 have:=h.o.lk
 have:=h.i12
 exact ⟨⟨h.o.ek,h.o.bl.st,h.o.bl.Ld,by omega,by omega⟩,by omega,by omega⟩
theorem QK {ks:List R} {v:V} {k:Nat} (h:Dh ks v=some k):∃ t,v=.str t/\t∈En ks/\k=(En ks).idxOf t:=by
 cases v with
 | str t =>
  have e':(if t∈En ks then some ((En ks).idxOf t) else none)=some k:=h
  by_cases c:t∈En ks
  ·rw [if_pos c] at e'
   exact ⟨t,rfl,c,(Option.some.inj e').symm⟩
  ·rw [if_neg c] at e'
   cases e'
 | _=>cases h
noncomputable def fC (K:PySem.W.Frag) (aB aP aM:Addr):Sp:=fun vs H Q _=>∃ (p:Addr) (us:List V) (S:Pb) (kd a i:Nat) (T:Addr) (w0:Nat) (d:Gv),vs=[.ref p,.ref T]/\QZ K aB aP aM H p us S kd a i/\H T=some (.tup d.v)/\((∃ v,d=.store v)/\w0=2 ^ S.ks.length - 1 \/ (∃ v,d=.storeB v .non)/\w0=2 ^ S.ks.length - 1 \/ ∃ v t,d=.storeB v (.str t)/\w0=Bs S.ks t)/\∀ H',Ak H H'->Q (.int (w0:Nat)) H'
theorem jg:Ao ["_law_rows","_law_deed_here"] ["_law_rows","_law_deed_here"] (Af mJ):=Bm
include N T in
theorem Zq:Aw P w K mg base Bg 3 fWo dWo ["_law_rows","_law_deed_here"] (fC K aB aP aM):=by
 have GLx:Aw P w K mg base Bg 1 fLx dLx ["_law_rows"] Rm:=Nf N T
 have GOb:Aw P w K mg base Bg 2 fOb dOb ["_law_rows","_law_board"] Zd:=Z7 N T
 refine N.FWo.1.ok jg (fun vs H Q E h=>?_) (fun cdv A outer s H vs Q E hr h=>?_)
 ·obtain ⟨p,us,S,kd,a,i,T0,w0,d,rfl,_⟩:=h
  rfl
 ·obtain ⟨p,us,S,kd,a,i,T0,w0,d,rfl,RW,hT,hd,q⟩:=h
  have hrLx:BX 1 _:=hr.mono (by decide)
  have hrOb:BX 2 _:=hr.mono (by decide)
  have hu:=CN hr
  refine ⟨_,(@Ad _ _ _ _ _ (@Bc _ _ _ _ _ _ _ _ (PW.pt (JH (Az Be (BK BZ rfl T.len PySem.boot_len (@Am _ _ _ _ _ rfl (pv 1) Aa)) Ac (BL _)) (HW (Az Wq (@A_ _ _ _ _ _ _ _ (An (K:=K) rfl) (pv 1) Ac (fun _ _=>rfl)) Ga (BL _))))) (@Ae _ _ _ (@Av _ _ _ _ (Al GOb hrOb rfl N.FOb.2.2 N.FOb.1.kp N.FOb.2.1 .nil Ay (@Am _ _ _ _ _ rfl (pv 0) (@Am _ _ _ _ _ rfl (@A_ _ _ _ _ _ _ _ (An (K:=K) rfl) (pv 1) Ac (fun _ _=>rfl)) Aa))))) BW)
   (@Ae _ _ _ (@Av _ _ _ _ (BP JR (BP J1 Ac (BK BZ rfl T.len PySem.boot_len (@Am _ _ _ _ _ rfl (Al GLx hrLx rfl N.FLx.2.2 N.FLx.1.kp N.FLx.2.1 .nil Ay (@Am _ _ _ _ _ rfl (pv 0) Aa)) Aa))) Ac)))),?_⟩
  obtain ⟨St,l100,l12⟩:=RW.st
  rcases hd with ⟨⟨v,rfl⟩,rfl⟩ | ⟨⟨v,rfl⟩,rfl⟩ | ⟨v,t,rfl,rfl⟩
  ·refine ⟨_,rfl,T0,_,rfl,.inr (.inl (.inl hT)),rfl,_,rfl,X5 (fun z=>absurd (V.int.inj z) (by show ¬ ((2:Nat):Int)=3; decide)) (Bo ⟨_,rfl,p,us,S.rows,rfl,RW.l,RW.r,by omega,fun DK us5 H5 hDK s5 l5 p5=>⟨DK,_,rfl,.inl (.inl (.inl l5)),_,_,rfl,rfl,⟨by have:=p5.length; rw [RW.o.ek] at this; omega,by have:=p5.length; rw [RW.o.ek] at this; omega,by decide⟩,_,_,rfl,rfl,?_⟩⟩)⟩
   rw [RW.o.ek] at p5
   have l5k:us5.length=S.ks.length:=p5.length.symm
   have ew:(1:Int) * 2 ^ ((us5.length:Nat):Int).toNat - 1=((2 ^ S.ks.length - 1:Nat):Int):=by
    have:=Nat.two_pow_pos S.ks.length
    rw [Io,l5k]
    omega
   dsimp only
   rw [ew]
   exact q _ s5
  ·refine ⟨_,rfl,T0,_,rfl,.inr (.inl (.inl hT)),rfl,_,rfl,Fl rfl ⟨_,rfl,T0,_,_,_,rfl,rfl,.inl (.inl hT),Aj (j:=2) rfl,rfl,_,rfl,Bo ⟨_,rfl,p,us,S.rows,rfl,RW.l,RW.r,by omega,fun DK us5 H5 hDK s5 l5 p5=>⟨DK,_,rfl,.inl (.inl (.inl l5)),_,_,rfl,rfl,⟨by have:=p5.length; rw [RW.o.ek] at this; omega,by have:=p5.length; rw [RW.o.ek] at this; omega,by decide⟩,_,_,rfl,rfl,?_⟩⟩⟩⟩
   rw [RW.o.ek] at p5
   have l5k:us5.length=S.ks.length:=p5.length.symm
   have ew:(1:Int) * 2 ^ ((us5.length:Nat):Int).toNat - 1=((2 ^ S.ks.length - 1:Nat):Int):=by
    have:=Nat.two_pow_pos S.ks.length
    rw [Io,l5k]
    omega
   dsimp only
   rw [ew]
   exact q _ s5
  ·exact ⟨_,rfl,T0,_,rfl,.inr (.inl (.inl hT)),rfl,_,rfl,Fl rfl ⟨_,rfl,T0,_,_,_,rfl,rfl,.inl (.inl hT),Aj (j:=2) rfl,rfl,_,rfl,Cm ⟨_,rfl,_,rfl,T0,_,_,_,rfl,rfl,.inl (.inl hT),Aj (j:=2) rfl,p,us,S.rows,S.ks,t,rfl,RW.l,RW.r,RW.o.ek,by omega,by omega,(fun r hr=>by obtain ⟨b,_,rs,e⟩:=RW.o.kb r hr; exact ⟨_,rs,e⟩),fun H9 s9=>q _ s9⟩⟩⟩
noncomputable def aQ (K:PySem.W.Frag) (aB aP aM:Addr):Sp:=fun vs H Q _=>∃ (p:Addr) (us:List V) (S:Pb) (kd a i:Nat) (t:Str),vs=[.ref p,.str t]/\QZ K aB aP aM H p us S kd a i/\t∈En S.ks/\∀ H',Ak H H'->Q (.int ((2 ^ (En S.ks).idxOf t:Nat):Int)) H'
theorem Zt:Ao ["_law_rows","_law_name_here","_law_names_here"] ["_law_rows","_law_name_here"] (Af gM):=Bm
include N T in
theorem dG:Aw P w K mg base Bg 2 fOn dOn ["_law_rows","_law_name_here"] (aQ K aB aP aM):=by
 have GLx:Aw P w K mg base Bg 1 fLx dLx ["_law_rows"] Rm:=Nf N T
 refine N.FOn.1.ok Zt (fun vs H Q E h=>?_) (fun cdv A outer s H vs Q E hr h=>?_)
 ·obtain ⟨p,us,S,kd,a,i,t,rfl,_⟩:=h
  rfl
 ·obtain ⟨p,us,S,kd,a,i,t,rfl,RW,hm,q⟩:=h
  have hrLx:BX 1 _:=hr.mono (by decide)
  have hu:=CN hr
  refine ⟨_,(@Ad _ _ _ _ _ (Qj (i:=2) Zt.nd rfl rfl rfl (Bb (osc:=Af gM) (N:=["_law_rows","_law_name_here","_law_names_here"]) rfl rfl (by decide +kernel)) (Bq (Al GLx hrLx rfl N.FLx.2.2 N.FLx.1.kp N.FLx.2.1 .nil Ay (@Am _ _ _ _ _ rfl (pv 0) Aa))) (fun _ _ _ _=>Ck) (fun _ _ _ _=>(@A_ _ _ _ _ _ _ _ (An (K:=K) rfl) (pv 0) Ac (fun _ _=>rfl))))
   (@Ae _ _ _ (@Av _ _ _ _ (BP J1 Ac (TJ (K:=K) rfl PySem.F.plainAttrs_list PySem.F.slot_list_index PySem.F.type_list_index (Ku (K:=K) rfl) (pv 2) (@Am _ _ _ _ _ rfl (pv 1) Aa)))))),?_⟩
  obtain ⟨St,l100,l12⟩:=RW.st
  refine ⟨_,rfl,p,us,S.rows,rfl,RW.l,RW.r,by omega,fun DK us3 H3 hDK s3 l3 p3=>?_⟩
  rw [RW.o.ek] at p3
  have hS3:DQ K H3 DK us3:=.inl (.inl l3)
  have l3k:us3.length=S.ks.length:=p3.length.symm
  refine ⟨DK,rfl,⟨_,hS3⟩,Cv (K:=K) (xs:=us3) (fun _=>true) (Kh H3 1) hS3 (BJ (by omega)) (fun y hy Hx hs R kk=>kk Hx (Ak.refl Hx)) (fun y hy _ Hx hs R kk=>?_) (fun pN H4 hpN s4 hl4=>?_)⟩
  ·obtain ⟨b',_,hx'⟩:=CZ p3 hy
   have e:=GF hx' 1
   obtain ⟨T9,rfl,hT9⟩:=hx'.mono hs
   refine ⟨_,rfl,T9,_,_,_,rfl,rfl,.inl (.inl hT9),Aj (j:=1) rfl,?_⟩
   have:=kk Hx (Ak.refl Hx)
   rw [e] at this
   exact this
  rw [List.filter_eq_self.mpr (fun _ _=>rfl),Jr 1 p3] at hl4
  have e4:(S.ks.map fun r=>(R.v r).getD 1 V.non)=(En S.ks).map V.str:=by
   rw [List.map_map]
   rfl
  rw [e4] at hl4
  obtain ⟨i1,i2,i3⟩:=V8 hm
  have hix:(En S.ks).idxOf t<S.ks.length:=by
   have:=List.idxOf_lt_length_of_mem hm
   rw [List.length_map] at this
   exact this
  refine ⟨_,rfl,.inl ⟨rfl,_,.inl (.inl hl4)⟩,_,rfl,pN,_,_,_,rfl,rfl,.inl (.inl hl4),rfl,Ka _,i1,i2,i3,_,_,rfl,rfl,⟨by omega,by omega,by decide⟩,?_⟩
  dsimp only
  rw [Io]
  exact q _ (s3.trans s4)
open Bw
theorem Nt {Q:VK} {H:Hp} {p:Prop} [Decidable p] (hp:p) (h:Q (.bl true) H):Q (.bl (decide p)) H:=by
 rw [decide_eq_true hp]
 exact h
theorem HY {a b:Nat} (h:∀ j,a.testBit j=b.testBit j):a=b:=Nat.eq_of_testBit_eq h
theorem j7 {d a w:Nat} (h:a &&& w=a):((d - (d &&& w)) ||| a) &&& w=a:=HY fun j=>by
 have hj:=congrArg (fun z=>Nat.testBit z j) h
 simp only [Nat.testBit_and] at hj
 rw [Nat.testBit_and,Nat.testBit_or,Gn.IV]
 revert hj
 cases d.testBit j <;> cases a.testBit j <;> cases w.testBit j <;> simp
theorem jG {d a w:Nat} (h:a &&& w=a):((d - (d &&& w)) ||| a) ||| w=d ||| w:=HY fun j=>by
 have hj:=congrArg (fun z=>Nat.testBit z j) h
 simp only [Nat.testBit_and] at hj
 rw [Nat.testBit_or,Nat.testBit_or,Gn.IV,Nat.testBit_or]
 revert hj
 cases d.testBit j <;> cases a.testBit j <;> cases w.testBit j <;> simp
theorem iQ {d u:Nat}:(d ||| u) &&& d=d:=HY fun j=>by
 rw [Nat.testBit_and,Nat.testBit_or]
 cases d.testBit j <;> cases u.testBit j <;> rfl
theorem mU {d u:Nat}:u &&& (d ||| u)=u:=HY fun j=>by
 rw [Nat.testBit_and,Nat.testBit_or]
 cases d.testBit j <;> cases u.testBit j <;> rfl
theorem jA {d u:Nat}:((d ||| u) - ((d ||| u) &&& d)) &&& u=(d ||| u) - ((d ||| u) &&& d):=HY fun j=>by
 rw [Nat.testBit_and,Gn.IV,Nat.testBit_or]
 cases d.testBit j <;> cases u.testBit j <;> rfl
theorem Nr {a b:Nat} (h:b<=a):((a:Nat):Int) - ((b:Nat):Int)=((a - b:Nat):Int):=by omega
noncomputable def Yr (K:PySem.W.Frag) (aB aP aM:Addr):Sp:=fun vs H Q _=>∃ (kp:Addr) (s s':Cs) (c:Nat) (p:Addr) (us:List V) (S:Pb) (kd a i:Nat) (T:Addr) (d:Gv) (u:V),vs=[.ref p,.ref T,.int (s.dr:Nat),.int (s'.dr:Nat),.ref kp]/\Mx H S.ks.length kp s.m c/\QZ K aB aP aM H p us S kd a i/\YQ S.ks.length S.sts.length s/\H T=some (.tup d.v)/\act (S.bs.map (·.1)) S.ks S.sts.length s d=(s',.told u)/\∀ H',Ak H H'->Q (.bl true) H'
noncomputable def Gv.calm:Gv->Prop
 | .store _=>True
 | .storeB _ _=>True
 | .shoe _=>True
 | _=>False
theorem Ke {ns:List Str} {ks:List R} {n:Nat} {s s':Cs} {d:Gv} {r:Rs} (h:act ns ks n s d=(s',r)) (hd:d.calm):s'.dr=s.dr:=by
 have e:s'=(act ns ks n s d).1:=by rw [h]
 rw [e]
 cases d with
 | store v =>
  unfold act
  dsimp only
  cases Dk v <;> rfl
 | storeB v b =>
  unfold act
  dsimp only
  cases Dk v with
  | none=>rfl
  | some p =>
   dsimp only
   cases XS ns ks s.dr b <;> rfl
 | shoe v =>
  unfold act
  dsimp only
  cases Gj n v <;> rfl
 | _=>exact hd.elim
theorem Ni {ns:List Str} {ks:List R} {n:Nat} {s s':Cs} {v u:V} (h:act ns ks n s (.pull v)=(s',.told u)):∃ t,v=.str t/\t∈En ks/\s'.dr=Jm true s.dr ((En ks).idxOf t):=by
 unfold act at h
 dsimp only at h
 cases e:Dh ks v with
 | none =>
  rw [e] at h
  exact nomatch (Prod.mk.inj h).2
 | some k =>
  obtain ⟨t,rfl,ht,rfl⟩:=QK e
  rw [e] at h
  exact ⟨t,rfl,ht,by rw [← (Prod.mk.inj h).1]⟩
theorem NK {ns:List Str} {ks:List R} {n:Nat} {s s':Cs} {v u:V} (h:act ns ks n s (.push v)=(s',.told u)):∃ t,v=.str t/\t∈En ks/\s'.dr=Jm false s.dr ((En ks).idxOf t):=by
 unfold act at h
 dsimp only at h
 cases e:Dh ks v with
 | none =>
  rw [e] at h
  exact nomatch (Prod.mk.inj h).2
 | some k =>
  obtain ⟨t,rfl,ht,rfl⟩:=QK e
  rw [e] at h
  exact ⟨t,rfl,ht,by rw [← (Prod.mk.inj h).1]⟩
theorem Ip {ns:List Str} {ks:List R} {n:Nat} {s s':Cs} {v u:V} (h:act ns ks n s (.press v)=(s',.told u)):∃ (p:Nat) (q:Ps),v=.int (p:Nat)/\p<10/\s.m p=some q/\s'=⟨q.put s.dr,s.sh,s.m⟩:=by
 unfold act at h
 dsimp only at h
 cases e:(Dk v).bind s.m with
 | none =>
  rw [e] at h
  exact nomatch (Prod.mk.inj h).2
 | some q =>
  obtain ⟨p,e1,e2⟩:=Option.bind_eq_some_iff.mp e
  obtain ⟨rfl,hp⟩:=Mi e1
  rw [e] at h
  exact ⟨p,q,rfl,hp,e2,(Prod.mk.inj h).1.symm⟩
theorem Xo:Ao ["_law_rows","_law_deed_here","_law_ahead","_law_behind","_law_kept","_law_some","_law_whole"] ["_law_rows","_law_deed_here","_law_ahead","_law_behind","_law_kept"] (Af iz):=Bm
include N T in
theorem dY:Aw P w K mg base Bg 3 fFi dFi ["_law_rows","_law_deed_here","_law_ahead","_law_behind","_law_kept"] (Yr K aB aP aM):=by
 have GOn:Aw P w K mg base Bg 2 fOn dOn ["_law_rows","_law_name_here"] (aQ K aB aP aM):=dG N T
 refine N.FFi.1.ok Xo (fun vs H Q E h=>?_) (fun cdv A outer s H vs Q E hr h=>?_)
 ·obtain ⟨kp,s,s',c,p,us,S,kd,a,i,T0,d,u,rfl,_⟩:=h
  rfl
 ·obtain ⟨kp,s,s',c,p,us,S,kd,a,i,T0,d,u,rfl,D,RW,hO,hT,h,q⟩:=h
  have hrOn:BX 2 _:=hr.mono (by decide)
  have hu:=CN hr
  refine ⟨_,(@Ad _ _ _ _ _ (@Bc _ _ _ _ _ _ _ _ (Az Be (@A_ _ _ _ _ _ _ _ (An (K:=K) rfl) (pv 1) Ac (fun _ _=>rfl)) BR (BL _)) (@Ad _ _ _ _ _ (JT (H_ hu (pv 4) (@A_ _ _ _ _ _ _ _ (An (K:=K) rfl) (pv 1) Ac (fun _ _=>rfl)) (fun _ _=>rfl)) (JF rfl (DR (B_ (i:=5) Xo.nd rfl (Or.inl rfl)) (DR (B_ (i:=6) Xo.nd rfl (Or.inl rfl)) HR))))
   (@Ae _ _ _ (@Av _ _ _ _ (Dc (Cg Be (BP Fg (pv 3) (pv 6)) (pv 5) (BL _)) (DP (Cg Be (BP Hc (pv 3) (pv 6)) (BP Hc (pv 2) (pv 6)) (BL _))))))) BW)
   (@Ad _ _ _ _ _ (@Bc _ _ _ _ _ _ _ _ (Az Be (@A_ _ _ _ _ _ _ _ (An (K:=K) rfl) (pv 1) Ac (fun _ _=>rfl)) BR (BL _)) (@Ae _ _ _ (@Av _ _ _ _ (Cg Be (pv 3) Ac (BL _)))) BW)
   (@Ad _ _ _ _ _ (@Bc _ _ _ _ _ _ _ _ (Az Be (@A_ _ _ _ _ _ _ _ (An (K:=K) rfl) (pv 1) Ac (fun _ _=>rfl)) BR (BL _)) (@Ae _ _ _ (@Av _ _ _ _ (Cg Be (pv 3) (BP Hc (pv 2) (Al GOn hrOn rfl N.FOn.2.2 N.FOn.1.kp N.FOn.2.1 .nil Ay (@Am _ _ _ _ _ rfl (pv 0) (@Am _ _ _ _ _ rfl (@A_ _ _ _ _ _ _ _ (An (K:=K) rfl) (pv 1) Ac (fun _ _=>rfl)) Aa)))) (BL _)))) BW)
   (@Ad _ _ _ _ _ (@Bc _ _ _ _ _ _ _ _ (Az Be (@A_ _ _ _ _ _ _ _ (An (K:=K) rfl) (pv 1) Ac (fun _ _=>rfl)) BR (BL _)) (@Ae _ _ _ (@Av _ _ _ _ (Cg Be (pv 3) (BP JR (pv 2) (BP Fg (pv 2) (Al GOn hrOn rfl N.FOn.2.2 N.FOn.1.kp N.FOn.2.1 .nil Ay (@Am _ _ _ _ _ rfl (pv 0) (@Am _ _ _ _ _ rfl (@A_ _ _ _ _ _ _ _ (An (K:=K) rfl) (pv 1) Ac (fun _ _=>rfl)) Aa))))) (BL _)))) BW)
   (@Ae _ _ _ (@Av _ _ _ _ (Cg Be (pv 3) (pv 2) (BL _)))))))),?_⟩
  cases d with
  | press v =>
   obtain ⟨j,k,rfl,hj,hm,rfl⟩:=Ip h
   obtain ⟨o1,g1,g2⟩:=D.get hj hm
   have e1:k.put s.dr &&& (CP S.ks.length k).2=(CP S.ks.length k).1:=by rw [J2 hO.d]; exact j7 (hO.w _ _ hm)
   have e2:k.put s.dr ||| (CP S.ks.length k).2=s.dr ||| (CP S.ks.length k).2:=by rw [J2 hO.d]; exact jG (hO.w _ _ hm)
   refine (wT hT (Fl rfl ⟨_,rfl,_,rfl,T0,_,_,_,rfl,rfl,.inl (.inl hT),Aj (j:=1) rfl,kp,_,rfl,g1,o1,_,rfl,.inl (.inl g2),rfl,_,_,rfl,_,_,rfl,rfl,?_⟩))
   refine ⟨_,rfl,_,rfl,_,_,rfl,rfl,_,rfl,rfl,_,rfl,Fl (congrArg V.int ((Dq _ _).trans (congrArg Nat.cast e1))) ⟨_,rfl,_,rfl,_,_,rfl,rfl,_,rfl,_,rfl,_,_,rfl,rfl,rfl,?_⟩⟩
   exact Nt (congrArg V.int (((Eh _ _).trans (congrArg Nat.cast e2)).trans (Eh _ _).symm)) (q _ (Ak.refl _))
  | cancel =>
   have e0:s'.dr=0:=by rw [← (Prod.mk.inj h).1]
   refine (wT hT (Eu (wT hT (Fl rfl ⟨_,rfl,rfl,?_⟩))))
   exact Nt (congrArg V.int (congrArg Nat.cast e0)) (q _ (Ak.refl _))
  | pull v =>
   obtain ⟨t,rfl,ht,e0⟩:=Ni h
   refine (wT hT (Eu (wT hT (Eu (wT hT (Fl rfl ⟨_,rfl,_,rfl,_,rfl,_,rfl,T0,_,_,_,rfl,rfl,.inl (.inl hT),Aj (j:=1) rfl,p,us,S,kd,a,i,t,rfl,RW,ht,fun H1 s1=>⟨_,_,rfl,rfl,rfl,?_⟩⟩))))))
   exact Nt (congrArg V.int ((congrArg Nat.cast e0).trans (Eh _ _).symm)) (q _ s1)
  | push v =>
   obtain ⟨t,rfl,ht,e0⟩:=NK h
   refine (wT hT (Eu (wT hT (Eu (wT hT (Eu (wT hT (Fl rfl ⟨_,rfl,_,rfl,_,rfl,_,rfl,_,rfl,T0,_,_,_,rfl,rfl,.inl (.inl hT),Aj (j:=1) rfl,p,us,S,kd,a,i,t,rfl,RW,ht,fun H1 s1=>⟨_,_,rfl,rfl,_,_,rfl,rfl,rfl,?_⟩⟩))))))))
   have e9:((s.dr:Nat):Int) - Builtin.bitAnd ((s.dr:Nat):Int) ((2 ^ (En S.ks).idxOf t:Nat):Int)=((Jm false s.dr ((En S.ks).idxOf t):Nat):Int):=by
    rw [Dq,Nr Nat.and_le_left]
    rfl
   exact Nt (congrArg V.int ((congrArg Nat.cast e0).trans e9.symm)) (q _ s1)
  | store v =>
   have e0:s'.dr=s.dr:=Ke h (by trivial)
   refine (wT hT (Eu (wT hT (Eu (wT hT (Eu (wT hT (Eu ⟨_,rfl,_,rfl,rfl,?_⟩))))))))
   exact Nt (congrArg V.int (congrArg Nat.cast e0)) (q _ (Ak.refl _))
  | storeB v b =>
   have e0:s'.dr=s.dr:=Ke h (by trivial)
   refine (wT hT (Eu (wT hT (Eu (wT hT (Eu (wT hT (Eu ⟨_,rfl,_,rfl,rfl,?_⟩))))))))
   exact Nt (congrArg V.int (congrArg Nat.cast e0)) (q _ (Ak.refl _))
  | shoe v =>
   have e0:s'.dr=s.dr:=Ke h (by trivial)
   refine (wT hT (Eu (wT hT (Eu (wT hT (Eu (wT hT (Eu ⟨_,rfl,_,rfl,rfl,?_⟩))))))))
   exact Nt (congrArg V.int (congrArg Nat.cast e0)) (q _ (Ak.refl _))
theorem Dd.ins {C Cy pE pA:Addr} {Ho H:Hp} {y x:Addr} {bs:List (Str × Nat)} {ks:List R} {sts:List Nat} {dr sh:Nat} {sd:Addr} {m:Nat->Option Ps} {c:Nat} (h:Dd C Cy pE pA Ho H y x bs ks sts dr sh sd m c):∃ dy fs,H y=some (.ins Cy dy fs)/\∀ m∈KR,fs.lookup m=none:=by
 obtain ⟨dy,fs,e,_,_,_,_,_,l⟩:=h.at.ex
 exact ⟨dy,fs,e,l⟩
noncomputable def Z9 (K:PySem.W.Frag) (C Cy pE pA aB aP aM:Addr):Sp:=fun vs H Q _=>∃ (Ho:Hp) (y x sd:Addr) (s:Cs) (c:Nat) (p:Addr) (us:List V) (S:Pb) (kd a i:Nat),vs=[.ref y,.ref p]/\Dd C Cy pE pA Ho H y x S.bs S.ks S.sts s.dr s.sh sd s.m c/\QZ K aB aP aM H p us S kd a i/\s.sh<=S.sts.length/\∀ H',Ak H H'->Q (.bl true) H'
theorem Te:Ao ["_law_console","_law_rows","_law_added","_law_union","_law_stops"] ["_law_console","_law_rows"] (Af jE):=Bm
include N T in
theorem bC:Aw P w K mg base Bg 3 fIf dIf ["_law_console","_law_rows"] (Z9 K C Cy pE pA aB aP aM):=by
 have GXw:Aw P w K mg base Bg 1 fXw dXw ["self"] (ZG Cy):=XN N T
 have GXs:Aw P w K mg base Bg 1 fXs dXs ["self"] (cM Cy):=dq N T
 have GXk:Aw P w K mg base Bg 2 fXk dXk ["self"] (e_ C Cy):=cY N T
 have GSp:Aw P w K mg base Bg 2 fSp dSp ["_law_rows"] Xh:=W5 N T
 refine N.FIf.1.ok Te (fun vs H Q E h=>?_) (fun cdv A outer s H vs Q E hr h=>?_)
 ·obtain ⟨Ho,y,x,sd,s,c,p,us,S,kd,a,i,rfl,_⟩:=h
  rfl
 ·obtain ⟨Ho,y,x,sd,s,c,p,us,S,kd,a,i,rfl,O,RW,hs,q⟩:=h
  have hrXw:BX 1 _:=hr.mono (by decide)
  have hrXs:BX 1 _:=hr.mono (by decide)
  have hrXk:BX 2 _:=hr.mono (by decide)
  have hrSp:BX 2 _:=hr.mono (by decide)
  have hu:=CN hr
  refine ⟨_,(@Ad _ _ _ _ _ (@Ba _ _ _ _ _ _ 2 Te.nd rfl (Or.inl rfl) (BP JR (CW (pv 0) T.clR N.FXk.2.2 GXk hrXk N.FXk.2.1 .nil Ay) (BP Fg (CW (pv 0) T.clR N.FXk.2.2 GXk hrXk N.FXk.2.1 .nil Ay) (CW (pv 0) T.clR N.FXw.2.2 GXw hrXw N.FXw.2.1 .nil Ay))) (by kernel_rfl) (.inl rfl))
   (@Ad _ _ _ _ _ (@Bc _ _ _ _ _ _ _ _ (Az Kc (BP Fg (CW (pv 0) T.clR N.FXk.2.2 GXk hrXk N.FXk.2.1 .nil Ay) (CW (pv 0) T.clR N.FXw.2.2 GXw hrXw N.FXw.2.1 .nil Ay)) (CW (pv 0) T.clR N.FXw.2.2 GXw hrXw N.FXw.2.1 .nil Ay) (BL _)) (@Ae _ _ _ (@Av _ _ _ _ Hg)) BW)
   (@Ad _ _ _ _ _ (@Ba _ _ _ _ _ _ 3 Te.nd rfl (Or.inl rfl) Ac (by kernel_rfl) (.inl rfl))
   (@Ad _ _ _ _ _ (Ef PassesOwn.never rfl (Bq (Ce FJ (Al GSp hrSp rfl N.FSp.2.2 N.FSp.1.kp N.FSp.2.1 .nil Ay (@Am _ _ _ _ _ rfl (pv 1) Aa)) Dm (DG (CW (pv 0) T.clR N.FXs.2.2 GXs hrXs N.FXs.2.1 .nil Ay)))) (B_ (i:=4) Te.nd rfl (Or.inl rfl)) (@Ae _ _ _ (@Ba _ _ _ _ _ _ 3 Te.nd rfl (Or.inl rfl) (BP Hc (pv 3) (pv 4)) (by kernel_rfl) (.inl rfl))))
   (@Ae _ _ _ (@Av _ _ _ _ (Dc (Cg Be (BP Fg (pv 3) (CW (pv 0) T.clR N.FXk.2.2 GXk hrXk N.FXk.2.1 .nil Ay)) (pv 3) (BL _)) (DP (Cg Be (BP Fg (pv 2) (pv 3)) (pv 2) (BL _)))))))))),?_⟩
  obtain ⟨dy,fs,h1,lm⟩:=O.ins
  obtain ⟨St,lr100,l12⟩:=RW.st
  have l100:S.sts.length<=100:=by have:=RW.o.st; have:=RW.i12; omega
  refine ⟨_,rfl,y,dy,fs,rfl,h1,lm _ (by decide +kernel),Ho,y,x,S.ks,S.sts,s.dr,s.sh,sd,rfl,O.ok,hs,l100,fun H1 s1=>?_⟩
  refine ⟨_,rfl,y,dy,fs,rfl,(s1 _ _ h1),lm _ (by decide +kernel),Ho,y,x,S.ks,S.sts,s.dr,s.sh,sd,rfl,(O.mono s1).ok,hs,l100,fun H2 s2=>?_⟩
  have t2:=s1.trans s2
  refine ⟨_,rfl,y,dy,fs,rfl,(t2 _ _ h1),lm _ (by decide +kernel),y,x,s.dr,s.sh,sd,rfl,(O.mono t2).at,_,_,rfl,rfl,_,_,rfl,rfl,?_⟩
  dsimp only
  rw [Dq,Nr Nat.and_le_left]
  refine ⟨_,rfl,y,dy,fs,rfl,(t2 _ _ h1),lm _ (by decide +kernel),Ho,y,x,S.ks,S.sts,s.dr,s.sh,sd,rfl,(O.mono t2).ok,hs,l100,fun H3 s3=>?_⟩
  have t3:=t2.trans s3
  refine ⟨_,rfl,y,dy,fs,rfl,(t3 _ _ h1),lm _ (by decide +kernel),y,x,s.dr,s.sh,sd,rfl,(O.mono t3).at,_,_,rfl,rfl,_,rfl,y,dy,fs,rfl,(t3 _ _ h1),lm _ (by decide +kernel),y,x,s.dr,s.sh,sd,rfl,(O.mono t3).at,rfl,_,rfl,?_⟩
  rw [decide_eq_true (show V.int (Builtin.bitAnd ((s.dr ||| R1 (S.sts.take s.sh):Nat):Int) ((s.dr:Nat):Int))=V.int (s.dr:Nat) by rw [Dq,iQ])]
  refine Bo ?_
  have O3:=O.mono t3
  have RW3:=RW.mono t3
  refine ⟨_,rfl,p,us,S.rows,S.ks,S.sts,rfl,RW3.l,RW3.r,St,fun DS H4 hDS s4 l4=>?_⟩
  have t4:=t3.trans s4
  refine ⟨_,rfl,y,dy,fs,rfl,(t4 _ _ h1),lm _ (by decide +kernel),y,x,s.dr,s.sh,sd,rfl,(O.mono t4).at,_,rfl,DS,_,rfl,.inl (.inl l4),fun p2 hp2=>?_⟩
  obtain ⟨H5,eqH,s5,l5⟩:=Ds (o:=HO.lst (Dn (nV S.sts) none (some ((s.sh:Nat):Int)))) hp2
  rw [eqH]
  have ec:Dn (nV S.sts) none (some ((s.sh:Nat):Int))=nV (S.sts.take s.sh):=by
   unfold Dn
   have e1:HT.Dg (nV S.sts).length 0 none=0:=HT.G8 _ _
   rw [e1,HT.Du,List.drop_zero,Nat.sub_zero]
   show (S.sts.map _).take _=(S.sts.take s.sh).map _
   rw [List.map_take]
   congr 1
   show min s.sh (S.sts.map _).length=_
   rw [List.length_map]
   omega
  rw [ec] at l5
  have hS5:DQ K H5 p2 (nV (S.sts.take s.sh)):=.inl (.inl l5)
  have t5:=t4.trans s5
  obtain ⟨un,eun⟩:∃ un,R1 (S.sts.take s.sh)=un:=⟨_,rfl⟩
  rw [eun]
  refine ⟨p2,rfl,⟨_,hS5⟩,Gg (K:=K) (a:=p2) (xs:=nV (S.sts.take s.sh)) (fun i σ H'=>H'=H5/\∃ v3,σ=[some (.ref y),some (.ref p),some (.int (((s.dr ||| un) - ((s.dr ||| un) &&& s.dr):Nat):Int)),some (.int ((R1 ((S.sts.take s.sh).take i):Nat):Int)),v3]) ⟨rfl,none,rfl⟩ (fun i σ H' _ h=>by rw [h.1]; exact hS5) ?_ ?_⟩
  ·rintro i z σ H6 hz ⟨rfl,v3,rfl⟩
   rw [List.getElem?_map] at hz
   obtain ⟨m,hm,rfl⟩:=Option.map_eq_some_iff.mp hz
   refine ⟨_,rfl,_,rfl,_,_,rfl,rfl,rfl,some (.int (m:Nat)),?_⟩
   rw [List.take_add_one,hm]
   show [some (V.ref y),some (V.ref p),some (V.int (((s.dr ||| un) - ((s.dr ||| un) &&& s.dr):Nat):Int)),some (V.int (Builtin.bitOr ((R1 ((S.sts.take s.sh).take i):Nat):Int) ((m:Nat):Int))),some (V.int (m:Nat))]=[_,_,_,some (V.int ((R1 ((S.sts.take s.sh).take i++[m]):Nat):Int)),_]
   rw [Nh,Eh]
  rintro σ H6 ⟨rfl,v3,rfl⟩
  have el:(nV (S.sts.take s.sh)).length=(S.sts.take s.sh).length:=List.length_map _
  rw [el,List.take_length,eun]
  have O5:=O.mono t5
  refine ⟨_,rfl,_,rfl,y,dy,fs,rfl,(t5 _ _ h1),lm _ (by decide +kernel),Ho,y,x,S.ks,S.sts,s.dr,s.sh,sd,rfl,O5.ok,hs,l100,fun H7 s7=>?_⟩
  rw [eun]
  refine ⟨_,_,rfl,rfl,_,rfl,rfl,_,rfl,Fl (congrArg V.int ((Dq _ _).trans (congrArg Nat.cast mU))) ⟨_,rfl,_,rfl,_,_,rfl,rfl,_,rfl,rfl,?_⟩⟩
  exact Nt (congrArg V.int ((Dq _ _).trans (congrArg Nat.cast jA))) (q _ (t5.trans s7))
open Bw
noncomputable def Nz (K:PySem.W.Frag):Sp:=fun vs H Q _=>∃ (a:Addr) (ns:List Int),vs=[.ref a]/\DQ K H a (ns.map V.int)/\ns.length<=63/\∀ H',Q (.bl true) H'
theorem Ru (ns:List Int) {lo hi:Int} (h0:0<=lo) (h1:lo<=hi):∃ ms:List Int,Dn (ns.map V.int) (some lo) (some hi)=ms.map V.int/\(ms.length:Int)<=hi - lo:=by
 obtain ⟨a,rfl⟩:=Int.eq_ofNat_of_zero_le h0
 obtain ⟨b,rfl⟩:=Int.eq_ofNat_of_zero_le (show 0<=hi by omega)
 unfold Dn
 refine ⟨(ns.drop (HT.Dg (ns.map V.int).length 0 (some (a:Int)))).take (HT.Dg (ns.map V.int).length (ns.map V.int).length (some (b:Int)) - HT.Dg (ns.map V.int).length 0 (some (a:Int))),?_,?_⟩
 ·rw [← List.map_drop,← List.map_take]
 ·rw [List.length_take,List.length_drop,HT.Du,HT.Du]
  omega
section
variable {C Cy pE pA:Addr} {Ho H H':Hp} {y x a b:Addr} {bs:List (Str × Nat)} {ks:List R} {sts:List Nat} {dr sh:Nat} {sd:Addr} {m:Nat->Option Ps} {c:Nat}
theorem Dd.mY (h:Dd C Cy pE pA Ho H y x bs ks sts dr sh sd m c) (f:Fb H H' a b) (h1:Ho a=none) (h2:Ho b=none) (da:∃ k,H a=some (.dK k)) (db:∃ k,H b=some (.dK k)) (na:sd ≠ a) (nb:sd ≠ b):Dd C Cy pE pA Ho H' y x bs ks sts dr sh sd m c:=by
 obtain ⟨us,rk,ls,g⟩:=h.o
 obtain ⟨k1,e1⟩:=da
 obtain ⟨k2,e2⟩:=db
 have ok:∀ {b o},H b=some o->(∀ k,o ≠ .dK k)->H' b=some o:=fun {b o} e ne=>f b o e (fun z=>by
  rw [z,e1] at e
  exact ne _ (Option.some.inj e).symm) (fun z=>by
  rw [z,e2] at e
  exact ne _ (Option.some.inj e).symm)
 obtain ⟨dy,fs,a1,a2⟩:=g.c.ex
 obtain ⟨kvs,d1,d2,d3,d4⟩:=h.st.ex
 refine ⟨⟨us,rk,ls,g.o,fun b o e=>f b o (g.s b o e) (Ai e h1) (Ai e h2),g.n,dy,fs,ok a1 (fun _ z=>nomatch z),a2⟩,h.f,h.hs,h.ny,kvs,f _ _ d1 na nb,d2,d3,fun p ps hp hm=>?_⟩
 obtain ⟨o,f1,f2⟩:=d4 p ps hp hm
 exact ⟨o,f1,f2.keep fun _ _ _ e=>ok e (fun _ z=>nomatch z)⟩
end
noncomputable def ou:Rs->Prop
 | .told u=>u=.non \/ ∃ b,u=.bl b
 | .no _=>True
theorem VB {ns:List Str} {ks:List R} {n:Nat} {s:Cs} (d:Gv):ou (act ns ks n s d).2:=by
 cases d with
 | pull v =>
  unfold act
  dsimp only
  cases Dh ks v with
  | none=>trivial
  | some k=>exact .inr ⟨_,rfl⟩
 | push v =>
  unfold act
  dsimp only
  cases Dh ks v with
  | none=>trivial
  | some k=>exact .inr ⟨_,rfl⟩
 | store v =>
  unfold act
  dsimp only
  cases Dk v with
  | none=>trivial
  | some k=>exact .inl rfl
 | storeB v b =>
  unfold act
  dsimp only
  cases Dk v with
  | none=>trivial
  | some k =>
   dsimp only
   cases XS ns ks s.dr b with
   | none=>trivial
   | some q=>exact .inl rfl
 | press v =>
  unfold act
  dsimp only
  cases (Dk v).bind s.m with
  | none=>trivial
  | some k=>exact .inl rfl
 | shoe v =>
  unfold act
  dsimp only
  cases Gj n v with
  | none=>trivial
  | some k=>exact .inl rfl
 | cancel=>exact .inl rfl
theorem QH:PySem.W.kitOne K (.type "list") (.type "list")=some true:=by kernel_rfl
theorem eQ:PySem.W.kitOne K (.type "bool") (.type "list")=some false:=by kernel_rfl
theorem fJ:PySem.W.kitOne K (.type "NoneType") (.type "list")=some false:=by kernel_rfl
theorem YJ {ns:List Str} {ks:List R} {n:Nat} {s s':Cs} {d:Gv} {i:Nat} (h:act ns ks n s d=(s',.no i)):s'=s:=by
 cases d with
 | pull v =>
  unfold act at h
  dsimp only at h
  cases e:Dh ks v with
  | none=>rw [e] at h; exact (Prod.mk.inj h).1.symm
  | some k=>rw [e] at h; exact nomatch (Prod.mk.inj h).2
 | push v =>
  unfold act at h
  dsimp only at h
  cases e:Dh ks v with
  | none=>rw [e] at h; exact (Prod.mk.inj h).1.symm
  | some k=>rw [e] at h; exact nomatch (Prod.mk.inj h).2
 | store v =>
  unfold act at h
  dsimp only at h
  cases e:Dk v with
  | none=>rw [e] at h; exact (Prod.mk.inj h).1.symm
  | some k=>rw [e] at h; exact nomatch (Prod.mk.inj h).2
 | storeB v b =>
  unfold act at h
  dsimp only at h
  cases e:Dk v with
  | none=>rw [e] at h; exact (Prod.mk.inj h).1.symm
  | some k =>
   rw [e] at h
   dsimp only at h
   cases e2:XS ns ks s.dr b with
   | none=>rw [e2] at h; exact (Prod.mk.inj h).1.symm
   | some q=>rw [e2] at h; exact nomatch (Prod.mk.inj h).2
 | press v =>
  unfold act at h
  dsimp only at h
  cases e:(Dk v).bind s.m with
  | none=>rw [e] at h; exact (Prod.mk.inj h).1.symm
  | some k=>rw [e] at h; exact nomatch (Prod.mk.inj h).2
 | shoe v =>
  unfold act at h
  dsimp only at h
  cases e:Gj n v with
  | none=>rw [e] at h; exact (Prod.mk.inj h).1.symm
  | some k=>rw [e] at h; exact nomatch (Prod.mk.inj h).2
 | cancel=>exact nomatch (Prod.mk.inj h).2
theorem MJ {ns:List Str} {ks:List R} {n:Nat} {s s':Cs} {v u:V} (h:act ns ks n s (.store v)=(s',.told u)):∃ p:Nat,v=.int (p:Nat)/\p<10/\s'=⟨s.dr,s.sh,GZ s.m p (.every s.dr)⟩:=by
 unfold act at h
 dsimp only at h
 cases e:Dk v with
 | none=>rw [e] at h; exact nomatch (Prod.mk.inj h).2
 | some p =>
  obtain ⟨rfl,hp⟩:=Mi e
  rw [e] at h
  exact ⟨p,rfl,hp,(Prod.mk.inj h).1.symm⟩
theorem Kf {ns:List Str} {ks:List R} {n:Nat} {s s':Cs} {v b u:V} (h:act ns ks n s (.storeB v b)=(s',.told u)):∃ p:Nat,v=.int (p:Nat)/\p<10/\(b=.non/\s'=⟨s.dr,s.sh,GZ s.m p (.every s.dr)⟩ \/ ∃ t,b=.str t/\s'=⟨s.dr,s.sh,GZ s.m p (.part (s.dr &&& Bs ks t) (Bs ks t))⟩):=by
 unfold act at h
 dsimp only at h
 cases e:Dk v with
 | none=>rw [e] at h; exact nomatch (Prod.mk.inj h).2
 | some p =>
  obtain ⟨rfl,hp⟩:=Mi e
  rw [e] at h
  dsimp only at h
  refine ⟨p,rfl,hp,?_⟩
  cases e2:XS ns ks s.dr b with
  | none=>rw [e2] at h; exact nomatch (Prod.mk.inj h).2
  | some q =>
   rw [e2] at h
   have es:=(Prod.mk.inj h).1.symm
   cases b with
   | non =>
    cases e2
    exact .inl ⟨rfl,es⟩
   | str t =>
    have e':(if t∈ns then some (Ps.part (s.dr &&& Bs ks t) (Bs ks t)) else none)=some q:=e2
    by_cases c:t∈ns
    ·rw [if_pos c] at e'
     exact .inr ⟨t,rfl,by rw [es,← Option.some.inj e']⟩
    ·rw [if_neg c] at e'
     cases e'
   | _=>cases e2
theorem Il {ns:List Str} {ks:List R} {n:Nat} {s s':Cs} {d:Gv} {r:Rs} (h:act ns ks n s d=(s',r)) (hd:(∀ v,d ≠ .store v)/\∀ v b,d ≠ .storeB v b):s'.m=s.m:=by
 have e:s'=(act ns ks n s d).1:=by rw [h]
 rw [e]
 cases d with
 | pull v =>
  unfold act
  dsimp only
  cases Dh ks v <;> rfl
 | push v =>
  unfold act
  dsimp only
  cases Dh ks v <;> rfl
 | store v=>exact (hd.1 v rfl).elim
 | storeB v b=>exact (hd.2 v b rfl).elim
 | press v =>
  unfold act
  dsimp only
  cases (Dk v).bind s.m <;> rfl
 | shoe v =>
  unfold act
  dsimp only
  cases Gj n v <;> rfl
 | cancel=>rfl
theorem Rk {q:Ps} {d:Nat}:q.put (q.put d)=q.put d:=by
 cases q with
 | every k=>rfl
 | part k w =>
  show (((d - (d &&& w)) ||| k) - (((d - (d &&& w)) ||| k) &&& w)) ||| k=(d - (d &&& w)) ||| k
  refine HY fun j=>?_
  rw [Nat.testBit_or,Gn.IV,Nat.testBit_or,Gn.IV]
  cases d.testBit j <;> cases k.testBit j <;> cases w.testBit j <;> rfl
theorem Ia:Ao ["_law_script","_law_rows","_law_console","_law_kept","_law_cell","_law_deed_here","_law_ahead","_law_found","_law_behind"] ["_law_script"] (Af Ml):=Bm
set_option maxHeartbeats 0 in
theorem YF {f:Addr} {fd:FuncData} (F:DW K "law" "law" Ml f fd) (N:nu K mg C Cy pB pE pA fWh fMd fNm fRo fTo fWi fPa fHp fCl fIk fSb fIs fWm fHr fIr fCk fNu fPl fLi fSs fMy fSt fUn fKn fBn fKb fIp fDn fDw fNa fLg fLx fSp fOb fLm fDe fDo fWo fOn fFi fIf fOi fOu fBk fOj fOy fOz fXi fXd fXp fXq fXw fXk fXs fXh fXt fXr fXc fPi fEp fAi fAp dWh dMd dNm dRo dTo dWi dPa dHp dCl dIk dSb dIs dWm dHr dIr dCk dNu dPl dLi dSs dMy dSt dUn dKn dBn dKb dIp dDn dDw dNa dLg dLx dSp dOb dLm dDe dDo dWo dOn dFi dIf dOi dOu dBk dOj dOy dOz dXi dXd dXp dXq dXw dXk dXs dXh dXt dXr dXc dPi dEp dAi dAp) (T:Txt K w.params mg C Cy cK cP cB cS cO pB pE pA aN aK aB aP aM) (F0:c7 K aB aP aM):Aw P w K mg base Bg 11 f fd ["_law_script"] (Nz K):=by
 have GDn:Aw P w K mg base Bg 1 fDn dDn ["_law_script","_law_start"] (gC K):=bD N T
 have GLg:Aw P w K mg base Bg 3 fLg dLg ["_law_drawn_here"] (cJ K aB aP aM):=Z4 N T
 have GOi:Aw P w K mg base Bg 9 fOi dOi ["self","rows"] (fH K aB aP aM C):=ZX N T
 have GXi:Aw P w K mg base Bg 1 fXi dXi ["self","organ"] (cG Cy):=aa N T
 have GDe:Aw P w K mg base Bg 3 fDe dDe ["_law_rows","_law_number"] (cX K aB aP aM):=fX N T
 have GDo:Aw P w K mg base Bg 7 fDo dDo ["_law_console","_law_deed_here"] (Z8 C Cy pE pA):=bc N T
 have GWo:Aw P w K mg base Bg 3 fWo dWo ["_law_rows","_law_deed_here"] (fC K aB aP aM):=Zq N T
 have GFi:Aw P w K mg base Bg 3 fFi dFi ["_law_rows","_law_deed_here","_law_ahead","_law_behind","_law_kept"] (Yr K aB aP aM):=dY N T
 have GIf:Aw P w K mg base Bg 3 fIf dIf ["_law_console","_law_rows"] (Z9 K C Cy pE pA aB aP aM):=bC N T
 have GXw:Aw P w K mg base Bg 1 fXw dXw ["self"] (ZG Cy):=XN N T
 have GXr:Aw P w K mg base (Ij P w) 3 fXr dXr ["self","piston"] (ZF C Cy pE pA cP):=W3 N T
 refine F.ok Ia (fun vs H Q E h=>?_) (fun cdv A outer s H vs Q E hr h=>?_)
 ·obtain ⟨a,ns,rfl,_⟩:=h
  rfl
 ·obtain ⟨a,ns,rfl,hS,hlen,q⟩:=h
  have hrDn:BX 1 _:=hr.mono (by decide)
  have hrLg:BX 3 _:=hr.mono (by decide)
  have hrOi:BX 9 _:=hr.mono (by decide)
  have hrXi:BX 1 _:=hr.mono (by decide)
  have hrDe:BX 3 _:=hr.mono (by decide)
  have hrDo:BX 7 _:=hr.mono (by decide)
  have hrWo:BX 3 _:=hr.mono (by decide)
  have hrFi:BX 3 _:=hr.mono (by decide)
  have hrIf:BX 3 _:=hr.mono (by decide)
  have hrXw:BX 1 _:=hr.mono (by decide)
  have hrXr:BX 3 _:=hr.mono (by decide)
  have hu:=CN hr
  refine ⟨_,(@Ad _ _ _ _ _ (@Ba _ _ _ _ _ _ 1 Ia.nd rfl (Or.inl rfl) (Al GLg hrLg rfl N.FLg.2.2 N.FLg.1.kp N.FLg.2.1 .nil Ay (@Am _ _ _ _ _ rfl (Al GDn hrDn rfl N.FDn.2.2 N.FDn.1.kp N.FDn.2.1 .nil Ay (@Am _ _ _ _ _ rfl (pv 0) (@Am _ _ _ _ _ rfl Ac Aa))) Aa)) (by kernel_rfl) (.inl rfl))
   (@Ad _ _ _ _ _ (@Ba _ _ _ _ _ _ 2 Ia.nd rfl (Or.inl rfl) (Jw N.FXi.2.2 GXi (hr.mono (by decide)) rfl T.mCR N.FXi.2.1 .nil Ay (@Am _ _ _ _ _ rfl (Jw N.FOi.2.2 GOi hr rfl T.mC N.FOi.2.1 .nil Ay (@Am _ _ _ _ _ rfl (pv 1) Aa)) Aa)) (by kernel_rfl) (.inl rfl))
   (@Ad _ _ _ _ _ (@Ba _ _ _ _ _ _ 3 Ia.nd rfl (Or.inl rfl) J6 (by kernel_rfl) (.inl rfl))
   (@Ad _ _ _ _ _ (Ef PassesOwn.never rfl (Bq (Ce FJ (pv 0) (DG Ac) (DG Ac))) (B_ (i:=4) Ia.nd rfl (Or.inl rfl)) (@Ad _ _ _ _ _ (@Ba _ _ _ _ _ _ 5 Ia.nd rfl (Or.inl rfl) (Al GDe hrDe rfl N.FDe.2.2 N.FDe.1.kp N.FDe.2.1 .nil Ay (@Am _ _ _ _ _ rfl (pv 1) (@Am _ _ _ _ _ rfl (BP GK (BP CT (BP GD (pv 4) Ac) Ac) Ac) Aa))) (by kernel_rfl) (.inl rfl))
   (@Ad _ _ _ _ _ (@Ba _ _ _ _ _ _ 6 Ia.nd rfl (Or.inl rfl) (CW (pv 2) T.clR N.FXw.2.2 GXw hrXw N.FXw.2.1 .nil Ay) (by kernel_rfl) (.inl rfl))
   (@Ad _ _ _ _ _ (@Ba _ _ _ _ _ _ 7 Ia.nd rfl (Or.inl rfl) (Al GDo hrDo rfl N.FDo.2.2 N.FDo.1.kp N.FDo.2.1 .nil Ay (@Am _ _ _ _ _ rfl (pv 2) (@Am _ _ _ _ _ rfl (pv 5) Aa))) (by kernel_rfl) (.inl rfl))
   (@Ad _ _ _ _ _ (@Ba _ _ _ _ _ _ 8 Ia.nd rfl (Or.inl rfl) (CW (pv 2) T.clR N.FXw.2.2 GXw hrXw N.FXw.2.1 .nil Ay) (by kernel_rfl) (.inl rfl))
   (@Ae _ _ _ (@Bc _ _ _ _ _ _ _ _ (DN (BK Cw rfl T.isin PyProof.Rows.boot_isinstance (@Am _ _ _ _ _ rfl (pv 7) (@Am _ _ _ _ _ rfl (EY (v:=.ty "list") rfl T.list PyProof.Rows.boot_list rfl) Aa)))) (@Ae _ _ _ (@Bc _ _ _ _ _ _ _ _ (Az Kc (pv 8) (pv 6) (BL _)) (@Ae _ _ _ (@Av _ _ _ _ Hg)) BW)) (@Ae _ _ _ (@Bc _ _ _ _ _ _ _ _ (PW.pt (Im (Dw (DN (Al GFi hrFi rfl N.FFi.2.2 N.FFi.1.kp N.FFi.2.1 .nil Ay (@Am _ _ _ _ _ rfl (pv 1) (@Am _ _ _ _ _ rfl (pv 5) (@Am _ _ _ _ _ rfl (pv 6) (@Am _ _ _ _ _ rfl (pv 8) (@Am _ _ _ _ _ rfl (pv 3) Aa)))))))) (G9 (Dw (DN (Al GIf hrIf rfl N.FIf.2.2 N.FIf.1.kp N.FIf.2.1 .nil Ay (@Am _ _ _ _ _ rfl (pv 2) (@Am _ _ _ _ _ rfl (pv 1) Aa)))))))) (@Ae _ _ _ (@Av _ _ _ _ Hg)) (@Ae _ _ _ (@Bc _ _ _ _ _ _ _ _ (Az Be (@A_ _ _ _ _ _ _ _ (An (K:=K) rfl) (pv 5) Ac (fun _ _=>rfl)) BR (BL _)) (@Ae _ _ _ (Jo hu (pv 3) (@A_ _ _ _ _ _ _ _ (An (K:=K) rfl) (pv 5) Ac (fun _ _=>rfl)) (@Bt _ _ _ _ _ (@Am _ _ _ _ _ rfl (BP Fg (pv 8) (Al GWo hrWo rfl N.FWo.2.2 N.FWo.1.kp N.FWo.2.1 .nil Ay (@Am _ _ _ _ _ rfl (pv 1) (@Am _ _ _ _ _ rfl (pv 5) Aa)))) (@Am _ _ _ _ _ rfl (Al GWo hrWo rfl N.FWo.2.2 N.FWo.1.kp N.FWo.2.1 .nil Ay (@Am _ _ _ _ _ rfl (pv 1) (@Am _ _ _ _ _ rfl (pv 5) Aa))) Aa))) rfl)) (@Ae _ _ _ (@Bc _ _ _ _ _ _ _ _ (Az Be (@A_ _ _ _ _ _ _ _ (An (K:=K) rfl) (pv 5) Ac (fun _ _=>rfl)) BR (BL _)) (@Ad _ _ _ _ _ (CK (FN (pv 2) T.clR N.FXr.2.2 GXr hrXr N.FXr.2.1 .nil bA (@Am _ _ _ _ _ rfl (@A_ _ _ _ _ _ _ _ (An (K:=K) rfl) (pv 5) Ac (fun _ _=>rfl)) Aa)))
   (@Ae _ _ _ (@Bc _ _ _ _ _ _ _ _ (Az Kc (CW (pv 2) T.clR N.FXw.2.2 GXw hrXw N.FXw.2.1 .nil Ay) (pv 8) (BL _)) (@Ae _ _ _ (@Av _ _ _ _ Hg)) BW))) BW)))))))))))))
   (@Ae _ _ _ (@Av _ _ _ _ Hg)))))),?_⟩
  refine ⟨_,rfl,a,43,ns,rfl,hS,by decide,by decide,hlen,fun dh pc H1 hdh hpc s1 D1=>?_⟩
  refine ⟨dh,pc,0,rfl,D1,by omega,F0,fun pR S kd at_ i0 n' H2 k3 a5 i1 i12 O2 R2 hn'=>?_⟩
  have sH2:Ak H H2:=fun b o e=>R2.f b o (Ai e hdh) (Ai e hpc) (s1 b o e)
  obtain ⟨vr,r1,r2⟩:=R2.r
  have lk:=O2.lk
  have lr:=O2.lr
  have ndk:=O2.dk k3 a5 i12
  have gr:∀ n∈En S.ks,isNm n:=fun n hn=>by
   obtain ⟨r,hr,rfl⟩:=List.mem_map.mp hn
   obtain ⟨j,hj,e⟩:=O2.kn hr
   rw [e]
   exact (JG (JP k3 a5 (by omega))).1
  have RW2:QZ K aB aP aM H2 pR vr S kd at_ i0:=⟨r1,r2,O2,k3,a5,i1,i12⟩
  refine ⟨_,rfl,?_⟩
  intro x dx nx ndx nex
  have sx:Ak H2 (upd (upd H2 dx (.own x)) x (.ins C dx [])):=fun b o e=>by
   rw [Ar (Ai e nx),Ar (Ai e ndx)]
   exact e
  obtain ⟨R8,O8,eL,eS⟩:=De.org O2 k3 a5 i12 (by omega) r2
  refine ⟨x,dx,pR,vr,Gf H2,S.bs,S.rk,S.ks,rfl,Ah,sx _ _ r1,R8.mono sx,O8,fun Ho OA _ SXh=>⟨rfl,?_⟩⟩
  rw [eL,eS] at OA
  have s2o:Ak H2 Ho:=fun b o e=>SXh b o (sx b o e) (Ai e nx)
  clear SXh sx nx ndx nex R8 O8
  intro y dy ny ndy ney
  have sy:Ak Ho (upd (upd Ho dy (.own y)) y (.ins Cy dy [])):=fun b o e=>by
   rw [Ar (Ai e ny),Ar (Ai e ndy)]
   exact e
  refine ⟨y,dy,x,rfl,Ah,fun sd H3 c3 hsd e3 CA=>⟨rfl,?_⟩⟩
  have so3:Ak Ho H3:=fun b o e=>c3 b o (sy b o e) (Ai e ny)
  have nsd:sd ≠ y:=fun z=>by
   rw [z,Ah] at hsd
   cases hsd
  have K3:Dd C Cy pE pA Ho H3 y x S.bs S.ks S.sts 0 0 sd (fun _=>none) 0:=⟨⟨vr,S.rk,S.ls,OA,so3,ny,CA⟩,⟨fun n hn=>by
   obtain ⟨b,hb,rfl⟩:=List.mem_map.mp hn
   exact (O2.sb b hb).1,O2.db,gr,ndk,by omega,O2.kb⟩,sy.free hsd,nsd,[],e3,Nat.le_refl _,fun _ _ _=>M_,fun _ _ _ z=>nomatch z⟩
  have s23:=s2o.trans so3
  have RW3:=RW2.mono s23
  have sH3:Ak H H3:=sH2.trans s23
  have nH:∀ {b o},H b=some o->b ≠ y/\b ≠ sd:=fun {b o} e=>by
   have e':=s2o _ _ (sH2 _ _ e)
   exact ⟨Ai e' ny,Ai e' (sy.free hsd)⟩
  have hoy:=ny
  have hod:=sy.free hsd
  clear c3 sy ndy ney CA hsd e3
  refine fun kp hkp=>?_
  obtain ⟨H4,eqH,s4,e4⟩:=Ds (o:=HO.dK []) hkp
  rw [eqH]
  have D4:Mx H4 S.ks.length kp (fun _=>none) 0:=⟨[],e4,Nat.le_refl _,fun _ _ _ z=>nomatch z⟩
  have K4:=K3.mono s4
  have RW4:=RW3.mono s4
  have hO0:YQ S.ks.length S.sts.length ⟨0,0,fun _=>none⟩:=⟨Nat.two_pow_pos _,Nat.zero_le _,(fun _ _ z=>nomatch z),(fun _ _ z=>nomatch z)⟩
  obtain ⟨dy3,fs3,h3y,_⟩:=K3.ins
  obtain ⟨kv3,h3d,_⟩:=id K3.st.ex
  have nky:kp ≠ y:=fun z=>by rw [z,h3y] at hkp; cases hkp
  have nkd:kp ≠ sd:=fun z=>by rw [z,h3d] at hkp; cases hkp
  have hokp:Ho kp=none:=so3.free hkp
  have sH4:Ak H H4:=sH3.trans s4
  refine ⟨_,rfl,_,rfl,_,rfl,a,_,rfl,sH4.seq hS,fun p6 hp6=>?_⟩
  obtain ⟨ms,ems,lms⟩:=Ru ns (lo:=2) (hi:=62) (by omega) (by omega)
  obtain ⟨H6,eqH,s6,l6⟩:=Ds (o:=HO.lst (Dn (ns.map V.int) (some 2) (some 62))) hp6
  rw [eqH]
  rw [ems] at l6
  have hS6:DQ K H6 p6 (ms.map V.int):=.inl (.inl l6)
  refine ⟨p6,rfl,⟨_,hS6⟩,Gg (K:=K) (a:=p6) (xs:=ms.map V.int) (fun i σ H'=>∃ (s:Cs) (v4 v5 v6 v7 v8:Option V),Dd C Cy pE pA Ho H' y x S.bs S.ks S.sts s.dr s.sh sd s.m i/\Mx H' S.ks.length kp s.m i/\QZ K aB aP aM H' pR vr S kd at_ i0/\YQ S.ks.length S.sts.length s/\H' p6=some (.lst (ms.map V.int))/\σ=[some (.ref a),some (.ref pR),some (.ref y),some (.ref kp),v4,v5,v6,v7,v8]) ⟨⟨0,0,fun _=>none⟩,_,_,_,_,_,K4.mono s6,D4.mono s6,RW4.mono s6,hO0,l6,rfl⟩ (fun i σ H' _ h=>by obtain ⟨_,_,_,_,_,_,_,_,_,_,l,_⟩:=h; exact .inl (.inl l)) ?_ ?_⟩
  ·rintro i yv σ H7 hy ⟨s,v4,v5,v6,v7,v8,K7,D7,RW7,hO7,l7,rfl⟩
   have hi:i<(ms.map V.int).length:=(List.getElem?_eq_some_iff.mp hy).1
   rw [List.length_map] at hi
   obtain ⟨n,_,rfl⟩:=List.mem_map.mp (List.mem_of_getElem? hy)
   have hn0:0<=n * 950706376 % 2147483647 / 8:=by
    have:=Int.emod_nonneg (n * 950706376) (show (2147483647:Int) ≠ 0 by decide)
    omega
   refine ⟨_,rfl,_,rfl,_,_,rfl,rfl,.inr ⟨by decide,by decide⟩,_,_,rfl,rfl,(by show (0:Int)<2147483647; decide),_,_,rfl,rfl,⟨by decide,by decide⟩,pR,vr,S,kd,at_,i0,_,rfl,hn0,RW7.l,RW7.r,O2,k3,a5,i1,i12,fun T d H8 hT s8 l8 hd=>?_⟩
   have K8:=K7.mono s8
   have D8:=D7.mono s8
   have RW8:=RW7.mono s8
   obtain ⟨dy8,fs8,h8y,m8⟩:=K8.ins
   obtain ⟨kv8,h8d,_⟩:=id K8.st.ex
   refine ⟨_,rfl,y,dy8,fs8,rfl,h8y,m8 _ (by decide +kernel),y,x,s.dr,s.sh,sd,rfl,K8.at,?_⟩
   refine ⟨_,rfl,_,rfl,Ho,y,x,S.bs,S.ks,S.sts,s,sd,i,T,d,rfl,K8,by omega,l8,hd,fun v H9 f9 K9 r9=>?_⟩
   have k9:(∀ a xs,H8 a=some (.lst xs)->H9 a=some (.lst xs))/\∀ a xs,H8 a=some (.tup xs)->H9 a=some (.tup xs):=⟨fun a xs e=>f9 _ _ e (fun z=>by rw [z,h8y] at e; cases e) (fun z=>by rw [z,h8d] at e; cases e),fun a xs e=>f9 _ _ e (fun z=>by rw [z,h8y] at e; cases e) (fun z=>by rw [z,h8d] at e; cases e)⟩
   have D9:=D8.fb f9 nky nkd (fun xs z=>by rw [h8y] at z; cases z) (fun xs z=>by rw [h8d] at z; cases z)
   have RW9:=RW8.to k9.1 k9.2
   have l9:=k9.2 _ _ l8
   have l79:=k9.1 _ _ (s8 _ _ l7)
   have hO':YQ S.ks.length S.sts.length _:=hO7.go (ns:=S.bs.map (·.1)) d
   have hk:=VB (ns:=S.bs.map (·.1)) (ks:=S.ks) (n:=S.sts.length) (s:=s) d
   obtain ⟨s',r,ha⟩:∃ s' r,act (S.bs.map (·.1)) S.ks S.sts.length s d=(s',r):=⟨_,_,rfl⟩
   rw [ha] at K9 r9 hO' hk
   obtain ⟨dy9,fs9,h9y,m9⟩:=K9.ins
   refine ⟨_,rfl,y,dy9,fs9,rfl,h9y,m9 _ (by decide +kernel),y,x,s'.dr,s'.sh,sd,rfl,K9.at,?_⟩
   cases r with
   | no j =>
    obtain ⟨hj,D1,rfl,_,lD⟩:=r9
    obtain rfl:=YJ ha
    refine ⟨_,rfl,_,_,_,_,rfl,.lst lD,QH,_,rfl,Cm ⟨_,rfl,_,rfl,rfl,_,rfl,?_⟩⟩
    rw [decide_eq_true rfl]
    exact Bo ⟨_,_,_,_,_,_,K9,D9.le (by omega),RW9,hO',l79,rfl⟩
   | told u =>
    obtain rfl:v=u:=r9
    have tyu:∃ t,Hk K H9 v t/\PySem.W.kitOne K t (.type "list")=some false:=by
     rcases hk with rfl | ⟨b,rfl⟩
     ·exact ⟨_,.non,fJ⟩
     ·exact ⟨_,.bl _,eQ⟩
    obtain ⟨t9,ty9,kt9⟩:=tyu
    refine ⟨_,rfl,_,_,_,_,rfl,ty9,kt9,_,rfl,Bo ⟨_,rfl,_,rfl,_,rfl,_,rfl,_,rfl,kp,s,s',i,pR,vr,S,kd,at_,i0,T,d,v,rfl,D9,RW9,hO7,l9,ha,fun H10 s10=>⟨_,rfl,Bo ⟨_,rfl,_,rfl,Ho,y,x,sd,s',i+1,pR,vr,S,kd,at_,i0,rfl,K9.mono s10,RW9.mono s10,hO'.h,fun H11 s11=>⟨_,rfl,Bo ?_⟩⟩⟩⟩⟩
    have s911:=s10.trans s11
    have K11:=K9.mono s911
    have D11:=D9.mono s911
    have RW11:=RW9.mono s911
    have l11:=s911 _ _ l9
    have l711:=s911 _ _ l79
    have D11':s'.m=s.m->Mx H11 S.ks.length kp s'.m (i+1):=fun e=>by
     rw [e]
     exact D11.le (by omega)
    cases d with
    | pull v0 =>
     refine (wT l11 (Eu (wT l11 (Eu ?_))))
     exact ⟨_,_,_,_,_,_,K11,D11' (Il ha ⟨(fun v z=>nomatch z),(fun v b z=>nomatch z)⟩),RW11,hO',l711,rfl⟩
    | push v0 =>
     refine (wT l11 (Eu (wT l11 (Eu ?_))))
     exact ⟨_,_,_,_,_,_,K11,D11' (Il ha ⟨(fun v z=>nomatch z),(fun v b z=>nomatch z)⟩),RW11,hO',l711,rfl⟩
    | shoe v0 =>
     refine (wT l11 (Eu (wT l11 (Eu ?_))))
     exact ⟨_,_,_,_,_,_,K11,D11' (Il ha ⟨(fun v z=>nomatch z),(fun v b z=>nomatch z)⟩),RW11,hO',l711,rfl⟩
    | cancel =>
     refine (wT l11 (Eu (wT l11 (Eu ?_))))
     exact ⟨_,_,_,_,_,_,K11,D11' (Il ha ⟨(fun v z=>nomatch z),(fun v b z=>nomatch z)⟩),RW11,hO',l711,rfl⟩
    | store v0 =>
     obtain ⟨j,rfl,hj,rfl⟩:=MJ ha
     refine (wT l11 (Fl rfl ⟨_,rfl,_,rfl,_,rfl,pR,vr,S,kd,at_,i0,T,_,_,rfl,RW11,l11,.inl ⟨⟨_,rfl⟩,rfl⟩,fun H12 s12=>⟨_,_,rfl,rfl,_,rfl,_,rfl,pR,vr,S,kd,at_,i0,T,_,_,rfl,RW11.mono s12,s12 _ _ l11,.inl ⟨⟨_,rfl⟩,rfl⟩,fun H13 s13=>⟨by show 2<=sizeLine; decide,fun T2 hT2=>?_⟩⟩⟩))
     dsimp only
     rw [Dq,Ie hO7.d]
     have s1113:=s12.trans s13
     have s14:=Ax (o:=HO.tup [V.int ((s.dr:Nat):Int),.int (((2 ^ S.ks.length - 1):Nat):Int)]) hT2
     have u14:upd H13 T2 (HO.tup [V.int ((s.dr:Nat):Int),.int (((2 ^ S.ks.length - 1):Nat):Int)]) T2=some (.tup [V.int ((CP S.ks.length (.every s.dr)).1:Nat),.int ((CP S.ks.length (.every s.dr)).2:Nat)]):=Ah
     generalize upd H13 T2 (HO.tup [V.int ((s.dr:Nat):Int),.int (((2 ^ S.ks.length - 1):Nat):Int)])=H14 at s14 u14 ⊢
     have s1114:=s1113.trans s14
     obtain ⟨H15,g1,g2,g3⟩:=(D11.mono s1114).Xk (by omega) j (.every s.dr) u14
     obtain ⟨kvk,ekk,_⟩:=(D11.mono s1114).ex
     have k15:(∀ a xs,H14 a=some (.lst xs)->H15 a=some (.lst xs))/\∀ a xs,H14 a=some (.tup xs)->H15 a=some (.tup xs):=⟨fun a xs e=>g2 _ _ e (fun z=>by rw [z,ekk] at e; cases e) (fun z=>by rw [z,ekk] at e; cases e),fun a xs e=>g2 _ _ e (fun z=>by rw [z,ekk] at e; cases e) (fun z=>by rw [z,ekk] at e; cases e)⟩
     exact ⟨_,rfl,_,rfl,T,_,_,_,rfl,rfl,.inl (.inl (s1114 _ _ l11)),Aj (j:=1) rfl,kp,H15,rfl,g1,_,_,_,_,_,_,(K11.mono s1114).mY g2 hokp hokp ⟨_,ekk⟩ ⟨_,ekk⟩ (Ne.symm nkd) (Ne.symm nkd),g3,(RW11.mono s1114).to k15.1 k15.2,hO',k15.1 _ _ (s1114 _ _ l711),rfl⟩
    | storeB v0 b0 =>
     obtain ⟨j,rfl,hj,⟨rfl,rfl⟩ | ⟨t,rfl,rfl⟩⟩:=Kf ha
     ·skip
      refine (wT l11 (Fl rfl ⟨_,rfl,_,rfl,_,rfl,pR,vr,S,kd,at_,i0,T,_,_,rfl,RW11,l11,.inr (.inl ⟨⟨_,rfl⟩,rfl⟩),fun H12 s12=>⟨_,_,rfl,rfl,_,rfl,_,rfl,pR,vr,S,kd,at_,i0,T,_,_,rfl,RW11.mono s12,s12 _ _ l11,.inr (.inl ⟨⟨_,rfl⟩,rfl⟩),fun H13 s13=>⟨by show 2<=sizeLine; decide,fun T2 hT2=>?_⟩⟩⟩))
      dsimp only
      rw [Dq,Ie hO7.d]
      have s1113:=s12.trans s13
      have s14:=Ax (o:=HO.tup [V.int ((s.dr:Nat):Int),.int (((2 ^ S.ks.length - 1):Nat):Int)]) hT2
      have u14:upd H13 T2 (HO.tup [V.int ((s.dr:Nat):Int),.int (((2 ^ S.ks.length - 1):Nat):Int)]) T2=some (.tup [V.int ((CP S.ks.length (.every s.dr)).1:Nat),.int ((CP S.ks.length (.every s.dr)).2:Nat)]):=Ah
      generalize upd H13 T2 (HO.tup [V.int ((s.dr:Nat):Int),.int (((2 ^ S.ks.length - 1):Nat):Int)])=H14 at s14 u14 ⊢
      have s1114:=s1113.trans s14
      obtain ⟨H15,g1,g2,g3⟩:=(D11.mono s1114).Xk (by omega) j (.every s.dr) u14
      obtain ⟨kvk,ekk,_⟩:=(D11.mono s1114).ex
      have k15:(∀ a xs,H14 a=some (.lst xs)->H15 a=some (.lst xs))/\∀ a xs,H14 a=some (.tup xs)->H15 a=some (.tup xs):=⟨fun a xs e=>g2 _ _ e (fun z=>by rw [z,ekk] at e; cases e) (fun z=>by rw [z,ekk] at e; cases e),fun a xs e=>g2 _ _ e (fun z=>by rw [z,ekk] at e; cases e) (fun z=>by rw [z,ekk] at e; cases e)⟩
      exact ⟨_,rfl,_,rfl,T,_,_,_,rfl,rfl,.inl (.inl (s1114 _ _ l11)),Aj (j:=1) rfl,kp,H15,rfl,g1,_,_,_,_,_,_,(K11.mono s1114).mY g2 hokp hokp ⟨_,ekk⟩ ⟨_,ekk⟩ (Ne.symm nkd) (Ne.symm nkd),g3,(RW11.mono s1114).to k15.1 k15.2,hO',k15.1 _ _ (s1114 _ _ l711),rfl⟩
     ·skip
      refine (wT l11 (Fl rfl ⟨_,rfl,_,rfl,_,rfl,pR,vr,S,kd,at_,i0,T,_,_,rfl,RW11,l11,.inr (.inr ⟨_,t,rfl,rfl⟩),fun H12 s12=>⟨_,_,rfl,rfl,_,rfl,_,rfl,pR,vr,S,kd,at_,i0,T,_,_,rfl,RW11.mono s12,s12 _ _ l11,.inr (.inr ⟨_,t,rfl,rfl⟩),fun H13 s13=>⟨by show 2<=sizeLine; decide,fun T2 hT2=>?_⟩⟩⟩))
      dsimp only
      rw [Dq]
      have s1113:=s12.trans s13
      have s14:=Ax (o:=HO.tup [V.int (((s.dr &&& Bs S.ks t):Nat):Int),.int (((Bs S.ks t):Nat):Int)]) hT2
      have u14:upd H13 T2 (HO.tup [V.int (((s.dr &&& Bs S.ks t):Nat):Int),.int (((Bs S.ks t):Nat):Int)]) T2=some (.tup [V.int ((CP S.ks.length (.part (s.dr &&& Bs S.ks t) (Bs S.ks t))).1:Nat),.int ((CP S.ks.length (.part (s.dr &&& Bs S.ks t) (Bs S.ks t))).2:Nat)]):=Ah
      generalize upd H13 T2 (HO.tup [V.int (((s.dr &&& Bs S.ks t):Nat):Int),.int (((Bs S.ks t):Nat):Int)])=H14 at s14 u14 ⊢
      have s1114:=s1113.trans s14
      obtain ⟨H15,g1,g2,g3⟩:=(D11.mono s1114).Xk (by omega) j (.part (s.dr &&& Bs S.ks t) (Bs S.ks t)) u14
      obtain ⟨kvk,ekk,_⟩:=(D11.mono s1114).ex
      have k15:(∀ a xs,H14 a=some (.lst xs)->H15 a=some (.lst xs))/\∀ a xs,H14 a=some (.tup xs)->H15 a=some (.tup xs):=⟨fun a xs e=>g2 _ _ e (fun z=>by rw [z,ekk] at e; cases e) (fun z=>by rw [z,ekk] at e; cases e),fun a xs e=>g2 _ _ e (fun z=>by rw [z,ekk] at e; cases e) (fun z=>by rw [z,ekk] at e; cases e)⟩
      exact ⟨_,rfl,_,rfl,T,_,_,_,rfl,rfl,.inl (.inl (s1114 _ _ l11)),Aj (j:=1) rfl,kp,H15,rfl,g1,_,_,_,_,_,_,(K11.mono s1114).mY g2 hokp hokp ⟨_,ekk⟩ ⟨_,ekk⟩ (Ne.symm nkd) (Ne.symm nkd),g3,(RW11.mono s1114).to k15.1 k15.2,hO',k15.1 _ _ (s1114 _ _ l711),rfl⟩
    | press v0 =>
     obtain ⟨j,k,rfl,hj,hm,rfl⟩:=Ip ha
     obtain ⟨dy11,fs11,h11y,m11⟩:=K11.ins
     refine (wT l11 (Eu (wT l11 (Fl rfl ⟨_,rfl,y,dy11,fs11,rfl,h11y,m11 _ (by decide +kernel),_,rfl,T,_,_,_,rfl,rfl,.inl (.inl l11),Aj (j:=1) rfl,Ho,y,x,S.bs,S.ks,S.sts,_,_,sd,_,i+1,.int (j:Nat),rfl,K11,.int _,(fun p' ps H12 ev hp hm' c12 K12=>?_),(fun H12 _ h=>by have:=h j rfl hj; dsimp only at this; rw [hm] at this; cases this)⟩))))
     obtain rfl:j=p':=by have:=V.int.inj ev; omega
     obtain rfl:k=ps:=Option.some.inj (hm.symm.trans hm')
     rw [Rk] at K12
     obtain ⟨dy12,fs12,h12y,m12⟩:=K12.ins
     obtain ⟨kvk,ekk,_⟩:=D11.ex
     have k12:(∀ a xs,H11 a=some (.lst xs)->H12 a=some (.lst xs))/\∀ a xs,H11 a=some (.tup xs)->H12 a=some (.tup xs):=⟨fun a xs e=>c12 _ _ e (fun z=>by rw [z,h11y] at e; cases e),fun a xs e=>c12 _ _ e (fun z=>by rw [z,h11y] at e; cases e)⟩
     refine ⟨_,rfl,y,dy12,fs12,rfl,h12y,m12 _ (by decide +kernel),y,x,k.put s.dr,s.sh,sd,rfl,K12.at,_,rfl,rfl,_,rfl,?_⟩
     rw [decide_eq_true rfl]
     exact Bo ⟨⟨k.put s.dr,s.sh,s.m⟩,_,_,_,_,_,K12,(D11.fb (a:=y) (b:=y) (fun b o e n1 _=>c12 _ _ e n1) nky nky (fun xs z=>by rw [h11y] at z; cases z) (fun xs z=>by rw [h11y] at z; cases z)).le (by omega),RW11.to k12.1 k12.2,hO',k12.1 _ _ l711,rfl⟩
  rintro σ H7 ⟨s,v4,v5,v6,v7,v8,K7,D7,RW7,hO7,l7,rfl⟩
  exact q _
end
end K39
end PartK39a
section PartK39z
set_option maxHeartbeats 4000000
theorem UL1 {α:Type} {us:List α} (h:us.length=1):∃ a,us=[a]:=match us,h with | [a],_=>⟨a,rfl⟩
theorem UL2 {α:Type} {us:List α} (h:us.length=2):∃ a b,us=[a,b]:=match us,h with | [a,b],_=>⟨a,b,rfl⟩
theorem UL3 {α:Type} {us:List α} (h:us.length=3):∃ a b c,us=[a,b,c]:=match us,h with | [a,b,c],_=>⟨a,b,c,rfl⟩
theorem UL4 {α:Type} {us:List α} (h:us.length=4):∃ a b c d,us=[a,b,c,d]:=match us,h with | [a,b,c,d],_=>⟨a,b,c,d,rfl⟩
theorem UL5 {α:Type} {us:List α} (h:us.length=5):∃ a b c d e,us=[a,b,c,d,e]:=match us,h with | [a,b,c,d,e],_=>⟨a,b,c,d,e,rfl⟩
namespace K39
open PySem L2 Og
section
variable {K:W.Frag}
noncomputable abbrev DA (K:W.Frag) (x:Str) (st:Stmt) (f:Addr):Prop:=W.nsIn K mainGlobals x=some (some (.ref f))/\∃ fd,DW K x x st f fd
noncomputable abbrev MA (K:W.Frag) (C:Addr) (x q:Str) (st:Stmt) (f:Addr):Prop:=W.findIn K (.ref C) x=some (some (.ref f))/\W.isFn K (.ref f)=true/\∃ fd,DW K x q st f fd
theorem Fw {x q:Str} {st:Stmt} {f:Addr} {fd:FuncData} {ps:List Str} (F:DW K x q st f fd) (hl:ps.length=1:=by rfl) (h:∀ (kV doc pm:Value) (an:Option Addr) (cdv ct:Value) (u:Value),bindArgs (W.fnOf x q (Cr st) (CJ st) (Af st) .none kV doc pm an cdv ct) ⟨[u],[]⟩=pure (ps.zip [u]):=by intros; rfl):Binds K fd ps []:=F.binds fun kV doc pm an cdv ct us hu=>match us,hu.trans hl with | [u],_=>h kV doc pm an cdv ct u
theorem Do {x q:Str} {st:Stmt} {f:Addr} {fd:FuncData} {ps:List Str} (F:DW K x q st f fd) (hl:ps.length=2:=by rfl) (h:∀ (kV doc pm:Value) (an:Option Addr) (cdv ct:Value) (u v:Value),bindArgs (W.fnOf x q (Cr st) (CJ st) (Af st) .none kV doc pm an cdv ct) ⟨[u,v],[]⟩=pure (ps.zip [u,v]):=by intros; rfl):Binds K fd ps []:=F.binds fun kV doc pm an cdv ct us hu=>match us,hu.trans hl with | [u,v],_=>h kV doc pm an cdv ct u v
theorem Q8 {x q:Str} {st:Stmt} {f:Addr} {fd:FuncData} {ps:List Str} (F:DW K x q st f fd) (hl:ps.length=3:=by rfl) (h:∀ (kV doc pm:Value) (an:Option Addr) (cdv ct:Value) (u v a:Value),bindArgs (W.fnOf x q (Cr st) (CJ st) (Af st) .none kV doc pm an cdv ct) ⟨[u,v,a],[]⟩=pure (ps.zip [u,v,a]):=by intros; rfl):Binds K fd ps []:=F.binds fun kV doc pm an cdv ct us hu=>match us,hu.trans hl with | [u,v,a],_=>h kV doc pm an cdv ct u v a
theorem jB {x q:Str} {st:Stmt} {f:Addr} {fd:FuncData} {ps:List Str} (F:DW K x q st f fd) (hl:ps.length=5:=by rfl) (h:∀ (kV doc pm:Value) (an:Option Addr) (cdv ct:Value) (u v a b c:Value),bindArgs (W.fnOf x q (Cr st) (CJ st) (Af st) .none kV doc pm an cdv ct) ⟨[u,v,a,b,c],[]⟩=pure (ps.zip [u,v,a,b,c]):=by intros; rfl):Binds K fd ps []:=F.binds fun kV doc pm an cdv ct us hu=>match us,hu.trans hl with | [u,v,a,b,c],_=>h kV doc pm an cdv ct u v a b c
end
theorem X7 {l:W.OpenLaw} {w:World} {K:W.Frag} {h:Heap} {mg:Str->Option Value} {fa:Addr} (X:K.In h) (G:h.Ns mainGlobals mg) (hfa:mg "law" = some (.ref fa))
  {C Cy cK cP cB cS cO pB pE pA aN aK aB aP aM p1 p2 p3 p4 p5 p6 b1 b2 b3 b4 b5 b6 b7 fWh fMd fNm fRo fTo fWi fPa fHp fCl fIk fSb fIs fWm fHr fIr fCk fNu fPl fLi fSs fMy fSt fUn fKn fBn fKb fIp fDn fDw fNa fLg fLx fSp fOb fLm fDe fDo fWo fOn fFi fIf fOi fOu fBk fOj fOy fOz fXi fXd fXp fXq fXw fXk fXs fXh fXt fXr fXc fPi fEp fAi fAp fZ:Addr} {odXt anXt odZ anZ:Option Addr} {slXt slZ:Array (Option Value)} {ocXt kVXt dcXt pmXt cdXt ctXt ocZ kVZ dcZ pmZ cdZ ctZ:Value}
  {tPC tLET tML tMR tMLn tMB tm1 tm2 tm3 tm4 tm5 tm6 ttN_0 ttN_1 ttN_2 ttN_3 ttN_4 ttK_0 ttK_1 ttK_2 ttp1_0 ttp1_1 ttp2_0 ttp2_1 ttp3_0 ttp3_1 ttp4_0 ttp4_1 ttp4_2 ttp4_3 ttp5_0 ttp5_1 ttp5_2 ttp6_0 ttp6_1 ttp6_2 ttp6_3 ttb1_0 ttb1_1 ttb2_0 ttb2_1 ttb3_0 ttb3_1 ttb4_0 ttb4_1 ttb5_0 ttb5_1 ttb6_0 ttb6_1 ttb7_0 ttb7_1:Tok} {od_N od_K od_p1 od_p2 od_p3 od_p4 od_p5 od_p6 od_b1 od_b2 od_b3 od_b4 od_b5 od_b6 od_b7:Option Addr} {sl_N sl_K sl_p1 sl_p2 sl_p3 sl_p4 sl_p5 sl_p6 sl_b1 sl_b2 sl_b3 sl_b4 sl_b5 sl_b6 sl_b7:Array (Option Value)} {n_N n_K n_p1 n_p2 n_p3 n_p4 n_p5 n_p6 n_b1 n_b2 n_b3 n_b4 n_b5 n_b6 n_b7 nB nP nM:Nat} {eB eP eM:Array DictEntry}
  {tDXt:Addr} {oDXt:Option Addr} {sDXt:Array (Option Value)} {nDXt:Nat}
  (FWh:DA K "is_whole" ju fWh)
  (FMd:DA K "is_made_of" cH fMd)
  (FNm:DA K "is_name" ik fNm)
  (FRo:DA K "rows_of" gO fRo)
  (FTo:DA K "is_told" gJ fTo)
  (FWi:DA K "is_within" jx fWi)
  (FPa:DA K "is_part" gw fPa)
  (FHp:DA K "has_parts" gn fHp)
  (FCl:DA K "count_of_last_lines" jT fCl)
  (FIk:DA K "is_key_of" gU fIk)
  (FSb:DA K "stands_behind_stop" j_ fSb)
  (FIs:DA K "is_step" gj fIs)
  (FWm:DA K "is_well_made" kh fWm)
  (FHr:DA K "has_room" nW fHr)
  (FIr:DA K "is_row" jV fIr)
  (FCk:DA K "check_rows" lV fCk)
  (FNu:DA K "numbers_of" m7 fNu)
  (FPl:DA K "places_of" gF fPl)
  (FLi:DA K "lines_by_knob" jo fLi)
  (FSs:DA K "set_of_step" gP fSs)
  (FMy:DA K "may_be_member" nq fMy)
  (FSt:DA K "set_of" gm fSt)
  (FUn:DA K "union_of" jQ fUn)
  (FKn:DA K "knob_named" jn fKn)
  (FBn:DA K "board_named" jk fBn)
  (FKb:DA K "knobs_of_board" g_ fKb)
  (FIp:DA K "is_piston" mX fIp)
  (FDn:DA K "_law_drawn" gG fDn)
  (FDw:DA K "_law_draw" jD fDw)
  (FNa:DA K "_law_name" nO fNa)
  (FLg:DA K "_law_organ" gq fLg)
  (FLx:DA K "_law_knobs" iB fLx)
  (FSp:DA K "_law_steps" ZL fSp)
  (FOb:DA K "_law_of_board" nJ fOb)
  (FLm:DA K "_law_names" jL fLm)
  (FDe:DA K "_law_deed" gZ fDe)
  (FDo:DA K "_law_do" lK fDo)
  (FWo:DA K "_law_whole_of" mJ fWo)
  (FOn:DA K "_law_one" gM fOn)
  (FFi:DA K "_law_fits" iz fFi)
  (FIf:DA K "_law_in_force" jE fIf)
  (aZ:W.nsIn K mainGlobals "law" = some (some (.ref fZ)))
  (lZ:K.lookup fZ=some ⟨ocZ,odZ,.func (W.fnOf "law" "law" (Cr Ml) (CJ Ml) (Af Ml) .none kVZ dcZ pmZ anZ cdZ ctZ),slZ⟩) (cZ:W.codeIn K cdZ "law" = true) (kZ:W.keepIn K (.ref fZ)=true)
  (aC:W.nsIn K mainGlobals "Organ" = some (some (.ref C)))
  (FOi:MA K C "__init__" "Organ.__init__" Va fOi)
  (FOu:MA K C "board_number" "Organ.board_number" jR fOu)
  (FBk:MA K C "board_of_knob" "Organ.board_of_knob" jh fBk)
  (FOj:MA K C "knob_number" "Organ.knob_number" lL fOj)
  (FOy:MA K C "steps" "Organ.steps" lQ fOy)
  (FOz:MA K C "knobs" "Organ.knobs" gf fOz)
  (aCy:W.nsIn K mainGlobals "Console" = some (some (.ref Cy)))
  (FXi:MA K Cy "__init__" "Console.__init__" lO fXi)
  (FXd:MA K Cy "draw" "Console.draw" my fXd)
  (FXp:MA K Cy "pull" "Console.pull" jO fXp)
  (FXq:MA K Cy "push" "Console.push" iw fXq)
  (FXw:MA K Cy "drawn" "Console.drawn" lE fXw)
  (FXk:MA K Cy "knobs" "Console.knobs" l_ fXk)
  (FXs:MA K Cy "step" "Console.step" jq fXs)
  (FXh:MA K Cy "shoe" "Console.shoe" lB fXh)
  (aXt:W.findIn K (.ref Cy) "store" = some (some (.ref fXt)))
  (iXt:W.isFn K (.ref fXt)=true)
  (lXt:K.lookup fXt=some ⟨ocXt,odXt,.func (W.fnOf "store" "Console.store" (Cr R4) (CJ R4) (Af R4) (.ref tDXt) kVXt dcXt pmXt anXt cdXt ctXt),slXt⟩) (cXt:W.codeIn K cdXt "Console.store" = true) (kXt:W.keepIn K (.ref fXt)=true)
  (FXr:MA K Cy "press" "Console.press" lq fXr)
  (FXc:MA K Cy "cancel" "Console.cancel" iW fXc)
  (pmB:W.nsIn K mainGlobals "Piston" = some (some (.ref pB)))
  (pmE:W.nsIn K mainGlobals "Every" = some (some (.ref pE)))
  (pmA:W.nsIn K mainGlobals "Part" = some (some (.ref pA)))
  (FPi:MA K pE "__init__" "Piston.__init__" iR fPi)
  (FEp:MA K pE "put" "Every.put" lg fEp)
  (FAi:MA K pA "__init__" "Part.__init__" kW fAi)
  (FAp:MA K pA "put" "Part.put" iH fAp)
  (pg3E:W.plainGet K pE Str.empty=true)
  (hd3E:W.hasDictIn K pE=true)
  (po3E:W.plainOver K pE=true)
  (sa3E:W.findIn K (.ref pE) "__setattr__" = some (some (.builtin "object.__setattr__")))
  (mk3E:W.makesIn K pE=true)
  (kc3E:W.keepIn K (.ref pE)=true)
  (nk3E:W.findIn K (.ref pE) "knob_set" = some none)
  (pg3A:W.plainGet K pA Str.empty=true)
  (hd3A:W.hasDictIn K pA=true)
  (po3A:W.plainOver K pA=true)
  (sa3A:W.findIn K (.ref pA) "__setattr__" = some (some (.builtin "object.__setattr__")))
  (mk3A:W.makesIn K pA=true)
  (kc3A:W.keepIn K (.ref pA)=true)
  (nk3A:W.findIn K (.ref pA) "knob_set" = some none)
  (nw3A:W.findIn K (.ref pA) "whole_set" = some none)
  (zPC:W.nsIn K mainGlobals "PISTON_COUNT" = some (some (.int 10 tPC)))
  (gaB:W.specialIn K (.ref pB) "__getattribute__" = some (some (.builtin "type.__getattribute__")))
  (rdB:W.readsIn K pB (.type "type")=true)
  (fcB:W.findCls K (.ref pB) (.type "type") "__init__" = some (.val (.ref fPi)))
  (pg2:W.plainGet K Cy Str.empty=true)
  (hd2:W.hasDictIn K Cy=true)
  (po2:W.plainOver K Cy=true)
  (sa2:W.findIn K (.ref Cy) "__setattr__" = some (some (.builtin "object.__setattr__")))
  (mkC2:W.makesIn K Cy=true)
  (kc2:W.keepIn K (.ref Cy)=true)
  (nr2o:W.findIn K (.ref Cy) "organ" = some none)
  (nr2d:W.findIn K (.ref Cy) "drawn_set" = some none)
  (nr2s:W.findIn K (.ref Cy) "shoe_step" = some none)
  (nr2t:W.findIn K (.ref Cy) "stored" = some none)
  (xve:W.nsIn K mainGlobals "ValueError" = some none)
  (xmK:W.nsIn K mainGlobals "NoKnob" = some (some (.ref cK)))
  (xmP:W.nsIn K mainGlobals "NoPiston" = some (some (.ref cP)))
  (xmB:W.nsIn K mainGlobals "NoBoard" = some (some (.ref cB)))
  (xmS:W.nsIn K mainGlobals "NoStep" = some (some (.ref cS)))
  (xmO:W.nsIn K mainGlobals "OrganError" = some (some (.ref cO)))
  (xeO:W.excIn K cO V2 "ValueError.__new__" = true)
  (xbK:LK K cK cO [cB,cP,cS]=true)
  (xbP:LK K cP cO [cB,cK,cS]=true)
  (xbB:LK K cB cO [cK,cP,cS]=true)
  (xbS:LK K cS cO [cB,cK,cP]=true)
  (pg:W.plainGet K C Str.empty=true)
  (hd:W.hasDictIn K C=true)
  (po:W.plainOver K C=true)
  (sa:W.findIn K (.ref C) "__setattr__" = some (some (.builtin "object.__setattr__")))
  (mkC:W.makesIn K C=true)
  (kc:W.keepIn K (.ref C)=true)
  (n_row_list_:W.findIn K (.ref C) "row_list" = some none)
  (n_board_list_:W.findIn K (.ref C) "board_list" = some none)
  (n_rank_list_:W.findIn K (.ref C) "rank_list" = some none)
  (n_knob_rows_:W.findIn K (.ref C) "knob_rows" = some none)
  (n_board_numbers_:W.findIn K (.ref C) "board_numbers" = some none)
  (n_rank_numbers_:W.findIn K (.ref C) "rank_numbers" = some none)
  (n_knob_numbers_:W.findIn K (.ref C) "knob_numbers" = some none)
  (n_key_places_:W.findIn K (.ref C) "key_places" = some none)
  (n_pipe_places_:W.findIn K (.ref C) "pipe_places" = some none)
  (n_knob_lines_:W.findIn K (.ref C) "knob_lines" = some none)
  (n_step_sets_:W.findIn K (.ref C) "step_sets" = some none)
  (zlen:W.nsIn K mainGlobals "len" = some none)
  (zisinstance:W.nsIn K mainGlobals "isinstance" = some none)
  (zint:W.nsIn K mainGlobals "int" = some none)
  (zbool:W.nsIn K mainGlobals "bool" = some none)
  (zstr:W.nsIn K mainGlobals "str" = some none)
  (zlist:W.nsIn K mainGlobals "list" = some none)
  (ztuple:W.nsIn K mainGlobals "tuple" = some none)
  (zall:W.nsIn K mainGlobals "all" = some none)
  (zany:W.nsIn K mainGlobals "any" = some none)
  (zsum:W.nsIn K mainGlobals "sum" = some none)
  (zrange:W.nsIn K mainGlobals "range" = some none)
  (zzip:W.nsIn K mainGlobals "zip" = some none)
  (zenumerate:W.nsIn K mainGlobals "enumerate" = some none)
  (zmax:W.nsIn K mainGlobals "max" = some none)
  (zreversed:W.nsIn K mainGlobals "reversed" = some none)
  (zset:W.nsIn K mainGlobals "set" = some none)
  (zabs:W.nsIn K mainGlobals "abs" = some none)
  (zLET:W.nsIn K mainGlobals "LETTERS" = some (some (.str letters tLET)))
  (zML:W.nsIn K mainGlobals "MOST_LETTERS" = some (some (.int 8 tML)))
  (zMR:W.nsIn K mainGlobals "MOST_ROWS" = some (some (.int 150 tMR)))
  (zMLn:W.nsIn K mainGlobals "MOST_LINES" = some (some (.int 4 tMLn)))
  (zMB:W.nsIn K mainGlobals "MEMBERS_BELOW" = some (some (.int 1200 tMB)))
  (rN:W.nsIn K mainGlobals "NAMED" = some (some (.ref aN)))
  (rK:W.nsIn K mainGlobals "KNOBS" = some (some (.ref aK)))
  (rB:W.nsIn K mainGlobals "BOUNDS" = some (some (.ref aB)))
  (rP:W.nsIn K mainGlobals "PARTS" = some (some (.ref aP)))
  (rM:W.nsIn K mainGlobals "MOST_OF" = some (some (.ref aM)))
  (dB:K.lookup aB=some ⟨.type "dict",none,.dict eB nB,#[]⟩)
  (kB:W.KeysLit w.params eB.toList)
  (oB:(aB == sysModules)=false)
  (dP:K.lookup aP=some ⟨.type "dict",none,.dict eP nP,#[]⟩)
  (kP:W.KeysLit w.params eP.toList)
  (oP:(aP == sysModules)=false)
  (dM:K.lookup aM=some ⟨.type "dict",none,.dict eM nM,#[]⟩)
  (kM:W.KeysLit w.params eM.toList)
  (oM:(aM == sysModules)=false)
  (qp1:W.nsIn K aP "board" = some (some (.ref p1)))
  (qp2:W.nsIn K aP "stop" = some (some (.ref p2)))
  (qp3:W.nsIn K aP "mute" = some (some (.ref p3)))
  (qp4:W.nsIn K aP "coupler" = some (some (.ref p4)))
  (qp5:W.nsIn K aP "rank" = some (some (.ref p5)))
  (qp6:W.nsIn K aP "line" = some (some (.ref p6)))
  (qb1:W.nsIn K aB "keys" = some (some (.ref b1)))
  (qb2:W.nsIn K aB "leap" = some (some (.ref b2)))
  (qb3:W.nsIn K aB "pipes" = some (some (.ref b3)))
  (qb4:W.nsIn K aB "wind" = some (some (.ref b4)))
  (qb5:W.nsIn K aB "shift" = some (some (.ref b5)))
  (qb6:W.nsIn K aB "low" = some (some (.ref b6)))
  (qb7:W.nsIn K aB "high" = some (some (.ref b7)))
  (qn:W.nsIn K aB "new" = some none)
  (qb:W.nsIn K aB "board" = some none)
  (qr:W.nsIn K aB "rank" = some none)
  (ql:W.nsIn K aM "line" = some none)
  (qm1:W.nsIn K aM "board" = some (some (.int 5 tm1)))
  (qm2:W.nsIn K aM "stop" = some (some (.int 24 tm2)))
  (qm3:W.nsIn K aM "coupler" = some (some (.int 12 tm3)))
  (qm4:W.nsIn K aM "mute" = some (some (.int 5 tm4)))
  (qm5:W.nsIn K aM "rank" = some (some (.int 12 tm5)))
  (qm6:W.nsIn K aM "step" = some (some (.int 12 tm6)))
  (uN:K.lookup aN=some ⟨.type "tuple",od_N,.seq #[.str "board" ttN_0,.str "rank" ttN_1,.str "stop" ttN_2,.str "coupler" ttN_3,.str "mute" ttN_4] n_N,sl_N⟩)
  (uK:K.lookup aK=some ⟨.type "tuple",od_K,.seq #[.str "stop" ttK_0,.str "coupler" ttK_1,.str "mute" ttK_2] n_K,sl_K⟩)
  (up1:K.lookup p1=some ⟨.type "tuple",od_p1,.seq #[.str "new" ttp1_0,.str "keys" ttp1_1] n_p1,sl_p1⟩)
  (up2:K.lookup p2=some ⟨.type "tuple",od_p2,.seq #[.str "new" ttp2_0,.str "board" ttp2_1] n_p2,sl_p2⟩)
  (up3:K.lookup p3=some ⟨.type "tuple",od_p3,.seq #[.str "new" ttp3_0,.str "board" ttp3_1] n_p3,sl_p3⟩)
  (up4:K.lookup p4=some ⟨.type "tuple",od_p4,.seq #[.str "new" ttp4_0,.str "board" ttp4_1,.str "board" ttp4_2,.str "leap" ttp4_3] n_p4,sl_p4⟩)
  (up5:K.lookup p5=some ⟨.type "tuple",od_p5,.seq #[.str "new" ttp5_0,.str "pipes" ttp5_1,.str "wind" ttp5_2] n_p5,sl_p5⟩)
  (up6:K.lookup p6=some ⟨.type "tuple",od_p6,.seq #[.str "rank" ttp6_0,.str "shift" ttp6_1,.str "low" ttp6_2,.str "high" ttp6_3] n_p6,sl_p6⟩)
  (uXt:K.lookup tDXt=some ⟨.type "tuple",oDXt,.seq #[.none] nDXt,sDXt⟩)
  (ub1:K.lookup b1=some ⟨.type "tuple",od_b1,.seq #[.int (1) ttb1_0,.int (61) ttb1_1] n_b1,sl_b1⟩)
  (ub2:K.lookup b2=some ⟨.type "tuple",od_b2,.seq #[.int (-60) ttb2_0,.int (60) ttb2_1] n_b2,sl_b2⟩)
  (ub3:K.lookup b3=some ⟨.type "tuple",od_b3,.seq #[.int (1) ttb3_0,.int (97) ttb3_1] n_b3,sl_b3⟩)
  (ub4:K.lookup b4=some ⟨.type "tuple",od_b4,.seq #[.int (0) ttb4_0,.int (1000000000) ttb4_1] n_b4,sl_b4⟩)
  (ub5:K.lookup b5=some ⟨.type "tuple",od_b5,.seq #[.int (-200) ttb5_0,.int (200) ttb5_1] n_b5,sl_b5⟩)
  (ub6:K.lookup b6=some ⟨.type "tuple",od_b6,.seq #[.int (0) ttb6_0,.int (60) ttb6_1] n_b6,sl_b6⟩)
  (ub7:K.lookup b7=some ⟨.type "tuple",od_b7,.seq #[.int (0) ttb7_0,.int (60) ttb7_1] n_b7,sl_b7⟩)
  : ∃ fd:FuncData,(∀ (s:Shared) (v:Value),BindsTo s fd ⟨[v],[]⟩ [("_law_script",v)])/\∀ base:Heap,K.In base->base.Ns mainGlobals mg->Aw l.prog w K mg base Bg 11 fa fd ["_law_script"] (Nz K):=by
 obtain ⟨aWh,dWh,FWh⟩:=FWh
 obtain ⟨aMd,dMd,FMd⟩:=FMd
 obtain ⟨aNm,dNm,FNm⟩:=FNm
 obtain ⟨aRo,dRo,FRo⟩:=FRo
 obtain ⟨aTo,dTo,FTo⟩:=FTo
 obtain ⟨aWi,dWi,FWi⟩:=FWi
 obtain ⟨aPa,dPa,FPa⟩:=FPa
 obtain ⟨aHp,dHp,FHp⟩:=FHp
 obtain ⟨aCl,dCl,FCl⟩:=FCl
 obtain ⟨aIk,dIk,FIk⟩:=FIk
 obtain ⟨aSb,dSb,FSb⟩:=FSb
 obtain ⟨aIs,dIs,FIs⟩:=FIs
 obtain ⟨aWm,dWm,FWm⟩:=FWm
 obtain ⟨aHr,dHr,FHr⟩:=FHr
 obtain ⟨aIr,dIr,FIr⟩:=FIr
 obtain ⟨aCk,dCk,FCk⟩:=FCk
 obtain ⟨aNu,dNu,FNu⟩:=FNu
 obtain ⟨aPl,dPl,FPl⟩:=FPl
 obtain ⟨aLi,dLi,FLi⟩:=FLi
 obtain ⟨aSs,dSs,FSs⟩:=FSs
 obtain ⟨aMy,dMy,FMy⟩:=FMy
 obtain ⟨aSt,dSt,FSt⟩:=FSt
 obtain ⟨aUn,dUn,FUn⟩:=FUn
 obtain ⟨aKn,dKn,FKn⟩:=FKn
 obtain ⟨aBn,dBn,FBn⟩:=FBn
 obtain ⟨aKb,dKb,FKb⟩:=FKb
 obtain ⟨aIp,dIp,FIp⟩:=FIp
 obtain ⟨aDn,dDn,FDn⟩:=FDn
 obtain ⟨aDw,dDw,FDw⟩:=FDw
 obtain ⟨aNa,dNa,FNa⟩:=FNa
 obtain ⟨aLg,dLg,FLg⟩:=FLg
 obtain ⟨aLx,dLx,FLx⟩:=FLx
 obtain ⟨aSp,dSp,FSp⟩:=FSp
 obtain ⟨aOb,dOb,FOb⟩:=FOb
 obtain ⟨aLm,dLm,FLm⟩:=FLm
 obtain ⟨aDe,dDe,FDe⟩:=FDe
 obtain ⟨aDo,dDo,FDo⟩:=FDo
 obtain ⟨aWo,dWo,FWo⟩:=FWo
 obtain ⟨aOn,dOn,FOn⟩:=FOn
 obtain ⟨aFi,dFi,FFi⟩:=FFi
 obtain ⟨aIf,dIf,FIf⟩:=FIf
 obtain ⟨aOi,iOi,dOi,FOi⟩:=FOi
 obtain ⟨aOu,iOu,dOu,FOu⟩:=FOu
 obtain ⟨aBk,iBk,dBk,FBk⟩:=FBk
 obtain ⟨aOj,iOj,dOj,FOj⟩:=FOj
 obtain ⟨aOy,iOy,dOy,FOy⟩:=FOy
 obtain ⟨aOz,iOz,dOz,FOz⟩:=FOz
 obtain ⟨aXi,iXi,dXi,FXi⟩:=FXi
 obtain ⟨aXd,iXd,dXd,FXd⟩:=FXd
 obtain ⟨aXp,iXp,dXp,FXp⟩:=FXp
 obtain ⟨aXq,iXq,dXq,FXq⟩:=FXq
 obtain ⟨aXw,iXw,dXw,FXw⟩:=FXw
 obtain ⟨aXk,iXk,dXk,FXk⟩:=FXk
 obtain ⟨aXs,iXs,dXs,FXs⟩:=FXs
 obtain ⟨aXh,iXh,dXh,FXh⟩:=FXh
 obtain ⟨aXr,iXr,dXr,FXr⟩:=FXr
 obtain ⟨aXc,iXc,dXc,FXc⟩:=FXc
 obtain ⟨aPi,iPi,dPi,FPi⟩:=FPi
 obtain ⟨aEp,iEp,dEp,FEp⟩:=FEp
 obtain ⟨aAi,iAi,dAi,FAi⟩:=FAi
 obtain ⟨aAp,iAp,dAp,FAp⟩:=FAp
 have e:=hfa.symm.trans (W.mg_of X G aZ)
 cases e
 have FXt:=Vr (st:=R4) lXt cXt kXt
 have FZ:=PQ (st:=Ml) lZ cZ kZ
 have bXt:Binds K (W.fnOf "store" "Console.store" (Cr R4) (CJ R4) (Af R4) (.ref tDXt) kVXt dcXt pmXt anXt cdXt ctXt) ["self","piston","board"] []:=Xw uXt rfl fun us hl=>match us,hl with | [_,_,_],_=>⟨_,rfl,rfl⟩
 have gN:KTup K aN [.str "board",.str "rank",.str "stop",.str "coupler",.str "mute"]:=(⟨_,_,_,uN,rfl,rfl,by show 5<=sizeLine; decide,.cons ⟨_,rfl⟩ (.cons ⟨_,rfl⟩ (.cons ⟨_,rfl⟩ (.cons ⟨_,rfl⟩ (.cons ⟨_,rfl⟩ (.nil)))))⟩)
 have gK:KTup K aK [.str "stop",.str "coupler",.str "mute"]:=(⟨_,_,_,uK,rfl,rfl,by show 3<=sizeLine; decide,.cons ⟨_,rfl⟩ (.cons ⟨_,rfl⟩ (.cons ⟨_,rfl⟩ (.nil)))⟩)
 have gp1:KTup K p1 [.str "new",.str "keys"]:=(⟨_,_,_,up1,rfl,rfl,by show 2<=sizeLine; decide,.cons ⟨_,rfl⟩ (.cons ⟨_,rfl⟩ (.nil))⟩)
 have gp2:KTup K p2 [.str "new",.str "board"]:=(⟨_,_,_,up2,rfl,rfl,by show 2<=sizeLine; decide,.cons ⟨_,rfl⟩ (.cons ⟨_,rfl⟩ (.nil))⟩)
 have gp3:KTup K p3 [.str "new",.str "board"]:=(⟨_,_,_,up3,rfl,rfl,by show 2<=sizeLine; decide,.cons ⟨_,rfl⟩ (.cons ⟨_,rfl⟩ (.nil))⟩)
 have gp4:KTup K p4 [.str "new",.str "board",.str "board",.str "leap"]:=(⟨_,_,_,up4,rfl,rfl,by show 4<=sizeLine; decide,.cons ⟨_,rfl⟩ (.cons ⟨_,rfl⟩ (.cons ⟨_,rfl⟩ (.cons ⟨_,rfl⟩ (.nil))))⟩)
 have gp5:KTup K p5 [.str "new",.str "pipes",.str "wind"]:=(⟨_,_,_,up5,rfl,rfl,by show 3<=sizeLine; decide,.cons ⟨_,rfl⟩ (.cons ⟨_,rfl⟩ (.cons ⟨_,rfl⟩ (.nil)))⟩)
 have gp6:KTup K p6 [.str "rank",.str "shift",.str "low",.str "high"]:=(⟨_,_,_,up6,rfl,rfl,by show 4<=sizeLine; decide,.cons ⟨_,rfl⟩ (.cons ⟨_,rfl⟩ (.cons ⟨_,rfl⟩ (.cons ⟨_,rfl⟩ (.nil))))⟩)
 have gb1:KTup K b1 [.int (1),.int (61)]:=(⟨_,_,_,ub1,rfl,rfl,by show 2<=sizeLine; decide,.cons ⟨_,rfl⟩ (.cons ⟨_,rfl⟩ (.nil))⟩)
 have gb2:KTup K b2 [.int (-60),.int (60)]:=(⟨_,_,_,ub2,rfl,rfl,by show 2<=sizeLine; decide,.cons ⟨_,rfl⟩ (.cons ⟨_,rfl⟩ (.nil))⟩)
 have gb3:KTup K b3 [.int (1),.int (97)]:=(⟨_,_,_,ub3,rfl,rfl,by show 2<=sizeLine; decide,.cons ⟨_,rfl⟩ (.cons ⟨_,rfl⟩ (.nil))⟩)
 have gb4:KTup K b4 [.int (0),.int (1000000000)]:=(⟨_,_,_,ub4,rfl,rfl,by show 2<=sizeLine; decide,.cons ⟨_,rfl⟩ (.cons ⟨_,rfl⟩ (.nil))⟩)
 have gb5:KTup K b5 [.int (-200),.int (200)]:=(⟨_,_,_,ub5,rfl,rfl,by show 2<=sizeLine; decide,.cons ⟨_,rfl⟩ (.cons ⟨_,rfl⟩ (.nil))⟩)
 have gb6:KTup K b6 [.int (0),.int (60)]:=(⟨_,_,_,ub6,rfl,rfl,by show 2<=sizeLine; decide,.cons ⟨_,rfl⟩ (.cons ⟨_,rfl⟩ (.nil))⟩)
 have gb7:KTup K b7 [.int (0),.int (60)]:=(⟨_,_,_,ub7,rfl,rfl,by show 2<=sizeLine; decide,.cons ⟨_,rfl⟩ (.cons ⟨_,rfl⟩ (.nil))⟩)
 have F2:Vj K aB aP aM:=⟨⟨⟨_,qp1,gp1⟩,⟨_,qp2,gp2⟩,⟨_,qp3,gp3⟩,⟨_,qp4,gp4⟩,⟨_,qb1,gb1⟩,⟨_,qb2,gb2⟩,qn,qb,⟨_,qm1⟩,⟨_,qm2⟩,⟨_,qm3⟩,⟨_,qm4⟩⟩,⟨_,qp5,gp5⟩,⟨_,qp6,gp6⟩,⟨_,qb3,gb3⟩,⟨_,qb4,gb4⟩,⟨_,qb5,gb5⟩,⟨_,qb6,gb6⟩,⟨_,qb7,gb7⟩,qr,⟨_,qm5⟩,ql⟩
 have F0:c7 K aB aP aM:=⟨F2,⟨_,qm6⟩⟩
 have T:Txt K w.params mg C Cy cK cP cB cS cO pB pE pA aN aK aB aP aM:=⟨W.mg_none_of X G zlen,W.mg_none_of X G zisinstance,W.mg_none_of X G zint,W.mg_none_of X G zbool,W.mg_none_of X G zstr,W.mg_none_of X G zlist,W.mg_none_of X G ztuple,W.mg_none_of X G zall,W.mg_none_of X G zany,W.mg_none_of X G zsum,W.mg_none_of X G zrange,W.mg_none_of X G zzip,W.mg_none_of X G zenumerate,W.mg_none_of X G zmax,W.mg_none_of X G zreversed,W.mg_none_of X G zset,W.mg_none_of X G zabs,⟨_,W.mg_of X G zLET⟩,⟨_,W.mg_of X G zML⟩,⟨_,W.mg_of X G zMR⟩,⟨_,W.mg_of X G zMLn⟩,⟨_,W.mg_of X G zMB⟩,W.mg_of X G rN,W.mg_of X G rK,W.mg_of X G rB,W.mg_of X G rP,W.mg_of X G rM,gN,gK,⟨⟨_,_,dB,kB⟩,oB⟩,⟨⟨_,_,dP,kP⟩,oP⟩,⟨⟨_,_,dM,kM⟩,oM⟩,⟨pg,hd,po,sa⟩,W.mg_of X G aC,⟨pg2,hd2,po2,sa2⟩,W.mg_of X G aCy,nr2o,nr2d,nr2s,nr2t,⟨W.mg_none_of X G xve,W.mg_of X G xmK,W.mg_of X G xmP,W.mg_of X G xmB,W.mg_of X G xmS,W.mg_of X G xmO,xeO,Rc.of xbK,Rc.of xbP,Rc.of xbB,Rc.of xbS⟩,⟨W.mg_of X G pmB,W.mg_of X G pmE,W.mg_of X G pmA,⟨pg3E,hd3E,po3E,sa3E⟩,⟨pg3A,hd3A,po3A,sa3A⟩,nk3E,nk3A,nw3A,⟨_,W.mg_of X G zPC⟩⟩,n_row_list_,n_board_list_,n_rank_list_,n_knob_rows_,n_board_numbers_,n_rank_numbers_,n_knob_numbers_,n_key_places_,n_pipe_places_,n_knob_lines_,n_step_sets_⟩
 have bXt0:Binds K (W.fnOf "store" "Console.store" (Cr R4) (CJ R4) (Af R4) (.ref tDXt) kVXt dcXt pmXt anXt cdXt ctXt) ["self","piston","board"] [.none]:=WL uXt rfl fun us hl=>match us,(show us.length=2 by simpa using hl) with | [_,_],_=>⟨_,rfl,rfl⟩
 have N:nu K mg C Cy pB pE pA fWh fMd fNm fRo fTo fWi fPa fHp fCl fIk fSb fIs fWm fHr fIr fCk fNu fPl fLi fSs fMy fSt fUn fKn fBn fKb fIp fDn fDw fNa fLg fLx fSp fOb fLm fDe fDo fWo fOn fFi fIf fOi fOu fBk fOj fOy fOz fXi fXd fXp fXq fXw fXk fXs fXh fXt fXr fXc fPi fEp fAi fAp _ _ _ _ _ _ _ _ _ _ _ _ _ _ _ _ _ _ _ _ _ _ _ _ _ _ _ _ _ _ _ _ _ _ _ _ _ _ _ _ _ _ _ _ _ _ _ _ _ _ _ _ _ _ _ _ _ _ _ _ _ _:=⟨⟨FWh,(Fw FWh),W.mg_of X G aWh⟩,⟨FMd,(Q8 FMd),W.mg_of X G aMd⟩,⟨FNm,(Fw FNm),W.mg_of X G aNm⟩,⟨FRo,(Do FRo),W.mg_of X G aRo⟩,⟨FTo,(Q8 FTo),W.mg_of X G aTo⟩,⟨FWi,(Do FWi),W.mg_of X G aWi⟩,⟨FPa,(Q8 FPa),W.mg_of X G aPa⟩,⟨FHp,(Do FHp),W.mg_of X G aHp⟩,⟨FCl,(Fw FCl),W.mg_of X G aCl⟩,⟨FIk,(Q8 FIk),W.mg_of X G aIk⟩,⟨FSb,(Do FSb),W.mg_of X G aSb⟩,⟨FIs,(Do FIs),W.mg_of X G aIs⟩,⟨FWm,(Do FWm),W.mg_of X G aWm⟩,⟨FHr,(Do FHr),W.mg_of X G aHr⟩,⟨FIr,(Do FIr),W.mg_of X G aIr⟩,⟨FCk,(Fw FCk),W.mg_of X G aCk⟩,⟨FNu,(Fw FNu),W.mg_of X G aNu⟩,⟨FPl,(Fw FPl),W.mg_of X G aPl⟩,⟨FLi,(Do FLi),W.mg_of X G aLi⟩,⟨FSs,(Do FSs),W.mg_of X G aSs⟩,⟨FMy,(Fw FMy),W.mg_of X G aMy⟩,⟨FSt,(Fw FSt),W.mg_of X G aSt⟩,⟨FUn,(Fw FUn),W.mg_of X G aUn⟩,⟨FKn,(Do FKn),W.mg_of X G aKn⟩,⟨FBn,(Do FBn),W.mg_of X G aBn⟩,⟨FKb,(Do FKb),W.mg_of X G aKb⟩,⟨FIp,(Fw FIp),W.mg_of X G aIp⟩,⟨FDn,(Do FDn),W.mg_of X G aDn⟩,⟨FDw,(Do FDw),W.mg_of X G aDw⟩,⟨FNa,(Q8 FNa),W.mg_of X G aNa⟩,⟨FLg,(Fw FLg),W.mg_of X G aLg⟩,⟨FLx,(Fw FLx),W.mg_of X G aLx⟩,⟨FSp,(Fw FSp),W.mg_of X G aSp⟩,⟨FOb,(Do FOb),W.mg_of X G aOb⟩,⟨FLm,(Fw FLm),W.mg_of X G aLm⟩,⟨FDe,(Do FDe),W.mg_of X G aDe⟩,⟨FDo,(Do FDo),W.mg_of X G aDo⟩,⟨FWo,(Do FWo),W.mg_of X G aWo⟩,⟨FOn,(Do FOn),W.mg_of X G aOn⟩,⟨FFi,(jB FFi),W.mg_of X G aFi⟩,⟨FIf,(Do FIf),W.mg_of X G aIf⟩,⟨FOi,(Do FOi),⟨mkC,aOi,iOi,kc⟩⟩,⟨FOu,(Do FOu),⟨aOu,iOu,FOu.kp⟩⟩,⟨FBk,(Do FBk),⟨aBk,iBk,FBk.kp⟩⟩,⟨FOj,(Do FOj),⟨aOj,iOj,FOj.kp⟩⟩,⟨FOy,(Fw FOy),⟨aOy,iOy,FOy.kp⟩⟩,⟨FOz,(Fw FOz),⟨aOz,iOz,FOz.kp⟩⟩,⟨FXi,(Do FXi),⟨mkC2,aXi,iXi,kc2⟩⟩,⟨FXd,(Do FXd),⟨aXd,iXd,FXd.kp⟩⟩,⟨FXp,(Do FXp),⟨aXp,iXp,FXp.kp⟩⟩,⟨FXq,(Do FXq),⟨aXq,iXq,FXq.kp⟩⟩,⟨FXw,(Fw FXw),⟨aXw,iXw,FXw.kp⟩⟩,⟨FXk,(Fw FXk),⟨aXk,iXk,FXk.kp⟩⟩,⟨FXs,(Fw FXs),⟨aXs,iXs,FXs.kp⟩⟩,⟨FXh,(Do FXh),⟨aXh,iXh,FXh.kp⟩⟩,⟨FXt,bXt,⟨aXt,iXt,kXt⟩⟩,⟨FXr,(Do FXr),⟨aXr,iXr,FXr.kp⟩⟩,⟨FXc,(Fw FXc),⟨aXc,iXc,FXc.kp⟩⟩,⟨FPi,(Do FPi),⟨mk3E,aPi,iPi,kc3E⟩⟩,⟨FEp,(Do FEp),⟨aEp,iEp,FEp.kp⟩⟩,⟨FAi,(Q8 FAi),⟨mk3A,aAi,iAi,kc3A⟩⟩,⟨FAp,(Do FAp),⟨aAp,iAp,FAp.kp⟩⟩,bXt0,⟨gaB,rdB,fcB,FPi.kp⟩⟩
 exact ⟨W.fnOf "law" "law" (Cr Ml) (CJ Ml) (Af Ml) .none kVZ dcZ pmZ anZ cdZ ctZ,fun s v=>.of_eq rfl,fun base _ _=>YF FZ N T F0⟩
theorem walk {l:W.OpenLaw} {q:Program} {loose:List Str} {XP:(Str->Option Value)->Heap->Prop} {YP:World->Heap->Prop} {d:DefRec} {K:Params->W.Frag} (hn:l.most=some 63) (hdf:d.params.defaults=[])
  (hY:∀ (w:World) (h:Heap),YP w h->(K w.params).In h)
  (F:∀ (w:World) (mg:Str->Option Value) (fa:Addr) (h:Heap),(K w.params).In h->h.Ns mainGlobals mg->mg d.name=some (.ref fa) ->
   ∃ fd:FuncData,(∀ (s:Shared) (u:Value),BindsTo s fd ⟨[u],[]⟩ [("_law_script",u)])/\∀ base:Heap,(K w.params).In base->base.Ns mainGlobals mg->Aw l.prog w (K w.params) mg base Bg 11 fa fd ["_law_script"] (Nz (K w.params))) :
  W.WalkO q loose XP YP l.row.toRowW d [] (fun f vs=>PySem.call f vs) :=
 L2.Wa (n:=63) (k:=11) (x:="_law_script") (CX:=fun _=>Bg) (sp:=fun w=>Nz (K w.params)) hn (by decide) hdf ⟨rfl,by decide,by decide⟩ hY F (fun _ _ a ns hl _ hS=>⟨a,ns,rfl,hS,hl,fun _=>rfl⟩) fun _ _ _ _ _ z=>z
end K39
open PySem PySem.W PyProof.Rows
noncomputable def PySem.W.Fast.tw10764274650518646816:Unit:=()
noncomputable def PySem.W.Fast.tw7644001276883837511:Unit:=()
noncomputable def PySem.W.Fast.tw9605064343766719133:Unit:=()
noncomputable def PySem.W.Fast.tw3871575246562623939:Unit:=()
noncomputable def PySem.W.Fast.tw5254779679994298265:Unit:=()
noncomputable def PySem.W.Fast.tw11125627573092026856:Unit:=()
noncomputable def PySem.W.Fast.tw6186053447173383498:Unit:=()
noncomputable def PySem.W.Fast.tw4502006875392295010:Unit:=()
noncomputable def PySem.W.Fast.tw1390366370584760830:Unit:=()
noncomputable def PySem.W.Fast.tw3614126003918279937:Unit:=()
noncomputable def PySem.W.Fast.tw573887867095125058:Unit:=()
noncomputable def PySem.W.Fast.tw14406056004119748262:Unit:=()
noncomputable def PySem.W.Fast.tw6505613121539519756:Unit:=()
noncomputable def PySem.W.Fast.tw5802874184111292738:Unit:=()
noncomputable def PySem.W.Fast.tw10148446580245168028:Unit:=()
noncomputable def PySem.W.Fast.tw3851928738244723605:Unit:=()
noncomputable def PySem.W.Fast.tw957111769090640667:Unit:=()
noncomputable def PySem.W.Fast.tw9661635048010911252:Unit:=()
noncomputable def PySem.W.Fast.tw7934577012540820616:Unit:=()
noncomputable def PySem.W.Fast.tw9223427789241770445:Unit:=()
noncomputable def PySem.W.Fast.tw16181264627019455318:Unit:=()
noncomputable def PySem.W.Fast.tw5686434139040569654:Unit:=()
noncomputable def PySem.W.Fast.tw1554049791369829589:Unit:=()
noncomputable def PySem.W.Fast.tw4343630190682810492:Unit:=()
noncomputable def PySem.W.Fast.tw10526077123759009165:Unit:=()
noncomputable def PySem.W.Fast.tw3624206217422931844:Unit:=()
noncomputable def PySem.W.Fast.tw8729597495965725283:Unit:=()
noncomputable def PySem.W.Fast.tw4106617380786110812:Unit:=()
noncomputable def PySem.W.Fast.tw5805408147835598130:Unit:=()
noncomputable def PySem.W.Fast.tw13118004066394711410:Unit:=()
noncomputable def PySem.W.Fast.tw8180225869139244876:Unit:=()
noncomputable def PySem.W.Fast.tw522660319283983802:Unit:=()
noncomputable def PySem.W.Fast.tw421935529942181572:Unit:=()
noncomputable def PySem.W.Fast.tw7663874014880240831:Unit:=()
noncomputable def PySem.W.Fast.tw9636085924174154583:Unit:=()
noncomputable def PySem.W.Fast.tw4185319463317341426:Unit:=()
noncomputable def PySem.W.Fast.tw208276783313826014:Unit:=()
noncomputable def PySem.W.Fast.tw13603262674932268098:Unit:=()
noncomputable def PySem.W.Fast.tw7587433548501350497:Unit:=()
noncomputable def PySem.W.Fast.tw2291050742167916740:Unit:=()
noncomputable def PySem.W.Fast.tw10251518727633798008:Unit:=()
noncomputable def PySem.W.Fast.tw4771261087187823540:Unit:=()
noncomputable def PySem.W.Fast.tw2283037213026715464:Unit:=()
noncomputable def PySem.W.Fast.tw9034964688509357998:Unit:=()
noncomputable def PySem.W.Fast.tw1605614964254039277:Unit:=()
noncomputable def PySem.W.Fast.tw5837253237807590126:Unit:=()
noncomputable def PySem.W.Fast.tw1541479582927234512:Unit:=()
noncomputable def PySem.W.Fast.tw8063271933117607029:Unit:=()
noncomputable def PySem.W.Fast.tw17611115644000461808:Unit:=()
noncomputable def PySem.W.Fast.tw2132287428189976877:Unit:=()
noncomputable def PySem.W.Fast.tw455759674244000936:Unit:=()
noncomputable def PySem.W.Fast.tw7092295282294541169:Unit:=()
noncomputable def PySem.W.Fast.tw11949084371981169916:Unit:=()
noncomputable def PySem.W.Fast.tw11734714000872166990:Unit:=()
noncomputable def PySem.W.Fast.tw10900283439529515617:Unit:=()
noncomputable def PySem.W.Fast.tw3010080735242381141:Unit:=()
noncomputable def PySem.W.Fast.tw3844639054831773724:Unit:=()
noncomputable def PySem.W.Fast.tw5092009773463232985:Unit:=()
noncomputable def PySem.W.Fast.tw6244791210560859202:Unit:=()
noncomputable def PySem.W.Fast.tw7959578963797290246:Unit:=()
noncomputable def PySem.W.Fast.tw15453245670955185351:Unit:=()
noncomputable def PySem.W.Fast.tw11337630926618953076:Unit:=()
noncomputable def PySem.W.Fast.tw12241036694194205205:Unit:=()
noncomputable def PySem.W.Fast.tw7092123017212204467:Unit:=()
noncomputable def PySem.W.Fast.tw6428231499075514140:Unit:=()
noncomputable def PySem.W.Fast.tw1231485886936846871:Unit:=()
noncomputable def PySem.W.Fast.tw13454595926347163588:Unit:=()
noncomputable def PySem.W.Fast.tw2566055606526340225:Unit:=()
noncomputable def PySem.W.Fast.tw819427915561713443:Unit:=()
noncomputable def PySem.W.Fast.tw8104313510941446676:Unit:=()
noncomputable def PySem.W.Fast.tw4319145741962663110:Unit:=()
noncomputable def PySem.W.Fast.tw15680335875181636740:Unit:=()
noncomputable def PySem.W.Fast.tw5987771039091066051:Unit:=()
noncomputable def PySem.W.Fast.tw9890510743945760670:Unit:=()
noncomputable def PySem.W.Fast.tw8863001620278060620:Unit:=()
noncomputable def PySem.W.Fast.tw13240796118530306119:Unit:=()
noncomputable def PySem.W.Fast.tw15834784905483618994:Unit:=()
noncomputable def PySem.W.Fast.tw6548061378400354222:Unit:=()
noncomputable def PySem.W.Fast.tw10291509775332674977:Unit:=()
noncomputable def PySem.W.Fast.tw9098789754016912520:Unit:=()
noncomputable def PySem.W.Fast.tw17115108829275453185:Unit:=()
noncomputable def PySem.W.Fast.tw5940462124224611014:Unit:=()
noncomputable def PySem.W.Fast.tw11743546270405676725:Unit:=()
noncomputable def PySem.W.Fast.tw16413147795055773439:Unit:=()
noncomputable def PySem.W.Fast.tw6908175889310967085:Unit:=()
noncomputable def PySem.W.Fast.tw3856074419005538508:Unit:=()
noncomputable def PySem.W.Fast.tw14216081200912092514:Unit:=()
noncomputable def PySem.W.Fast.tw8907905813337308299:Unit:=()
noncomputable def PySem.W.Fast.tw17055294391449976320:Unit:=()
noncomputable def PySem.W.Fast.tw17703980253764276010:Unit:=()
noncomputable def PySem.W.Fast.tw5828224983313466439:Unit:=()
noncomputable def PySem.W.Fast.tw11023472114046225278:Unit:=()
noncomputable def PySem.W.Fast.tw16730125777939752924:Unit:=()
noncomputable def PySem.W.Fast.tw5031769192459352356:Unit:=()
noncomputable def PySem.W.Fast.tw13583181695595146894:Unit:=()
noncomputable def PySem.W.Fast.tw4238653018804786064:Unit:=()
noncomputable def PySem.W.Fast.tw1456794601427066320:Unit:=()
noncomputable def PySem.W.Fast.tw4348527820010977074:Unit:=()
noncomputable def PySem.W.Fast.tw2820305828203307287:Unit:=()
set_option maxRecDepth 100000 in
set_option maxHeartbeats 0 in
theorem PySem.Challenge.cw_windchest_k39_whole_pressed_again_holds : PySem.Challenge.rw_windchest_k39_whole_pressed_again.Holds := by
 w_on; o_law; k_head; (case hw=>w_witness2)
 k_fill
 refine K39.walk (l:=PySem.Challenge.rw_windchest_k39_whole_pressed_again) rfl rfl (fun w h Y=>PySem.W.kIn_of Y) ?F
 case F =>
  intro w mg fa h KX G hmg
  refine' K39.X7 KX G hmg ?_ ?_ ?_ ?_ ?_ ?_ ?_ ?_ ?_ ?_ ?_ ?_ ?_ ?_ ?_ ?_ ?_ ?_ ?_ ?_ ?_ ?_ ?_ ?_ ?_ ?_ ?_ ?_ ?_ ?_ ?_ ?_ ?_ ?_ ?_ ?_ ?_ ?_ ?_ ?_ ?_ ?_ ?_ ?_ ?_ ?_ ?_ ?_ ?_ ?_ ?_ ?_ ?_ ?_ ?_ ?_ ?_ ?_ ?_ ?_ ?_ ?_ ?_ ?_ ?_ ?_ ?_ ?_ ?_ ?_ ?_ ?_ ?_ ?_ ?_ ?_ ?_ ?_ ?_ ?_ ?_ ?_ ?_ ?_ ?_ ?_ ?_ ?_ ?_ ?_ ?_ ?_ ?_ ?_ ?_ ?_ ?_ ?_ ?_ ?_ ?_ ?_ ?_ ?_ ?_ ?_ ?_ ?_ ?_ ?_ ?_ ?_ ?_ ?_ ?_ ?_ ?_ ?_ ?_ ?_ ?_ ?_ ?_ ?_ ?_ ?_ ?_ ?_ ?_ ?_ ?_ ?_ ?_ ?_ ?_ ?_ ?_ ?_ ?_ ?_ ?_ ?_ ?_ ?_ ?_ ?_ ?_ ?_ ?_ ?_ ?_ ?_ ?_ ?_ ?_ ?_ ?_ ?_ ?_ ?_ ?_ ?_ ?_ ?_ ?_ ?_ ?_ ?_ ?_ ?_ ?_ ?_ ?_ ?_ ?_ ?_ ?_ ?_ ?_ ?_ ?_ ?_ ?_ ?_ ?_ ?_ ?_ ?_ ?_ ?_ ?_ ?_ ?_ ?_ ?_ ?_ ?_ ?_ ?_ ?_ ?_ ?_ ?_ ?_ ?_ ?_ ?_
  all_goals first | (k_is; done) | (refine' ⟨?a,_,L2.PQ ?l ?c ?k⟩; (case a=>k_is); (case l=>k_is); (case c=>k_is); case k=>k_is) | (refine' ⟨?a,?i,_,L2.PQ ?l ?c ?k⟩; (case a=>k_is); (case i=>k_is); (case l=>k_is); (case c=>k_is); case k=>k_is) | (k_keys; done) | decide | kernel_rfl! | skip
end PartK39z
