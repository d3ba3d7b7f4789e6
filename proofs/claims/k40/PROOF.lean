import PyProof.Rows.All
import Wide.All
import OpenK.AllK
import Wide.FinOn
import Lean
import PyProof.EqAt
import PyProof.EqKinds
import PyProof.TupleCall
import PyProof.ZipIter
import PyProof.WalksEnum
import PyProof.EnumMake
import PyProof.NeKinds
import KE.KDictList
import PyProof.Rows.SetFrom
import PyProof.StrWalks
import PyProof.CollectWalk
import PyProof.Rows.SortWalk
import PyProof.Rows.BitMore
import PyProof.Rows.IntCalls
import KE.KRevIter
import PyProof.SetRoads
import OpenK.KTop
import PyProof.Rows.StrWeight2
import PyProof.SumWalk
import PyProof.SliceList
import PyProof.FactsAll.subtypes_4
import PyProof.StationsW
import PyProof.NsDelKeeps
import PyProof.Rows.StrClose
import PyProof.Rows.CatFin
import PyProof.SeqI3
import PyProof.Rows.StrCase
import PyProof.PureStr
import PyProof.IsRules
import PySem.Challenge.RW_windchest_k40_whole_two_consoles
local macro_rules | `(tactic| omega) => `(tactic| lia)
set_option Elab.async false
set_option linter.all false
set_option maxRecDepth 100000
namespace L2
open PySem PySem.Spec PyProof.Rows
noncomputable abbrev Key:=Sum Int Str
noncomputable def KQ:Key->Value->Bool
 | .inl k,v=>Value.isInt k v
 | .inr x,v=>Value.isStrOf x v
noncomputable def kE (w:World):Key->Int
 | .inl k=>hashInt k
 | .inr x=>hashStr w x
theorem CW:∀ {k:Key} {v:Value},KQ k v=true->(∃ i t,k=Sum.inl i/\v=Value.int i t) \/ (∃ x t,k=Sum.inr x/\v=Value.str x t)
 | .inl i,v,h=>by
  obtain ⟨t,e⟩:=Value.isInt_shape (k:=i) (v:=v) h
  exact .inl ⟨i,t,rfl,e⟩
 | .inr x,v,h=>by
  obtain ⟨t,e⟩:=Value.isStrOf_shape (x:=x) (v:=v) h
  exact .inr ⟨x,t,rfl,e⟩
theorem RD (i:Int) (t:Tok):KQ (.inl i) (.int i t)=true:=by simp [KQ,Value.isInt]
theorem QW (x:Str) (t:Tok):KQ (.inr x) (.str x t)=true:=by simp [KQ,Value.isStrOf]
theorem YD (a b:Int):decide ((Sum.inl a:Key)=Sum.inl b)=(a == b):=by
 by_cases e:a=b
 ·subst e; simp
 ·have h:¬ (Sum.inl a:Key)=Sum.inl b:=fun q=>e (Sum.inl.inj q)
  rw [decide_eq_false h]
  exact (beq_eq_false_iff_ne.mpr e).symm
theorem X3 (a b:Str):decide ((Sum.inr a:Key)=Sum.inr b)=decide (a=b):=by
 by_cases e:a=b
 ·subst e; simp
 ·have h:¬ (Sum.inr a:Key)=Sum.inr b:=fun q=>e (Sum.inr.inj q)
  rw [decide_eq_false h,decide_eq_false e]
theorem YJ (a:Int) (b:Str):decide ((Sum.inl a:Key)=Sum.inr b)=false:=decide_eq_false (fun q=>nomatch q)
theorem YL (a:Str) (b:Int):decide ((Sum.inr a:Key)=Sum.inl b)=false:=decide_eq_false (fun q=>nomatch q)
noncomputable def Ck (prog:Program) (w:World):PySem.KeyKind prog w Key where
 is:=KQ
 hash:=kE w
 inj:=fun v a b ha hb=>by
  rcases CW ha with ⟨i,t,rfl,rfl⟩ | ⟨x,t,rfl,rfl⟩
  ·rcases CW hb with ⟨j,u,rfl,e⟩ | ⟨y,u,rfl,e⟩
   ·injection e with e1 _; rw [e1]
   ·exact nomatch e
  ·rcases CW hb with ⟨j,u,rfl,e⟩ | ⟨y,u,rfl,e⟩
   ·exact nomatch e
   ·injection e with e1 _; rw [e1]
 byValue:=fun k v h=>by
  rcases CW h with ⟨i,t,rfl,rfl⟩ | ⟨x,t,rfl,rfl⟩ <;> rfl
 pyHash:=fun hv h=>by
  rcases CW hv with ⟨i,t,rfl,rfl⟩ | ⟨x,t,rfl,rfl⟩
  ·exact wpAny_pyHash_int h
  ·exact wpAny_pyHash_str h
 eqBool:=fun hu hv h=>by
  rcases CW hu with ⟨i,t,rfl,rfl⟩ | ⟨x,t,rfl,rfl⟩
  ·rcases CW hv with ⟨j,u,rfl,rfl⟩ | ⟨y,u,rfl,rfl⟩
   ·rw [YD] at h; exact wpAny_eqBool_int h
   ·rw [YJ] at h; exact SeqAt.EqAt.int_str i t y u _ _ _ _ h
  ·rcases CW hv with ⟨j,u,rfl,rfl⟩ | ⟨y,u,rfl,rfl⟩
   ·rw [YL] at h; exact SeqAt.EqAt.str_int x t j u _ _ _ _ h
   ·rw [X3] at h; exact wpAny_eqBool_str h
 «strs»:=fun k x t v h=>by
  rcases CW h with ⟨i,u,rfl,e⟩ | ⟨y,u,rfl,e⟩
  ·exact nomatch e
  ·injection e with e1 _
   subst e1
   cases v <;> rfl
theorem Ma (prog:Program) (w:World) (i:Int) (t:Tok):(Ck prog w).is (.inl i) (.int i t)=true:=RD i t
theorem Nf (prog:Program) (w:World) (x:Str) (t:Tok):(Ck prog w).is (.inr x) (.str x t)=true:=QW x t
end L2
namespace L2
open PySem PySem.Spec PyProof.Rows
inductive V where
 | non | bl (b:Bool) | int (i:Int) | str (x:Str) | byt (b:Array UInt8) | flt (b:UInt64) | ref (a:Addr) | ty (n:String)
 deriving DecidableEq
noncomputable def RelV:V->Value->Prop
 | .non,u=>u=Value.none
 | .bl b,u=>u=Value.bool b
 | .int i,u=>∃ t,u=Value.int i t
 | .str x,u=>∃ t,u=Value.str x t
 | .byt b,u=>∃ t,u=Value.bytes b t
 | .flt b,u=>∃ t,u=Value.float b t
 | .ref a,u=>u=Value.ref a
 | .ty n,u=>u=Value.type n
noncomputable abbrev Vals:List V->List Value->Prop:=Paired RelV
theorem Vals.length {xs:List V} {us:List Value} (r:Vals xs us):xs.length=us.length:=Paired.length r
theorem Vals.get:∀ {xs:List V} {us:List Value} {i:Nat} {x:V},Vals xs us->xs[i]? = some x->∃ u,us[i]? = some u/\RelV x u
 | _,_,_,_,.nil,e=>by simp at e
 | _,_,0,_,.cons r _,e=>by simp at e; subst e; exact ⟨_,rfl,r⟩
 | _,_,i+1,x,.cons _ t,e=>by
  obtain ⟨u,h1,h2⟩:=Vals.get (i:=i) (x:=x) t (by simpa using e)
  exact ⟨u,by simpa using h1,h2⟩
theorem Vals.set {x:V} {u:Value} (r:RelV x u):∀ {xs:List V} {us:List Value} (i:Nat),Vals xs us->Vals (xs.set i x) (us.set i u)
 | _,_,_,.nil=>.nil
 | _,_,0,.cons _ t=>.cons r t
 | _,_,i+1,.cons q t=>.cons q (Vals.set r i t)
theorem Vals.append:∀ {xs ys:List V} {us ws:List Value},Vals xs us->Vals ys ws->Vals (xs++ys) (us++ws)
 | _,_,_,_,.nil,s=>s
 | _,_,_,_,.cons r t,s=>.cons r (Vals.append t s)
theorem Vals.take:∀ {xs:List V} {us:List Value} (n:Nat),Vals xs us->Vals (xs.take n) (us.take n)
 | _,_,0,_=>.nil
 | _,_,_+1,.nil=>.nil
 | _,_,n+1,.cons r t=>.cons r (Vals.take n t)
theorem Vals.drop:∀ {xs:List V} {us:List Value} (n:Nat),Vals xs us->Vals (xs.drop n) (us.drop n)
 | _,_,0,r=>r
 | _,_,_+1,.nil=>.nil
 | _,_,n+1,.cons _ t=>Vals.drop n t
noncomputable def Fp:Option V->Option Value->Prop
 | some v,some u=>RelV v u
 | none,none=>True
 | _,_=>False
noncomputable def KV {κ:Type}:List (κ × V)->List (κ × Value)->Prop:=Paired fun (p:κ × V) (q:κ × Value)=>p.1=q.1/\RelV p.2 q.2
noncomputable def kV:Key->V
 | .inl i=>.int i
 | .inr x=>.str x
inductive HO where
 | lst (xs:List V)
 | tup (xs:List V)
 | dK (kvs:List (Key × V)) | dT (kvs:List (List Key × V))
 | set (S:Int->Bool) (n:Nat)
 | ins (C dx:Addr) (fs:List (Str × V))
 | own (x:Addr)
 | xd (fs:List (Str × V))
 | met (f x:Addr)
 | rng (lo hi:Int)
 | frz (o:Obj) (u:HO)
 | tbl (ps:Array Value)
 | ext (φ:Heap->Prop)
noncomputable abbrev Hp:=Addr->Option HO
noncomputable def upd (H:Hp) (a:Addr) (o:HO):Hp:=fun b=>if b=a then some o else H b
theorem Ag {H:Hp} {a:Addr} {o:HO}:upd H a o a=some o:=by unfold upd; rw [if_pos rfl]
theorem Al {H:Hp} {a b:Addr} {o:HO} (h:b ≠ a):upd H a o b=H b:=by unfold upd; rw [if_neg h]
theorem Wx {H:Hp} {a b:Addr} {o u:HO} (h:H a=some o) (h':H b=some u) (d:o ≠ u):a ≠ b:=by
 intro e; subst e; rw [h] at h'; exact d (Option.some.inj h')
theorem Ah {H:Hp} {a b:Addr} {o:HO} (h:H a=some o) (h':H b=none):a ≠ b:=by
 intro e; subst e; rw [h] at h'; cases h'
section
variable (P:Program) (w:World)
noncomputable def Bv (H:Hp) (h:Heap) (a:Addr):HO->Prop
 | .lst xs=>xs.length<=sizeLine/\∃ (its:List Value) (n:Nat),Vals xs its/\h.get? a=some { cls:=.type "list",data:=.seq its.toArray n }
 | .tup xs=>xs.length<=sizeLine/\∃ its:List Value,Vals xs its/\IsTup h a its.toArray
 | .dK kvs=>kvs.length<=sizeLine/\(a == sysModules)=false/\∃ vs,KV kvs vs/\h.DictOf (Ck P w) a vs
 | .dT kvs=>kvs.length<=sizeLine/\(a == sysModules)=false/\∃ xs:List (List Key × Addr × Value),
   Paired (fun (p:List Key × V) (q:List Key × Addr × Value)=>p.1=q.1/\H q.2.1=some (.tup (p.1.map kV))/\RelV p.2 q.2.2) kvs xs /\
   ∃ o es ep,h.get? a=some o/\o.ExactDict/\o.data=.dict es ep/\es.toList=xs.map (entryOfKey (tupleKind (Ck P w)))/\(xs.map (·.1)).Nodup
 | .set S n=>h.SetOf (intKind P w) a S n
 | .ins C dx fs=>H dx=some (.own a)/\fs.length<=1000/\dx ≠ a/\h.get? a=some (PySem.W.instObj C dx) /\
   ∃ mA,h.Ns1 dx mA/\(∀ f,Fp (fs.lookup f) (mA f))/\PySem.Within mA (fs.map (·.1))
 | .own _=>∃ o,h.get? a=some o
 | .xd fs=>∃ mA,h.Ns1 a mA/\∀ f,Fp (fs.lookup f) (mA f)
 | .rng lo hi=>∃ t u v,h.get? a=some { cls:=.type "range",data:=.fields #[.int lo t,.int hi u,.int 1 v] }
 | .frz o u=>h.get? a=some o/\Bv H h a u
 | .tbl ps=>h.get? a=some { cls:=.none,data:=.fields ps }
 | .met f x=>h.get? a=some (PySem.W.methodObj (.ref f) (.ref x))
 | .ext φ=>φ h/\(∃ o,h.get? a=some o)/\∀ h1 h2:Heap,φ h1->(∀ o,h1.get? a=some o->h2.get? a=some o)->φ h2
noncomputable def Ef (H:Hp) (h:Heap):Prop:=∀ a o,H a=some o->Bv P w H h a o
end
section
variable {P:Program} {w:World} {H H':Hp} {h h':Heap} {a:Addr} {o:HO}
theorem Bv.lt (x:Bv P w H h a o):a<h.objs.size:=by
 cases o with
 | lst xs=>obtain ⟨_,_,_,_,e⟩:=x; exact Heap.lt_size e
 | tup xs=>obtain ⟨_,_,_,p⟩:=x; exact p.lt
 | dK kvs=>obtain ⟨_,_,_,_,o,_,_,e,_⟩:=x; exact Heap.lt_size e
 | dT kvs=>obtain ⟨_,_,_,_,o,_,_,e,_⟩:=x; exact Heap.lt_size e
 | set S n=>obtain ⟨o,_,_,_,e,_⟩:=x; exact Heap.lt_size e
 | ins C dx fs=>obtain ⟨_,_,_,e,_⟩:=x; exact Heap.lt_size e
 | own y=>obtain ⟨_,e⟩:=x; exact Heap.lt_size e
 | xd fs=>obtain ⟨_,⟨_,_,_,e,_⟩,_⟩:=x; exact Heap.lt_size e
 | rng lo hi=>obtain ⟨_,_,_,e⟩:=x; exact Heap.lt_size e
 | frz ob u=>obtain ⟨e,_⟩:=x; exact Heap.lt_size e
 | tbl ps=>exact Heap.lt_size (show h.get? a=some _ from x)
 | met f y=>exact Heap.lt_size (show h.get? a=some _ from x)
 | ext φ=>obtain ⟨_,⟨_,e⟩,_⟩:=x; exact Heap.lt_size e
theorem Paired.Hz {α β:Type} {F G:α->β->Prop}:∀ {l₁:List α} {l₂:List β},Paired F l₁ l₂->(∀ a b,F a b->G a b)->Paired G l₁ l₂
 | _,_,.nil,_=>.nil
 | _,_,.cons r t,f=>.cons (f _ _ r) (Paired.Hz t f)
theorem Bv.stay (x:Bv P w H h a o) (k:∀ b u,(b=a \/ H b=some (.own a))->h.get? b=some u->h'.get? b=some u)
  (ho:∀ b,H b=some (.own a)->H' b=some (.own a)) (ht:∀ b xs,H b=some (.tup xs)->H' b=some (.tup xs)):Bv P w H' h' a o:=by
 induction o with
 | lst xs=>obtain ⟨z,its,n,r,e⟩:=x; exact ⟨z,its,n,r,k _ _ (.inl rfl) e⟩
 | tup xs=>obtain ⟨z,its,r,ob,e,c⟩:=x; exact ⟨z,its,r,ob,k _ _ (.inl rfl) e,c⟩
 | dK kvs=>obtain ⟨z,y,vs,r,ob,es,ep,e,c⟩:=x; exact ⟨z,y,vs,r,ob,es,ep,k _ _ (.inl rfl) e,c⟩
 | dT kvs =>
  obtain ⟨z,y,xs,r,ob,es,ep,e,c⟩:=x
  exact ⟨z,y,xs,Paired.Hz r fun p q z=>⟨z.1,ht _ _ z.2.1,z.2.2⟩,ob,es,ep,k _ _ (.inl rfl) e,c⟩
 | set S n=>obtain ⟨ob,es,ep,t,e,c⟩:=x; exact ⟨ob,es,ep,t,k _ _ (.inl rfl) e,c⟩
 | ins C dx fs =>
  obtain ⟨d,z,ne,e,mA,⟨od,es,ep,e2,c⟩,r⟩:=x
  exact ⟨ho _ d,z,ne,k _ _ (.inl rfl) e,mA,⟨od,es,ep,k _ _ (.inr d) e2,c⟩,r⟩
 | own y=>obtain ⟨ob,e⟩:=x; exact ⟨ob,k _ _ (.inl rfl) e⟩
 | xd fs=>obtain ⟨mA,⟨od,es,ep,e,c⟩,r⟩:=x; exact ⟨mA,⟨od,es,ep,k _ _ (.inl rfl) e,c⟩,r⟩
 | rng lo hi=>obtain ⟨t,u,v,e⟩:=x; exact ⟨t,u,v,k _ _ (.inl rfl) e⟩
 | frz ob u ih=>obtain ⟨e,q⟩:=x; exact ⟨k _ _ (.inl rfl) e,ih q⟩
 | tbl ps =>
  have e:h.get? a=some { cls:=.none,data:=.fields ps }:=x
  show h'.get? a=some { cls:=.none,data:=.fields ps }
  exact k a _ (.inl rfl) e
 | met f y =>
  have e:h.get? a=some (PySem.W.methodObj (.ref f) (.ref y)):=x
  show h'.get? a=some (PySem.W.methodObj (.ref f) (.ref y))
  exact k a _ (.inl rfl) e
 | ext φ=>obtain ⟨p,⟨o,e⟩,st⟩:=x; exact ⟨st _ _ p fun o q=>k _ _ (.inl rfl) q,⟨o,k _ _ (.inl rfl) e⟩,st⟩
theorem Ef.lt (x:Ef P w H h) (e:H a=some o):a<h.objs.size:=(x a o e).lt
theorem Ef.fresh (x:Ef P w H h) (e:h.objs.size<=a):H a=none:=by
 cases q:H a with
 | none=>rfl
 | some u=>exact absurd (Nat.lt_of_lt_of_le (x.lt q) e) (Nat.lt_irrefl _)
theorem Ef.kept (x:Ef P w H h) (k:∀ b u,h.get? b=some u->h'.get? b=some u):Ef P w H h':=fun a o e =>
 (x a o e).stay (fun b u _ q=>k b u q) (fun _ q=>q) fun _ _ q=>q
theorem Ef.laid (x:Ef P w H h) (k:∀ b u,h.get? b=some u->h'.get? b=some u) (hp:h.objs.size<=a) (new:Bv P w (upd H a o) h' a o):Ef P w (upd H a o) h':=fun b u e=>by
 have hn:=x.fresh hp
 by_cases hb:b=a
 ·subst hb; rw [Ag] at e; cases e; exact new
 ·rw [Al hb] at e
  exact (x b u e).stay (fun c v _ q=>k c v q) (fun c q=>by rw [Al (Ah q hn)]; exact q) fun c xs q=>by rw [Al (Ah q hn)]; exact q
end
noncomputable def Rd (H:Hp) (a:Addr) (u:HO):Prop:=H a=some u \/ ∃ o,H a=some (.frz o u)
theorem Rd.ok {P:Program} {w:World} {H:Hp} {h:Heap} {a:Addr} {u:HO} (r:Rd H a u) (x:Ef P w H h):Bv P w H h a u:=by
 rcases r with r | ⟨o,r⟩
 ·exact x a u r
 ·obtain ⟨_,q⟩:=x a _ r
  exact q
noncomputable def Z7:Option HO->Prop
 | some (.lst _)=>True
 | some (.dK _)=>True
 | some (.dT _)=>True
 | some (.set _ _)=>True
 | some (.ins _ _ _)=>True
 | some (.ext _)=>True
 | _=>False
section
variable {P:Program} {w:World} {H:Hp} {h h':Heap} {x e:Addr} {o':HO}
theorem Ef.write (ok:Ef P w H h) (mu:Z7 (H x)) (he:e=x \/ H e=some (.own x)) (k:∀ b u,b ≠ e->h.get? b=some u->h'.get? b=some u) (heo:∃ u,h'.get? e=some u)
  (new:Bv P w (upd H x o') h' x o'):Ef P w (upd H x o') h':=fun b u q=>by
 have nown:∀ c y,H c=some (.own y)->c ≠ x:=fun c y r z=>by subst z; rw [r] at mu; exact mu
 have ntup:∀ c xs,H c=some (.tup xs)->c ≠ x:=fun c xs r z=>by subst z; rw [r] at mu; exact mu
 by_cases hb:b=x
 ·subst hb; rw [Ag] at q; cases q; exact new
 ·rw [Al hb] at q
  by_cases hbe:b=e
  ·have q':H b=some (.own x):=by
    rcases he with z | z
    ·exact absurd (hbe.trans z) hb
    ·rw [hbe]; exact z
   rw [q] at q'; cases q'
   obtain ⟨v,hv⟩:=heo
   exact ⟨v,by rw [hbe]; exact hv⟩
  ·refine (ok b u q).stay (fun c v hc r=>k c v ?_ r) (fun c r=>by rw [Al (nown c b r)]; exact r) fun c xs r=>by rw [Al (ntup c xs r)]; exact r
   rcases hc with rfl | hc
   ·exact hbe
   ·rintro rfl
    rcases he with z | z
    ·exact nown c b hc z
    ·rw [hc] at z; cases z; exact hb rfl
end
structure Un (fs ex:List Addr) (H H':Hp) (h h':Heap):Prop where
 keep:∀ b o,h.get? b=some o->H b=none->b ∉ fs->b ∉ ex->h'.get? b=some o
 slot:∀ b o,h.get? b=some o->H b=none->b∈fs->b ∉ ex->∃ sl,h'.get? b=some { o with slots:=sl }
 free:∀ b o,h.get? b=some o->H b=none->b ∉ ex->H' b=none
 there:∀ b o,h.get? b=some o->b ∉ ex->∃ o',h'.get? b=some o'
 tups:∀ b xs,H b=some (.tup xs)->H' b=some (.tup xs)
 frzs:∀ b o u,H b=some (.frz o u)->H' b=some (.frz o u)
 tbls:∀ b ps,H b=some (.tbl ps)->∃ more,H' b=some (.tbl (ps++more))
section
variable {fs fs' ex ex':List Addr} {H H1 H2:Hp} {h h1 h2 h':Heap} {a x e:Addr} {o:HO}
theorem Un.any (u:Un fs ex H H1 h h1) {b:Addr} {ob:Obj} (q:h.get? b=some ob) (n:H b=none) (hx:b ∉ ex):∃ sl,h1.get? b=some { ob with slots:=sl }:=by
 by_cases hb:b∈fs
 ·exact u.slot b ob q n hb hx
 ·exact ⟨ob.slots,u.keep b ob q n hb hx⟩
theorem Un.trans (a:Un fs ex H H1 h h1) (b:Un fs ex H1 H2 h1 h2):Un fs ex H H2 h h2 where
 keep:=fun c ob q n hc hx=>b.keep c ob (a.keep c ob q n hc hx) (a.free c ob q n hx) hc hx
 slot:=fun c ob q n hc hx=>by
  obtain ⟨sl,e1⟩:=a.slot c ob q n hc hx
  obtain ⟨sl',e2⟩:=b.slot c _ e1 (a.free c ob q n hx) hc hx
  exact ⟨sl',e2⟩
 free:=fun c ob q n hx=>by
  obtain ⟨o',e1⟩:=a.there c ob q hx
  exact b.free c o' e1 (a.free c ob q n hx) hx
 there:=fun c ob q hx=>by
  obtain ⟨o',e1⟩:=a.there c ob q hx
  exact b.there c o' e1 hx
 tups:=fun c xs q=>b.tups c xs (a.tups c xs q)
 frzs:=fun c ob xs q=>b.frzs c ob xs (a.frzs c ob xs q)
 tbls:=fun c ps q=>by
  obtain ⟨m1,e1⟩:=a.tbls c ps q
  obtain ⟨m2,e2⟩:=b.tbls c _ e1
  exact ⟨m1++m2,by rw [e2,Array.append_assoc]⟩
theorem Un.kept (k:∀ b u,h.get? b=some u->h'.get? b=some u):Un fs ex H H h h' :=
 ⟨fun b ob q _ _ _=>k b ob q,fun b ob q _ _ _=>⟨ob.slots,k b ob q⟩,fun _ _ _ n _=>n,fun b ob q _=>⟨ob,k b ob q⟩,fun _ _ q=>q,fun _ _ _ q=>q,fun _ ps q=>⟨#[],by rw [q]; simp⟩⟩
theorem Un.refl:Un fs ex H H h h:=Un.kept fun _ _ q=>q
theorem Un.laid (k:∀ b u,h.get? b=some u->h'.get? b=some u) (hp:h.objs.size<=a) (hn:H a=none):Un fs ex H (upd H a o) h h' where
 keep:=fun b u q _ _ _=>k b u q
 slot:=fun b u q _ _ _=>⟨u.slots,k b u q⟩
 free:=fun b u q n _=>by rw [Al (Nat.ne_of_lt (Nat.lt_of_lt_of_le (Heap.lt_size q) hp))]; exact n
 there:=fun b u q _=>⟨u,k b u q⟩
 tups:=fun b xs q=>by rw [Al (Ah q hn)]; exact q
 frzs:=fun b u xs q=>by rw [Al (Ah q hn)]; exact q
 tbls:=fun b ps q=>⟨#[],by rw [Al (Ah q hn),q]; simp⟩
theorem Un.write (mu:Z7 (H x)) (he:e=x \/ H e=some (.own x)) (k:∀ b u,b ≠ e->h.get? b=some u->h'.get? b=some u) (heo:∃ u,h'.get? e=some u):Un fs ex H (upd H x o) h h':=by
 have hx:∀ b,H b=none->b ≠ x:=fun b n z=>by subst z; rw [n] at mu; exact mu
 have hb:∀ b,H b=none->b ≠ e:=fun b n z=>by
  subst z
  rcases he with r | r
  ·exact hx b n r
  ·rw [n] at r; cases r
 have hm:∀ b u,H b=some u->¬ Z7 (some u)->b ≠ x:=fun b u q nm z=>by subst z; rw [q] at mu; exact nm mu
 refine ⟨fun b u q n _ _=>k b u (hb b n) q,fun b u q n _ _=>⟨u.slots,k b u (hb b n) q⟩,fun b u q n _=>by rw [Al (hx b n)]; exact n,fun b u q _=>?_,
  fun b xs q=>by rw [Al (hm b _ q fun z=>z)]; exact q,fun b u xs q=>by rw [Al (hm b _ q fun z=>z)]; exact q,fun b ps q=>⟨#[],by rw [Al (hm b _ q fun z=>z),q]; simp⟩⟩
 by_cases hbe:b=e
 ·subst hbe; exact heo
 ·exact ⟨u,k b u hbe q⟩
end
noncomputable def fB (h:Heap) (H:Hp):List Addr:=(List.range h.objs.size).filter fun a=>(H a).isSome
noncomputable def LK (h:Heap) (H:Hp):Heap:=PySem.W.hideAll h (fB h H)
theorem Q4 (h:Heap) (H:Hp):(LK h H).objs.size=h.objs.size:=PySem.W.hideAll_size _ _
theorem Up {h:Heap} {H:Hp} {b:Addr} {o:Obj} (e:h.get? b=some o) (n:H b=none):(LK h H).get? b=some o :=
 PySem.W.hideAll_get _ e fun hm=>by
  have q:(H b).isSome=true:=(List.mem_filter.mp hm).2
  rw [n] at q; simp at q
theorem Vx {h:Heap} {H:Hp} {b:Addr} {o:Obj} (e:(LK h H).get? b=some o):h.get? b=some o/\H b=none:=by
 have e':h.get? b=some o:=PySem.W.of_hideAll (fB h H) e
 refine ⟨e',?_⟩
 cases q:H b with
 | none=>rfl
 | some x =>
  have hm:b∈fB h H:=List.mem_filter.mpr ⟨List.mem_range.mpr (Heap.lt_size e'),by simp [q]⟩
  have z:(LK h H).get? b=none:=PySem.W.hideAll_none (fB h H) hm
  rw [z] at e; cases e
noncomputable def V7 (g h:Heap) (L:Addr):List (Addr × Obj):=(List.range h.objs.size).filterMap fun a=>if a=L \/ (g.get? a).isSome=true then none else (h.get? a).map fun o=>(a,o)
noncomputable def rest (g h:Heap) (L d:Addr):List (Addr × Obj):=(V7 g h L).filter fun p=>decide (p.1 ≠ d)
end L2
namespace L2
open PySem PySem.Spec PyProof.Rows
structure Mod (K:PySem.W.Frag) (mg:Str->Option Value) (base:Heap):Prop where
 kin:K.In base
 glob:base.Ns mainGlobals mg
 blt:∃ mb,base.Ns builtinsNs mb/\∀ x:Str,x ≠ "__name__"->mb x=bootBuiltins x
 nolimit:base.NoLimit
structure Cx where
 prog:Program
 w:World
 K:PySem.W.Frag
 mg:Str->Option Value
 base:Heap
 A:Around
 N:List Str
 s₀:Shared
 H₀:Hp
 env:Env
 outer:List Env
 stack:List Env
 ex:List Addr
 fn:Str->Bool
 calm:Bool
 pn:List (Addr × Obj)
 xe:Value->Shared->Prop
noncomputable def frs (l:List Env):List Addr:=l.filterMap (·.frame)
noncomputable abbrev Cx.fs (X:Cx):List Addr:=frs X.outer
noncomputable def jX (sc:Scope) (x:Str):Prop:=sc.names.lookup x=some .local \/ sc.names.lookup x=some .cell \/ sc.names.lookup x=some .free
noncomputable def Loc (sc:Scope) (x:Str):Prop:=sc.names.lookup x=some .local \/ sc.names.lookup x=some .cell
noncomputable def Look (env:Env) (h:Heap) (m:Str->Option Value) (x:Str) (u:Value):Prop :=
 (env.kindOf x=some .local/\m x=some u) \/ ((env.kindOf x=some .cell \/ env.kindOf x=some .free)/\∃ c,env.cells.lookup x=some c/\h.IsCell c (some u))
structure Cx.Ok (X:Cx):Prop where
 mod:Mod X.K X.mg X.base
 kind:X.env.scope.kind=.function
 glob:X.env.globals=mainGlobals
 blt:X.env.builtins=builtinsNs
 above:X.s₀.heap.objs.size<=X.env.locals
 inj:∀ x y c,X.env.cells.lookup x=some c->X.env.cells.lookup y=some c->x=y
 has:∀ x,(X.env.kindOf x=some .cell \/ X.env.kindOf x=some .free)->∃ c,X.env.cells.lookup x=some c
 cab:∀ x c,X.fn x=true->X.env.cells.lookup x=some c->X.s₀.heap.objs.size<=c
 hd:X.calm=true->X.A.handled=none
 frames:X.A.frames=some X.stack
 stk:X.stack=X.outer \/ (X.stack=X.env::X.outer/\X.env.frame=some X.env.locals)
 exf:∀ b∈X.ex,b ≠ X.env.locals/\∀ x c,X.env.cells.lookup x=some c->c ≠ b
 bs:∀ b o,X.base.get? b=some o->X.s₀.heap.get? b=some o/\X.H₀ b=none
 bsz:X.base.objs.size<=X.s₀.heap.objs.size
 noex:∀ b o,X.base.get? b=some o->b ∉ X.ex
 exfs:∀ b∈X.ex,b ∉ X.fs
 Hc:X.s₀.heap.FunFrames X.base X.outer
 frf:∀ b∈X.fs,X.H₀ b=none
structure Inv (X:Cx) (pins:List (Addr × Obj)) (σ:List (Option V)) (H:Hp) (s:Shared):Prop where
 ok:X.Ok
 os:s.os=X.s₀.os
 bare:AllBare s.gens
 base:Un X.fs X.ex X.H₀ H X.s₀.heap s.heap
 loc:∃ m,s.heap.Ns X.env.locals m/\∀ (i:Nat) (x:Str) (v:V),X.N[i]? = some x->σ[i]? = some (some v)->jX X.env.scope x->∃ u,RelV v u/\Look X.env s.heap m x u
 cell:∀ x c,X.env.cells.lookup x=some c->∃ v,s.heap.IsCell c v
 free:H X.env.locals=none
 freeC:∀ x c,X.env.cells.lookup x=some c->H c=none
 pin:∀ p∈X.pn++pins,s.heap.get? p.1=some p.2/\H p.1=none/\p.1 ≠ X.env.locals/\p.1 ∉ X.fs/\∀ v,p.2.data ≠ .cell v
 hok:Ef X.prog X.w H s.heap
 len:σ.length=X.N.length
section
variable {X:Cx} {pins:List (Addr × Obj)} {σ:List (Option V)} {H H':Hp} {s:Shared} {h':Heap}
theorem Cx.Ok.lH (ok:X.Ok) {b:Addr} {o:Obj} (e:X.base.get? b=some o):b ∉ X.fs:=fun hb=>by
 have:=(ok.Hc.mem hb).1
 rw [e] at this; cases this
theorem Inv.bs (I:Inv X pins σ H s):∀ b o,X.base.get? b=some o->s.heap.get? b=some o/\H b=none:=fun b o e =>
 ⟨I.base.keep b o (I.ok.bs b o e).1 (I.ok.bs b o e).2 (I.ok.lH e) (I.ok.noex b o e),I.base.free b o (I.ok.bs b o e).1 (I.ok.bs b o e).2 (I.ok.noex b o e)⟩
theorem Inv.bk (I:Inv X pins σ H s):∀ b o,X.base.get? b=some o->s.heap.get? b=some o:=fun b o e=>(I.bs b o e).1
theorem Inv.mod (I:Inv X pins σ H s):Mod X.K X.mg X.base:=I.ok.mod
theorem Inv.GD (I:Inv X pins σ H s):X.K.In s.heap:=I.ok.mod.kin.keeps I.bk
theorem Inv.lt (I:Inv X pins σ H s):X.env.locals<s.heap.objs.size:=let ⟨_,hn,_⟩:=I.loc; hn.lt
theorem Inv.sz (I:Inv X pins σ H s):X.s₀.heap.objs.size<=s.heap.objs.size:=Nat.le_trans I.ok.above (Nat.le_of_lt I.lt)
theorem Inv.gr (I:Inv X pins σ H s) {a:Addr} (h:s.heap.objs.size<=a):a ∉ X.fs:=fun hb=>by
 obtain ⟨_,o,ho,_⟩:=I.ok.Hc.mem hb
 exact absurd (Nat.lt_of_lt_of_le (Heap.lt_size ho) (Nat.le_trans I.sz h)) (Nat.lt_irrefl _)
theorem Inv.VN (I:Inv X pins σ H s):∀ x c,X.env.cells.lookup x=some c->c ≠ X.env.locals:=fun x c e z=>by
 obtain ⟨v,o,ho,hd⟩:=I.cell x c e
 obtain ⟨m,⟨o',es,ep,ho',hd',_⟩,_⟩:=I.loc
 rw [z,ho'] at ho; cases ho; rw [hd'] at hd; cases hd
theorem Inv.Hc (I:Inv X pins σ H s):s.heap.FunFrames X.base X.outer:=by
 have all:∀ (l:List Env),(∀ b∈frs l,b∈X.fs)->X.s₀.heap.FunFrames X.base l->s.heap.FunFrames X.base l:=by
  intro l
  induction l with
  | nil=>intro _ _; trivial
  | cons env r ih =>
   intro hs hl
   obtain ⟨hk,⟨L,o,hf,hn,ho,hd⟩,hr⟩:=hl
   have hL:L∈X.fs:=hs L (by unfold frs; rw [List.filterMap_cons,hf]; exact List.mem_cons_self)
   obtain ⟨sl,e⟩:=I.base.slot L o ho (I.ok.frf L hL) hL fun z=>I.ok.exfs L z hL
   exact ⟨hk,⟨L,_,hf,hn,e,hd⟩,ih (fun b hb=>hs b (by unfold frs; rw [List.filterMap_cons,hf]; exact List.mem_cons_of_mem _ hb)) hr⟩
 exact all X.outer (fun _ hb=>hb) I.ok.Hc
theorem Inv.stack (I:Inv X pins σ H s):s.heap.FunFrames X.base X.stack:=by
 rcases I.ok.stk with e | ⟨e,hf⟩
 ·rw [e]; exact I.Hc
 ·rw [e]
  obtain ⟨m,hn,_⟩:=I.loc
  refine .cons (by rw [I.ok.kind]; decide) hf hn ?_ I.Hc
  exact Heap.get?_none_of_le (Nat.le_trans I.ok.bsz I.ok.above)
theorem Inv.La (I:Inv X pins σ H s):∀ b∈frs X.stack,b∈X.env.locals::X.fs:=fun b hb=>by
 rcases I.ok.stk with e | ⟨e,hf⟩
 ·rw [e] at hb; exact List.mem_cons_of_mem _ hb
 ·rw [e] at hb
  unfold frs at hb
  rw [List.filterMap_cons,hf] at hb
  exact hb
theorem Inv.G7 (I:Inv X pins σ H s):∀ b∈frs X.stack,H b=none:=fun b hb=>by
 rcases List.mem_cons.mp (I.La b hb) with e | hb
 ·rw [e]; exact I.free
 ·obtain ⟨_,o,ho,_⟩:=I.ok.Hc.mem hb
  exact I.base.free b o ho (I.ok.frf b hb) fun z=>I.ok.exfs b z hb
theorem Inv.step {g':Array GenState} {t':Nat} {d':Drawn} {ch:List Addr} (I:Inv X pins σ H s)
  (hch:∀ b∈ch,(b∈X.ex \/ X.s₀.heap.objs.size<=b)/\b ≠ X.env.locals/\(∀ x c,X.env.cells.lookup x=some c->c ≠ b)/\∀ p∈X.pn++pins,p.1 ≠ b)
  (keep:∀ b o,b ≠ X.env.locals->b ∉ X.fs->b ∉ ch->s.heap.get? b=some o->H b=none->h'.get? b=some o)
  (slot:∀ b o,b ≠ X.env.locals->b∈X.fs->b ∉ ch->s.heap.get? b=some o->H b=none->∃ sl,h'.get? b=some { o with slots:=sl }) (free:∀ b o,b ∉ ch->s.heap.get? b=some o->H b=none->H' b=none)
  (there:∀ b o,b ∉ ch->s.heap.get? b=some o->∃ o',h'.get? b=some o')
  (tups:∀ b xs,H b=some (.tup xs)->H' b=some (.tup xs)) (frzs:∀ b o u,H b=some (.frz o u)->H' b=some (.frz o u)) (tbls:∀ b ps,H b=some (.tbl ps)->∃ more,H' b=some (.tbl (ps++more)))
  (ns:∀ m,s.heap.Ns X.env.locals m->h'.Ns X.env.locals m) (hok:Ef X.prog X.w H' h') (hg:AllBare g') :
  Inv X pins σ H' { s with heap:=h',gens:=g',drawn:=d',toks:=t' }:=by
 have neL:∀ b o,X.s₀.heap.get? b=some o->b ≠ X.env.locals:=fun b o e=>Nat.ne_of_lt (Nat.lt_of_lt_of_le (Heap.lt_size e) I.ok.above)
 have neC:∀ b o,X.s₀.heap.get? b=some o->b ∉ X.ex->b ∉ ch:=fun b o e hx hb=>by
  rcases (hch b hb).1 with z | z
  ·exact hx z
  ·exact absurd (Nat.lt_of_lt_of_le (Heap.lt_size e) z) (Nat.lt_irrefl _)
 have cellK:∀ x c,X.env.cells.lookup x=some c->∀ v,s.heap.IsCell c v->h'.IsCell c v:=fun x c e v ⟨o,ho,hd⟩=>by
  have nch:c ∉ ch:=fun z=>(hch c z).2.2.1 x c e rfl
  by_cases hc:c∈X.fs
  ·obtain ⟨sl,q⟩:=slot c o (I.VN x c e) hc nch ho (I.freeC x c e)
   exact ⟨_,q,hd⟩
  ·exact ⟨o,keep c o (I.VN x c e) hc nch ho (I.freeC x c e),hd⟩
 refine ⟨I.ok,I.os,hg,⟨fun b o e n hb hx=>?_,fun b o e n hb hx=>?_,fun b o e n hx=>?_,fun b o e hx=>?_,fun b xs e=>tups b xs (I.base.tups b xs e),fun b o xs e=>frzs b o xs (I.base.frzs b o xs e),fun b ps e=>?_⟩,?_,fun x c e=>?_,?_,fun x c e=>?_,fun p hp=>?_,hok,I.len⟩
 ·exact keep b o (neL b o e) hb (neC b o e hx) (I.base.keep b o e n hb hx) (I.base.free b o e n hx)
 ·obtain ⟨sl,e1⟩:=I.base.slot b o e n hb hx
  obtain ⟨sl',e2⟩:=slot b _ (neL b o e) hb (neC b o e hx) e1 (I.base.free b o e n hx)
  exact ⟨sl',e2⟩
 ·obtain ⟨o',e1⟩:=I.base.there b o e hx
  exact free b o' (neC b o e hx) e1 (I.base.free b o e n hx)
 ·obtain ⟨o',e1⟩:=I.base.there b o e hx
  exact there b o' (neC b o e hx) e1
 ·obtain ⟨m1,e1⟩:=I.base.tbls b ps e
  obtain ⟨m2,e2⟩:=tbls b _ e1
  exact ⟨m1++m2,by rw [e2,Array.append_assoc]⟩
 ·obtain ⟨m,hn,hl⟩:=I.loc
  refine ⟨m,ns m hn,fun i x v e1 e2 e3=>?_⟩
  obtain ⟨u,r,l⟩:=hl i x v e1 e2 e3
  refine ⟨u,r,?_⟩
  rcases l with l | ⟨k,c,e,z⟩
  ·exact .inl l
  ·exact .inr ⟨k,c,e,cellK x c e _ z⟩
 ·obtain ⟨v,z⟩:=I.cell x c e
  exact ⟨v,cellK x c e v z⟩
 ·obtain ⟨m,⟨o,_,_,ho,_⟩,_⟩:=I.loc
  exact free _ o (fun z=>(hch _ z).2.1 rfl) ho I.free
 ·obtain ⟨v,o,ho,hd⟩:=I.cell x c e
  exact free c o (fun z=>(hch c z).2.2.1 x c e rfl) ho (I.freeC x c e)
 ·obtain ⟨e,n,ne,nf,d⟩:=I.pin p hp
  have nch:p.1 ∉ ch:=fun z=>(hch p.1 z).2.2.2 p hp rfl
  exact ⟨keep p.1 p.2 ne nf nch e n,free p.1 p.2 nch e n,ne,nf,d⟩
theorem Inv.un {t':Nat} (I:Inv X pins σ H s) (u:Un X.fs [] H H' s.heap h') (hok:Ef X.prog X.w H' h'):Inv X pins σ H' { s with heap:=h',toks:=t' }:=by
 obtain ⟨m,⟨o,es,ep,ho,r⟩,_⟩:=id I.loc
 obtain ⟨sl,hL⟩:=u.any ho I.free (by simp)
 exact I.step (g':=s.gens) (d':=s.drawn) (ch:=[]) (fun _ z=>nomatch z) (fun b o _ hb _ e n=>u.keep b o e n hb (by simp)) (fun b o _ hb _ e n=>u.slot b o e n hb (by simp)) (fun b o _ e n=>u.free b o e n (by simp)) (fun b o _ e=>u.there b o e (by simp)) u.tups u.frzs u.tbls (fun m' hm=>by
  obtain ⟨o',es',ep',ho',r'⟩:=hm
  rw [ho] at ho'; cases ho'
  exact ⟨_,es',ep',hL,r'⟩) hok I.bare
theorem Inv.call {g':Array GenState} {t':Nat} {d':Drawn} {ch:List Addr} (I:Inv X pins σ H s) (u:Un (frs X.stack) ch H H' s.heap h') (hok:Ef X.prog X.w H' h') (hg:AllBare g')
  (hch:∀ b∈ch,(b∈X.ex \/ X.s₀.heap.objs.size<=b)/\b ≠ X.env.locals/\(∀ x c,X.env.cells.lookup x=some c->c ≠ b)/\∀ p∈X.pn++pins,p.1 ≠ b) :
  Inv X pins σ H' { s with heap:=h',gens:=g',drawn:=d',toks:=t' }:=by
 obtain ⟨m,⟨o,es,ep,ho,r⟩,_⟩:=id I.loc
 obtain ⟨sl,hL⟩:=u.any ho I.free fun z=>(hch _ z).2.1 rfl
 exact I.step (ch:=ch) hch (fun b o hL hb hc e n=>u.keep b o e n (fun z=>(List.mem_cons.mp (I.La b z)).elim hL hb) hc) (fun b o _ _ hc e n=>u.any e n hc) (fun b o hc e n=>u.free b o e n hc) (fun b o hc e=>u.there b o e hc) u.tups u.frzs u.tbls (fun m' hm=>by
  obtain ⟨o',es',ep',ho',r'⟩:=hm
  rw [ho] at ho'; cases ho'
  exact ⟨_,es',ep',hL,r'⟩) hok hg
theorem Inv.turned {t':Nat} {it:Addr} (I:Inv X pins σ H s) (k:∀ b o,b ≠ it->s.heap.get? b=some o->h'.get? b=some o) (hn:H it=none) (hL:it ≠ X.env.locals)
  (h1:it∈X.ex \/ X.s₀.heap.objs.size<=it) (h2:∀ x c,X.env.cells.lookup x=some c->c ≠ it) (h3:∀ p∈X.pn++pins,p.1 ≠ it):Inv X pins σ H { s with heap:=h',toks:=t' }:=by
 have nit:∀ b u,H b=some u->b ≠ it:=fun b u e z=>by rw [z,hn] at e; cases e
 refine I.step (g':=s.gens) (d':=s.drawn) (ch:=[it]) (fun b hb=>?_) (fun b o _ _ hc e _=>k b o (fun z=>hc (by simp [z])) e) (fun b o _ _ hc e _=>⟨o.slots,k b o (fun z=>hc (by simp [z])) e⟩) (fun _ _ _ _ n=>n)
  (fun b o hc e=>⟨o,k b o (fun z=>hc (by simp [z])) e⟩) (fun _ _ e=>e) (fun _ _ _ e=>e) (fun b ps e=>⟨#[],by rw [e]; simp⟩) (fun m hm=>?_) (fun b u e=>?_) I.bare
 ·have e:b=it:=by simpa using hb
  subst e
  exact ⟨h1,hL,h2,h3⟩
 ·obtain ⟨o,es,ep,ho,r⟩:=hm
  exact ⟨o,es,ep,k _ o (Ne.symm hL) ho,r⟩
 ·refine (I.hok b u e).stay (fun c v hc q=>k c v ?_ q) (fun _ q=>q) fun _ _ q=>q
  rcases hc with z | z
  ·rw [z]; exact nit b u e
  ·exact nit c _ z
theorem Inv.tok (I:Inv X pins σ H s) (t:Nat):Inv X pins σ H { s with toks:=t }:=I.un (h':=s.heap) (t':=t) Un.refl I.hok
theorem Inv.kept {t':Nat} (I:Inv X pins σ H s) (k:∀ b u,s.heap.get? b=some u->h'.get? b=some u):Inv X pins σ H { s with heap:=h',toks:=t' }:=I.un (Un.kept k) (I.hok.kept k)
theorem Inv.laid {a:Addr} {o:HO} {t':Nat} (I:Inv X pins σ H s) (k:∀ b u,s.heap.get? b=some u->h'.get? b=some u) (hp:s.heap.objs.size<=a) (new:Bv X.prog X.w (upd H a o) h' a o) :
  Inv X pins σ (upd H a o) { s with heap:=h',toks:=t' }:=I.un (Un.laid k hp (I.hok.fresh hp)) (I.hok.laid k hp new)
theorem Inv.write {x e:Addr} {o:HO} {t':Nat} (I:Inv X pins σ H s) (mu:Z7 (H x)) (he:e=x \/ H e=some (.own x)) (k:∀ b u,b ≠ e->s.heap.get? b=some u->h'.get? b=some u) (heo:∃ u,h'.get? e=some u)
  (new:Bv X.prog X.w (upd H x o) h' x o):Inv X pins σ (upd H x o) { s with heap:=h',toks:=t' }:=I.un (Un.write mu he k heo) (I.hok.write mu he k heo new)
theorem Inv.QF {pins':List (Addr × Obj)} (I:Inv X pins σ H s) (h:∀ p∈pins',s.heap.get? p.1=some p.2/\H p.1=none/\p.1 ≠ X.env.locals/\p.1 ∉ X.fs/\∀ v,p.2.data ≠ .cell v):Inv X pins' σ H s :=
 ⟨I.ok,I.os,I.bare,I.base,I.loc,I.cell,I.free,I.freeC,fun p hp=>(List.mem_append.mp hp).elim (fun z=>I.pin p (List.mem_append_left _ z)) (h p),I.hok,I.len⟩
theorem Jg {N:List Str} (hN:N.Nodup) {i j:Nat} {x:Str} (a:N[i]? = some x) (b:N[j]? = some x):i=j:=by
 obtain ⟨h1,e1⟩:=List.getElem?_eq_some_iff.mp a
 obtain ⟨h2,e2⟩:=List.getElem?_eq_some_iff.mp b
 exact (List.getElem_inj hN).mp (e1.trans e2.symm)
theorem Iv {M:Model} {A:Around} {E:Value->Shared->Prop} {i:Nat} {x:Str} {v:V} {u:Value} {Q:Unit->Shared->Prop} (I:Inv X pins σ H s) (hN:X.N.Nodup) (hi:X.N[i]? = some x) (hx:Loc X.env.scope x) (r:RelV v u)
  (h:∀ s',Inv X pins (σ.set i (some v)) H s'->(∃ a,Heap.SameBut a s.heap s'.heap/\(a=X.env.locals \/ X.env.cells.lookup x=some a))->Q () s') (hf:X.fn x=true \/ X.env.scope.names.lookup x=some .local:=by first | exact .inl rfl | exact .inr rfl | assumption):wpAny M A (storeName X.env x u) Q E s:=by
 obtain ⟨m,hn,hl⟩:=id I.loc
 have hcls:(X.env.scope.kind == .class || (X.env.scope.kind == .module && X.env.locals != X.env.globals))=false:=by rw [I.ok.kind]; rfl
 have hiσ:i<σ.length:=by rw [I.len]; exact (List.getElem?_eq_some_iff.mp hi).1
 have VN:=I.VN
 have tracked:∀ {a:Addr} {h':Heap},(∃ o,s.heap.get? a=some o/\H a=none)->Heap.SameBut a s.heap h'->Ef X.prog X.w H h':=fun {a h'} ha hs b ob e=>by
  obtain ⟨_,_,hfree⟩:=ha
  refine (I.hok b ob e).stay (fun c w' hc q=>(hs.2 c ?_).trans q) (fun _ q=>q) fun _ _ q=>q
  rintro rfl
  rcases hc with rfl | hc
  ·rw [hfree] at e; cases e
  ·rw [hfree] at hc; cases hc
 rcases hx with hk | hk
 ·refine wpAny_storeName_local hk hn (fun h' hn' hs=>?_) hcls
  obtain ⟨oL,_,_,hoL,_⟩:=id hn
  refine h _ ⟨I.ok,I.os,I.bare,⟨fun b o e n hb hx=>?_,fun b o e n hb hx=>?_,I.base.free,fun b o e hx=>?_,I.base.tups,I.base.frzs,I.base.tbls⟩,⟨_,hn',fun j y v' e1 e2 e3=>?_⟩,fun y c e=>?_,I.free,I.freeC,fun p hp=>?_,tracked ⟨oL,hoL,I.free⟩ hs,by simpa using I.len⟩ ⟨_,hs,.inl rfl⟩
  ·exact (hs.2 b (Nat.ne_of_lt (Nat.lt_of_lt_of_le (Heap.lt_size e) I.ok.above))).trans (I.base.keep b o e n hb hx)
  ·obtain ⟨sl,e1⟩:=I.base.slot b o e n hb hx
   exact ⟨sl,(hs.2 b (Nat.ne_of_lt (Nat.lt_of_lt_of_le (Heap.lt_size e) I.ok.above))).trans e1⟩
  ·obtain ⟨o',e1⟩:=I.base.there b o e hx
   exact ⟨o',(hs.2 b (Nat.ne_of_lt (Nat.lt_of_lt_of_le (Heap.lt_size e) I.ok.above))).trans e1⟩
  ·by_cases hj:j=i
   ·subst hj
    rw [hi] at e1; cases e1
    rw [List.getElem?_set_self hiσ] at e2
    cases e2
    exact ⟨u,r,.inl ⟨hk,by simp⟩⟩
   ·rw [List.getElem?_set_ne (Ne.symm hj)] at e2
    obtain ⟨u',r',q⟩:=hl j y v' e1 e2 e3
    refine ⟨u',r',?_⟩
    rcases q with ⟨k,e⟩ | ⟨k,c,e,z⟩
    ·refine .inl ⟨k,?_⟩
     have:y ≠ x:=fun e=>hj (Jg hN e1 (e ▸ hi))
     simp [this,e]
    ·exact .inr ⟨k,c,e,z.sameBut hs (VN y c e)⟩
  ·obtain ⟨w',z⟩:=I.cell y c e
   exact ⟨w',z.sameBut hs (VN y c e)⟩
  ·obtain ⟨e,n,ne,nf,d⟩:=I.pin p hp
   exact ⟨(hs.2 p.1 ne).trans e,n,ne,nf,d⟩
 ·have hfn:X.fn x=true:=by
   rcases hf with z | z
   ·exact z
   ·rw [z] at hk; cases hk
  obtain ⟨c,hc⟩:=I.ok.has x (.inl hk)
  obtain ⟨w',z⟩:=I.cell x c hc
  refine wpAny_storeName_cell I.ok.kind hk hc z (fun h' hc' hs=>?_)
  obtain ⟨oc,hoc,hocd⟩:=id z
  refine h { s with heap:=h' } ⟨I.ok,I.os,I.bare,⟨fun b o e n hb hx=>?_,fun b o e n hb hx=>?_,I.base.free,fun b o e hx=>?_,I.base.tups,I.base.frzs,I.base.tbls⟩,⟨m,hn.sameBut hs (Ne.symm (VN x c hc)),fun j y v' e1 e2 e3=>?_⟩,fun y c' e=>?_,I.free,I.freeC,fun p hp=>?_,tracked ⟨oc,hoc,I.freeC x c hc⟩ hs,by simpa using I.len⟩ ⟨c,hs,.inr hc⟩
  ·exact (hs.2 b (Nat.ne_of_lt (Nat.lt_of_lt_of_le (Heap.lt_size e) (I.ok.cab x c hfn hc)))).trans (I.base.keep b o e n hb hx)
  ·obtain ⟨sl,e1⟩:=I.base.slot b o e n hb hx
   exact ⟨sl,(hs.2 b (Nat.ne_of_lt (Nat.lt_of_lt_of_le (Heap.lt_size e) (I.ok.cab x c hfn hc)))).trans e1⟩
  ·obtain ⟨o',e1⟩:=I.base.there b o e hx
   exact ⟨o',(hs.2 b (Nat.ne_of_lt (Nat.lt_of_lt_of_le (Heap.lt_size e) (I.ok.cab x c hfn hc)))).trans e1⟩
  ·by_cases hj:j=i
   ·subst hj
    rw [hi] at e1; cases e1
    rw [List.getElem?_set_self hiσ] at e2
    cases e2
    exact ⟨u,r,.inr ⟨.inl hk,c,hc,hc'⟩⟩
   ·rw [List.getElem?_set_ne (Ne.symm hj)] at e2
    obtain ⟨u',r',q⟩:=hl j y v' e1 e2 e3
    refine ⟨u',r',?_⟩
    rcases q with q | ⟨k,c',e,z'⟩
    ·exact .inl q
    ·refine .inr ⟨k,c',e,z'.sameBut hs ?_⟩
     rintro rfl
     exact hj (Jg hN e1 (I.ok.inj _ _ _ e hc ▸ hi))
  ·by_cases hcc:c'=c
   ·subst hcc; exact ⟨_,hc'⟩
   ·obtain ⟨w2,z2⟩:=I.cell y c' e
    exact ⟨w2,z2.sameBut hs hcc⟩
  ·obtain ⟨e,n,ne,nf,d⟩:=I.pin p hp
   refine ⟨(hs.2 p.1 ?_).trans e,n,ne,nf,d⟩
   intro q
   rw [q,hoc] at e
   have q':oc=p.2:=Option.some.inj e
   exact d w' (by rw [← q']; exact hocd)
theorem Ig {M:Model} {A:Around} {E:Value->Shared->Prop} {i:Nat} {x:Str} {v:V} {u:Value} {Q:Unit->Shared->Prop} (I:Inv X pins σ H s) (hN:X.N.Nodup) (hi:X.N[i]? = some x) (hx:Loc X.env.scope x) (r:RelV v u)
  (h:∀ s',Inv X pins (σ.set i (some v)) H s'->Q () s') (hf:X.fn x=true \/ X.env.scope.names.lookup x=some .local:=by first | exact .inl rfl | exact .inr rfl | assumption):wpAny M A (storeName X.env x u) Q E s :=
 Iv I hN hi hx r (fun s' I' _=>h s' I') hf
theorem Inv.call' {s':Shared} {ch:List Addr} (I:Inv X pins σ H s) (ho:s'.os=s.os) (u:Un (frs X.stack) ch H H' s.heap s'.heap) (hok:Ef X.prog X.w H' s'.heap) (hg:AllBare s'.gens)
  (hch:∀ b∈ch,(b∈X.ex \/ X.s₀.heap.objs.size<=b)/\b ≠ X.env.locals/\(∀ x c,X.env.cells.lookup x=some c->c ≠ b)/\∀ p∈X.pn++pins,p.1 ≠ b):Inv X pins σ H' s':=by
 obtain ⟨h',g',d',t',o'⟩:=s'
 have e:o'=s.os:=ho
 subst e
 exact I.call (g':=g') (t':=t') (d':=d') u hok hg hch
end
noncomputable abbrev XK:=Value->Option Addr->Hp->Prop
noncomputable abbrev St:=List (Option V)
noncomputable abbrev VK:=V->Hp->Prop
noncomputable abbrev TE:=St->Hp->VK->Prop
noncomputable abbrev TT:=St->Hp->(Bool->Hp->Prop)->Prop
noncomputable abbrev TA:=St->Hp->(List V->Hp->Prop)->Prop
structure Ends where
 nx:St->Hp->Prop
 rt:VK
 bk:St->Hp->Prop:=fun _ _=>False
 ct:St->Hp->Prop:=fun _ _=>False
noncomputable abbrev TS:=Ends->St->Hp->Prop
noncomputable def EP (X:Cx) (pins:List (Addr × Obj)) (σ:St) (Q:VK) (u:Value) (s':Shared):Prop:=∃ v H',Inv X pins σ H' s'/\RelV v u/\Q v H'
noncomputable def TP (X:Cx) (pins:List (Addr × Obj)) (σ:St) (Q:Bool->Hp->Prop) (b:Bool) (s':Shared):Prop:=∃ H',Inv X pins σ H' s'/\Q b H'
noncomputable def AP (X:Cx) (pins:List (Addr × Obj)) (σ:St) (Q:List V->Hp->Prop) (us:List Value) (s':Shared):Prop:=∃ vs H',Inv X pins σ H' s'/\Vals vs us/\Q vs H'
noncomputable def SP (X:Cx) (pins:List (Addr × Obj)) (D:Ends) (f:Flow) (s':Shared):Prop :=
 match f with
 | .next=>∃ σ' H',Inv X pins σ' H' s'/\D.nx σ' H'
 | .brk=>∃ σ' H',Inv X pins σ' H' s'/\D.bk σ' H'
 | .cont=>∃ σ' H',Inv X pins σ' H' s'/\D.ct σ' H'
 | .ret u=>∃ v σ' H',Inv X pins σ' H' s'/\RelV v u/\D.rt v H'
noncomputable def PE (X:Cx) (e:Expr) (t:TE):Prop :=
 ∀ (pins:List (Addr × Obj)) (s:Shared) (σ:St) (H:Hp) (Q:VK),Inv X pins σ H s->t σ H Q->wpAny (model X.prog X.w) X.A (eval e X.env) (EP X pins σ Q) X.xe s
noncomputable def PT (X:Cx) (e:Expr) (t:TT):Prop :=
 ∀ (pins:List (Addr × Obj)) (s:Shared) (σ:St) (H:Hp) (Q:Bool->Hp->Prop),Inv X pins σ H s->t σ H Q->wpAny (model X.prog X.w) X.A (isTrue e X.env (eval e X.env)) (TP X pins σ Q) X.xe s
noncomputable def PW (X:Cx) (e:Expr) (t:TT):Prop :=
 ∀ (whole:Sem Value) (pins:List (Addr × Obj)) (s:Shared) (σ:St) (H:Hp) (Q:Bool->Hp->Prop),Inv X pins σ H s->t σ H Q->wpAny (model X.prog X.w) X.A (isTrue e X.env whole) (TP X pins σ Q) X.xe s
theorem PW.pt {X:Cx} {e:Expr} {t:TT} (h:PW X e t):PT X e t:=h _
noncomputable def PA (X:Cx) (es:List Expr) (t:TA):Prop :=
 ∀ (pos:Pos) (pins:List (Addr × Obj)) (s:Shared) (σ:St) (H:Hp) (Q:List V->Hp->Prop),Inv X pins σ H s->t σ H Q->wpAny (model X.prog X.w) X.A (spliced (backTo pos (starEach es X.env))) (AP X pins σ Q) X.xe s
noncomputable def PS (X:Cx) (st:Stmt) (t:TS):Prop :=
 ∀ (pins:List (Addr × Obj)) (s:Shared) (σ:St) (H:Hp) (D:Ends),Inv X pins σ H s->t D σ H->wpAny (model X.prog X.w) X.A (exec st X.env) (SP X pins D) X.xe s
noncomputable def K9 (X:Cx) (st:List Stmt) (t:TS):Prop :=
 ∀ (pins:List (Addr × Obj)) (s:Shared) (σ:St) (H:Hp) (D:Ends),Inv X pins σ H s->t D σ H->wpAny (model X.prog X.w) X.A (execs st X.env) (SP X pins D) X.xe s
theorem Bx {α:Type} {t:Sem α} {Q Q':α->Shared->Prop} {M:Model} {A:Around} {E:Value->Shared->Prop} {s:Shared} (h:wpAny M A t Q E s) (hQ:∀ a s,Q a s->Q' a s):wpAny M A t Q' E s:=wpAny_mono h hQ fun _ _ x=>x
end L2
namespace L2
open PySem PySem.Spec PyProof.Rows
section
variable {X:Cx}
noncomputable def W7 (i:Nat):TE:=fun σ H Q=>∃ v,σ[i]? = some (some v)/\Q v H
noncomputable def tC (v:V):TE:=fun _ H Q=>Q v H
theorem Xl {i:Nat} {x:Str} {pos:Pos} (hN:X.N[i]? = some x) (hv:jX X.env.scope x) (hd:(x == ("__debug__" : Str))=false:=by decide) (hcd:(x == ("__classdict__" : Str))=false:=by decide):PE X (.Name x pos) (W7 i):=by
 intro pins s σ H Q I h
 obtain ⟨v,e,h⟩:=h
 obtain ⟨m,hn,hl⟩:=I.loc
 obtain ⟨u,r,l⟩:=hl i x v hN e hv
 have fin:EP X pins σ Q u s:=⟨v,H,I,r,h⟩
 rcases l with ⟨hk,hm⟩ | ⟨hk,c,hc,hcell⟩
 ·exact wpAny_Name (wpAny_loadName_local I.ok.kind hk hn hm fin) hd
 ·rcases hk with hk | hk
  ·exact wpAny_Name (wpAny_loadName_cell I.ok.kind hk hc hcell fin) hd
  ·exact wpAny_Name (wpAny_loadName_free I.ok.kind hk hc hcell fin hcd) hd
theorem Ac {i j pos}:PE X (.Constant (.int i) j pos) (tC (.int i)):=fun _ _ _ H _ I h=>wpAny_Constant_int ⟨.int i,H,I.tok _,⟨_,rfl⟩,h⟩
theorem JQ {b j pos}:PE X (.Constant (.bool b) j pos) (tC (.bl b)):=fun _ _ _ H _ I h=>Constant_bool ⟨.bl b,H,I,rfl,h⟩
theorem Gh {j pos}:PE X (.Constant .none j pos) (tC .non):=fun _ _ _ H _ I h=>Constant_none ⟨.non,H,I,rfl,h⟩
theorem BL {x j pos}:PE X (.Constant (.str x) j pos) (tC (.str x)):=fun _ _ _ H _ I h=>Calls.Constant_str ⟨.str x,H,I.tok _,⟨_,rfl⟩,h⟩
noncomputable def Gl (X:Cx) (x:Str):Prop:=X.env.kindOf x=some .globalImplicit
theorem Gx {E:Value->Shared->Prop} {pins:List (Addr × Obj)} {s:Shared} {σ:St} {H:Hp} {x:Str} {u:Value} {pos:Pos} {Q:Value->Shared->Prop} (I:Inv X pins σ H s) (hg:Gl X x) (hm:X.mg x=some u) (h:Q u s)
  (hd:(x == ("__debug__" : Str))=false:=by decide):wpAny (model X.prog X.w) X.A (eval (.Name x pos) X.env) Q E s :=
 Calls.Name_function_global I.ok.kind hg (Calls.loadGlobal_global (by rw [I.ok.glob]; exact I.mod.glob.keeps I.bk) hm h) hd
theorem HY {E:Value->Shared->Prop} {pins:List (Addr × Obj)} {s:Shared} {σ:St} {H:Hp} {x:Str} {u:Value} {pos:Pos} {Q:Value->Shared->Prop} (I:Inv X pins σ H s) (hg:Gl X x) (hm:X.mg x=none) (hv:bootBuiltins x=some u) (h:Q u s)
  (hn:x ≠ "__name__":=by decide) (hd:(x == ("__debug__" : Str))=false:=by decide):wpAny (model X.prog X.w) X.A (eval (.Name x pos) X.env) Q E s:=by
 obtain ⟨mb,h1,h2⟩:=I.mod.blt
 exact Calls.Name_function_global I.ok.kind hg (Calls.loadGlobal_builtin (by rw [I.ok.glob]; exact I.mod.glob.keeps I.bk) hm (by rw [I.ok.blt]; exact h1.keeps I.bk) ((h2 x hn).trans hv) h) hd
theorem Bs {x:Str} {v:V} {u:Value} {pos:Pos} (hg:Gl X x) (hm:X.mg x=some u) (r:RelV v u) (hd:(x == ("__debug__" : Str))=false:=by decide):PE X (.Name x pos) (tC v) :=
 fun _ _ _ H _ I h=>Gx I hg hm ⟨v,H,I,r,h⟩ hd
theorem Eb {x:Str} {v:V} {u:Value} {pos:Pos} (hg:Gl X x) (hm:X.mg x=none) (hv:bootBuiltins x=some u) (r:RelV v u) (hn:x ≠ "__name__":=by decide) (hd:(x == ("__debug__" : Str))=false:=by decide):PE X (.Name x pos) (tC v) :=
 fun _ _ _ H _ I h=>HY I hg hm hv ⟨v,H,I,r,h⟩ hn hd
variable {a b:Expr} {ta tb:TE} {pos:Pos}
noncomputable def PC (X:Cx) (op:CmpOp) (a b:Expr) (t:TE):Prop :=
 ∀ (pins:List (Addr × Obj)) (s:Shared) (σ:St) (H:Hp) (Q:VK),Inv X pins σ H s->t σ H Q ->
  wpAny (model X.prog X.w) X.A (eval a X.env) (fun v s₁=>wpAny (model X.prog X.w) X.A (eval b X.env) (fun u s₂=>wpAny (model X.prog X.w) X.A (compareOp op v u) (EP X pins σ Q) X.xe s₂) X.xe s₁) X.xe s
noncomputable def tB (t:TE):TT:=fun σ H Q=>t σ H fun x H1=>∃ c,x=.bl c/\Q c H1
theorem TQ {op:CmpOp} {t:TE} (h:PC X op a b t) (h1:behindInMarks op b=false:=by first | exact nobehind _ (by decide) (by decide) | rfl):PE X (.Compare a [op] [b] pos) t:=fun pins s σ H Q I hw=>wpAny_Compare1 (h pins s σ H Q I hw) h1
theorem Rj {op:CmpOp} {t:TE} (h:PC X op a b t) (h1:behindInMarks op b=false:=by first | exact nobehind _ (by decide) (by decide) | rfl):PT X (.Compare a [op] [b] pos) (tB t):=by
 intro pins s σ H Q I hw
 refine wpAny_isTrue_Compare1 (Bx (h pins s σ H _ I hw) fun v s1 h1=>Bx h1 fun u s2 h2=>Bx h2 fun c s3 ⟨x,H1,I1,r1,q1⟩=>?_) h1
 obtain ⟨d,rfl,q⟩:=q1
 cases r1
 exact wpAny_truthy_bool ⟨H1,I1,q⟩
theorem Dj {e:Expr} {t:TE} (h:PE X e t) (he:∀ whole,isTrue e X.env whole=(do let v ← whole; standAt e.pos; holding [v] (truthy v)):=by intro _; rfl):PT X e (tB t):=by
 intro pins s σ H Q I hw
 refine isTrue_plain (Bx (h pins s σ H _ I hw) fun v s1 ⟨x,H1,I1,r1,q1⟩=>?_) (he _)
 obtain ⟨d,rfl,q⟩:=q1
 cases r1
 exact wpAny_truthy_bool ⟨H1,I1,q⟩
variable {tA tB':TT} {rest:List Expr}
noncomputable def jM (t u:TT):TT:=fun σ H Q=>t σ H fun c H1=>if c=true then u σ H1 Q else Q false H1
noncomputable def nQ (t u:TT):TT:=fun σ H Q=>t σ H fun c H1=>if c=true then Q true H1 else u σ H1 Q
noncomputable def jx (t:TT):TT:=fun σ H Q=>t σ H fun c H1=>Q (!c) H1
theorem Gy (ha:PT X a tA):PW X (.BoolOp .And [a] pos) tA:=by
 intro wh pins s σ H Q I h
 refine isTrue_and (Bx (ha pins s σ H Q I h) fun c s1 e=>?_)
 cases c with
 | true=>exact isTrue_and_nil e
 | false=>exact e
theorem GX (ha:PT X a tA):PW X (.BoolOp .Or [a] pos) tA:=by
 intro wh pins s σ H Q I h
 refine isTrue_or (Bx (ha pins s σ H Q I h) fun c s1 e=>?_)
 cases c with
 | false=>exact isTrue_or_nil e
 | true=>exact e
theorem JK (ha:PT X a tA) (hb:PW X (.BoolOp .And (b::rest) pos) tB'):PW X (.BoolOp .And (a::b::rest) pos) (jM tA tB'):=by
 intro wh pins s σ H Q I h
 refine isTrue_and (Bx (ha pins s σ H _ I h) fun c s1 hq0=>?_)
 obtain ⟨H1,I1,q1⟩:=hq0
 cases c with
 | true=>exact hb wh pins s1 σ H1 Q I1 q1
 | false=>exact ⟨H1,I1,q1⟩
theorem Ib (ha:PT X a tA) (hb:PW X (.BoolOp .Or (b::rest) pos) tB'):PW X (.BoolOp .Or (a::b::rest) pos) (nQ tA tB'):=by
 intro wh pins s σ H Q I h
 refine isTrue_or (Bx (ha pins s σ H _ I h) fun c s1 hq0=>?_)
 obtain ⟨H1,I1,q1⟩:=hq0
 cases c with
 | true=>exact ⟨H1,I1,q1⟩
 | false=>exact hb wh pins s1 σ H1 Q I1 q1
theorem Dy (ha:PT X a tA):PT X (.UnaryOp .Not a pos) (jx tA):=by
 intro pins s σ H Q I h
 exact isTrue_not (ha pins s σ H (fun c H1=>Q (!c) H1) I h)
noncomputable def ZV (ta tb:TE):TE:=fun σ H Q=>ta σ H fun x H1=>∃ c,x=.bl c/\if c=true then tb σ H1 Q else Q (.bl false) H1
noncomputable def jF (ta tb:TE):TE:=fun σ H Q=>ta σ H fun x H1=>∃ c,x=.bl c/\if c=true then Q (.bl true) H1 else tb σ H1 Q
noncomputable def Zq (ta:TE):TE:=fun σ H Q=>ta σ H fun x H1=>∃ c,x=.bl c/\Q (.bl (!c)) H1
theorem Dd {op} {t:TE} (h:PE X a t):PE X (.BoolOp op [a] pos) t:=fun pins s σ H Q I hw=>BoolOp_one (h pins s σ H Q I hw)
theorem Dh (ha:PE X a ta) (hb:PE X (.BoolOp .And (b::rest) pos) tb):PE X (.BoolOp .And (a::b::rest) pos) (ZV ta tb):=by
 intro pins s σ H Q I h
 refine BoolOp_and (Bx (ha pins s σ H _ I h) fun v s1 hq0=>?_)
 obtain ⟨x,H1,I1,r1,q1⟩:=hq0
 obtain ⟨c,rfl,q1⟩:=q1
 cases r1
 refine wpAny_truthy_bool ?_
 cases c with
 | true=>exact hb pins s1 σ H1 Q I1 q1
 | false=>exact ⟨.bl false,H1,I1,rfl,q1⟩
theorem bC (ha:PE X a ta) (hb:PE X (.BoolOp .Or (b::rest) pos) tb):PE X (.BoolOp .Or (a::b::rest) pos) (jF ta tb):=by
 intro pins s σ H Q I h
 refine BoolOp_or (Bx (ha pins s σ H _ I h) fun v s1 hq0=>?_)
 obtain ⟨x,H1,I1,r1,q1⟩:=hq0
 obtain ⟨c,rfl,q1⟩:=q1
 cases r1
 refine wpAny_truthy_bool ?_
 cases c with
 | false=>exact hb pins s1 σ H1 Q I1 q1
 | true=>exact ⟨.bl true,H1,I1,rfl,q1⟩
theorem Ot (ha:PE X a ta):PE X (.UnaryOp .Not a pos) (Zq ta):=by
 intro pins s σ H Q I h
 refine UnaryOp_ (Bx (ha pins s σ H _ I h) fun v s1 hq0=>?_)
 obtain ⟨x,H1,I1,r1,q1⟩:=hq0
 obtain ⟨c,rfl,q1⟩:=q1
 cases r1
 exact not_of (wpAny_truthy_bool ⟨.bl (!c),H1,I1,rfl,q1⟩)
noncomputable def my (t:TT) (ta tb:TE):TE:=fun σ H Q=>t σ H fun c H1=>if c=true then ta σ H1 Q else tb σ H1 Q
theorem Mq {c:Expr} (hc:PT X c tA) (ha:PE X a ta) (hb:PE X b tb):PE X (.IfExp c a b pos) (my tA ta tb):=by
 intro pins s σ H Q I h
 refine wpAny_IfExp (Bx (hc pins s σ H _ I h) fun d s1 hq0=>?_)
 obtain ⟨H1,I1,q1⟩:=hq0
 cases d with
 | true=>exact ha pins s1 σ H1 Q I1 q1
 | false=>exact hb pins s1 σ H1 Q I1 q1
end
end L2
namespace L2
open PySem PySem.Spec PyProof.Rows
noncomputable def Cw (K:PySem.W.Frag) (H:Hp) (a:Addr) (xs:List V):Prop :=
 Rd H a (.lst xs) \/
  ∃ (o:Obj) (its:Array Value) (n:Nat),K.lookup a=some o/\o.cls=.type "list" /\ o.dict=none/\o.data=.seq its n/\its.size<=sizeLine/\Vals xs its.toList
noncomputable def Ft (K:PySem.W.Frag) (H:Hp) (a:Addr) (xs:List V):Prop :=
 Rd H a (.tup xs) \/
  ∃ (o:Obj) (its:Array Value) (n:Nat),K.lookup a=some o/\o.cls=.type "tuple" /\ o.data=.seq its n/\its.size<=sizeLine/\Vals xs its.toList
noncomputable def jV:Value->Option V
 | .none=>some .non
 | .bool b=>some (.bl b)
 | .int i _=>some (.int i)
 | .str x _=>some (.str x)
 | .bytes b _=>some (.byt b)
 | .float b _=>some (.flt b)
 | .ref a=>some (.ref a)
 | .type n=>some (.ty n)
 | _=>none
theorem RelV.abs {x:V} {u:Value} (r:RelV x u):jV u=some x:=by
 cases x with
 | non=>cases r; rfl
 | bl _=>cases r; rfl
 | int _=>obtain ⟨t,rfl⟩:=r; rfl
 | str _=>obtain ⟨t,rfl⟩:=r; rfl
 | byt _=>obtain ⟨t,rfl⟩:=r; rfl
 | flt _=>obtain ⟨t,rfl⟩:=r; rfl
 | ref _=>cases r; rfl
 | ty _=>cases r; rfl
theorem RelV.inj {x y:V} {u:Value} (r:RelV x u) (q:RelV y u):x=y:=Option.some.inj (r.abs.symm.trans q.abs)
theorem Vals.inj:∀ {xs ys:List V} {us:List Value},Vals xs us->Vals ys us->xs=ys
 | _,_,_,.nil,.nil=>rfl
 | _,_,_,.cons r t,.cons r' t'=>by rw [r.inj r',Vals.inj t t']
section
variable {X:Cx} {pins:List (Addr × Obj)} {σ:St} {H:Hp} {s:Shared} {a:Addr} {xs ys:List V}
theorem Inv.list (I:Inv X pins σ H s) (h:Cw X.K H a xs):∃ its:List Value,Vals xs its/\PlainL s.heap a its.toArray/\xs.length<=sizeLine:=by
 rcases h with h | ⟨o,its,n,hk,hc,hd,hs,hz,r⟩
 ·obtain ⟨z,its,n,r,e⟩:=h.ok I.hok
  exact ⟨its,r,⟨_,n,e,rfl,rfl,rfl⟩,z⟩
 ·refine ⟨its.toList,r,⟨o,n,I.GD a o hk,hc,hd,by simpa using hs⟩,?_⟩
  have e:=r.length
  simp only [Array.length_toList] at e
  omega
theorem Inv.tuple (I:Inv X pins σ H s) (h:Ft X.K H a xs):∃ its:List Value,Vals xs its/\IsTup s.heap a its.toArray/\xs.length<=sizeLine:=by
 rcases h with h | ⟨o,its,n,hk,hc,hs,hz,r⟩
 ·obtain ⟨z,its,r,p⟩:=h.ok I.hok
  exact ⟨its,r,p,z⟩
 ·refine ⟨its.toList,r,⟨o,I.GD a o hk,hc,n,by simpa using hs⟩,?_⟩
  have e:=r.length
  simp only [Array.length_toList] at e
  omega
theorem Inv.Ms (I:Inv X pins σ H s) (h:Cw X.K H a xs) (h':Cw X.K H a ys):xs=ys:=by
 obtain ⟨its,r,⟨o,n,e,_,_,d⟩,_⟩:=I.list h
 obtain ⟨its',r',⟨o',n',e',_,_,d'⟩,_⟩:=I.list h'
 rw [e] at e'; cases e'
 rw [d] at d'
 injection d' with d1 _
 have:its=its':=by simpa using congrArg Array.toList d1
 subst this
 exact r.inj r'
theorem Inv.Ir (I:Inv X pins σ H s) (h:Ft X.K H a xs) (h':Ft X.K H a ys):xs=ys:=by
 obtain ⟨its,r,⟨o,e,_,n,d⟩,_⟩:=I.tuple h
 obtain ⟨its',r',⟨o',e',_,n',d'⟩,_⟩:=I.tuple h'
 rw [e] at e'; cases e'
 rw [d] at d'
 injection d' with d1 _
 have:its=its':=by simpa using congrArg Array.toList d1
 subst this
 exact r.inj r'
end
noncomputable abbrev Cx.wish (X:Cx) (E:Value->Shared->Prop):Cx:={ X with xe:=E }
noncomputable abbrev Cx.Yk (X:Cx):Cx:=X.wish fun _ _=>False
theorem Cx.Ok.wish {X:Cx} (ok:X.Ok) (E:Value->Shared->Prop):(X.wish E).Ok :=
 ⟨ok.mod,ok.kind,ok.glob,ok.blt,ok.above,ok.inj,ok.has,ok.cab,ok.hd,ok.frames,ok.stk,ok.exf,ok.bs,ok.bsz,ok.noex,ok.exfs,ok.Hc,ok.frf⟩
theorem Cx.Ok.GR {X:Cx} {E:Value->Shared->Prop} (ok:(X.wish E).Ok):X.Ok :=
 ⟨ok.mod,ok.kind,ok.glob,ok.blt,ok.above,ok.inj,ok.has,ok.cab,ok.hd,ok.frames,ok.stk,ok.exf,ok.bs,ok.bsz,ok.noex,ok.exfs,ok.Hc,ok.frf⟩
section
variable {X:Cx} {pins:List (Addr × Obj)} {σ:St} {H:Hp} {s:Shared} {E:Value->Shared->Prop}
theorem Inv.wish (I:Inv X pins σ H s) (E:Value->Shared->Prop):Inv (X.wish E) pins σ H s:=⟨I.ok.wish E,I.os,I.bare,I.base,I.loc,I.cell,I.free,I.freeC,I.pin,I.hok,I.len⟩
theorem Inv.GR (I:Inv (X.wish E) pins σ H s):Inv X pins σ H s:=⟨I.ok.GR,I.os,I.bare,I.base,I.loc,I.cell,I.free,I.freeC,I.pin,I.hok,I.len⟩
theorem SP.GR {D:Ends} {f:Flow} {s':Shared} (h:SP (X.wish E) pins D f s'):SP X pins D f s':=by
 cases f with
 | next=>obtain ⟨σ',H',I,q⟩:=h; exact ⟨σ',H',I.GR,q⟩
 | brk=>obtain ⟨σ',H',I,q⟩:=h; exact ⟨σ',H',I.GR,q⟩
 | cont=>obtain ⟨σ',H',I,q⟩:=h; exact ⟨σ',H',I.GR,q⟩
 | ret u=>obtain ⟨v,σ',H',I,r,q⟩:=h; exact ⟨v,σ',H',I.GR,r,q⟩
theorem K9.Yk {st:List Stmt} {t:TS} (h:K9 X.Yk st t):K9 X st t:=fun pins s σ H D I hw =>
 wpAny_mono (h pins s σ H D (I.wish _) hw) (fun _ _ q=>q.GR) fun _ _ z=>False.elim z
end
section
variable {X:Cx} {st:Stmt} {rest:List Stmt} {t u:TS} {e:Expr} {te:TE} {pos:Pos}
noncomputable def Wr:TS:=fun D σ H=>D.nx σ H
noncomputable def Yb (t u:TS):TS:=fun D σ H=>t { D with nx:=u D } σ H
theorem BZ:K9 X [] Wr:=fun _ _ σ H _ I h=>wpAny_execs_nil ⟨σ,H,I,h⟩
theorem Ad (h1:PS X st t) (h2:K9 X rest u):K9 X (st::rest) (Yb t u):=by
 intro pins s σ H D I h
 refine wpAny_execs_cons (Bx (h1 pins s σ H { D with nx:=u D } I h) fun f s1 q=>?_)
 cases f with
 | next =>
  obtain ⟨σ',H',I',q⟩:=q
  exact h2 pins s1 σ' H' D I' q
 | ret v=>exact q
 | brk=>exact q
 | cont=>exact q
theorem Ai (h1:PS X st t):K9 X [st] t:=by
 intro pins s σ H D I h
 refine wpAny_execs_cons (Bx (h1 pins s σ H D I h) fun f s1 q=>?_)
 cases f with
 | next=>exact wpAny_execs_nil q
 | ret v=>exact q
 | brk=>exact q
 | cont=>exact q
noncomputable def W2:TS:=fun D σ H=>D.bk σ H
theorem Rk:PS X (.Break pos) W2:=fun _ _ σ H _ I h=>wpAny_Break ⟨σ,H,I,h⟩
theorem Inv.quiet {pins:List (Addr × Obj)} {σ:St} {H:Hp} {s:Shared} (I:Inv X pins σ H s):interactive X.env=false:=by simp [interactive,I.ok.kind]
noncomputable def Yt (te:TE):TS:=fun D σ H=>te σ H fun _ H1=>D.nx σ H1
theorem CG (he:PE X e te) (hs:swapsWith e none pos.line X.env=pure false:=by rfl):PS X (.Expr e pos) (Yt te):=by
 intro pins s σ H D I h
 exact wpAny_Expr_any (Bx (he pins s σ H _ I h) fun v s1 ⟨x,H1,I1,r1,q1⟩=>⟨σ,H1,I1,q1⟩) I.quiet hs
noncomputable def il (te:TE):TS:=fun D σ H=>te σ H D.rt
theorem Aw (he:PE X e te):PS X (.Return (some e) pos) (il te):=by
 intro pins s σ H D I h
 exact wpAny_Return_some (Bx (he pins s σ H _ I h) fun v s1 ⟨x,H1,I1,r1,q1⟩=>⟨x,σ,H1,I1,r1,q1⟩)
noncomputable def Vu (c:TT) (t u:TS):TS:=fun D σ H=>c σ H fun b H1=>if b=true then t D σ H1 else u D σ H1
theorem Bg {c:Expr} {a b:List Stmt} {tc:TT} (hc:PT X c tc) (ha:K9 X a t) (hb:K9 X b u):PS X (.If c a b pos) (Vu tc t u):=by
 intro pins s σ H D I h
 refine wpAny_If (Bx (hc pins s σ H _ I h) fun d s1 hq0=>?_)
 obtain ⟨H1,I1,q1⟩:=hq0
 cases d with
 | true=>exact ha pins s1 σ H1 D I1 q1
 | false=>exact hb pins s1 σ H1 D I1 q1
noncomputable def X7:TS:=fun _ _ _=>False
theorem Hv:PS X st X7:=fun _ _ _ _ _ _ h=>h.elim
end
noncomputable abbrev TG:=V->St->Hp->(St->Hp->Prop)->Prop
noncomputable abbrev Xx:=List V->St->Hp->(St->Hp->Prop)->Prop
noncomputable def PG (X:Cx) (target:Expr) (t:TG):Prop :=
 ∀ (pins:List (Addr × Obj)) (s:Shared) (σ:St) (H:Hp) (v:V) (u:Value) (Q:St->Hp->Prop),Inv X pins σ H s->RelV v u->t v σ H Q ->
  wpAny (model X.prog X.w) X.A (assign target X.env u) (fun _ s'=>∃ σ' H',Inv X pins σ' H' s'/\Q σ' H') X.xe s
noncomputable def fP (X:Cx) (ts:List Expr) (t:Xx):Prop :=
 ∀ (pins:List (Addr × Obj)) (s:Shared) (σ:St) (H:Hp) (vs:List V) (us:List Value) (Q:St->Hp->Prop),Inv X pins σ H s->Vals vs us->t vs σ H Q ->
  wpAny (model X.prog X.w) X.A (assignInOrder ((assignEach ts X.env).map (·.2)) us) (fun _ s'=>∃ σ' H',Inv X pins σ' H' s'/\Q σ' H') X.xe s
noncomputable abbrev X6:=V->V->V->Hp->(Hp->Prop)->Prop
noncomputable def ZK (X:Cx) (t:X6):Prop :=
 ∀ (pins:List (Addr × Obj)) (s:Shared) (σ:St) (H:Hp) (o i v:V) (ov iv u:Value) (Q:Hp->Prop),Inv X pins σ H s->RelV o ov->RelV i iv->RelV v u->t o i v H Q ->
  wpAny (model X.prog X.w) X.A (setItem ov iv u) (fun _ s'=>∃ H',Inv X pins σ H' s'/\Q H') X.xe s
section
variable {X:Cx} {pos:Pos}
noncomputable def Eo (i:Nat):TG:=fun v σ H Q=>Q (σ.set i (some v)) H
theorem B_ {i:Nat} {x:Str} (hN:X.N.Nodup) (hi:X.N[i]? = some x) (hx:Loc X.env.scope x) (hf:X.fn x=true \/ X.env.scope.names.lookup x=some .local:=by first | exact .inl rfl | exact .inr rfl | assumption):PG X (.Name x pos) (Eo i):=by
 intro pins s σ H v u Q I r h
 exact wpAny_assign_Name (Ig I hN hi hx r (fun s' I'=>⟨_,H,I',h⟩) hf)
noncomputable def Vv:Xx:=fun vs σ H Q=>vs=[]/\Q σ H
noncomputable def Jm (t:TG) (u:Xx):Xx:=fun vs σ H Q=>∃ v r,vs=v::r/\t v σ H fun σ' H'=>u r σ' H' Q
theorem H_:fP X [] Vv:=by
 intro pins s σ H vs us Q I r h
 obtain ⟨e,h⟩:=h
 subst e
 cases r
 exact assignInOrder_nil ⟨σ,H,I,h⟩
theorem De {e:Expr} {es:List Expr} {t:TG} {u:Xx} (h1:PG X e t) (h2:fP X es u)
  (hs:(assignEach (e::es) X.env).map (·.2)=assign e X.env::(assignEach es X.env).map (·.2):=by rfl):fP X (e::es) (Jm t u):=by
 intro pins s σ H vs us Q I r h
 obtain ⟨v,vr,e1,h⟩:=h
 subst e1
 cases r with
 | cons r rr =>
  rw [hs]
  refine assignInOrder_cons (Bx (h1 pins s σ H _ _ _ I r h) fun _ s1 hq0=>?_)
  obtain ⟨σ1,H1,I1,q1⟩:=hq0
  exact h2 pins s1 σ1 H1 _ _ Q I1 rr q1
noncomputable def VG (K:PySem.W.Frag) (n:Nat) (t:Xx):TG:=fun v σ H Q=>∃ a xs,v=.ref a/\Ft K H a xs/\xs.length=n/\t xs σ H Q
theorem Jf {es:List Expr} {k:Nat} {t:Xx} {n:Nat} (hc:X.calm=true) (h:fP X es t)
  (hn:(assignEach es X.env).length=n:=by rfl) (hst:(assignEach es X.env).findIdx? (·.1)=none:=by rfl):PG X (.Tuple es k pos) (VG X.K n t):=by
 intro pins s σ H v u Q I r hw
 obtain ⟨a,xs,e1,hq,hl,hw⟩:=hw
 subst e1
 cases r
 obtain ⟨its,rv,ht,hz⟩:=I.tuple hq
 refine assign_Tuple_tuple (I.ok.hd hc) ht (by simp [hn,← hl,rv.length]) hst fun h' hx=>?_
 have I1:Inv X pins σ H { s with heap:=h' }:=I.kept (t':=s.toks) fun b o e=>hx b o (Nat.ne_of_lt (Heap.lt_size e)) e
 exact h pins _ σ H xs _ Q I1 (by simpa using rv) hw
noncomputable def jw (to ti:TE) (t:X6):TG:=fun v σ H Q=>to σ H fun o H1=>ti σ H1 fun i H2=>t o i v H2 fun H3=>Q σ H3
theorem Ju {o i:Expr} {to ti:TE} {t:X6} (ho:PE X o to) (hi:PE X i ti) (hs:ZK X t)
  (ha:∀ v,assign (.Subscript o i pos) X.env v=(do
   let ov ← holding [v] (eval o X.env)
   let iv ← holding [v,ov] (eval i X.env)
   standAt pos
   holding [v,ov,iv] (setItem ov iv v)
   release [v,ov,iv] []):=by intro _; rfl):PG X (.Subscript o i pos) (jw to ti t):=by
 intro pins s σ H v u Q I r h
 rw [ha]
 refine wpAny_bind (wpAny_holding (Bx (ho pins s σ H _ I h) fun ov s1 hq0=>?_))
 obtain ⟨x,H1,I1,r1,q1⟩:=hq0
 refine wpAny_bind (wpAny_holding (Bx (hi pins s1 σ H1 _ I1 q1) fun iv s2 hq0=>?_))
 obtain ⟨y,H2,I2,r2,q2⟩:=hq0
 refine wpAny_bind (wpAny_standAt (wpAny_bind (wpAny_holding (Bx (hs pins s2 σ H2 x y v ov iv u _ I2 r1 r2 r q2) fun _ s3 hq0=>?_))))
 obtain ⟨H3,I3,q3⟩:=hq0
 exact wpAny_release ⟨σ,H3,I3,q3⟩
noncomputable def TX (te:TE) (g:TG):TS:=fun D σ H=>te σ H fun x H1=>g x σ H1 D.nx
theorem J4 {tg e:Expr} {te:TE} {g:TG} (he:PE X e te) (hg:PG X tg g) (hs:swapsWithSole [tg] e pos.line X.env=pure false:=by rfl) (hw:swappedStores [tg] e X.env=pure none:=by rfl)
  (h1:(assignEach [tg] X.env).map (·.2)=[assign tg X.env]:=by rfl):PS X (.Assign [tg] e pos) (TX te g):=by
 intro pins s σ H D I h
 refine wpAny_Assign_stores (Bx (he pins s σ H _ I h) fun v s1 ⟨x,H1,I1,r1,q1⟩=>?_) hs hw
 rw [h1]
 exact Bx (hg pins s1 σ H1 x v _ I1 r1 q1) fun _ s2 q=>q
theorem Cr {i:Nat} {x:Str} {e:Expr} {te:TE} {pos':Pos} (hN:X.N.Nodup) (hi:X.N[i]? = some x) (hx:Loc X.env.scope x) (he:PE X e te) (hs:swapsWith e (some (.Name x pos')) pos.line X.env=pure false:=by rfl) (hf:X.fn x=true \/ X.env.scope.names.lookup x=some .local:=by first | exact .inl rfl | exact .inr rfl | assumption) :
  PS X (.Assign [.Name x pos'] e pos) (TX te (Eo i)):=by
 intro pins s σ H D I h
 refine wpAny_Assign_Name (Bx (he pins s σ H _ I h) fun v s1 ⟨y,H1,I1,r1,q1⟩=>?_) hs
 exact Ig I1 hN hi hx r1 (fun s2 I2=>⟨_,H1,I2,q1⟩) hf
end
section
variable {X:Cx} {pos:Pos}
noncomputable def Lx (c:TT) (tb:TS):TS:=fun D σ H=>∃ W:Nat->St->Hp->Prop,(∃ m,W m σ H)/\∀ m σ H,W m σ H ->
 c σ H fun b H1=>if b=true then ∃ N:St->Hp->Prop,(∀ σ' H',N σ' H'->∃ m',m'<m/\W m' σ' H')/\tb { D with nx:=N,ct:=N,bk:=D.nx } σ H1 else D.nx σ H1
theorem TV {c:Expr} {body:List Stmt} {tc:TT} {tb:TS} (hp:PassesOwn (model X.prog X.w) X.A X.env X.xe) (hc:PT X c tc) (hb:K9 X body tb):PS X (.While c body [] pos) (Lx tc tb):=by
 intro pins s σ H D I h
 obtain ⟨W,⟨m0,w0⟩,turn⟩:=h
 refine wpAny_While (codeAny_whileLoop (fun n s'=>∃ σ' H',Inv X pins σ' H' s'/\W n σ' H') ?_ m0 ⟨σ,H,I,w0⟩)
 rintro n s1 ⟨σ1,H1,I1,w1⟩
 refine wpAny_passesOwn hp (Bx (hc pins s1 σ1 H1 _ I1 (turn n σ1 H1 w1)) fun b s2 hq0=>?_)
 obtain ⟨H2,I2,q2⟩:=hq0
 cases b with
 | true =>
  obtain ⟨N,hN,q2⟩:=q2
  rw [if_pos rfl]
  refine wpAny_passesOwn hp (Bx (hb pins s2 σ1 H2 _ I2 q2) fun f s3 q3=>?_)
  cases f with
  | next =>
   obtain ⟨σ3,H3,I3,n3⟩:=q3
   obtain ⟨m',hm,w3⟩:=hN σ3 H3 n3
   exact ⟨m',hm,σ3,H3,I3,w3⟩
  | cont =>
   obtain ⟨σ3,H3,I3,n3⟩:=q3
   obtain ⟨m',hm,w3⟩:=hN σ3 H3 n3
   exact ⟨m',hm,σ3,H3,I3,w3⟩
  | brk=>exact q3
  | ret v=>exact q3
 | false =>
  rw [if_neg Bool.false_ne_true]
  exact wpAny_execs_nil ⟨σ1,H2,I2,q2⟩
end
structure It where
 go:Nat->Hp->Prop
 yld:Nat->Hp->V->Hp->Prop
 stop:Nat->Hp->Prop
noncomputable def Fy (X:Cx) (pins:List (Addr × Obj)) (H:Hp) (b:Addr):Prop :=
 H b=none/\b ≠ X.env.locals/\b ∉ X.fs/\(b∈X.ex \/ X.s₀.heap.objs.size<=b)/\(∀ x c,X.env.cells.lookup x=some c->c ≠ b)/\∀ p∈X.pn++pins,p.1 ≠ b
theorem Inv.Lf {X:Cx} {pins:List (Addr × Obj)} {σ:St} {H H':Hp} {s:Shared} {b:Addr} (I:Inv X pins σ H s) (hb:s.heap.objs.size<=b) (hn:H' b=none):Fy X pins H' b:=by
 refine ⟨hn,Nat.ne_of_gt (Nat.lt_of_lt_of_le I.lt hb),I.gr hb,.inr (Nat.le_trans I.sz hb),fun x c e z=>?_,fun p hp z=>?_⟩
 ·obtain ⟨v,q⟩:=I.cell x c e
  exact absurd (Nat.lt_of_lt_of_le q.lt (by rw [z]; exact hb)) (Nat.lt_irrefl _)
 ·exact absurd (Nat.lt_of_lt_of_le (Heap.lt_size (I.pin p hp).1) (by rw [z]; exact hb)) (Nat.lt_irrefl _)
structure Turn (P:Program) (w:World) (K:PySem.W.Frag) (tg:Expr) (J:It) (fp:List Addr) (it:Addr) (tn:Nat->Heap->Prop):Prop where
 mem:it∈fp
 obj:∀ i h,tn i h->∀ b∈fp,∃ o,h.get? b=some o/\∀ v,o.data ≠ .cell v
 keep:∀ i h h',tn i h->(∀ b∈fp,∀ o,h.get? b=some o->h'.get? b=some o)->tn i h'
 item:∀ (X:Cx),X.prog=P->X.w=w->X.K=K->X.calm=true->∀ (i:Nat) (pins:List (Addr × Obj)) (s:Shared) (σ:St) (H:Hp) (E:Value->Shared->Prop),Inv X pins σ H s->(∀ b∈fp,Fy X pins H b)->tn i s.heap->J.go i H ->
  wpAny (model P w) X.A (pyNext (.ref it)) (fun r s1=>∃ u,r=some u /\
   wpAny (model P w) X.A (letOwnedTupleGo tg (.ref it) u) (fun _ s2=>∃ x H',Inv X pins σ H' s2/\RelV x u/\J.yld i H x H'/\tn (i+1) s2.heap/\∀ b∈fp,H' b=none) E s1) E s
 done:∀ (X:Cx),X.prog=P->X.w=w->X.K=K->X.calm=true->∀ (i:Nat) (pins:List (Addr × Obj)) (s:Shared) (σ:St) (H:Hp) (E:Value->Shared->Prop),Inv X pins σ H s->(∀ b∈fp,Fy X pins H b)->tn i s.heap->J.stop i H ->
  wpAny (model P w) X.A (pyNext (.ref it)) (fun r s1=>r=none/\Inv X pins σ H s1) E s
 self:∀ (A:Around) (i:Nat) (s:Shared) (Q:Value->Shared->Prop) (E:Value->Shared->Prop),tn i s.heap->Q (.ref it) s->wpAny (model P w) A (pyIter (.ref it)) Q E s
noncomputable abbrev TI:=St->Hp->(It->Hp->Prop)->Prop
noncomputable def PIE (X:Cx) (pins:List (Addr × Obj)) (σ:St) (tg:Expr) (R:It->Hp->Prop) (itv:Value) (s2:Shared):Prop :=
 ∃ (it:Addr) (fp:List Addr) (tn:Nat->Heap->Prop) (J:It) (H':Hp),itv=.ref it/\Inv X pins σ H' s2/\Turn X.prog X.w X.K tg J fp it tn/\tn 0 s2.heap/\(∀ b∈fp,Fy X pins H' b)/\R J H'
noncomputable def PI (X:Cx) (tg iter:Expr) (wi:TI):Prop :=
 ∀ (pins:List (Addr × Obj)) (s:Shared) (σ:St) (H:Hp) (R:It->Hp->Prop),Inv X pins σ H s->wi σ H R ->
  wpAny (model X.prog X.w) X.A (eval iter X.env) (fun v s1=>wpAny (model X.prog X.w) X.A (pyIter v) (PIE X pins σ tg R) X.xe s1) X.xe s
theorem Ml {M:Model} {A:Around} {E:Value->Shared->Prop} {s:Shared} {tg:Expr} {it:Addr} {u:Value} {o:Obj} {n:String} {vs:Array Value} {Q:Unit->Shared->Prop} (ho:s.heap.get? it=some o) (hc:o.cls=.type n) (hd:o.data=.fields vs)
  (hn:["enumerate","zip","dict_itemiterator","dict_reverseitemiterator","odict_iterator","itertools.zip_longest","itertools.pairwise"].contains n=false) (hQ:Q () s):wpAny M A (letOwnedTupleGo tg (.ref it) u) Q E s:=by
 unfold letOwnedTupleGo
 cases tg <;> first
  | exact wpAny_pure hQ
  | (cases u <;> first
    | exact wpAny_pure hQ
    | (refine wpAny_bind (wpAny_load ho ?_)
       rw [hc,hd]
       show wpAny M A (if (["enumerate","zip","dict_itemiterator","dict_reverseitemiterator","odict_iterator","itertools.zip_longest","itertools.pairwise"].contains n && vs[0]? == some (rawInt _))=true then _ else _) Q E s
       rw [if_neg (by intro h; rw [hn,Bool.false_and] at h; cases h)]
       exact wpAny_pure hQ))
noncomputable def Xc (K:PySem.W.Frag) (a:Addr):It :=
 ⟨fun i H=>∃ xs x,Cw K H a xs/\xs[i]? = some x,fun i H x H'=>H'=H/\∀ xs,Cw K H a xs->xs[i]? = some x,fun i H=>∃ xs,Cw K H a xs/\xs.length<=i⟩
noncomputable def j6 (K:PySem.W.Frag) (a:Addr):It :=
 ⟨fun i H=>∃ xs x,Ft K H a xs/\xs[i]? = some x,fun i H x H'=>H'=H/\∀ xs,Ft K H a xs->xs[i]? = some x,fun i H=>∃ xs,Ft K H a xs/\xs.length<=i⟩
noncomputable def Wt (lo:Int) (n:Nat):It:=⟨fun i _=>i<n,fun i H x H'=>H'=H/\x=.int (lo+i),fun i _=>n<=i⟩
theorem QZ {P:Program} {w:World} {K:PySem.W.Frag} {tg:Expr} (a it:Addr):Turn P w K tg (Xc K a) [it] it (fun i h=>h.IsListIter it a i) where
 mem:=by simp
 obj:=fun i h st b hb=>by
  have e:b=it:=by simpa using hb
  subst e
  obtain ⟨o,e,c,d⟩:=st
  exact ⟨o,e,fun v z=>by rw [d] at z; cases z⟩
 keep:=fun i h h' st k=>st.at fun o e=>k it (by simp) o e
 item:=by
  intro X hP hw hK hc i pins s σ H E I hf st hg
  subst hP hw hK
  obtain ⟨xs,x,hq,hx⟩:=hg
  obtain ⟨its,rv,p,hz⟩:=I.list hq
  obtain ⟨u,hu,ru⟩:=rv.get hx
  obtain ⟨f0,f1,f2,f3,f4,f5⟩:=hf it (by simp)
  refine wpAny_pyNext_list_item st p.isList (x:=u) (by simpa using hu) fun h' st' sb=>?_
  have I1:Inv X pins σ H { s with heap:=h' }:=I.turned (t':=s.toks) (fun b o hb e=>(sb.2 b hb).trans e) f0 f1 f3 f4 f5
  obtain ⟨o,e,c,d⟩:=id st'
  exact ⟨u,rfl,Ml (s:={ s with heap:=h' }) e c d (by decide) ⟨x,H,I1,ru,⟨rfl,fun ys hy=>by rw [I.Ms hy hq]; exact hx⟩,st',fun b hb=>(hf b hb).1⟩⟩
 done:=by
  intro X hP hw hK hc i pins s σ H E I hf st hg
  subst hP hw hK
  obtain ⟨xs,hq,hx⟩:=hg
  obtain ⟨its,rv,p,hz⟩:=I.list hq
  obtain ⟨f0,f1,f2,f3,f4,f5⟩:=hf it (by simp)
  have hl:=rv.length
  exact wpAny_pyNext_list_end (I.ok.hd hc) st p.isList (by simp; omega) fun h' eb=>⟨rfl,I.turned (t':=s.toks) (fun b o hb e=>eb b o hb e) f0 f1 f3 f4 f5⟩
 self:=fun _ _ _ _ _ st h=>wpAny_pyIter_listiter st h
theorem Oz {P:Program} {w:World} {K:PySem.W.Frag} {tg:Expr} (a it:Addr):Turn P w K tg (j6 K a) [it] it (fun i h=>h.IsTupleIter it a i) where
 mem:=by simp
 obj:=fun i h st b hb=>by
  have e:b=it:=by simpa using hb
  subst e
  obtain ⟨o,e,c,d⟩:=st
  exact ⟨o,e,fun v z=>by rw [d] at z; cases z⟩
 keep:=fun i h h' st k=>st.at fun o e=>k it (by simp) o e
 item:=by
  intro X hP hw hK hc i pins s σ H E I hf st hg
  subst hP hw hK
  obtain ⟨xs,x,hq,hx⟩:=hg
  obtain ⟨its,rv,p,hz⟩:=I.tuple hq
  obtain ⟨u,hu,ru⟩:=rv.get hx
  obtain ⟨f0,f1,f2,f3,f4,f5⟩:=hf it (by simp)
  refine wpAny_pyNext_tuple_item st (show s.heap.IsTuple a its.toArray from p) (x:=u) (by simpa using hu) fun h' st' sb=>?_
  have I1:Inv X pins σ H { s with heap:=h' }:=I.turned (t':=s.toks) (fun b o hb e=>(sb.2 b hb).trans e) f0 f1 f3 f4 f5
  obtain ⟨o,e,c,d⟩:=id st'
  exact ⟨u,rfl,Ml (s:={ s with heap:=h' }) e c d (by decide) ⟨x,H,I1,ru,⟨rfl,fun ys hy=>by rw [I.Ir hy hq]; exact hx⟩,st',fun b hb=>(hf b hb).1⟩⟩
 done:=by
  intro X hP hw hK hc i pins s σ H E I hf st hg
  subst hP hw hK
  obtain ⟨xs,hq,hx⟩:=hg
  obtain ⟨its,rv,p,hz⟩:=I.tuple hq
  obtain ⟨f0,f1,f2,f3,f4,f5⟩:=hf it (by simp)
  have hl:=rv.length
  exact wpAny_pyNext_tuple_end (I.ok.hd hc) st (show s.heap.IsTuple a its.toArray from p) (by simp; omega) fun h' eb=>⟨rfl,I.turned (t':=s.toks) (fun b o hb e=>eb b o hb e) f0 f1 f3 f4 f5⟩
 self:=fun _ _ _ _ _ st h=>wpAny_pyIter_tupleiter st h
theorem PB {P:Program} {w:World} {K:PySem.W.Frag} {tg:Expr} (it:Addr) (lo:Int) (n:Nat):Turn P w K tg (Wt lo n) [it] it (fun i h=>IsRangeIter h it (lo+(i:Nat) * 1) ((n:Int) - (i:Nat)) 1) where
 mem:=by simp
 obj:=fun i h st b hb=>by
  have e:b=it:=by simpa using hb
  subst e
  exact ⟨_,st,fun v z=>by
   have z':Data.fields _=Data.cell v:=z
   cases z'⟩
 keep:=fun i h h' st k=>k it (by simp) _ st
 item:=by
  intro X hP hw hK hc i pins s σ H E I hf st hg
  subst hP hw hK
  obtain ⟨f0,f1,f2,f3,f4,f5⟩:=hf it (by simp)
  have W:=Walks.range (prog:=X.prog) (w:=X.w) (I.ok.hd hc) it lo 1 n
  refine W.item i s _ _ hg st fun v h' tk hv st' kk=>?_
  obtain ⟨t,rfl⟩:=hv
  have I1:Inv X pins σ H { s with heap:=h',toks:=tk }:=I.turned (fun b o hb e=>kk b o (by simpa using hb) e) f0 f1 f3 f4 f5
  refine ⟨_,rfl,Ml (s:={ s with heap:=h',toks:=tk }) (n:="range_iterator") st' rfl rfl (by decide) ⟨.int (lo+i),H,I1,⟨t,?_⟩,⟨rfl,rfl⟩,st',fun b hb=>(hf b hb).1⟩⟩
  rw [Int.mul_one]
 done:=by
  intro X hP hw hK hc i pins s σ H E I hf st hg
  subst hP hw hK
  obtain ⟨f0,f1,f2,f3,f4,f5⟩:=hf it (by simp)
  exact wpAny_pyNext_range_end (I.ok.hd hc) st (by have:n<=i:=hg; omega) fun h' eb=>⟨rfl,I.turned (t':=s.toks) (fun b o hb e=>eb b o hb e) f0 f1 f3 f4 f5⟩
 self:=fun _ _ _ _ _ st h=>wpAny_pyIter_rangeiter st h
end L2
namespace L2
open PySem PySem.Spec PyProof.Rows
section
variable {X:Cx} {tg:Expr}
noncomputable def ZG (K:PySem.W.Frag) (tl:TE):TI:=fun σ H R=>tl σ H fun x H1=>∃ a,x=.ref a/\(∃ xs,Cw K H1 a xs)/\R (Xc K a) H1
noncomputable def eG (K:PySem.W.Frag) (tl:TE):TI:=fun σ H R=>tl σ H fun x H1=>∃ a,x=.ref a/\(∃ xs,Ft K H1 a xs)/\R (j6 K a) H1
theorem Br {l:Expr} {tl:TE} (hl:PE X l tl):PI X tg l (ZG X.K tl):=by
 intro pins s σ H R I h
 refine Bx (hl pins s σ H _ I h) fun v s1 hq0=>?_
 obtain ⟨x,H1,I1,r1,q1⟩:=hq0
 obtain ⟨a,e,⟨xs,hq⟩,q⟩:=q1
 subst e
 cases r1
 obtain ⟨its,rv,p,hz⟩:=I1.list hq
 refine wpAny_pyIter_list p.isList ?_
 refine ⟨s1.heap.objs.size,[s1.heap.objs.size],_,_,H1,rfl,I1.kept (t':=s1.toks) fun b o e=>Heap.get?_push_of_some _ e,QZ a _,⟨_,Heap.get?_push_size _ rfl,rfl,rfl⟩,fun b hb=>?_,q⟩
 have e:b=s1.heap.objs.size:=by simpa using hb
 subst e
 exact I1.Lf (Nat.le_refl _) (I1.hok.fresh (Nat.le_refl _))
theorem K5 {l:Expr} {tl:TE} (hl:PE X l tl):PI X tg l (eG X.K tl):=by
 intro pins s σ H R I h
 refine Bx (hl pins s σ H _ I h) fun v s1 hq0=>?_
 obtain ⟨x,H1,I1,r1,q1⟩:=hq0
 obtain ⟨a,e,⟨xs,hq⟩,q⟩:=q1
 subst e
 cases r1
 obtain ⟨its,rv,p,hz⟩:=I1.tuple hq
 refine wpAny_pyIter_tuple (show s1.heap.IsTuple a its.toArray from p) ?_
 refine ⟨s1.heap.objs.size,[s1.heap.objs.size],_,_,H1,rfl,I1.kept (t':=s1.toks) fun b o e=>Heap.get?_push_of_some _ e,Oz a _,⟨_,Heap.get?_push_size _ rfl,rfl,rfl⟩,fun b hb=>?_,q⟩
 have e:b=s1.heap.objs.size:=by simpa using hb
 subst e
 exact I1.Lf (Nat.le_refl _) (I1.hok.fresh (Nat.le_refl _))
theorem Tp {pins:List (Addr × Obj)} {σ:St} {H:Hp} {s:Shared} {R:It->Hp->Prop} {E:Value->Shared->Prop} {lo hi:Int} {t u v:Tok} {tk:Nat} (I:Inv X pins σ H s) (h1 : -(2 ^ 62)<=lo) (h2:lo<2 ^ 62) (h3 : -(2 ^ 62)<=hi) (h4:hi<2 ^ 62)
  (q:R (Wt lo (hi - lo).toNat) H):wpAny (model X.prog X.w) X.A (pyIter (.ref s.heap.objs.size)) (PIE X pins σ tg R) E { s with heap:=s.heap.push { cls:=.type "range",data:=.fields #[.int lo t,.int hi u,.int 1 v] },toks:=tk }:=by
 refine wpAny_pyIter_range (IsRange.new ..) (small_one h1 h2 h3 h4) ?_
 have I1:Inv X pins σ H { s with heap:=s.heap.push { cls:=.type "range",data:=.fields #[.int lo t,.int hi u,.int 1 v] },toks:=tk }:=I.kept fun b o e=>Heap.get?_push_of_some _ e
 refine ⟨(s.heap.push { cls:=.type "range",data:=.fields #[.int lo t,.int hi u,.int 1 v] }).objs.size,[(s.heap.push { cls:=.type "range",data:=.fields #[.int lo t,.int hi u,.int 1 v] }).objs.size],_,_,H,rfl,
  I1.kept (t':=tk) fun b o e=>Heap.get?_push_of_some _ e,PB _ lo (hi - lo).toNat,?_,fun b hb=>?_,q⟩
 ·have e1:lo+((0:Nat):Int) * 1=lo:=by simp
  have e2:(((hi - lo).toNat:Nat):Int) - ((0:Nat):Int)=Builtin.Range.rangeSize lo hi 1:=by rw [rangeSize_one]; split <;> omega
  show IsRangeIter _ _ (lo+((0:Nat):Int) * 1) ((((hi - lo).toNat:Nat):Int) - ((0:Nat):Int)) 1
  rw [e1,e2]
  exact Heap.get?_push_size _ rfl
 ·have e:b=(s.heap.push { cls:=.type "range",data:=.fields #[.int lo t,.int hi u,.int 1 v] }).objs.size:=by simpa using hb
  subst e
  exact I1.Lf (Nat.le_refl _) (I1.hok.fresh (Nat.le_refl _))
noncomputable def dY (ta:TA):TI:=fun σ H R=>ta σ H fun vs H1=>∃ j:Int,vs=[.int j] /\ -(2 ^ 62)<=j/\j<2 ^ 62/\R (Wt 0 j.toNat) H1
theorem El {a:Expr} {ta:TA} {p pos:Pos} (hg:Gl X "range") (hm:X.mg "range" = none) (ha:PA X [a] ta) (hs:starEach [a] X.env=[(false,eval a X.env)]:=by rfl):PI X tg (.Call (.Name "range" p) [a] [] pos) (dY ta):=by
 intro pins s σ H R I h
 refine Call_ (HY I hg hm boot_range (PyProof.Rows.callWith_type1 (Bx (ha pos pins s σ H _ I h) fun us s1 ⟨vs,H1,I1,r1,q1⟩=>?_) hs rfl))
 obtain ⟨j,e,q1,q2,q⟩:=q1
 subst e
 cases r1 with
 | cons r rr =>
  cases rr
  obtain ⟨t,rfl⟩:=r
  exact call_range_1 (Tp I1 (by omega) (by omega) q1 q2 (by simpa using q))
noncomputable def ig (wi:TI) (g:TG) (tb:TS):TS:=fun D σ H=>wi σ H fun J H1=>∃ W:Nat->Nat->St->Hp->Prop,(∃ m,W 0 m σ H1)/\∀ i m σ H,W i m σ H ->
 (J.stop i H/\D.nx σ H) \/ (J.go i H/\∃ N:St->Hp->Prop,(∀ σ' H',N σ' H'->∃ m',m'<m/\W (i+1) m' σ' H')/\∀ x H',J.yld i H x H'->g x σ H' fun σ2 H2=>tb { D with nx:=N,ct:=N,bk:=D.nx } σ2 H2)
noncomputable def JB (fp:List Addr) (h:Heap):List (Addr × Obj):=fp.filterMap fun b=>(h.get? b).map fun o=>(b,o)
theorem EY {fp:List Addr} {h:Heap} {b:Addr} {o:Obj} (hb:b∈fp) (e:h.get? b=some o):(b,o)∈JB fp h:=List.mem_filterMap.mpr ⟨b,hb,by rw [e]; rfl⟩
theorem Q6 {fp:List Addr} {h:Heap} {p:Addr × Obj} (hp:p∈JB fp h):p.1∈fp/\h.get? p.1=some p.2:=by
 obtain ⟨b,hb,e⟩:=List.mem_filterMap.mp hp
 cases q:h.get? b with
 | none=>rw [q] at e; cases e
 | some o =>
  rw [q] at e
  have e':(b,o)=p:=Option.some.inj e
  subst e'
  exact ⟨hb,q⟩
theorem Inv.pinned {pins:List (Addr × Obj)} {σ:St} {H:Hp} {s:Shared} {fp:List Addr} (I:Inv X pins σ H s) (hf:∀ b∈fp,Fy X pins H b) (ho:∀ b∈fp,∃ o,s.heap.get? b=some o/\∀ v,o.data ≠ .cell v):Inv X (pins++JB fp s.heap) σ H s :=
 I.QF fun p hp=>(List.mem_append.mp hp).elim (fun z=>I.pin p (List.mem_append_right _ z)) fun z=>by
  obtain ⟨hb,e⟩:=Q6 z
  obtain ⟨f0,f1,f2,_⟩:=hf p.1 hb
  obtain ⟨o,e',d⟩:=ho p.1 hb
  rw [e] at e'; cases e'
  exact ⟨e,f0,f1,f2,d⟩
theorem Inv.GZ {pins pl:List (Addr × Obj)} {σ:St} {H:Hp} {s:Shared} (I:Inv X (pins++pl) σ H s):Inv X pins σ H s:=I.QF fun p hp=>I.pin p (List.mem_append_right _ (List.mem_append_left _ hp))
theorem Dz {iter:Expr} {body:List Stmt} {wi:TI} {g:TG} {tb:TS} {pos:Pos} (hp:PassesOwn (model X.prog X.w) X.A X.env X.xe) (hc:X.calm=true) (hi:PI X tg iter wi) (hg:PG X tg g) (hb:K9 X body tb)
  (hs:∀ x,foldedSetIterable iter X.env x=pure x:=by intro _; rfl):PS X (.For tg iter body [] pos) (ig wi g tb):=by
 intro pins s σ H D I h
 refine wpAny_For (Bx (hi pins s σ H _ I h) fun v s1 h1=>Bx h1 fun itv s2 h2=>?_) hs
 obtain ⟨it,fp,tn,J,H2,e,I2,T,st2,f2,W,⟨m0,w0⟩,turn⟩:=h2
 subst e
 have stat:∀ {H':Hp},(∀ b∈fp,H' b=none)->∀ b∈fp,Fy X pins H' b:=fun hn b hb=>⟨hn b hb,(f2 b hb).2⟩
 refine codeAny_forLoop_any (fun n s'=>∃ i σ' H',Inv X pins σ' H' s'/\tn i s'.heap/\(∀ b∈fp,H' b=none)/\W i n σ' H') ?_ m0 ⟨0,σ,H2,I2,st2,fun b hb=>(f2 b hb).1,w0⟩
 rintro n s3 ⟨i,σ3,H3,I3,st3,fr3,w3⟩
 rcases turn i n σ3 H3 w3 with ⟨stop,qn⟩ | ⟨go,N,hN,step⟩
 ·refine wpAny_passesOwn hp (Bx (T.done X rfl rfl rfl hc i pins s3 σ3 H3 X.xe I3 (stat fr3) st3 stop) fun r s4 ⟨hr,I4⟩=>?_)
  subst hr
  exact wpAny_execs_nil ⟨σ3,H3,I4,qn⟩
 ·refine wpAny_passesOwn hp (Bx (T.item X rfl rfl rfl hc i pins s3 σ3 H3 X.xe I3 (stat fr3) st3 go) fun r s4 ⟨u,hr,h4⟩=>?_)
  subst hr
  refine wpAny_passesOwn hp (Bx h4 fun _ s5 hq0=>?_)
  obtain ⟨x,H5,I5,r5,y5,st5,fr5⟩:=hq0
  have I5':=I5.pinned (stat fr5) (T.obj _ _ st5)
  refine wpAny_passesOwn hp (Bx (hg _ s5 σ3 H5 x u _ I5' r5 (step x H5 y5)) fun _ s6 hq0=>?_)
  obtain ⟨σ6,H6,I6,q6⟩:=hq0
  refine wpAny_passesOwn hp (Bx (hb _ s6 σ6 H6 _ I6 q6) fun f s7 q7=>?_)
  have again:∀ {σ7:St} {H7:Hp},Inv X (pins++JB fp s5.heap) σ7 H7 s7->N σ7 H7->∃ m,m<n/\∃ i σ' H',Inv X pins σ' H' s7/\tn i s7.heap/\(∀ b∈fp,H' b=none)/\W i m σ' H':=fun {σ7 H7} I7 n7=>by
   obtain ⟨m',hm,w7⟩:=hN σ7 H7 n7
   refine ⟨m',hm,i+1,σ7,H7,I7.GZ,T.keep _ _ _ st5 fun b hb o e=>(I7.pin (b,o) (List.mem_append_right _ (List.mem_append_right _ (EY hb e)))).1,fun b hb=>?_,w7⟩
   obtain ⟨o,e,d⟩:=T.obj _ _ st5 b hb
   exact (I7.pin (b,o) (List.mem_append_right _ (List.mem_append_right _ (EY hb e)))).2.1
  cases f with
  | next=>obtain ⟨σ7,H7,I7,n7⟩:=q7; exact again I7 n7
  | cont=>obtain ⟨σ7,H7,I7,n7⟩:=q7; exact again I7 n7
  | brk=>obtain ⟨σ7,H7,I7,q7⟩:=q7; exact ⟨σ7,H7,I7.GZ,q7⟩
  | ret v=>obtain ⟨x7,σ7,H7,I7,r7,q7⟩:=q7; exact ⟨x7,σ7,H7,I7.GZ,r7,q7⟩
end
theorem Gb {K:PySem.W.Frag} {a:Addr} {xs:List V} {g:TG} {tb:TS} {D:Ends} {σ:St} {H:Hp} (Pv:Nat->St->Hp->Prop) (h0:Pv 0 σ H) (hl:∀ i σ H,i<=xs.length->Pv i σ H->Cw K H a xs)
  (hs:∀ i x σ H,xs[i]? = some x->Pv i σ H->g x σ H fun σ2 H2=>tb { D with nx:=Pv (i+1),ct:=Pv (i+1),bk:=D.nx } σ2 H2) (hd:∀ σ H,Pv xs.length σ H->D.nx σ H) :
  ∃ W:Nat->Nat->St->Hp->Prop,(∃ m,W 0 m σ H)/\∀ i m σ H,W i m σ H ->
   ((Xc K a).stop i H/\D.nx σ H) \/ ((Xc K a).go i H/\∃ N:St->Hp->Prop,(∀ σ' H',N σ' H'->∃ m',m'<m/\W (i+1) m' σ' H')/\∀ x H',(Xc K a).yld i H x H'->g x σ H' fun σ2 H2=>tb { D with nx:=N,ct:=N,bk:=D.nx } σ2 H2):=by
 refine ⟨fun i m σ H=>m=xs.length - i/\i<=xs.length/\Pv i σ H,⟨xs.length,by simp,Nat.zero_le _,h0⟩,?_⟩
 rintro i m σ H ⟨rfl,hi,p⟩
 have q:=hl i σ H hi p
 by_cases hlt:i<xs.length
 ·refine .inr ⟨⟨xs,xs[i],q,by simp [hlt]⟩,Pv (i+1),fun σ' H' p'=>⟨xs.length - (i+1),by omega,rfl,hlt,p'⟩,fun x H' y=>?_⟩
  obtain ⟨e,y⟩:=y
  subst e
  exact hs i x σ _ (y xs q) p
 ·have e:i=xs.length:=by omega
  subst e
  exact .inl ⟨⟨xs,q,Nat.le_refl _⟩,hd σ H p⟩
theorem Gv {lo:Int} {n:Nat} {g:TG} {tb:TS} {D:Ends} {σ:St} {H:Hp} (Pv:Nat->St->Hp->Prop) (h0:Pv 0 σ H)
  (hs:∀ i σ H,i<n->Pv i σ H->g (.int (lo+i)) σ H fun σ2 H2=>tb { D with nx:=Pv (i+1),ct:=Pv (i+1),bk:=D.nx } σ2 H2) (hd:∀ σ H,Pv n σ H->D.nx σ H) :
  ∃ W:Nat->Nat->St->Hp->Prop,(∃ m,W 0 m σ H)/\∀ i m σ H,W i m σ H ->
   ((Wt lo n).stop i H/\D.nx σ H) \/ ((Wt lo n).go i H/\∃ N:St->Hp->Prop,(∀ σ' H',N σ' H'->∃ m',m'<m/\W (i+1) m' σ' H')/\∀ x H',(Wt lo n).yld i H x H'->g x σ H' fun σ2 H2=>tb { D with nx:=N,ct:=N,bk:=D.nx } σ2 H2):=by
 refine ⟨fun i m σ H=>m=n - i/\i<=n/\Pv i σ H,⟨n,by simp,Nat.zero_le _,h0⟩,?_⟩
 rintro i m σ H ⟨rfl,hi,p⟩
 by_cases hlt:i<n
 ·refine .inr ⟨hlt,Pv (i+1),fun σ' H' p'=>⟨n - (i+1),by omega,rfl,hlt,p'⟩,fun x H' y=>?_⟩
  obtain ⟨e,y⟩:=y
  subst e y
  exact hs i σ _ hlt p
 ·have e:i=n:=by omega
  subst e
  exact .inl ⟨Nat.le_refl _,hd σ H p⟩
theorem R1 {c:TT} {tb:TS} {D:Ends} {σ:St} {H:Hp} (Pv:St->Hp->Prop) (μ:St->Hp->Nat) (h0:Pv σ H)
  (hs:∀ σ H,Pv σ H->c σ H fun b H1=>if b=true then tb { D with nx:=fun σ' H'=>Pv σ' H'/\μ σ' H'<μ σ H,ct:=fun σ' H'=>Pv σ' H'/\μ σ' H'<μ σ H,bk:=D.nx } σ H1 else D.nx σ H1)
  (mono:∀ σ H Q Q',(∀ b H1,Q b H1->Q' b H1)->c σ H Q->c σ H Q'):Lx c tb D σ H:=by
 refine ⟨fun m σ H=>m=μ σ H/\Pv σ H,⟨_,rfl,h0⟩,?_⟩
 rintro m σ H ⟨rfl,p⟩
 refine mono σ H _ _ (fun b H1 q=>?_) (hs σ H p)
 cases b with
 | true=>exact ⟨_,fun σ' H' ⟨p',l⟩=>⟨_,l,rfl,p'⟩,q⟩
 | false=>exact q
end L2
namespace L2
open PySem PySem.Spec PyProof.Rows
noncomputable abbrev R2:=V->V->Hp->VK->Prop
noncomputable def HJ (X:Cx) (f:Value->Value->Sem Value) (r:R2):Prop :=
 ∀ (pins:List (Addr × Obj)) (s:Shared) (σ:St) (H:Hp) (x y:V) (v u:Value) (Q:VK),Inv X pins σ H s->RelV x v->RelV y u->r x y H Q ->
  wpAny (model X.prog X.w) X.A (f v u) (EP X pins σ Q) X.xe s
noncomputable def fU (X:Cx) (f:Value->Sem Value) (r:V->Hp->VK->Prop):Prop :=
 ∀ (pins:List (Addr × Obj)) (s:Shared) (σ:St) (H:Hp) (x:V) (v:Value) (Q:VK),Inv X pins σ H s->RelV x v->r x H Q ->
  wpAny (model X.prog X.w) X.A (f v) (EP X pins σ Q) X.xe s
noncomputable def Eg (X:Cx) (f:Value) (r:List V->Hp->VK->Prop):Prop :=
 ∀ (pins:List (Addr × Obj)) (s:Shared) (σ:St) (H:Hp) (xs:List V) (us:List Value) (Q:VK),Inv X pins σ H s->Vals xs us->r xs H Q ->
  wpAny (model X.prog X.w) X.A (call f us) (EP X pins σ Q) X.xe s
noncomputable def gn (X:Cx) (r:V->Hp->(Bool->Hp->Prop)->Prop):Prop :=
 ∀ (pins:List (Addr × Obj)) (s:Shared) (σ:St) (H:Hp) (x:V) (v:Value) (Q:Bool->Hp->Prop),Inv X pins σ H s->RelV x v->r x H Q ->
  wpAny (model X.prog X.w) X.A (truthy v) (TP X pins σ Q) X.xe s
noncomputable def Yr (r:R2) (ta tb:TE):TE:=fun σ H Q=>ta σ H fun x H1=>tb σ H1 fun y H2=>r x y H2 Q
noncomputable def m_ (r:V->Hp->VK->Prop) (ta:TE):TE:=fun σ H Q=>ta σ H fun x H1=>r x H1 Q
noncomputable def rI (C:Int->Int->Prop) (g:Int->Int->V):R2:=fun x y H Q=>∃ i j,x=.int i/\y=.int j/\C i j/\Q (g i j) H
noncomputable def WW (g:Int->Int->V):R2:=fun x y H Q=>∃ i j,x=.int i/\y=.int j/\Q (g i j) H
noncomputable def rU (g:Int->V):V->Hp->VK->Prop:=fun x H Q=>∃ i,x=.int i/\Q (g i) H
section
variable {X:Cx} {a b c:Expr} {ta tb tc:TE} {pos:Pos}
theorem W6 (ha:PE X a ta) (hb:PE X b tb) {pins:List (Addr × Obj)} {s:Shared} {σ:St} {H:Hp} {R:V->V->Hp->Prop} (I:Inv X pins σ H s)
  (h:ta σ H fun x H1=>tb σ H1 fun y H2=>R x y H2) {Q:Value->Shared->Prop} {f:Value->Value->Sem Value}
  (hf:∀ v u s2 x y H2,Inv X pins σ H2 s2->RelV x v->RelV y u->R x y H2->wpAny (model X.prog X.w) X.A (f v u) Q X.xe s2) :
  wpAny (model X.prog X.w) X.A (eval a X.env) (fun v s₁=>wpAny (model X.prog X.w) X.A (eval b X.env) (fun u s₂=>wpAny (model X.prog X.w) X.A (f v u) Q X.xe s₂) X.xe s₁) X.xe s:=by
 refine Bx (ha pins s σ H _ I h) fun v s1 hq0=>?_
 obtain ⟨x,H1,I1,r1,q1⟩:=hq0
 refine Bx (hb pins s1 σ H1 _ I1 q1) fun u s2 hq0=>?_
 obtain ⟨y,H2,I2,r2,q2⟩:=hq0
 exact hf v u s2 x y H2 I2 r1 r2 q2
theorem BR {op:Operator} {r:R2} (ho:HJ X (binaryOp op) r) (ha:PE X a ta) (hb:PE X b tb):PE X (.BinOp a op b pos) (Yr r ta tb):=by
 intro pins s σ H Q I h
 exact wpAny_BinOp (W6 ha hb I h fun v u s2 x y H2 I2 rx ry q=>ho pins s2 σ H2 x y v u Q I2 rx ry q)
theorem Mx {op:UnaryOp} {r:V->Hp->VK->Prop} (ho:fU X (unaryOp op) r) (ha:PE X a ta):PE X (.UnaryOp op a pos) (m_ r ta):=by
 intro pins s σ H Q I h
 exact UnaryOp_ (Bx (ha pins s σ H _ I h) fun v s1 ⟨x,H1,I1,r1,q1⟩=>ho pins s1 σ H1 x v Q I1 r1 q1)
theorem fL {f:Value->Value->Sem Value} {C:Int->Int->Prop} {g:Int->Int->Int}
  (rule:∀ (i j:Int) (t u:Tok) (s:Shared) (Q:Value->Shared->Prop) (E:Value->Shared->Prop),C i j->Q (.int (g i j) s.toks) { s with toks:=s.toks+1 }->wpAny (model X.prog X.w) X.A (f (.int i t) (.int j u)) Q E s) :
  HJ X f (rI C fun i j=>.int (g i j)):=by
 intro pins s σ H x y v u Q I rx ry h
 obtain ⟨i,j,rfl,rfl,hc,q⟩:=h
 obtain ⟨t,rfl⟩:=rx
 obtain ⟨t',rfl⟩:=ry
 exact rule i j t t' s _ _ hc ⟨.int (g i j),H,I.tok _,⟨_,rfl⟩,q⟩
theorem WL {f:Value->Value->Sem Value} {g:Int->Int->Int}
  (rule:∀ (i j:Int) (t u:Tok) (s:Shared) (Q:Value->Shared->Prop) (E:Value->Shared->Prop),Q (.int (g i j) s.toks) { s with toks:=s.toks+1 }->wpAny (model X.prog X.w) X.A (f (.int i t) (.int j u)) Q E s) :
  HJ X f (WW fun i j=>.int (g i j)):=by
 intro pins s σ H x y v u Q I rx ry h
 obtain ⟨i,j,rfl,rfl,q⟩:=h
 obtain ⟨t,rfl⟩:=rx
 obtain ⟨t',rfl⟩:=ry
 exact rule i j t t' s _ _ ⟨.int (g i j),H,I.tok _,⟨_,rfl⟩,q⟩
theorem W3 {f:Value->Value->Sem Value} {g:Int->Int->Bool}
  (rule:∀ (i j:Int) (t u:Tok) (s:Shared) (Q:Value->Shared->Prop) (E:Value->Shared->Prop),Q (.bool (g i j)) s->wpAny (model X.prog X.w) X.A (f (.int i t) (.int j u)) Q E s) :
  HJ X f (WW fun i j=>.bl (g i j)):=by
 intro pins s σ H x y v u Q I rx ry h
 obtain ⟨i,j,rfl,rfl,q⟩:=h
 obtain ⟨t,rfl⟩:=rx
 obtain ⟨t',rfl⟩:=ry
 exact rule i j t t' s _ _ ⟨.bl (g i j),H,I,rfl,q⟩
noncomputable def jA (i j:Int):Prop:=0<j/\j<1073741824
noncomputable def jy (i j:Int):Prop:=0<=j/\j<=1000000/\i.natAbs<2 ^ 64
noncomputable def Xy (i j:Int):Prop:=(-(2 ^ 64)<i/\i<2 ^ 64) \/ (-(2 ^ 64)<j/\j<2 ^ 64)
theorem Xy.ok {i j:Int} (h:Xy i j):IntMulOk i j:=by
 rcases h with ⟨h1,h2⟩ | ⟨h1,h2⟩
 ·exact .of_left (intBits_le_64 h1 h2)
 ·exact .of_right (intBits_le_64 h1 h2)
theorem Di:HJ X (binaryOp .Add) (WW fun i j=>.int (i+j)):=WL fun _ _ _ _ _ _ _ q=>add_int q
theorem Oo:HJ X (binaryOp .Sub) (WW fun i j=>.int (i - j)):=WL fun _ _ _ _ _ _ _ q=>sub_int q
theorem F_:HJ X (binaryOp .Mult) (rI Xy fun i j=>.int (i * j)):=fL fun _ _ _ _ _ _ _ hc q=>mul_int q hc.ok
theorem Ej:HJ X (binaryOp .FloorDiv) (rI jA fun i j=>.int (i / j)):=fL fun i j _ _ _ _ _ hc q=>by
 have h1:(0:Int)<j:=hc.1
 have h2:j<1073741824:=hc.2
 exact floordiv_int (by omega) (by rw [Int.fdiv_eq_ediv_of_nonneg i (by omega)]; exact q) (.inl (PyProof.noPylong_small (by omega)))
theorem CN:HJ X (binaryOp .Mod) (rI (fun _ j=>0<j) fun i j=>.int (i % j)):=fL fun i j _ _ _ _ _ hc q=>by
 have h1:(0:Int)<j:=hc
 exact mod_int' (by omega) (by rw [Int.fmod_eq_emod_of_nonneg i (by omega)]; exact q)
theorem Ri:HJ X (binaryOp .LShift) (rI jy fun i j=>.int (i * 2 ^ j.toNat)):=fL fun _ _ _ _ _ _ _ hc q=>lshift_int_small hc.1 hc.2.1 hc.2.2 q
theorem Ou:HJ X (binaryOp .BitAnd) (WW fun i j=>.int (Builtin.bitAnd i j)):=WL fun _ _ _ _ _ _ _ q=>and_int q
theorem MF:HJ X (binaryOp .BitOr) (WW fun i j=>.int (Builtin.bitOr i j)):=WL fun _ _ _ _ _ _ _ q=>or_int q
theorem lw {f:Value->Sem Value} {g:Int->Int}
  (rule:∀ (i:Int) (t:Tok) (s:Shared) (Q:Value->Shared->Prop) (E:Value->Shared->Prop),Q (.int (g i) s.toks) { s with toks:=s.toks+1 }->wpAny (model X.prog X.w) X.A (f (.int i t)) Q E s) :
  fU X f (rU fun i=>.int (g i)):=by
 intro pins s σ H x v Q I rx h
 obtain ⟨i,rfl,q⟩:=h
 obtain ⟨t,rfl⟩:=rx
 exact rule i t s _ _ ⟨.int (g i),H,I.tok _,⟨_,rfl⟩,q⟩
theorem Ol:fU X (unaryOp .USub) (rU fun i=>.int (-i)):=lw fun _ _ _ _ _ q=>neg_int q
theorem Tw:fU X (unaryOp .Invert) (rU fun i=>.int (Builtin.bitNot i)):=lw fun _ _ _ _ _ q=>invert_int q
end
noncomputable def Xn:V->V->Bool
 | .non,.non=>true | .non,.int _=>true | .int _,.non=>true | .non,.bl _=>true | .bl _,.non=>true | .non,.str _=>true | .str _,.non=>true
 | .int _,.int _=>true | .bl _,.bl _=>true | .str _,.str _=>true | .byt _,.byt _=>true
 | .int _,.str _=>true | .str _,.int _=>true | .bl _,.str _=>true | .str _,.bl _=>true
 | _,_=>false
noncomputable def mH:R2:=fun x y H Q=>Xn x y=true/\Q (.bl (decide (x=y))) H
noncomputable def m8:R2:=fun x y H Q=>Xn x y=true/\Q (.bl (!decide (x=y))) H
theorem Pa {i j:Int}:decide (V.int i=V.int j)=(i == j):=by
 rw [Bool.eq_iff_iff]
 simp
theorem UJ {i j:Bool}:decide (V.bl i=V.bl j)=(i == j):=by
 rw [Bool.eq_iff_iff]
 simp
theorem Gz {i j:Str}:decide (V.str i=V.str j)=(i == j):=by
 rw [Bool.eq_iff_iff]
 simp
theorem Pb {i j:Array UInt8}:decide (V.byt i=V.byt j)=(i.toList == j.toList):=by
 rw [Bool.eq_iff_iff]
 cases i
 cases j
 simp
section
variable {X:Cx} {a b c:Expr} {ta tb tc:TE} {pos:Pos}
theorem Bj {pins:List (Addr × Obj)} {σ:St} {H:Hp} {s:Shared} {Q:VK} {k k':Bool} (I:Inv X pins σ H s) (q:Q (.bl k) H) (e:k=k'):EP X pins σ Q (.bool k') s:=by
 subst e
 exact ⟨.bl k,H,I,rfl,q⟩
theorem Bu:HJ X (compareOp .Eq) mH:=by
 intro pins s σ H x y v u Q I rx ry h
 obtain ⟨hs,q⟩:=h
 cases x with
 | non =>
  cases rx
  cases y with
  | non=>cases ry; exact PySem.EqNone.eq_none_none (Bj I q (by simp))
  | bl j=>cases ry; exact PySem.EqNone.eq_none_bool (Bj I q (by simp))
  | int j=>obtain ⟨t',rfl⟩:=ry; exact PySem.EqNone.eq_none_int (Bj I q (by simp))
  | str j=>obtain ⟨t',rfl⟩:=ry; exact PySem.EqNone.eq_none_str (Bj I q (by simp))
  | _=>exact absurd (show false=true from hs) Bool.false_ne_true
 | bl i =>
  cases rx
  cases y with
  | non=>cases ry; exact PySem.EqNone.eq_bool_none (Bj I q (by simp))
  | bl j=>cases ry; exact eq_bool (Bj I q UJ)
  | str j=>obtain ⟨t',rfl⟩:=ry; exact PySem.EqMixed.eq_bool_str (Bj I q (by simp))
  | _=>exact absurd (show false=true from hs) Bool.false_ne_true
 | int i =>
  obtain ⟨t,rfl⟩:=rx
  cases y with
  | non=>cases ry; exact PySem.EqNone.eq_int_none (Bj I q (by simp))
  | int j=>obtain ⟨t',rfl⟩:=ry; exact eq_int (Bj I q Pa)
  | str j=>obtain ⟨t',rfl⟩:=ry; exact PySem.EqMixed.eq_int_str (Bj I q (by simp))
  | _=>exact absurd (show false=true from hs) Bool.false_ne_true
 | str i =>
  obtain ⟨t,rfl⟩:=rx
  cases y with
  | non=>cases ry; exact PySem.EqNone.eq_str_none (Bj I q (by simp))
  | bl j=>cases ry; exact PySem.EqMixed.eq_str_bool (Bj I q (by simp))
  | int j=>obtain ⟨t',rfl⟩:=ry; exact PySem.EqMixed.eq_str_int (Bj I q (by simp))
  | str j=>obtain ⟨t',rfl⟩:=ry; exact eq_str (Bj I q Gz)
  | _=>exact absurd (show false=true from hs) Bool.false_ne_true
 | byt i =>
  obtain ⟨t,rfl⟩:=rx
  cases y with
  | byt j=>obtain ⟨t',rfl⟩:=ry; exact PySem.W.eq_bytes (Bj I q Pb)
  | _=>exact absurd (show false=true from hs) Bool.false_ne_true
 | _=>cases y <;> exact absurd (show false=true from hs) Bool.false_ne_true
theorem Nb:HJ X (compareOp .NotEq) m8:=by
 intro pins s σ H x y v u Q I rx ry h
 obtain ⟨hs,q⟩:=h
 cases x with
 | non =>
  cases rx
  cases y with
  | non=>cases ry; exact PySem.EqNone.ne_none_none (Bj I q (by simp))
  | bl j=>cases ry; exact PySem.EqNone.ne_none_bool (Bj I q (by simp))
  | int j=>obtain ⟨t',rfl⟩:=ry; exact PySem.EqNone.ne_none_int (Bj I q (by simp))
  | str j=>obtain ⟨t',rfl⟩:=ry; exact PySem.EqNone.ne_none_str (Bj I q (by simp))
  | _=>exact absurd (show false=true from hs) Bool.false_ne_true
 | bl i =>
  cases rx
  cases y with
  | non=>cases ry; exact PySem.EqNone.ne_bool_none (Bj I q (by simp))
  | bl j=>cases ry; exact ne_bool (Bj I q (congrArg not UJ))
  | str j=>obtain ⟨t',rfl⟩:=ry; exact PySem.EqMixed.ne_bool_str (Bj I q (by simp))
  | _=>exact absurd (show false=true from hs) Bool.false_ne_true
 | int i =>
  obtain ⟨t,rfl⟩:=rx
  cases y with
  | non=>cases ry; exact PySem.EqNone.ne_int_none (Bj I q (by simp))
  | int j=>obtain ⟨t',rfl⟩:=ry; exact ne_int (Bj I q (congrArg not Pa))
  | str j=>obtain ⟨t',rfl⟩:=ry; exact PySem.EqMixed.ne_int_str (Bj I q (by simp))
  | _=>exact absurd (show false=true from hs) Bool.false_ne_true
 | str i =>
  obtain ⟨t,rfl⟩:=rx
  cases y with
  | non=>cases ry; exact PySem.EqNone.ne_str_none (Bj I q (by simp))
  | bl j=>cases ry; exact PySem.EqMixed.ne_str_bool (Bj I q (by simp))
  | int j=>obtain ⟨t',rfl⟩:=ry; exact PySem.EqMixed.ne_str_int (Bj I q (by simp))
  | str j=>obtain ⟨t',rfl⟩:=ry; exact ne_str (Bj I q (congrArg not Gz))
  | _=>exact absurd (show false=true from hs) Bool.false_ne_true
 | byt i =>
  obtain ⟨t,rfl⟩:=rx
  cases y with
  | byt j=>obtain ⟨t',rfl⟩:=ry; exact PySem.W.ne_bytes (Bj I q (congrArg not Pb))
  | _=>exact absurd (show false=true from hs) Bool.false_ne_true
 | _=>cases y <;> exact absurd (show false=true from hs) Bool.false_ne_true
theorem JN:HJ X (compareOp .Lt) (WW fun i j=>.bl (decide (i<j))):=W3 fun _ _ _ _ _ _ _ q=>lt_int q
theorem Fj:HJ X (compareOp .LtE) (WW fun i j=>.bl (decide (i<=j))):=W3 fun _ _ _ _ _ _ _ q=>le_int q
theorem aV:HJ X (compareOp .GtE) (WW fun i j=>.bl (decide (j<=i))):=W3 fun _ _ _ _ _ _ _ q=>ge_int q
theorem KD:HJ X (compareOp .In) (fun x y H Q=>∃ i j,x=.str i/\y=.str j/\Q (.bl (!(Builtin.Str.occurrences j i 0 j.length 1).isEmpty)) H):=by
 intro pins s σ H x y v u Q I rx ry h
 obtain ⟨i,j,rfl,rfl,q⟩:=h
 obtain ⟨t,rfl⟩:=rx
 obtain ⟨t',rfl⟩:=ry
 exact in_str (Bj I q rfl)
theorem N7:HJ X (compareOp .Is) (fun x y H Q=>y=.non/\Q (.bl (decide (x=.non))) H):=by
 intro pins s σ H x y v u Q I rx ry h
 obtain ⟨rfl,q⟩:=h
 cases ry
 refine is_none_gen (Bj I q ?_)
 cases x <;> first
  | (cases rx; rfl)
  | (obtain ⟨t,rfl⟩:=rx; rfl)
theorem BV (b:Expr) {op:CmpOp} (h:op ≠ .In:=by decide) (h2:op ≠ .NotIn:=by decide):behindInMarks op b=false:=by
 have e1:(op == CmpOp.In)=false:=by cases op <;> first | rfl | exact absurd rfl h
 have e2:(op == CmpOp.NotIn)=false:=by cases op <;> first | rfl | exact absurd rfl h2
 cases b <;> simp [behindInMarks,e1,e2]
theorem Ek {op:CmpOp} {r:R2} (ho:HJ X (compareOp op) r) (ha:PE X a ta) (hb:PE X b tb) (hm:behindInMarks op b=false):PE X (.Compare a [op] [b] pos) (Yr r ta tb):=by
 intro pins s σ H Q I h
 exact wpAny_Compare1 (W6 ha hb I h fun v u s2 x y H2 I2 rx ry q=>ho pins s2 σ H2 x y v u Q I2 rx ry q) hm
noncomputable def Ut (t:TE):TT:=fun σ H Q=>t σ H fun x H'=>∃ k,x=.bl k/\Q k H'
theorem BK {op:CmpOp} {r:R2} (ho:HJ X (compareOp op) r) (ha:PE X a ta) (hb:PE X b tb) (hm:behindInMarks op b=false):PT X (.Compare a [op] [b] pos) (Ut (Yr r ta tb)):=by
 intro pins s σ H Q I h
 refine wpAny_isTrue_Compare1 (Bx (ha pins s σ H _ I h) fun v s1 ⟨x,H1,I1,r1,q1⟩=>Bx (hb pins s1 σ H1 _ I1 q1) fun u s2 ⟨y,H2,I2,r2,q2⟩ =>
  Bx (ho pins s2 σ H2 x y v u _ I2 r1 r2 q2) fun c s3 ⟨z,H3,I3,r3,k,e,q3⟩=>?_) hm
 subst e
 cases r3
 exact wpAny_truthy_bool ⟨H3,I3,q3⟩
noncomputable def Sw (r r':R2) (ta tb tc:TE):TE:=fun σ H Q=>ta σ H fun x H1=>tb σ H1 fun y H2=>r x y H2 fun z H3=>∃ k,z=.bl k /\
 (if k=true then tc σ H3 fun w' H4=>r' y w' H4 Q else Q (.bl false) H3)
theorem Gq {op op':CmpOp} {r r':R2} (ho:HJ X (compareOp op) r) (ho':HJ X (compareOp op') r') (ha:PE X a ta) (hb:PE X b tb) (hc:PE X c tc)
  (hm:lastMarks [op,op'] [b,c]=false:=by with_unfolding_all rfl):PE X (.Compare a [op,op'] [b,c] pos) (Sw r r' ta tb tc):=by
 intro pins s σ H Q I h
 refine Compare_chain (Bx (ha pins s σ H _ I h) fun v s1 ⟨x,H1,I1,r1,q1⟩=>chain_link (Bx (hb pins s1 σ H1 _ I1 q1) fun u s2 ⟨y,H2,I2,r2,q2⟩ =>
  Bx (ho pins s2 σ H2 x y v u _ I2 r1 r2 q2) fun d s3 ⟨z,H3,I3,r3,k,e,q3⟩=>?_)) hm
 subst e
 cases r3
 refine wpAny_truthy_bool ?_
 cases k with
 | false=>exact ite_ff ⟨.bl false,H3,I3,rfl,q3⟩
 | true=>exact ite_tt (chain_last (Bx (hc pins s3 σ H3 _ I3 q3) fun w' s4 ⟨z',H4,I4,r4,q4⟩=>ho' pins s4 σ H4 y z' u w' Q I4 r2 r4 q4))
theorem MP {op op':CmpOp} {r r':R2} (ho:HJ X (compareOp op) r) (ho':HJ X (compareOp op') r') (ha:PE X a ta) (hb:PE X b tb) (hc:PE X c tc)
  (hm:lastMarks [op,op'] [b,c]=false:=by with_unfolding_all rfl):PT X (.Compare a [op,op'] [b,c] pos) (Ut (Sw r r' ta tb tc)):=by
 intro pins s σ H Q I h
 refine isTrue_chain (Bx (ha pins s σ H _ I h) fun v s1 ⟨x,H1,I1,r1,q1⟩=>test_link (Bx (hb pins s1 σ H1 _ I1 q1) fun u s2 ⟨y,H2,I2,r2,q2⟩ =>
  Bx (ho pins s2 σ H2 x y v u _ I2 r1 r2 q2) fun d s3 ⟨z,H3,I3,r3,k,e,q3⟩=>?_)) hm
 subst e
 cases r3
 refine wpAny_truthy_bool ?_
 cases k with
 | false =>
  obtain ⟨k',e',q'⟩:=q3
  cases e'
  exact ite_ff ⟨H3,I3,q'⟩
 | true =>
  refine ite_tt (test_last (Bx (hc pins s3 σ H3 _ I3 q3) fun w' s4 ⟨z',H4,I4,r4,q4⟩=>Bx (ho' pins s4 σ H4 y z' u w' _ I4 r2 r4 q4) fun d' s5 hq0=>?_))
  obtain ⟨z2,H5,I5,r5,k2,e2,q5⟩:=hq0
  subst e2
  cases r5
  exact wpAny_truthy_bool ⟨H5,I5,q5⟩
noncomputable def cM (K:PySem.W.Frag) (x:V) (H:Hp) (k:Bool):Prop :=
 match x with
 | .non=>k=false
 | .bl b=>k=b
 | .int i=>k=(i != 0)
 | .str y=>y.length<=sizeLine/\k=((y.length:Int) != 0)
 | .byt y=>y.size<=sizeLine/\k=((y.size:Int) != 0)
 | .ref p=>(∃ xs,Cw K H p xs/\k = !xs.isEmpty) \/ (∃ xs,Ft K H p xs/\k = !xs.isEmpty) \/ ∃ kvs,H p=some (.dK kvs)/\k = !kvs.isEmpty
 | _=>False
theorem N6 {κ:Type} {kvs:List (κ × V)} {vs:List (κ × Value)} (r:KV kvs vs):(!vs.isEmpty) = !kvs.isEmpty:=by
 cases r <;> rfl
theorem Ji {xs:List V} {its:List Value} (r:Vals xs its):(!its.toArray.isEmpty) = !xs.isEmpty:=by
 cases r <;> simp
theorem Gi:(sizeLine:Nat)<2 ^ 63:=by rw [sizeLine_eq]; decide
theorem Xr:gn X (fun x H Q=>∃ k,cM X.K x H k/\Q k H):=by
 intro pins s σ H x v Q I rx h
 obtain ⟨k,e,q⟩:=h
 have hl:=Gi
 have hs:sizeLine=16777216:=sizeLine_eq
 cases x with
 | non =>
  cases rx
  have e':k=false:=e
  subst e'
  exact truthy_none ⟨H,I,q⟩
 | bl b =>
  cases rx
  have e':k=b:=e
  subst e'
  exact wpAny_truthy_bool ⟨H,I,q⟩
 | int i =>
  obtain ⟨t,rfl⟩:=rx
  have e':k=(i != 0):=e
  subst e'
  exact PySem.P.truthy_int ⟨H,I,q⟩
 | str y =>
  obtain ⟨t,rfl⟩:=rx
  obtain ⟨hy,e'⟩:y.length<=sizeLine/\k=((y.length:Int) != 0):=e
  subst e'
  exact PySem.P.truthy_str (by omega) ⟨H,I.tok _,q⟩
 | byt y =>
  obtain ⟨t,rfl⟩:=rx
  obtain ⟨hy,e'⟩:y.size<=sizeLine/\k=((y.size:Int) != 0):=e
  subst e'
  exact PySem.W.truthy_bytes (by omega) ⟨H,I.tok _,q⟩
 | ref p =>
  cases rx
  have e':(∃ xs,Cw X.K H p xs/\k = !xs.isEmpty) \/ (∃ xs,Ft X.K H p xs/\k = !xs.isEmpty) \/ ∃ kvs,H p=some (.dK kvs)/\k = !kvs.isEmpty:=e
  rcases e' with ⟨xs,hx,e'⟩ | ⟨xs,hx,e'⟩ | ⟨kvs,hx,e'⟩
  ·subst e'
   obtain ⟨its,r,pl,hz⟩:=I.list hx
   have hlen:=r.length
   exact wpAny_truthy_list pl.isList (by simp only [List.size_toArray]; omega) ⟨H,I.tok _,by rw [Ji r]; exact q⟩
  ·subst e'
   obtain ⟨its,r,pl,hz⟩:=I.tuple hx
   have hlen:=r.length
   exact truthy_tuple pl (by simp only [List.size_toArray]; omega) ⟨H,I.tok _,by rw [Ji r]; exact q⟩
  ·subst e'
   obtain ⟨hz,hS,vs,r,m⟩:kvs.length<=sizeLine/\(p == sysModules)=false/\∃ vs,KV kvs vs/\s.heap.DictOf (Ck X.prog X.w) p vs:=I.hok p _ hx
   have hlen:kvs.length=vs.length:=Paired.length r
   exact wpAny_truthy_dict hS m (by omega) ⟨H,I.tok _,by rw [N6 r]; exact q⟩
 | _=>exact (show False from e).elim
theorem Tc (ha:PE X a ta) (he:∀ whole,isTrue a X.env whole=(do let v ← whole; standAt a.pos; holding [v] (truthy v))) :
  PT X a (fun σ H Q=>ta σ H fun x H'=>∃ k,cM X.K x H' k/\Q k H'):=by
 intro pins s σ H Q I h
 exact isTrue_plain (Bx (ha pins s σ H _ I h) fun v s1 ⟨x,H1,I1,r1,q1⟩=>Xr pins s1 σ H1 x v Q I1 r1 q1) (he _)
theorem Em:HJ X (binaryOp .Add) (fun x y H Q=>∃ i j,x=.str i/\y=.str j/\i.length+j.length<=sizeLine/\Q (.str (i++j)) H):=by
 intro pins s σ H x y v u Q I rx ry h
 obtain ⟨i,j,rfl,rfl,hz,q⟩:=h
 obtain ⟨t,rfl⟩:=rx
 obtain ⟨t',rfl⟩:=ry
 exact add_str (fun t' tk=>⟨.str (i++j),H,I.tok _,⟨_,rfl⟩,q⟩) hz
theorem vals1 {x:V} {us:List Value} (r:Vals [x] us):∃ u,us=[u]/\RelV x u:=by
 cases r with
 | cons r1 r2=>cases r2; exact ⟨_,rfl,r1⟩
theorem Tf:Eg X (.builtin "abs") (fun xs H Q=>∃ i,xs=[.int i]/\Q (.int (if i<0 then -i else i)) H):=by
 intro pins s σ H xs us Q I r h
 obtain ⟨i,rfl,q⟩:=h
 obtain ⟨u,rfl,t,rfl⟩:=vals1 r
 exact call_abs_int fun u tk=>⟨.int (if i<0 then -i else i),H,I.tok _,⟨_,rfl⟩,q⟩
end
end L2
namespace L2
open PySem PySem.Spec PyProof.Rows
structure Oa (h:Heap) (x dx C:Addr) (mA:Str->Option Value):Prop where
 obj:h.get? x=some (PySem.W.instObj C dx)
 ns:h.Ns1 dx mA
 ne:dx ≠ x
theorem KN {h:Heap} {dx:Addr} {mA:Str->Option Value} (n:h.Ns1 dx mA):∃ od,h.get? dx=some od/\∀ name,PySem.W.lookIn name od=some (mA name):=by
 obtain ⟨o,es,ep,ho,hd,hk,_,hm⟩:=n
 refine ⟨o,ho,fun name=>?_⟩
 have e:=hm name
 unfold nsFind findBy at e
 rw [← Array.find?_toList] at e
 unfold PySem.W.lookIn
 rw [hd]
 dsimp only
 split
 ·rename_i y q
  rw [q] at e
  exact congrArg some e
 ·rename_i q
  rw [q] at e
  have a:es.toList.any (·.refKey)=false:=by
   rw [List.any_eq_false]
   intro y hy
   obtain ⟨z,t,hkey⟩:=hk y (Array.mem_toList_iff.mp hy)
   simp [DictEntry.refKey,hkey]
  have a':¬ es.toList.any (·.refKey)=true:=by rw [a]; exact Bool.false_ne_true
  rw [if_neg a']
  exact congrArg some e
theorem Oa.look {h:Heap} {x dx C:Addr} {mA:Str->Option Value} (I:Oa h x dx C mA):∃ od,PySem.W.InstAt h x (PySem.W.instObj C dx) C (some od)/\∀ name,PySem.W.lookIn name od=some (mA name) :=
 let ⟨od,ho,hl⟩:=KN I.ns
 ⟨od,⟨I.obj,rfl,rfl,ho⟩,hl⟩
section
variable {prog:Program} {w:World} {A:Around} {E:Value->Shared->Prop} {s:Shared} {K:PySem.W.Frag} {x dx C f:Addr} {mA:Str->Option Value} {name:Str} {v:Value}
theorem VH {expr:Bool} {Q:Value->Shared->Prop} (X:K.In s.heap) (I:Oa s.heap x dx C mA) (hg:PySem.W.plainGet K C name=true) (hh:PySem.W.hasDictIn K C=true)
  (ha:PySem.W.findIn K (.ref C) name=some none) (hv:mA name=some v) (hv':PySem.W.handedIn v=true) (h:Q v { s with toks:=s.toks+1 }) :
  wpAny (model prog w) A (getAttr (.ref x) name expr) Q E s:=by
 obtain ⟨od,J,hl⟩:=I.look
 exact PySem.W.get_value X J (PySem.W.plainGet_of hg).1 (PySem.W.findObj_own hh ha rfl (by rw [hl,hv])) hv' h
theorem R4 {pl:Sem Bool} {Q:Value × List Value->Shared->Prop} (X:K.In s.heap) (I:Oa s.heap x dx C mA) (hg:PySem.W.plainGet K C name=true)
  (hf:PySem.W.findIn K (.ref C) name=some (some (.ref f))) (ht:PySem.W.isFn K (.ref f)=true) (hv:mA name=none) (h:Q (.ref f,[.ref x]) s) :
  wpAny (model prog w) A (getMethod (.ref x) name pl) Q E s:=by
 obtain ⟨od,J,hl⟩:=I.look
 exact PySem.W.method_fn X J (PySem.W.plainGet_of hg).1 (PySem.W.plainGet_of hg).2 hf (beq_iff_eq.mp ht) (by show (PySem.W.lookIn name od).map (·.isSome)=some false; rw [hl,hv]; rfl) h
theorem V9 {ns:List Str} {Q:Unit->Shared->Prop} (X:K.In s.heap) (I:Oa s.heap x dx C mA)
  (hs:PySem.W.findIn K (.ref C) "__setattr__" = some (some (.builtin "object.__setattr__"))) (hp:PySem.W.plainOver K C=true) (ht:PySem.W.takerIn K C name=some none) (hh:PySem.W.hasDictIn K C=true)
  (hw:PySem.Within mA ns) (hsz:ns.length<=sizeLine)
  (h:∀ h',Oa h' x dx C (fun y=>if y=name then some v else mA y)->Heap.SameBut dx s.heap h'->Q () { s with heap:=h',toks:=s.toks+2 }) :
  wpAny (model prog w) A (setAttr (.ref x) name v) Q E s:=by
 obtain ⟨od,J,hl⟩:=I.look
 refine PySem.W.set_plain X J hs (PySem.W.osa_open (s:={ s with toks:=s.toks+1 }) (r:=none) X J hp ht fun b=>?_)
 obtain ⟨cd,hc,hd'⟩:=PySem.W.any_some hh
 have hx:s.heap.get? x=some ⟨.ref C,some dx,.plain,#[]⟩:=I.obj
 refine wpAny_bind (wpAny_pure (wpAny_bind (wpAny_bind (wpAny_loadPart hx (wpAny_bind (PySem.W.Looks.here (s:={ s with toks:=s.toks+1 }) (PySem.W.looks_clsIn X hc) ?_))))))
 rw [hd']
 refine wpAny_pure (a:=some dx) (wpAny_bind (wpAny_pure (wpAny_bind ?_)))
 refine wpAny_nsSet1 (s:={ s with toks:=s.toks+1 }) I.ns fun h' hn2 hs2=>?_
 obtain ⟨oD,esD,epD,hoD,hdD,hcD⟩:=hn2.count (PySem.Within.cons name v hw)
 refine wpAny_bind (wpAny_lookBehind hoD (by rw [hdD]; exact pastItsLine_dict (Nat.le_trans hcD (by rw [List.length_cons]; omega))) ?_)
 exact wpAny_pure (h _ ⟨(hs2.2 _ (Ne.symm I.ne)).trans I.obj,hn2,I.ne⟩ hs2)
theorem UV {R:Result->Shared->Prop} {vs:List Value} {kw:List (Str × Value)} (X:K.In s.heap) (hm:PySem.W.makesIn K C=true)
  (hi:PySem.W.findIn K (.ref C) "__init__" = some (some (.ref f))) (hf:PySem.W.typeIn K (.ref f)=some (.type "function"))
  (h:codeAny (model prog w) (A.under (.builtin "type.__call__" ⟨.ref C::vs,kw⟩)) (.call (.ref f) ⟨.ref (s.heap.objs.size+1)::vs,kw⟩) (PySem.W.InitBack (s.heap.objs.size+1) R)
   { s with heap:=(s.heap.push PySem.W.emptyDict).push (PySem.W.instObj C s.heap.objs.size) }) :
  codeAny (model prog w) A (.call (.ref C) ⟨vs,kw⟩) R s:=by
 obtain ⟨hh,g,d,t,os⟩:=s
 exact PySem.W.make_core (PySem.W.makes_of X hm) (PySem.W.looks_findIn X hi) (fun self=>PySem.W.bind_fn X self hf) (.inl rfl) h
end
noncomputable def BP (f:Str) (v:V):List (Str × V)->List (Str × V)
 | []=>[(f,v)]
 | (g,x)::r=>if g=f then (g,v)::r else (g,x)::BP f v r
theorem Ae (f g:Str) (v:V):∀ fs:List (Str × V),(BP f v fs).lookup g=if g=f then some v else fs.lookup g
 | []=>by
  show List.lookup g [(f,v)]=_
  by_cases h:g=f
  ·have hb:(g == f)=true:=beq_iff_eq.mpr h
   simp only [List.lookup,hb,if_pos h]
  ·have hb:(g == f)=false:=beq_eq_false_iff_ne.mpr h
   simp only [List.lookup,hb,if_neg h]
 | (k,x)::r=>by
  have ih:=Ae f g v r
  rw [show BP f v ((k,x)::r)=(if k=f then (k,v)::r else (k,x)::BP f v r) from rfl]
  by_cases hk:k=f
  ·rw [if_pos hk]
   by_cases h:g=k
   ·have hb:(g == k)=true:=beq_iff_eq.mpr h
    simp only [List.lookup,hb,if_pos (h.trans hk)]
   ·have hb:(g == k)=false:=beq_eq_false_iff_ne.mpr h
    simp only [List.lookup,hb,if_neg (fun e:g=f=>h (e.trans hk.symm))]
  ·rw [if_neg hk]
   by_cases h:g=k
   ·have hb:(g == k)=true:=beq_iff_eq.mpr h
    simp only [List.lookup,hb,if_neg (fun e:g=f=>hk (h.symm.trans e))]
   ·have hb:(g == k)=false:=beq_eq_false_iff_ne.mpr h
    simp only [List.lookup,hb]
    exact ih
theorem JC (f:Str) (v:V):∀ fs:List (Str × V),f∈(BP f v fs).map (·.1)/\∀ g,g∈fs.map (·.1)->g∈(BP f v fs).map (·.1)
 | []=>⟨by simp [BP],fun g h=>by simp at h⟩
 | (k,x)::r=>by
  obtain ⟨i1,i2⟩:=JC f v r
  rw [show BP f v ((k,x)::r)=(if k=f then (k,v)::r else (k,x)::BP f v r) from rfl]
  by_cases hk:k=f
  ·rw [if_pos hk]
   subst hk
   exact ⟨by simp,fun g h=>by simpa using h⟩
  ·rw [if_neg hk]
   refine ⟨?_,fun g h=>?_⟩
   ·rw [List.map_cons]
    exact List.mem_cons_of_mem _ i1
   ·rw [List.map_cons] at h ⊢
    rcases List.mem_cons.mp h with e | e
    ·exact List.mem_cons.mpr (.inl e)
    ·exact List.mem_cons_of_mem _ (i2 g e)
theorem JR (f:Str) (v:V):∀ fs:List (Str × V),(BP f v fs).length<=fs.length+1
 | []=>by simp [BP]
 | (k,x)::r=>by
  have ih:=JR f v r
  rw [show BP f v ((k,x)::r)=(if k=f then (k,v)::r else (k,x)::BP f v r) from rfl]
  by_cases hk:k=f
  ·rw [if_pos hk,List.length_cons,List.length_cons]; omega
  ·rw [if_neg hk,List.length_cons,List.length_cons]; omega
theorem Fp.some_of {v:V} {o:Option Value} (r:Fp (some v) o):∃ u,o=some u/\RelV v u:=by
 cases o with
 | none=>exact (show False from r).elim
 | some u=>exact ⟨u,rfl,r⟩
theorem Fp.none_of {o:Option Value} (r:Fp none o):o=none:=by
 cases o with
 | none=>rfl
 | some u=>exact (show False from r).elim
theorem RG {v:V} {u:Value} (r:RelV v u):PySem.W.handedIn u=true:=by
 cases v with
 | non=>cases (show u=Value.none from r); rfl
 | bl b=>cases (show u=Value.bool b from r); rfl
 | int i=>obtain ⟨t,e⟩:=(show ∃ t,u=Value.int i t from r); cases e; rfl
 | str x=>obtain ⟨t,e⟩:=(show ∃ t,u=Value.str x t from r); cases e; rfl
 | byt b=>obtain ⟨t,e⟩:=(show ∃ t,u=Value.bytes b t from r); cases e; rfl
 | flt b=>obtain ⟨t,e⟩:=(show ∃ t,u=Value.float b t from r); cases e; rfl
 | ref a=>cases (show u=Value.ref a from r); rfl
 | ty n=>cases (show u=Value.type n from r); rfl
section
variable {P:Program} {w:World} {H H':Hp} {h h':Heap} {a C dx:Addr} {fs fs':List (Str × V)}
theorem Jd (hok:Ef P w H h) (e:H a=some (.ins C dx fs)):∃ mA,Oa h a dx C mA/\(∀ f,Fp (fs.lookup f) (mA f))/\PySem.Within mA (fs.map (·.1))/\fs.length<=1000/\H dx=some (.own a):=by
 obtain ⟨d,z,ne,ob,mA,n,r,q⟩:=(show Bv P w H h a (.ins C dx fs) from hok a _ e)
 exact ⟨mA,⟨ob,n,ne⟩,r,q,z,d⟩
end
structure NQ (K:PySem.W.Frag) (C:Addr):Prop where
 pg:PySem.W.plainGet K C Str.empty=true
 hd:PySem.W.hasDictIn K C=true
 po:PySem.W.plainOver K C=true
 sa:PySem.W.findIn K (.ref C) "__setattr__" = some (some (.builtin "object.__setattr__"))
theorem NQ.get {K:PySem.W.Frag} {C:Addr} (c:NQ K C) (f:Str):PySem.W.plainGet K C f=true:=c.pg
noncomputable def CK (K:PySem.W.Frag) (C:Addr) (f:Str):Prop:=PySem.W.findIn K (.ref C) f=some none
theorem CK.taker {K:PySem.W.Frag} {C:Addr} {f:Str} (n:CK K C f):PySem.W.takerIn K C f=some none:=by
 unfold PySem.W.takerIn
 rw [show PySem.W.findIn K (.ref C) f=some none from n]
 rfl
structure Yo (K:PySem.W.Frag) (C:Addr) (f:Str) (v:V) (u:Value):Prop where
 at_:PySem.W.findIn K (.ref C) f=some (some u)
 rel:RelV v u
 get:PySem.W.specialIn K u "__get__" = some none
 cp:PySem.W.copiedNames.contains f=false
structure Meth (K:PySem.W.Frag) (C:Addr) (m:Str) (f:Addr):Prop where
 at_:PySem.W.findIn K (.ref C) m=some (some (.ref f))
 fn:PySem.W.isFn K (.ref f)=true
 kp:PySem.W.keepIn K (.ref f)=true
section
variable {X:Cx} {pins:List (Addr × Obj)} {σ:St} {H:Hp} {s:Shared} {a C dx:Addr} {fs:List (Str × V)} {f:Str} {v:V} {A:Around} {E:Value->Shared->Prop}
theorem Oh {b:Bool} {Q:Value->Shared->Prop} (I:Inv X pins σ H s) (e:H a=some (.ins C dx fs)) (c:NQ X.K C) (n:CK X.K C f) (l:fs.lookup f=some v)
  (h:∀ u s',Inv X pins σ H s'->RelV v u->Q u s'):wpAny (model X.prog X.w) A (getAttr (.ref a) f b) Q E s:=by
 obtain ⟨mA,O,r,_,_,_⟩:=Jd I.hok e
 obtain ⟨u,hu,ru⟩:=Fp.some_of (v:=v) (o:=mA f) (by rw [← l]; exact r f)
 exact VH I.GD O (c.get f) c.hd n hu (RG ru) (h u _ (I.tok _) ru)
theorem Es {m:Str} {g:Addr} {pl:Sem Bool} {Q:Value × List Value->Shared->Prop} (I:Inv X pins σ H s) (e:H a=some (.ins C dx fs)) (c:NQ X.K C) (k:Meth X.K C m g) (l:fs.lookup m=none)
  (h:Q (.ref g,[.ref a]) s):wpAny (model X.prog X.w) A (getMethod (.ref a) m pl) Q E s:=by
 obtain ⟨mA,O,r,_,_,_⟩:=Jd I.hok e
 have hn:mA m=none:=Fp.none_of (by rw [← l]; exact r m)
 exact R4 I.GD O (c.get m) k.at_ k.fn hn h
theorem PK {y:V} {u:Value} {Q:Unit->Shared->Prop} (I:Inv X pins σ H s) (e:H a=some (.ins C dx fs)) (c:NQ X.K C) (n:CK X.K C f) (hl:fs.length<1000) (ry:RelV y u)
  (h:∀ s',Inv X pins σ (upd H a (.ins C dx (BP f y fs))) s'->Q () s'):wpAny (model X.prog X.w) A (setAttr (.ref a) f u) Q E s:=by
 obtain ⟨mA,O,r,wi,_,ho⟩:=Jd I.hok e
 have hz:(fs.map (·.1)).length<=sizeLine:=by rw [List.length_map,sizeLine_eq]; omega
 refine V9 I.GD O c.sa c.po n.taker c.hd wi hz fun h' O' sb=>h _ ?_
 have hd:∃ o,h'.get? dx=some o:=let ⟨o,_,_,e',_⟩:=O'.ns; ⟨o,e'⟩
 refine I.write (x:=a) (e:=dx) (by rw [e]; exact True.intro) (.inr ho) (fun b q hb z=>(sb.2 b hb).trans z) hd ?_
 refine ⟨by rw [Al O.ne]; exact ho,?_,O.ne,O'.obj,_,O'.ns,fun g=>?_,fun g hg=>?_⟩
 ·have:=JR f y fs; omega
 ·show Fp ((BP f y fs).lookup g) (if g=f then some u else mA g)
  rw [Ae]
  by_cases q:g=f
  ·rw [if_pos q,if_pos q]; exact ry
  ·rw [if_neg q,if_neg q]; exact r g
 ·by_cases q:g=f
  ·rw [q]; exact (JC f y fs).1
  ·refine (JC f y fs).2 g (wi g fun z=>hg ?_)
   show (if g=f then some u else mA g)=none
   rw [if_neg q]; exact z
theorem Inv.made (I:Inv X pins σ H s):Inv X pins σ (upd (upd H s.heap.objs.size (.own (s.heap.objs.size+1))) (s.heap.objs.size+1) (.ins C s.heap.objs.size []))
  { s with heap:=(s.heap.push PySem.W.emptyDict).push (PySem.W.instObj C s.heap.objs.size) }:=by
 have e1:(s.heap.push PySem.W.emptyDict).get? s.heap.objs.size=some PySem.W.emptyDict:=Heap.get?_push_size s.heap rfl
 have e2:((s.heap.push PySem.W.emptyDict).push (PySem.W.instObj C s.heap.objs.size)).get? (s.heap.objs.size+1)=some (PySem.W.instObj C s.heap.objs.size):=by
  have:=Heap.get?_push_size (s.heap.push PySem.W.emptyDict) (o:=PySem.W.instObj C s.heap.objs.size) rfl
  rwa [Heap.size_push] at this
 have e3:(s.heap.push PySem.W.emptyDict).Ns s.heap.objs.size (fun _=>none):=⟨PySem.W.emptyDict,#[],_,e1,rfl,(fun e he=>absurd he (by simp)),fun _=>rfl⟩
 have I1:=I.laid (a:=s.heap.objs.size) (o:=.own (s.heap.objs.size+1)) (h':=s.heap.push PySem.W.emptyDict) (t':=s.toks) (fun b u q=>Heap.get?_push_of_some _ q) (Nat.le_refl _) ⟨_,e1⟩
 refine I1.laid (a:=s.heap.objs.size+1) (o:=.ins C s.heap.objs.size []) (t':=s.toks) (fun b u q=>Heap.get?_push_of_some _ q) (Nat.le_of_eq (Heap.size_push _ _)) ?_
 have ne:s.heap.objs.size ≠ s.heap.objs.size+1:=Nat.ne_of_lt (Nat.lt_succ_self _)
 refine ⟨by rw [Al ne,Ag],Nat.zero_le _,ne,e2,fun _=>none,(Heap.Ns1.of_empty e3).at fun o q=>Heap.get?_push_of_some _ q,fun _=>True.intro,fun y hy=>absurd rfl hy⟩
theorem Vk {prog:Program} {w:World} {env:Env} {e:Expr} {f:Str} {pos:Pos} {s:Shared} {Q:Value->Shared->Prop} (hb:attributeBase e f env (eval e env)=eval e env)
  (h:wpAny (model prog w) A (eval e env) (fun o s₁=>wpAny (model prog w) A (getAttr o f true) Q E s₁) E s):wpAny (model prog w) A (eval (.Attribute e f pos) env) Q E s :=
 Attribute_any_ h (by rw [arm_eval_Attribute,hb])
end
noncomputable def bw (K:PySem.W.Frag) (ta:TE) (f:Str):TE:=fun σ H Q=>ta σ H fun x H1=>∃ a C dx fs v,x=.ref a/\H1 a=some (.ins C dx fs)/\NQ K C/\CK K C f/\fs.lookup f=some v/\Q v H1
noncomputable def jz (K:PySem.W.Frag) (ta tv:TE) (f:Str):TS:=fun D σ H=>tv σ H fun y H1=>ta σ H1 fun x H2=>∃ a C dx fs,x=.ref a/\H2 a=some (.ins C dx fs)/\NQ K C/\CK K C f/\fs.length<1000 /\
 D.nx σ (upd H2 a (.ins C dx (BP f y fs)))
section
variable {X:Cx} {o e value:Expr} {f:Str} {pos pos' tpos:Pos} {ta tv:TE}
theorem Bf (he:PE X e ta) (hb:attributeBase e f X.env (eval e X.env)=eval e X.env):PE X (.Attribute e f pos) (bw X.K ta f):=by
 intro pins s σ H Q I h
 refine Vk hb (Bx (he pins s σ H _ I h) fun u s1 hq0=>?_)
 obtain ⟨x,H1,I1,rx,a,C,dx,fs,v,ex,ea,c,n,l,q⟩:=hq0
 subst ex
 obtain rfl:u=Value.ref a:=rx
 exact Oh I1 ea c n l fun u' s2 I2 ru=>⟨v,H1,I2,ru,q⟩
theorem Cm (ha:PE X o ta) (hv:PE X value tv) (hs:swapsWith value (some (.Attribute o f pos')) pos.line X.env=pure false):PS X (.Assign [.Attribute o f pos'] value pos) (jz X.K ta tv f):=by
 intro pins s σ H D I h
 refine plainObj_wpAny_Assign_Attribute (Bx (hv pins s σ H _ I h) fun u s1 ⟨y,H1,I1,ry,q⟩=>Bx (ha pins s1 σ H1 _ I1 q) fun ov s2 ⟨x,H2,I2,rx,a,C,dx,fs,ex,ea,c,n,l,q2⟩=>?_) hs
 subst ex
 obtain rfl:ov=Value.ref a:=rx
 exact PK I2 ea c n l ry fun s3 I3=>⟨σ,_,I3,q2⟩
end
section
variable {X:Cx} {pins:List (Addr × Obj)} {σ:St} {H:Hp} {s:Shared} {A:Around} {E:Value->Shared->Prop} {Q:Value->Shared->Prop} {c:Value} {b:Bool}
inductive IW (K:PySem.W.Frag) (H:Hp):V->Value->Prop where
 | non:IW K H .non (.type "NoneType")
 | bl (x:Bool):IW K H (.bl x) (.type "bool")
 | int (i:Int):IW K H (.int i) (.type "int")
 | str (x:Str):IW K H (.str x) (.type "str")
 | flt (x:UInt64):IW K H (.flt x) (.type "float")
 | lst {a:Addr} {xs:List V} (e:H a=some (.lst xs)):IW K H (.ref a) (.type "list")
 | frz {a:Addr} {o:Obj} {xs:List V} (e:H a=some (.frz o (.lst xs))):IW K H (.ref a) (.type "list")
 | tup {a:Addr} {xs:List V} (e:H a=some (.tup xs)):IW K H (.ref a) (.type "tuple")
 | dK {a:Addr} {kvs:List (Key × V)} (e:H a=some (.dK kvs)):IW K H (.ref a) (.type "dict")
 | dT {a:Addr} {kvs:List (List Key × V)} (e:H a=some (.dT kvs)):IW K H (.ref a) (.type "dict")
 | ins {a C dx:Addr} {fs:List (Str × V)} (e:H a=some (.ins C dx fs)) (cl:NQ K C) (ha:PySem.W.findIn K (.ref C) "__class__" = some (some (.builtin "object.__class__")))
   (hn:PySem.W.specialIn K (.builtin "object.__class__") "__get__" = some (some (.builtin "getset_descriptor.__get__"))) (htk:PySem.W.takesIn K (.builtin "object.__class__")=some true)
   (hm:PySem.W.mroIn K C (.type "object")=some true):IW K H (.ref a) (.ref C)
theorem RK {x:V} {u t:Value} (I:Inv X pins σ H s) (rx:RelV x u) (ty:IW X.K H x t) (e:PySem.W.kitOne X.K t c=some b) (h:∀ tk,Q (.bool b) { s with toks:=tk }) :
  wpAny (model X.prog X.w) A (call (.builtin "isinstance") [u,c]) Q E s:=by
 cases ty with
 | non=>cases (show u=Value.none from rx); exact PySem.W.kia_one PySem.W.kitx_none I.GD True.intro e (fun z=>nomatch z) h
 | bl y=>cases (show u=Value.bool y from rx); exact PySem.W.kia_one PySem.W.kitx_bool I.GD True.intro e (fun z=>nomatch z) h
 | int i=>obtain ⟨t,q⟩:=(show ∃ t,u=Value.int i t from rx); cases q; exact PySem.W.kia_one PySem.W.kitx_int I.GD True.intro e (fun z=>nomatch z) h
 | str y=>obtain ⟨t,q⟩:=(show ∃ t,u=Value.str y t from rx); cases q; exact PySem.W.kia_one PySem.W.kitx_str I.GD True.intro e (fun z=>nomatch z) h
 | flt y=>obtain ⟨t,q⟩:=(show ∃ t,u=Value.float y t from rx); cases q; exact PySem.W.kia_one PySem.W.kitx_float I.GD True.intro e (fun z=>nomatch z) h
 | @lst a xs ea =>
  cases (show u=Value.ref a from rx)
  obtain ⟨_,_,n,_,h1⟩:=(show Bv X.prog X.w H s.heap a (.lst xs) from I.hok a _ ea)
  exact PySem.W.kia_one PySem.W.kitx_list I.GD ⟨_,h1,rfl⟩ e (fun z=>nomatch z) h
 | @frz a ob xs ea =>
  cases (show u=Value.ref a from rx)
  obtain ⟨_,_,_,n,_,h1⟩:=(show Bv X.prog X.w H s.heap a (.frz ob (.lst xs)) from I.hok a _ ea)
  exact PySem.W.kia_one PySem.W.kitx_list I.GD ⟨_,h1,rfl⟩ e (fun z=>nomatch z) h
 | @tup a xs ea =>
  cases (show u=Value.ref a from rx)
  obtain ⟨_,_,_,p⟩:=(show Bv X.prog X.w H s.heap a (.tup xs) from I.hok a _ ea)
  obtain ⟨o,h1,h2,_⟩:=p
  exact PySem.W.kia_one PySem.W.kitx_tuple I.GD ⟨o,h1,h2⟩ e (fun z=>nomatch z) h
 | @dK a kvs ea =>
  cases (show u=Value.ref a from rx)
  obtain ⟨_,_,vs,_,p⟩:=(show Bv X.prog X.w H s.heap a (.dK kvs) from I.hok a _ ea)
  obtain ⟨o,es,ep,h1,h2,_⟩:=p
  exact PySem.W.kia_one PySem.W.kitx_dict I.GD ⟨o,h1,h2.1⟩ e (fun z=>nomatch z) h
 | @dT a kvs ea =>
  cases (show u=Value.ref a from rx)
  obtain ⟨_,_,xs,_,o,es,ep,h1,h2,_⟩:=(show Bv X.prog X.w H s.heap a (.dT kvs) from I.hok a _ ea)
  exact PySem.W.kia_one PySem.W.kitx_dict I.GD ⟨o,h1,h2.1⟩ e (fun z=>nomatch z) h
 | @ins a C dx fs ea cl ha hn htk hm =>
  cases (show u=Value.ref a from rx)
  obtain ⟨mA,O,_⟩:=Jd I.hok ea
  obtain ⟨od,J,_⟩:=O.look
  exact PySem.W.kia_one (PySem.W.kitx_own (cl.get _) cl.hd ha hn htk hm) I.GD J e (fun z=>nomatch z) h
end
end L2
namespace L2
open PySem PySem.Spec PyProof.Rows
structure BW (k:Nat) (A:Around):Prop where
 hd:A.handled=none
 dp:A.depth+3 * k+5<recursionLimit
 un:A.units+16 * k+200<cLine
theorem BW.mono {j k:Nat} {A:Around} (r:BW k A) (h:j<=k):BW j A:=⟨r.hd,by have:=r.dp; omega,by have:=r.un; omega⟩
theorem BW.deeper {k:Nat} {A:Around} (r:BW (k+1) A) (env:Env):BW k (A.deeper env) :=
 ⟨r.hd,by have:=r.dp; show A.depth+1+3 * k+5<_; omega,by have:=r.un; show A.units+3+16 * k+200<_; omega⟩
theorem N8 {A:Around} {C:Addr} {us:List Value} {kw:List (Str × Value)}:(A.under (.builtin "type.__call__" ⟨.ref C::us,kw⟩)).depth=A.depth+1:=by
 first | rfl | simp [Around.under,Code.weight,Code.isCreation,Code.isGuard,Code.isCaller,Code.frames,Code.isFrame,guardIds]
theorem O_ {A:Around} {C:Addr} {us:List Value} {kw:List (Str × Value)}:(A.under (.builtin "type.__call__" ⟨.ref C::us,kw⟩)).units=A.units+1:=by
 first | rfl | simp [Around.under,Code.cUnits,Code.frames,Code.isFrame]
theorem BW.make {k:Nat} {A:Around} (r:BW (k+1) A) (C:Addr) (us:List Value) (kw:List (Str × Value)):BW k (A.under (.builtin "type.__call__" ⟨.ref C::us,kw⟩)) :=
 ⟨r.hd,by have:=r.dp; rw [N8]; omega,by have:=r.un; rw [O_]; omega⟩
theorem BW.depth {k:Nat} {A:Around} (r:BW k A):A.depth<recursionLimit:=by have:=r.dp; omega
theorem BW.units {k:Nat} {A:Around} (r:BW k A):A.units+64<cLine:=by have:=r.un; omega
noncomputable def Z9:TA:=fun _ H Q=>Q [] H
noncomputable def Wz (ta:TE) (tr:TA):TA:=fun σ H Q=>ta σ H fun x H1=>tr σ H1 fun xs H2=>Q (x::xs) H2
section
variable {X:Cx} {e:Expr} {es:List Expr} {te:TE} {t:TA} {pos:Pos}
theorem Aa:PA X [] Z9:=fun _ _ _ _ H Q I h=>Calls.spliced_nil ⟨[],H,I,.nil,h⟩
theorem Ab (ha:PE X e te) (hr:PA X es t) (hs:starEach (e::es) X.env=(false,eval e X.env)::starEach es X.env:=by rfl):PA X (e::es) (Wz te t):=by
 intro pos pins s σ H Q I h
 rw [hs]
 show wpAny _ _ (spliced ((false,eval e X.env)::backTo pos (starEach es X.env))) _ _ s
 refine Calls.spliced_cons (Bx (ha pins s σ H _ I h) fun u s1 hq0=>?_)
 obtain ⟨x,H1,I1,r1,q1⟩:=hq0
 exact Bx (hr pos pins s1 σ H1 _ I1 q1) fun us s2 ⟨xs,H2,I2,r2,q2⟩=>⟨x::xs,H2,I2,.cons r1 r2,q2⟩
noncomputable def jb (t:TA):TE:=fun σ H Q=>t σ H fun xs H1=>xs.length<=sizeLine/\∀ p,H1 p=none->Q (.ref p) (upd H1 p (.tup xs))
noncomputable def gU (t:TA):TE:=fun σ H Q=>t σ H fun xs H1=>xs.length<=sizeLine/\∀ p,H1 p=none->Q (.ref p) (upd H1 p (.lst xs))
theorem Bq {x1} (h:PA X es t):PE X (.Tuple es x1 pos) (jb t):=by
 intro pins s σ H Q I hq
 refine wpAny_Tuple_spliced (Bx (h pos pins s σ H _ I hq) fun us s1 ⟨xs,H1,I1,r,z,q⟩=>⟨by rw [← r.length]; exact z,?_⟩)
 have hf:H1 s1.heap.objs.size=none:=I1.hok.fresh (Nat.le_refl _)
 refine ⟨.ref s1.heap.objs.size,upd H1 s1.heap.objs.size (.tup xs),I1.laid (t':=s1.toks) (fun b u e=>Heap.get?_push_of_some _ e) (Nat.le_refl _) ?_,rfl,q _ hf⟩
 exact ⟨z,us,r,⟨_,Heap.get?_push_size _ rfl,rfl,_,rfl⟩⟩
theorem Cv (h:PA X es t):PE X (.List es pos) (gU t):=by
 intro pins s σ H Q I hq
 refine wpAny_List_spliced (Bx (h pos pins s σ H _ I hq) fun us s1 ⟨xs,H1,I1,r,z,q⟩=>⟨by rw [← r.length]; exact z,?_⟩)
 have hf:H1 s1.heap.objs.size=none:=I1.hok.fresh (Nat.le_refl _)
 refine ⟨.ref s1.heap.objs.size,upd H1 s1.heap.objs.size (.lst xs),I1.laid (t':=s1.toks) (fun b u e=>Heap.get?_push_of_some _ e) (Nat.le_refl _) ?_,rfl,q _ hf⟩
 exact ⟨z,us,0,r,Heap.get?_push_size _ rfl⟩
end
noncomputable abbrev Sp:=List V->Hp->VK->XK->Prop
noncomputable abbrev L_:=List Env->Hp->Shared->XK->Value->Shared->Prop
structure Ld (P:Program) (w:World) (K:PySem.W.Frag) (mg:Str->Option Value) (base:Heap) (A:Around) (outer:List Env) (s:Shared) (H:Hp):Prop where
 frames:A.frames=some outer
 mod:Mod K mg base
 bs:∀ b o,base.get? b=some o->s.heap.get? b=some o/\H b=none
 bsz:base.objs.size<=s.heap.objs.size
 Hc:s.heap.FunFrames base outer
 frf:∀ b∈frs outer,H b=none
 hok:Ef P w H s.heap
 bare:AllBare s.gens
noncomputable def CE (outer:List Env) (P:Program) (w:World) (H:Hp) (s:Shared) (Q:VK) (u:Value) (s':Shared):Prop :=
 ∃ v H',s'.os=s.os/\AllBare s'.gens/\Un (frs outer) [] H H' s.heap s'.heap/\Ef P w H' s'.heap/\RelV v u/\Q v H'
noncomputable def CR (CX:L_) (outer:List Env) (P:Program) (w:World) (H:Hp) (s:Shared) (Q:VK) (E:XK) (r:Result) (s':Shared):Prop :=
 match r with
 | .ok (.ret u)=>CE outer P w H s Q u s'
 | .ok _=>False
 | .error e=>CX outer H s E e s'
structure Ar (P:Program) (w:World) (K:PySem.W.Frag) (mg:Str->Option Value) (base:Heap) (CX:L_) (k:Nat) (f:Addr) (fd:FuncData) (ps:List Str) (sp:Sp):Prop where
 len:∀ vs H Q E,sp vs H Q E->vs.length=ps.length
 run:∀ (A:Around) (outer:List Env) (s:Shared) (H:Hp) (args:Args) (us:List Value) (vs:List V) (Q:VK) (E:XK),BW k A->Ld P w K mg base A outer s H->BindsTo s fd args (ps.zip us)->Vals vs us->sp vs H Q E ->
  codeAny (model P w) A (.call (.ref f) args) (CR CX outer P w H s Q E) s
theorem Ld.make {P:Program} {w:World} {K:PySem.W.Frag} {mg:Str->Option Value} {base:Heap} {A:Around} {outer:List Env} {s:Shared} {H:Hp} (e:Ld P w K mg base A outer s H) (C:Addr) (us:List Value) (kw:List (Str × Value)) :
  Ld P w K mg base (A.under (.builtin "type.__call__" ⟨.ref C::us,kw⟩)) outer s H:=⟨by first | exact e.frames | (simpa [Around.under,Code.envs,Code.isFrame,pushEnvs] using e.frames),e.mod,e.bs,e.bsz,e.Hc,e.frf,e.hok,e.bare⟩
section
variable {X:Cx} {pins:List (Addr × Obj)} {σ:St} {H:Hp} {s s':Shared}
theorem Inv.env0 (I:Inv X pins σ H s):Ld X.prog X.w X.K X.mg X.base X.A X.stack s H :=
 ⟨I.ok.frames,I.ok.mod,I.bs,Nat.le_trans I.ok.bsz I.sz,I.stack,I.G7,I.hok,I.bare⟩
theorem Inv.after {Q:VK} {u:Value} (I:Inv X pins σ H s) (h:CE X.stack X.prog X.w H s Q u s'):EP X pins σ Q u s':=by
 obtain ⟨v,H',os,bare,un,hok,r,q⟩:=h
 obtain ⟨hh,g,d,t,os'⟩:=s'
 obtain rfl:os'=s.os:=os
 exact ⟨v,H',I.call (h':=hh) (g':=g) (d':=d) (t':=t) (ch:=[]) un hok bare (fun b z=>absurd z (by simp)),r,q⟩
end
noncomputable def Uo (sp:Sp) (dvs:List V) (E:XK) (t:TA):TE:=fun σ H Q=>t σ H fun vs H1=>sp (vs++dvs) H1 Q E
noncomputable def Tt (C:Addr) (m:Str) (sp:Sp) (dvs:List V) (E:XK) (ta:TE) (t:TA):TE:=fun σ H Q=>ta σ H fun x H1=>∃ a dx fs,x=.ref a/\H1 a=some (.ins C dx fs)/\fs.lookup m=none /\
 t σ H1 fun vs H2=>sp (x::(vs++dvs)) H2 Q E
noncomputable def cQ (C:Addr) (sp:Sp) (dvs:List V) (E:XK) (t:TA):TE:=fun σ H Q=>t σ H fun vs H1=>∀ x dx,H1 x=none->H1 dx=none->dx ≠ x ->
 sp (.ref x::(vs++dvs)) (upd (upd H1 dx (.own x)) x (.ins C dx [])) (fun v H2=>v=.non/\Q (.ref x) H2) E
noncomputable def Binds (K:PySem.W.Frag) (fd:FuncData) (ps:List Str) (ds:List Value):Prop :=
 ∀ (s:Shared) (us:List Value),K.In s.heap->(us++ds).length=ps.length->BindsTo s fd ⟨us,[]⟩ (ps.zip (us++ds))
theorem Binds.all {K:PySem.W.Frag} {fd:FuncData} {ps:List Str} (h:∀ us:List Value,us.length=ps.length->bindArgs fd ⟨us,[]⟩=pure (ps.zip us)):Binds K fd ps []:=fun s us _ hl=>by
 rw [List.append_nil] at hl ⊢
 exact .of_eq (h us hl)
noncomputable def Ew (CX:L_) (X:Cx) (E:XK):Prop:=∀ (pins:List (Addr × Obj)) (σ:St) (H:Hp) (s:Shared) (e:Value) (s':Shared),Inv X pins σ H s->CX X.stack H s E e s'->X.xe e s'
section
variable {X:Cx} {CX:L_} {k:Nat} {f C:Addr} {fd:FuncData} {ps:List Str} {sp:Sp} {dvs:List V} {ds:List Value} {E:XK} {x m:Str} {p pos apos:Pos} {e o:Expr} {es:List Expr} {ta:TE} {t:TA}
theorem Ip {pins:List (Addr × Obj)} {σ:St} {H:Hp} {s:Shared} {Q:VK} {us:List Value} {vs:List V} (F:Ar X.prog X.w X.K X.mg X.base CX k f fd ps sp) (hr:BW k X.A) (hb:Binds X.K fd ps ds) (hd:Vals dvs ds) (hx:Ew CX X E)
  (I:Inv X pins σ H s) (r:Vals vs us) (h:sp (vs++dvs) H Q E):wpAny (model X.prog X.w) X.A (call (.ref f) us) (EP X pins σ Q) X.xe s:=by
 have r2:Vals (vs++dvs) (us++ds):=r.append hd
 have hl:(us++ds).length=ps.length:=by rw [← r2.length]; exact F.len _ _ _ _ h
 refine wpAny_call (codeAny_mono (F.run X.A X.stack s H ⟨us,[]⟩ (us++ds) (vs++dvs) Q E hr I.env0 (hb s us I.GD hl) r2 h) fun r s' hq=>?_)
 cases r with
 | error e=>exact hx pins σ H s e s' I hq
 | ok fl =>
  cases fl with
  | ret u=>exact I.after hq
  | next=>exact False.elim hq
  | brk=>exact False.elim hq
  | cont=>exact False.elim hq
theorem Am (F:Ar X.prog X.w X.K X.mg X.base CX k f fd ps sp) (hr:BW k X.A) (hg:Gl X x) (hm:X.mg x=some (.ref f)) (hk:PySem.W.keepIn X.K (.ref f)=true) (hb:Binds X.K fd ps ds) (hd:Vals dvs ds) (hx:Ew CX X E)
  (ha:PA X (e::es) t) (hdb:(x == ("__debug__" : Str))=false:=by decide) (he:starEach (e::es) X.env=(false,eval e X.env)::starEach es X.env:=by rfl) (hpl:(backTo pos (starEach es X.env)).any (·.1)=false:=by rfl) :
  PE X (.Call (.Name x p) (e::es) [] pos) (Uo sp dvs E t):=by
 intro pins s σ H Q I h
 refine wpAny_Call_Name_kw (Gx I hg hm ?_ hdb)
 refine PySem.W.callWith_K (h₀:=X.base) I.ok.mod.kin hk (Bx (ha pos pins s σ H _ I h) fun us s1 ⟨vs,H1,I1,r,q⟩=>⟨I1.GD,?_⟩) he hpl
 exact Ip F hr hb hd hx I1 r q
theorem GJ {pl:Sem Bool} (he:PE X o ta) (c:NQ X.K C) (hm:Meth X.K C m f) (F:Ar X.prog X.w X.K X.mg X.base CX k f fd ps sp) (hr:BW k X.A) (hb:Binds X.K fd ps ds) (hd:Vals dvs ds) (hx:Ew CX X E) (ha:PA X (e::es) t)
  (hst:starEach (e::es) X.env=(false,eval e X.env)::starEach es X.env:=by rfl) (hpl:(backTo pos (starEach es X.env)).any (·.1)=false:=by rfl)
  (ht:eval (.Call (.Attribute o m apos) (e::es) [] pos) X.env=(do
   let ov ← eval o X.env
   standAt apos.atName
   let (f,first) ← holding [ov] (getMethod ov m pl)
   callWith pos f first (backTo pos (starEach (e::es) X.env)) (backToKw pos (keywordEach [] X.env))):=by rfl) :
  PE X (.Call (.Attribute o m apos) (e::es) [] pos) (Tt C m sp dvs E ta t):=by
 intro pins s σ H Q I h
 refine PySem.W.methodCall_KW (pl:=pl) (Bx (he pins s σ H _ I h) fun u s1 ⟨x,H1,I1,rx,a,dx,fs,ex,ea,l,q⟩=>?_) ht
 subst ex
 obtain rfl:u=Value.ref a:=rx
 refine Es I1 ea c hm l ?_
 refine PySem.W.callWith_K (first:=[.ref a]) (h₀:=X.base) I.ok.mod.kin hm.kp (Bx (ha pos pins s1 σ H1 _ I1 q) fun us s2 ⟨vs,H2,I2,r,q2⟩=>⟨I2.GD,?_⟩) hst hpl
 exact Ip (us:=.ref a::us) (vs:=.ref a::vs) F hr hb hd hx I2 (.cons rfl r) q2
theorem Ep {pl:Sem Bool} (he:PE X o ta) (c:NQ X.K C) (hm:Meth X.K C m f) (F:Ar X.prog X.w X.K X.mg X.base CX k f fd ps sp) (hr:BW k X.A) (hb:Binds X.K fd ps ds) (hd:Vals dvs ds) (hx:Ew CX X E)
  (ht:eval (.Call (.Attribute o m apos) [] [] pos) X.env=(do
   let ov ← eval o X.env
   standAt apos.atName
   let (f,first) ← holding [ov] (getMethod ov m pl)
   callWith pos f first (backTo pos (starEach [] X.env)) (backToKw pos (keywordEach [] X.env))):=by rfl) :
  PE X (.Call (.Attribute o m apos) [] [] pos) (Tt C m sp dvs E ta Z9):=by
 intro pins s σ H Q I h
 refine PySem.W.methodCall_KW (pl:=pl) (Bx (he pins s σ H _ I h) fun u s1 ⟨x,H1,I1,rx,a,dx,fs,ex,ea,l,q⟩=>?_) ht
 subst ex
 obtain rfl:u=Value.ref a:=rx
 refine Es I1 ea c hm l ?_
 exact PySem.W.callWith_K0 (first:=[.ref a]) I1.GD hm.kp (Ip (us:=[.ref a]) (vs:=[.ref a]) F hr hb hd hx I1 (.cons rfl .nil) q)
structure Mk (K:PySem.W.Frag) (C f:Addr):Prop where
 makes:PySem.W.makesIn K C=true
 init:PySem.W.findIn K (.ref C) "__init__" = some (some (.ref f))
 fn:PySem.W.isFn K (.ref f)=true
 kp:PySem.W.keepIn K (.ref C)=true
theorem Ui {pins:List (Addr × Obj)} {σ:St} {H:Hp} {s:Shared} {Q:VK} {us:List Value} {vs:List V} (M:Mk X.K C f) (F:Ar X.prog X.w X.K X.mg X.base CX k f fd ps sp) (hr:BW (k+1) X.A) (hb:Binds X.K fd ps ds) (hd:Vals dvs ds)
  (hx:Ew CX X E) (I:Inv X pins σ H s) (r:Vals vs us)
  (h:∀ x dx,H x=none->H dx=none->dx ≠ x->sp (.ref x::(vs++dvs)) (upd (upd H dx (.own x)) x (.ins C dx [])) (fun v H2=>v=.non/\Q (.ref x) H2) E) :
  wpAny (model X.prog X.w) X.A (call (.ref C) us) (EP X pins σ Q) X.xe s:=by
 have hq:=h (s.heap.objs.size+1) s.heap.objs.size (I.hok.fresh (Nat.le_succ _)) (I.hok.fresh (Nat.le_refl _)) (Nat.ne_of_lt (Nat.lt_succ_self _))
 have I2:=Inv.made (C:=C) I
 have r2:Vals (V.ref (s.heap.objs.size+1)::(vs++dvs)) (Value.ref (s.heap.objs.size+1)::(us++ds)):=.cons rfl (r.append hd)
 have hl:(Value.ref (s.heap.objs.size+1)::us++ds).length=ps.length:=by
  have e:=r2.length
  rw [F.len _ _ _ _ hq] at e
  exact e.symm
 refine wpAny_call (UV (f:=f) I.GD M.makes M.init (beq_iff_eq.mp M.fn) (codeAny_mono (F.run _ X.stack _ _ ⟨Value.ref (s.heap.objs.size+1)::us,[]⟩ (Value.ref (s.heap.objs.size+1)::(us++ds)) _ _ E (hr.make C us [])
  (I2.env0.make C us []) (hb _ (Value.ref (s.heap.objs.size+1)::us) I2.GD hl) r2 hq) fun r s' hq'=>?_))
 cases r with
 | error e=>exact hx pins σ _ _ e s' I2 hq'
 | ok fl =>
  cases fl with
  | ret u =>
   obtain ⟨v,H',I3,rv,ev,q3⟩:=I2.after hq'
   subst ev
   exact ⟨rv,⟨V.ref (s.heap.objs.size+1),H',I3,rfl,q3⟩⟩
  | next=>exact False.elim hq'
  | brk=>exact False.elim hq'
  | cont=>exact False.elim hq'
theorem Fw (M:Mk X.K C f) (F:Ar X.prog X.w X.K X.mg X.base CX k f fd ps sp) (hr:BW (k+1) X.A) (hg:Gl X x) (hm:X.mg x=some (.ref C)) (hb:Binds X.K fd ps ds) (hd:Vals dvs ds) (hx:Ew CX X E)
  (ha:PA X (e::es) t) (hdb:(x == ("__debug__" : Str))=false:=by decide) (he:starEach (e::es) X.env=(false,eval e X.env)::starEach es X.env:=by rfl) (hpl:(backTo pos (starEach es X.env)).any (·.1)=false:=by rfl) :
  PE X (.Call (.Name x p) (e::es) [] pos) (cQ C sp dvs E t):=by
 intro pins s σ H Q I h
 refine wpAny_Call_Name_kw (Gx I hg hm ?_ hdb)
 refine PySem.W.callWith_K (h₀:=X.base) I.ok.mod.kin M.kp (Bx (ha pos pins s σ H _ I h) fun us s1 ⟨vs,H1,I1,r,q⟩=>⟨I1.GD,?_⟩) he hpl
 exact Ui M F hr hb hd hx I1 r q
end
section
variable {X:Cx} {CX:L_} {k:Nat} {f C:Addr} {fd:FuncData} {ps ks:List Str} {sp:Sp} {E:XK} {x m:Str} {p pos apos kpos:Pos} {e o:Expr} {es:List Expr} {kws:List Keyword} {te ta:TE} {t tk:TA} {nm:Option Str}
variable {g:List Value->List Value->List Value} {gV:List V->List V->List V}
end
structure Aq (N P:List Str) (sc:Scope):Prop where
 kind:sc.kind=.function
 co:sc.isCoroutine=false
 gen:sc.isGenerator=false
 nd:N.Nodup
 pre:N.take P.length=P
 par:∀ x∈P,sc.names.lookup x=some .local \/ sc.names.lookup x=some .cell
 nofree:∀ y∈sc.names,y.2 ≠ .free
theorem Bp {N P:List Str} {sc:Scope} (a:sc.kind=.function:=by rfl) (b:sc.isCoroutine=false:=by rfl) (c:sc.isGenerator=false:=by rfl) (d:N.Nodup:=by decide +kernel) (e:N.take P.length=P:=by rfl) (f:∀ x∈P,sc.names.lookup x=some .local \/ sc.names.lookup x=some .cell:=by decide +kernel) (g:∀ y∈sc.names,y.2 ≠ .free:=by decide +kernel):Aq N P sc:=⟨a,b,c,d,e,f,g⟩
theorem Kq {kindOf:Str->Option NameKind} {x:Str}:∀ {binds:List (Str × Value)} {m:Str->Option Value},(∀ v,(x,v) ∉ binds)->bindL kindOf binds m x=m x
 | [],_,_=>rfl
 | (n,v)::r,m,h=>by
  unfold bindL
  rw [Kq fun w hw=>h w (List.mem_cons_of_mem _ hw)]
  split
  ·have:x ≠ n:=by rintro rfl; exact h v List.mem_cons_self
   simp [this]
  ·rfl
theorem Ke {kindOf:Str->Option NameKind} {x:Str}:∀ {binds:List (Str × Value)} {m:Str->Option Value},(∀ v,(x,v) ∉ binds)->bindC kindOf binds m x=m x
 | [],_,_=>rfl
 | (n,v)::r,m,h=>by
  unfold bindC
  rw [Ke fun w hw=>h w (List.mem_cons_of_mem _ hw)]
  split
  ·rfl
  ·have:x ≠ n:=by rintro rfl; exact h v List.mem_cons_self
   simp [this]
theorem Kf {kindOf:Str->Option NameKind} {x:Str} {v:Value}:∀ {P:List Str} {vs:List Value} {i:Nat} {m:Str->Option Value},P.Nodup->P[i]? = some x->vs[i]? = some v->kindOf x=some .local ->
  bindL kindOf (P.zip vs) m x=some v
 | [],_,_,_,_,h,_,_=>by simp at h
 | _::_,[],_,_,_,_,h,_=>by simp at h
 | p::P,w::vs,0,m,nd,h1,h2,hk=>by
  simp at h1 h2; subst h1; subst h2
  show bindL kindOf ((p,w)::P.zip vs) m p=_
  unfold bindL
  rw [Kq fun v hv=>(List.nodup_cons.mp nd).1 (List.of_mem_zip hv).1,if_pos hk]
  simp
 | p::P,w::vs,i+1,m,nd,h1,h2,hk=>by
  show bindL kindOf ((p,w)::P.zip vs) m x=_
  unfold bindL
  exact Kf (i:=i) (List.nodup_cons.mp nd).2 (by simpa using h1) (by simpa using h2) hk
theorem KZ {kindOf:Str->Option NameKind} {x:Str} {v:Value}:∀ {P:List Str} {vs:List Value} {i:Nat} {m:Str->Option Value},P.Nodup->P[i]? = some x->vs[i]? = some v->kindOf x ≠ some .local ->
  bindC kindOf (P.zip vs) m x=some v
 | [],_,_,_,_,h,_,_=>by simp at h
 | _::_,[],_,_,_,_,h,_=>by simp at h
 | p::P,w::vs,0,m,nd,h1,h2,hk=>by
  simp at h1 h2; subst h1; subst h2
  show bindC kindOf ((p,w)::P.zip vs) m p=_
  unfold bindC
  rw [Ke fun v hv=>(List.nodup_cons.mp nd).1 (List.of_mem_zip hv).1,if_neg hk]
  simp
 | p::P,w::vs,i+1,m,nd,h1,h2,hk=>by
  show bindC kindOf ((p,w)::P.zip vs) m x=_
  unfold bindC
  exact KZ (i:=i) (List.nodup_cons.mp nd).2 (by simpa using h1) (by simpa using h2) hk
noncomputable def start (N:List Str) (vs:List V):St:=vs.map some++List.replicate (N.length - vs.length) none
noncomputable def JV (CX:L_) (P:Program) (w:World) (K:PySem.W.Frag) (mg:Str->Option Value) (base:Heap) (N:List Str) (qual:Str) (scope:Scope) (f:Addr) (cd:Value) (A:Around) (outer:List Env) (s:Shared) (H:Hp) (E:XK):Cx where
 prog:=P
 w:=w
 K:=K
 mg:=mg
 base:=base
 A:=A.deeper (envOfC qual scope s.heap.objs.size f cd)
 N:=N
 s₀:=s
 H₀:=H
 env:=envOfC qual scope s.heap.objs.size f cd
 outer:=outer
 stack:=envOfC qual scope s.heap.objs.size f cd::outer
 ex:=[]
 calm:=true
 fn:=fun _=>true
 pn:=[]
 xe:=fun e s'=>wpAny (model P w) (A.deeper (envOfC qual scope s.heap.objs.size f cd)) (leaving (envOfC qual scope s.heap.objs.size f cd) e) (fun _ s''=>CX outer H s E e s'') (fun e' s''=>CX outer H s E e' s'') s'
theorem Mf {sc:Scope} {n:Nat} {x:Str} (h:sc.names.lookup x=some .cell):∃ c,(cellsFrom n sc.names []).lookup x=some c:=by
 have q:=PySem.W.cellsFrom_some sc.names n [] (.inl h)
 exact Option.isSome_iff_exists.mp q
theorem Km {CX:L_} {P:Program} {w:World} {K:PySem.W.Frag} {mg:Str->Option Value} {base:Heap} {N ps:List Str} {qual:Str} {scope:Scope} {f:Addr} {cd:Value} {A:Around} {outer:List Env} {s s1:Shared} {H:Hp} {E:XK} {us:List Value} {vs:List V}
  (S:Aq N ps scope) (hd:A.handled=none) (e0:Ld P w K mg base A outer s H) (hl:vs.length=ps.length) (r:Vals vs us)
  (x:InCallC s s.heap.objs.size (bindL (envOfC qual scope s.heap.objs.size f cd).kindOf (ps.zip us) fun _=>none) (cellsFrom (s.heap.objs.size+1) scope.names []) (bindC (envOfC qual scope s.heap.objs.size f cd).kindOf (ps.zip us) fun _=>none) s1) :
  Inv (JV CX P w K mg base N qual scope f cd A outer s H E) [] (start N vs) H s1:=by
 have hpl:ps.length<=N.length:=by have:=congrArg List.length S.pre; rw [List.length_take] at this; omega
 obtain ⟨h1,tk,rfl,hk⟩:=x.done
 have noA:∀ b:Addr,b ∉ (JV CX P w K mg base N qual scope f cd A outer s H E).ex:=fun b z=>absurd (show b∈([]:List Addr) from z) (by simp)
 refine ⟨⟨e0.mod,S.kind,rfl,rfl,Nat.le_refl _,fun y z c h1 h2=>?_,fun y hy=>?_,fun y c _ h=>?_,fun _=>hd,Around.frames_deeper e0.frames,.inr ⟨rfl,rfl⟩,fun b z=>absurd z (noA b),e0.bs,e0.bsz,fun b _ _=>noA b,fun b z=>absurd z (noA b),e0.Hc,e0.frf⟩,
  rfl,e0.bare,Un.kept hk,⟨_,x.toInCall.ns,fun i y v h1 h2 h3=>?_⟩,fun y c h=>⟨_,x.cell y c h⟩,e0.hok.fresh (Nat.le_refl _),fun y c h=>?_,fun p hp=>absurd (show p∈([]:List (Addr × Obj)) from hp) (by simp),e0.hok.kept hk,?_⟩
 ·exact name_of_addr x.apart (PySem.mem_of_lookup h1) (PySem.mem_of_lookup h2)
 ·have hy:scope.names.lookup y=some .cell \/ scope.names.lookup y=some .free:=hy
  rcases hy with hy | hy
  ·exact Mf hy
  ·exact absurd rfl (S.nofree _ (PySem.mem_of_lookup hy))
 ·exact Nat.le_of_lt (x.above y c (PySem.mem_of_lookup h))
 ·have hi:i<vs.length:=by
   unfold start at h2
   by_cases hi:i<vs.length
   ·exact hi
   ·rw [List.getElem?_append_right (by simpa using hi)] at h2
    rw [List.getElem?_replicate] at h2
    split at h2 <;> cases h2
  have ha:vs[i]? = some v:=by
   unfold start at h2
   rw [List.getElem?_append_left (by simpa using hi),List.getElem?_map] at h2
   cases e:vs[i]? with
   | none=>rw [e] at h2; cases h2
   | some a=>rw [e] at h2; cases h2; rfl
  obtain ⟨u,hu,rv⟩:=r.get ha
  have hp:ps[i]? = some y:=by
   rw [← S.pre,List.getElem?_take_of_lt (by omega)]; exact h1
  have ndP:ps.Nodup:=by rw [← S.pre]; exact S.nd.sublist (List.take_sublist _ _)
  refine ⟨u,rv,?_⟩
  rcases S.par y (List.mem_of_getElem? hp) with k | k
  ·exact .inl ⟨k,Kf ndP hp hu k⟩
  ·obtain ⟨c,e⟩:=Mf (n:=s.heap.objs.size+1) k
   refine .inr ⟨.inl k,c,e,?_⟩
   have q:=x.cell y c e
   rw [KZ ndP hp hu (by show scope.names.lookup y ≠ _; rw [k]; decide)] at q
   exact q
 ·exact e0.hok.fresh (Nat.le_of_lt (x.above y c (PySem.mem_of_lookup h)))
 ·unfold start
  show _=N.length
  rw [List.length_append,List.length_map,List.length_replicate]
  omega
theorem Uw {CX:L_} {P:Program} {w:World} {K:PySem.W.Frag} {mg:Str->Option Value} {base:Heap} {k:Nat} {f:Addr} {name qual:Str} {params:Arguments} {body:List Stmt} {scope:Scope} {dV kV doc pm cdv ct oc:Value} {an od:Option Addr}
  {osl:Array (Option Value)} {N ps:List Str} {sp:Sp} (lk:K.lookup f=some ⟨oc,od,.func (PySem.W.fnOf name qual params body scope dV kV doc pm an cdv ct),osl⟩) (hcd:PySem.W.codeIn K cdv qual=true) (S:Aq N ps scope)
  (len:∀ vs H Q E,sp vs H Q E->vs.length=ps.length)
  (hbody:∀ (A:Around) (outer:List Env) (s:Shared) (H:Hp) (vs:List V) (Q:VK) (E:XK),BW k (A.deeper (envOfC qual scope s.heap.objs.size f cdv))->sp vs H Q E ->
   ∃ t,K9 (JV CX P w K mg base N qual scope f cdv A outer s H E) body t/\t { nx:=fun _ H'=>Q .non H',rt:=Q } (start N vs) H) :
  Ar P w K mg base CX (k+1) f (PySem.W.fnOf name qual params body scope dV kV doc pm an cdv ct) ps sp:=by
 refine ⟨len,fun A outer s H args us vs Q E hr e0 hb r hsp=>?_⟩
 have hl:=len _ _ _ _ hsp
 have KX:K.In s.heap:=e0.mod.kin.keeps fun b o e=>(e0.bs b o e).1
 have lim:s.heap.NoLimit:=e0.mod.nolimit.keeps fun b o e=>(e0.bs b o e).1
 have hkind:∀ y∈ps.zip us,scope.names.lookup y.1=some .local \/ (scope.names.lookup y.1=some .cell/\((cellsFrom (s.heap.objs.size+1) scope.names []).lookup y.1).isSome=true):=fun ⟨n,v⟩ hy=>by
  rcases S.par n (List.of_mem_zip hy).1 with q | q
  ·exact .inl q
  ·exact .inr ⟨q,PySem.W.cellsFrom_some _ _ _ (.inl q)⟩
 refine codeAny_call_function hr.depth (KX _ _ lk) rfl S.co S.gen rfl (PySem.W.codeRec_of KX hcd) (hb _ _ _ _ ?_)
 refine wpAny_newFunctionEnv_cells S.kind hkind fun env he s1 x=>?_
 subst he
 refine ⟨lim.keeps x.toInCall.keep,codeAny_func ?_⟩
 obtain ⟨t,ht,hq⟩:=hbody A outer s H vs Q E (hr.deeper _) hsp
 have I:Inv (JV CX P w K mg base N qual scope f cdv A outer s H E) [] (start N vs) H s1:=Km S hr.hd e0 hl r x
 refine wpAny_mono (ht [] s1 (start N vs) H _ I hq) (fun fl s' hs=>?_) fun e s' hs=>hs
 have fin:∀ {σ':St} {H':Hp} {v:V} {u:Value},Inv (JV CX P w K mg base N qual scope f cdv A outer s H E) [] σ' H' s'->RelV v u->Q v H'->CE outer P w H s Q u s' :=
  fun {σ' H' v u} J rv q=>⟨v,H',J.os,J.bare,J.base,J.hok,rv,q⟩
 cases fl with
 | ret u =>
  obtain ⟨v,σ',H',J,rv,q⟩:=hs
  exact fin J rv q
 | next =>
  obtain ⟨σ',H',J,q⟩:=hs
  exact fin (v:=V.non) (u:=Value.none) J rfl q
 | brk =>
  obtain ⟨_,_,_,q⟩:=hs
  exact False.elim q
 | cont =>
  obtain ⟨_,_,_,q⟩:=hs
  exact False.elim q
end L2
namespace L2
open PySem PySem.Spec PyProof.Rows
section
variable {X:Cx} {x:Str} {p pos:Pos} {e:Expr} {es:List Expr} {t:TA} {id T:String} {r:List V->Hp->VK->Prop}
noncomputable def l_ (r:List V->Hp->VK->Prop) (t:TA):TE:=fun σ H Q=>t σ H fun vs H1=>r vs H1 Q
theorem BJ (hc:Eg X (.builtin id) r) (hg:Gl X x) (hm:X.mg x=none) (hv:bootBuiltins x=some (.builtin id)) (ha:PA X (e::es) t) (hn:x ≠ "__name__":=by decide) (hdb:(x == ("__debug__" : Str))=false:=by decide)
  (he:starEach (e::es) X.env=(false,eval e X.env)::starEach es X.env:=by rfl) (hpl:(backTo pos (starEach es X.env)).any (·.1)=false:=by rfl):PE X (.Call (.Name x p) (e::es) [] pos) (l_ r t):=by
 intro pins s σ H Q I h
 refine wpAny_Call_Name_kw (HY I hg hm hv ?_ hn hdb)
 exact PyProof.Rows.callWith_builtin1 (Bx (ha pos pins s σ H _ I h) fun us s1 ⟨vs,H1,I1,r1,q1⟩=>hc pins s1 σ H1 vs us Q I1 r1 q1) he hpl
theorem HF (hc:Eg X (.type T) r) (hg:Gl X x) (hm:X.mg x=none) (hv:bootBuiltins x=some (.type T)) (ha:PA X (e::es) t) (hn:x ≠ "__name__":=by decide) (hdb:(x == ("__debug__" : Str))=false:=by decide)
  (he:starEach (e::es) X.env=(false,eval e X.env)::starEach es X.env:=by rfl) (hpl:(backTo pos (starEach es X.env)).any (·.1)=false:=by rfl):PE X (.Call (.Name x p) (e::es) [] pos) (l_ r t):=by
 intro pins s σ H Q I h
 refine wpAny_Call_Name_kw (HY I hg hm hv ?_ hn hdb)
 exact PyProof.Rows.callWith_type1 (Bx (ha pos pins s σ H _ I h) fun us s1 ⟨vs,H1,I1,r1,q1⟩=>hc pins s1 σ H1 vs us Q I1 r1 q1) he hpl
end
end L2
namespace L2
open PySem PySem.Spec PyProof.Rows
section
variable {κ:Type} [DecidableEq κ]
noncomputable def CT (kvs:List (κ × V)) (k:κ):Option V:=(kvs.find? fun kv=>decide (kv.1=k)).map (·.2)
noncomputable def putK (kvs:List (κ × V)) (k:κ) (v:V):List (κ × V) :=
 if (kvs.any fun kv=>decide (kv.1=k))=true then kvs.map (fun kv=>if kv.1=k then (kv.1,v) else kv) else kvs++[(k,v)]
noncomputable def mX (kvs:List (κ × V)) (k:κ):List (κ × V):=kvs.filter fun kv=>decide (kv.1 ≠ k)
theorem Hq {k:κ}:CT ([]:List (κ × V)) k=none:=rfl
theorem Dg {p:κ × V} {r:List (κ × V)} {k:κ} (e:p.1=k):CT (p::r) k=some p.2:=by simp [CT,List.find?_cons,e]
theorem Dc {p:κ × V} {r:List (κ × V)} {k:κ} (e:¬ p.1=k):CT (p::r) k=CT r k:=by simp [CT,List.find?_cons,e]
theorem Ii (k:κ):∀ kvs:List (κ × V),(kvs.any fun kv=>decide (kv.1=k))=(CT kvs k).isSome
 | []=>rfl
 | p::r=>by
  rw [List.any_cons]
  by_cases e:p.1=k
  ·simp only [Dg e,decide_eq_true e,Bool.true_or,Option.isSome_some]
  ·rw [Dc e,decide_eq_false e,Bool.false_or]; exact Ii k r
theorem Mw (k j:κ) (y:V):∀ kvs:List (κ × V),CT (kvs.map fun kv=>if kv.1=k then (kv.1,y) else kv) j=(CT kvs j).map fun x=>if j=k then y else x
 | []=>rfl
 | p::r=>by
  have ih:=Mw k j y r
  rw [List.map_cons]
  by_cases h:p.1=k
  ·rw [if_pos h]
   by_cases e:p.1=j
   ·rw [Dg (p:=(p.1,y)) e,Dg e,Option.map_some,if_pos (e.symm.trans h)]
   ·rw [Dc (p:=(p.1,y)) e,Dc e,ih]
  ·rw [if_neg h]
   by_cases e:p.1=j
   ·rw [Dg (p:=p) e,Dg e,Option.map_some,if_neg (fun z=>h (e.trans z))]
   ·rw [Dc (p:=p) e,Dc e,ih]
theorem Ka (k j:κ) (y:V):∀ kvs:List (κ × V),CT kvs k=none->CT (kvs++[(k,y)]) j=if j=k then some y else CT kvs j
 | [],_=>by
  by_cases e:k=j
  ·rw [if_pos e.symm]; exact Dg (p:=(k,y)) e
  ·rw [if_neg (fun z=>e z.symm)]; exact Dc (p:=(k,y)) e
 | p::r,hn=>by
  rw [List.cons_append]
  have hk:¬ p.1=k:=fun z=>by rw [Dg z] at hn; cases hn
  rw [Dc hk] at hn
  have ih:=Ka k j y r hn
  by_cases e:p.1=j
  ·rw [Dg e,Dg e,if_neg (fun z=>hk (e.trans z))]
  ·rw [Dc e,Dc e,ih]
theorem Ge (kvs:List (κ × V)) (k j:κ) (y:V):CT (putK kvs k y) j=if j=k then some y else CT kvs j:=by
 unfold putK
 by_cases a:(kvs.any fun kv=>decide (kv.1=k))=true
 ·rw [if_pos a,Mw]
  rw [Ii] at a
  by_cases e:j=k
  ·obtain ⟨x,hx⟩:=Option.isSome_iff_exists.mp a
   rw [if_pos e,e,hx,Option.map_some,if_pos rfl]
  ·rw [if_neg e]
   cases CT kvs j with
   | none=>rfl
   | some x=>rw [Option.map_some,if_neg e]
 ·rw [if_neg a]
  refine Ka k j y kvs ?_
  rw [Ii] at a
  cases q:CT kvs k with
  | none=>rfl
  | some x=>rw [q] at a; exact (a rfl).elim
theorem Gj (kvs:List (κ × V)) (k:κ) (v:V):(putK kvs k v).length<=kvs.length+1:=by
 unfold putK
 split
 ·rw [List.length_map]; omega
 ·rw [List.length_append,List.length_cons,List.length_nil]; omega
theorem Fp.I_ {o:Option V} {u:Option Value} (r:Fp o u):o.isSome=u.isSome:=by
 cases o with
 | none=>cases u with
  | none=>rfl
  | some _=>exact (show False from r).elim
 | some _=>cases u with
  | none=>exact (show False from r).elim
  | some _=>rfl
theorem Fp.getD {o:Option V} {u:Option Value} {d:V} {d':Value} (r:Fp o u) (rd:RelV d d'):RelV (o.getD d) (u.getD d'):=by
 cases o with
 | none=>cases u with
  | none=>exact rd
  | some _=>exact (show False from r).elim
 | some _=>cases u with
  | none=>exact (show False from r).elim
  | some _=>exact r
theorem KV.val {kvs:List (κ × V)} {vs:List (κ × Value)} (r:KV kvs vs) (k:κ):Fp (CT kvs k) (valueAt vs k):=by
 unfold KV at r
 induction r with
 | nil=>exact True.intro
 | @cons p q ps qs h t ih =>
  obtain ⟨h1,h2⟩:=h
  by_cases e:p.1=k
  ·have e':q.1=k:=h1.symm.trans e
   have b:valueAt (q::qs) k=some q.2:=by simp [valueAt,List.find?_cons,e']
   rw [Dg e,b]; exact h2
  ·have e':¬ q.1=k:=fun z=>e (h1.trans z)
   have b:valueAt (q::qs) k=valueAt qs k:=by simp [valueAt,List.find?_cons,e']
   rw [Dc e,b]; exact ih
theorem KV.any {kvs:List (κ × V)} {vs:List (κ × Value)} (r:KV kvs vs) (k:κ):(kvs.any fun kv=>decide (kv.1=k))=vs.any fun kv=>decide (kv.1=k):=by
 unfold KV at r
 induction r with
 | nil=>rfl
 | cons h t ih=>rw [List.any_cons,List.any_cons,ih,h.1]
theorem KV.repl {kvs:List (κ × V)} {vs:List (κ × Value)} (r:KV kvs vs) (k:κ) {y:V} {u:Value} (ry:RelV y u) :
  KV (kvs.map fun kv=>if kv.1=k then (kv.1,y) else kv) (vs.map fun kv=>if kv.1=k then (kv.1,u) else kv):=by
 unfold KV at r ⊢
 induction r with
 | nil=>exact .nil
 | @cons p q ps qs h t ih =>
  rw [List.map_cons,List.map_cons]
  refine .cons ?_ ih
  obtain ⟨h1,h2⟩:=h
  by_cases e:p.1=k
  ·rw [if_pos e,if_pos (h1.symm.trans e)]; exact ⟨h1,ry⟩
  ·rw [if_neg e,if_neg (fun z=>e (h1.trans z))]; exact ⟨h1,h2⟩
theorem KV.put {kvs:List (κ × V)} {vs:List (κ × Value)} (r:KV kvs vs) (k:κ) {y:V} {u:Value} (ry:RelV y u):KV (putK kvs k y) (stored vs k u):=by
 unfold putK stored
 rw [r.any k]
 by_cases e:(vs.any fun kv=>decide (kv.1=k))=true
 ·rw [if_pos e,if_pos e]; exact r.repl k ry
 ·rw [if_neg e,if_neg e]; exact Paired.snoc r ⟨rfl,ry⟩
theorem KV.length {kvs:List (κ × V)} {vs:List (κ × Value)} (r:KV kvs vs):kvs.length=vs.length:=Paired.length r
end
theorem Nh {P:Program} {w:World} {k:Key} {u:Value} (r:RelV (kV k) u):(Ck P w).is k u=true:=by
 cases k with
 | inl i=>obtain ⟨t,e⟩:=(show ∃ t,u=Value.int i t from r); subst e; exact Ma P w i t
 | inr x=>obtain ⟨t,e⟩:=(show ∃ t,u=Value.str x t from r); subst e; exact Nf P w x t
theorem Kl {P:Program} {w:World}:∀ {ks:List Key} {us:List Value},Vals (ks.map kV) us->ItemsAre (Ck P w) ks us
 | [],_,r=>by rw [List.map_nil] at r; cases r; exact .nil
 | k::ks,_,r=>by
  rw [List.map_cons] at r
  cases r with
  | cons h t=>exact .cons (Nh h) (Kl t)
noncomputable abbrev KT (H:Hp):List (List Key × V)->List (List Key × Addr × Value)->Prop:=Paired fun p q=>p.1=q.1/\H q.2.1=some (.tup (p.1.map kV))/\RelV p.2 q.2.2
theorem KT.val {H:Hp} {kvs:List (List Key × V)} {xs:List (List Key × Addr × Value)} (r:KT H kvs xs) (k:List Key):Fp (CT kvs k) ((atKey xs k).map (·.2)):=by
 induction r with
 | nil=>exact True.intro
 | @cons p q ps qs h t ih =>
  obtain ⟨h1,_,h2⟩:=h
  by_cases e:p.1=k
  ·have e':q.1=k:=h1.symm.trans e
   have b:atKey (q::qs) k=some q.2:=by simp [atKey,List.find?_cons,e']
   rw [Dg e,b]; exact h2
  ·have e':¬ q.1=k:=fun z=>e (h1.trans z)
   have b:atKey (q::qs) k=atKey qs k:=by simp [atKey,List.find?_cons,e']
   rw [Dc e,b]; exact ih
theorem KT.repl {H:Hp} {kvs:List (List Key × V)} {xs:List (List Key × Addr × Value)} (r:KT H kvs xs) (k:List Key) {y:V} {u:Value} (ry:RelV y u) :
  KT H (kvs.map fun kv=>if kv.1=k then (kv.1,y) else kv) (xs.map (putAt k u)):=by
 induction r with
 | nil=>exact .nil
 | @cons p q ps qs h t ih =>
  rw [List.map_cons,List.map_cons]
  refine .cons ?_ ih
  obtain ⟨h1,h2,h3⟩:=h
  unfold putAt
  by_cases e:p.1=k
  ·rw [if_pos e,if_pos (h1.symm.trans e)]; exact ⟨h1,h2,ry⟩
  ·rw [if_neg e,if_neg (fun z=>e (h1.trans z))]; exact ⟨h1,h2,h3⟩
theorem KT.put {H:Hp} {kvs:List (List Key × V)} {xs:List (List Key × Addr × Value)} (r:KT H kvs xs) (k:List Key) {b:Addr} {y:V} {u:Value} (hb:H b=some (.tup (k.map kV))) (ry:RelV y u) :
  KT H (putK kvs k y) (storedH xs k b u):=by
 have e:(kvs.any fun kv=>decide (kv.1=k))=(atKey xs k).isSome:=by
  rw [Ii,(r.val k).I_,Option.isSome_map]
 unfold putK storedH
 rw [e]
 by_cases q:(atKey xs k).isSome=true
 ·rw [if_pos q,if_pos q]; exact r.repl k ry
 ·rw [if_neg q,if_neg q]; exact Paired.snoc r ⟨rfl,hb,ry⟩
theorem KT.keeps {H H':Hp} {kvs:List (List Key × V)} {xs:List (List Key × Addr × Value)} (r:KT H kvs xs) (ht:∀ b ys,H b=some (.tup ys)->H' b=some (.tup ys)):KT H' kvs xs :=
 Paired.Hz r fun _ _ z=>⟨z.1,ht _ _ z.2.1,z.2.2⟩
section
variable {P:Program} {w:World} {H:Hp} {h:Heap} {a:Addr}
theorem Wy {u:HO} (ok:Ef P w H h) (e:Rd H a u):Bv P w H h a u:=e.ok ok
theorem KC {kvs:List (Key × V)} (ok:Ef P w H h) (e:Rd H a (.dK kvs)):kvs.length<=sizeLine/\(a == sysModules)=false/\∃ vs,KV kvs vs/\h.DictOf (Ck P w) a vs :=
 show Bv P w H h a (.dK kvs) from Wy ok e
theorem eO {kvs:List (Key × V)} (ok:Ef P w H h) (e:H a=some (.dK kvs)):kvs.length<=sizeLine/\(a == sysModules)=false/\∃ vs,KV kvs vs/\h.DictOf (Ck P w) a vs:=KC ok (.inl e)
theorem Jw {ks:List Key} (ok:Ef P w H h) (e:H a=some (.tup (ks.map kV))):(tupleKind (Ck P w)).is h ks a:=by
 obtain ⟨_,its,r,o,h1,h2,n,h3⟩:=(show Bv P w H h a (.tup (ks.map kV)) from ok a _ e)
 exact ⟨o,its.toArray,n,h1,h2,h3,by simpa using Kl r⟩
theorem KR {kvs:List (List Key × V)} (ok:Ef P w H h) (e:Rd H a (.dT kvs)):kvs.length<=sizeLine/\(a == sysModules)=false /\
  ∃ xs,KT H kvs xs/\h.DictOfH (tupleKind (Ck P w)) a xs:=by
 obtain ⟨z,y,xs,r,o,es,ep,h1,h2,h3,h4,h5⟩:=(show Bv P w H h a (.dT kvs) from Wy ok e)
 refine ⟨z,y,xs,r,o,es,ep,h1,h2,h3,h4,fun x hx=>?_,h5⟩
 have all:∀ {l:List (List Key × V)} {m:List (List Key × Addr × Value)},KT H l m->∀ x∈m,(tupleKind (Ck P w)).is h x.1 x.2.1:=by
  intro l m q
  induction q with
  | nil=>intro x hx; exact nomatch hx
  | @cons p q ps qs hq t ih =>
   intro x hx
   rcases List.mem_cons.mp hx with e | hx
   ·subst e
    exact Jw ok (by rw [← hq.1]; exact hq.2.1)
   ·exact ih x hx
 exact all r x hx
theorem bx {kvs:List (List Key × V)} (ok:Ef P w H h) (e:H a=some (.dT kvs)):kvs.length<=sizeLine/\(a == sysModules)=false /\
  ∃ xs,KT H kvs xs/\h.DictOfH (tupleKind (Ck P w)) a xs:=KR ok (.inl e)
end
noncomputable def HQ (H:Hp) (a:Addr) (y:V) (r:Option V):Prop :=
 (∃ kvs k,Rd H a (.dK kvs)/\y=kV k/\r=CT kvs k) \/ ∃ kvs k b,Rd H a (.dT kvs)/\y=.ref b/\H b=some (.tup (k.map kV))/\r=CT kvs k
noncomputable def Od (H:Hp) (a:Addr) (y v:V) (H':Hp):Prop :=
 (∃ kvs k,H a=some (.dK kvs)/\y=kV k/\kvs.length<sizeLine/\H'=upd H a (.dK (putK kvs k v))) \/
 ∃ kvs k b,H a=some (.dT kvs)/\y=.ref b/\H b=some (.tup (k.map kV))/\kvs.length<sizeLine/\H'=upd H a (.dT (putK kvs k v))
theorem HQ.k {H:Hp} {a:Addr} {kvs:List (Key × V)} {k:Key} (e:H a=some (.dK kvs)):HQ H a (kV k) (CT kvs k):=.inl ⟨kvs,k,.inl e,rfl,rfl⟩
theorem Od.k {H:Hp} {a:Addr} {kvs:List (Key × V)} {k:Key} {v:V} (e:H a=some (.dK kvs)) (hl:kvs.length<sizeLine):Od H a (kV k) v (upd H a (.dK (putK kvs k v))):=.inl ⟨kvs,k,e,rfl,hl,rfl⟩
section
variable {X:Cx} {pins:List (Addr × Obj)} {σ:St} {H:Hp} {s:Shared} {a:Addr} {y v:V} {u r:Value} {o:Option V} {A:Around} {E:Value->Shared->Prop}
theorem Inv.big (I:Inv X pins σ H s):sysModules<s.heap.objs.size:=by
 have h:mainGlobals<s.heap.objs.size:=(I.mod.glob.keeps I.bk).lt
 exact Nat.lt_trans (by decide) h
theorem RQ {Q:Value->Shared->Prop} (hu:A.units+1<cLine) (I:Inv X pins σ H s) (g:HQ H a y (some v)) (ry:RelV y u) (h:∀ w' s',Inv X pins σ H s'->RelV v w'->Q w' s') :
  wpAny (model X.prog X.w) A (getItem (.ref a) u) Q E s:=by
 rcases g with ⟨kvs,k,e,ey,l⟩ | ⟨kvs,k,b,e,ey,eb,l⟩
 ·subst ey
  obtain ⟨z,hd,vs,rel,dd⟩:=KC I.hok e
  obtain ⟨w',hw,rw'⟩:=Fp.some_of (v:=v) (o:=valueAt vs k) (by rw [l]; exact rel.val k)
  exact wpAny_getItem_of (Nh ry) dd.mapOf hw (h w' _ (I.tok _) rw')
 ·subst ey
  cases (show u=Value.ref b from ry)
  obtain ⟨z,hd,xs,rel,dd⟩:=KR I.hok e
  obtain ⟨w',hw,rw'⟩:=Fp.some_of (v:=v) (o:=(atKey xs k).map (·.2)) (by rw [l]; exact rel.val k)
  obtain ⟨p,hp,hp2⟩:=Option.map_eq_some_iff.mp hw
  refine wpAny_getItem_heap (tupleKind_room_in1 hu) (Jw I.hok eb) dd hp ?_
  rw [hp2]
  exact h w' _ (I.tok _) rw'
theorem Vz {Q:Value->Shared->Prop} (hu:A.units+1<cLine) (I:Inv X pins σ H s) (g:HQ H a y o) (ry:RelV y u) (h:∀ s',Inv X pins σ H s'->Q (.bool (!o.isSome)) s') :
  wpAny (model X.prog X.w) A (compareOp .NotIn u (.ref a)) Q E s:=by
 rcases g with ⟨kvs,k,e,ey,l⟩ | ⟨kvs,k,b,e,ey,eb,l⟩
 ·subst ey
  obtain ⟨z,hd,vs,rel,dd⟩:=KC I.hok e
  refine wpAny_notIn_of (Nh ry) hd dd.mapOf ?_
  rw [← (rel.val k).I_,← l]
  exact h _ (I.tok _)
 ·subst ey
  cases (show u=Value.ref b from ry)
  obtain ⟨z,hd,xs,rel,dd⟩:=KR I.hok e
  refine wpAny_notIn_heap (tupleKind_room_in1 hu) (Jw I.hok eb) hd dd ?_
  have q:=(rel.val k).I_
  rw [Option.isSome_map] at q
  rw [← q,← l]
  exact h _ (I.tok _)
theorem QK {h':Heap} {t':Nat} {ob:HO} (I:Inv X pins σ H s) (mu:Z7 (H a)) (hs:Heap.SameBut a s.heap h') (he:∃ q,h'.get? a=some q) (new:Bv X.prog X.w (upd H a ob) h' a ob) :
  Inv X pins σ (upd H a ob) { s with heap:=h',toks:=t' } :=
 I.write (x:=a) (e:=a) mu (.inl rfl) (fun b q hb z=>(hs.2 b hb).trans z) he new
theorem YF {P:Program} {w:World} {H':Hp} {h':Heap} {kvs:List (Key × V)} {vs:List (Key × Value)} (z:kvs.length<=sizeLine) (hd:(a == sysModules)=false) (rel:KV kvs vs) (dd:h'.DictOf (Ck P w) a vs) :
  Bv P w H' h' a (.dK kvs):=⟨z,hd,vs,rel,dd⟩
theorem QT {H':Hp} {Q:Unit->Shared->Prop} (hu:A.units+1<cLine) (I:Inv X pins σ H s) (g:Od H a y v H') (ry:RelV y u) (rv:RelV v r) (h:∀ s',Inv X pins σ H' s'->Q () s') :
  wpAny (model X.prog X.w) A (setItem (.ref a) u r) Q E s:=by
 rcases g with ⟨kvs,k,e,ey,l,eH⟩ | ⟨kvs,k,b,e,ey,eb,l,eH⟩
 ·subst ey eH
  obtain ⟨z,hd,vs,rel,dd⟩:=eO I.hok e
  have hz:vs.length<=sizeLine:=by rw [← rel.length]; exact z
  have hl:(putK kvs k v).length<=sizeLine:=by have:=Gj kvs k v; omega
  refine wpAny_setItem_pairs (hsz:=hz) (Nh ry) dd fun h' dd' hs=>h _ ?_
  have he:∃ q,h'.get? a=some q:=let ⟨q,_,_,hq,_⟩:=dd'; ⟨q,hq⟩
  exact QK I (by rw [e]; exact True.intro) hs he (YF hl hd (rel.put k rv) dd')
 ·subst ey eH
  cases (show u=Value.ref b from ry)
  obtain ⟨z,hd,xs,rel,dd⟩:=bx I.hok e
  have hz:xs.length<=sizeLine:=by rw [← Paired.length rel]; exact z
  have hl:(putK kvs k v).length<=sizeLine:=by have:=Gj kvs k v; omega
  refine wpAny_setItem_heap (hsz:=hz) (tupleKind_room_in1 hu) (Jw I.hok eb) dd fun h' dd' hs=>h _ ?_
  obtain ⟨q,es,ep,hq,h2,h3,h4,_,h5⟩:=dd'
  refine QK I (by rw [e]; exact True.intro) hs ⟨q,hq⟩ ⟨hl,hd,_,(rel.put k eb rv).keeps fun c ys ec=>?_,q,es,ep,hq,h2,h3,h4,h5⟩
  rw [Al (Wx ec e (fun z=>nomatch z))]
  exact ec
end
section
variable {X:Cx} {pins:List (Addr × Obj)} {σ:St} {H:Hp} {s:Shared} {a:Addr} {kvs:List (Key × V)} {k:Key} {u:Value} {A:Around} {E:Value->Shared->Prop}
end
noncomputable def XH (i:Expr):Prop:=∀ ov iv,subscripted i false ov iv=operate [ov,iv] (getItem ov iv)
theorem Pg {prog:Program} {w:World} {A:Around} {E:Value->Shared->Prop} {s:Shared} {env:Env} {value slice:Expr} {pos:Pos} {T id:String} {Q:Value->Shared->Prop}
  (hl:typeLookup (.type T) "__getitem__" = pure (some (.builtin id))) (hs:XH slice)
  (h:wpAny (model prog w) A (eval value env) (fun o s₁=>wpAny (model prog w) A (eval slice env) (fun i s₂=>s₂.TypeIs o T/\wpAny (model prog w) A (getItem o i) Q E s₂) E s₁) E s) :
  wpAny (model prog w) A (eval (.Subscript value slice pos) env) Q E s:=by
 refine Subscript_ (wpAny_mono h (fun o s₁ h₁=>wpAny_mono h₁ (fun i s₂ h₂=>?_) fun _ _ x=>x) fun _ _ x=>x)
 obtain ⟨hT,h₂⟩:=h₂
 unfold subscriptTail
 refine wpAny_bind ?_
 rw [getitemInPython_of_ne hT.not_modules]
 refine wpAny_bind (wpAny_specialOf hT hl ?_)
 have fin:wpAny (model prog w) A (subscripted slice false o i) (fun r s₃=>wpAny (model prog w) A (letTemporaryGo value o r >>= fun _=>pure r) Q E s₃) E s₂:=by
  rw [hs o i]
  exact wpAny_operating (wpAny_mono h₂ (fun r s₃ h₃=>wpAny_bind (wpAny_letTemporaryGo (wpAny_pure h₃))) fun _ _ x=>x)
 first
  | exact wpAny_pure (wpAny_bind fin)
  | exact wpAny_bind (wpAny_pure (wpAny_bind fin))
  | exact wpAny_bind fin
theorem M4 {X:Cx} {pins:List (Addr × Obj)} {σ:St} {H:Hp} {s:Shared} {a:Addr} {y:V} {o:Option V} (I:Inv X pins σ H s) (g:HQ H a y o):s.TypeIs (.ref a) "dict":=by
 rcases g with ⟨kvs,k,e,_,_⟩ | ⟨kvs,k,b,e,_,_,_⟩
 ·obtain ⟨_,_,vs,_,dd⟩:=KC I.hok e
  exact dd.typeIs
 ·obtain ⟨_,_,xs,_,dd⟩:=KR I.hok e
  exact dd.typeIs
noncomputable def Zx (td ty:TE):TE:=fun σ H Q=>td σ H fun x H1=>ty σ H1 fun y H2=>∃ a v,x=.ref a/\HQ H2 a y (some v)/\Q v H2
noncomputable def Vl (ty td:TE):TE:=fun σ H Q=>ty σ H fun y H1=>td σ H1 fun x H2=>∃ a o,x=.ref a/\HQ H2 a y o/\Q (.bl (!o.isSome)) H2
noncomputable def ZQ (td ty tv:TE):TS:=fun D σ H=>tv σ H fun v H1=>td σ H1 fun x H2=>ty σ H2 fun y H3=>∃ a H4,x=.ref a/\Od H3 a y v H4/\D.nx σ H4
section
variable {X:Cx} {o i e value:Expr} {pos pos' tpos:Pos} {td ty tv:TE}
theorem Ja (hu:X.A.units+1<cLine) (ho:PE X o td) (hi:PE X i ty) (hs:XH i):PE X (.Subscript o i pos) (Zx td ty):=by
 intro pins s σ H Q I h
 refine Pg PySem.F.slot_dict_getitem.lookup hs (Bx (ho pins s σ H _ I h) fun u s1 ⟨x,H1,I1,rx,q1⟩=>Bx (hi pins s1 σ H1 _ I1 q1) fun iv s2 hq0=>?_)
 obtain ⟨y,H2,I2,ry,a,v,ex,g,q2⟩:=hq0
 subst ex
 obtain rfl:u=Value.ref a:=rx
 exact ⟨M4 I2 g,RQ hu I2 g ry fun w' s3 I3 rw'=>⟨v,H2,I3,rw',q2⟩⟩
theorem Qj (hu:X.A.units+1<cLine) (hi:PE X i ty) (ho:PE X o td):PC X .NotIn i o (Vl ty td):=by
 intro pins s σ H Q I h
 refine Bx (hi pins s σ H _ I h) fun iv s1 ⟨y,H1,I1,ry,q1⟩=>Bx (ho pins s1 σ H1 _ I1 q1) fun u s2 hq0=>?_
 obtain ⟨x,H2,I2,rx,a,ov,ex,g,q2⟩:=hq0
 subst ex
 obtain rfl:u=Value.ref a:=rx
 exact Vz hu I2 g ry fun s3 I3=>⟨.bl (!ov.isSome),H2,I3,rfl,q2⟩
theorem Lg (hu:X.A.units+1<cLine) (ho:PE X o td) (hi:PE X i ty) (hv:PE X value tv) (hs:swapsWith value (some (.Subscript o i pos')) pos.line X.env=pure false) :
  PS X (.Assign [.Subscript o i pos'] value pos) (ZQ td ty tv):=by
 intro pins s σ H D I h
 refine wpAny_Assign_Subscript (Bx (hv pins s σ H _ I h) fun r s1 ⟨v,H1,I1,rv,q1⟩=>Bx (ho pins s1 σ H1 _ I1 q1) fun u s2 ⟨x,H2,I2,rx,q2⟩=>Bx (hi pins s2 σ H2 _ I2 q2) fun iv s3 ⟨y,H3,I3,ry,a,H4,ex,g,q3⟩=>?_) hs
 subst ex
 obtain rfl:u=Value.ref a:=rx
 exact QT hu I3 g ry rv fun s4 I4=>⟨σ,H4,I4,q3⟩
end
theorem S8 {P:Program} {w:World} {H:Hp} (h:Heap) (hb:sysModules<h.objs.size):Bv P w H (h.push { cls:=.type "dict",data:=.dict #[] }) h.objs.size (.dK []) :=
 ⟨Nat.zero_le _,beq_eq_false_iff_ne.mpr (Ne.symm (Nat.ne_of_lt hb)),[],.nil,Heap.DictOf.new h⟩
noncomputable def YT:TE:=fun _ H Q=>∀ p,H p=none->Q (.ref p) (upd H p (.dK []))
section
variable {X:Cx} {pos:Pos}
theorem Mi:PE X (.Dict [] [] pos) YT:=fun pins s σ H Q I h =>
 wpAny_Dict_empty ⟨.ref s.heap.objs.size,_,I.laid (a:=s.heap.objs.size) (o:=.dK []) (t':=s.toks) (fun _ _ q=>Heap.get?_push_of_some _ q) (Nat.le_refl _) (S8 s.heap I.big),rfl,h _ (I.hok.fresh (Nat.le_refl _))⟩
end
noncomputable def jl (kvs more:List (Key × V)):List (Key × V):=more.foldl (fun acc kv=>putK acc kv.1 kv.2) kvs
structure M1 (X:Cx) (o:Expr) (m:Str) (apos:Pos) (e:Expr) (cpos:Pos):Prop where
 base:attributeBase o m X.env (eval o X.env)=eval o X.env
 few:((backTo cpos (starEach [e] X.env)).all (fun x=>!x.1) && (backToKw cpos (keywordEach [] X.env)).all (fun x=>x.1.isSome)
  && decide (([e]:List Expr).length+([]:List Keyword).length+(if ([]:List Keyword).isEmpty then 0 else 1)<30))=true
 line:(apos.endLine == cpos.line)=true
 trees:backTo cpos (starEach [e] X.env)=[(false,eval e X.env)]
noncomputable def lX (H:Hp) (a:Addr):Prop:=(∃ kvs,Rd H a (.dK kvs)) \/ ∃ kvs,Rd H a (.dT kvs)
theorem YG {X:Cx} {pins:List (Addr × Obj)} {σ:St} {H:Hp} {s:Shared} {a:Addr} (I:Inv X pins σ H s) (d:lX H a) :
  s.TypeIs (.ref a) "dict" /\ (∀ b,Value.ref a=.ref b->∃ ob,s.heap.get? b=some ob/\ob.dict=none)/\(a == sysModules)=false:=by
 rcases d with ⟨kvs,e⟩ | ⟨kvs,e⟩
 ·obtain ⟨_,hd,vs,_,dd⟩:=KC I.hok e
  refine ⟨dd.typeIs,fun b q=>?_,hd⟩
  cases q
  obtain ⟨ob,_,_,h1,h2,_⟩:=dd
  exact ⟨ob,h1,h2.2.1⟩
 ·obtain ⟨_,hd,xs,_,dd⟩:=KR I.hok e
  refine ⟨dd.typeIs,fun b q=>?_,hd⟩
  cases q
  obtain ⟨ob,_,_,h1,h2,_⟩:=dd
  exact ⟨ob,h1,h2.2.1⟩
section
variable {X:Cx} {pins:List (Addr × Obj)} {σ:St} {H:Hp} {s:Shared} {a:Addr} {y d:V} {u r:Value} {o:Option V} {A:Around} {E:Value->Shared->Prop}
theorem YM {Q:Value->Shared->Prop} (hu:A.units+1<cLine) (I:Inv X pins σ H s) (g:HQ H a y o) (ry:RelV y u) (h:∀ w' s',Inv X pins σ H s'->RelV (o.getD .non) w'->Q w' s') :
  wpAny (model X.prog X.w) A (call (.builtin "dict.get") [.ref a,u]) Q E s:=by
 rcases g with ⟨kvs,k,e,ey,l⟩ | ⟨kvs,k,b,e,ey,eb,l⟩
 ·subst ey
  obtain ⟨z,hd,vs,rel,dd⟩:=KC I.hok e
  refine call_meetsIn PySem.F.slot_dict_get dd.typeIs PySem.F.entry_dict_get (PySem.F.args_dict_get_2 _ _) (meets_dict_get (Ck X.prog X.w) a (Nh ry) hd) ⟨_,dd.mapOf,h _ _ (I.tok _) ?_⟩
  rw [l]
  exact (rel.val k).getD rfl
 ·subst ey
  cases (show u=Value.ref b from ry)
  obtain ⟨z,hd,xs,rel,dd⟩:=KR I.hok e
  refine call_meetsIn PySem.F.slot_dict_get dd.typeIs PySem.F.entry_dict_get (PySem.F.args_dict_get_2 _ _) (meetsH_dict_get (tupleKind (Ck X.prog X.w)) a b hd) ⟨tupleKind_room_in1 hu,k,xs,Jw I.hok eb,dd,h _ _ (I.tok _) ?_⟩
  rw [l]
  exact (rel.val k).getD rfl
end
noncomputable def YS (td ty:TE):TE:=fun σ H Q=>td σ H fun x H1=>∃ a,x=.ref a/\lX H1 a/\ty σ H1 fun y H2=>∃ o,HQ H2 a y o/\Q (o.getD .non) H2
section
variable {X:Cx} {o e f:Expr} {apos cpos:Pos} {td ty tx:TE}
theorem MJ (hu:X.A.units+1<cLine) (ho:PE X o td) (he:PE X e ty) (m:M1 X o "get" apos e cpos):PE X (.Call (.Attribute o "get" apos) [e] [] cpos) (YS td ty):=by
 intro pins s σ H Q I h
 refine wpAny_Call_method m.base m.few m.line PySem.F.plainAttrs_dict PySem.F.slot_dict_get PySem.F.type_dict_get (Bx (ho pins s σ H _ I h) fun u s1 hq0=>?_)
 obtain ⟨x,H1,I1,rx,a,ex,d,q1⟩:=hq0
 subst ex
 obtain rfl:u=Value.ref a:=rx
 obtain ⟨t1,t2,_⟩:=YG I1 d
 refine ⟨t1,t2,?_⟩
 rw [m.trees]
 refine Calls.callWith_builtin rfl (Calls.evalArgs_plain (Calls.spliced_cons (Bx (he pins s1 σ H1 _ I1 q1) fun iv s2 ⟨y,H2,I2,ry,ov,g,q2⟩=>Calls.spliced_nil ?_)))
 exact YM hu I2 g ry fun w' s3 I3 rw'=>⟨_,H2,I3,rw',q2⟩
end
section
variable {X:Cx} {pins:List (Addr × Obj)} {σ:St} {H:Hp} {s:Shared} {a:Addr} {kvs:List (Key × V)} {A:Around} {E:Value->Shared->Prop}
end
section
variable {X:Cx} {pins:List (Addr × Obj)} {σ:St} {H:Hp} {s:Shared} {a:Addr} {y:V} {u:Value} {A:Around} {E:Value->Shared->Prop}
end
end L2
namespace HT
open PySem PyProof.Rows
section
open PySem.SeqAt
open PySem.AutoSeq1 (wpAny_loadPart')
open PySem.MeetsSeq PySem.MeetsSeq2 PySem.MeetsSeq3
end
section
variable {prog:Program} {w:World} {A:Around} {E:Value->Shared->Prop} {s:Shared}
noncomputable def DY (n d:Nat):Option Int->Nat
 | none=>d
 | some v=>if v<0 then (v+(n:Int)).toNat else min v.toNat n
theorem Hw (n d:Nat):DY n d none=d:=rfl
theorem Dv (n d k:Nat):DY n d (some (k:Int))=min k n:=by
 show (if (k:Int)<0 then ((k:Int)+(n:Int)).toNat else min (k:Int).toNat n)=min k n
 rw [if_neg (by omega),Int.toNat_natCast]
theorem Xe (n d:Nat) (hd:d<=n) (o:Option Int):DY n d o<=n:=by
 cases o with
 | none=>exact hd
 | some v =>
  show (if v<0 then (v+(n:Int)).toNat else min v.toNat n)<=n
  by_cases hv:v<0
  ·rw [if_pos hv]; omega
  ·rw [if_neg hv]; exact Nat.min_le_right _ _
theorem Pu (v:Int) (n d:Nat):(if v<0 then max (v+(n:Int)) 0 else min v (n:Int))=((DY n d (some v):Nat):Int):=by
 show (if v<0 then max (v+(n:Int)) 0 else min v (n:Int))=(((if v<0 then (v+(n:Int)).toNat else min v.toNat n):Nat):Int)
 by_cases hv:v<0
 ·simp only [if_pos hv]; omega
 ·simp only [if_neg hv]; omega
theorem OJ (lo hi:Option Int) (n:Nat):Builtin.Slice.sliceAdjust lo hi 1 (n:Int)=(((DY n 0 lo:Nat):Int),((DY n n hi:Nat):Int)):=by
 have h1:¬ ((1:Int)<0):=by omega
 unfold Builtin.Slice.sliceAdjust
 simp only [h1,if_false]
 refine Prod.ext ?_ ?_
 ·cases lo with
  | none=>rfl
  | some v=>exact Pu v n 0
 ·cases hi with
  | none=>rfl
  | some v=>exact Pu v n n
theorem Nm (i j:Nat):Builtin.Slice.slicePlaces (i:Int) (j:Int) 1=j - i:=by
 unfold Builtin.Slice.slicePlaces
 have h1:(1:Int) > 0:=by omega
 simp only [h1,if_true,Int.ediv_one]
 split <;> omega
theorem Jk {v:Value} {o:Option Int} {Q:Option Int->Shared->Prop} (p:IsPart v o) (h:Q o s):wpAny (model prog w) A (Builtin.Slice.slicePartIndex v) Q E s:=by
 cases p with
 | none=>exact slicePart_none h
 | int i t=>exact slicePart_int h
theorem Io {sl:Addr} {vl vu:Value} {lo hi:Option Int} {n:Nat} {Q:Int × Int × Nat->Shared->Prop} (hs:s.heap.IsSliceOf sl vl vu .none) (pl:IsPart vl lo) (pu:IsPart vu hi)
  (h:Q (((DY n 0 lo:Nat):Int),1,DY n n hi - DY n 0 lo) s):wpAny (model prog w) A (Builtin.Slice.sliceApplied (.ref sl) (pure (n:Int))) Q E s:=by
 obtain ⟨os,hos,hcs,hds⟩:=id hs
 unfold Builtin.Slice.sliceApplied Builtin.Slice.sliceFields
 refine wpAny_bind (wpAny_bind (wpAny_field hos hds (x:=vl) rfl (wpAny_bind (wpAny_field hos hds (x:=vu) rfl (wpAny_bind (wpAny_field hos hds (x:=.none) rfl (wpAny_pure ?_)))))))
 refine wpAny_bind (slicePart_none ?_)
 show wpAny _ _ (if ((1:Int) == 0)=true then _ else _) _ _ s
 rw [if_neg (by decide)]
 refine wpAny_bind (Jk pl (wpAny_bind (Jk pu (wpAny_bind (wpAny_pure ?_)))))
 show wpAny _ _ (match Builtin.Slice.sliceAdjust lo hi 1 (n:Int) with | (lo,hi)=>pure (lo,(1:Int),Builtin.Slice.slicePlaces lo hi 1)) _ _ s
 rw [OJ lo hi n]
 show wpAny _ _ (pure (((DY n 0 lo:Nat):Int),(1:Int),Builtin.Slice.slicePlaces ((DY n 0 lo:Nat):Int) ((DY n n hi:Nat):Int) 1)) _ _ s
 rw [Nm]
 exact wpAny_pure h
theorem Ue (xs:Array Value) (i k:Nat):((List.range k).filterMap fun (m:Nat)=>xs[((i:Int)+(m:Int) * 1).toNat]?).toArray=((xs.toList.drop i).take k).toArray:=by
 have e:(fun (m:Nat)=>xs[((i:Int)+(m:Int) * 1).toNat]?)=fun m=>xs[i+m]?:=by
  funext m
  have:((i:Int)+(m:Int) * 1).toNat=i+m:=by omega
  rw [this]
 rw [e]
 have:=pick_run xs i k
 rw [List.filterMap_map] at this
 have e2:((fun x=>xs[x]?) ∘ fun x=>i+x)=fun m=>xs[i+m]?:=rfl
 rw [e2] at this
 rw [this]
theorem Ie {t sl:Addr} {items:Array Value} {vl vu:Value} {lo hi:Option Int} {Q:Value->Shared->Prop} (ht:IsTup s.heap t items) (hs:s.heap.IsSliceOf sl vl vu .none) (pl:IsPart vl lo) (pu:IsPart vu hi)
  (hw:¬ (DY items.size 0 lo=0/\DY items.size items.size hi=items.size))
  (h:Q (.ref s.heap.objs.size) { s with heap:=s.heap.push { cls:=.type "tuple",data:=.seq ((items.toList.drop (DY items.size 0 lo)).take (DY items.size items.size hi - DY items.size 0 lo)).toArray } })
  (hsz:items.size<=sizeLine):wpAny (model prog w) A (getItem (.ref t) (.ref sl)) Q E s:=by
 have htake:sizeOk (.seq ((items.toList.drop (DY items.size 0 lo)).take (DY items.size items.size hi - DY items.size 0 lo)).toArray):=by
  show ((items.toList.drop (DY items.size 0 lo)).take (DY items.size items.size hi - DY items.size 0 lo)).toArray.size<=sizeLine
  rw [List.size_toArray,List.length_take,List.length_drop,Array.length_toList]
  omega
 have hj:DY items.size items.size hi<=items.size:=Xe _ _ (Nat.le_refl _) hi
 obtain ⟨os,hos,hcs,hds⟩:=id hs
 have hTs:s.TypeIs (.ref sl) "slice":=⟨os,hos,hcs⟩
 unfold getItem
 try with_reducible refine wpAny_holding ?_
 first | refine wpAny_bind (wpAny_pure ?_) | skip
 refine wpAny_bind (wpAny_sequenceKey ht.typeIs (by decide) ?_)
 refine wpAny_bind (wpAny_callSpecial?_slot (name:=Str.ofString "__getitem__") ht.typeIs PyProof.Rows.slot_tuple_getitem
  (wpAny_call_entry PyProof.Rows.slot_tuple_getitem ht.typeIs entry_tuple_getitem ?_ (args_tuple_getitem _ _)))
 show wpAny _ _ (Builtin.Tuple.tupleItemsOf (.ref t) >>= _) _ _ s
 refine wpAny_bind (tupleItemsOf_ ht ?_)
 refine wpAny_bind (wpAny_typeOf hTs ?_)
 rw [if_pos (by decide)]
 refine wpAny_bind (Io hs pl pu ?_)
 have hno:¬ ((((DY items.size 0 lo:Nat):Int) == 0 && (1:Int) == 1 && (DY items.size items.size hi - DY items.size 0 lo) == items.size)=true):=by
  intro q
  rw [Bool.and_eq_true,Bool.and_eq_true] at q
  have q1:((DY items.size 0 lo:Nat):Int)=0:=eq_of_beq q.1.1
  have q2:DY items.size items.size hi - DY items.size 0 lo=items.size:=eq_of_beq q.2
  exact hw ⟨by omega,by omega⟩
 show wpAny _ _ (if (((DY items.size 0 lo:Nat):Int) == 0 && (1:Int) == 1 && (DY items.size items.size hi - DY items.size 0 lo) == items.size)=true then _ else _) _ _ s
 rw [if_neg hno,Ue]
 first
  | exact wpAny_bind (m:=Builtin.Tuple.tupleExact _) (wpAny_newObj_type (wpAny_pure ⟨_,rfl,wpAny_pure h⟩) htake)
  | exact wpAny_bind (m:=Builtin.Tuple.tupleExact _) (wpAny_newObj_type (wpAny_bind (wpAny_pure (wpAny_pure ⟨_,rfl,wpAny_pure h⟩))) htake)
  | exact wpAny_bind (wpAny_bind (m:=Builtin.Tuple.tupleExact _) (wpAny_newObj_type (wpAny_pure (wpAny_pure ⟨_,rfl,wpAny_pure h⟩)) htake))
  | exact wpAny_bind (wpAny_bind (m:=Builtin.Tuple.tupleExact _) (wpAny_newObj_type (wpAny_pure ⟨_,rfl,wpAny_pure h⟩) htake))
end
end HT
namespace L2
open PySem PySem.Spec PyProof.Rows
noncomputable abbrev TO:=St->Hp->(Option Int->Hp->Prop)->Prop
noncomputable def PO (X:Cx) (e:Option Expr) (t:TO):Prop :=
 ∀ (pins:List (Addr × Obj)) (s:Shared) (σ:St) (H:Hp) (Q:Option Int->Hp->Prop),Inv X pins σ H s->t σ H Q ->
  wpAny (model X.prog X.w) X.A (evalPart e X.env) (fun u s'=>∃ o H',Inv X pins σ H' s'/\IsPart u o/\Q o H') X.xe s
noncomputable def V5:TO:=fun _ H Q=>Q none H
noncomputable def eF (t:TE):TO:=fun σ H Q=>t σ H fun x H1=>∃ i,x=.int i/\Q (some i) H1
section
variable {X:Cx} {e:Expr} {te:TE} {lo hi:Option Expr} {tl th:TO} {pos p2:Pos}
theorem Dk:PO X none V5:=by
 intro pins s σ H Q I h
 rw [evalPart_none]
 exact wpAny_pure ⟨none,H,I,.none,h⟩
theorem DR (h:PE X e te):PO X (some e) (eF te):=by
 intro pins s σ H Q I hw
 rw [evalPart_some]
 refine Bx (h pins s σ H _ I hw) fun u s1 hq0=>?_
 obtain ⟨x,H1,I1,r1,q1⟩:=hq0
 obtain ⟨i,rfl,q⟩:=q1
 obtain ⟨t,rfl⟩:=r1
 exact ⟨some i,H1,I1,.int i t,q⟩
noncomputable def aR (X:Cx) (r:V->Option Int->Option Int->Hp->VK->Prop):Prop :=
 ∀ (pins:List (Addr × Obj)) (s:Shared) (σ:St) (H:Hp) (x:V) (v vl vu:Value) (lo hi:Option Int) (sl:Addr) (Q:VK),Inv X pins σ H s->RelV x v->s.heap.IsSliceOf sl vl vu .none->IsPart vl lo->IsPart vu hi->r x lo hi H Q ->
  ∃ T id,typeLookup (.type T) "__getitem__" = pure (some (.builtin id))/\s.TypeIs v T/\wpAny (model X.prog X.w) X.A (getItem v (.ref sl)) (EP X pins σ Q) X.xe s
noncomputable def nU (r:V->Option Int->Option Int->Hp->VK->Prop) (te:TE) (tl th:TO):TE:=fun σ H Q=>te σ H fun x H1=>tl σ H1 fun l H2=>th σ H2 fun u H3=>r x l u H3 Q
theorem Cp {r:V->Option Int->Option Int->Hp->VK->Prop} (hr:aR X r) (he:PE X e te) (hl:PO X lo tl) (hu:PO X hi th):PE X (.Subscript e (.Slice lo hi none p2) pos) (nU r te tl th):=by
 intro pins s σ H Q I h
 refine Subscript_ (Bx (he pins s σ H _ I h) fun v s1 hq0=>?_)
 obtain ⟨x,H1,I1,r1,q1⟩:=hq0
 refine wpAny_Slice (Bx (hl pins s1 σ H1 _ I1 q1) fun vl s2 ⟨l,H2,I2,pl,q2⟩=>Bx (hu pins s2 σ H2 _ I2 q2) fun vu s3 hq0=>?_)
 obtain ⟨u,H3,I3,pu,q3⟩:=hq0
 rw [evalPart_none]
 refine wpAny_pure ?_
 have I4:Inv X pins σ H3 { s3 with heap:=s3.heap.push { cls:=.type "slice",data:=.fields #[vl,vu,.none] } }:=I3.kept (t':=s3.toks) fun b ob q=>Heap.get?_push_of_some _ q
 obtain ⟨T,id,hT,ht,hg⟩:=hr pins { s3 with heap:=s3.heap.push { cls:=.type "slice",data:=.fields #[vl,vu,.none] } } σ H3 x v vl vu l u s3.heap.objs.size Q I4 r1 (Heap.IsSliceOf.new ..) pl pu q3
 show wpAny (model X.prog X.w) X.A (subscriptTail e (.Slice lo hi none p2) v (.ref s3.heap.objs.size)) (EP X pins σ Q) X.xe { s3 with heap:=s3.heap.push { cls:=.type "slice",data:=.fields #[vl,vu,.none] } }
 exact tail_any (ops:=[.ref s3.heap.objs.size,v]) ht hT hg (by with_unfolding_all rfl)
noncomputable def Dm (xs:List V) (lo hi:Option Int):List V:=(xs.drop (HT.DY xs.length 0 lo)).take (HT.DY xs.length xs.length hi - HT.DY xs.length 0 lo)
theorem JP (xs:List V) (lo hi:Option Int):(Dm xs lo hi).length<=xs.length:=by
 unfold Dm
 rw [List.length_take,List.length_drop]
 omega
noncomputable def aX (K:PySem.W.Frag):V->Option Int->Option Int->Hp->VK->Prop:=fun x lo hi H Q=>∃ a xs,x=.ref a/\Ft K H a xs /\
 ¬ (HT.DY xs.length 0 lo=0/\HT.DY xs.length xs.length hi=xs.length)/\∀ p,H p=none->Q (.ref p) (upd H p (.tup (Dm xs lo hi)))
theorem LQ:aR X (aX X.K):=by
 intro pins s σ H x v vl vu lo hi sl Q I rx hs pl pu h
 obtain ⟨a,xs,rfl,hx,hw,q⟩:=h
 cases rx
 obtain ⟨its,r,ht,hz⟩:=I.tuple hx
 have hlen:its.toArray.size=xs.length:=by rw [List.size_toArray]; exact r.length.symm
 refine ⟨"tuple",_,PyProof.Rows.slot_tuple_getitem.lookup,ht.typeIs,?_⟩
 refine HT.Ie ht hs pl pu (by rw [hlen]; exact hw) ?_ (by rw [hlen]; exact hz)
 rw [hlen]
 refine ⟨.ref s.heap.objs.size,_,I.laid (t':=s.toks) (o:=.tup (Dm xs lo hi)) (fun b ob q=>Heap.get?_push_of_some _ q) (Nat.le_refl _) ?_,rfl,q _ (I.hok.fresh (Nat.le_refl _))⟩
 exact ⟨Nat.le_trans (JP xs lo hi) hz,_,(r.drop (HT.DY xs.length 0 lo)).take (HT.DY xs.length xs.length hi - HT.DY xs.length 0 lo),IsTup.new _ _⟩
end
end L2
namespace L2
open PySem PySem.Spec PyProof.Rows
noncomputable def Rg (n:Nat) (i:Int):Option Nat:=if 0<=i then (if i<n then some i.toNat else none) else if -(n:Int)<=i then some (i+n).toNat else none
noncomputable def QB {α:Type} (xs:List α) (i:Int):Option α:=(Rg xs.length i).bind fun j=>xs[j]?
theorem Ph {n:Nat} {i:Int} {j:Nat} (h:Rg n i=some j):seqIndex? i n=some j/\j<n /\ -(n:Int)<=i/\i<n:=by
 unfold Rg at h
 by_cases h0:0<=i
 ·rw [if_pos h0] at h
  by_cases h1:i<n
  ·rw [if_pos h1] at h
   have e:i.toNat=j:=Option.some.inj h
   exact ⟨by rw [seqIndex_of h0 h1,e],by omega,by omega,h1⟩
  ·rw [if_neg h1] at h; cases h
 ·rw [if_neg h0] at h
  by_cases h1 : -(n:Int)<=i
  ·rw [if_pos h1] at h
   have e:(i+n).toNat=j:=Option.some.inj h
   exact ⟨by rw [seqIndex_neg (by omega) h1,e],by omega,h1,by omega⟩
  ·rw [if_neg h1] at h; cases h
theorem K6 {α:Type} {xs:List α} {i:Int} {v:α} (h:QB xs i=some v):∃ j,seqIndex? i xs.length=some j/\xs[j]? = some v/\j<xs.length /\ -(xs.length:Int)<=i/\i<xs.length:=by
 unfold QB at h
 cases e:Rg xs.length i with
 | none=>rw [e] at h; cases h
 | some j =>
  rw [e] at h
  obtain ⟨h1,h2,h3,h4⟩:=Ph e
  exact ⟨j,h1,h,h2,h3,h4⟩
theorem Aj {α:Type} {xs:List α} {j:Nat} {v:α} (h:xs[j]? = some v):QB xs (j:Int)=some v:=by
 have hj:j<xs.length:=(List.getElem?_eq_some_iff.mp h).1
 have e:Rg xs.length (j:Int)=some j:=by
  unfold Rg
  rw [if_pos (by omega),if_pos (by omega)]; simp
 unfold QB; rw [e]; exact h
noncomputable def VF (b:Expr):Prop:=∀ o i,subscripted b false o i=operate [o,i] (getItem o i)
noncomputable def Yl (X:Cx) (r:R2):Prop :=
 ∀ (value slice:Expr) (pins:List (Addr × Obj)) (s:Shared) (σ:St) (H:Hp) (x y:V) (v u:Value) (Q:VK),Inv X pins σ H s->RelV x v->RelV y u->r x y H Q ->
  subscripted slice false v u=operate [v,u] (getItem v u)->wpAny (model X.prog X.w) X.A (subscriptTail value slice v u) (EP X pins σ Q) X.xe s
noncomputable def fu (X:Cx) (id:String) (r:V->List V->Hp->VK->Prop):Prop :=
 ∀ (pins:List (Addr × Obj)) (s:Shared) (σ:St) (H:Hp) (x:V) (xs:List V) (v:Value) (us:List Value) (Q:VK),Inv X pins σ H s->RelV x v->Vals xs us->r x xs H Q ->
  wpAny (model X.prog X.w) X.A (call (.builtin id) (v::us)) (EP X pins σ Q) X.xe s
section
variable {X:Cx} {a b:Expr} {ta tb:TE} {pos:Pos}
theorem Ay {r:R2} (hr:Yl X r) (ha:PE X a ta) (hb:PE X b tb) (hs:VF b):PE X (.Subscript a b pos) (Yr r ta tb):=by
 intro pins s σ H Q I h
 exact Subscript_ (W6 ha hb I h fun v u s2 x y H2 I2 rx ry q=>hr a b pins s2 σ H2 x y v u Q I2 rx ry q (hs _ _))
noncomputable def c7 (K:PySem.W.Frag):R2:=fun x y H Q=>∃ p xs i v,x=.ref p/\y=.int i/\Cw K H p xs/\QB xs i=some v/\Q v H
noncomputable def Xp (K:PySem.W.Frag):R2:=fun x y H Q=>∃ p xs i v,x=.ref p/\y=.int i/\Ft K H p xs/\QB xs i=some v/\Q v H
noncomputable def h_:R2:=fun x y H Q=>∃ z i c,x=.str z/\y=.int i/\z.length<=sizeLine/\QB z.cps.toList i=some c/\Q (.str ⟨#[c]⟩) H
theorem Bt:Yl X (c7 X.K):=by
 intro value slice pins s σ H x y v u Q I rx ry h hs
 obtain ⟨p,xs,i,z,rfl,rfl,hq,he,q⟩:=h
 cases rx
 obtain ⟨t,rfl⟩:=ry
 obtain ⟨its,r,pl,hz⟩:=I.list hq
 obtain ⟨j,h1,h2,h3,h4,h5⟩:=K6 he
 obtain ⟨w,ew,rw'⟩:=r.get h2
 have hl:=r.length
 have hn:=Gi
 have fin:EP X pins σ Q w s:=⟨z,H,I,rw',q⟩
 by_cases h0:0<=i
 ·have hj:i.toNat=j:=by
   rw [seqIndex_of h0 h5] at h1
   exact Option.some.inj h1
  exact item_listR pl.isList h0 (by omega) (by rw [hj]; simpa using ew) fin hs
 ·have hj:(i+(its.toArray.size:Int)).toNat=j:=by
   rw [seqIndex_neg (by omega) h4] at h1
   rw [List.size_toArray,← hl]
   exact Option.some.inj h1
  exact subscriptTail_builtinR (x:=w) pl.isList.typeIs slot_list_getitem.lookup
   (wpAny_getItem_list_neg (Q:=fun r s'=>r=w/\EP X pins σ Q r s') pl.isList (by omega) (by rw [List.size_toArray] <;> omega) (by omega) (by rw [hj]; simpa using ew) ⟨rfl,fin⟩) hs
theorem YK:Yl X (Xp X.K):=by
 intro value slice pins s σ H x y v u Q I rx ry h hs
 obtain ⟨p,xs,i,z,rfl,rfl,hq,he,q⟩:=h
 cases rx
 obtain ⟨t,rfl⟩:=ry
 obtain ⟨its,r,pl,hz⟩:=I.tuple hq
 obtain ⟨j,h1,h2,h3,h4,h5⟩:=K6 he
 obtain ⟨w,ew,rw'⟩:=r.get h2
 have hl:=r.length
 have hn:=Gi
 have fin:EP X pins σ Q w s:=⟨z,H,I,rw',q⟩
 exact subscriptTail_builtinR (x:=w) pl.typeIs slot_tuple_getitem.lookup
  (getItem_tuple (j:=j) (Q:=fun r s'=>r=w/\EP X pins σ Q r s') pl (by omega) (by omega) (by rw [List.size_toArray,← hl]; exact h1) (by simpa using ew) ⟨rfl,fin⟩) hs
theorem Rt:Yl X h_:=by
 intro value slice pins s σ H x y v u Q I rx ry h hs
 obtain ⟨z,i,c,rfl,rfl,hz,he,q⟩:=h
 obtain ⟨t,rfl⟩:=rx
 obtain ⟨t',rfl⟩:=ry
 obtain ⟨j,h1,h2,h3,h4,h5⟩:=K6 he
 have hl:z.cps.toList.length=z.length:=by simp [Str.length]
 rw [hl] at h1 h4 h5
 have hn:=Gi
 exact tail_any (typeIs_str s z t) slot_str_getitem.lookup (getItem_str (c:=c) (by
  have e1:decide (i < -(2 ^ 63:Int))=false:=decide_eq_false (by omega)
  have e2:decide (i ≥ 2 ^ 63)=false:=decide_eq_false (by omega)
  rw [e1,e2,Bool.or_false]) (by rw [h1]; simpa using h2) ⟨.str ⟨#[c]⟩,H,I.tok _,⟨_,rfl⟩,q⟩) hs
theorem O5 (its:List Value) (n j:Nat) (u:Value):Obj.mapSeq (·.setIfInBounds j u) { cls:=.type "list",data:=.seq its.toArray n } = { cls:=.type "list",data:=.seq (its.set j u).toArray n }:=by
 simp [Obj.mapSeq]
theorem Inv.lst {pins:List (Addr × Obj)} {σ:St} {H:Hp} {s:Shared} {p:Addr} {xs:List V} (I:Inv X pins σ H s) (h:H p=some (.lst xs)) :
  ∃ (its:List Value) (n:Nat),Vals xs its/\s.heap.get? p=some { cls:=.type "list",data:=.seq its.toArray n }/\xs.length<=sizeLine:=by
 obtain ⟨z,its,n,r,e⟩:=I.hok p _ h
 exact ⟨its,n,r,e,z⟩
theorem Inv.YZ {pins:List (Addr × Obj)} {σ:St} {H:Hp} {s:Shared} {p:Addr} {xs ys:List V} {its its':List Value} {n n':Nat} {f:Obj->Obj} (I:Inv X pins σ H s) (h:H p=some (.lst xs))
  (ho:s.heap.get? p=some { cls:=.type "list",data:=.seq its.toArray n }) (hf:f { cls:=.type "list",data:=.seq its.toArray n } = { cls:=.type "list",data:=.seq its'.toArray n' }) (r:Vals ys its') (hz:ys.length<=sizeLine) (t:Nat) :
  Inv X pins σ (upd H p (.lst ys)) { s with heap:=s.heap.update p f,toks:=t }:=by
 have e:(s.heap.update p f).get? p=some { cls:=.type "list",data:=.seq its'.toArray n' }:=by
  rw [Heap.get?_update_self f ho (by rw [hf] <;> rfl),hf]
 refine I.write (x:=p) (e:=p) (by rw [h]; trivial) (.inl rfl) (fun b u hb q=>(Heap.get?_update_other _ _ (Ne.symm hb)).trans q) ⟨_,e⟩ ?_
 exact ⟨hz,its',n',r,e⟩
noncomputable def cV:V->V->V->Hp->(Hp->Prop)->Prop:=fun o i v H Q=>∃ p xs k j,o=.ref p/\i=.int k/\H p=some (.lst xs)/\Rg xs.length k=some j/\Q (upd H p (.lst (xs.set j v)))
theorem set_list:ZK X cV:=by
 intro pins s σ H o i v ov iv u Q I ro ri rv h
 obtain ⟨p,xs,k,j,rfl,rfl,hp,hj,q⟩:=h
 cases ro
 obtain ⟨t,rfl⟩:=ri
 obtain ⟨its,n,r,ho,hz⟩:=I.lst hp
 obtain ⟨h1,h2,h3,h4⟩:=Ph hj
 have hl:=r.length
 have hn:=Gi
 have I':Inv X pins σ (upd H p (.lst (xs.set j v))) { s with heap:=s.heap.update p (Obj.mapSeq (·.setIfInBounds j u)) } :=
  I.YZ hp ho (O5 its n j u) (r.set rv j) (by rw [List.length_set]; exact hz) s.toks
 by_cases h0:0<=k
 ·have hk:k.toNat=j:=by
   rw [seqIndex_of h0 h4] at h1
   exact Option.some.inj h1
  exact PySem.W.ki_setAt ho h0 (by omega) (by rw [List.size_toArray,← hl]; exact h4) (by rw [hk]; exact ⟨_,I',q⟩)
 ·have hk:(k+(its.toArray.size:Int)).toNat=j:=by
   rw [seqIndex_neg (by omega) h3] at h1
   rw [List.size_toArray,← hl]
   exact Option.some.inj h1
  exact PySem.W.ki_setBack ho (by omega) (by rw [List.size_toArray,← hl]; exact h3) (by omega) (by rw [hk]; exact ⟨_,I',q⟩)
theorem K7 (lo hi:Option Int) (n:Nat):(sliceBounds lo hi none n).1=((HT.DY n 0 lo:Nat):Int)/\(sliceBounds lo hi none n).2.1=((HT.DY n n hi:Nat):Int)/\(sliceBounds lo hi none n).2.2=1:=by
 refine ⟨?_,?_,rfl⟩
 ·cases lo with
  | none=>simp [sliceBounds,HT.DY]
  | some i =>
   simp only [sliceBounds,HT.DY,Option.getD_none,show (1:Int) > 0 by decide,if_true]
   by_cases h:i<0
   ·simp only [h,if_true] <;> omega
   ·simp only [h,if_false] <;> omega
 ·cases hi with
  | none=>simp [sliceBounds,HT.DY]
  | some i =>
   simp only [sliceBounds,HT.DY,Option.getD_none,show (1:Int) > 0 by decide,if_true]
   by_cases h:i<0
   ·simp only [h,if_true] <;> omega
   ·simp only [h,if_false] <;> omega
theorem J9 (its:List Value) (lo hi:Option Int):slicePick its.toArray lo hi none=((its.drop (HT.DY its.length 0 lo)).take (HT.DY its.length its.length hi - HT.DY its.length 0 lo)).toArray:=by
 obtain ⟨h1,h2,h3⟩:=K7 lo hi its.toArray.size
 unfold slicePick
 rw [h1,h2,h3]
 simp only [sliceRange_one,pick_run,List.size_toArray] <;> rfl
noncomputable def gj (K:PySem.W.Frag):V->Option Int->Option Int->Hp->VK->Prop:=fun x lo hi H Q=>∃ a xs,x=.ref a/\Cw K H a xs/\∀ p,H p=none->Q (.ref p) (upd H p (.lst (Dm xs lo hi)))
theorem GC:aR X (gj X.K):=by
 intro pins s σ H x v vl vu lo hi sl Q I rx hs pl pu h
 obtain ⟨a,xs,rfl,hx,q⟩:=h
 cases rx
 obtain ⟨its,r,ht,hz⟩:=I.list hx
 have hlen:=r.length
 refine ⟨"list",_,slot_list_getitem.lookup,ht.isList.typeIs,?_⟩
 refine wpAny_getItem_list_slice ht.isList hs pl pu .none (by simp) ?_ (by rw [List.size_toArray] <;> omega)
 rw [J9,← hlen]
 refine ⟨.ref s.heap.objs.size,_,I.laid (t':=s.toks) (o:=.lst (Dm xs lo hi)) (fun b ob q=>Heap.get?_push_of_some _ q) (Nat.le_refl _) ?_,rfl,q _ (I.hok.fresh (Nat.le_refl _))⟩
 exact ⟨Nat.le_trans (JP xs lo hi) hz,_,0,(r.drop (HT.DY xs.length 0 lo)).take (HT.DY xs.length xs.length hi - HT.DY xs.length 0 lo),Heap.get?_push_size _ rfl⟩
noncomputable def Do:V->Bool
 | .non=>true
 | .bl _=>true
 | .int _=>true
 | .str _=>true
 | _=>false
noncomputable def LR:V->V->Bool
 | .non,.non=>true
 | .bl a,.bl b=>a == b
 | .bl a,.int b=>(if a then 1 else 0) == b
 | .int a,.bl b=>a == (if b then 1 else 0)
 | .int a,.int b=>a == b
 | .str a,.str b=>a == b
 | _,_=>false
theorem Ny {A:Around} {s:Shared} {y x:V} {u v:Value} (ry:RelV y u) (rx:RelV x v) (fy:Do y=true) (fx:Do x=true):SeqAt.EqAt A s u v (LR y x):=by
 cases y with
 | non =>
  cases ry
  cases x with
  | non=>cases rx; exact SeqAt.EqAt.same _
  | bl b=>cases rx; exact SeqAt.EqAt.none_bool b
  | int b=>obtain ⟨t,rfl⟩:=rx; exact SeqAt.EqAt.none_int b t
  | str b=>obtain ⟨t,rfl⟩:=rx; exact SeqAt.EqAt.none_str b t
  | _=>exact absurd (show false=true from fx) Bool.false_ne_true
 | bl a =>
  cases ry
  cases x with
  | non=>cases rx; exact SeqAt.EqAt.bool_none a
  | bl b=>cases rx; exact SeqAt.EqAt.bool_bool a b
  | int b=>obtain ⟨t,rfl⟩:=rx; exact SeqAt.EqAt.bool_int a b t
  | str b=>obtain ⟨t,rfl⟩:=rx; exact SeqAt.EqAt.bool_str a b t
  | _=>exact absurd (show false=true from fx) Bool.false_ne_true
 | int a =>
  obtain ⟨t',rfl⟩:=ry
  cases x with
  | non=>cases rx; exact SeqAt.EqAt.int_none a t'
  | bl b=>cases rx; exact SeqAt.EqAt.int_bool a t' b
  | int b=>obtain ⟨t,rfl⟩:=rx; exact SeqAt.EqAt.int_int a t' b t
  | str b=>obtain ⟨t,rfl⟩:=rx; exact SeqAt.EqAt.int_str a t' b t
  | _=>exact absurd (show false=true from fx) Bool.false_ne_true
 | str a =>
  obtain ⟨t',rfl⟩:=ry
  cases x with
  | non=>cases rx; exact SeqAt.EqAt.str_none a t'
  | bl b=>cases rx; exact SeqAt.EqAt.str_bool a t' b
  | int b=>obtain ⟨t,rfl⟩:=rx; exact SeqAt.EqAt.str_int a t' b t
  | str b=>obtain ⟨t,rfl⟩:=rx; exact SeqAt.EqAt.str_str a t' b t
  | _=>exact absurd (show false=true from fx) Bool.false_ne_true
 | _=>exact absurd (show false=true from fy) Bool.false_ne_true
noncomputable def RZ (x:V) (u:Value):Bool:=match u with
 | .none=>LR .non x
 | .bool b=>LR (.bl b) x
 | .int i _=>LR (.int i) x
 | .str z _=>LR (.str z) x
 | _=>false
theorem Lp {x y:V} {u:Value} (r:RelV y u) (f:Do y=true):RZ x u=LR y x:=by
 cases y with
 | non=>cases r; rfl
 | bl b=>cases r; rfl
 | int i=>obtain ⟨t,rfl⟩:=r; rfl
 | str z=>obtain ⟨t,rfl⟩:=r; rfl
 | _=>exact absurd (show false=true from f) Bool.false_ne_true
theorem Lk {x:V}:∀ {xs:List V} {us:List Value},Vals xs us->xs.all Do=true->us.any (RZ x)=xs.any fun y=>LR y x
 | _,_,.nil,_=>rfl
 | y::xs,u::us,.cons r t,f=>by
  rw [List.all_cons,Bool.and_eq_true] at f
  rw [List.any_cons,List.any_cons,Lp r f.1,Lk t f.2]
theorem IK {A:Around} {s:Shared} {x:V} {v:Value} (rx:RelV x v) (fx:Do x=true):∀ {xs:List V} {us:List Value},Vals xs us->xs.all Do=true->∀ u∈us,SeqAt.EqAt A s u v (RZ x u)
 | _,_,.nil,_=>fun u hu=>by cases hu
 | y::xs,u::us,.cons r t,f=>fun u' hu=>by
  rw [List.all_cons,Bool.and_eq_true] at f
  rcases List.mem_cons.mp hu with rfl | hu
  ·rw [Lp r f.1]; exact Ny r rx f.1 fx
  ·exact IK rx fx t f.2 u' hu
noncomputable def inV (x:V) (xs:List V):Bool:=xs.any fun y=>LR y x
noncomputable def lg (K:PySem.W.Frag) (neg:Bool):R2:=fun x y H Q=>∃ p xs,y=.ref p/\(Cw K H p xs \/ Ft K H p xs)/\Do x=true/\xs.all Do=true/\Q (.bl (if neg then !inV x xs else inV x xs)) H
theorem Qu:HJ X (compareOp .In) (lg X.K false):=by
 intro pins s σ H x y v u Q I rx ry h
 obtain ⟨p,xs,rfl,hq,fx,fs,q⟩:=h
 cases ry
 rcases hq with hq | hq
 ·obtain ⟨its,r,pl,hz⟩:=I.list hq
  refine SeqAt.in_listAt (RZ x) pl.isList (fun w hw=>IK rx fx r fs w (by simpa using hw)) ⟨.bl _,H,I,rfl,?_⟩
  rw [show its.toArray.any (RZ x)=its.any (RZ x) by simp,Lk r fs]
  exact q
 ·obtain ⟨its,r,pl,hz⟩:=I.tuple hq
  refine SeqAt.in_tupleAt (RZ x) pl (fun w hw=>IK rx fx r fs w (by simpa using hw)) ⟨.bl _,H,I,rfl,?_⟩
  rw [show its.toArray.any (RZ x)=its.any (RZ x) by simp,Lk r fs]
  exact q
theorem BX:Eg X (.builtin "len") (fun xs H Q=>∃ p ys,xs=[.ref p]/\(Cw X.K H p ys \/ Ft X.K H p ys)/\Q (.int ys.length) H):=by
 intro pins s σ H xs us Q I r h
 obtain ⟨p,ys,rfl,hq,q⟩:=h
 obtain ⟨u,rfl,rx⟩:=vals1 r
 cases rx
 have hn:=Gi
 rcases hq with hq | hq
 ·obtain ⟨its,r',pl,hz⟩:=I.list hq
  have hlen:=r'.length
  exact Calls.call_len_list pl.isList (by simp only [List.size_toArray] <;> omega) ⟨.int ys.length,H,I.tok _,⟨s.toks+1,by rw [List.size_toArray,hlen]⟩,q⟩
 ·obtain ⟨its,r',pl,hz⟩:=I.tuple hq
  have hlen:=r'.length
  exact len_tuple pl (by simp only [List.size_toArray] <;> omega) ⟨.int ys.length,H,I.tok _,⟨s.toks+1,by rw [List.size_toArray,hlen]⟩,q⟩
theorem Hn:Eg X (.builtin "len") (fun xs H Q=>∃ z,xs=[.str z]/\z.length<=sizeLine/\Q (.int z.length) H):=by
 intro pins s σ H xs us Q I r h
 obtain ⟨z,rfl,hz,q⟩:=h
 obtain ⟨u,rfl,t,rfl⟩:=vals1 r
 have hn:=Gi
 exact len_str (by omega) ⟨.int z.length,H,I.tok _,⟨_,rfl⟩,q⟩
theorem Hm:Eg X (.type "list") (fun xs H Q=>∃ p ys,xs=[.ref p]/\(Cw X.K H p ys \/ Ft X.K H p ys)/\∀ l,H l=none->Q (.ref l) (upd H l (.lst ys))):=by
 intro pins s σ H xs us Q I r h
 obtain ⟨p,ys,rfl,hq,q⟩:=h
 obtain ⟨u,rfl,rx⟩:=vals1 r
 cases rx
 have fin:∀ (its:List Value),Vals ys its->ys.length<=sizeLine->∀ (h':Heap) (c':Nat),(∀ b o',s.heap.get? b=some o'->h'.get? b=some o') ->
   h'.get? s.heap.objs.size=some { cls:=.type "list",dict:=none,data:=.seq its.toArray c',slots:=#[] }->EP X pins σ Q (.ref s.heap.objs.size) { s with heap:=h' }:=fun its r' hz h' c' kp e =>
  ⟨.ref s.heap.objs.size,_,I.laid (t':=s.toks) kp (Nat.le_refl _) (show Bv X.prog X.w _ h' _ (.lst ys) from ⟨hz,its,c',r',e⟩),rfl,q _ (I.hok.fresh (Nat.le_refl _))⟩
 rcases hq with hq | hq
 ·obtain ⟨its,r',pl,hz⟩:=I.list hq
  have hlen:=r'.length
  obtain ⟨o,ho,hc,n,hd⟩:=pl.isList
  exact call_list_seq p (.inl rfl) ho hc hd (fun h' c' kp e=>fin its r' hz h' c' kp e) (by simp only [List.size_toArray] <;> omega)
 ·obtain ⟨its,r',pl,hz⟩:=I.tuple hq
  have hlen:=r'.length
  obtain ⟨o,ho,hc,n,hd⟩:=pl
  exact call_list_seq p (.inr rfl) ho hc hd (fun h' c' kp e=>fin its r' hz h' c' kp e) (by simp only [List.size_toArray] <;> omega)
theorem J6:Eg X (.type "tuple") (fun xs H Q=>∃ p ys,xs=[.ref p]/\((Cw X.K H p ys/\∀ l,H l=none->Q (.ref l) (upd H l (.tup ys))) \/ (Ft X.K H p ys/\Q (.ref p) H))):=by
 intro pins s σ H xs us Q I r h
 obtain ⟨p,ys,rfl,h⟩:=h
 obtain ⟨u,rfl,rx⟩:=vals1 r
 cases rx
 rcases h with ⟨hq,q⟩ | ⟨hq,q⟩
 ·obtain ⟨its,r',pl,hz⟩:=I.list hq
  have hlen:=r'.length
  refine call_tuple_list pl.isList (fun h' kp=>?_) (by simp only [List.size_toArray] <;> omega)
  have I1:Inv X pins σ H { s with heap:=h' }:=I.kept (t':=s.toks) kp
  have I2:Inv X pins σ (upd H h'.objs.size (.tup ys)) { s with heap:=h'.push { cls:=.type "tuple",data:=.seq its.toArray } } :=
   I1.laid (t':=s.toks) (fun b o e=>Heap.get?_push_of_some _ e) (Nat.le_refl _) (show Bv X.prog X.w _ _ _ (.tup ys) from ⟨hz,its,r',IsTup.new _ _⟩)
  exact ⟨.ref h'.objs.size,_,I2,rfl,q _ (I1.hok.fresh (Nat.le_refl _))⟩
 ·obtain ⟨its,r',pl,hz⟩:=I.tuple hq
  exact call_tuple_same pl ⟨.ref p,H,I,rfl,q⟩
noncomputable def mF (K:PySem.W.Frag) (T:String) (x:V) (H:Hp):Prop:=match x with
 | .str _=>T = "str"
 | .int _=>T = "int"
 | .ref p=>(T = "list" /\ ∃ xs,Cw K H p xs) \/ (T = "tuple" /\ ∃ o,K.lookup p=some o/\o.cls=.type "tuple" /\ o.dict=none) \/
   (T = "dict" /\ ((∃ kvs,H p=some (.dK kvs)) \/ ∃ kvs,H p=some (.dT kvs))) \/ (T = "set" /\ ∃ S n,H p=some (.set S n))
 | _=>False
theorem Xu {pins:List (Addr × Obj)} {σ:St} {H:Hp} {s:Shared} {T:String} {x:V} {v:Value} (I:Inv X pins σ H s) (r:RelV x v) (ty:mF X.K T x H) :
  s.TypeIs v T/\∀ a,v=.ref a->∃ ob,s.heap.get? a=some ob/\ob.dict=none:=by
 cases x with
 | str z =>
  obtain ⟨t,rfl⟩:=r
  cases (show T = "str" from ty)
  exact ⟨typeIs_str s z t,fun _ e=>nomatch e⟩
 | int i =>
  obtain ⟨t,rfl⟩:=r
  cases (show T = "int" from ty)
  exact ⟨typeIs_int s i t,fun _ e=>nomatch e⟩
 | ref p =>
  cases r
  rcases ty with ⟨rfl,xs,hq⟩ | ⟨rfl,o,hk,hc,hd⟩ | ⟨rfl,hk⟩ | ⟨rfl,S,n,hk⟩
  ·obtain ⟨its,_,pl,_⟩:=I.list hq
   refine ⟨pl.isList.typeIs,fun a e=>?_⟩
   cases e
   obtain ⟨o,n,e,c,hd,_⟩:=pl
   exact ⟨o,e,hd⟩
  ·refine ⟨⟨o,I.GD p o hk,hc⟩,fun a e=>?_⟩
   cases e
   exact ⟨o,I.GD _ o hk,hd⟩
  ·have z:∃ o,s.heap.get? p=some o/\o.ExactDict:=by
    rcases hk with ⟨kvs,hk⟩ | ⟨kvs,hk⟩
    ·obtain ⟨_,_,_,_,o,_,_,e,ex,_⟩:=I.hok p _ hk
     exact ⟨o,e,ex⟩
    ·obtain ⟨_,_,_,_,o,_,_,e,ex,_⟩:=I.hok p _ hk
     exact ⟨o,e,ex⟩
   obtain ⟨o,e,ex⟩:=z
   refine ⟨⟨o,e,ex.1⟩,fun a e2=>?_⟩
   cases e2
   exact ⟨o,e,ex.2.1⟩
  ·obtain ⟨o,_,_,_,e,ex,_⟩:=I.hok p _ hk
   refine ⟨⟨o,e,ex.1⟩,fun a e2=>?_⟩
   cases e2
   exact ⟨o,e,ex.2.1⟩
 | _=>exact False.elim ty
noncomputable def mq (K:PySem.W.Frag) (T:String) (r:V->List V->Hp->VK->Prop) (to:TE) (t:TA):TE:=fun σ H Q=>to σ H fun x H1=>mF K T x H1/\t σ H1 fun xs H2=>r x xs H2 Q
variable {o e:Expr} {es:List Expr} {to:TE} {t:TA} {name:Str} {apos cpos:Pos} {T id:String} {r:V->List V->Hp->VK->Prop}
theorem Ec (pa:PlainAttrs T) (slot:Slot T name id) (hty:typeOf (.builtin id)=pure (.type "method_descriptor")) (hm:fu X id r) (ho:PE X o to) (ha:PA X (e::es) t)
  (hbase:attributeBase o name X.env (eval o X.env)=eval o X.env:=by rfl)
  (hfew:((backTo cpos (starEach (e::es) X.env)).all (fun x=>!x.1) && (backToKw cpos (keywordEach [] X.env)).all (fun x=>x.1.isSome)
   && decide ((e::es).length+([]:List Keyword).length+(if ([]:List Keyword).isEmpty then 0 else 1)<30))=true:=by rfl)
  (hline:(apos.endLine == cpos.line)=true:=by rfl) (hs:starEach (e::es) X.env=(false,eval e X.env)::starEach es X.env:=by rfl) (hplain:(backTo cpos (starEach es X.env)).any (·.1)=false:=by rfl) :
  PE X (.Call (.Attribute o name apos) (e::es) [] cpos) (mq X.K T r to t):=by
 intro pins s σ H Q I h
 refine wpAny_Call_method_late hbase hfew hline rfl (Bx (ho pins s σ H _ I h) fun v s1 hq0=>?_)
 obtain ⟨x,H1,I1,r1,ty,q1⟩:=hq0
 obtain ⟨h1,h2⟩:=Xu I1 r1 ty
 refine ⟨T,id,pa,slot,hty,h1,h2,?_⟩
 have hA:=ha cpos pins s1 σ H1 _ I1 q1
 rw [hs] at hA ⊢
 refine Calls.callWith_builtin (by show (false || (backTo cpos (starEach es X.env)).any (·.1))=false; rw [hplain] <;> rfl) (Calls.evalArgs_plain ?_)
 exact Bx hA fun us s2 ⟨vs,H2,I2,r2,q2⟩=>hm pins s2 σ H2 x vs v us Q I2 r1 r2 q2
end
end L2
namespace L2
open PySem PySem.Spec PyProof.Rows
noncomputable def lY (X:Cx) (id:String) (r:V->List V->Hp->VK->Prop):Prop :=
 ∀ (pins:List (Addr × Obj)) (s:Shared) (σ:St) (H:Hp) (x:V) (xs:List V) (v:Value) (us:List Value) (Q:VK),Inv X pins σ H s->RelV x v->Vals xs us->r x xs H Q ->
  wpAny (model X.prog X.w) X.A (call (.builtin id) (v::us)) (EP X pins σ Q) X.xe s
theorem Vals.one:∀ {x:V} {us:List Value},Vals [x] us->∃ u,us=[u]/\RelV x u
 | _,_,.cons r .nil=>⟨_,rfl,r⟩
theorem Vals.two:∀ {x y:V} {us:List Value},Vals [x,y] us->∃ u v,us=[u,v]/\RelV x u/\RelV y v
 | _,_,_,.cons r (.cons q .nil)=>⟨_,_,rfl,r,q⟩
section
variable {X:Cx} {pins:List (Addr × Obj)} {σ:St} {H:Hp} {s:Shared} {l b:Addr} {xs ys zs:List V}
theorem Inv.cN {its its':List Value} {n:Nat} {f:Array Value->Array Value} {t':Nat} (I:Inv X pins σ H s) (hH:H l=some (.lst xs))
  (e:s.heap.get? l=some { cls:=.type "list",data:=.seq its.toArray n }) (hf:f its.toArray=its'.toArray) (hv:Vals ys its') (hz:ys.length<=sizeLine) :
  Inv X pins σ (upd H l (.lst ys)) { s with heap:=s.heap.update l (Obj.mapSeq f),toks:=t' }:=by
 have q:=PySem.IsL.update e f
 rw [hf] at q
 refine I.write (x:=l) (e:=l) (by rw [hH]; exact trivial) (.inl rfl) (fun b' u hb hu=>(Heap.get?_update_other s.heap (Obj.mapSeq f) (Ne.symm hb)).trans hu) ⟨_,q⟩ ?_
 exact ⟨hz,its',_,hv,q⟩
theorem Inv.W5 {its:List Value} {t':Nat} (I:Inv X pins σ H s) (hv:Vals ys its) (hz:ys.length<=sizeLine) :
  Inv X pins σ (upd H s.heap.objs.size (.lst ys)) { s with heap:=s.heap.push { cls:=.type "list",data:=.seq its.toArray },toks:=t' } :=
 I.laid (fun _ _ q=>Heap.get?_push_of_some _ q) (Nat.le_refl _) ⟨hz,its,0,hv,Heap.get?_push_size _ rfl⟩
theorem Inv.fresh (I:Inv X pins σ H s):H s.heap.objs.size=none:=I.hok.fresh (Nat.le_refl _)
theorem Inv.S7 (I:Inv X pins σ H s) (hH:H l=some (.lst xs)):xs.length<=sizeLine/\∃ (its:List Value) (n:Nat),Vals xs its/\xs.length=its.length/\s.heap.get? l=some { cls:=.type "list",data:=.seq its.toArray n }:=by
 obtain ⟨z,its,n,r,e⟩:=I.hok l _ hH
 exact ⟨z,its,n,r,r.length,e⟩
theorem Uu {n:Nat} (h:n<=sizeLine):Builtin.List.listTooLong n=false:=by
 unfold Builtin.List.listTooLong
 exact decide_eq_false (by omega)
end
section
variable {X:Cx}
noncomputable def Vs:V->List V->Hp->VK->Prop:=fun x vs H Q=>∃ l xs y,x=.ref l/\vs=[y]/\H l=some (.lst xs)/\xs.length<sizeLine/\Q .non (upd H l (.lst (xs++[y])))
theorem Bl:lY X "list.append" Vs:=by
 intro pins s σ H x vs v us Q I rx rv h
 obtain ⟨l,xs,y,rfl,rfl,hH,hz,q⟩:=h
 cases rx
 obtain ⟨u,rfl,ru⟩:=rv.one
 obtain ⟨z,its,n,r,hl,e⟩:=I.S7 hH
 refine call_meets F.slot_list_append ⟨_,e,rfl⟩ F.entry_list_append (F.args_list_append_2 _ _) (PySem.list_append l its.toArray n u (by rw [List.size_toArray]; omega)) ⟨e,?_⟩
 refine ⟨.non,_,I.cN (its':=its++[u]) hH e (by simp) (r.append (.cons ru .nil)) ?_,rfl,q⟩
 rw [List.length_append,List.length_singleton]
 omega
noncomputable def Vy:V->List V->Hp->VK->Prop:=fun x vs H Q=>∃ l b xs zs,x=.ref l/\vs=[.ref b]/\H l=some (.lst xs)/\H b=some (.lst zs)/\xs.length+zs.length<=sizeLine/\Q .non (upd H l (.lst (xs++zs)))
theorem Qo:lY X "list.extend" Vy:=by
 intro pins s σ H x vs v us Q I rx rv h
 obtain ⟨l,b,xs,zs,rfl,rfl,hH,hB,hz,q⟩:=h
 cases rx
 obtain ⟨u,rfl,ru⟩:=rv.one
 cases ru
 obtain ⟨z,its,n,r,hl,e⟩:=I.S7 hH
 obtain ⟨z2,its2,n2,r2,hl2,e2⟩:=I.S7 hB
 have hsz:its.toArray.size+its2.toArray.size<=sizeLine:=by rw [List.size_toArray,List.size_toArray]; omega
 have hlong:¬ (!its.toArray.isEmpty && Builtin.List.listTooLong (its.toArray.size+its2.toArray.size))=true:=by
  rw [Uu hsz,Bool.and_false]
  exact Bool.false_ne_true
 refine call_meets F.slot_list_extend ⟨_,e,rfl⟩ F.entry_list_extend (F.args_list_extend_2 _ _)
  (AutoSeq1.list_extend_list_list_0 l its.toArray n b its2.toArray n2 hlong (by rw [List.size_toArray]; omega) (by omega)) ⟨e,e2,?_⟩
 refine ⟨.non,_,I.cN (its':=its++its2) hH e (by simp) (r.append r2) ?_,rfl,q⟩
 rw [List.length_append]
 omega
noncomputable def jd:R2:=fun x y H Q=>∃ l b xs zs,x=.ref l/\y=.ref b/\H l=some (.lst xs)/\H b=some (.lst zs)/\xs.length+zs.length<=sizeLine/\∀ p,H p=none->Q (.ref p) (upd H p (.lst (xs++zs)))
theorem Nt:HJ X (binaryOp .Add) jd:=by
 intro pins s σ H x y v u Q I rx ry h
 obtain ⟨l,b,xs,zs,rfl,rfl,hH,hB,hz,q⟩:=h
 cases rx
 cases ry
 obtain ⟨z,its,n,r,hl,e⟩:=I.S7 hH
 obtain ⟨z2,its2,n2,r2,hl2,e2⟩:=I.S7 hB
 refine PySem.P.add_list e e2 ?_ (by rw [List.size_toArray,List.size_toArray]; omega)
 have ea:its.toArray++its2.toArray=(its++its2).toArray:=by simp
 rw [ea]
 exact ⟨.ref _,_,I.W5 (t':=s.toks) (r.append r2) (by rw [List.length_append]; omega),rfl,q _ I.fresh⟩
end
section
variable {prog:Program} {w:World} {A:Around} {E:Value->Shared->Prop} {s:Shared}
end
section
variable {X:Cx}
end
end L2
namespace Att
open PySem PySem.W PySem.Calls PyProof.Rows
theorem JS {P:Params} {h:Heap}:∀ (ns:List Int) (vs:List Value),WellAll P h vs (ns.map WData.int)->IntsAre vs ns:=by
 intro ns
 induction ns with
 | nil =>
  intro vs w
  rw [List.map_nil] at w
  cases w
  exact .nil
 | cons n ns ih =>
  intro vs w
  rw [List.map_cons] at w
  cases w with
  | cons a b =>
   cases a
   exact .cons _ _ (ih _ b)
theorem Qg {l:OpenLaw} {n:Nat} (hn:l.most=some n) {P:Params} {h:Heap} {args:List WData} {vals:List Value}
  (hpre:l.row.toRowW.claim.pre args=true) (hwl:WellAll P h vals args) :
  ∃ a vs ns,vals=[Value.ref a]/\args=[WData.list (ns.map WData.int)]/\h.get? a=some { cls:=.type "list",data:=.seq vs.toArray }/\IntsAre vs ns/\ns.length<=n:=by
 have hsh:WShape.hasAll [] args [.list .int]=true:=(pre_splitW hpre).1
 have hc:l.pre.holds [] { args:=args }=true:=(pre_splitW hpre).2
 obtain ⟨d,r,rfl,h1,h2⟩:=hasAllW_cons hsh
 obtain rfl:=hasAllW_nil h2
 obtain ⟨xs,rfl,h3⟩:=hasW_list h1
 obtain ⟨ns,rfl⟩:=items_int h3
 have hlen:ns.length<=n:=by
  unfold OpenLaw.pre at hc
  have h4:(WTm.not (.lt (.lit (.int (n:Int))) (.len (.arg 0)))).holds [] { args:=[.list (ns.map .int)] }=true:=by
   have h4:=(holds_andW hc).1
   rw [hn] at h4
   exact h4
  have h5:=condW_of h4 (w_not (w_lt w_lit (w_len_list (w_arg rfl))))
  rw [List.length_map] at h5
  refine Nat.le_of_not_lt fun q=>?_
  have q':(n:Int)<((ns.length:Nat):Int):=by omega
  first
   | (rw [decide_eq_true q'] at h5; exact absurd h5 (by decide))
   | (simp at h5; omega)
 cases hwl with
 | cons w1 w2 =>
  cases w2
  cases w1 with
  | list ho hall=>exact ⟨_,_,ns,rfl,rfl,ho,JS ns _ hall,hlen⟩
theorem Q3 (l:OpenLaw) (args:List WData):l.row.toRowW.claim.post args (.bool true) args=true :=
 postW_of (r:=l.row.toRowW) (X:=(true == true))
  (show WShape.has [] (.bool true) .bool=true by first | rfl | decide | simp [WShape.has,WShape.arms,WShape.armsAll])
  (show (WTm.eq .res (.lit (.bool true))).value [] { args:=args,res:=some (.bool true),after:=args }=some (.bool (true == true)) from w_eq_bool (w_res rfl) w_lit) rfl
theorem M7 {l:OpenLaw} {n:Nat} {q:Program} {loose:List Str} {XP:(Str->Option Value)->Heap->Prop} {YP:World->Heap->Prop} {d:DefRec}
  (hn:l.most=some n) (hdf:d.params.defaults=[])
  (call:∀ (w:World) (s₀ s₁:Shared) (mg mb:Str->Option Value) (fa:Addr) (o:Obj) (pm cd doc:Value) (a:Addr) (vs:List Value) (ns:List Int),
   Ground q loose [] XP w s₀ mg mb s₁.heap->YP w s₁.heap ->
   s₁.heap.get? fa=some o->o.data=.func (docDef d.name d.params d.body d.scope pm cd doc)->s₁.heap.CodeRec cd d.name->mg d.name=some (.ref fa) ->
   s₁.heap.get? a=some { cls:=.type "list",data:=.seq vs.toArray }->IntsAre vs ns->ns.length<=n->s₁.gens = #[] ->
   codeAny (model l.prog w) callerA (.call (.ref fa) ⟨[.ref a],[]⟩) (fun r s'=>r=.ok (.ret (.bool true))/\OldK s₁.heap s'.heap/\s'.os=s₁.os/\AllBare s'.gens) s₁) :
  WalkO q loose XP YP l.row.toRowW d [] (fun f vs=>PySem.call f vs):=by
 intro w s₀ s₁ mg mb G Y fa o pm cd doc dV kV ho hd hcd hD hmg hg args vals as hpre hlay hrd hwl hlo
 obtain rfl:dV=.none:=Dflts.none hD hdf
 obtain rfl:kV=.none:=Dflts.noKw hD
 obtain ⟨a,vs,ns,rfl,rfl,hobj,hints,hlen⟩:=Qg hn hpre hwl
 refine enter_call (codeAny_mono (call w s₀ s₁ mg mb fa o pm cd doc a vs ns G Y ho (fd_plain hd) hcd hmg hobj hints hlen hg) fun r s' hq=>?_)
 obtain ⟨rfl,h2,h3,h4⟩:=hq
 exact ⟨.inl ⟨.bool true,.bool true,[],rfl,fun _=>rfl,.bool true,Q3 l _,fun _=>⟨List.Pairwise.nil,fun _ hm=>(nomatch hm)⟩⟩,h2,h3,h4⟩
section
variable {prog:Program} {w:World} {A:Around} {E:Value->Shared->Prop} {s:Shared} {K:Frag}
end
end Att
namespace L2
open PySem PySem.Spec PyProof.Rows
theorem KH:∀ {vs:List Value} {ns:List Int},IntsAre vs ns->Vals (ns.map V.int) vs
 | _,_,.nil=>.nil
 | _,_,.cons n t h=>.cons ⟨t,rfl⟩ (KH h)
noncomputable def Only (H:Hp):Prop:=∀ b,H b=none \/ ∃ o xs,H b=some (.frz o (.lst xs))
theorem Sd {P:Program} {w:World} {K:PySem.W.Frag} {mg mb:Str->Option Value} {CX:L_} {k:Nat} {fa a:Addr} {fd:FuncData} {x:Str} {sp:Sp} {s₁:Shared} {vs:List Value} {ns:List Int}
  (KX:K.In s₁.heap) (hns:s₁.heap.Ns mainGlobals mg) (hb:s₁.heap.Ns builtinsNs mb) (hbb:∀ x:Str,x ≠ "__name__"->mb x=bootBuiltins x) (hlim:s₁.heap.NoLimit) (hg:s₁.gens = #[])
  (ha:s₁.heap.get? a=some { cls:=.type "list",data:=.seq vs.toArray }) (hi:IntsAre vs ns) (hl:ns.length<=sizeLine) (hr:BW k callerA)
  (F:∀ base:Heap,K.In base->base.Ns mainGlobals mg->Ar P w K mg base CX k fa fd [x] sp) (hbind:∀ (s:Shared) (u:Value),BindsTo s fd ⟨[u],[]⟩ [(x,u)])
  (hsp:∀ H:Hp,Only H->Cw K H a (ns.map V.int)->sp [.ref a] H (fun v _=>v=.bl true) fun _ _ _=>False)
  (hCX:∀ H e s',CX [] H s₁ (fun _ _ _=>False) e s'->False) :
  codeAny (model P w) callerA (.call (.ref fa) ⟨[.ref a],[]⟩) (fun r s'=>r=.ok (.ret (.bool true))/\OldK s₁.heap s'.heap/\s'.os=s₁.os/\AllBare s'.gens) s₁:=by
 have rv:=KH hi
 have lenV:=hi.length
 have core:∀ H:Hp,Only H->Cw K H a (ns.map V.int)->Ef P w H s₁.heap->(∀ b,H b ≠ none->b=a)->(H a ≠ none->K.lookup a=none) ->
   codeAny (model P w) callerA (.call (.ref fa) ⟨[.ref a],[]⟩) (fun r s'=>r=.ok (.ret (.bool true))/\OldK s₁.heap s'.heap/\s'.os=s₁.os/\AllBare s'.gens) s₁:=by
  intro H hO hS hok hA hK
  have base_of:∀ {b:Addr} {o:Obj},s₁.heap.get? b=some o->H b=none->(LK s₁.heap H).get? b=some o:=fun e n=>Up e n
  have noA:∀ {b:Addr} {o:Obj} {es:Array DictEntry} {ep:Nat},s₁.heap.get? b=some o->o.data=.dict es ep->H b=none:=fun {b o es ep} e d=>by
   cases q:H b with
   | none=>rfl
   | some u =>
    have e':b=a:=hA b (by rw [q]; simp)
    subst e'
    rw [ha] at e; cases e
    have d':Data.seq vs.toArray _=Data.dict es ep:=d
    cases d'
  have nsK:∀ {b:Addr} {m:Str->Option Value},s₁.heap.Ns b m->(LK s₁.heap H).Ns b m:=fun {b m} ⟨o,es,ep,e,d,r⟩=>⟨o,es,ep,base_of e (noA e d),d,r⟩
  have hKb:K.In (LK s₁.heap H):=fun b o e=>base_of (KX b o e) (by
   cases q:H b with
   | none=>rfl
   | some u =>
    have e':b=a:=hA b (by rw [q]; simp)
    subst e'
    rw [hK (by rw [q]; simp)] at e; cases e)
  have hM:Mod K mg (LK s₁.heap H):=⟨hKb,nsK hns,⟨mb,nsK hb,hbb⟩,let ⟨mc,h1,h2⟩:=hlim; ⟨mc,nsK h1,h2⟩⟩
  have e0:Ld P w K mg (LK s₁.heap H) callerA [] s₁ H:=⟨rfl,hM,fun b o e=>Vx e,Nat.le_of_eq (Q4 _ _),trivial,fun b hb=>absurd (show b∈([]:List Addr) from hb) (by simp),hok,.of_eq hg⟩
  refine codeAny_mono ((F _ hKb (nsK hns)).run callerA [] s₁ H ⟨[.ref a],[]⟩ [.ref a] [.ref a] _ _ hr e0 (hbind s₁ (.ref a)) (.cons rfl .nil) (hsp H hO hS)) fun r s' h=>?_
  cases r with
  | error e=>exact (hCX H e s' h).elim
  | ok fl =>
   cases fl with
   | next=>exact False.elim h
   | brk=>exact False.elim h
   | cont=>exact False.elim h
   | ret u =>
    obtain ⟨v,H',os,bare,un,hok',r',q⟩:=h
    have q':v=.bl true:=q
    subst q'
    obtain rfl:u=Value.bool true:=r'
    refine ⟨rfl,OldK.of_keep fun b o e=>?_,os,bare⟩
    cases q:H b with
    | none=>exact un.keep b o e q (by intro z; exact absurd (show b∈([]:List Addr) from z) (by simp)) (by simp)
    | some u =>
     rcases hO b with z | ⟨ob,xs,z⟩
     ·rw [q] at z; cases z
     ·have z2:=un.frzs b ob _ z
      obtain ⟨e1,_⟩:=hok b _ z
      obtain ⟨e2,_⟩:=hok' b _ z2
      rw [e] at e1; cases e1
      exact e2
 cases hk:K.lookup a with
 | some o =>
  have e:=KX a o hk
  rw [ha] at e
  cases e
  refine core (fun _=>none) (fun _=>.inl rfl) (.inr ⟨_,vs.toArray,_,hk,rfl,rfl,rfl,by rw [List.size_toArray,lenV]; exact hl,by simpa using rv⟩) (fun b u z=>by have z':(none:Option HO)=some u:=z; cases z') (fun b z=>absurd rfl z) fun z=>absurd rfl z
 | none =>
  refine core (fun b=>if b=a then some (.frz { cls:=.type "list",data:=.seq vs.toArray } (.lst (ns.map V.int))) else none) (fun b=>?_) (.inl (.inr ⟨{ cls:=.type "list",data:=.seq vs.toArray },if_pos rfl⟩)) (fun b u z=>?_) (fun b z=>?_) fun _=>hk
  ·by_cases hb:b=a
   ·exact .inr ⟨_,_,if_pos hb⟩
   ·exact .inl (if_neg hb)
  ·by_cases hb:b=a
   ·have z':=(if_pos hb).symm.trans z
    cases z'
    subst hb
    exact ⟨ha,by rw [List.length_map]; exact hl,vs,_,rv,ha⟩
   ·have z':=(if_neg hb).symm.trans z
    cases z'
  ·by_cases hb:b=a
   ·exact hb
   ·exact absurd (if_neg hb) z
end L2
namespace L2
open PySem PySem.Spec PyProof.Rows
theorem V3 {l:PySem.W.OpenLaw} {n k:Nat} {q:Program} {loose:List Str} {XP:(Str->Option Value)->Heap->Prop} {YP:World->Heap->Prop} {d:DefRec} {K:Params->PySem.W.Frag} {CX:World->L_} {sp:World->Sp} {x:Str}
  (hn:l.most=some n) (hn2:n<=sizeLine) (hdf:d.params.defaults=[]) (hr:BW k callerA)
  (hY:∀ (w:World) (h:Heap),YP w h->(K w.params).In h)
  (F:∀ (w:World) (mg:Str->Option Value) (fa:Addr) (h:Heap),(K w.params).In h->h.Ns mainGlobals mg->mg d.name=some (.ref fa) ->
   ∃ fd:FuncData,(∀ (s:Shared) (u:Value),BindsTo s fd ⟨[u],[]⟩ [(x,u)]) /\
    ∀ base:Heap,(K w.params).In base->base.Ns mainGlobals mg->Ar l.prog w (K w.params) mg base (CX w) k fa fd [x] (sp w))
  (hsp:∀ (w:World) (H:Hp) (a:Addr) (ns:List Int),ns.length<=n->Only H->Cw (K w.params) H a (ns.map V.int)->sp w [.ref a] H (fun v _=>v=.bl true) fun _ _ _=>False)
  (hCX:∀ (w:World) (H:Hp) (s:Shared) (e:Value) (s':Shared),CX w [] H s (fun _ _ _=>False) e s'->False) :
  PySem.W.WalkO q loose XP YP l.row.toRowW d [] (fun f vs=>PySem.call f vs):=by
 refine Att.M7 hn hdf fun w s₀ s₁ mg mb fa o pm cd doc a vs ns G Y ho hd hcd hmg hobj hints hlen hg=>?_
 have KX:=hY w _ Y
 obtain ⟨fd,hb,hF⟩:=F w mg fa _ KX G.T.g hmg
 exact Sd KX G.T.g G.T.b G.T.builtins G.T.nolimit hg hobj hints (Nat.le_trans hlen hn2) hr hF hb (fun H hO hS=>hsp w H a ns hlen hO hS) fun H e s'=>hCX w H s₁ e s'
end L2
namespace L2
open PySem PySem.Spec PyProof.Rows
noncomputable def inClass (s:Stmt) (j:Nat):Stmt:=match s with
 | .ClassDef _ _ _ body _ _ _ _ _ _ _=>body.getD j (.Pass ⟨0,0,0,0⟩)
 | _=>.Pass ⟨0,0,0,0⟩
noncomputable def Cz (s:Stmt):Arguments:=match s with
 | .FunctionDef _ a _ _ _ _ _ _ _ _=>a
 | _=>{ posonlyargs:=[],args:=[],vararg:=none,kwonlyargs:=[],kw_defaults:=[],kwarg:=none,defaults:=[] }
noncomputable def CP (s:Stmt):List Stmt:=match s with
 | .FunctionDef _ _ b _ _ _ _ _ _ _=>b
 | _=>[]
noncomputable def Af (s:Stmt):Scope:=match s with
 | .FunctionDef _ _ _ _ _ _ sc _ _ _=>sc
 | _=>{ kind:=.function,names:=[],isGenerator:=false,isCoroutine:=false }
noncomputable abbrev Bh:L_:=fun _ _ _ _ _ _=>False
noncomputable abbrev E0:XK:=fun _ _ _=>False
theorem Az {X:Cx}:Ew Bh X E0:=fun _ _ _ _ _ _ _ h=>h.elim
structure DX (K:PySem.W.Frag) (x qual:Str) (st:Stmt) (f:Addr) (fd:FuncData):Prop where
 ex:∃ (oc:Value) (od:Option Addr) (kV doc pm:Value) (an:Option Addr) (cdv ct:Value) (osl:Array (Option Value)),
  fd=PySem.W.fnOf x qual (Cz st) (CP st) (Af st) .none kV doc pm an cdv ct/\K.lookup f=some ⟨oc,od,.func fd,osl⟩/\PySem.W.codeIn K cdv qual=true
 kp:PySem.W.keepIn K (.ref f)=true
section
variable {P:Program} {w:World} {K:PySem.W.Frag} {mg:Str->Option Value} {base:Heap}
theorem DX.ok {x qual:Str} {st:Stmt} {f:Addr} {fd:FuncData} {N ps:List Str} {k:Nat} {sp:Sp} (F:DX K x qual st f fd) (S:Aq N ps (Af st)) (len:∀ vs H Q E,sp vs H Q E->vs.length=ps.length)
  (hbody:∀ (cdv:Value) (A:Around) (outer:List Env) (s:Shared) (H:Hp) (vs:List V) (Q:VK) (E:XK),BW k (A.deeper (envOfC qual (Af st) s.heap.objs.size f cdv))->sp vs H Q E ->
   ∃ t,K9 (JV Bh P w K mg base N qual (Af st) f cdv A outer s H E).Yk (CP st) t/\t { nx:=fun _ H'=>Q .non H',rt:=Q } (start N vs) H):Ar P w K mg base Bh (k+1) f fd ps sp:=by
 obtain ⟨oc,od,kV,doc,pm,an,cdv,ct,osl,rfl,lk,hcd⟩:=F.ex
 refine Uw lk hcd S len fun A outer s H vs Q E hr hsp=>?_
 obtain ⟨t,h,q⟩:=hbody cdv A outer s H vs Q E hr hsp
 exact ⟨t,h.Yk,q⟩
theorem DX.binds {x qual:Str} {st:Stmt} {f:Addr} {fd:FuncData} {ps:List Str} (F:DX K x qual st f fd)
  (h:∀ (kV doc pm:Value) (an:Option Addr) (cdv ct:Value) (us:List Value),us.length=ps.length->bindArgs (PySem.W.fnOf x qual (Cz st) (CP st) (Af st) .none kV doc pm an cdv ct) ⟨us,[]⟩=pure (ps.zip us)):Binds K fd ps []:=by
 obtain ⟨oc,od,kV,doc,pm,an,cdv,ct,osl,rfl,lk,hcd⟩:=F.ex
 exact .all (h kV doc pm an cdv ct)
theorem N5 {x qual:Str} {st:Stmt} {f:Addr} {oc:Value} {od an:Option Addr} {osl:Array (Option Value)} {kV doc pm cdv ct:Value} (l:K.lookup f=some ⟨oc,od,.func (PySem.W.fnOf x qual (Cz st) (CP st) (Af st) .none kV doc pm an cdv ct),osl⟩)
  (c:PySem.W.codeIn K cdv qual=true) (k:PySem.W.keepIn K (.ref f)=true):DX K x qual st f (PySem.W.fnOf x qual (Cz st) (CP st) (Af st) .none kV doc pm an cdv ct):=⟨⟨oc,od,kV,doc,pm,an,cdv,ct,osl,rfl,l,c⟩,k⟩
end
theorem CV {A:Around} {k:Nat} (hr:BW k A):A.units+1<cLine:=Nat.lt_of_le_of_lt (Nat.add_le_add_left (by decide:1<=64) _) hr.units
theorem A_ {n:Nat} (h:n<=1000):n<sizeLine:=Nat.lt_of_le_of_lt h (by decide)
section
variable {X:Cx}
theorem pv (i:Nat) {x:Str} {pos:Pos} (hN:X.N[i]? = some x:=by rfl) (hv:jX X.env.scope x:=by first | exact Or.inl rfl | exact Or.inr (Or.inl rfl) | exact Or.inr (Or.inr rfl)) (hd:(x == ("__debug__" : Str))=false:=by decide)
  (hcd:(x == ("__classdict__" : Str))=false:=by decide):PE X (.Name x pos) (W7 i):=Xl hN hv hd hcd
end
theorem wT {K:PySem.W.Frag} {i:Nat} {T:Addr} {x:V} {xs:List V} {w:Str} {σ:St} {H:Hp} {Q:Bool->Hp->Prop} (hT:H T=some (.tup (x::xs))) (h:Q (decide (x=V.str w)) H) (hs:σ[i]? = some (some (.ref T)):=by rfl) (hc:Xn x (.str w)=true:=by rfl):Ut (Yr mH (Yr (Xp K) (W7 i) (tC (.int 0))) (tC (.str w))) σ H Q:=⟨_,hs,T,_,_,_,rfl,rfl,.inl (.inl hT),Aj (j:=0) rfl,hc,_,rfl,h⟩
theorem Bo {A B:Prop} (h:B):if false=true then A else B:=by
 rw [if_neg Bool.false_ne_true]
 exact h
theorem Cj {A B:Prop} (h:A):if true=true then A else B:=by
 rw [if_pos rfl]
 exact h
theorem Ci {c A B:Prop} [Decidable c] (h1:c->A) (h2:¬ c->B):if c then A else B:=by
 by_cases h:c
 ·rw [if_pos h]
  exact h1 h
 ·rw [if_neg h]
  exact h2 h
theorem We {c A B:Prop} [Decidable c] (hc:c) (h:B):if (!decide c)=true then A else B:=by
 rw [decide_eq_true hc]
 exact Bo h
noncomputable def Ak (H H':Hp):Prop:=∀ b o,H b=some o->H' b=some o
theorem Ak.refl (H:Hp):Ak H H:=fun _ _ h=>h
theorem Ak.trans {H H1 H2:Hp} (a:Ak H H1) (b:Ak H1 H2):Ak H H2:=fun c o h=>b c o (a c o h)
theorem Ak.free {H H':Hp} (e:Ak H H') {l:Addr} (h:H' l=Option.none):H l=Option.none:=by
 cases q:H l with
 | none=>rfl
 | some o =>
  rw [e l o q] at h
  cases h
theorem Ak.seq {K:PySem.W.Frag} {H H':Hp} {a:Addr} {xs:List V} (e:Ak H H') (h:Cw K H a xs):Cw K H' a xs:=by
 rcases h with (h | ⟨o,h⟩) | h
 ·exact .inl (.inl (e _ _ h))
 ·exact .inl (.inr ⟨o,e _ _ h⟩)
 ·exact .inr h
end L2
namespace L2
open PySem PySem.Spec PyProof.Rows
section
variable {X:Cx}
end
section
variable {κ:Type} [DecidableEq κ]
theorem QM:∀ {l:List κ} {k:κ},l.Nodup->¬ k∈l->(l++[k]).Nodup
 | [],k,_,_=>by simp
 | a::r,k,h,hk=>by
  obtain ⟨h1,h2⟩:=List.nodup_cons.mp h
  show (a::(r++[k])).Nodup
  refine List.nodup_cons.mpr ⟨fun m=>?_,QM h2 fun m=>hk (List.mem_cons.mpr (Or.inr m))⟩
  rcases List.mem_append.mp m with q | q
  ·exact h1 q
  ·exact hk (List.mem_cons.mpr (Or.inl (List.mem_singleton.mp q).symm))
end
end L2
namespace L2
open PySem PySem.Spec PyProof.Rows
section
variable {prog:Program} {w:World} {A:Around} {E:Value->Shared->Prop} {s:Shared}
theorem Jh {it a:Addr} {i:Nat} {items:Array Value} {x:Value} {Q:Value->Shared->Prop} (j:s.heap.IsTupleIter it a i) (ht:s.heap.IsTuple a items) (hx:items[i]? = some x)
  (q:∀ h',h'.IsTupleIter it a (i+1)->Heap.SameBut it s.heap h'->Q x { s with heap:=h' }):wpAny (model prog w) A (Builtin.SmallTypes.nextOf (.ref it)) Q E s:=by
 have j0:=j
 obtain ⟨o,e,c,d⟩:=j
 obtain ⟨oa,ea,_,n,da⟩:=ht
 unfold Builtin.SmallTypes.nextOf
 refine wpAny_bind (wpAny_callSpecial?_slot (name:=Str.ofString "__next__") j0.typeIs F.slot_tuple_iterator_next (wpAny_call_entry F.slot_tuple_iterator_next j0.typeIs F.entry_tuple_iterator_next ?_ (F.args_tuple_iterator_next_1 _)))
 refine (show wpAny _ _ (field (.ref it) 0 >>= _) _ _ s from wpAny_bind (wpAny_field e d (x:=.ref a) rfl ?_))
 refine (show wpAny _ _ (if (Value.ref a == Value.none)=true then _ else _) _ _ s from ?_)
 rw [if_neg (by exact Bool.false_ne_true)]
 refine (show wpAny _ _ (field (.ref it) 1 >>= _) _ _ s from wpAny_bind (wpAny_field e d (x:=.int i 0) rfl ?_))
 refine (show wpAny _ _ (seqItems? (.ref a) >>= _) _ _ s from wpAny_bind (wpAny_seqItems ea da ?_))
 simp only [Int.toNat_natCast,hx]
 exact wpAny_bind (wpAny_setField e d (by simp) (wpAny_pure ⟨x,rfl,wpAny_pure (q _ ⟨_,Heap.get?_update_self _ e (Obj.isFreed_of_fields (Obj.data_mapFields d _)),(Obj.cls_mapFields ..).trans c,by rw [Obj.data_mapFields d]; simp [rawInt]⟩ (Heap.SameBut.update ..))⟩))
theorem Jq {it a:Addr} {i:Nat} {items:Array Value} {Q:Value->Shared->Prop} (hh:A.handled=none) (j:s.heap.IsTupleIter it a i) (ht:s.heap.IsTuple a items) (hx:items[i]? = none)
  (q:∀ h' e,Heap.ExtBut it s.heap h'->(∃ o,h'.get? e=some o/\o.cls=.type "StopIteration")->E (.ref e) { s with heap:=h' }):wpAny (model prog w) A (Builtin.SmallTypes.nextOf (.ref it)) Q E s:=by
 have j0:=j
 obtain ⟨o,e,c,d⟩:=j
 obtain ⟨oa,ea,_,n,da⟩:=ht
 unfold Builtin.SmallTypes.nextOf
 refine wpAny_bind (wpAny_callSpecial?_slot (name:=Str.ofString "__next__") j0.typeIs F.slot_tuple_iterator_next (wpAny_call_entry F.slot_tuple_iterator_next j0.typeIs F.entry_tuple_iterator_next ?_ (F.args_tuple_iterator_next_1 _)))
 refine (show wpAny _ _ (field (.ref it) 0 >>= _) _ _ s from wpAny_bind (wpAny_field e d (x:=.ref a) rfl ?_))
 refine (show wpAny _ _ (if (Value.ref a == Value.none)=true then _ else _) _ _ s from ?_)
 rw [if_neg (by exact Bool.false_ne_true)]
 refine (show wpAny _ _ (field (.ref it) 1 >>= _) _ _ s from wpAny_bind (wpAny_field e d (x:=.int i 0) rfl ?_))
 refine (show wpAny _ _ (seqItems? (.ref a) >>= _) _ _ s from wpAny_bind (wpAny_seqItems ea da ?_))
 simp only [Int.toNat_natCast,hx]
 refine wpAny_bind (wpAny_rule (wpAny_bind (wpAny_setField e d (by simp) (show wpAny _ _ (newExc (.type "StopIteration") [] >>= _) _ _ _ from wpAny_bind ?_))))
 simp only [newExc,newTuple]
 refine wpAny_bind (wpAny_newObj_type (wpAny_bind (m:=firstArgMember _ _) (wpAny_of_eq (a:=Value.none) (by first | rfl | (simp only [firstArgMember]; rfl)) (wpAny_newObj_type ?_ (by size_fits)))) (by size_fits))
 simp only [raiseNew]
 refine wpAny_bind (wpAny_handled ?_)
 first | rw [show A.in1.handled=none from hh] | rw [hh]
 exact wpAny_bind (wpAny_pure (wpAny_throw (q _ _ (((Heap.SameBut.update ..).extBut.push _).push _) ⟨_,Heap.get?_push_size _ rfl,rfl⟩)))
theorem Q_ {z TI TO i1 i2 a1 a2:Addr} {k:Nat} {xs ys:Array Value} {x y a b:Value} {Q:Value->Shared->Prop} (D:ZipApart z TI TO i1 i2 a1 a2)
  (hz:IsZip s.heap z TI TO .none) (hI:IsPair s.heap TI (.ref i1) (.ref i2)) (hO:IsPair s.heap TO a b)
  (j1:s.heap.IsTupleIter i1 a1 k) (j2:s.heap.IsTupleIter i2 a2 k) (t1:s.heap.IsTuple a1 xs) (t2:s.heap.IsTuple a2 ys) (hx:xs[k]? = some x) (hy:ys[k]? = some y)
  (q:∀ h',IsZip h' z TI TO (rawInt s.heap.objs.size)->IsPair h' TO x y->h'.IsTupleIter i1 a1 (k+1)->h'.IsTupleIter i2 a2 (k+1)->IsPair h' s.heap.objs.size x y->h'.objs.size=s.heap.objs.size+1 ->
   (∀ c o,c ≠ z->c ≠ TO->c ≠ i1->c ≠ i2->s.heap.get? c=some o->h'.get? c=some o)->Q (.ref s.heap.objs.size) { s with heap:=h' }) :
  wpAny (model prog w) A (Builtin.«zip.__next__» ⟨[.ref z],[]⟩) (fun fin s'=>∃ v,fin=.done (.ret v)/\Q v s') E s:=by
 refine (show wpAny _ _ (field (.ref z) 2 >>= _) _ _ _ from wpAny_bind (wpAny_field hz rfl (x:=.bool false) rfl (show wpAny _ _ (field (.ref z) 3 >>= _) _ _ _ from wpAny_bind (wpAny_field hz rfl (x:=.ref TI) rfl (wpAny_bind (wpAny_seqItems hI rfl ?_))))))
 refine (show wpAny _ _ (Builtin.SmallTypes.ownedTupleIsFree (.ref z) >>= _) _ _ _ from wpAny_bind ?_)
 unfold Builtin.SmallTypes.ownedTupleIsFree
 refine wpAny_bind (wpAny_field hz rfl (x:=.none) rfl (wpAny_pure ?_))
 simp only [if_true]
 refine wpAny_bind (wpAny_rule (wpAny_bind (wpAny_field hz rfl (x:=.ref TO) rfl (wpAny_bind (wpAny_setField_rec hz (by simp) fun h1 z1 s1=>?_)))))
 have y1:IsZip h1 z TI TO .ellipsis:=z1
 refine wpAny_bind ?_
 simp only [List.zipIdx_cons,List.zipIdx_nil,List.forIn_cons,List.forIn_nil]
 refine wpAny_bind (wpAny_bind (wpAny_onRaise (show wpAny _ _ (Builtin.SmallTypes.nextOf (.ref i1) >>= _) _ _ _ from wpAny_bind (Jh (j1.at fun o e=>s1.extBut _ _ D.i1z e) (t1.at fun o e=>s1.extBut _ _ D.l1z e) hx fun h2 n1 s2=>wpAny_pure ?_))))
 have o2:IsPair h2 TO a b:=s2.extBut _ _ D.TOi1 (s1.extBut _ _ D.TOz hO)
 refine wpAny_bind (wpAny_seqItems o2 rfl (wpAny_bind (wpAny_updateSeq_pair o2 fun h3 p3 s3=>?_)))
 have o3:IsPair h3 TO x b:=p3
 refine wpAny_bind (wpAny_letGo (wpAny_pure ?_))
 refine wpAny_bind (wpAny_bind (wpAny_onRaise (show wpAny _ _ (Builtin.SmallTypes.nextOf (.ref i2) >>= _) _ _ _ from wpAny_bind (Jh (j2.at fun o e=>s3.extBut _ _ D.TOi2.symm (s2.extBut _ _ D.i12.symm (s1.extBut _ _ D.i2z e)))
  (t2.at fun o e=>s3.extBut _ _ D.l2TO (s2.extBut _ _ D.l2i1 (s1.extBut _ _ D.l2z e))) hy fun h4 n2 s4=>wpAny_pure ?_))))
 have o4:IsPair h4 TO x b:=s4.extBut _ _ D.TOi2 o3
 refine wpAny_bind (wpAny_seqItems o4 rfl (wpAny_bind (wpAny_updateSeq_pair o4 fun h5 p5 s5=>?_)))
 have o5:IsPair h5 TO x y:=p5
 refine wpAny_bind (wpAny_letGo (wpAny_pure (wpAny_pure (wpAny_bind (wpAny_seqItems o5 rfl (wpAny_bind (wpAny_newTuple ?_)))))))
 have zs:h5.objs.size=s.heap.objs.size:=by rw [s5.1,s4.1,s3.1,s2.1,s1.1]
 have y5:IsZip h5 z TI TO .ellipsis:=s5.extBut _ _ D.TOz.symm (s4.extBut _ _ D.i2z.symm (s3.extBut _ _ D.TOz.symm (s2.extBut _ _ D.i1z.symm y1)))
 have k5:∀ c o,c ≠ z->c ≠ TO->c ≠ i1->c ≠ i2->s.heap.get? c=some o->h5.get? c=some o:=fun c o c1 c2 c3 c4 e=>s5.extBut _ _ c2 (s4.extBut _ _ c4 (s3.extBut _ _ c2 (s2.extBut _ _ c3 (s1.extBut _ _ c1 e))))
 have m1:h5.IsTupleIter i1 a1 (k+1):=n1.at fun o e=>s5.extBut _ _ D.TOi1.symm (s4.extBut _ _ D.i12 (s3.extBut _ _ D.TOi1.symm e))
 have m2:h5.IsTupleIter i2 a2 (k+1):=n2.at fun o e=>s5.extBut _ _ D.TOi2.symm e
 have lz:z<h5.objs.size:=Heap.lt_size y5
 refine (show wpAny _ _ (Builtin.SmallTypes.ownedTupleHandOut (.ref z) (.ref h5.objs.size) >>= _) _ _ _ from wpAny_bind ?_)
 unfold Builtin.SmallTypes.ownedTupleHandOut
 have y6:IsZip (h5.push { cls:=.type "tuple",data:=.seq #[x,y] }) z TI TO .ellipsis:=Heap.get?_push_of_some _ y5
 refine wpAny_bind (wpAny_setField_rec y6 (by simp) fun h7 p7 s7=>?_)
 have y7:IsZip h7 z TI TO (rawInt h5.objs.size):=p7
 refine wpAny_setField_rec y7 (by simp) fun h8 p8 s8=>?_
 have y8:IsZip h8 z TI TO (rawInt h5.objs.size):=p8
 have up:∀ c o,c ≠ z->h5.get? c=some o->h8.get? c=some o:=fun c o c1 e=>s8.extBut _ _ c1 (s7.extBut _ _ c1 (Heap.get?_push_of_some _ e))
 have t8:IsPair h8 h5.objs.size x y:=s8.extBut _ _ (Nat.ne_of_gt lz) (s7.extBut _ _ (Nat.ne_of_gt lz) (Heap.get?_push_size _ rfl))
 have z8:h8.objs.size=h5.objs.size+1:=by rw [s8.1,s7.1,Heap.size_push]
 rw [zs] at y8 t8 z8
 refine wpAny_pure ⟨_,rfl,?_⟩
 show Q (.ref h5.objs.size) _
 rw [zs]
 exact q h8 y8 (up _ _ D.TOz o5) (m1.at fun o e=>up _ o D.i1z e) (m2.at fun o e=>up _ o D.i2z e) t8 z8 fun c o c1 c2 c3 c4 e=>up c o c1 (k5 c o c1 c2 c3 c4 e)
theorem Rw {z TI TO i1 i2 a1 a2:Addr} {k:Nat} {xs:Array Value} {a b:Value} {Q:Fin->Shared->Prop} (hh:A.handled=none) (D:ZipApart z TI TO i1 i2 a1 a2)
  (hz:IsZip s.heap z TI TO .none) (hI:IsPair s.heap TI (.ref i1) (.ref i2)) (hO:IsPair s.heap TO a b)
  (j1:s.heap.IsTupleIter i1 a1 k) (t1:s.heap.IsTuple a1 xs) (hx:xs[k]? = none)
  (q:∀ h' e,(∀ c o,c ≠ z->c ≠ TO->c ≠ i1->c ≠ i2->s.heap.get? c=some o->h'.get? c=some o)->(∃ o,h'.get? e=some o/\o.cls=.type "StopIteration")->E (.ref e) { s with heap:=h' }) :
  wpAny (model prog w) A (Builtin.«zip.__next__» ⟨[.ref z],[]⟩) Q E s:=by
 refine (show wpAny _ _ (field (.ref z) 2 >>= _) _ _ _ from wpAny_bind (wpAny_field hz rfl (x:=.bool false) rfl (show wpAny _ _ (field (.ref z) 3 >>= _) _ _ _ from wpAny_bind (wpAny_field hz rfl (x:=.ref TI) rfl (wpAny_bind (wpAny_seqItems hI rfl ?_))))))
 refine (show wpAny _ _ (Builtin.SmallTypes.ownedTupleIsFree (.ref z) >>= _) _ _ _ from wpAny_bind ?_)
 unfold Builtin.SmallTypes.ownedTupleIsFree
 refine wpAny_bind (wpAny_field hz rfl (x:=.none) rfl (wpAny_pure ?_))
 simp only [if_true]
 refine wpAny_bind (wpAny_rule (wpAny_bind (wpAny_field hz rfl (x:=.ref TO) rfl (wpAny_bind (wpAny_setField_rec hz (by simp) fun h1 z1 s1=>?_)))))
 have y1:IsZip h1 z TI TO .ellipsis:=z1
 refine wpAny_bind ?_
 simp only [List.zipIdx_cons,List.zipIdx_nil,List.forIn_cons,List.forIn_nil]
 refine wpAny_bind (wpAny_bind (wpAny_onRaise (show wpAny _ _ (Builtin.SmallTypes.nextOf (.ref i1) >>= _) _ _ _ from wpAny_bind (Jq hh (j1.at fun o e=>s1.extBut _ _ D.i1z e) (t1.at fun o e=>s1.extBut _ _ D.l1z e) hx fun h2 x s2 hx2=>?_))))
 obtain ⟨ox,ex,cx⟩:=hx2
 have y2:IsZip h2 z TI TO .ellipsis:=s2 _ _ D.i1z.symm y1
 have nz:x ≠ z:=fun u=>by subst u; rw [y2] at ex; cases ex; simp at cx
 exact wpAny_setField_rec y2 (by simp) fun h3 _ s3=>q h3 x (fun c o c1 _ c3 _ e=>s3.extBut _ _ c1 (s2 _ _ c3 (s1.extBut _ _ c1 e))) ⟨ox,s3.extBut _ _ nz ex,cx⟩
end
noncomputable abbrev fK (h:Heap) (a1:Addr):Heap:=h.push { cls:=.type "tuple_iterator",data:=.fields #[.ref a1,.int 0 0] }
noncomputable abbrev fY (h:Heap) (a1 a2:Addr):Heap:=(fK h a1).push { cls:=.type "tuple_iterator",data:=.fields #[.ref a2,.int 0 0] }
noncomputable abbrev gC (h:Heap) (a1 a2:Addr):Heap:=(fY h a1 a2).push { cls:=.type "tuple",data:=.seq #[.ref h.objs.size,.ref (fK h a1).objs.size] }
noncomputable abbrev gA (h:Heap) (a1 a2:Addr):Heap:=(gC h a1 a2).push { cls:=.type "tuple",data:=.seq #[.none,.none] }
noncomputable abbrev XQ (h:Heap) (a1 a2:Addr):Heap:=(gA h a1 a2).push { cls:=.type "zip",data:=.fields #[.none,.bool false,.bool false,.ref (fY h a1 a2).objs.size,.ref (gC h a1 a2).objs.size] }
theorem UW (a1 a2:Addr) (xs ys:Array Value):Meets (Builtin.«zip.__new__» ⟨[.type "zip",.ref a1,.ref a2],[]⟩) (fun _ R s=>s.heap.IsTuple a1 xs/\s.heap.IsTuple a2 ys /\
   R (.ok (.ret (.ref (gA s.heap a1 a2).objs.size))) { s with heap:=XQ s.heap a1 a2 }) :=
 .of_wp fun prog w A R s h=>by
  obtain ⟨hp,g,d,tk,os⟩:=s
  obtain ⟨t1,t2,h⟩:=h
  have hsub:=sub_zip
  have u1:Heap.IsTuple (Shared.heap ⟨hp,g,d,tk,os⟩) a1 xs:=t1
  have u2:Heap.IsTuple (Shared.heap ⟨hp.push { cls:=.type "tuple_iterator",data:=.fields #[.ref a1,.int 0 0] },g,d,tk,os⟩) a2 ys:=Heap.IsTuple.at t2 fun o e=>Heap.get?_push_of_some _ e
  wp_walk using wpAny_pyIter_tuple u1,wpAny_pyIter_tuple u2
  exact ⟨_,rfl,h⟩
section
variable {prog:Program} {w:World} {A:Around} {E:Value->Shared->Prop} {s:Shared}
theorem RT {a1 a2:Addr} {xs ys:Array Value} {Q:Value->Shared->Prop} (t1:s.heap.IsTuple a1 xs) (t2:s.heap.IsTuple a2 ys)
  (q:∀ h' n,n=s.heap.objs.size->IsZip h' (n+4) (n+2) (n+3) .none->IsPair h' (n+2) (.ref n) (.ref (n+1))->IsPair h' (n+3) .none .none->h'.IsTupleIter n a1 0->h'.IsTupleIter (n+1) a2 0->h'.objs.size=n+5 ->
   (∀ c o,s.heap.get? c=some o->h'.get? c=some o)->Q (.ref (n+4)) { s with heap:=h' }):wpAny (model prog w) A (call (.type "zip") [.ref a1,.ref a2]) Q E s:=by
 refine callType_new F.called_zip (by decide) (F.typeCall_zip_2 _ _) (F.newCall_zip_2 _ _) (fun obj=>F.args_object_init_3 obj _ _) F.entry_zip_new (UW a1 a2 xs ys) ⟨t1,t2,?_⟩
 have z1:(fK s.heap a1).objs.size=s.heap.objs.size+1:=Heap.size_push ..
 have z2:(fY s.heap a1 a2).objs.size=s.heap.objs.size+2:=by rw [Heap.size_push,z1]
 have z3:(gC s.heap a1 a2).objs.size=s.heap.objs.size+3:=by rw [Heap.size_push,z2]
 have z4:(gA s.heap a1 a2).objs.size=s.heap.objs.size+4:=by rw [Heap.size_push,z3]
 have z5:(XQ s.heap a1 a2).objs.size=s.heap.objs.size+5:=by rw [Heap.size_push,z4]
 have g5:(XQ s.heap a1 a2).get? (gA s.heap a1 a2).objs.size=some _:=Heap.get?_push_size _ rfl
 have g4:(XQ s.heap a1 a2).get? (gC s.heap a1 a2).objs.size=some _:=Heap.get?_push_of_some _ (Heap.get?_push_size _ rfl)
 have g3:(XQ s.heap a1 a2).get? (fY s.heap a1 a2).objs.size=some _:=Heap.get?_push_of_some _ (Heap.get?_push_of_some _ (Heap.get?_push_size _ rfl))
 have g2:(XQ s.heap a1 a2).get? (fK s.heap a1).objs.size=some _:=Heap.get?_push_of_some _ (Heap.get?_push_of_some _ (Heap.get?_push_of_some _ (Heap.get?_push_size _ rfl)))
 have g1:(XQ s.heap a1 a2).get? s.heap.objs.size=some _:=Heap.get?_push_of_some _ (Heap.get?_push_of_some _ (Heap.get?_push_of_some _ (Heap.get?_push_of_some _ (Heap.get?_push_size _ rfl))))
 refine (show _/\_ from ?_)
 rw [z2,z3,z4] at g5
 rw [z1,z2] at g3
 rw [z3] at g4
 rw [z1] at g2
 rw [z4]
 exact ⟨⟨_,g5,rfl⟩,q _ _ rfl g5 g3 g4 ⟨_,g1,rfl,rfl⟩ ⟨_,g2,rfl,rfl⟩ z5 fun c o e=>Heap.get?_push_of_some _ (Heap.get?_push_of_some _ (Heap.get?_push_of_some _ (Heap.get?_push_of_some _ (Heap.get?_push_of_some _ e))))⟩
end
end L2
namespace L2
open PySem PySem.Spec PyProof.Rows
noncomputable def C_ (env:Env):List (Str × NameKind)->List (Str × Addr)->List (Str × Addr)
 | [],acc=>acc
 | (n,k)::r,acc=>if k == .free then (match env.cells.lookup n with | some a=>C_ env r ((n,a)::acc) | none=>C_ env r acc) else C_ env r acc
theorem Hi {scope:Scope} {env:Env} (h:∀ y∈scope.names,y.2=.free->∃ c,env.cells.lookup y.1=some c):closureFor scope env=pure (C_ env scope.names []):=by
 unfold closureFor
 have key:∀ (l:List (Str × NameKind)) (acc:List (Str × Addr)),(∀ y∈l,y.2=.free->∃ c,env.cells.lookup y.1=some c) ->
   (forIn l acc fun (x:Str × NameKind) (cs:List (Str × Addr))=>(match x with | (name,kind)=>if (kind == NameKind.free)=true then (do let a ← cellOf env name; pure (ForInStep.yield ((name,a)::cs))) else pure (ForInStep.yield cs):Sem (ForInStep (List (Str × Addr)))))=(pure (C_ env l acc):Sem _):=by
  intro l
  induction l with
  | nil=>intro acc _; rfl
  | cons x r ih =>
   intro acc hl
   obtain ⟨n,k⟩:=x
   rw [List.forIn_cons]
   unfold C_
   by_cases hk:(k == NameKind.free)=true
   ·obtain ⟨c,hc⟩:=hl (n,k) List.mem_cons_self (by simpa using hk)
    have hc':env.cells.lookup n=some c:=hc
    have e:cellOf env n=pure c:=by unfold cellOf; rw [hc']
    simp only [hk,if_true,e,hc']
    exact ih _ fun y hy=>hl y (List.mem_cons_of_mem _ hy)
   ·simp only [hk]
    exact ih _ fun y hy=>hl y (List.mem_cons_of_mem _ hy)
 have:=key scope.names [] h
 exact (congrArg (fun (m:Sem (List (Str × Addr)))=>m >>= fun z=>pure z) this).trans rfl
theorem Fg (env:Env):∀ (l:List (Str × NameKind)) (acc:List (Str × Addr)) (y:Str) (c:Addr),(C_ env l acc).lookup y=some c->acc.lookup y=some c \/ env.cells.lookup y=some c
 | [],_,_,_,h=>.inl h
 | (n,k)::r,acc,y,c,h=>by
  unfold C_ at h
  split at h
  ·split at h
   ·rename_i a ha
    rcases Fg env r _ y c h with z | z
    ·rw [List.lookup_cons] at z
     split at z
     ·rename_i e
      cases z
      have e':y=n:=by simpa using e
      subst e'
      exact .inr ha
     ·exact .inl z
    ·exact .inr z
   ·exact Fg env r _ y c h
  ·exact Fg env r _ y c h
theorem HD (env:Env):∀ (l:List (Str × NameKind)) (acc:List (Str × Addr)) (y:Str),(acc.lookup y).isSome=true->((C_ env l acc).lookup y).isSome=true
 | [],_,_,h=>h
 | (n,k)::r,acc,y,h=>by
  unfold C_
  split
  ·split
   ·refine HD env r _ y ?_
    rw [List.lookup_cons]
    split
    ·rfl
    ·exact h
   ·exact HD env r _ y h
  ·exact HD env r _ y h
theorem Ea (env:Env):∀ (l:List (Str × NameKind)) (acc:List (Str × Addr)) (y:Str),(y,NameKind.free)∈l->(env.cells.lookup y).isSome=true->((C_ env l acc).lookup y).isSome=true
 | [],_,_,h,_=>nomatch h
 | (n,k)::r,acc,y,h,hc=>by
  unfold C_
  rcases List.mem_cons.mp h with e | h
  ·obtain ⟨e1,e2⟩:=Prod.mk.inj e
   subst e1
   subst e2
   rw [if_pos (by decide)]
   split
   ·refine HD env r _ y ?_
    rw [List.lookup_cons]
    simp
   ·rename_i e
    rw [e] at hc
    cases hc
  ·split
   ·split
    ·exact Ea env r _ y h hc
    ·exact Ea env r _ y h hc
   ·exact Ea env r _ y h hc
end L2
namespace L2
open PySem PySem.Spec PyProof.Rows
noncomputable def HS (x:Str) (N:List Str):List Str:=N.map fun y=>if y=x then "" else y
noncomputable def By (X:Cx) (x:Str) (scope:Scope) (C:Addr) (s₀:Shared) (H₀:Hp) (fp:List Addr):Cx where
 prog:=X.prog
 w:=X.w
 K:=X.K
 mg:=X.mg
 base:=X.base
 A:=X.A
 N:=x::HS x X.N
 s₀:=s₀
 H₀:=H₀
 env:=compEnvC scope (C_ X.env scope.names []) C X.env
 outer:=X.stack
 stack:=X.stack
 ex:=fp
 fn:=fun _=>false
 calm:=X.calm
 pn:=[]
 xe:=fun _ _=>False
theorem Eu (env:Env) (y:Str):∀ names:List (Str × NameKind),
  (names.map fun (n,k)=>if (k == NameKind.free && env.scope.kind == .function && env.kindOf n == some .cell) then (n,NameKind.cell) else (n,k)).lookup y =
   (names.lookup y).map fun k=>if (k == NameKind.free && env.scope.kind == .function && env.kindOf y == some .cell) then NameKind.cell else k
 | []=>rfl
 | (n,k)::r=>by
  have ih:=Eu env y r
  rw [List.map_cons]
  show List.lookup y ((if (k == NameKind.free && env.scope.kind == .function && env.kindOf n == some .cell)=true then (n,NameKind.cell) else (n,k))::_)=_
  have e0:(if (k == NameKind.free && env.scope.kind == .function && env.kindOf n == some .cell)=true then (n,NameKind.cell) else (n,k))=(n,if (k == NameKind.free && env.scope.kind == .function && env.kindOf n == some .cell)=true then NameKind.cell else k):=by split <;> rfl
  rw [e0,List.lookup_cons,List.lookup_cons]
  cases hx:y == n with
  | true =>
   have e:y=n:=by simpa using hx
   subst e
   rfl
  | false=>exact ih
structure Fo (X:Cx) (x:Str) (scope:Scope):Prop where
 kind:scope.kind=.function
 nocell:∀ y∈scope.names,y.2 ≠ .cell
 names:∀ y∈scope.names,y.2=.local->scope.names.lookup y.1=some .local
 loc:scope.names.lookup x=some .local
 free:∀ y∈scope.names,y.2=.free->X.env.kindOf y.1=some .cell \/ X.env.kindOf y.1=some .free
 nd:(x::HS x X.N).Nodup
 only:∀ y∈HS x X.N,scope.names.lookup y ≠ some .local
 noE:scope.names.lookup ("" : Str)=none
section
variable {X:Cx} {pins:List (Addr × Obj)} {σ:St} {H:Hp} {s:Shared} {x:Str} {scope:Scope} {fp:List Addr} {C:Addr}
theorem Nr {h':Heap} {tk:Nat} {m:Str->Option Value} (I:Inv X pins σ H s) (S:Fo X x scope) (hf:∀ b∈fp,Fy X pins H b) (hlt:∀ b∈fp,b<s.heap.objs.size) (hC:s.heap.objs.size<=C) (hn:h'.Ns C m)
  (hk:∀ b o,s.heap.get? b=some o->h'.get? b=some o):Inv (By X x scope C s H fp) [] (none::σ) H { s with heap:=h',toks:=tk }:=by
 have cl:∀ y c,(C_ X.env scope.names []).lookup y=some c->X.env.cells.lookup y=some c:=fun y c e=>by
  rcases Fg X.env scope.names [] y c e with z | z
  ·cases z
  ·exact z
 have cellK:∀ c v,s.heap.IsCell c v->h'.IsCell c v:=fun c v ⟨o,ho,hd⟩=>⟨o,hk c o ho,hd⟩
 have look:∀ y,(By X x scope C s H fp).env.scope.names.lookup y=(scope.names.lookup y).map fun k=>if (k == NameKind.free && X.env.scope.kind == .function && X.env.kindOf y == some .cell) then NameKind.cell else k:=fun y=>Eu X.env y scope.names
 refine ⟨⟨I.ok.mod,S.kind,I.ok.glob,I.ok.blt,hC,fun y z c e1 e2=>I.ok.inj y z c (cl y c e1) (cl z c e2),fun y hy=>?_,fun y c e _=>(by cases e),fun h=>I.ok.hd h,I.ok.frames,.inl rfl,fun b hb=>?_,I.bs,Nat.le_trans I.ok.bsz I.sz,fun b o e hb=>?_,fun b hb hb'=>?_,I.stack,I.G7⟩,
  rfl,I.bare,Un.kept hk,⟨m,hn,fun i y v h1 h2 h3=>?_⟩,fun y c e=>?_,I.hok.fresh hC,fun y c e=>I.freeC y c (cl y c e),fun p hp=>absurd (show p∈([]:List (Addr × Obj)) from hp) (by simp),I.hok.kept hk,?_⟩
 ·-- every cell of the block is there
  have hy':(By X x scope C s H fp).env.scope.names.lookup y=some .cell \/ (By X x scope C s H fp).env.scope.names.lookup y=some .free:=hy
  rw [look y] at hy'
  cases e:scope.names.lookup y with
  | none=>rw [e] at hy'; rcases hy' with z | z <;> cases z
  | some k =>
   have hm:=PySem.mem_of_lookup e
   have hfree:k=.free:=by
    rw [e] at hy'
    cases k with
    | free=>rfl
    | cell=>exact absurd rfl (S.nocell _ hm)
    | _=>rcases hy' with z | z <;> simp at z
   subst hfree
   obtain ⟨c,hc⟩:=I.ok.has y (S.free _ hm rfl)
   exact Option.isSome_iff_exists.mp (Ea X.env scope.names [] y hm (by rw [hc]; rfl))
 ·obtain ⟨f0,f1,f2,f3,f4,f5⟩:=hf b hb
  exact ⟨Nat.ne_of_lt (Nat.lt_of_lt_of_le (hlt b hb) hC),fun y c e=>f4 y c (cl y c e)⟩
 ·obtain ⟨f0,f1,f2,f3,f4,f5⟩:=hf b hb
  rcases f3 with z | z
  ·exact I.ok.noex b o e z
  ·exact absurd (Nat.lt_of_lt_of_le (Heap.lt_size e) (Nat.le_trans I.ok.bsz z)) (Nat.lt_irrefl _)
 ·obtain ⟨f0,f1,f2,f3,f4,f5⟩:=hf b hb
  rcases List.mem_cons.mp (I.La b hb') with e | e
  ·exact f1 e
  ·exact f2 e
 ·cases i with
  | zero =>
   have h2':(some none:Option (Option V))=some (some v):=h2
   cases h2'
  | succ i =>
   have h1':(HS x X.N)[i]? = some y:=h1
   have h2':σ[i]? = some (some v):=h2
   have hmem:y∈HS x X.N:=List.mem_of_getElem? h1'
   unfold HS at h1'
   rw [List.getElem?_map] at h1'
   cases e0:X.N[i]? with
   | none=>rw [e0] at h1'; cases h1'
   | some y0 =>
    rw [e0] at h1'
    have h1'':(if y0=x then ("" : Str) else y0)=y:=Option.some.inj h1'
    have h3':(By X x scope C s H fp).env.scope.names.lookup y=some .local \/ (By X x scope C s H fp).env.scope.names.lookup y=some .cell \/ (By X x scope C s H fp).env.scope.names.lookup y=some .free:=h3
    rw [look y] at h3'
    have hy0:y0=y:=by
     by_cases q:y0=x
     ·rw [if_pos q] at h1''
      rw [← h1'',S.noE] at h3'
      rcases h3' with z | z | z <;> cases z
     ·rw [if_neg q] at h1''
      exact h1''
    subst hy0
    cases e:scope.names.lookup y0 with
    | none=>rw [e] at h3'; rcases h3' with z | z | z <;> cases z
    | some k =>
     have hm:=PySem.mem_of_lookup e
     have hfree:k=.free:=by
      rw [e] at h3'
      cases k with
      | free=>rfl
      | cell=>exact absurd rfl (S.nocell _ hm)
      | «local»=>exact absurd e (S.only y0 hmem)
      | _=>rcases h3' with z | z | z <;> simp at z
     subst hfree
     have kd:=S.free _ hm rfl
     obtain ⟨m0,hn0,hl0⟩:=I.loc
     obtain ⟨u,r,l⟩:=hl0 i y0 v e0 h2' (by rcases kd with z | z; exact .inr (.inl z); exact .inr (.inr z))
     refine ⟨u,r,.inr ⟨?_,?_⟩⟩
     ·have hk':(By X x scope C s H fp).env.scope.names.lookup y0=some (if (NameKind.free == NameKind.free && X.env.scope.kind == .function && X.env.kindOf y0 == some .cell) then NameKind.cell else NameKind.free):=by
       rw [look y0,e]; rfl
      by_cases c:(NameKind.free == NameKind.free && X.env.scope.kind == .function && X.env.kindOf y0 == some .cell)=true
      ·rw [if_pos c] at hk'; exact .inl hk'
      ·rw [if_neg c] at hk'; exact .inr hk'
     ·rcases l with ⟨lk,_⟩ | ⟨_,c,hc,hcell⟩
      ·exfalso
       rcases kd with z | z <;> (rw [show X.env.kindOf y0=some NameKind.local from lk] at z; cases z)
      ·obtain ⟨c',hc'⟩:=Option.isSome_iff_exists.mp (Ea X.env scope.names [] y0 hm (by rw [hc]; rfl))
       have:=cl y0 c' hc'
       rw [hc] at this
       cases this
       exact ⟨c,hc',cellK c _ hcell⟩
 ·obtain ⟨v,z⟩:=I.cell y c (cl y c e)
  exact ⟨v,cellK c v z⟩
 ·show (none::σ).length=(x::HS x X.N).length
  simp [HS,I.len]
end
noncomputable def MT (X:Cx) (ifs:List Expr) (t:TT):Prop :=
 ∀ (pins:List (Addr × Obj)) (s:Shared) (σ:St) (H:Hp) (Q:Bool->Hp->Prop),Inv X pins σ H s->t σ H Q ->
  wpAny (model X.prog X.w) X.A (forIn ifs true fun c r=>if r=true then do let ok ← isTrue c X.env (eval c X.env); pure (ForInStep.yield ok) else pure (ForInStep.yield r)) (TP X pins σ Q) X.xe s
noncomputable def WR:TT:=fun _ H Q=>Q true H
theorem Cq {X:Cx}:MT X [] WR:=fun _ _ _ H _ I h=>wpAny_tests_nil ⟨H,I,h⟩
theorem Hk {X:Cx} {c:Expr} {t:TT} (h:PT X c t):MT X [c] t:=fun pins s σ H Q I q=>wpAny_tests_one (h pins s σ H Q I q)
noncomputable def GF (J:It) (σ:St) (H1:Hp) (Q:VK) (tt:TT) (te:TE):Prop:=∀ D,H1 D=none->∃ W:Nat->Nat->List V->Hp->Prop,(∃ m,W 0 m [] (upd H1 D (.lst [])))/\∀ i m ys H2,W i m ys H2 ->
 (J.stop i H2/\Q (.ref D) H2) \/ (J.go i H2/\∀ x H3,J.yld i H2 x H3->tt (some x::σ) H3 fun b H4 =>
  if b=true then te (some x::σ) H4 fun y H5=>H5 D=some (.lst ys)/\ys.length<sizeLine/\∃ m',m'<m/\W (i+1) m' (ys++[y]) (upd H5 D (.lst (ys++[y])))
  else ∃ m',m'<m/\W (i+1) m' ys H4)
noncomputable def Wa (wi:TI) (tt:TT) (te:TE):TE:=fun σ H Q=>wi σ H fun J H1=>GF J σ H1 Q tt te
theorem Ow {α:Type} {t:Sem α} {Q Q':α->Shared->Prop} {M:Model} {A:Around} {E:Value->Shared->Prop} {s:Shared} (h:wpAny M A t Q (fun _ _=>False) s) (hQ:∀ a s,Q a s->Q' a s):wpAny M A t Q' E s:=wpAny_mono h hQ fun _ _ x=>x.elim
theorem Inv.sameBut {X:Cx} {pins:List (Addr × Obj)} {σ:St} {H:Hp} {s:Shared} {h':Heap} {C:Addr} (I:Inv X pins σ H s) (f:Fy X pins H C) (sb:Heap.SameBut C s.heap h'):Inv X pins σ H { s with heap:=h' } :=
 I.turned (t':=s.toks) (fun b o hb e=>(sb.2 b hb).trans e) f.1 f.2.1 f.2.2.2.1 f.2.2.2.2.1 f.2.2.2.2.2
section
variable {X:Cx} {x:Str} {scope:Scope}
theorem J0 {px pos:Pos} {iter elt:Expr} {ifs:List Expr} {tt:TT} {te:TE} {pins:List (Addr × Obj)} {σ:St} {s2:Shared} {H2:Hp} {it:Addr} {fp:List Addr} {tn:Nat->Heap->Prop} {J:It} {E:Value->Shared->Prop}
  {RR:Value->Addr->Result->Shared->Prop} {Q:VK}
  (hc:X.calm=true) (S:Fo X x scope) (ht:∀ C s₀ H₀ fp,MT (By X x scope C s₀ H₀ fp) ifs tt) (he:∀ C s₀ H₀ fp,PE (By X x scope C s₀ H₀ fp) elt te)
  (I2:Inv X pins σ H2 s2) (T:Turn X.prog X.w X.K (.Name x px) J fp it tn) (st2:tn 0 s2.heap) (f2:∀ b∈fp,Fy X pins H2 b)
  (q:∀ D,H2 D=none->∃ W:Nat->Nat->List V->Hp->Prop,(∃ m,W 0 m [] (upd H2 D (.lst [])))/\∀ i m ys H2,W i m ys H2 ->
   (J.stop i H2/\Q (.ref D) H2) \/ (J.go i H2/\∀ x H3,J.yld i H2 x H3->tt (some x::σ) H3 fun b H4 =>
    if b=true then te (some x::σ) H4 fun y H5=>H5 D=some (.lst ys)/\ys.length<sizeLine/\∃ m',m'<m/\W (i+1) m' (ys++[y]) (upd H5 D (.lst (ys++[y])))
    else ∃ m',m'<m/\W (i+1) m' ys H4))
  (hRR:∀ D C s' H' m,s'.heap.Ns C m->Fy X pins H' C->Inv X pins σ H' s'->Q (.ref D) H'->RR (.ref D) C (.ok .next) s') :
  wpAny (model X.prog X.w) X.A (newList []) (fun acc s₃=>wpAny (model X.prog X.w) X.A (newFunctionEnv scope X.env.globals (C_ X.env scope.names []) [] X.env.qual none .none (some X.env)) (fun cenv s₄ =>
   codeAny (model X.prog X.w) X.A (.compStart (.ListComp elt [⟨.Name x px,iter,ifs,0⟩] scope pos) 0 (.ref it) acc { cenv with scope:=relabel scope X.env }) (RR acc cenv.locals) s₄) E s₃) E s2:=by
 refine wpAny_newObj_type (wpAny_newFunctionEnv S.nocell (by intro y hy; simp at hy) (fun h₁ hns₁ hsb₁=>?_) S.kind)
 have I3:=I2.W5 (its:=[]) (ys:=[]) (t':=s2.toks) .nil (Nat.zero_le _)
 have hD0:H2 s2.heap.objs.size=none:=I2.fresh
 obtain ⟨W,⟨m0,w0⟩,turn⟩:=q _ hD0
 generalize hs3:({ s2 with heap:=s2.heap.push { cls:=.type "list",data:=.seq ([]:List Value).toArray },toks:=s2.toks }:Shared)=s3 at I3
 have e3:s3.heap=s2.heap.push { cls:=.type "list",data:=.seq ([]:List Value).toArray }:=by rw [← hs3]
 have hlt:∀ b∈fp,b<s2.heap.objs.size:=fun b hb=>let ⟨_,e,_⟩:=T.obj _ _ st2 b hb; Heap.lt_size e
 have hlt3:∀ b∈fp,b<s3.heap.objs.size:=fun b hb=>by rw [e3,Heap.size_push]; exact Nat.lt_succ_of_lt (hlt b hb)
 have f3:∀ b∈fp,Fy X pins (upd H2 s2.heap.objs.size (.lst [])) b:=fun b hb=>⟨by rw [Al (Nat.ne_of_lt (hlt b hb))]; exact (f2 b hb).1,(f2 b hb).2⟩
 have hk1:∀ b o,s3.heap.get? b=some o->h₁.get? b=some o:=fun b o e=>by
  have hne:b ≠ s3.heap.objs.size:=Nat.ne_of_lt (Heap.lt_size e)
  rw [e3] at e hne
  exact hsb₁.extBut b o hne (Heap.get?_push_of_some _ e)
 have hC:s3.heap.objs.size=(s2.heap.push { cls:=.type "list",data:=.seq ([]:List Value).toArray }).objs.size:=by rw [e3]
 have hns:h₁.Ns s3.heap.objs.size (fun x=>([]:List (Str × Value)).reverse.lookup x):=by rw [hC]; exact hns₁
 have st3:tn 0 h₁:=T.keep _ _ _ st2 fun b hb o e=>hk1 b o (by rw [e3]; exact Heap.get?_push_of_some _ e)
 have hDC:s2.heap.objs.size ≠ s3.heap.objs.size:=by rw [e3,Heap.size_push]; exact Nat.ne_of_lt (Nat.lt_succ_self _)
 have start:∀ tk,Inv (By X x scope s3.heap.objs.size s3 (upd H2 s2.heap.objs.size (.lst [])) fp) [] (none::σ) (upd H2 s2.heap.objs.size (.lst [])) { s3 with heap:=h₁,toks:=tk }:=fun tk =>
  Nr I3 S f3 hlt3 (Nat.le_refl _) hns hk1
 generalize hX:By X x scope s3.heap.objs.size s3 (upd H2 s2.heap.objs.size (.lst [])) fp=X' at start
 have eA:X'.A=X.A:=by rw [← hX]; rfl
 have eP:X'.prog=X.prog:=by rw [← hX]; rfl
 have eW:X'.w=X.w:=by rw [← hX]; rfl
 have eK:X'.K=X.K:=by rw [← hX]; rfl
 have eC:X'.env.locals=s3.heap.objs.size:=by rw [← hX]; rfl
 have loop:∀ tk,codeAny (model X.prog X.w) X.A (.compLoop (.ListComp elt [⟨.Name x px,iter,ifs,0⟩] scope pos) 0 (.ref it) (.ref s2.heap.objs.size) (compEnvC scope (C_ X.env scope.names []) s3.heap.objs.size X.env))
   (RR (.ref s2.heap.objs.size) s3.heap.objs.size) { s3 with heap:=h₁,toks:=tk }:=by
  intro tk
  subst hX
  refine codeAny_compLoop_tests (fun n s'=>∃ i ys v0 H',Inv (By X x scope s3.heap.objs.size s3 (upd H2 s2.heap.objs.size (.lst [])) fp) [] (v0::σ) H' s'/\tn i s'.heap/\(∀ b∈fp,H' b=none)/\W i n ys H') ?_ m0
   ⟨0,[],none,_,start tk,st3,fun b hb=>(f3 b hb).1,w0⟩
  rintro n s4 ⟨i,ys,v0,H4,I4,st4,fr4,w4⟩
  have stat:∀ {H':Hp},(∀ b∈fp,H' b=none)->∀ b∈fp,Fy (By X x scope s3.heap.objs.size s3 (upd H2 s2.heap.objs.size (.lst [])) fp) [] H' b:=fun hn b hb=>by
   refine ⟨hn b hb,(I4.ok.exf b hb).1,I4.ok.exfs b hb,.inl hb,(I4.ok.exf b hb).2,fun p hp=>absurd (show p∈([]:List (Addr × Obj)) from hp) (by simp)⟩
  rcases turn i n ys H4 w4 with ⟨stop,qn⟩ | ⟨go,step⟩
  ·refine Bx (T.done (By X x scope s3.heap.objs.size s3 (upd H2 s2.heap.objs.size (.lst [])) fp) rfl rfl rfl hc i [] s4 (v0::σ) H4 _ I4 (stat fr4) st4 stop) fun r s5 ⟨hr,I5⟩=>?_
   subst hr
   obtain ⟨m,hn,_⟩:=I5.loc
   refine hRR _ _ s5 H4 m hn (I3.Lf (Nat.le_refl _) I5.free) (I3.call' (s':=s5) (ch:=fp) I5.os I5.base I5.hok I5.bare (fun b hb=>?_)) qn
   obtain ⟨_,g1,_,g3,g4,g5⟩:=f3 b hb
   exact ⟨g3,g1,g4,g5⟩
  ·refine Bx (T.item (By X x scope s3.heap.objs.size s3 (upd H2 s2.heap.objs.size (.lst [])) fp) rfl rfl rfl hc i [] s4 (v0::σ) H4 _ I4 (stat fr4) st4 go) fun r s5 ⟨u,hr,h5⟩=>?_
   subst hr
   intro Γ p hΓ
   obtain ⟨xv,H6,I6,r6,y6,st6,fr6⟩:=h5 Γ p hΓ
   refine (?_:wpAny _ _ _ _ _ _) Γ p hΓ
   have I6':=I6.pinned (stat fr6) (T.obj _ _ st6)
   have hloc:(By X x scope s3.heap.objs.size s3 (upd H2 s2.heap.objs.size (.lst [])) fp).env.scope.names.lookup x=some .local:=lookup_relabel_local S.loc
   have again:∀ {s7:Shared} {H7:Hp} {ys':List V},Inv (By X x scope s3.heap.objs.size s3 (upd H2 s2.heap.objs.size (.lst [])) fp) ([]++JB fp s5.heap) (some xv::σ) H7 s7->(∃ m',m'<n/\W (i+1) m' ys' H7) ->
     ∃ m,m<n/\∃ i ys v0 H',Inv (By X x scope s3.heap.objs.size s3 (upd H2 s2.heap.objs.size (.lst [])) fp) [] (v0::σ) H' s7/\tn i s7.heap/\(∀ b∈fp,H' b=none)/\W i m ys H':=fun {s7 H7 ys'} I7 hw=>by
    obtain ⟨m',hm,w7⟩:=hw
    refine ⟨m',hm,i+1,ys',some xv,H7,I7.GZ,T.keep _ _ _ st6 fun b hb o e=>(I7.pin (b,o) (List.mem_append_right _ (List.mem_append_right _ (EY hb e)))).1,fun b hb=>?_,w7⟩
    obtain ⟨o,e,d⟩:=T.obj _ _ st6 b hb
    exact (I7.pin (b,o) (List.mem_append_right _ (List.mem_append_right _ (EY hb e)))).2.1
   refine wpAny_assign_Name (Ig (X:=By X x scope s3.heap.objs.size s3 (upd H2 s2.heap.objs.size (.lst [])) fp) (i:=0) I6' S.nd rfl (.inl hloc) r6 (fun s7 I7=>?_) (.inr hloc))
   refine Ow (ht _ _ _ _ _ s7 (some xv::σ) H6 _ I7 (step xv H6 y6)) fun b s8 hq0=>?_
   obtain ⟨H8,I8,q8⟩:=hq0
   cases b with
   | false =>
    rw [if_neg Bool.false_ne_true] at q8 ⊢
    exact again I8 q8
   | true =>
    rw [if_pos rfl] at q8 ⊢
    refine Ow (he _ _ _ _ _ s8 (some xv::σ) H8 _ I8 q8) fun y s9 hq0=>?_
    obtain ⟨yv,H9,I9,r9,hD9,hz9,q9⟩:=hq0
    refine Ow (Bl (X:=By X x scope s3.heap.objs.size s3 (upd H2 s2.heap.objs.size (.lst [])) fp) _ s9 (some xv::σ) H9 (.ref s2.heap.objs.size) [yv] (.ref s2.heap.objs.size) [y] (fun _ H'=>H'=upd H9 s2.heap.objs.size (.lst (ys++[yv]))) I9 rfl (.cons r9 .nil)
     ⟨_,ys,yv,rfl,rfl,hD9,hz9,rfl⟩) fun _ s10 ⟨_,H10,I10,_,e10⟩=>?_
    subst e10
    exact again I10 q9
 have key:=fun tk=>codeAny_compStart_list (R:=RR (.ref s2.heap.objs.size) s3.heap.objs.size) (loop tk) (T.self X.A 0 { s3 with heap:=h₁,toks:=tk } (fun it' s'=>codeAny (model X.prog X.w) X.A (.compLoop (.ListComp elt [⟨.Name x px,iter,ifs,0⟩] scope pos) 0 it' (.ref s2.heap.objs.size) (compEnvC scope (C_ X.env scope.names []) s3.heap.objs.size X.env)) (RR (.ref s2.heap.objs.size) s3.heap.objs.size) s') _ st3 (loop tk))
 subst hs3
 exact key _
theorem Bk {px pos:Pos} {iter elt:Expr} {ifs:List Expr} {wi:TI} {tt:TT} {te:TE} (hc:X.calm=true) (S:Fo X x scope) (hi:PI X (.Name x px) iter wi)
  (ht:∀ C s₀ H₀ fp,MT (By X x scope C s₀ H₀ fp) ifs tt) (he:∀ C s₀ H₀ fp,PE (By X x scope C s₀ H₀ fp) elt te) (hs:∀ x,foldedSetIterable iter X.env x=pure x:=by intro _; rfl) :
  PE X (.ListComp elt [⟨.Name x px,iter,ifs,0⟩] scope pos) (Wa wi tt te):=by
 intro pins s σ H Q I h
 rw [eval_ListComp]
 refine wpAny_comprehension_free (use:=none) (cl:=C_ X.env scope.names []) rfl hs (Hi fun y hy hk=>I.ok.has y.1 (S.free y hy hk)) S.kind S.names (Bx (hi pins s σ H _ I h) fun v s1 h1=>Bx h1 fun itv s2 h2=>?_)
 obtain ⟨it,fp,tn,J,H2,e,I2,T,st2,f2,q⟩:=h2
 subst e
 refine J0 (RR:=fun acc C=>compPost (model X.prog X.w) X.A X.xe none (EP X pins σ Q) acc C) (Q:=Q) hc S ht he I2 T st2 f2 q ?_
 intro D C s' H' m hn hf hI hq
 exact ⟨m,hn,fun h' sb=>⟨.ref D,H',hI.sameBut hf sb,rfl,hq⟩⟩
theorem U5 {i:Nat} {y:Str} {px py pos spos:Pos} {iter elt:Expr} {ifs:List Expr} {wi:TI} {tt:TT} {te:TE} (hN:X.N.Nodup) (hi':X.N[i]? = some y) (hy:X.env.scope.names.lookup y=some .local) (hc:X.calm=true) (S:Fo X x scope) (hi:PI X (.Name x px) iter wi)
  (ht:∀ C s₀ H₀ fp,MT (By X x scope C s₀ H₀ fp) ifs tt) (he:∀ C s₀ H₀ fp,PE (By X x scope C s₀ H₀ fp) elt te) (hsw:swapsWith (.ListComp elt [⟨.Name x px,iter,ifs,0⟩] scope pos) (some (.Name y py)) spos.line X.env=pure true:=by rfl) (hs:∀ x,foldedSetIterable iter X.env x=pure x:=by intro _; rfl) :
  PS X (.Assign [.Name y py] (.ListComp elt [⟨.Name x px,iter,ifs,0⟩] scope pos) spos) (TX (Wa wi tt te) (Eo i)):=by
 intro pins s σ H D' I h
 rw [exec_Assign_Name_used _ _ _ _ hsw]
 refine wpAny_bind (wpAny_standAt (wpAny_bind ?_))
 show wpAny _ X.A (do let _ ← comprehension (.ListComp elt [⟨.Name x px,iter,ifs,0⟩] scope pos) scope X.env _ (newList []) false (eval iter X.env) (some (assign (.Name y py) X.env))) _ _ s
 refine wpAny_bind (wpAny_mono (wpAny_comprehension_free (use:=some (assign (.Name y py) X.env)) (cl:=C_ X.env scope.names []) (Q:=fun _ s'=>SP X pins D' .next s') rfl hs (Hi fun y hy hk=>I.ok.has y.1 (S.free y hy hk)) S.kind S.names
  (Bx (hi pins s σ H _ I h) fun v s1 h1=>Bx h1 fun itv s2 h2=>?_)) (fun _ s' hq=>wpAny_pure (wpAny_pure hq)) fun _ _ e=>e)
 obtain ⟨it,fp,tn,J,H2,e,I2,T,st2,f2,q⟩:=h2
 subst e
 refine J0 (RR:=fun acc C=>compPost (model X.prog X.w) X.A X.xe (some (assign (.Name y py) X.env)) (fun _ s'=>SP X pins D' .next s') acc C) (Q:=fun x H1=>Eo i x σ H1 D'.nx) hc S ht he I2 T st2 f2 q ?_
 intro D C s' H' m hn hf hI hq
 show wpAny _ X.A (assign (.Name y py) X.env (.ref D)) _ _ _
 refine wpAny_assign_Name (Iv hI hN hi' (.inl hy) (v:=.ref D) rfl (fun s6 I6 hch=>?_) (.inr hy))
 obtain ⟨a,sb,ha⟩:=hch
 have hCa:C ≠ a:=by
  rcases ha with z | z
  ·rw [z]; exact hf.2.1
  ·exact Ne.symm (hf.2.2.2.2.1 y a z)
 exact ⟨m,hn.sameBut sb hCa,fun h' sb'=>⟨_,H',I6.sameBut hf sb',hq⟩⟩
end
end L2
namespace L2
open PySem PySem.Spec PyProof.Rows
section
variable {σ:St} {H1:Hp} {Q:VK} {tt:TT} {te:TE}
theorem Gf {J:It} {xs:List V} (p:V->Bool) (f:V->V) (hz:xs.length<sizeLine)
  (hgo:∀ i H x,Ak H1 H->xs[i]? = some x->J.go i H) (hy:∀ i H y H',Ak H1 H->i<xs.length->J.yld i H y H'->H'=H/\xs[i]? = some y) (hstop:∀ H,Ak H1 H->J.stop xs.length H)
  (ht:∀ x∈xs,∀ H,Ak H1 H->∀ R:Bool->Hp->Prop,(∀ H',Ak H H'->R (p x) H')->tt (some x::σ) H R)
  (he:∀ x∈xs,p x=true->∀ H,Ak H1 H->∀ R:VK,(∀ H',Ak H H'->R (f x) H')->te (some x::σ) H R)
  (hq:∀ D H,H1 D=none->Ak H1 H->H D=some (.lst ((xs.filter p).map f))->Q (.ref D) H):GF J σ H1 Q tt te:=by
 intro D hD
 have s0:Ak H1 (upd H1 D (.lst [])):=fun b o e=>by rw [Al (Ah e hD)]; exact e
 refine ⟨fun i m ys H=>m=xs.length - i/\i<=xs.length/\ys=((xs.take i).filter p).map f/\H D=some (.lst ys)/\Ak H1 H,⟨xs.length,by simp,Nat.zero_le _,by simp,Ag,s0⟩,?_⟩
 rintro i m ys H ⟨rfl,hi,rfl,hd,hs⟩
 by_cases hlt:i<xs.length
 ·obtain ⟨x,hx⟩:∃ x,xs[i]? = some x:=⟨xs[i],by simp [hlt]⟩
  refine .inr ⟨hgo i H x hs hx,fun y H3 hyl=>?_⟩
  obtain ⟨rfl,hy'⟩:=hy i H y H3 hs hlt hyl
  rw [hx] at hy'
  cases hy'
  have hm:x∈xs:=List.mem_of_getElem? hx
  have hlen:(((xs.take i).filter p).map f).length<sizeLine:=by
   rw [List.length_map]
   refine Nat.lt_of_le_of_lt (List.length_filter_le _ _) (Nat.lt_of_le_of_lt ?_ hz)
   rw [List.length_take]; omega
  refine ht x hm _ hs _ fun H4 s4=>?_
  by_cases hp:p x=true
  ·rw [if_pos hp]
   refine he x hm hp H4 (hs.trans s4) _ fun H5 s5=>?_
   refine ⟨s5 _ _ (s4 _ _ hd),hlen,xs.length - (i+1),by omega,rfl,hlt,?_,Ag,fun b o e=>?_⟩
   ·rw [take_succ_filter p xs i x hx,if_pos hp,List.map_append]; rfl
   ·rw [Al (Ah e hD)]; exact s5 _ _ (s4 _ _ (hs _ _ e))
  ·rw [if_neg hp]
   refine ⟨xs.length - (i+1),by omega,rfl,hlt,?_,s4 _ _ hd,hs.trans s4⟩
   rw [take_succ_filter p xs i x hx,if_neg hp,List.append_nil]
 ·have e:i=xs.length:=by omega
  subst e
  rw [List.take_length] at hd
  exact .inl ⟨hstop H hs,hq D H hD hs hd⟩
theorem PJ {lo:Int} {n:Nat} (p:Int->Bool) (f:Int->V) (hz:n<sizeLine)
  (ht:∀ i:Nat,i<n->∀ H,Ak H1 H->∀ R:Bool->Hp->Prop,(∀ H',Ak H H'->R (p (lo+i)) H')->tt (some (.int (lo+i))::σ) H R)
  (he:∀ i:Nat,i<n->p (lo+i)=true->∀ H,Ak H1 H->∀ R:VK,(∀ H',Ak H H'->R (f (lo+i)) H')->te (some (.int (lo+i))::σ) H R)
  (hq:∀ D H,H1 D=none->Ak H1 H->H D=some (.lst ((((List.range n).map fun (i:Nat)=>lo+(i:Int)).filter p).map f))->Q (.ref D) H):GF (Wt lo n) σ H1 Q tt te:=by
 let g:V->Int:=fun v=>match v with | .int i=>i | _=>0
 have hxs:∀ i:Nat,i<n->((List.range n).map fun (i:Nat)=>V.int (lo+(i:Int)))[i]? = some (.int (lo+i)):=fun i hi=>by simp [hi]
 refine Gf (xs:=(List.range n).map fun (i:Nat)=>V.int (lo+(i:Int))) (fun v=>p (g v)) (fun v=>f (g v)) (by simpa using hz) (fun i H x _ hx=>?_) (fun i H y H' _ hi hy=>?_) (fun H _=>?_) (fun x hx=>?_) (fun x hx=>?_) (fun D H h1 h2 h3=>?_)
 ·have:i<((List.range n).map fun (i:Nat)=>V.int (lo+(i:Int))).length:=(List.getElem?_eq_some_iff.mp hx).1
  show i<n
  simpa using this
 ·have hi':i<n:=by simpa using hi
  obtain ⟨e1,e2⟩:=hy
  subst e2
  exact ⟨e1,hxs i hi'⟩
 ·show n<=_
  simp
 ·obtain ⟨i,hi,rfl⟩:=List.mem_map.mp hx
  exact ht i (List.mem_range.mp hi)
 ·obtain ⟨i,hi,rfl⟩:=List.mem_map.mp hx
  exact he i (List.mem_range.mp hi)
 ·refine hq D H h1 h2 ?_
  rw [h3,List.filter_map,List.map_map,List.filter_map,List.map_map]
  rfl
noncomputable def eX (z:Str):It:=⟨fun i _=>i<z.cps.size,fun i H x H'=>H'=H/\∃ c,z.cps[i]? = some c/\x=.str ⟨#[c]⟩,fun i _=>z.cps.size<=i⟩
theorem Tz {P:Program} {w:World} {K:PySem.W.Frag} {tg:Expr} {z:Str} {t0:Tok} {it:Addr} {ty:String} (hty:ty = "str_ascii_iterator" \/ ty = "str_iterator"):Turn P w K tg (eX z) [it] it (fun i h=>h.IsStrIter it ty z t0 i) where
 mem:=by simp
 obj:=fun i h st b hb=>by
  have e:b=it:=by simpa using hb
  subst e
  obtain ⟨o,ho,hc,hd⟩:=st
  exact ⟨o,ho,fun v q=>by rw [hd] at q; cases q⟩
 keep:=fun i h h' st k=>let ⟨o,ho,r⟩:=st; ⟨o,k it (by simp) o ho,r⟩
 item:=by
  intro X hP hw hK hc i pins s σ H E I hf st hg
  subst hP hw hK
  obtain ⟨f0,f1,f2,f3,f4,f5⟩:=hf it (by simp)
  have hg':i<z.cps.size:=hg
  have hx:z.cps[i]? = some z.cps[i]:=Array.getElem?_eq_getElem hg'
  have fin:∀ h',h'.IsStrIter it ty z t0 (i+1)->Heap.SameBut it s.heap h'->∃ u,some (Value.str ⟨#[z.cps[i]]⟩ s.toks)=some u /\
    wpAny (model X.prog X.w) X.A (letOwnedTupleGo tg (.ref it) u) (fun _ s2=>∃ x H',Inv X pins σ H' s2/\RelV x u/\(eX z).yld i H x H'/\s2.heap.IsStrIter it ty z t0 (i+1)/\∀ b∈[it],H' b=none) E { s with heap:=h',toks:=s.toks+1 }:=fun h' st' sb=>by
   have I1:Inv X pins σ H { s with heap:=h',toks:=s.toks+1 }:=I.turned (fun b o hb e=>(sb.2 b hb).trans e) f0 f1 f3 f4 f5
   obtain ⟨o,e,c,d⟩:=id st'
   refine ⟨_,rfl,Ml (s:={ s with heap:=h',toks:=s.toks+1 }) e c d (by rcases hty with rfl | rfl <;> decide) ⟨.str ⟨#[z.cps[i]]⟩,H,I1,⟨_,rfl⟩,⟨rfl,_,hx,rfl⟩,st',fun b hb=>(hf b hb).1⟩⟩
  rcases hty with rfl | rfl
  ·exact wpAny_pyNext_ascii_item st hx fin
  ·exact wpAny_pyNext_wide_item st hx fin
 done:=by
  intro X hP hw hK hc i pins s σ H E I hf st hg
  subst hP hw hK
  obtain ⟨f0,f1,f2,f3,f4,f5⟩:=hf it (by simp)
  have hx:z.cps[i]? = none:=by
   have hg':z.cps.size<=i:=hg
   simpa using hg'
  rcases hty with rfl | rfl
  ·exact wpAny_pyNext_ascii_end (I.ok.hd hc) st hx fun h' eb=>⟨rfl,I.turned (t':=s.toks) (fun b o hb e=>eb b o hb e) f0 f1 f3 f4 f5⟩
  ·exact wpAny_pyNext_wide_end (I.ok.hd hc) st hx fun h' eb=>⟨rfl,I.turned (t':=s.toks) (fun b o hb e=>eb b o hb e) f0 f1 f3 f4 f5⟩
 self:=fun A i s Q E st h=>by
  rcases hty with rfl | rfl
  ·exact wpAny_pyIter_striter_ascii st h
  ·exact wpAny_pyIter_striter_wide st h
end
section
variable {X:Cx} {tg:Expr}
noncomputable def lD (tl:TE):TI:=fun σ H R=>tl σ H fun x H1=>∃ z,x=.str z/\R (eX z) H1
theorem Ro {l:Expr} {tl:TE} (hl:PE X l tl):PI X tg l (lD tl):=by
 intro pins s σ H R I h
 refine Bx (hl pins s σ H _ I h) fun v s1 hq0=>?_
 obtain ⟨x,H1,I1,r1,q1⟩:=hq0
 obtain ⟨z,e,q⟩:=q1
 subst e
 obtain ⟨t,rfl⟩:=r1
 have fin:∀ ty,(ty = "str_ascii_iterator" \/ ty = "str_iterator")->PIE X pins σ tg R (.ref s1.heap.objs.size) { s1 with heap:=s1.heap.push { cls:=.type ty,data:=.fields #[.str z t,.int 0 0] } }:=fun ty hty=>by
  refine ⟨s1.heap.objs.size,[s1.heap.objs.size],_,_,H1,rfl,I1.kept (t':=s1.toks) fun b o e=>Heap.get?_push_of_some _ e,Tz (z:=z) (t0:=t) hty,⟨_,Heap.get?_push_size _ rfl,rfl,rfl⟩,fun b hb=>?_,q⟩
  have e:b=s1.heap.objs.size:=by simpa using hb
  subst e
  exact I1.Lf (Nat.le_refl _) (I1.hok.fresh (Nat.le_refl _))
 cases ha:z.cps.all (· < 128)
 ·exact wpAny_pyIter_wide ha (fin _ (.inr rfl))
 ·exact wpAny_pyIter_ascii ha (fin _ (.inl rfl))
end
section
variable {σ:St} {H1:Hp} {Q:VK} {tt:TT} {te:TE}
noncomputable def sgn (c:Nat):V:=.str ⟨#[c]⟩
theorem MN {z:Str} (p:Nat->Bool) (f:Nat->V) (hz:z.length<sizeLine)
  (ht:∀ c∈z.cps.toList,∀ H,Ak H1 H->∀ R:Bool->Hp->Prop,(∀ H',Ak H H'->R (p c) H')->tt (some (sgn c)::σ) H R)
  (he:∀ c∈z.cps.toList,p c=true->∀ H,Ak H1 H->∀ R:VK,(∀ H',Ak H H'->R (f c) H')->te (some (sgn c)::σ) H R)
  (hq:∀ D H,H1 D=none->Ak H1 H->H D=some (.lst ((z.cps.toList.filter p).map f))->Q (.ref D) H):GF (eX z) σ H1 Q tt te:=by
 let g:V->Nat:=fun v=>match v with | .str y=>y.cps.getD 0 0 | _=>0
 refine Gf (xs:=z.cps.toList.map sgn) (fun v=>p (g v)) (fun v=>f (g v)) (by simpa [Str.length] using hz) (fun i H x _ hx=>?_) (fun i H y H' _ hi hy=>?_) (fun H _=>?_) (fun x hx=>?_) (fun x hx=>?_) (fun D H h1 h2 h3=>?_)
 ·have:i<(z.cps.toList.map sgn).length:=(List.getElem?_eq_some_iff.mp hx).1
  show i<z.cps.size
  simpa using this
 ·obtain ⟨e1,c,hc,rfl⟩:=hy
  refine ⟨e1,?_⟩
  rw [List.getElem?_map,Array.getElem?_toList,hc]; rfl
 ·show z.cps.size<=_
  simp
 ·obtain ⟨c,hc,rfl⟩:=List.mem_map.mp hx
  exact ht c hc
 ·obtain ⟨c,hc,rfl⟩:=List.mem_map.mp hx
  exact he c hc
 ·refine hq D H h1 h2 ?_
  rw [h3,List.filter_map,List.map_map]
  rfl
end
section
variable {X:Cx}
theorem range_all (bs:List Bool):((List.range bs.length).all fun i=>(bs[i]?).getD true)=bs.all id:=by
 rw [Bool.eq_iff_iff,List.all_eq_true,List.all_eq_true]
 constructor
 ·intro h b hb
  obtain ⟨i,hi,e⟩:=List.mem_iff_getElem.mp hb
  have:=h i (List.mem_range.mpr hi)
  rw [List.getElem?_eq_getElem hi,e] at this
  exact this
 ·intro h i hi
  have hi':=List.mem_range.mp hi
  rw [List.getElem?_eq_getElem hi']
  exact h _ (List.getElem_mem hi')
theorem Gg (hc:X.calm=true):Eg X (.builtin "all") (fun xs H Q=>∃ (p:Addr) (bs:List Bool),xs=[V.ref p]/\Cw X.K H p (bs.map V.bl)/\Q (.bl (bs.all id)) H):=by
 intro pins s σ H xs us Q I r h
 obtain ⟨p,bs,rfl,hp,q⟩:=h
 obtain ⟨u,rfl,ru⟩:=vals1 r
 cases ru
 obtain ⟨its,rv,pl,hz⟩:=I.list hp
 have hlen:bs.length=its.length:=by have:=rv.length; rw [List.length_map] at this; exact this
 have hlt:p<s.heap.objs.size:=by obtain ⟨_,e,_⟩:=pl.isList; exact Heap.lt_size e
 refine call_all_walk (wpAny_pyIter_list pl.isList ?_)
 refine ⟨s.heap.objs.size,[s.heap.objs.size,p],[s.heap.objs.size],its.toArray.size,_,_,fun i=>(bs[i]?).getD true,rfl,Walks.list (A:=X.A.in1) (I.ok.hd hc) _ p (Nat.ne_of_lt hlt) its.toArray,
  ⟨⟨_,Heap.get?_push_size _ rfl,rfl,rfl⟩,pl.isList.push _⟩,fun i v s' Q' E' hP hQ=>?_,fun h' tk hk=>?_⟩
 ·have hP':its[i]? = some v:=by simpa using hP
  have hi:i<its.length:=(List.getElem?_eq_some_iff.mp hP').1
  have hb:bs[i]? = some bs[i]:=by simp [hlen,hi]
  obtain ⟨u,hu,ru⟩:=rv.get (i:=i) (x:=.bl bs[i]) (by rw [List.getElem?_map,hb]; rfl)
  rw [hP'] at hu
  cases hu
  cases ru
  dsimp only at hQ
  rw [hb] at hQ
  exact wpAny_truthy_bool hQ
 ·have e:((List.range its.toArray.size).all fun i=>(bs[i]?).getD true)=bs.all id:=by rw [List.size_toArray,← hlen]; exact range_all bs
  rw [e]
  refine ⟨.bl (bs.all id),H,I.kept (t':=tk) fun b o eb=>hk b o (fun hm=>?_) (Heap.get?_push_of_some _ eb),rfl,q⟩
  rw [List.mem_singleton.mp hm] at eb
  exact Nat.lt_irrefl _ (Heap.lt_size eb)
theorem DP:Eg X (.builtin "isinstance") (fun xs H Q=>∃ x T t b,xs=[x,V.ty T]/\IW X.K H x t/\PySem.W.kitOne X.K t (.type T)=some b/\Q (.bl b) H):=by
 intro pins s σ H xs us Q I r h
 obtain ⟨x,T,t,b,rfl,ty,e,q⟩:=h
 obtain ⟨u,v,rfl,ru,rv⟩:=Vals.two r
 cases rv
 exact RK I ru ty e fun tk=>⟨.bl b,H,I.tok _,rfl,q⟩
theorem S5:aR X (fun x lo hi H Q=>∃ z,x=.str z/\z.length<=sizeLine/\Q (.str (Txt.slice z lo hi)) H):=by
 intro pins s σ H x v vl vu lo hi sl Q I rx hs pl pu h
 obtain ⟨z,rfl,hz,q⟩:=h
 obtain ⟨t,rfl⟩:=rx
 refine ⟨"str",_,F.slot_str_getitem.lookup,typeIs_str _ _ _,?_⟩
 have fin:∀ t' k,EP X pins σ Q (.str (Txt.slice z lo hi) t') { s with toks:=k }:=fun t' k=>⟨.str _,H,I.tok _,⟨_,rfl⟩,q⟩
 cases pl with
 | none =>
  cases pu with
  | none=>exact wpAny_getItem_str_slice (l:=none) (u:=none) (st:=none) hs rfl (post_val_or_str ⟨Nat.le_trans (Txt.slice_le z _ _) hz,fin⟩)
  | int j uj=>exact wpAny_getItem_str_slice (l:=none) (u:=some (j,uj)) (st:=none) hs rfl (post_val_or_str ⟨Nat.le_trans (Txt.slice_le z _ _) hz,fin⟩)
 | int i ui =>
  cases pu with
  | none=>exact wpAny_getItem_str_slice (l:=some (i,ui)) (u:=none) (st:=none) hs rfl (post_val_or_str ⟨Nat.le_trans (Txt.slice_le z _ _) hz,fin⟩)
  | int j uj=>exact wpAny_getItem_str_slice (l:=some (i,ui)) (u:=some (j,uj)) (st:=none) hs rfl (post_val_or_str ⟨Nat.le_trans (Txt.slice_le z _ _) hz,fin⟩)
theorem GK:HJ X (binaryOp .Mult) (fun x y H Q=>∃ z n,x=.str z/\y=.int n/\MulOk z n/\Q (.str (Txt.mul z n)) H):=by
 intro pins s σ H x y v u Q I rx ry h
 obtain ⟨z,n,rfl,rfl,hok,q⟩:=h
 obtain ⟨t,rfl⟩:=rx
 obtain ⟨t',rfl⟩:=ry
 exact SB.mul hok fun t' k=>⟨.str _,H,I.tok _,⟨_,rfl⟩,q⟩
end
noncomputable def QJ (x:Str) (scope osc:Scope) (N:List Str):Bool :=
 (scope.kind == .function) && scope.names.all (fun y=>y.2 != .cell) && scope.names.all (fun y=>y.2 != .local || scope.names.lookup y.1 == some .local) && (scope.names.lookup x == some .local) &&
 scope.names.all (fun y=>y.2 != .free || osc.names.lookup y.1 == some .cell || osc.names.lookup y.1 == some .free) && decide ((x::HS x N).Nodup) && (HS x N).all (fun y=>scope.names.lookup y != some .local) && (scope.names.lookup ("" : Str) == none)
theorem Ba {X:Cx} {x:Str} {scope osc:Scope} {N:List Str} (hsc:X.env.scope=osc) (hN:X.N=N) (h:QJ x scope osc N=true):Fo X x scope:=by
 unfold QJ at h
 simp only [Bool.and_eq_true] at h
 obtain ⟨⟨⟨⟨⟨⟨⟨h1,h2⟩,h3⟩,h4⟩,h5⟩,h6⟩,h7⟩,h8⟩:=h
 rw [List.all_eq_true] at h2 h3 h5 h7
 have kd:∀ y,X.env.kindOf y=osc.names.lookup y:=fun y=>by rw [← hsc]; rfl
 refine ⟨by simpa using h1,fun y hy=>by simpa using h2 y hy,fun y hy e=>?_,by simpa using h4,fun y hy e=>?_,by rw [hN]; exact of_decide_eq_true h6,fun y hy=>?_,by simpa using h8⟩
 ·have:=h3 y hy
  rw [e] at this
  simpa using this
 ·have:=h5 y hy
  rw [e] at this
  rw [kd]
  simpa using this
 ·rw [hN] at hy
  simpa using h7 y hy
end L2
namespace L2
open PySem PySem.Spec PyProof.Rows
section
variable {X:Cx} {pins:List (Addr × Obj)} {σ:St} {H:Hp} {s:Shared} {h':Heap}
theorem Inv.Mu {ch:List Addr} {a:Addr} {o:HO} {t':Nat} (I:Inv X pins σ H s) (hf:∀ b∈ch,Fy X pins H b) (k:∀ b u,b ∉ ch->s.heap.get? b=some u->h'.get? b=some u) (hp:s.heap.objs.size<=a)
  (new:Bv X.prog X.w (upd H a o) h' a o):Inv X pins σ (upd H a o) { s with heap:=h',toks:=t' }:=by
 have hn:H a=none:=I.hok.fresh hp
 have up:∀ b u,H b=some u->upd H a o b=some u:=fun b u e=>by rw [Al (Ah e hn)]; exact e
 refine I.step (g':=s.gens) (d':=s.drawn) (ch:=ch) (fun b hb=>?_) (fun b u _ _ hc e _=>k b u hc e) (fun b u _ _ hc e _=>⟨u.slots,k b u hc e⟩) (fun b u _ e n=>?_)
  (fun b u hc e=>⟨u,k b u hc e⟩) (fun b xs e=>up _ _ e) (fun b u x e=>up _ _ e) (fun b ps e=>⟨#[],by rw [up _ _ e]; simp⟩) (fun m hm=>?_) (fun b u e=>?_) I.bare
 ·obtain ⟨f0,f1,f2,f3,f4,f5⟩:=hf b hb
  exact ⟨f3,f1,f4,f5⟩
 ·rw [Al (Nat.ne_of_lt (Nat.lt_of_lt_of_le (Heap.lt_size e) hp))]
  exact n
 ·obtain ⟨u,es,ep,ho,r⟩:=hm
  exact ⟨u,es,ep,k _ u (fun z=>(hf _ z).2.1 rfl) ho,r⟩
 ·by_cases hb:b=a
  ·subst hb
   rw [Ag] at e
   cases e
   exact new
  ·rw [Al hb] at e
   refine (I.hok b u e).stay (fun c v hc q=>k c v (fun z=>?_) q) (fun _ q=>up _ _ q) fun _ _ q=>up _ _ q
   have z1:=(hf c z).1
   rcases hc with hc | hc
   ·rw [hc,e] at z1
    cases z1
   ·rw [hc] at z1
    cases z1
theorem Inv.QC {ch:List Addr} {t':Nat} (I:Inv X pins σ H s) (hf:∀ b∈ch,Fy X pins H b) (k:∀ b u,b ∉ ch->s.heap.get? b=some u->h'.get? b=some u):Inv X pins σ H { s with heap:=h',toks:=t' }:=by
 refine I.step (g':=s.gens) (d':=s.drawn) (ch:=ch) (fun b hb=>?_) (fun b u _ _ hc e _=>k b u hc e) (fun b u _ _ hc e _=>⟨u.slots,k b u hc e⟩) (fun b u _ e n=>n)
  (fun b u hc e=>⟨u,k b u hc e⟩) (fun b xs e=>e) (fun b u x e=>e) (fun b ps e=>⟨#[],by rw [e]; simp⟩) (fun m hm=>?_) (fun b u e=>?_) I.bare
 ·obtain ⟨f0,f1,f2,f3,f4,f5⟩:=hf b hb
  exact ⟨f3,f1,f4,f5⟩
 ·obtain ⟨u,es,ep,ho,r⟩:=hm
  exact ⟨u,es,ep,k _ u (fun z=>(hf _ z).2.1 rfl) ho,r⟩
 ·refine (I.hok b u e).stay (fun c v hc q=>k c v (fun z=>?_) q) (fun _ q=>q) fun _ _ q=>q
  have z1:=(hf c z).1
  rcases hc with hc | hc
  ·rw [hc,e] at z1
   cases z1
  ·rw [hc] at z1
   cases z1
end
noncomputable def ZZ (K:PySem.W.Frag) (a:Addr):It :=
 ⟨fun i H=>∃ xs x,Cw K H a xs/\xs[i]? = some x,fun i H v H'=>∃ T,H T=none/\v=.ref T/\∀ xs,Cw K H a xs->∃ x,xs[i]? = some x/\H'=upd H T (.tup [.int (i:Int),x]),fun i H=>∃ xs,Cw K H a xs/\xs.length<=i⟩
noncomputable def gP (K:PySem.W.Frag) (a b:Addr):It :=
 ⟨fun i H=>∃ xs ys x y,Ft K H a xs/\Ft K H b ys/\xs[i]? = some x/\ys[i]? = some y,fun i H v H'=>∃ T,H T=none/\v=.ref T/\∀ xs ys,Ft K H a xs->Ft K H b ys->∃ x y,xs[i]? = some x/\ys[i]? = some y/\H'=upd H T (.tup [x,y]),
  fun i H=>∃ xs,Ft K H a xs/\xs.length<=i⟩
theorem RP {P:Program} {w:World} {K:PySem.W.Frag} {es:List Expr} {k1:Nat} {pos:Pos} (a e it:Addr) (hne:e ≠ it) :
  Turn P w K (.Tuple es k1 pos) (ZZ K a) [e,it] e (fun i h=>(∃ old,IsEnum h e it i old)/\h.IsListIter it a i) where
 mem:=by simp
 obj:=fun i h st b hb=>by
  obtain ⟨⟨old,he⟩,o,ho,c,d⟩:=st
  rcases List.mem_cons.mp hb with rfl | hb
  ·exact ⟨_,he,fun v z=>by
    have z':Data.fields _=Data.cell v:=z
    cases z'⟩
  ·have q:b=it:=by simpa using hb
   subst q
   exact ⟨o,ho,fun v z=>by rw [d] at z; cases z⟩
 keep:=fun i h h' st k=>by
  obtain ⟨⟨old,he⟩,hi⟩:=st
  exact ⟨⟨old,k e (by simp) _ he⟩,hi.at fun o q=>k it (by simp) o q⟩
 item:=by
  intro X hP hw hK hc i pins s σ H E I hf st hg
  subst hP hw hK
  obtain ⟨xs,x,hq,hx⟩:=hg
  obtain ⟨its,rv,p,hz⟩:=I.list hq
  obtain ⟨u,hu,ru⟩:=rv.get hx
  obtain ⟨⟨old,he⟩,hi⟩:=st
  refine wpAny_pyNext_enum_item he hi p.isList (x:=u) (by simpa using hu) hne fun h1 n1 n2 n3 n4 n5=>?_
  refine ⟨_,rfl,wpAny_letOwnedTupleGo_enum (s:={ s with heap:=h1,toks:=s.toks+1 }) n1 fun h2 m1 m2=>?_⟩
  have hT:s.heap.objs.size ≠ e:=Nat.ne_of_gt (Heap.lt_size he)
  have hI:s.heap.objs.size ≠ it:=by obtain ⟨_,q,_⟩:=hi; exact Nat.ne_of_gt (Heap.lt_size q)
  have fr:H s.heap.objs.size=none:=I.hok.fresh (Nat.le_refl _)
  have nw:Bv X.prog X.w (upd H s.heap.objs.size (.tup [.int (i:Int),x])) h2 s.heap.objs.size (.tup [.int (i:Int),x]) :=
   ⟨by show 2<=sizeLine; decide,[.int i s.toks,u],.cons ⟨_,rfl⟩ (.cons ru .nil),_,m2.extBut _ _ hT n3,rfl,_,rfl⟩
  refine ⟨.ref s.heap.objs.size,_,I.Mu (t':=s.toks+1) (ch:=[e,it]) hf (fun b o hb q=>?_) (Nat.le_refl _) nw,rfl,⟨_,fr,rfl,fun ys hy=>⟨x,by rw [I.Ms hy hq]; exact hx,rfl⟩⟩,⟨⟨u,?_⟩,n2.at fun o q=>m2.extBut _ _ (Ne.symm hne) q⟩,fun b hb=>?_⟩
  ·exact m2.extBut _ _ (fun z=>hb (by simp [z])) (n5 b o (fun z=>hb (by simp [z])) (fun z=>hb (by simp [z])) q)
  ·have e1:((i:Int)+1)=((i+1:Nat):Int):=by omega
   rw [← e1]
   exact m1
  ·have hb':=hb
   rcases List.mem_cons.mp hb with rfl | hb
   ·rw [Al (Ne.symm hT)]
    exact (hf _ hb').1
   ·have q:b=it:=by simpa using hb
    subst q
    rw [Al (Ne.symm hI)]
    exact (hf _ hb').1
 done:=by
  intro X hP hw hK hc i pins s σ H E I hf st hg
  subst hP hw hK
  obtain ⟨xs,hq,hx⟩:=hg
  obtain ⟨its,rv,p,hz⟩:=I.list hq
  obtain ⟨⟨old,he⟩,hi⟩:=st
  have hl:=rv.length
  exact wpAny_pyNext_enum_end (I.ok.hd hc) he hi p.isList (by simp; omega) fun h1 eb=>⟨rfl,I.QC (t':=s.toks) (ch:=[e,it]) hf fun b o hb q=>eb b o (fun z=>hb (by simp [z])) q⟩
 self:=fun _ _ _ _ _ st h=>by
  obtain ⟨⟨old,he⟩,_⟩:=st
  exact wpAny_pyIter_enum he h
theorem Rp {n a b:Nat} (ha:a<n) (hb:b<n):ZipApart (n+4) (n+2) (n+3) n (n+1) a b:=by
 constructor <;> (refine (show @Ne Nat _ _ from ?_); omega)
theorem Xf {n b:Nat} {P:Nat->Prop} (h0:P n) (h1:P (n+1)) (h2:P (n+2)) (h3:P (n+3)) (h4:P (n+4)) (hb:b∈[n,n+1,n+2,n+3,n+4]):P b:=by
 simp at hb
 rcases hb with rfl | rfl | rfl | rfl | rfl <;> assumption
theorem Qf {P:Program} {w:World} {K:PySem.W.Frag} {es:List Expr} {k1:Nat} {pos:Pos} (a b n:Nat) (ha:a<n) (hb:b<n) :
  Turn P w K (.Tuple es k1 pos) (gP K a b) [n,n+1,n+2,n+3,n+4] (n+4) (fun i h=>IsZip h (n+4) (n+2) (n+3) .none/\IsPair h (n+2) (.ref n) (.ref (n+1))/\(∃ x y,IsPair h (n+3) x y)/\h.IsTupleIter n a i/\h.IsTupleIter (n+1) b i) where
 mem:=by simp
 obj:=fun i h st c hc=>by
  obtain ⟨hz,hI,⟨x,y,hO⟩,⟨o1,e1,_,d1⟩,⟨o2,e2,_,d2⟩⟩:=st
  refine Xf (P:=fun c=>∃ o,h.get? c=some o/\∀ v,o.data ≠ .cell v) ⟨_,e1,fun v z=>?_⟩ ⟨_,e2,fun v z=>?_⟩ ⟨_,hI,fun v z=>?_⟩ ⟨_,hO,fun v z=>?_⟩ ⟨_,hz,fun v z=>?_⟩ hc
  ·rw [d1] at z; cases z
  ·rw [d2] at z; cases z
  ·have z':Data.seq _ _=Data.cell v:=z
   cases z'
  ·have z':Data.seq _ _=Data.cell v:=z
   cases z'
  ·have z':Data.fields _=Data.cell v:=z
   cases z'
 keep:=fun i h h' st k=>by
  obtain ⟨hz,hI,⟨x,y,hO⟩,j1,j2⟩:=st
  exact ⟨k _ (by simp) _ hz,k _ (by simp) _ hI,⟨x,y,k _ (by simp) _ hO⟩,j1.at fun o q=>k _ (by simp) o q,j2.at fun o q=>k _ (by simp) o q⟩
 item:=by
  intro X hP hw hK hc i pins s σ H E I hf st hg
  subst hP hw hK
  obtain ⟨xs,ys,x,y,q1,q2,hx,hy⟩:=hg
  obtain ⟨it1,r1,p1,_⟩:=I.tuple q1
  obtain ⟨it2,r2,p2,_⟩:=I.tuple q2
  obtain ⟨u,hu,ru⟩:=r1.get hx
  obtain ⟨v,hv,rv⟩:=r2.get hy
  obtain ⟨hz,hI,⟨x0,y0,hO⟩,j1,j2⟩:=st
  have D:=Rp ha hb
  have hT:s.TypeIs (.ref (n+4)) "zip":=⟨_,hz,rfl⟩
  have sz:n+4<s.heap.objs.size:=Heap.lt_size hz
  unfold pyNext
  refine wpAny_bind (wpAny_attempt (wpAny_callSpecial?_slot (name:=Str.ofString "__next__") hT F.slot_zip_next (wpAny_call_entry F.slot_zip_next hT F.entry_zip_next
   (Q_ D hz hI hO j1 j2 (show s.heap.IsTuple a it1.toArray from p1) (show s.heap.IsTuple b it2.toArray from p2) (x:=u) (y:=v) (by simpa using hu) (by simpa using hv) fun h1 n1 n2 n3 n4 n5 n6 n7=>wpAny_pure ?_) (F.args_zip_next_1 _))))
  refine ⟨_,rfl,wpAny_letOwnedTupleGo_zip (s:={ s with heap:=h1 }) n1 fun h2 m1 m2=>?_⟩
  have fr:H s.heap.objs.size=none:=I.hok.fresh (Nat.le_refl _)
  have nw:Bv X.prog X.w (upd H s.heap.objs.size (.tup [x,y])) h2 s.heap.objs.size (.tup [x,y]) :=
   ⟨by show 2<=sizeLine; decide,[u,v],.cons ru (.cons rv .nil),_,m2.extBut _ _ (Nat.ne_of_gt sz) n5,rfl,_,rfl⟩
  have hI2:IsPair h1 (n+2) (.ref n) (.ref (n+1)):=n7 _ _ D.TIz D.TITO D.TIi1 D.TIi2 hI
  refine ⟨.ref s.heap.objs.size,_,I.Mu (t':=s.toks) (ch:=[n,n+1,n+2,n+3,n+4]) hf (fun c o hc q=>?_) (Nat.le_refl _) nw,rfl,⟨_,fr,rfl,fun xs' ys' h1 h2=>⟨x,y,by rw [I.Ir h1 q1]; exact hx,by rw [I.Ir h2 q2]; exact hy,rfl⟩⟩,
   ⟨m1,m2.extBut _ _ D.TIz hI2,⟨u,v,m2.extBut _ _ D.TOz n2⟩,n3.at fun o q=>m2.extBut _ _ D.i1z q,n4.at fun o q=>m2.extBut _ _ D.i2z q⟩,fun c hc=>?_⟩
  ·have z:∀ d,d∈[n,n+1,n+2,n+3,n+4]->c ≠ d:=fun d hd q=>hc (q ▸ hd)
   exact m2.extBut _ _ (z _ (by simp)) (n7 c o (z _ (by simp)) (z _ (by simp)) (z _ (by simp)) (z _ (by simp)) q)
  ·rw [Al ?_]
   ·exact (hf c hc).1
   ·have lt:c<=n+4:=Xf (P:=fun c=>c<=n+4) (by omega) (by omega) (by omega) (by omega) (Nat.le_refl _) hc
    exact Nat.ne_of_lt (Nat.lt_of_le_of_lt lt sz)
 done:=by
  intro X hP hw hK hc i pins s σ H E I hf st hg
  subst hP hw hK
  obtain ⟨xs,q1,hx⟩:=hg
  obtain ⟨it1,r1,p1,_⟩:=I.tuple q1
  obtain ⟨hz,hI,⟨x0,y0,hO⟩,j1,j2⟩:=st
  have D:=Rp ha hb
  have hT:s.TypeIs (.ref (n+4)) "zip":=⟨_,hz,rfl⟩
  have hl:=r1.length
  unfold pyNext
  refine wpAny_bind (wpAny_attempt (wpAny_callSpecial?_slot (name:=Str.ofString "__next__") hT F.slot_zip_next (wpAny_call_entry F.slot_zip_next hT F.entry_zip_next
   (Rw (I.ok.hd hc) D hz hI hO j1 (show s.heap.IsTuple a it1.toArray from p1) (by simp; omega) fun h1 x k1 hx1=>?_) (F.args_zip_next_1 _))))
  obtain ⟨o,ho,hco⟩:=hx1
  refine wpAny_bind (wpAny_isInstance (T:="StopIteration") (b:=true) ⟨o,ho,hco⟩ isSubtype_stop (wpAny_pure ?_))
  refine ⟨rfl,I.QC (t':=s.toks) (ch:=[n,n+1,n+2,n+3,n+4]) hf fun c o hc q=>?_⟩
  have z:∀ d,d∈[n,n+1,n+2,n+3,n+4]->c ≠ d:=fun d hd q=>hc (q ▸ hd)
  exact k1 c o (z _ (by simp)) (z _ (by simp)) (z _ (by simp)) (z _ (by simp)) q
 self:=fun _ _ _ _ _ st h=>wpAny_pyIter_zip st.1 h
section
variable {X:Cx} {es:List Expr} {k1:Nat} {tpos:Pos}
noncomputable def bf (K:PySem.W.Frag) (ta:TA):TI:=fun σ H R=>ta σ H fun vs H1=>∃ a,vs=[.ref a]/\(∃ xs,Cw K H1 a xs)/\R (ZZ K a) H1
noncomputable def gQ (K:PySem.W.Frag) (ta:TA):TI:=fun σ H R=>ta σ H fun vs H1=>∃ a b,vs=[.ref a,.ref b]/\(∃ xs,Ft K H1 a xs)/\(∃ ys,Ft K H1 b ys)/\R (gP K a b) H1
theorem LC {l:Expr} {ta:TA} {p pos:Pos} (hg:Gl X "enumerate") (hm:X.mg "enumerate" = none) (ha:PA X [l] ta) (hs:starEach [l] X.env=[(false,eval l X.env)]:=by rfl) :
  PI X (.Tuple es k1 tpos) (.Call (.Name "enumerate" p) [l] [] pos) (bf X.K ta):=by
 intro pins s σ H R I h
 refine Call_ (HY I hg hm boot_enumerate (PyProof.Rows.callWith_type1 (Bx (ha pos pins s σ H _ I h) fun us s1 ⟨vs,H1,I1,r1,q1⟩=>?_) hs rfl))
 obtain ⟨a,e,⟨xs,hq⟩,q⟩:=q1
 subst e
 obtain ⟨u,rfl,ru⟩:=vals1 r1
 cases ru
 obtain ⟨its,rv,pl,hz⟩:=I1.list hq
 refine call_enumerate_list pl.isList fun h1 n1 n2 n3 n4=>?_
 refine wpAny_pyIter_enum (s:={ s1 with heap:=h1 }) n1 ?_
 refine ⟨_,[s1.heap.objs.size+1,s1.heap.objs.size],_,_,H1,rfl,I1.kept (t':=s1.toks) n4,RP a _ _ (Nat.succ_ne_self _),⟨⟨_,n1⟩,n2⟩,fun b hb=>?_,q⟩
 have lt:s1.heap.objs.size<=b:=by
  rcases List.mem_cons.mp hb with rfl | hb
  ·exact Nat.le_succ _
  ·exact Nat.le_of_eq ((List.mem_singleton.mp hb).symm)
 exact I1.Lf lt (I1.hok.fresh lt)
theorem Vb {x y:Expr} {ta:TA} {p pos:Pos} (hg:Gl X "zip") (hm:X.mg "zip" = none) (ha:PA X [x,y] ta) (hs:starEach [x,y] X.env=[(false,eval x X.env),(false,eval y X.env)]:=by rfl) (hs2:starEach [y] X.env=[(false,eval y X.env)]:=by rfl) :
  PI X (.Tuple es k1 tpos) (.Call (.Name "zip" p) [x,y] [] pos) (gQ X.K ta):=by
 intro pins s σ H R I h
 refine Call_ (HY I hg hm boot_zip (PyProof.Rows.callWith_type1 (Bx (ha pos pins s σ H _ I h) fun us s1 ⟨vs,H1,I1,r1,q1⟩=>?_) (by rw [hs,hs2]) (by rw [hs2]; rfl)))
 obtain ⟨a,b,e,⟨xs,q1⟩,⟨ys,q2⟩,q⟩:=q1
 subst e
 obtain ⟨u,v,rfl,ru,rv⟩:=Vals.two r1
 cases ru
 cases rv
 obtain ⟨it1,r1,p1,_⟩:=I1.tuple q1
 obtain ⟨it2,r2,p2,_⟩:=I1.tuple q2
 refine RT (show s1.heap.IsTuple a it1.toArray from p1) (show s1.heap.IsTuple b it2.toArray from p2) fun h1 n hn n1 n2 n3 n4 n5 n6 n7=>?_
 refine wpAny_pyIter_zip (s:={ s1 with heap:=h1 }) n1 ?_
 have la:a<n:=by rw [hn]; exact p1.lt
 have lb:b<n:=by rw [hn]; exact p2.lt
 refine ⟨_,[n,n+1,n+2,n+3,n+4],_,_,H1,rfl,I1.kept (t':=s1.toks) n7,Qf a b n la lb,⟨n1,n2,⟨_,_,n3⟩,n4,n5⟩,fun c hc=>?_,q⟩
 have lt:s1.heap.objs.size<=c:=by
  rw [← hn]
  exact Xf (P:=fun c=>n<=c) (by omega) (by omega) (by omega) (by omega) (by omega) hc
 exact I1.Lf lt (I1.hok.fresh lt)
end
end L2
namespace L2
open PySem PySem.Spec PyProof.Rows
theorem WN {prog:Program} {w:World} {A:Around} {R:Result->Shared->Prop} {s:Shared} {elt tg iter:Expr} {ifs:List Expr} {scope:Scope} {pos:Pos} {it acc:Value} {env:Env} (J:Nat->Shared->Prop) {E:Value->Shared->Prop} (hE:E=notedBy (model prog w) A env fun e s'=>R (.error e) s')
  (turn:∀ n s,J n s->wpAny (model prog w) A (pyNext it) (fun r s1=>match r with
   | none=>R (.ok .next) s1
   | some v=>wpAny (model prog w) A (letOwnedTupleGo tg it v) (fun _ s2=>wpAny (model prog w) A (assign tg env v) (fun _ s3 =>
     wpAny (model prog w) A (forIn ifs true fun c r=>if r=true then do let ok ← isTrue c env (eval c env); pure (ForInStep.yield ok) else pure (ForInStep.yield r)) (fun ok s4 =>
      if ok=true then wpAny (model prog w) A (eval elt env) (fun x s5=>wpAny (model prog w) A (call (.builtin "list.append") [acc,x]) (fun _ s6=>∃ m,m<n/\J m s6) E s5) E s4
      else ∃ m,m<n/\J m s4) E s3) E s2) E s1) E s) (n:Nat) (h:J n s) :
  codeAny (model prog w) A (.compLoop (.ListComp elt [⟨tg,iter,ifs,0⟩] scope pos) 0 it acc env) R s:=by
 subst hE
 refine codeAny_loop rfl J (fun n s hJ=>(show wpAny _ A ((compTurn (.ListComp elt [⟨tg,iter,ifs,0⟩] scope pos) 0 it acc env).onRaise (fun x=>do noteFrame x env; theTreesLotGoes x)) _ _ s from wpAny_noted ?_)) n h
 rw [compTurn_list]
 refine wpAny_bind (wpAny_standAt (wpAny_bind (wpAny_mono (turn n s hJ) (fun r s1 h1=>?_) fun _ _ q=>q)))
 cases r with
 | none=>exact wpAny_pure h1
 | some v =>
  refine wpAny_bind (wpAny_mono h1 (fun _ s2 h2=>wpAny_bind (wpAny_mono h2 (fun _ s3 h3=>wpAny_bind (wpAny_mono h3 (fun ok s4 h4=>?_) fun _ _ q=>q)) fun _ _ q=>q)) fun _ _ q=>q)
  cases ok with
  | false=>exact wpAny_pure ⟨rfl,h4⟩
  | true=>exact wpAny_bind (wpAny_bind (wpAny_mono h4 (fun x s5 h5=>wpAny_bind (wpAny_mono h5 (fun _ s6 h6=>wpAny_pure (wpAny_pure ⟨rfl,h6⟩)) fun _ _ q=>q)) fun _ _ q=>q))
noncomputable def Bc (X:Cx) (x z:Str) (scope:Scope) (C:Addr) (s₀:Shared) (H₀:Hp) (fp:List Addr):Cx where
 prog:=X.prog
 w:=X.w
 K:=X.K
 mg:=X.mg
 base:=X.base
 A:=X.A
 N:=x::z::X.N
 s₀:=s₀
 H₀:=H₀
 env:=compEnvC scope (C_ X.env scope.names []) C X.env
 outer:=X.stack
 stack:=X.stack
 ex:=fp
 fn:=fun _=>false
 calm:=X.calm
 pn:=[]
 xe:=fun _ _=>False
structure D_ (X:Cx) (x z:Str) (scope:Scope):Prop where
 kind:scope.kind=.function
 nocell:∀ y∈scope.names,y.2 ≠ .cell
 names:∀ y∈scope.names,y.2=.local->scope.names.lookup y.1=some .local
 loc:scope.names.lookup x=some .local
 loz:scope.names.lookup z=some .local
 free:∀ y∈scope.names,y.2=.free->X.env.kindOf y.1=some .cell \/ X.env.kindOf y.1=some .free
 nd:(x::z::X.N).Nodup
 only:∀ y∈X.N,scope.names.lookup y ≠ some .local
section
variable {X:Cx} {pins:List (Addr × Obj)} {σ:St} {H:Hp} {s:Shared} {x z:Str} {scope:Scope} {fp:List Addr} {C:Addr}
theorem M9 {h':Heap} {tk:Nat} {m:Str->Option Value} (I:Inv X pins σ H s) (S:D_ X x z scope) (hf:∀ b∈fp,Fy X pins H b) (hlt:∀ b∈fp,b<s.heap.objs.size) (hC:s.heap.objs.size<=C) (hn:h'.Ns C m)
  (hk:∀ b o,s.heap.get? b=some o->h'.get? b=some o):Inv (Bc X x z scope C s H fp) [] (none::none::σ) H { s with heap:=h',toks:=tk }:=by
 have cl:∀ y c,(C_ X.env scope.names []).lookup y=some c->X.env.cells.lookup y=some c:=fun y c e=>by
  rcases Fg X.env scope.names [] y c e with z | z
  ·cases z
  ·exact z
 have cellK:∀ c v,s.heap.IsCell c v->h'.IsCell c v:=fun c v ⟨o,ho,hd⟩=>⟨o,hk c o ho,hd⟩
 have look:∀ y,(Bc X x z scope C s H fp).env.scope.names.lookup y=(scope.names.lookup y).map fun k=>if (k == NameKind.free && X.env.scope.kind == .function && X.env.kindOf y == some .cell) then NameKind.cell else k:=fun y=>Eu X.env y scope.names
 refine ⟨⟨I.ok.mod,S.kind,I.ok.glob,I.ok.blt,hC,fun y z c e1 e2=>I.ok.inj y z c (cl y c e1) (cl z c e2),fun y hy=>?_,fun y c e _=>(by cases e),fun h=>I.ok.hd h,I.ok.frames,.inl rfl,fun b hb=>?_,I.bs,Nat.le_trans I.ok.bsz I.sz,fun b o e hb=>?_,fun b hb hb'=>?_,I.stack,I.G7⟩,
  rfl,I.bare,Un.kept hk,⟨m,hn,fun i y v h1 h2 h3=>?_⟩,fun y c e=>?_,I.hok.fresh hC,fun y c e=>I.freeC y c (cl y c e),fun p hp=>absurd (show p∈([]:List (Addr × Obj)) from hp) (by simp),I.hok.kept hk,?_⟩
 ·have hy':(Bc X x z scope C s H fp).env.scope.names.lookup y=some .cell \/ (Bc X x z scope C s H fp).env.scope.names.lookup y=some .free:=hy
  rw [look y] at hy'
  cases e:scope.names.lookup y with
  | none=>rw [e] at hy'; rcases hy' with z | z <;> cases z
  | some k =>
   have hm:=PySem.mem_of_lookup e
   have hfree:k=.free:=by
    rw [e] at hy'
    cases k with
    | free=>rfl
    | cell=>exact absurd rfl (S.nocell _ hm)
    | _=>rcases hy' with z | z <;> simp at z
   subst hfree
   obtain ⟨c,hc⟩:=I.ok.has y (S.free _ hm rfl)
   exact Option.isSome_iff_exists.mp (Ea X.env scope.names [] y hm (by rw [hc]; rfl))
 ·obtain ⟨f0,f1,f2,f3,f4,f5⟩:=hf b hb
  exact ⟨Nat.ne_of_lt (Nat.lt_of_lt_of_le (hlt b hb) hC),fun y c e=>f4 y c (cl y c e)⟩
 ·obtain ⟨f0,f1,f2,f3,f4,f5⟩:=hf b hb
  rcases f3 with z | z
  ·exact I.ok.noex b o e z
  ·exact absurd (Nat.lt_of_lt_of_le (Heap.lt_size e) (Nat.le_trans I.ok.bsz z)) (Nat.lt_irrefl _)
 ·obtain ⟨f0,f1,f2,f3,f4,f5⟩:=hf b hb
  rcases List.mem_cons.mp (I.La b hb') with e | e
  ·exact f1 e
  ·exact f2 e
 ·match i,h1,h2 with
  | 0,h1,h2 =>
   have h2':(some none:Option (Option V))=some (some v):=h2
   cases h2'
  | 1,h1,h2 =>
   have h2':(some none:Option (Option V))=some (some v):=h2
   cases h2'
  | i+2,h1,h2 =>
   have e0:X.N[i]? = some y:=h1
   have h2':σ[i]? = some (some v):=h2
   have hmem:y∈X.N:=List.mem_of_getElem? e0
   have h3':(Bc X x z scope C s H fp).env.scope.names.lookup y=some .local \/ (Bc X x z scope C s H fp).env.scope.names.lookup y=some .cell \/ (Bc X x z scope C s H fp).env.scope.names.lookup y=some .free:=h3
   rw [look y] at h3'
   cases e:scope.names.lookup y with
   | none=>rw [e] at h3'; rcases h3' with z | z | z <;> cases z
   | some k =>
    have hm:=PySem.mem_of_lookup e
    have hfree:k=.free:=by
     rw [e] at h3'
     cases k with
     | free=>rfl
     | cell=>exact absurd rfl (S.nocell _ hm)
     | «local»=>exact absurd e (S.only y hmem)
     | _=>rcases h3' with z | z | z <;> simp at z
    subst hfree
    have kd:=S.free _ hm rfl
    obtain ⟨m0,hn0,hl0⟩:=I.loc
    obtain ⟨u,r,l⟩:=hl0 i y v e0 h2' (by rcases kd with z | z; exact .inr (.inl z); exact .inr (.inr z))
    refine ⟨u,r,.inr ⟨?_,?_⟩⟩
    ·have hk':(Bc X x z scope C s H fp).env.scope.names.lookup y=some (if (NameKind.free == NameKind.free && X.env.scope.kind == .function && X.env.kindOf y == some .cell) then NameKind.cell else NameKind.free):=by
      rw [look y,e]; rfl
     by_cases c:(NameKind.free == NameKind.free && X.env.scope.kind == .function && X.env.kindOf y == some .cell)=true
     ·rw [if_pos c] at hk'; exact .inl hk'
     ·rw [if_neg c] at hk'; exact .inr hk'
    ·rcases l with ⟨lk,_⟩ | ⟨_,c,hc,hcell⟩
     ·exfalso
      rcases kd with z | z <;> (rw [show X.env.kindOf y=some NameKind.local from lk] at z; cases z)
     ·obtain ⟨c',hc'⟩:=Option.isSome_iff_exists.mp (Ea X.env scope.names [] y hm (by rw [hc]; rfl))
      have:=cl y c' hc'
      rw [hc] at this
      cases this
      exact ⟨c,hc',cellK c _ hcell⟩
 ·obtain ⟨v,z⟩:=I.cell y c (cl y c e)
  exact ⟨v,cellK c v z⟩
 ·show (none::none::σ).length=(x::z::X.N).length
  simp [I.len]
end
noncomputable def Le (J:It) (σ:St) (H1:Hp) (Q:VK) (g:TG) (tt:TT) (te:TE):Prop:=∀ D,H1 D=none->∃ W:Nat->Nat->List V->Hp->Prop,(∃ m,W 0 m [] (upd H1 D (.lst [])))/\∀ i m ys H2,W i m ys H2 ->
 (J.stop i H2/\Q (.ref D) H2) \/ (J.go i H2/\∀ x H3,J.yld i H2 x H3->∀ v0 v1,g x (v0::v1::σ) H3 fun σ' H3'=>(∃ w0 w1,σ'=w0::w1::σ)/\tt σ' H3' fun b H4 =>
  if b=true then te σ' H4 fun y H5=>H5 D=some (.lst ys)/\ys.length<sizeLine/\∃ m',m'<m/\W (i+1) m' (ys++[y]) (upd H5 D (.lst (ys++[y])))
  else ∃ m',m'<m/\W (i+1) m' ys H4)
noncomputable def TY (wi:TI) (g:TG) (tt:TT) (te:TE):TE:=fun σ H Q=>wi σ H fun J H1=>Le J σ H1 Q g tt te
section
variable {X:Cx} {x z:Str} {scope:Scope}
theorem Mr {tg:Expr} {pos:Pos} {iter elt:Expr} {ifs:List Expr} {g:TG} {tt:TT} {te:TE} {pins:List (Addr × Obj)} {σ:St} {s2:Shared} {H2:Hp} {it:Addr} {fp:List Addr} {tn:Nat->Heap->Prop} {J:It} {E:Value->Shared->Prop}
  {RR:Value->Addr->Result->Shared->Prop} {Q:VK}
  (hc:X.calm=true) (S:D_ X x z scope) (hg:∀ C s₀ H₀ fp,PG (Bc X x z scope C s₀ H₀ fp) tg g) (ht:∀ C s₀ H₀ fp,MT (Bc X x z scope C s₀ H₀ fp) ifs tt) (he:∀ C s₀ H₀ fp,PE (Bc X x z scope C s₀ H₀ fp) elt te)
  (I2:Inv X pins σ H2 s2) (T:Turn X.prog X.w X.K tg J fp it tn) (st2:tn 0 s2.heap) (f2:∀ b∈fp,Fy X pins H2 b) (q:Le J σ H2 Q g tt te)
  (hRR:∀ D C s' H' m,s'.heap.Ns C m->Fy X pins H' C->Inv X pins σ H' s'->Q (.ref D) H'->RR (.ref D) C (.ok .next) s') :
  wpAny (model X.prog X.w) X.A (newList []) (fun acc s₃=>wpAny (model X.prog X.w) X.A (newFunctionEnv scope X.env.globals (C_ X.env scope.names []) [] X.env.qual none .none (some X.env)) (fun cenv s₄ =>
   codeAny (model X.prog X.w) X.A (.compStart (.ListComp elt [⟨tg,iter,ifs,0⟩] scope pos) 0 (.ref it) acc { cenv with scope:=relabel scope X.env }) (RR acc cenv.locals) s₄) E s₃) E s2:=by
 refine wpAny_newObj_type (wpAny_newFunctionEnv S.nocell (by intro y hy; simp at hy) (fun h₁ hns₁ hsb₁=>?_) S.kind)
 have I3:=I2.W5 (its:=[]) (ys:=[]) (t':=s2.toks) .nil (Nat.zero_le _)
 have hD0:H2 s2.heap.objs.size=none:=I2.fresh
 obtain ⟨W,⟨m0,w0⟩,turn⟩:=q _ hD0
 generalize hs3:({ s2 with heap:=s2.heap.push { cls:=.type "list",data:=.seq ([]:List Value).toArray },toks:=s2.toks }:Shared)=s3 at I3
 have e3:s3.heap=s2.heap.push { cls:=.type "list",data:=.seq ([]:List Value).toArray }:=by rw [← hs3]
 have hlt:∀ b∈fp,b<s2.heap.objs.size:=fun b hb=>let ⟨_,e,_⟩:=T.obj _ _ st2 b hb; Heap.lt_size e
 have hlt3:∀ b∈fp,b<s3.heap.objs.size:=fun b hb=>by rw [e3,Heap.size_push]; exact Nat.lt_succ_of_lt (hlt b hb)
 have f3:∀ b∈fp,Fy X pins (upd H2 s2.heap.objs.size (.lst [])) b:=fun b hb=>⟨by rw [Al (Nat.ne_of_lt (hlt b hb))]; exact (f2 b hb).1,(f2 b hb).2⟩
 have hk1:∀ b o,s3.heap.get? b=some o->h₁.get? b=some o:=fun b o e=>by
  have hne:b ≠ s3.heap.objs.size:=Nat.ne_of_lt (Heap.lt_size e)
  rw [e3] at e hne
  exact hsb₁.extBut b o hne (Heap.get?_push_of_some _ e)
 have hC:s3.heap.objs.size=(s2.heap.push { cls:=.type "list",data:=.seq ([]:List Value).toArray }).objs.size:=by rw [e3]
 have hns:h₁.Ns s3.heap.objs.size (fun x=>([]:List (Str × Value)).reverse.lookup x):=by rw [hC]; exact hns₁
 have st3:tn 0 h₁:=T.keep _ _ _ st2 fun b hb o e=>hk1 b o (by rw [e3]; exact Heap.get?_push_of_some _ e)
 have start:∀ tk,Inv (Bc X x z scope s3.heap.objs.size s3 (upd H2 s2.heap.objs.size (.lst [])) fp) [] (none::none::σ) (upd H2 s2.heap.objs.size (.lst [])) { s3 with heap:=h₁,toks:=tk }:=fun tk =>
  M9 I3 S f3 hlt3 (Nat.le_refl _) hns hk1
 have loop:∀ tk,codeAny (model X.prog X.w) X.A (.compLoop (.ListComp elt [⟨tg,iter,ifs,0⟩] scope pos) 0 (.ref it) (.ref s2.heap.objs.size) (compEnvC scope (C_ X.env scope.names []) s3.heap.objs.size X.env))
   (RR (.ref s2.heap.objs.size) s3.heap.objs.size) { s3 with heap:=h₁,toks:=tk }:=by
  intro tk
  refine WN (fun n s'=>∃ i ys v0 v1 H',Inv (Bc X x z scope s3.heap.objs.size s3 (upd H2 s2.heap.objs.size (.lst [])) fp) [] (v0::v1::σ) H' s'/\tn i s'.heap/\(∀ b∈fp,H' b=none)/\W i n ys H') rfl ?_ m0
   ⟨0,[],none,none,_,start tk,st3,fun b hb=>(f3 b hb).1,w0⟩
  rintro n s4 ⟨i,ys,v0,v1,H4,I4,st4,fr4,w4⟩
  have stat:∀ {H':Hp},(∀ b∈fp,H' b=none)->∀ b∈fp,Fy (Bc X x z scope s3.heap.objs.size s3 (upd H2 s2.heap.objs.size (.lst [])) fp) [] H' b:=fun hn b hb=>by
   refine ⟨hn b hb,(I4.ok.exf b hb).1,I4.ok.exfs b hb,.inl hb,(I4.ok.exf b hb).2,fun p hp=>absurd (show p∈([]:List (Addr × Obj)) from hp) (by simp)⟩
  rcases turn i n ys H4 w4 with ⟨stop,qn⟩ | ⟨go,step⟩
  ·refine Bx (T.done (Bc X x z scope s3.heap.objs.size s3 (upd H2 s2.heap.objs.size (.lst [])) fp) rfl rfl rfl hc i [] s4 (v0::v1::σ) H4 _ I4 (stat fr4) st4 stop) fun r s5 ⟨hr,I5⟩=>?_
   subst hr
   obtain ⟨m,hn,_⟩:=I5.loc
   refine hRR _ _ s5 H4 m hn (I3.Lf (Nat.le_refl _) I5.free) (I3.call' (s':=s5) (ch:=fp) I5.os I5.base I5.hok I5.bare (fun b hb=>?_)) qn
   obtain ⟨_,g1,_,g3,g4,g5⟩:=f3 b hb
   exact ⟨g3,g1,g4,g5⟩
  ·refine Bx (T.item (Bc X x z scope s3.heap.objs.size s3 (upd H2 s2.heap.objs.size (.lst [])) fp) rfl rfl rfl hc i [] s4 (v0::v1::σ) H4 _ I4 (stat fr4) st4 go) fun r s5 ⟨u,hr,h5⟩=>?_
   subst hr
   refine Bx h5 fun _ s6 h6=>?_
   obtain ⟨xv,H6,I6,r6,y6,st6,fr6⟩:=h6
   have I6':=I6.pinned (stat fr6) (T.obj _ _ st6)
   have again:∀ {s7:Shared} {H7:Hp} {ys':List V} {w0 w1:Option V},Inv (Bc X x z scope s3.heap.objs.size s3 (upd H2 s2.heap.objs.size (.lst [])) fp) ([]++JB fp s6.heap) (w0::w1::σ) H7 s7->(∃ m',m'<n/\W (i+1) m' ys' H7) ->
     ∃ m,m<n/\∃ i ys v0 v1 H',Inv (Bc X x z scope s3.heap.objs.size s3 (upd H2 s2.heap.objs.size (.lst [])) fp) [] (v0::v1::σ) H' s7/\tn i s7.heap/\(∀ b∈fp,H' b=none)/\W i m ys H':=fun {s7 H7 ys' w0 w1} I7 hw=>by
    obtain ⟨m',hm,w7⟩:=hw
    refine ⟨m',hm,i+1,ys',w0,w1,H7,I7.GZ,T.keep _ _ _ st6 fun b hb o e=>(I7.pin (b,o) (List.mem_append_right _ (List.mem_append_right _ (EY hb e)))).1,fun b hb=>?_,w7⟩
    obtain ⟨o,e,d⟩:=T.obj _ _ st6 b hb
    exact (I7.pin (b,o) (List.mem_append_right _ (List.mem_append_right _ (EY hb e)))).2.1
   refine Ow (hg _ _ _ _ _ s6 (v0::v1::σ) H6 xv u _ I6' r6 (step xv H6 y6 v0 v1)) fun _ s7 ⟨σ7,H7,I7,⟨w0,w1,e7⟩,q7⟩=>?_
   subst e7
   refine Ow (ht _ _ _ _ _ s7 (w0::w1::σ) H7 _ I7 q7) fun b s8 hq0=>?_
   obtain ⟨H8,I8,q8⟩:=hq0
   cases b with
   | false =>
    rw [if_neg Bool.false_ne_true] at q8 ⊢
    exact again I8 q8
   | true =>
    rw [if_pos rfl] at q8 ⊢
    refine Ow (he _ _ _ _ _ s8 (w0::w1::σ) H8 _ I8 q8) fun y s9 hq0=>?_
    obtain ⟨yv,H9,I9,r9,hD9,hz9,q9⟩:=hq0
    refine Ow (Bl (X:=Bc X x z scope s3.heap.objs.size s3 (upd H2 s2.heap.objs.size (.lst [])) fp) _ s9 (w0::w1::σ) H9 (.ref s2.heap.objs.size) [yv] (.ref s2.heap.objs.size) [y] (fun _ H'=>H'=upd H9 s2.heap.objs.size (.lst (ys++[yv]))) I9 rfl (.cons r9 .nil)
     ⟨_,ys,yv,rfl,rfl,hD9,hz9,rfl⟩) fun _ s10 ⟨_,H10,I10,_,e10⟩=>?_
    subst e10
    exact again I10 q9
 have key:=fun tk=>codeAny_compStart_list (R:=RR (.ref s2.heap.objs.size) s3.heap.objs.size) (loop tk) (T.self X.A 0 { s3 with heap:=h₁,toks:=tk } (fun it' s'=>codeAny (model X.prog X.w) X.A (.compLoop (.ListComp elt [⟨tg,iter,ifs,0⟩] scope pos) 0 it' (.ref s2.heap.objs.size) (compEnvC scope (C_ X.env scope.names []) s3.heap.objs.size X.env)) (RR (.ref s2.heap.objs.size) s3.heap.objs.size) s') _ st3 (loop tk))
 subst hs3
 exact key _
theorem S_ {tg:Expr} {pos:Pos} {iter elt:Expr} {ifs:List Expr} {wi:TI} {g:TG} {tt:TT} {te:TE} (hc:X.calm=true) (S:D_ X x z scope) (hi:PI X tg iter wi) (hg:∀ C s₀ H₀ fp,PG (Bc X x z scope C s₀ H₀ fp) tg g)
  (ht:∀ C s₀ H₀ fp,MT (Bc X x z scope C s₀ H₀ fp) ifs tt) (he:∀ C s₀ H₀ fp,PE (Bc X x z scope C s₀ H₀ fp) elt te) (hs:∀ x,foldedSetIterable iter X.env x=pure x:=by intro _; rfl) :
  PE X (.ListComp elt [⟨tg,iter,ifs,0⟩] scope pos) (TY wi g tt te):=by
 intro pins s σ H Q I h
 rw [eval_ListComp]
 refine wpAny_comprehension_free (use:=none) (cl:=C_ X.env scope.names []) rfl hs (Hi fun y hy hk=>I.ok.has y.1 (S.free y hy hk)) S.kind S.names (Bx (hi pins s σ H _ I h) fun v s1 h1=>Bx h1 fun itv s2 h2=>?_)
 obtain ⟨it,fp,tn,J,H2,e,I2,T,st2,f2,q⟩:=h2
 subst e
 refine Mr (RR:=fun acc C=>compPost (model X.prog X.w) X.A X.xe none (EP X pins σ Q) acc C) (Q:=Q) hc S hg ht he I2 T st2 f2 q ?_
 intro D C s' H' m hn hf hI hq
 exact ⟨m,hn,fun h' sb=>⟨.ref D,H',hI.sameBut hf sb,rfl,hq⟩⟩
end
end L2
namespace L2
open PySem PySem.Spec PySem.Calls PyProof.Rows
theorem Ak.tup {K:PySem.W.Frag} {H H':Hp} {a:Addr} {xs:List V} (e:Ak H H') (h:Ft K H a xs):Ft K H' a xs:=by
 rcases h with (h | ⟨o,h⟩) | h
 ·exact .inl (.inl (e _ _ h))
 ·exact .inl (.inr ⟨o,e _ _ h⟩)
 ·exact .inr h
noncomputable def TupAt (H:Hp) (zs:List V) (y:V):Prop:=∃ T,y=.ref T/\H T=some (.tup zs)
theorem TupAt.mono {H H':Hp} {zs:List V} {y:V} (s:Ak H H') (h:TupAt H zs y):TupAt H' zs y:=let ⟨T,e,q⟩:=h; ⟨T,e,s _ _ q⟩
theorem TupAt.upd {H:Hp} {zs ys ws:List V} {y:V} {D:Addr} (h:TupAt H zs y) (hD:H D=some (.lst ys)):TupAt (upd H D (.lst ws)) zs y:=by
 obtain ⟨T,e,q⟩:=h
 refine ⟨T,e,?_⟩
 rw [Al fun z=>by rw [z,hD] at q; cases q]
 exact q
theorem Dn {α:Type} {H:Hp} {f:α->List V} {l:List α} {vs ys ws:List V} {D:Addr} (h:Paired (fun a y=>TupAt H (f a) y) l vs) (hD:H D=some (.lst ys)):Paired (fun a y=>TupAt (upd H D (.lst ws)) (f a) y) l vs:=Paired.Hz h fun _ _ q=>q.upd hD
theorem Ao {α:Type} {H H':Hp} {f:α->List V} {l:List α} {vs:List V} (s:Ak H H') (h:Paired (fun a y=>TupAt H (f a) y) l vs):Paired (fun a y=>TupAt H' (f a) y) l vs:=Paired.Hz h fun _ _ q=>q.mono s
noncomputable def Mj (x z:Str) (scope osc:Scope) (N:List Str):Bool :=
 (scope.kind == .function) && scope.names.all (fun y=>y.2 != .cell && (y.2 != .local || scope.names.lookup y.1 == some .local) && (y.2 != .free || osc.names.lookup y.1 == some .cell || osc.names.lookup y.1 == some .free)) && (scope.names.lookup x == some .local) && (scope.names.lookup z == some .local) &&
 decide ((x::z::N).Nodup) && N.all (fun y=>scope.names.lookup y != some .local)
theorem Oq {X:Cx} {x z:Str} {scope osc:Scope} {N:List Str} (hsc:X.env.scope=osc) (hN:X.N=N) (h:Mj x z scope osc N=true):D_ X x z scope:=by
 unfold Mj at h
 simp only [Bool.and_eq_true] at h
 obtain ⟨⟨⟨⟨⟨h1,h2⟩,h3⟩,h3'⟩,h4⟩,h5⟩:=h
 rw [List.all_eq_true] at h2 h5
 have kind:∀ y,X.env.kindOf y=osc.names.lookup y:=fun y=>by show X.env.scope.names.lookup y=_; rw [hsc]
 refine ⟨by simpa using h1,fun y hy=>?_,fun y hy hk=>?_,by simpa using h3,by simpa using h3',fun y hy hk=>?_,by rw [hN]; exact of_decide_eq_true h4,fun y hy=>?_⟩
 ·have:=h2 y hy
  simp only [Bool.and_eq_true,bne_iff_ne] at this
  exact this.1.1
 ·have:=h2 y hy
  simp only [Bool.and_eq_true] at this
  simpa [hk] using this.1.2
 ·have:=h2 y hy
  simp only [Bool.and_eq_true] at this
  rw [kind]
  simpa [hk] using this.2
 ·have:=h5 y (by rw [← hN]; exact hy)
  simpa using this
section
variable {X:Cx} {x z:Str} {scope:Scope}
theorem WT {px pz pos:Pos} {k:Nat} {C:Addr} {s₀:Shared} {H₀:Hp} {fp:List Addr} (hc:X.calm=true) (S:D_ X x z scope) :
  PG (Bc X x z scope C s₀ H₀ fp) (.Tuple [.Name x px,.Name z pz] k pos) (VG X.K 2 (Jm (Eo 0) (Jm (Eo 1) Vv))):=by
 have l1:(Bc X x z scope C s₀ H₀ fp).env.scope.names.lookup x=some .local:=lookup_relabel_local S.loc
 have l2:(Bc X x z scope C s₀ H₀ fp).env.scope.names.lookup z=some .local:=lookup_relabel_local S.loz
 exact Jf (X:=Bc X x z scope C s₀ H₀ fp) (n:=2) hc (De (B_ (X:=Bc X x z scope C s₀ H₀ fp) (i:=0) S.nd rfl (.inl l1) (.inr l1)) (De (B_ (X:=Bc X x z scope C s₀ H₀ fp) (i:=1) S.nd rfl (.inl l2) (.inr l2)) H_))
theorem Vj {px pz tpos:Pos} {k:Nat} {pos:Pos} {iter elt:Expr} {ifs:List Expr} {wi:TI} {tt:TT} {te:TE} (hc:X.calm=true) (S:D_ X x z scope) (hi:PI X (.Tuple [.Name x px,.Name z pz] k tpos) iter wi)
  (ht:∀ C s₀ H₀ fp,MT (Bc X x z scope C s₀ H₀ fp) ifs tt) (he:∀ C s₀ H₀ fp,PE (Bc X x z scope C s₀ H₀ fp) elt te) (hs:∀ x,foldedSetIterable iter X.env x=pure x:=by intro _; rfl) :
  PE X (.ListComp elt [⟨.Tuple [.Name x px,.Name z pz] k tpos,iter,ifs,0⟩] scope pos) (TY wi (VG X.K 2 (Jm (Eo 0) (Jm (Eo 1) Vv))) tt te) :=
 S_ hc S hi (fun _ _ _ _=>WT hc S) ht he hs
end
section
variable {σ:St} {H1:Hp} {Q:VK} {tt:TT} {te:TE}
theorem Cu {K:PySem.W.Frag} {a:Addr} {xs:List V} (p:V->Bool) (f:V->V) (hl:Cw K H1 a xs) (hz:xs.length<sizeLine)
  (ht:∀ x∈xs,∀ H,Ak H1 H->∀ R:Bool->Hp->Prop,(∀ H',Ak H H'->R (p x) H')->tt (some x::σ) H R)
  (he:∀ x∈xs,p x=true->∀ H,Ak H1 H->∀ R:VK,(∀ H',Ak H H'->R (f x) H')->te (some x::σ) H R)
  (hq:∀ D H,H1 D=none->Ak H1 H->H D=some (.lst ((xs.filter p).map f))->Q (.ref D) H):GF (Xc K a) σ H1 Q tt te :=
 Gf p f hz (fun i H x hs hx=>⟨xs,x,hs.seq hl,hx⟩) (fun i H y H' hs _ hy=>⟨hy.1,hy.2 xs (hs.seq hl)⟩) (fun H hs=>⟨xs,hs.seq hl,Nat.le_refl _⟩) ht he hq
theorem KJ {J:It} {xs:List V} (p:V->Bool) (f:V->List V) (hz:xs.length<sizeLine)
  (hgo:∀ i H x,Ak H1 H->xs[i]? = some x->J.go i H) (hy:∀ i H y H',Ak H1 H->i<xs.length->J.yld i H y H'->H'=H/\xs[i]? = some y) (hstop:∀ H,Ak H1 H->J.stop xs.length H)
  (ht:∀ x∈xs,∀ H,Ak H1 H->∀ R:Bool->Hp->Prop,(∀ H',Ak H H'->R (p x) H')->tt (some x::σ) H R)
  (he:∀ x∈xs,p x=true->∀ H,Ak H1 H->∀ R:VK,(∀ y H',Ak H H'->TupAt H' (f x) y->R y H')->te (some x::σ) H R)
  (hq:∀ D H ys,H1 D=none->Ak H1 H->H D=some (.lst ys)->Paired (fun x y=>TupAt H (f x) y) (xs.filter p) ys->Q (.ref D) H):GF J σ H1 Q tt te:=by
 intro D hD
 have s0:Ak H1 (upd H1 D (.lst [])):=fun b o e=>by rw [Al (Ah e hD)]; exact e
 refine ⟨fun i m ys H=>m=xs.length - i/\i<=xs.length/\H D=some (.lst ys)/\Paired (fun x y=>TupAt H (f x) y) ((xs.take i).filter p) ys/\Ak H1 H,⟨xs.length,by simp,Nat.zero_le _,Ag,by simpa using Paired.nil,s0⟩,?_⟩
 rintro i m ys H ⟨rfl,hi,hd,hp,hs⟩
 by_cases hlt:i<xs.length
 ·obtain ⟨x,hx⟩:∃ x,xs[i]? = some x:=⟨xs[i],by simp [hlt]⟩
  refine .inr ⟨hgo i H x hs hx,fun y H3 hyl=>?_⟩
  obtain ⟨rfl,hy'⟩:=hy i H y H3 hs hlt hyl
  rw [hx] at hy'
  cases hy'
  have hm:x∈xs:=List.mem_of_getElem? hx
  have hlen:ys.length<sizeLine:=by
   rw [← hp.length]
   refine Nat.lt_of_le_of_lt (List.length_filter_le _ _) (Nat.lt_of_le_of_lt ?_ hz)
   rw [List.length_take]; omega
  refine ht x hm _ hs _ fun H4 s4=>?_
  by_cases hpx:p x=true
  ·rw [if_pos hpx]
   refine he x hm hpx H4 (hs.trans s4) _ fun y H5 s5 hφ=>?_
   refine ⟨s5 _ _ (s4 _ _ hd),hlen,xs.length - (i+1),by omega,rfl,hlt,Ag,?_,fun b o e=>?_⟩
   ·rw [take_succ_filter p xs i x hx,if_pos hpx]
    exact (Dn (Ao (s4.trans s5) hp) (s5 _ _ (s4 _ _ hd))).snoc (hφ.upd (s5 _ _ (s4 _ _ hd)))
   ·rw [Al (Ah e hD)]; exact s5 _ _ (s4 _ _ (hs _ _ e))
  ·rw [if_neg hpx]
   refine ⟨xs.length - (i+1),by omega,rfl,hlt,s4 _ _ hd,?_,hs.trans s4⟩
   rw [take_succ_filter p xs i x hx,if_neg hpx,List.append_nil]
   exact Ao s4 hp
 ·have e:i=xs.length:=by omega
  subst e
  rw [List.take_length] at hp
  exact .inl ⟨hstop H hs,hq D H ys hD hs hd hp⟩
theorem Jx {K:PySem.W.Frag} {a:Addr} {xs:List V} (p:V->Bool) (f:V->List V) (hl:Cw K H1 a xs) (hz:xs.length<sizeLine)
  (ht:∀ x∈xs,∀ H,Ak H1 H->∀ R:Bool->Hp->Prop,(∀ H',Ak H H'->R (p x) H')->tt (some x::σ) H R)
  (he:∀ x∈xs,p x=true->∀ H,Ak H1 H->∀ R:VK,(∀ y H',Ak H H'->TupAt H' (f x) y->R y H')->te (some x::σ) H R)
  (hq:∀ D H ys,H1 D=none->Ak H1 H->H D=some (.lst ys)->Paired (fun x y=>TupAt H (f x) y) (xs.filter p) ys->Q (.ref D) H):GF (Xc K a) σ H1 Q tt te :=
 KJ p f hz (fun i H x hs hx=>⟨xs,x,hs.seq hl,hx⟩) (fun i H y H' hs _ hy=>⟨hy.1,hy.2 xs (hs.seq hl)⟩) (fun H hs=>⟨xs,hs.seq hl,Nat.le_refl _⟩) ht he hq
theorem Lz {α β:Type} {F:α->β->Prop} (g:Nat->α):∀ {n:Nat} {l:List α} {ys:List β},Paired F l ys->l=(List.range n).map g->Paired (fun i y=>F (g i) y) (List.range n) ys:=by
 intro n
 have key:∀ (js:List Nat) (ys:List β),Paired F (js.map g) ys->Paired (fun i y=>F (g i) y) js ys:=by
  intro js
  induction js with
  | nil=>intro ys h; cases h; exact .nil
  | cons j js ih =>
   intro ys h
   cases h with
   | cons a b=>exact .cons a (ih _ b)
 intro l ys h e
 subst e
 exact key _ _ h
theorem Qa {n:Nat} (f:Nat->List V) (hz:n<sizeLine)
  (he:∀ i:Nat,i<n->∀ H,Ak H1 H->∀ R:VK,(∀ y H',Ak H H'->TupAt H' (f i) y->R y H')->te (some (.int (i:Int))::σ) H R)
  (hq:∀ D H ys,H1 D=none->Ak H1 H->H D=some (.lst ys)->Paired (fun i y=>TupAt H (f i) y) (List.range n) ys->Q (.ref D) H):GF (Wt 0 n) σ H1 Q WR te:=by
 let g:V->Nat:=fun v=>match v with | .int i=>i.toNat | _=>0
 have hxs:∀ i:Nat,i<n->((List.range n).map fun (i:Nat)=>V.int (i:Int))[i]? = some (.int i):=fun i hi=>by simp [hi]
 refine KJ (xs:=(List.range n).map fun (i:Nat)=>V.int (i:Int)) (fun _=>true) (fun v=>f (g v)) (by simpa using hz) (fun i H x _ hx=>?_) (fun i H y H' _ hi hy=>?_) (fun H _=>?_) (fun x hx H hs R k=>k H (Ak.refl H)) (fun x hx _ H hs R k=>?_) (fun D H ys h1 h2 h3 h4=>?_)
 ·have:i<((List.range n).map fun (i:Nat)=>V.int (i:Int)).length:=(List.getElem?_eq_some_iff.mp hx).1
  show i<n
  simpa using this
 ·obtain ⟨e1,e2⟩:=hy
  have hi':i<n:=by simpa using hi
  refine ⟨e1,?_⟩
  rw [hxs i hi',e2,Int.zero_add]
 ·show n<=_
  simp
 ·obtain ⟨i,hi,rfl⟩:=List.mem_map.mp hx
  exact he i (List.mem_range.mp hi) H hs R k
 ·rw [List.filter_eq_self.mpr (fun _ _=>rfl)] at h4
  exact hq D H ys h1 h2 h3 (Lz (F:=fun x y=>TupAt H (f (g x)) y) (fun i=>V.int (i:Int)) h4 rfl)
theorem S6 {K:PySem.W.Frag} {a b:Addr} {xs ys:List V} (f:V->V->V) (hx:Ft K H1 a xs) (hy:Ft K H1 b ys) (hl:xs.length=ys.length) (hz:xs.length<sizeLine)
  (he:∀ (i:Nat) x y,xs[i]? = some x->ys[i]? = some y->∀ H,Ak H1 H->∀ R:VK,(∀ H',Ak H H'->R (f x y) H')->te (some x::some y::σ) H R)
  (hq:∀ D H,H1 D=none->Ak H1 H->H D=some (.lst (List.zipWith f xs ys))->Q (.ref D) H):Le (gP K a b) σ H1 Q (VG K 2 (Jm (Eo 0) (Jm (Eo 1) Vv))) WR te:=by
 intro D hD
 have s0:Ak H1 (upd H1 D (.lst [])):=fun b o e=>by rw [Al (Ah e hD)]; exact e
 refine ⟨fun i m zs H=>m=xs.length - i/\i<=xs.length/\zs=(List.zipWith f xs ys).take i/\H D=some (.lst zs)/\Ak H1 H,⟨xs.length,by simp,Nat.zero_le _,by simp,Ag,s0⟩,?_⟩
 rintro i m zs H ⟨rfl,hi,rfl,hd,hs⟩
 have hzl:(List.zipWith f xs ys).length=xs.length:=by rw [List.length_zipWith]; omega
 by_cases hlt:i<xs.length
 ·have ex:xs[i]? = some xs[i]:=List.getElem?_eq_getElem hlt
  have ey:ys[i]? = some ys[i]:=List.getElem?_eq_getElem (hl ▸ hlt)
  refine .inr ⟨⟨xs,ys,_,_,hs.tup hx,hs.tup hy,ex,ey⟩,fun v H3 hv v0 v1=>?_⟩
  obtain ⟨T,hT,rfl,hv⟩:=hv
  obtain ⟨x,y,qx,qy,rfl⟩:=hv xs ys (hs.tup hx) (hs.tup hy)
  have s3:Ak H (upd H T (.tup [x,y])):=fun b o e=>by rw [Al (Ah e hT)]; exact e
  refine ⟨T,[x,y],rfl,.inl (.inl Ag),rfl,x,[y],rfl,y,[],rfl,rfl,⟨_,_,rfl⟩,?_⟩
  unfold WR
  dsimp only
  rw [if_pos rfl]
  refine he i x y qx qy _ (hs.trans s3) _ fun H5 s5=>?_
  refine ⟨s5 _ _ (s3 _ _ hd),?_,xs.length - (i+1),by omega,rfl,hlt,?_,Ag,fun b o e=>?_⟩
  ·rw [List.length_take,hzl]
   omega
  ·rw [List.take_add_one,List.getElem?_zipWith,qx,qy]
   rfl
  ·rw [Al (Ah e hD)]
   exact s5 _ _ (s3 _ _ (hs _ _ e))
 ·have e:i=xs.length:=by omega
  subst e
  rw [← hzl,List.take_length] at hd
  exact .inl ⟨⟨xs,hs.tup hx,Nat.le_refl _⟩,hq D H hD hs hd⟩
end
theorem J2 {K:PySem.W.Frag} {a:Addr} {xs:List V} {g:TG} {tb:TS} {D:Ends} {σ:St} {H:Hp} (Pv:Nat->St->Hp->Prop) (h0:Pv 0 σ H) (hl:∀ i σ H,i<=xs.length->Pv i σ H->Cw K H a xs)
  (hb:∀ (i:Nat) x σ H T,xs[i]? = some x->Pv i σ H->H T=none->g (.ref T) σ (upd H T (.tup [.int (i:Int),x])) fun σ' H'=>tb { D with nx:=Pv (i+1),ct:=Pv (i+1),bk:=D.nx } σ' H')
  (hn:∀ σ H,Pv xs.length σ H->D.nx σ H):∃ W:Nat->Nat->St->Hp->Prop,(∃ m,W 0 m σ H)/\∀ i m σ H,W i m σ H ->
   ((ZZ K a).stop i H/\D.nx σ H) \/ ((ZZ K a).go i H/\∃ N:St->Hp->Prop,(∀ σ H,N σ H->∃ m',m'<m/\W (i+1) m' σ H)/\∀ x H',(ZZ K a).yld i H x H'->g x σ H' fun σ' H''=>tb { D with nx:=N,ct:=N,bk:=D.nx } σ' H''):=by
 refine ⟨fun i m σ H=>m=xs.length - i/\i<=xs.length/\Pv i σ H,⟨_,rfl,Nat.zero_le _,h0⟩,?_⟩
 rintro i m σ H ⟨rfl,hi,hp⟩
 by_cases hlt:i<xs.length
 ·refine .inr ⟨⟨xs,_,hl i σ H hi hp,List.getElem?_eq_getElem hlt⟩,Pv (i+1),fun σ' H' h=>⟨xs.length - (i+1),by omega,rfl,hlt,h⟩,fun v H' hv=>?_⟩
  obtain ⟨T,hT,rfl,hv⟩:=hv
  obtain ⟨x,qx,rfl⟩:=hv xs (hl i σ H hi hp)
  exact hb i x σ H T qx hp hT
 ·have e:i=xs.length:=by omega
  subst e
  exact .inl ⟨⟨xs,hl _ σ H hi hp,Nat.le_refl _⟩,hn σ H hp⟩
end L2
namespace L2
open PySem PySem.Spec PySem.Calls PyProof.Rows
structure Lh (K:PySem.W.Frag) (C:Addr):Prop where
 ga:PySem.W.findIn K (.ref C) "__getattribute__" = some (some (.builtin "BaseException.__getattribute__"))
 gt:PySem.W.findIn K (.ref C) "__getattr__" = some none
 mb:PySem.W.mroIn K C (.type "BaseException")=some true
 hd:PySem.W.hasDictIn K C=true
 ca:PySem.W.findIn K (.ref C) "__class__" = some (some (.builtin "object.__class__"))
 cg:PySem.W.specialIn K (.builtin "object.__class__") "__get__" = some (some (.builtin "getset_descriptor.__get__"))
 ct:PySem.W.takesIn K (.builtin "object.__class__")=some true
 mo:PySem.W.mroIn K C (.type "object")=some true
section
variable {prog:Program} {w:World} {A:Around} {E:Value->Shared->Prop} {s:Shared} {K:PySem.W.Frag} {x C:Addr} {ox:Obj} {od:Option Obj} {name:Str} {tk:Tok} {R:Result->Shared->Prop}
theorem Uh:builtinKind "BaseException.__getattribute__" = some .slot:=by decide +kernel
theorem RV:splitId "BaseException.__getattribute__" = some ("BaseException","__getattribute__"):=by decide +kernel
theorem RW (X:K.In s.heap) (I:PySem.W.InstAt s.heap x ox C od) (c:Lh K C)
  (h:wpAny (model prog w) A.in1 (Builtin.«object.__getattribute__» ⟨[.ref x,.str name tk],[]⟩) (fun fin s'=>match fin with | Fin.done f=>R (.ok f) s' | Fin.again c'=>c'.quiet=true/\codeAny (model prog w) A c' R s') (fun e s'=>R (.error e) s') s) :
  codeAny (model prog w) A (.call (.builtin "BaseException.__getattribute__") ⟨[.ref x,.str name tk],[]⟩) R s:=by
 have sub:PySem.W.Looks (model prog w) s.heap (isInstance (.ref x) (.type "BaseException")) true:=I.type.andThen (PySem.W.looks_mroIn X c.mb)
 exact codeAny_call_builtin PySem.F.attrBase_ValueError.ga.plain PySem.F.entry_bexc_ga (@PySem.W.check_slot (model prog w) _ _ s "BaseException.__getattribute__" "BaseException" "__getattribute__" (.ref x) [.str name tk] [] _ Uh RV sub (PySem.F.args_bexc_ga _ _) h)
theorem RJ (X:K.In s.heap) (I:PySem.W.InstAt s.heap x ox C od) (c:Lh K C) (h:R (.ok (.ret (.ref C))) s) :
  codeAny (model prog w) A (.call (.builtin "BaseException.__getattribute__") ⟨[.ref x,.str "__class__" tk],[]⟩) R s:=by
 have hf:PySem.W.findObj K C od "__class__" = some (.bind (.builtin "getset_descriptor.__get__") (.builtin "object.__class__")):=by
  obtain ⟨cd,hc,_⟩:=PySem.W.any_some c.hd
  unfold PySem.W.findObj
  rw [hc,Option.bind_some,c.ca,Option.bind_some]
  simp [c.cg,c.ct]
 refine RW X I c ?_
 obtain ⟨hh,g,d,t,os⟩:=s
 have L0:=I.type (M:=model prog w)
 have L1:=PySem.W.looks_find (M:=model prog w) X I hf
 unfold Builtin.«object.__getattribute__»
 refine wpAny_bind (wpAny_pure (wpAny_bind (wpAny_pure (wpAny_bind (L0.at (wpAny_bind (L1.at ?_)))))))
 show wpAny _ _ (holding [Value.builtin "object.__class__"] (call (.builtin "getset_descriptor.__get__") [.builtin "object.__class__",.ref x,.ref C]) >>= ret) _ _ _
 exact wpAny_bind (wpAny_holding (wpAny_call (PySem.W.class_get (ox:=ox) (od:=od) X I c.mo (wpAny_pure h))))
theorem nA {fill expr:Bool} {Q:Value->Shared->Prop} {v:Value} (X:K.In s.heap) (I:PySem.W.InstAt s.heap x ox C od) (c:Lh K C) (hh:PySem.W.handedIn v=true)
  (hc:∀ (A:Around) (R:Result->Shared->Prop),R (.ok (.ret v)) s->codeAny (model prog w) A (.call (.builtin "BaseException.__getattribute__") ⟨[.ref x,.str name tk],[]⟩) R s) (h:Q v s) :
  wpAny (model prog w) A (getAttrBy (.ref x) (.str name tk) fill expr) Q E s:=by
 have L0:=I.type (M:=model prog w)
 have L1:=PySem.W.looks_findIn (M:=model prog w) X c.ga
 have L2:=PySem.W.looks_findIn (M:=model prog w) X c.gt
 have hx2:(Value.builtin "BaseException.__getattribute__" == Value.builtin "object.__getattribute__")=false:=by decide +kernel
 have hx0:(expr && onTheHeap (Value.builtin "BaseException.__getattribute__"))=false:=by cases expr <;> rfl
 obtain ⟨hp,g,d,t,os⟩:=s
 unfold getAttrBy
 refine wpAny_holding (wpAny_bind (L0.at (wpAny_bind (L1.at ?_))))
 show wpAny _ _ (if (onTheHeap (Value.ref C) && Value.builtin "BaseException.__getattribute__" == Value.builtin "object.__getattribute__")=true then _ else _) _ _ _
 rw [if_neg (by rw [hx2,Bool.and_false]; exact Bool.false_ne_true)]
 unfold getAttrByItsOwn hookBefore
 rw [if_pos (show onTheHeap (Value.ref C)=true from rfl)]
 refine wpAny_bind (L2.at (wpAny_bind (wpAny_attempt (wpAny_holding ?_))))
 unfold callGetattribute
 rw [if_neg (by rw [hx0]; exact Bool.false_ne_true)]
 unfold boundAndCalled
 refine wpAny_bind (wpAny_of_eq (PySem.F.attrBase_ValueError.ga.bind (.ref x)) ?_)
 refine wpAny_call (hc _ _ ?_)
 show wpAny _ _ (handedOut v) _ _ _
 rw [PySem.W.handedOut_of hh]
 exact wpAny_pure h
theorem X5 {Q:Option Value->Shared->Prop} (X:K.In s.heap) (I:PySem.W.InstAt s.heap x ox C od) (c:Lh K C) (h:Q (some (.ref C)) { s with toks:=s.toks+1 }) :
  wpAny (model prog w) A (getAttr? (.ref x) "__class__") Q E s:=by
 unfold getAttr? getAttrBy?
 exact wpAny_bind (wpAny_mkText (wpAny_bind (wpAny_attempt (nA (s:={ s with toks:=s.toks+1 }) X I c rfl (fun A R q=>RJ (s:={ s with toks:=s.toks+1 }) X I c q) (wpAny_pure h)))))
theorem Tu (c:Lh K C):PySem.W.KitX K (.ref x) (.ref C) (fun h=>PySem.W.InstAt h x ox C od) where
 ty:=fun _ _ _ I=>I.type
 it:=fun _ _ X _=>by
  obtain ⟨cdD,hcD,_⟩:=PySem.W.any_some c.hd
  unfold PySem.W.clsIn at hcD
  split at hcD
  ·rename_i c' d' cd' sl' ho
   intro A' Q' E' s' k q
   unfold isType loadHead
   exact wpAny_bind (wpAny_loadPart (k _ _ (X _ _ ho)) (wpAny_pure q))
  ·cases hcD
 ne:=fun h tp dd its n sl X htp=>by
  obtain ⟨cdD,hcD,_⟩:=PySem.W.any_some c.hd
  refine Bool.eq_false_iff.mpr fun q=>?_
  have e:C=tp:=Value.ref.inj (beq_iff_eq.mp q)
  subst e
  unfold PySem.W.clsIn at hcD
  split at hcD
  ·rename_i c' d' cd' sl' ho
   have z:=(X _ _ ho).symm.trans htp
   cases z
  ·cases hcD
 ca:=fun X I k=>X5 X I c k
end
end L2
namespace L2
open PySem PySem.Spec PySem.Calls PyProof.Rows
noncomputable abbrev Va:List Value:=[.type "ValueError",.type "Exception",.type "BaseException",.type "object"]
section
variable {prog:Program} {w:World} {A:Around} {E:Value->Shared->Prop} {K:PySem.W.Frag} {C:Addr} {h:Heap} {g:Array GenState} {d:Drawn} {t:Nat} {os:OsState}
end
end L2
namespace L2
open PySem PySem.Spec PySem.Calls PyProof.Rows
noncomputable def CQ (x C:Addr) (od:Option Addr):HO:=.ext fun h=>∃ (d:Data) (sl:Array (Option Value)),h.get? x=some ⟨.ref C,od,d,sl⟩/\PySem.W.notCls ⟨.ref C,od,d,sl⟩=true
noncomputable def mV (dx:Addr) (fs:List (Str × V)):HO:=.ext fun h=>∃ mA,h.Ns1 dx mA/\∀ f,Fp (fs.lookup f) (mA f)
section
variable {P:Program} {w:World} {H H':Hp} {h:Heap} {x C dx:Addr} {od:Option Addr} {fs:List (Str × V)}
theorem WK {d:Data} {sl:Array (Option Value)} (e:h.get? x=some ⟨.ref C,od,d,sl⟩) (n:PySem.W.notCls ⟨.ref C,od,d,sl⟩=true):Bv P w H h x (CQ x C od) :=
 ⟨⟨d,sl,e,n⟩,⟨_,e⟩,fun _ _ ⟨d,sl,e,n⟩ k=>⟨d,sl,k _ e,n⟩⟩
inductive M3 (H:Hp) (x C:Addr):List (Str × V)->Prop where
 | bare (e:H x=some (CQ x C none)):M3 H x C []
 | full {dx:Addr} {fs:List (Str × V)} (e:H x=some (CQ x C (some dx))) (d:H dx=some (mV dx fs)):M3 H x C fs
theorem Ua (hok:Ef P w H h) (i:M3 H x C fs):∃ ox od,PySem.W.InstAt h x ox C od/\∀ f v,fs.lookup f=some v->∃ o u,od=some o/\PySem.W.lookIn f o=some (some u)/\RelV v u:=by
 cases i with
 | bare e =>
  obtain ⟨⟨d,sl,e1,n⟩,_,_⟩:=(show Bv P w H h x (CQ x C none) from hok x _ e)
  exact ⟨_,none,⟨e1,rfl,n,trivial⟩,fun f v q=>by simp at q⟩
 | @full dx fs e d =>
  obtain ⟨⟨d',sl,e1,n⟩,_,_⟩:=(show Bv P w H h x (CQ x C (some dx)) from hok x _ e)
  obtain ⟨⟨mA,n2,r⟩,_,_⟩:=(show Bv P w H h dx (mV dx fs) from hok dx _ d)
  obtain ⟨o,ho,hl⟩:=KN n2
  refine ⟨_,some o,⟨e1,rfl,n,ho⟩,fun f v q=>?_⟩
  obtain ⟨u,hu,ru⟩:=Fp.some_of (v:=v) (o:=mA f) (by rw [← q]; exact r f)
  exact ⟨o,u,rfl,by rw [hl,hu],ru⟩
end
section
variable {P:Program} {w:World} {X:Cx} {pins:List (Addr × Obj)} {σ:St} {H:Hp} {s:Shared} {h':Heap} {a:Addr} {o:HO}
theorem Ef.bM {h h':Heap} (x:Ef P w H h) (k:∀ b u,h.get? b=some u->h'.get? b=some u) (hn:H a=none) (new:Bv P w (upd H a o) h' a o):Ef P w (upd H a o) h':=fun b u e=>by
 by_cases hb:b=a
 ·subst hb; rw [Ag] at e; cases e; exact new
 ·rw [Al hb] at e
  exact (x b u e).stay (fun c v _ q=>k c v q) (fun c q=>by rw [Al (Ah q hn)]; exact q) fun c xs q=>by rw [Al (Ah q hn)]; exact q
theorem Ef.none_of {h:Heap} (x:Ef P w H h) (e:h.get? a=none):H a=none:=by
 cases q:H a with
 | none=>rfl
 | some u =>
  exfalso
  obtain ⟨o,ho⟩:∃ o,h.get? a=some o:=by
   have z:=x a u q
   cases u with
   | lst xs=>obtain ⟨_,_,_,_,e⟩:=z; exact ⟨_,e⟩
   | tup xs=>obtain ⟨_,_,_,o,e,_⟩:=z; exact ⟨_,e⟩
   | dK kvs=>obtain ⟨_,_,_,_,o,_,_,e,_⟩:=z; exact ⟨_,e⟩
   | dT kvs=>obtain ⟨_,_,_,_,o,_,_,e,_⟩:=z; exact ⟨_,e⟩
   | set S n=>obtain ⟨o,_,_,_,e,_⟩:=z; exact ⟨_,e⟩
   | ins C dx fs=>obtain ⟨_,_,_,e,_⟩:=z; exact ⟨_,e⟩
   | own y=>obtain ⟨_,e⟩:=z; exact ⟨_,e⟩
   | xd fs=>obtain ⟨_,⟨_,_,_,e,_⟩,_⟩:=z; exact ⟨_,e⟩
   | rng lo hi=>obtain ⟨_,_,_,e⟩:=z; exact ⟨_,e⟩
   | frz ob u=>obtain ⟨e,_⟩:=z; exact ⟨_,e⟩
   | tbl ps=>exact ⟨_,(show h.get? a=some _ from z)⟩
   | met f y=>exact ⟨_,(show h.get? a=some _ from z)⟩
   | ext φ=>obtain ⟨_,⟨_,e⟩,_⟩:=z; exact ⟨_,e⟩
  rw [e] at ho; cases ho
end
theorem QG {K:PySem.W.Frag} {h:Heap} {C:Addr} (X:K.In h) (q:PySem.W.excIn K C Va "ValueError.__new__" = true) :
  ∃ bm N nm qn bs hdct sn sub ab col dd k0 k1 k2 k3 k5 mN,h.get? C=some (excClassObj nm qn C N bs bm hdct sn sub ab col dd k0 k1 k2 k3 k5 "ValueError.__new__")/\h.Ns N mN/\mN "__init__" = none/\OwnTail h Va bm:=by
 unfold PySem.W.excIn at q
 split at q
 ·rename_i dd cd sl ho
  split at q
  ·rename_i C' bm k0 k1 k2 k3 n k5 hm hs
   simp only [Bool.and_eq_true,beq_iff_eq,Bool.not_eq_true'] at q
   obtain ⟨⟨⟨⟨⟨rfl,rfl⟩,hdel⟩,ht⟩,hok⟩,hni⟩:=q
   obtain ⟨nm,bs,mro,ns,qn,hd,sn,sub,ab,col,del⟩:=cd
   dsimp only at hm hdel hok hni
   subst hm hdel
   have hsl:sl = #[k0,k1,k2,k3,some (.builtin "ValueError.__new__"),k5]:=by
    obtain ⟨l⟩:=sl
    simp only at hs
    rw [hs]
   subst hsl
   exact ⟨bm,ns,nm,qn,bs,hd,sn,sub,ab,col,dd,k0,k1,k2,k3,k5,_,X _ _ ho,.of_isNs (PySem.W.isNs_of_in X hok),PySem.W.nsMap_none_of_in X hok hni,PySem.W.tail_of_in X ht⟩
  ·cases q
 ·cases q
section
variable {X:Cx} {C:Addr} {x:Str} {e:Expr} {es:List Expr} {t:TA} {p pos:Pos}
end
noncomputable def Yc:V->Option Value
 | .ref a=>some (.ref a)
 | .ty n=>some (.type n)
 | _=>none
theorem PN {X:Cx}:Eg X (.builtin "isinstance") (fun xs H Q=>∃ x C fs c cv b,xs=[V.ref x,c]/\M3 H x C fs/\Lh X.K C/\Yc c=some cv/\PySem.W.kitOne X.K (.ref C) cv=some b/\Q (.bl b) H):=by
 intro pins s σ H xs us Q I r h
 obtain ⟨x,C,fs,c,cv,b,rfl,ie,xc,hc,e,q⟩:=h
 obtain ⟨u,v,rfl,ru,rv⟩:=Vals.two r
 cases ru
 have ev:v=cv:=by
  cases c with
  | ref a=>cases hc; exact rv
  | ty n=>cases hc; exact rv
  | _=>simp [Yc] at hc
 subst ev
 obtain ⟨ox,od,J,_⟩:=Ua I.hok ie
 exact PySem.W.kia_one (Tu xc) I.GD J e (fun z=>nomatch z) fun tk=>⟨.bl b,H,I.tok _,rfl,q⟩
section
variable {X:Cx} {e:Expr} {f:Str} {pos:Pos} {ta:TE}
end
section
variable {prog:Program} {w:World} {A:Around} {E:Value->Shared->Prop} {s:Shared} {K:PySem.W.Frag} {x C:Addr} {name:Str} {v:Value} {R:Result->Shared->Prop} {d:Data} {sl:Array (Option Value)}
end
section
variable {X:Cx} {pins:List (Addr × Obj)} {σ:St} {H:Hp} {s:Shared} {h':Heap} {x C dx:Addr} {f:Str} {y:V} {u:Value}
end
section
variable {X:Cx} {o value:Expr} {f:Str} {pos pos':Pos} {ta tv:TE}
end
section
variable {X:Cx} {C f:Addr} {fd:FuncData} {ps:List Str} {sp:Sp} {k:Nat} {x:Str} {e:Expr} {es:List Expr} {t:TA} {p pos:Pos}
end
theorem M5 {x:V} (h:Do x=true):LR x x=true:=by
 cases x with
 | non=>rfl
 | bl b=>simp [LR]
 | int i=>simp [LR]
 | str z=>simp [LR]
 | _=>exact absurd (show false=true from h) Bool.false_ne_true
section
variable {X:Cx}
theorem PP {xs:List V} {j:Nat} (h:xs.all Do=true) (hj:j<xs.length):Do (xs.getD j .non)=true:=by
 have e:xs.getD j .non=xs[j]:=by simp [hj]
 rw [e]
 exact List.all_eq_true.mp h _ (List.getElem_mem hj)
theorem Fd {xs:List V} {us:List Value} {j:Nat} (r:Vals xs us) (hj:j<us.length):RelV (xs.getD j .non) us[j]:=by
 have hl:=r.length
 have hx:xs[j]? = some xs[j]:=by simp [hl,hj]
 obtain ⟨u,hu,ru⟩:=r.get hx
 rw [List.getElem?_eq_getElem hj] at hu
 cases hu
 have e:xs.getD j .non=xs[j]:=by simp [hl,hj]
 rw [e]
 exact ru
end
end L2
namespace Wd
noncomputable def mk (l:List Nat):Nat:=l.foldl (fun s n=>s ||| 2 ^ n) 0
theorem Ql (l:List Nat):∀ (s i:Nat),(l.foldl (fun s n=>s ||| 2 ^ n) s).testBit i=(s.testBit i || decide (i∈l)):=by
 induction l with
 | nil=>intro s i; simp
 | cons n l ih =>
  intro s i
  rw [List.foldl_cons,ih,Nat.testBit_or,Nat.testBit_two_pow]
  by_cases h:n=i
  ·subst h; simp
  ·have h':¬ i=n:=fun e=>h e.symm
   simp [h,h']
theorem Ul (l:List Nat) (i:Nat):(mk l).testBit i=decide (i∈l):=by
 unfold mk; rw [Ql]; simp
noncomputable def len (n:Nat):Nat:=if n=0 then 0 else n.log2+1
noncomputable def mem (n:Nat):List Nat:=(List.range (len n)).filter n.testBit
noncomputable def mv (n:Nat) (k:Int) (c:Nat):Nat:=(if 0<k then n * 2 ^ k.toNat else n / 2 ^ (-k).toNat) % 2 ^ c
noncomputable def stay (l:List Nat) (k:Int) (c:Nat):List Nat:=l.filter fun n=>decide (0<=(n:Int)+k) && decide ((n:Int)+k<c)
theorem Pr (l:List Nat) (n:Nat):mk (l++[n])=mk l ||| 2 ^ n:=by
 unfold mk; rw [List.foldl_append]; rfl
end Wd
namespace L2
open PySem PySem.Spec PySem.Calls PyProof.Rows
section
variable {X:Cx} {es:List Expr} {k1:Nat} {tpos:Pos}
end
theorem Ik (a b:Nat):Builtin.bitOr (a:Int) (b:Int)=((a ||| b:Nat):Int):=by
 have h1:¬ 0<=Builtin.bitNot (a:Int):=by unfold Builtin.bitNot; omega
 have h2:¬ 0<=Builtin.bitNot (b:Int):=by unfold Builtin.bitNot; omega
 have nn:∀ x:Int,Builtin.bitNot (Builtin.bitNot x)=x:=fun x=>by unfold Builtin.bitNot; omega
 unfold Builtin.bitOr
 rw [bitAnd_nn h1 h2,nn,nn,nn]
 simp
theorem TJ (a b:Nat):Builtin.bitAnd (a:Int) (b:Int)=((a &&& b:Nat):Int):=by
 rw [bitAnd_pp (Int.natCast_nonneg a) (Int.natCast_nonneg b)]
 simp
theorem Ss (k:Nat):(2:Int) ^ k=((2 ^ k:Nat):Int):=by simp
end L2
namespace Wd
open PySem
noncomputable abbrev VD (xs:Array Nat):Prop:=xs.toList.Pairwise (· < ·)
theorem PL {xs:Array Nat} (r:VD xs) {i k:Nat} (h:i<k) (hk:k<xs.size):xs.getD i 0<xs.getD k 0:=by
 have hi:i<xs.size:=Nat.lt_trans h hk
 have:=(List.pairwise_iff_getElem.mp r) i k (by simpa using hi) (by simpa using hk) h
 simpa [Array.getD,hi,hk] using this
structure Cut (xs:Array Nat) (j p:Nat):Prop where
 le:p<=xs.size
 lo:∀ i,i<p->xs.getD i 0<j
 hi:∀ i,p<=i->i<xs.size->j<=xs.getD i 0
theorem Jz {xs:Array Nat} (r:VD xs) (j:Nat):∀ (fuel lo hi:Nat),hi<=xs.size->hi - lo<=fuel->lo<=hi->(∀ i,i<lo->xs.getD i 0<j)->(∀ i,hi<=i->i<xs.size->j<=xs.getD i 0)->Cut xs j (SetTable.below.go xs j fuel lo hi)
 | 0,lo,hi,h1,h2,h3,a,b=>by
  have e:lo=hi:=by omega
  subst e
  exact ⟨h1,a,b⟩
 | fuel+1,lo,hi,h1,h2,h3,a,b=>by
  unfold SetTable.below.go
  split
  ·rename_i hlt
   have hm:(lo+hi) / 2<xs.size:=by omega
   have e:xs.getD ((lo+hi) / 2) j=xs.getD ((lo+hi) / 2) 0:=by simp [Array.getD,hm]
   dsimp only
   rw [e]
   by_cases hj:xs.getD ((lo+hi) / 2) 0<j
   ·rw [if_pos hj]
    refine Jz r j fuel ((lo+hi) / 2+1) hi h1 (by omega) (by omega) (fun i hi'=>?_) b
    by_cases q:i=(lo+hi) / 2
    ·rw [q]; exact hj
    ·have:=PL r (i:=i) (k:=(lo+hi) / 2) (by omega) hm
     omega
   ·rw [if_neg hj]
    refine Jz r j fuel lo ((lo+hi) / 2) (by omega) (by omega) (by omega) a fun i hi' hs=>?_
    by_cases q:i=(lo+hi) / 2
    ·rw [q]; omega
    ·have:=PL r (i:=(lo+hi) / 2) (k:=i) (by omega) hs
     omega
  ·have e:lo=hi:=by omega
   subst e
   exact ⟨h1,a,b⟩
theorem Ks {xs:Array Nat} (r:VD xs) (j:Nat):Cut xs j (SetTable.below xs j) :=
 Jz r j xs.size 0 xs.size (Nat.le_refl _) (by omega) (Nat.zero_le _) (fun i h=>absurd h (Nat.not_lt_zero _)) (fun i h1 h2=>absurd h2 (by omega))
theorem Nu {xs:Array Nat} {j:Nat} (r:VD xs) (h:xs[SetTable.below xs j]? ≠ some j):j ∉ xs.toList:=fun hm=>by
 have c:=Ks r j
 obtain ⟨i,hi,e⟩:=List.mem_iff_getElem.mp hm
 have hi':i<xs.size:=by simpa using hi
 have ei:xs.getD i 0=j:=by simpa [Array.getD,hi'] using e
 have h1:SetTable.below xs j<=i:=by
  rcases Nat.lt_or_ge i (SetTable.below xs j) with q | q
  ·have:=c.lo i q; omega
  ·exact q
 have h2:SetTable.below xs j<xs.size:=Nat.lt_of_le_of_lt h1 hi'
 have h3:=c.hi _ (Nat.le_refl _) h2
 have h4:SetTable.below xs j=i:=by
  rcases Nat.lt_or_ge (SetTable.below xs j) i with q | q
  ·have:=PL r q hi'; omega
  ·omega
 refine h ?_
 have e':xs[i]=j:=by simpa [Array.getD,hi'] using ei
 rw [h4,Array.getElem?_eq_getElem hi',e']
theorem Nz {xs:Array Nat} {j:Nat} (r:VD xs) (h:xs[SetTable.below xs j]? ≠ some j):VD (SetTable.insertAt xs (SetTable.below xs j) j):=by
 have c:=Ks r j
 have nm:=Nu r h
 show (SetTable.insertAt xs (SetTable.below xs j) j).toList.Pairwise _
 rw [SetTable.toList_insertAt,List.pairwise_append,List.pairwise_cons]
 have lt1:∀ a∈xs.toList.take (SetTable.below xs j),a<j:=fun a ha=>by
  obtain ⟨i,hi,e⟩:=List.mem_iff_getElem.mp ha
  rw [List.length_take] at hi
  have hi2:i<xs.size:=by simp at hi; omega
  have:=c.lo i (by omega)
  simp [Array.getD,hi2] at this
  rw [List.getElem_take] at e
  rw [← e]
  simpa using this
 have lt2:∀ a∈xs.toList.drop (SetTable.below xs j),j<a:=fun a ha=>by
  obtain ⟨i,hi,e⟩:=List.mem_iff_getElem.mp ha
  rw [List.length_drop] at hi
  have hi2:SetTable.below xs j+i<xs.size:=by simp at hi; omega
  have:=c.hi (SetTable.below xs j+i) (Nat.le_add_right _ _) hi2
  simp [Array.getD,hi2] at this
  rw [List.getElem_drop] at e
  have hle:j<=a:=by rw [← e]; simpa using this
  have hne:j ≠ a:=fun z=>nm (by rw [z]; exact List.mem_of_mem_drop ha)
  omega
 exact ⟨r.sublist (List.take_sublist _ _),⟨lt2,r.sublist (List.drop_sublist _ _)⟩,fun a ha b hb=>by
  rcases List.mem_cons.mp hb with e | hb
  ·rw [e]; exact lt1 a ha
  ·have:=lt1 a ha; have:=lt2 b hb; omega⟩
theorem Q7 {t:SetTable} {j:Nat} (h:∀ i,t.slot j ≠ .live i):t.place[SetTable.below t.place j]? ≠ some j:=fun e=>by
 refine h (SetTable.below t.place j) ?_
 unfold SetTable.slot
 dsimp only
 rw [e]
 simp
theorem HW (t:SetTable) (p:SetTable.Probe):(t.advance p).dummy=p.dummy:=by
 unfold SetTable.advance
 split <;> rfl
theorem Hb {t:SetTable} {f:Nat->Int} {h:Int}:∀ (fuel:Nat) (p:SetTable.Probe) (j:Nat) (dm:Option Nat),(∀ d,p.dummy=some d->t.slot d=.dummy)->SetTable.probe.go t f h fuel p=some (.empty j dm) ->
  t.slot j=.empty/\∀ d,dm=some d->t.slot d=.dummy
 | 0,p,j,dm,hd,e=>by unfold SetTable.probe.go at e; cases e
 | fuel+1,p,j,dm,hd,e=>by
  unfold SetTable.probe.go at e
  split at e
  ·rename_i hs
   cases e
   exact ⟨hs,hd⟩
  ·rename_i hs
   refine Hb fuel _ j dm (fun d q=>?_) e
   rw [HW] at q
   cases q
   exact hs
  ·split at e
   ·cases e
   ·refine Hb fuel _ j dm (fun d q=>?_) e
    rw [HW] at q
    exact hd d q
theorem Qn {t:SetTable} {h:Int} {j:Nat} {d:Bool} (e:t.freeSlot h=some (j,d)):∀ i,t.slot j ≠ .live i:=by
 unfold SetTable.freeSlot at e
 split at e
 ·rename_i j' dm q
  unfold SetTable.probe at q
  obtain ⟨h1,h2⟩:=Hb _ _ _ _ (fun d hd=>by simp [SetTable.probeStart] at hd) q
  cases dm with
  | none=>cases e; intro i z; rw [show (none:Option Nat).getD j'=j' from rfl,h1] at z; cases z
  | some d' =>
   cases e
   intro i z
   rw [show (some d').getD j'=d' from rfl,h2 d' rfl] at z
   cases z
 ·cases e
structure Good (t:SetTable) (led:Bool):Prop where
 led:t.led=led
 ris:t.plain=true->VD t.place
theorem Om (led:Bool):Good (.fresh 0 0 led) led:=⟨rfl,fun _=>by simp [SetTable.fresh,VD]⟩
theorem Fz {t:SetTable} {led:Bool} (g:Good t led) (n:Nat):Good (t.standIn n) led:=⟨g.led,fun h=>by simp [SetTable.standIn] at h⟩
theorem Vi {t:SetTable} {led:Bool} (g:Good t led) (n:Nat):Good (t.orStandIn n) led:=by
 unfold SetTable.orStandIn
 split
 ·exact g
 ·exact Fz g n
theorem Te {t:SetTable} {led:Bool} (g:Good t led) (es:Array (Int × Value)) (h:Int) (x:Value):Good (layNew t es h x).2.1 led:=by
 unfold layNew
 split
 ·rename_i slot wd e
  refine Vi (t:=(t.put slot).1) ⟨g.led,fun hp=>?_⟩ _
  exact Nz (g.ris hp) (Q7 (Qn e))
 ·exact Fz g _
theorem Qc {mask finger moves:Nat} {led plain:Bool} {hs:Array Int} {t:SetTable} {o:Array Nat} (e:SetTable.laid mask finger moves led plain hs=some (t,o)):Good t led/\t.plain=plain:=by
 unfold SetTable.laid at e
 simp only [Option.bind_eq_bind,Option.bind_eq_some_iff] at e
 obtain ⟨owner,_,e⟩:=e
 cases e
 refine ⟨⟨rfl,fun _=>?_⟩,rfl⟩
 show List.Pairwise _ ((List.map _ _).toArray).toList
 rw [List.pairwise_map,List.pairwise_filterMap]
 refine List.pairwise_lt_range.imp fun {a b} hab x hx y hy=>?_
 obtain ⟨u,_,rfl⟩:=Option.map_eq_some_iff.mp hx
 obtain ⟨v,_,rfl⟩:=Option.map_eq_some_iff.mp hy
 exact hab
theorem OD {t:SetTable} {led:Bool} (g:Good t led) (es:Array (Int × Value)) (n:Nat):Good (relayAll t es n).2.1 led:=by
 unfold relayAll
 split
 ·rename_i t' order e
  dsimp only
  split
  ·have:=Qc e
   rw [g.led] at this
   exact this.1
  ·exact Fz g _
 ·exact Fz g _
end Wd
namespace Wd
open PySem PySem.Spec PyProof.Rows
noncomputable def iZ (prog:Program) (w:World) (h:Heap) (a:Addr) (led:Bool) (σ:List Int):Prop :=
 ∃ es ep t,h.get? a=some { cls:=.type "set",dict:=none,data:=.set es ep t }/\ElemsOf (intKind prog w) es.toList/\(∀ k,k∈σ ↔ ∃ e∈es.toList,(intKind prog w).is k e.2=true)/\es.size=σ.length/\σ.Nodup /\
  σ.length<scanBound/\t.fits es.size=true/\Good t led
section
variable {prog:Program} {w:World} {A:Around} {E:Value->Shared->Prop} {s:Shared} {a:Addr} {led:Bool} {σ:List Int} {k:Int} {tk:Tok}
theorem P0 {h:Heap} {es es':Array (Int × Value)} {ep:Nat} {t t':SetTable} (ho:h.get? a=some { cls:=.type "set",dict:=none,data:=.set es ep t }) :
  (h.update a (Obj.putSet es' t')).get? a=some { cls:=.type "set",dict:=none,data:=.set es' (ep+1) t' } :=
 (Heap.get?_update_self (Obj.putSet es' t') ho (by rw [putSet_of es' t' rfl]; rfl)).trans (by rw [putSet_of es' t' rfl])
end
end Wd
namespace Wd
open PySem PySem.Spec PyProof.Rows
section
variable {prog:Program} {w:World} {A:Around} {R:Result->Shared->Prop} {I:Addr} {fp wr:List Addr} {G:Array GenState->Array GenState->Prop} {n:Nat} {P:Nat->Value->Prop} {St:Nat->Shared->Prop} {led:Bool}
end
section
variable {prog:Program} {w:World} {A:Around} {E:Value->Shared->Prop} {s:Shared}
noncomputable abbrev Dw (w:World):Bool:=!w.params.followText "set-order"
theorem Zw (a:Value) {Q1:Value->Shared->Prop} (h:Q1 (.ref s.heap.objs.size) { s with heap:=s.heap.push { cls:=.type "set",dict:=none,data:=.set #[] 0 (.fresh 0 0 (Dw w)) } }) :
  codeAny (model prog w) A (.call (.builtin "set.__new__") ⟨[.type "set",a],[]⟩) (wants Q1 E) s:=by
 refine codeAny_of_tree ?_
 show wpAny _ A.in1 (do checkBuiltinCall "set.__new__" ⟨[.type "set",a],[]⟩; again (.builtin "set.__new__" ⟨[.type "set",a],[]⟩)) _ _ s
 refine wpAny_bind (wpAny_of_eq (F.newCall_set_1 a) (wpAny_pure ⟨plainId_quiet F.plain_set_new _,codeAny_builtin F.entry_set_new ?_⟩))
 rw [Around.under_plainId F.plain_set_new _]
 unfold Builtin.«set.__new__» Builtin.Frozenset.newClass
 have hsub:=sub_set_self
 obtain ⟨hp,g,d,tk,os⟩:=s
 dsimp only
 wp_walk
 refine wpAny_askSetting (wpAny_pure ?_)
 dsimp only
 simp only [newObj]
 exact wpAny_bind (wpAny_alloc (wpAny_pure (wpAny_pure h)))
end
end Wd
namespace Wd
open PySem PySem.Spec PyProof.Rows
end Wd
namespace Wd
open PySem PySem.Spec PyProof.Rows
section
variable {M:Model} {A:Around} {E:Value->Shared->Prop}
end
inductive Way (w:World) (a:Addr) (es:Array (Int × Value)) (ep:Nat) (t:SetTable) (h:Heap):(Nat->Value)->List Value->List Addr->Prop where
 | text (hb:w.params.followText "set-order" = true):Way w a es ep t h (fun _=>rawInt 0) ((pickOrder (w.params.setOrder a ep) es).toList.map (·.2)) []
 | drawn {tp:Addr} {ps:List Nat} (hb:w.params.followText "set-order" = false) (hp:ps.Perm (List.range es.size)) (ht:∃ n,h.get? tp=some { cls:=.type "tuple",data:=.seq (ps.map fun (i:Nat)=>rawInt i).toArray n }) :
   Way w a es ep t h (fun _=>.ref tp) (ps.map fun i=>(es.getD i (0,.none)).2) [tp]
 | plain (hb:w.params.followText "set-order" = false) (hd:(!t.plain && decide (es.size > 1))=false) (hl:t.led=true) (hr:VD t.place) (hs:t.place.size=es.size) :
   Way w a es ep t h (fun i=>rawInt (if i=0 then 0 else t.place.getD (i - 1) 0+1:Nat)) (es.toList.map (·.2)) []
section
variable {prog:Program} {w:World} {A:Around} {E:Value->Shared->Prop} {s:Shared} {a it:Addr} {es:Array (Int × Value)} {ep:Nat} {t:SetTable} {first:Nat->Value} {vs:List Value} {more:List Addr}
end
end Wd
section PartSetJ
set_option maxHeartbeats 1000000
namespace Wd
open PySem PySem.Spec PyProof.Rows
section
variable {prog:Program} {w:World} {A:Around} {E:Value->Shared->Prop} {s:Shared} {a:Addr} {σ:List Int}
end
end Wd
end PartSetJ
section PartSetK
set_option maxHeartbeats 1000000
namespace Wd
open PySem PySem.Spec PyProof.Rows
section
variable {prog:Program} {w:World} {A:Around} {E:Value->Shared->Prop} {s:Shared} {a:Addr} {σ:List Int}
end
end Wd
end PartSetK
namespace L2
open PySem PySem.Spec PyProof.Rows
noncomputable def n_ (P:Program) (w:World) (a:Addr) (τ:List Int):HO:=.ext fun h=>Wd.iZ P w h a (Wd.Dw w) τ
section
variable {X:Cx} {pins:List (Addr × Obj)} {σ:St} {H:Hp} {s:Shared} {h':Heap} {a:Addr} {o:HO}
end
end L2
namespace L2
open PySem PySem.Spec PyProof.Rows
section
variable {X:Cx}
end
section
variable {prog:Program} {w:World} {A:Around} {E:Value->Shared->Prop} {s:Shared} {r l:Addr}
end
section
variable {X:Cx} {p1 p2 q1 q2:Pos} {e:Expr} {te:TE}
end
end L2
namespace L2
open PySem PySem.Spec PyProof.Rows
noncomputable def a_ (K:PySem.W.Frag) (a:Addr) (xs:List V):It :=
 ⟨fun i H=>Cw K H a xs/\i<xs.length,fun i H x H'=>H'=H/\xs[xs.length - 1 - i]? = some x,fun i H=>Cw K H a xs/\i=xs.length⟩
theorem Us {P:Program} {w:World} {K:PySem.W.Frag} {tg:Expr} (a it:Addr) (xs:List V):Turn P w K tg (a_ K a xs) [it] it (fun i h=>h.IsRevIter it a ((xs.length:Int) - 1 - (i:Nat))) where
 mem:=by simp
 obj:=fun i h st b hb=>by
  have e:b=it:=by simpa using hb
  subst e
  obtain ⟨o,e,c,d⟩:=st
  exact ⟨o,e,fun v z=>by rw [d] at z; cases z⟩
 keep:=fun i h h' st k=>st.at fun o e=>k it (by simp) o e
 item:=by
  intro X hP hw hK hc i pins s σ H E I hf st hg
  subst hP hw hK
  obtain ⟨hq,hlt⟩:=hg
  obtain ⟨its,rv,p,hz⟩:=I.list hq
  have hx:xs[xs.length - 1 - i]? = some (xs[xs.length - 1 - i]'(by omega)):=List.getElem?_eq_getElem (by omega)
  obtain ⟨u,hu,ru⟩:=rv.get hx
  obtain ⟨f0,f1,f2,f3,f4,f5⟩:=hf it (by simp)
  have e:(xs.length:Int) - 1 - ((i:Nat):Int)=((xs.length - 1 - i:Nat):Int):=by omega
  rw [e] at st
  refine wpAny_pyNext_rev_item st p.isList (x:=u) (by simpa using hu) fun h' st' sb=>?_
  have I1:Inv X pins σ H { s with heap:=h' }:=I.turned (t':=s.toks) (fun b o hb e=>(sb.2 b hb).trans e) f0 f1 f3 f4 f5
  have e2:((xs.length - 1 - i:Nat):Int) - 1=(xs.length:Int) - 1 - ((i+1:Nat):Int):=by omega
  rw [e2] at st'
  obtain ⟨o,eo,c,d⟩:=id st'
  exact ⟨u,rfl,Ml (s:={ s with heap:=h' }) eo c d (by decide) ⟨_,H,I1,ru,⟨rfl,hx⟩,st',fun b hb=>(hf b hb).1⟩⟩
 done:=by
  intro X hP hw hK hc i pins s σ H E I hf st hg
  subst hP hw hK
  obtain ⟨hq,rfl⟩:=hg
  obtain ⟨f0,f1,f2,f3,f4,f5⟩:=hf it (by simp)
  have e:(xs.length:Int) - 1 - ((xs.length:Nat):Int) = -1:=by omega
  rw [e] at st
  exact wpAny_pyNext_rev_end (I.ok.hd hc) st fun h' eb=>⟨rfl,I.turned (t':=s.toks) (fun b o hb e=>eb b o hb e) f0 f1 f3 f4 f5⟩
 self:=fun _ _ _ _ _ st h=>wpAny_pyIter_revIter st h
section
variable {X:Cx} {tg:Expr}
noncomputable def jf (K:PySem.W.Frag) (ta:TA):TI:=fun σ H R=>ta σ H fun vs H1=>∃ a xs,vs=[.ref a]/\Cw K H1 a xs/\R (a_ K a xs) H1
theorem YB {l:Expr} {ta:TA} {p pos:Pos} (hg:Gl X "reversed") (hm:X.mg "reversed" = none) (ha:PA X [l] ta) (hs:starEach [l] X.env=[(false,eval l X.env)]:=by rfl):PI X tg (.Call (.Name "reversed" p) [l] [] pos) (jf X.K ta):=by
 intro pins s σ H R I h
 refine Call_ (HY I hg hm PyProof.Rows.boot_reversed (PyProof.Rows.callWith_type1 (Bx (ha pos pins s σ H _ I h) fun us s1 ⟨vs,H1,I1,r1,q1⟩=>?_) hs rfl))
 obtain ⟨a,xs,e,hq,q⟩:=q1
 subst e
 obtain ⟨u,rfl,ru⟩:=vals1 r1
 cases ru
 obtain ⟨its,rv,pl,hz⟩:=I1.list hq
 refine call_reversed_list pl.isList ?_
 have hit:(s1.heap.push (revObj a ((its.toArray.size:Int) - 1))).IsRevIter s1.heap.objs.size a ((its.toArray.size:Int) - 1):=⟨_,Heap.get?_push_size _ rfl,rfl,rfl⟩
 refine wpAny_pyIter_revIter (s:={ s1 with heap:=s1.heap.push (revObj a ((its.toArray.size:Int) - 1)) }) hit ?_
 refine ⟨s1.heap.objs.size,[s1.heap.objs.size],_,_,H1,rfl,I1.kept (t':=s1.toks) fun b o e=>Heap.get?_push_of_some _ e,Us a _ xs,?_,fun b hb=>?_,q⟩
 ·have hl:=rv.length
  have e2:((its.toArray.size:Nat):Int) - 1=(xs.length:Int) - 1 - ((0:Nat):Int):=by
   rw [List.size_toArray]
   omega
  show (s1.heap.push (revObj a ((its.toArray.size:Int) - 1))).IsRevIter s1.heap.objs.size a ((xs.length:Int) - 1 - ((0:Nat):Int))
  rw [← e2]
  exact hit
 ·have e:b=s1.heap.objs.size:=by simpa using hb
  subst e
  exact I1.Lf (Nat.le_refl _) (I1.hok.fresh (Nat.le_refl _))
theorem WM {K:PySem.W.Frag} {a:Addr} {xs:List V} {g:TG} {tb:TS} {D:Ends} {σ:St} {H:Hp} (Pv:Nat->St->Hp->Prop) (h0:Pv 0 σ H) (hl:∀ i σ H,i<=xs.length->Pv i σ H->Cw K H a xs)
  (hs:∀ i x σ H,i<xs.length->xs[xs.length - 1 - i]? = some x->Pv i σ H->g x σ H fun σ2 H2=>tb { D with nx:=Pv (i+1),ct:=Pv (i+1),bk:=D.nx } σ2 H2) (hd:∀ σ H,Pv xs.length σ H->D.nx σ H) :
  ∃ W:Nat->Nat->St->Hp->Prop,(∃ m,W 0 m σ H)/\∀ i m σ H,W i m σ H ->
   ((a_ K a xs).stop i H/\D.nx σ H) \/ ((a_ K a xs).go i H/\∃ N:St->Hp->Prop,(∀ σ' H',N σ' H'->∃ m',m'<m/\W (i+1) m' σ' H')/\∀ x H',(a_ K a xs).yld i H x H'->g x σ H' fun σ2 H2=>tb { D with nx:=N,ct:=N,bk:=D.nx } σ2 H2):=by
 refine ⟨fun i m σ H=>m=xs.length - i/\i<=xs.length/\Pv i σ H,⟨xs.length,by simp,Nat.zero_le _,h0⟩,?_⟩
 rintro i m σ H ⟨rfl,hi,p⟩
 have q:=hl i σ H hi p
 by_cases hlt:i<xs.length
 ·refine .inr ⟨⟨q,hlt⟩,Pv (i+1),fun σ' H' p'=>⟨xs.length - (i+1),by omega,rfl,by omega,p'⟩,?_⟩
  rintro x H' ⟨rfl,hx⟩
  exact hs i x σ H' hlt hx p
 ·have e:i=xs.length:=by omega
  subst e
  exact .inl ⟨⟨q,rfl⟩,hd σ H p⟩
end
end L2
namespace L2
open PySem PySem.Spec PySem.Calls PyProof.Rows
section
variable {X:Cx}
theorem range_any (bs:List Bool):((List.range bs.length).any fun i=>(bs[i]?).getD false)=bs.any id:=by
 rw [Bool.eq_iff_iff,List.any_eq_true,List.any_eq_true]
 constructor
 ·rintro ⟨i,hi,e⟩
  have hi':=List.mem_range.mp hi
  rw [List.getElem?_eq_getElem hi'] at e
  exact ⟨_,List.getElem_mem hi',e⟩
 ·rintro ⟨b,hb,e⟩
  obtain ⟨i,hi,q⟩:=List.mem_iff_getElem.mp hb
  refine ⟨i,List.mem_range.mpr hi,?_⟩
  rw [List.getElem?_eq_getElem hi,q]
  exact e
theorem Jo (hc:X.calm=true):Eg X (.builtin "any") (fun xs H Q=>∃ (p:Addr) (bs:List Bool),xs=[V.ref p]/\Cw X.K H p (bs.map V.bl)/\Q (.bl (bs.any id)) H):=by
 intro pins s σ H xs us Q I r h
 obtain ⟨p,bs,rfl,hp,q⟩:=h
 obtain ⟨u,rfl,ru⟩:=vals1 r
 cases ru
 obtain ⟨its,rv,pl,hz⟩:=I.list hp
 have hlen:bs.length=its.length:=by have:=rv.length; rw [List.length_map] at this; exact this
 have hlt:p<s.heap.objs.size:=by obtain ⟨_,e,_⟩:=pl.isList; exact Heap.lt_size e
 refine call_any_walk (wpAny_pyIter_list pl.isList ?_)
 refine ⟨s.heap.objs.size,[s.heap.objs.size,p],[s.heap.objs.size],its.toArray.size,_,_,fun i=>(bs[i]?).getD false,rfl,Walks.list (A:=X.A.in1) (I.ok.hd hc) _ p (Nat.ne_of_lt hlt) its.toArray,
  ⟨⟨_,Heap.get?_push_size _ rfl,rfl,rfl⟩,pl.isList.push _⟩,fun i v s' Q' E' hP hQ=>?_,fun h' tk hk=>?_⟩
 ·have hP':its[i]? = some v:=by simpa using hP
  have hi:i<its.length:=(List.getElem?_eq_some_iff.mp hP').1
  have hb:bs[i]? = some bs[i]:=by simp [hlen,hi]
  obtain ⟨u,hu,ru⟩:=rv.get (i:=i) (x:=.bl bs[i]) (by rw [List.getElem?_map,hb]; rfl)
  rw [hP'] at hu
  cases hu
  cases ru
  dsimp only at hQ
  rw [hb] at hQ
  exact wpAny_truthy_bool hQ
 ·have e:((List.range its.toArray.size).any fun i=>(bs[i]?).getD false)=bs.any id:=by rw [List.size_toArray,← hlen]; exact range_any bs
  rw [e]
  refine ⟨.bl (bs.any id),H,I.kept (t':=tk) fun b o eb=>hk b o (fun hm=>?_) (Heap.get?_push_of_some _ eb),rfl,q⟩
  rw [List.mem_singleton.mp hm] at eb
  exact Nat.lt_irrefl _ (Heap.lt_size eb)
theorem Gr (ns:List Int):∀ j,j<=ns.length->preSum (fun i=>(ns[i]?).getD 0) j=(ns.take j).sum
 | 0,_=>rfl
 | j+1,h=>by
  have ih:=Gr ns j (by omega)
  show preSum _ j+(ns[j]?).getD 0=_
  rw [ih,List.take_add_one,List.getElem?_eq_getElem (by omega),List.sum_append]
  simp
structure KDict (K:PySem.W.Frag) (P:Params) (a:Addr):Prop where
 is:∃ es n,K.lookup a=some ⟨.type "dict",none,.dict es n,#[]⟩/\PySem.W.KeysLit P es.toList
 lo:(a == sysModules)=false
noncomputable def Y6 (K:PySem.W.Frag) (P:Params) (td ty:TE):TE:=fun σ H Q=>td σ H fun x H1=>ty σ H1 fun y H2=>∃ a z v u,x=.ref a/\y=.str z/\KDict K P a/\PySem.W.nsIn K a z=some (some u)/\RelV v u/\Q v H2
noncomputable def dq (K:PySem.W.Frag) (P:Params) (neg:Bool) (ty td:TE):TE:=fun σ H Q=>ty σ H fun y H1=>td σ H1 fun x H2=>∃ a z r,x=.ref a/\y=.str z/\KDict K P a/\PySem.W.nsIn K a z=some r/\Q (.bl (if neg then !r.isSome else r.isSome)) H2
variable {o i:Expr} {pos:Pos} {td ty:TE}
theorem K1 (ho:PE X o td) (hi:PE X i ty) (hs:XH i):PE X (.Subscript o i pos) (Y6 X.K X.w.params td ty):=by
 intro pins s σ H Q I h
 refine Pg PySem.F.slot_dict_getitem.lookup hs (Bx (ho pins s σ H _ I h) fun u s1 ⟨x,H1,I1,rx,q1⟩=>Bx (hi pins s1 σ H1 _ I1 q1) fun iv s2 hq0=>?_)
 obtain ⟨y,H2,I2,ry,a,z,v,w,ex,ey,kd,hw,rw',q2⟩:=hq0
 subst ex ey
 cases rx
 obtain ⟨t,rfl⟩:=ry
 obtain ⟨⟨es,n,hl,hk⟩,lo⟩:=kd
 have hm:=PySem.W.mapOf_K (prog:=X.prog) I2.GD hl hk
 exact ⟨hm.typeIs,wpAny_getItem_of (strKind_is X.prog X.w z t) hm (PySem.W.find_K hl hw) ⟨v,H2,I2.tok _,rw',q2⟩⟩
theorem Sq (hi:PE X i ty) (ho:PE X o td):PC X .In i o (dq X.K X.w.params false ty td):=by
 intro pins s σ H Q I h
 refine Bx (hi pins s σ H _ I h) fun iv s1 ⟨y,H1,I1,ry,q1⟩=>Bx (ho pins s1 σ H1 _ I1 q1) fun u s2 hq0=>?_
 obtain ⟨x,H2,I2,rx,a,z,r,ex,ey,kd,hw,q2⟩:=hq0
 subst ex ey
 cases rx
 obtain ⟨t,rfl⟩:=ry
 obtain ⟨⟨es,n,hl,hk⟩,lo⟩:=kd
 refine wpAny_in_of (strKind_is X.prog X.w z t) lo (PySem.W.mapOf_K (prog:=X.prog) I2.GD hl hk) ?_
 rw [PySem.W.find_K hl hw]
 exact ⟨.bl r.isSome,H2,I2.tok _,rfl,q2⟩
theorem Q0 (hi:PE X i ty) (ho:PE X o td):PC X .NotIn i o (dq X.K X.w.params true ty td):=by
 intro pins s σ H Q I h
 refine Bx (hi pins s σ H _ I h) fun iv s1 ⟨y,H1,I1,ry,q1⟩=>Bx (ho pins s1 σ H1 _ I1 q1) fun u s2 hq0=>?_
 obtain ⟨x,H2,I2,rx,a,z,r,ex,ey,kd,hw,q2⟩:=hq0
 subst ex ey
 cases rx
 obtain ⟨t,rfl⟩:=ry
 obtain ⟨⟨es,n,hl,hk⟩,lo⟩:=kd
 refine wpAny_notIn_of (strKind_is X.prog X.w z t) lo (PySem.W.mapOf_K (prog:=X.prog) I2.GD hl hk) ?_
 rw [PySem.W.find_K hl hw]
 exact ⟨.bl (!r.isSome),H2,I2.tok _,rfl,q2⟩
end
section
variable {X:Cx} {e st:Expr} {lo hi:Option Expr} {te ts:TE} {tl th:TO} {p2 pos:Pos}
end
end L2
namespace Og
open PySem L2
theorem Ax {X:Cx} {K:PySem.W.Frag} (h:X.K=K):Yl X (Xp K):=h ▸ YK
theorem CZ {X:Cx} {K:PySem.W.Frag} (h:X.K=K):Yl X (c7 K):=h ▸ Bt
theorem Hf {X:Cx} {K:PySem.W.Frag} (h:X.K=K):HJ X (compareOp .In) (lg K false):=h ▸ Qu
structure R where
 w:Str
 nm:Str
 rest:List V
noncomputable abbrev R.v (r:R):List V:=.str r.w :: .str r.nm::r.rest
noncomputable def isNm (z:Str):Prop:=1<=z.length/\z.length<=8/\∀ c∈z.cps.toList,97<=c/\c<=122
noncomputable def Rows (H:Hp) (ρ:V->R) (vs:List V):Prop:=∀ v∈vs,TupAt H (ρ v).v v
theorem Rows.mono {H H':Hp} {ρ:V->R} {vs:List V} (s:Ak H H') (h:Rows H ρ vs):Rows H' ρ vs:=fun v hv=>(h v hv).mono s
theorem Rows.sub {H:Hp} {ρ:V->R} {vs us:List V} (h:Rows H ρ vs) (hs:∀ v∈us,v∈vs):Rows H ρ us:=fun v hv=>h v (hs v hv)
noncomputable abbrev pw (ρ:V->R) (w:Str) (v:V):Bool:=decide (V.str (ρ v).w=V.str w)
noncomputable abbrev pn (ρ:V->R) (t:Str) (v:V):Bool:=decide (V.str (ρ v).nm=V.str t)
noncomputable def Uy (ρ:V->R) (vs:List V) (w t:Str):Bool:=(vs.filter (pw ρ w)).any (pn ρ t)
noncomputable def KTup (K:PySem.W.Frag) (a:Addr) (xs:List V):Prop:=∃ (o:Obj) (its:Array Value) (n:Nat),K.lookup a=some o/\o.cls=.type "tuple" /\ o.data=.seq its n/\its.size<=sizeLine/\Vals xs its.toList
theorem KTup.sq {K:PySem.W.Frag} {a:Addr} {xs:List V} (h:KTup K a xs) (H:Hp):Ft K H a xs:=.inr h
noncomputable abbrev named:List Str:=["board","rank","stop","coupler","mute"]
noncomputable def Hj (K:PySem.W.Frag) (aB:Addr) (ρ:V->R) (vs:List V) (x:V) (part:Str):Prop :=
 (∃ (i lo hi:Int) (b:Addr),x=.int i/\PySem.W.nsIn K aB part=some (some (.ref b))/\KTup K b [.int lo,.int hi]/\lo<=i/\i<=hi) \/
 (PySem.W.nsIn K aB part=some none/\part = "new" /\ ∃ t,x=.str t/\isNm t/\∀ w∈named,Uy ρ vs w t=false) \/
 (PySem.W.nsIn K aB part=some none/\¬ part = "new" /\ ∃ t,x=.str t/\isNm t/\Uy ρ vs part t=true)
structure Kp (K:PySem.W.Frag) (aB aP aM:Addr) (ρ:V->R) (vs:List V) (r:R):Prop where
 ns:¬ r.w = "step"
 nl:¬ r.w = "line"
 parts:∃ (ap:Addr) (ps:List Str),PySem.W.nsIn K aP r.w=some (some (.ref ap))/\KTup K ap (ps.map V.str)/\(V.str r.nm::r.rest).length=ps.length/\ps.length<=10 /\
  ∀ (i:Nat) x y,(V.str r.nm::r.rest)[i]? = some x->ps[i]? = some y->Hj K aB ρ vs x y
 room:∃ (m:Int) (t:Tok),PySem.W.nsIn K aM r.w=some (some (.int m t))/\(((vs.filter (pw ρ r.w)).length:Nat):Int)<m
noncomputable def letters:Str:="abcdefghijklmnopqrstuvwxyz"
noncomputable abbrev V_ (y:Str) (c:Nat):Bool:=!(Builtin.Str.occurrences y ⟨#[c]⟩ 0 y.length 1).isEmpty
theorem Ly:∀ c<128,V_ letters c=decide (97<=c/\c<=122):=by decide +kernel
theorem Av {H:Hp} {p:Addr} {o:HO} (h:H p=none):Ak H (upd H p o):=fun b u e=>by rw [Al (Ah e h)]; exact e
theorem DW {H:Hp} {p:Addr} {o:HO} (h:H p=none):∃ H',upd H p o=H'/\Ak H H'/\H' p=some o:=⟨_,rfl,Av h,Ag⟩
theorem Be {n:Nat} (h:n<=1000):n<=sizeLine:=Nat.le_of_lt (A_ h)
theorem ty_int {K:PySem.W.Frag}:PySem.W.kitOne K (.type "int") (.type "int")=some true:=by kernel_rfl
theorem Wj {K:PySem.W.Frag}:PySem.W.kitOne K (.type "int") (.type "bool")=some false:=by kernel_rfl
theorem Wq {K:PySem.W.Frag}:PySem.W.kitOne K (.type "list") (.type "list")=some true:=by kernel_rfl
theorem aF {K:PySem.W.Frag}:PySem.W.kitOne K (.type "tuple") (.type "tuple")=some true:=by kernel_rfl
theorem Rz {K:PySem.W.Frag}:PySem.W.kitOne K (.type "str") (.type "str")=some true:=by kernel_rfl
theorem Mg (vs:List V) (n:Nat) (h:n<=vs.length):Dm vs none (some (n:Int))=vs.take n:=by
 unfold Dm
 have e1:HT.DY vs.length 0 none=0:=rfl
 have e2:HT.DY vs.length vs.length (some (n:Int))=n:=by
  rw [HT.Dv]
  omega
 rw [e1,e2]
 simp
theorem HR {α:Type} (p:α->Bool) (l:List α):(l.filter p).length<=l.length:=List.length_filter_le _ _
noncomputable abbrev bV (b:Str × Nat):List V:=[.str b.1,.int (b.2:Nat)]
noncomputable abbrev Fx (b:Str × Nat):R:=⟨"board",b.1,[.int (b.2:Nat)]⟩
noncomputable abbrev qV (q:Nat × Nat):List V:=[.int (q.1:Nat),.int (q.2:Nat)]
noncomputable def QQ (bs:List (Str × Nat)):List (Nat × Nat):=bs.zipIdx.flatMap fun p=>(List.range p.1.2).map fun e=>(p.2,e)
theorem Ru (bs:List (Str × Nat)) (b:Str × Nat):QQ (bs++[b])=QQ bs++(List.range b.2).map fun e=>(bs.length,e):=by
 unfold QQ
 rw [List.zipIdx_append]
 simp
theorem Mt {bs:List (Str × Nat)} {i:Nat} {b:Str × Nat} (h:bs[i]? = some b):QQ (bs.take (i+1))=QQ (bs.take i)++(List.range b.2).map fun e=>(i,e):=by
 have hi:i<bs.length:=(List.getElem?_eq_some_iff.mp h).1
 rw [List.take_add_one,h]
 show QQ (bs.take i++[b])=_
 rw [Ru,List.length_take,Nat.min_eq_left (by omega)]
theorem U4 (bs:List (Str × Nat)) (M:Nat):(∀ b∈bs,b.2<=M)->(QQ bs).length<=bs.length * M:=by
 intro h
 have key:∀ i,i<=bs.length->(QQ (bs.take i)).length<=i * M:=by
  intro i
  induction i with
  | zero=>intro _; simp [QQ]
  | succ i ih =>
   intro hi
   have hlt:i<bs.length:=by omega
   rw [Mt (List.getElem?_eq_getElem hlt),List.length_append,List.length_map,List.length_range]
   have h1:=ih (by omega)
   have h2:=h bs[i] (List.getElem_mem hlt)
   have:(i+1) * M=i * M+M:=by rw [Nat.add_mul,Nat.one_mul]
   omega
 have:=key bs.length (Nat.le_refl _)
 rw [List.take_length] at this
 exact this
theorem Cg {α β:Type} {F:α->β->Prop} {l:List α} {vs:List β} (h:Paired F l vs):∀ {v},v∈vs->∃ a∈l,F a v:=by
 induction h with
 | nil=>intro v hv; cases hv
 | cons a b ih =>
  intro v hv
  rcases List.mem_cons.mp hv with rfl | hv
  ·exact ⟨_,List.mem_cons_self ..,a⟩
  ·obtain ⟨x,hx,q⟩:=ih hv
   exact ⟨x,List.mem_cons_of_mem _ hx,q⟩
theorem Fq {α β:Type} {F:α->β->Prop} {l:List α} {vs:List β} (h:Paired F l vs):∀ {i:Nat} {a},l[i]? = some a->∃ v,vs[i]? = some v/\F a v:=by
 induction h with
 | nil=>intro i a ha; simp at ha
 | cons x y ih =>
  intro i a ha
  cases i with
  | zero =>
   simp at ha
   subst ha
   exact ⟨_,rfl,x⟩
  | succ i=>exact ih (by simpa using ha)
theorem NK {α β:Type} {F:α->β->Prop} {l:List α} {vs:List β} (h:Paired F l vs):∀ {i:Nat} {v},vs[i]? = some v->∃ a,l[i]? = some a/\F a v:=by
 induction h with
 | nil=>intro i a ha; simp at ha
 | cons x y ih =>
  intro i a ha
  cases i with
  | zero =>
   simp at ha
   subst ha
   exact ⟨_,rfl,x⟩
  | succ i=>exact ih (by simpa using ha)
theorem Er {α β:Type} {F:α->β->Prop} {l l':List α} {vs vs':List β} (h:Paired F l vs) (h':Paired F l' vs'):Paired F (l++l') (vs++vs'):=by
 induction h with
 | nil=>exact h'
 | cons x y ih=>exact .cons x ih
theorem Ce {α β γ:Type} {F:γ->β->Prop} (g:α->γ) {l:List α} {vs:List β} (h:Paired (fun a v=>F (g a) v) l vs):Paired F (l.map g) vs:=by
 induction h with
 | nil=>exact .nil
 | cons x y ih=>exact .cons x ih
theorem FW {α β γ:Type} {F:γ->β->Prop} (g:α->γ):∀ {l:List α} {vs:List β},Paired F (l.map g) vs->Paired (fun a v=>F (g a) v) l vs
 | [],_,h=>by cases h; exact .nil
 | a::l,_,h=>by
  cases h with
  | cons x y=>exact .cons x (FW g y)
noncomputable def Ky (H:Hp) (k:Nat):V->V
 | .ref T=>match H T with
  | some (.tup xs)=>xs.getD k .non
  | _=>.non
 | _=>.non
theorem G9 {H:Hp} {zs:List V} {v:V} (h:TupAt H zs v) (k:Nat):Ky H k v=zs.getD k .non:=by
 obtain ⟨T,rfl,e⟩:=h
 show (match H T with | some (.tup xs)=>xs.getD k V.non | _=>V.non)=_
 rw [e]
theorem Lw {α:Type} {H:Hp} {g:α->List V} (k:Nat) {l:List α} {vs:List V} (h:Paired (fun a v=>TupAt H (g a) v) l vs):vs.map (Ky H k)=l.map fun a=>(g a).getD k .non:=by
 induction h with
 | nil=>rfl
 | cons x y ih=>rw [List.map_cons,List.map_cons,ih,G9 x]
noncomputable def SX (x:Addr) (H H':Hp):Prop:=∀ b o,H b=some o->b ≠ x->H' b=some o
theorem SX.trans {x:Addr} {H H1 H2:Hp} (a:SX x H H1) (b:SX x H1 H2):SX x H H2:=fun c o h n=>b c o (a c o h n) n
theorem SX.refl {x:Addr} {H:Hp}:SX x H H:=fun _ _ h _=>h
theorem SX.of {x:Addr} {H H':Hp} (s:Ak H H'):SX x H H':=fun b o h _=>s b o h
theorem SX.up {x:Addr} {H:Hp} {o:HO}:SX x H (upd H x o):=fun b u h n=>by rw [Al n]; exact h
theorem SX.tup {x:Addr} {H H':Hp} {zs:List V} {y:V} {C dx:Addr} {fs:List (Str × V)} (s:SX x H H') (hx:H x=some (.ins C dx fs)) (h:TupAt H zs y):TupAt H' zs y:=by
 obtain ⟨T,e,q⟩:=h
 exact ⟨T,e,s _ _ q fun z=>by rw [z,hx] at q; cases q⟩
theorem SX.pair {α:Type} {x:Addr} {H H':Hp} {f:α->List V} {l:List α} {vs:List V} {C dx:Addr} {fs:List (Str × V)} (s:SX x H H') (hx:H x=some (.ins C dx fs)) (h:Paired (fun a y=>TupAt H (f a) y) l vs):Paired (fun a y=>TupAt H' (f a) y) l vs:=Paired.Hz h fun _ _ q=>s.tup hx q
theorem SX.lst {x a:Addr} {H H':Hp} {xs:List V} {C dx:Addr} {fs:List (Str × V)} (s:SX x H H') (hx:H x=some (.ins C dx fs)) (h:H a=some (.lst xs)):H' a=some (.lst xs):=s _ _ h fun z=>by rw [z,hx] at h; cases h
theorem SX.dk {x a:Addr} {H H':Hp} {kvs:List (Key × V)} {C dx:Addr} {fs:List (Str × V)} (s:SX x H H') (hx:H x=some (.ins C dx fs)) (h:H a=some (.dK kvs)):H' a=some (.dK kvs):=s _ _ h fun z=>by rw [z,hx] at h; cases h
noncomputable abbrev meths:List Str:=["ranks","pipe_count","pipe","rank_of","board_of_knob","boards","key_count","key","board_of","coupler","knobs","knob_number","board_number","stop","mute","steps","rows"]
structure Kd (C:Addr) (H:Hp) (x:Addr) (bs:List (Str × Nat)) (ks:List R):Prop where
 ob:∃ (dx:Addr) (fs:List (Str × V)) (bl bn kp kr:Addr) (bvs pvs uvs:List V) (kvs:List (Key × V)),H x=some (.ins C dx fs)/\fs.lookup ("board_list" : Str)=some (.ref bl)/\fs.lookup ("board_numbers" : Str)=some (.ref bn)/\fs.lookup ("key_places" : Str)=some (.ref kp)/\fs.lookup ("knob_rows" : Str)=some (.ref kr) /\
  (∀ m∈meths,fs.lookup m=none)/\H bl=some (.lst bvs)/\Paired (fun b y=>TupAt H (bV b) y) bs bvs/\H bn=some (.dK kvs)/\(∀ (i:Nat) b,bs[i]? = some b->CT kvs (Sum.inr b.1)=some (.int (i:Nat))) /\
  H kp=some (.lst pvs)/\Paired (fun q y=>TupAt H (qV q) y) (QQ bs) pvs/\H kr=some (.lst uvs)/\Paired (fun (r:R) y=>TupAt H r.v y) ks uvs
 nb:bs.length<=5
 sz:∀ b∈bs,b.2<=61
 nk:ks.length<=200
theorem Kd.mono {C:Addr} {H H':Hp} {x:Addr} {bs:List (Str × Nat)} {ks:List R} (s:Ak H H') (h:Kd C H x bs ks):Kd C H' x bs ks:=by
 obtain ⟨⟨dx,fs,bl,bn,kp,kr,bvs,pvs,uvs,kvs,h1,l1,l2,l3,l4,lm,h2,h3,h4,h5,h6,h7,h8,h9⟩,a,b,c⟩:=h
 exact ⟨⟨dx,fs,bl,bn,kp,kr,bvs,pvs,uvs,kvs,s _ _ h1,l1,l2,l3,l4,lm,s _ _ h2,Ao s h3,s _ _ h4,h5,s _ _ h6,Ao s h7,s _ _ h8,Ao s h9⟩,a,b,c⟩
end Og
namespace Og
open PySem L2 PyProof.Rows
inductive Kb where
 | cp (i j:Nat) (s:Int)
 | pl (w:Str) (i:Nat)
noncomputable def Kb.w:Kb->Str
 | .cp _ _ _=>"coupler"
 | .pl w _=>w
noncomputable def Kb.v:Kb->List V
 | .cp i j s=>[.str "coupler",.int (i:Nat),.int (j:Nat),.int s]
 | .pl w i=>[.str w,.int (i:Nat)]
noncomputable def Kb.ok (n:Nat):Kb->Prop
 | .cp i j s=>i<n/\j<n /\ -60<=s/\s<=60
 | .pl w i=>i<n/\(w = "mute" \/ w = "stop")
noncomputable def Ko (w:Str):Nat:=if w = "coupler" then 12 else if w = "mute" then 5 else 24
structure KF (K:PySem.W.Frag) (aB aP aM:Addr):Prop where
 pB:∃ a,PySem.W.nsIn K aP "board" = some (some (.ref a))/\KTup K a (["new","keys"].map fun s:String=>V.str s)
 pS:∃ a,PySem.W.nsIn K aP "stop" = some (some (.ref a))/\KTup K a (["new","board"].map fun s:String=>V.str s)
 pM:∃ a,PySem.W.nsIn K aP "mute" = some (some (.ref a))/\KTup K a (["new","board"].map fun s:String=>V.str s)
 pC:∃ a,PySem.W.nsIn K aP "coupler" = some (some (.ref a))/\KTup K a (["new","board","board","leap"].map fun s:String=>V.str s)
 bK:∃ a,PySem.W.nsIn K aB "keys" = some (some (.ref a))/\KTup K a [.int 1,.int 61]
 bL:∃ a,PySem.W.nsIn K aB "leap" = some (some (.ref a))/\KTup K a [.int (-60),.int 60]
 bN:PySem.W.nsIn K aB "new" = some none
 bB:PySem.W.nsIn K aB "board" = some none
 mB:∃ t,PySem.W.nsIn K aM "board" = some (some (.int 5 t))
 mS:∃ t,PySem.W.nsIn K aM "stop" = some (some (.int 24 t))
 mC:∃ t,PySem.W.nsIn K aM "coupler" = some (some (.int 12 t))
 mM:∃ t,PySem.W.nsIn K aM "mute" = some (some (.int 5 t))
noncomputable def GP (H:Hp):V->R
 | .ref T=>match H T with
  | some (.tup (.str w :: .str n::r))=>⟨w,n,r⟩
  | _=>⟨"","",[]⟩
 | _=>⟨"","",[]⟩
theorem HX {H:Hp} {r:R} {v:V} (h:TupAt H r.v v):GP H v=r:=by
 obtain ⟨T,rfl,e⟩:=h
 show (match H T with | some (.tup (.str w :: .str n::r))=>(⟨w,n,r⟩:R) | _=>⟨"","",[]⟩)=r
 rw [e]
theorem JZ {H:Hp} {rs:List R} {vs:List V} (h:Paired (fun (r:R) v=>TupAt H r.v v) rs vs):vs.map (GP H)=rs:=by
 induction h with
 | nil=>rfl
 | cons x y ih=>rw [List.map_cons,ih,HX x]
theorem Bm (f:Str) (v:V):∀ l:List (Str × V),(BP f v l).length<=l.length+1
 | []=>Nat.le_refl _
 | p::r=>by
  unfold BP
  split
  ·simp
  ·have:=Bm f v r
   simp only [List.length_cons]
   omega
noncomputable abbrev Eh (s:Str):Bool:=inV (.str s) [.str "stop",.str "coupler",.str "mute"]
structure oF (K:PySem.W.Frag) (aB aP aM:Addr) (ρ:V->R) (us:List V) (bs:List (Str × Nat)) (ks:List R):Prop where
 kinds:∀ v∈us,(ρ v).w = "board" \/ (ρ v).w = "stop" \/ (ρ v).w = "coupler" \/ (ρ v).w = "mute"
 eb:(us.filter (pw ρ "board")).map ρ=bs.map Fx
 ek:(us.filter (fun v=>Eh (ρ v).w)).map ρ=ks
 b0:1<=bs.length
 b5:bs.length<=5
 sz:∀ b∈bs,b.2<=61
 nk:ks.length<=100
 nb:(bs.map (·.1)).Nodup
 nn:(ks.map (·.nm)).Nodup
 len:us.length<=105
 ok:∀ (i:Nat) v,us[i]? = some v->Kp K aB aP aM ρ (us.take i) (ρ v)
noncomputable def Gs (ρ:V->R) (vs:List V):List (Str × Str):=vs.map fun v=>((ρ v).w,(ρ v).nm)
noncomputable abbrev QH (wn:List (Str × Str)) (w t:Str):Bool:=(wn.filter fun p=>decide (p.1=w)).any fun p=>decide (p.2=t)
noncomputable abbrev Ug (wn:List (Str × Str)) (w:Str):Nat:=(wn.filter fun p=>decide (p.1=w)).length
theorem Gz (a b:Str):decide (V.str a=V.str b)=decide (a=b):=by
 rw [Bool.eq_iff_iff,decide_eq_true_eq,decide_eq_true_eq]
 exact ⟨V.str.inj,congrArg V.str⟩
theorem JL (ρ:V->R) (vs:List V) (w t:Str):Uy ρ vs w t=QH (Gs ρ vs) w t:=by
 unfold Uy Gs
 show _=((vs.map fun v=>((ρ v).w,(ρ v).nm)).filter fun p=>decide (p.1=w)).any fun p=>decide (p.2=t)
 rw [List.filter_map,List.any_map]
 have e1:pw ρ w=(fun p:Str × Str=>decide (p.1=w)) ∘ fun v=>((ρ v).w,(ρ v).nm):=by
  funext v
  exact Gz _ _
 have e2:pn ρ t=(fun p:Str × Str=>decide (p.2=t)) ∘ fun v=>((ρ v).w,(ρ v).nm):=by
  funext v
  exact Gz _ _
 rw [e1,e2]
theorem Hd (ρ:V->R) (vs:List V) (w:Str):(vs.filter (pw ρ w)).length=Ug (Gs ρ vs) w:=by
 unfold Gs
 show _=((vs.map fun v=>((ρ v).w,(ρ v).nm)).filter fun p=>decide (p.1=w)).length
 rw [List.filter_map,List.length_map]
 have e1:pw ρ w=(fun p:Str × Str=>decide (p.1=w)) ∘ fun v=>((ρ v).w,(ρ v).nm):=by
  funext v
  exact Gz _ _
 rw [e1]
section
variable {K:PySem.W.Frag} {aB aP aM:Addr} {ρ:V->R} {vs:List V} {wn:List (Str × Str)} {t:Str}
theorem Hu (F:KF K aB aP aM) (e:Gs ρ vs=wn) (ht:isNm t) (h:∀ w∈named,QH wn w t=false):Hj K aB ρ vs (.str t) "new" :=
 .inr (.inl ⟨F.bN,rfl,_,rfl,ht,fun w hw=>by rw [JL,e]; exact h w hw⟩)
theorem Hg (F:KF K aB aP aM) (e:Gs ρ vs=wn) (ht:isNm t) (h:QH wn "board" t=true):Hj K aB ρ vs (.str t) "board" :=
 .inr (.inr ⟨F.bB,by decide +kernel,_,rfl,ht,by rw [JL,e]; exact h⟩)
theorem Qh (F:KF K aB aP aM) (e:Gs ρ vs=wn) (ht:isNm t) (h:∀ w∈named,QH wn w t=false) (hc:Ug wn "board" < 5) {n:Nat} (h1:1<=n) (h2:n<=61):Kp K aB aP aM ρ vs (Fx (t,n)):=by
 obtain ⟨ap,g1,g2⟩:=F.pB
 obtain ⟨ab,g3,g4⟩:=F.bK
 obtain ⟨tk,g5⟩:=F.mB
 refine ⟨by show ¬ ("board" : Str) = "step"; decide +kernel,by show ¬ ("board" : Str) = "line"; decide +kernel,⟨ap,["new","keys"],g1,g2,rfl,by decide,fun j x y hx hy=>?_⟩,⟨5,tk,g5,?_⟩⟩
 ·match j,hx,hy with
  | 0,hx,hy =>
   cases (Option.some.inj hx)
   cases (Option.some.inj hy)
   exact Hu F e ht h
  | 1,hx,hy =>
   cases (Option.some.inj hx)
   cases (Option.some.inj hy)
   exact .inl ⟨_,1,61,ab,rfl,g3,g4,by omega,by omega⟩
  | j+2,hx,hy=>simp at hy
 ·rw [Hd,e]
  show ((Ug wn "board" : Nat):Int)<5
  omega
theorem Mh (F:KF K aB aP aM) (e:Gs ρ vs=wn) (ht:isNm t) (h:∀ w∈named,QH wn w t=false) (hc:Ug wn "coupler" < 12) {a b:Str} (ha:isNm a) (ha':QH wn "board" a=true) (hb:isNm b) (hb':QH wn "board" b=true) {s:Int} (h1 : -60<=s) (h2:s<=60):Kp K aB aP aM ρ vs ⟨"coupler",t,[.str a,.str b,.int s]⟩:=by
 obtain ⟨ap,g1,g2⟩:=F.pC
 obtain ⟨ab,g3,g4⟩:=F.bL
 obtain ⟨tk,g5⟩:=F.mC
 refine ⟨by show ¬ ("coupler" : Str) = "step"; decide +kernel,by show ¬ ("coupler" : Str) = "line"; decide +kernel,⟨ap,["new","board","board","leap"],g1,g2,rfl,by decide,fun j x y hx hy=>?_⟩,⟨12,tk,g5,?_⟩⟩
 ·match j,hx,hy with
  | 0,hx,hy =>
   cases (Option.some.inj hx)
   cases (Option.some.inj hy)
   exact Hu F e ht h
  | 1,hx,hy =>
   cases (Option.some.inj hx)
   cases (Option.some.inj hy)
   exact Hg F e ha ha'
  | 2,hx,hy =>
   cases (Option.some.inj hx)
   cases (Option.some.inj hy)
   exact Hg F e hb hb'
  | 3,hx,hy =>
   cases (Option.some.inj hx)
   cases (Option.some.inj hy)
   exact .inl ⟨_,-60,60,ab,rfl,g3,g4,h1,h2⟩
  | j+4,hx,hy=>simp at hy
 ·rw [Hd,e]
  show ((Ug wn "coupler" : Nat):Int)<12
  omega
end
end Og
namespace Og
open PySem L2
noncomputable def jq (bs:List (Str × Nat)) (j1 j2:Nat) (s:Int) (qd:Nat × Nat) (z2:Nat):V :=
 if qd.1=j1/\0<=(qd.2:Int)+s/\(qd.2:Int)+s<z2 then .int ((((bs.take j2).map (·.2)).sum:Nat)+((qd.2:Int)+s)) else .non
noncomputable def gl (bs:List (Str × Nat)):Kb->Nat->Option Nat
 | .cp j1 j2 s,i=>match (QQ bs)[i]?,bs[j2]? with
  | some qd,some b2=>match jq bs j1 j2 s qd b2.2 with
   | .int v=>some v.toNat
   | _=>none
  | _,_=>none
 | .pl _ _,_=>none
noncomputable def stp (bs:List (Str × Nat)) (kbs:List Kb) (D:Nat) (i j:Nat):Prop:=∃ k z,D.testBit k=true/\kbs[k]? = some z/\gl bs z i=some j
inductive jo (st:Nat->Nat->Prop) (hd:Nat->Prop):Nat->Prop
 | one {i j:Nat}:hd i->st i j->jo st hd j
 | more {i j:Nat}:jo st hd i->st i j->jo st hd j
end Og
namespace Og
open PySem L2 PyProof.Rows
noncomputable abbrev Th:=Str × Nat × List V
noncomputable abbrev tV (a:Th):List V:=.str a.1 :: .int (a.2.1:Nat)::a.2.2
noncomputable abbrev tN (a:Th):Str × Nat:=(a.1,a.2.1)
noncomputable abbrev Yp (r:Str × Nat × Int):Th:=(r.1,r.2.1,[.int r.2.2])
noncomputable abbrev jn (b:Str × Nat):Th:=(b.1,b.2,[])
noncomputable abbrev mW (r:Str × Nat × Int):Str × Nat:=(r.1,r.2.1)
noncomputable abbrev GQ (r:Str × Nat × Int):R:=⟨"rank",r.1,[.int (r.2.1:Nat),.int r.2.2]⟩
structure Ln where
 r:Nat
 sh:Int
 lo:Int
 hi:Int
noncomputable abbrev mD (l:Ln):List V:=[.int (l.r:Nat),.int l.sh,.int l.lo,.int l.hi]
noncomputable def Ga (H:Hp) (l:List Ln) (v:V):Prop:=∃ (A:Addr) (ts:List V),v=.ref A/\H A=some (.lst ts)/\Paired (fun x y=>TupAt H (mD x) y) l ts
noncomputable def Hr (H:Hp) (D:Addr) (ls:List (List Ln)):Prop:=∃ lv,H D=some (.lst lv)/\Paired (fun l v=>Ga H l v) ls lv
theorem Ga.mono {H H':Hp} {l:List Ln} {v:V} (s:Ak H H') (h:Ga H l v):Ga H' l v:=by
 obtain ⟨A,ts,e,h1,h2⟩:=h
 exact ⟨A,ts,e,s _ _ h1,Ao s h2⟩
theorem Hr.mono {H H':Hp} {D:Addr} {ls:List (List Ln)} (s:Ak H H') (h:Hr H D ls):Hr H' D ls:=by
 obtain ⟨lv,h1,h2⟩:=h
 exact ⟨lv,s _ _ h1,Paired.Hz h2 fun _ _ q=>q.mono s⟩
structure Kz (C:Addr) (H:Hp) (x:Addr) (bs:List (Str × Nat)) (rk:List (Str × Nat × Int)) (ks:List R) (ls:List (List Ln)):Prop where
 o:Kd C H x bs ks
 r:∃ (dx:Addr) (fs:List (Str × V)) (rl rn pp kl:Addr) (rvs pvs:List V) (kvs:List (Key × V)),H x=some (.ins C dx fs)/\fs.lookup ("rank_list" : Str)=some (.ref rl)/\fs.lookup ("rank_numbers" : Str)=some (.ref rn)/\fs.lookup ("pipe_places" : Str)=some (.ref pp)/\fs.lookup ("knob_lines" : Str)=some (.ref kl) /\
  H rl=some (.lst rvs)/\Paired (fun (a:Th) y=>TupAt H (tV a) y) (rk.map Yp) rvs/\H rn=some (.dK kvs)/\(∀ (i:Nat) r,rk[i]? = some r->CT kvs (Sum.inr r.1)=some (.int (i:Nat))) /\
  H pp=some (.lst pvs)/\Paired (fun q y=>TupAt H (qV q) y) (QQ (rk.map mW)) pvs/\Hr H kl ls
 nr:rk.length<=12
 nz:∀ r∈rk,r.2.1<=97
 nl:ls.length=ks.length
theorem Kz.mono {C:Addr} {H H':Hp} {x:Addr} {bs:List (Str × Nat)} {rk:List (Str × Nat × Int)} {ks:List R} {ls:List (List Ln)} (s:Ak H H') (h:Kz C H x bs rk ks ls):Kz C H' x bs rk ks ls:=by
 obtain ⟨o,⟨dx,fs,rl,rn,pp,kl,rvs,pvs,kvs,h1,l1,l2,l3,l4,h2,h3,h4,h5,h6,h7,h8⟩,a,b,c⟩:=h
 exact ⟨o.mono s,⟨dx,fs,rl,rn,pp,kl,rvs,pvs,kvs,s _ _ h1,l1,l2,l3,l4,s _ _ h2,Ao s h3,s _ _ h4,h5,s _ _ h6,Ao s h7,h8.mono s⟩,a,b,c⟩
structure Wf (ρ:V->R) (us:List V) (i:Nat):Prop where
 all:∀ j,j<i->∃ v,us[us.length - 1 - j]? = some v/\(ρ v).w = "line"
 lt:i<us.length
 no:∃ v,us[us.length - 1 - i]? = some v/\¬ (ρ v).w = "line"
noncomputable def W9 (r:R):Int:=match r.rest with
 | [.int m]=>m
 | _=>0
noncomputable abbrev keyOf (ρ:V->R) (us:List V) (bd:Str) (n:Int):Bool:=(us.filter (pw ρ "board")).any fun v=>pn ρ bd v && decide (n<W9 (ρ v))
structure Nq (ρ:V->R) (us:List V) (ro:R):Prop where
 ex:∃ (cnt:Nat) (v:V) (sh lo hi:Int) (bd:Str) (rs:List V),ro.rest=[.int sh,.int lo,.int hi]/\Wf ρ us cnt/\cnt<4/\us[us.length - 1 - cnt]? = some v/\(ρ v).w = "stop" /\ (ρ v).rest=.str bd::rs/\lo<=hi/\keyOf ρ us bd hi=true
noncomputable abbrev En (ρ:V->R) (us:List V):Prop:=∀ v∈us,(ρ v).w = "board"->∃ m,(ρ v).rest=[.int m]
structure JD (K:PySem.W.Frag) (aB aP aM:Addr) (ρ:V->R) (vs:List V) (r:R):Prop where
 ns:¬ r.w = "step"
 parts:∃ (ap:Addr) (ps:List Str),PySem.W.nsIn K aP r.w=some (some (.ref ap))/\KTup K ap (ps.map V.str)/\(V.str r.nm::r.rest).length=ps.length/\ps.length<=10 /\
  ∀ (i:Nat) x y,(V.str r.nm::r.rest)[i]? = some x->ps[i]? = some y->Hj K aB ρ vs x y
 room:(r.w = "line" /\ PySem.W.nsIn K aM r.w=some none) \/ ∃ (m:Int) (t:Tok),PySem.W.nsIn K aM r.w=some (some (.int m t))/\(((vs.filter (pw ρ r.w)).length:Nat):Int)<m
 line:r.w = "line"->Nq ρ vs r
 Yn:En ρ vs
noncomputable def lnOf (rk:List (Str × Nat × Int)) (r:R):Ln:=match r.rest with
 | [.int sh,.int lo,.int hi]=>⟨(rk.map (·.1)).idxOf r.nm,sh,lo,hi⟩
 | _=>⟨0,0,0,0⟩
noncomputable def putL (acc:List (List Ln)) (l:Ln):List (List Ln):=match acc.getLast? with
 | some z=>acc.dropLast++[z++[l]]
 | none=>[]
noncomputable def Df (rk:List (Str × Nat × Int)) (acc:List (List Ln)) (r:R):List (List Ln):=if Eh r.w=true then acc++[[]] else if r.w = "line" then putL acc (lnOf rk r) else acc
noncomputable def linesOf (rk:List (Str × Nat × Int)) (rs:List R):List (List Ln):=rs.foldl (Df rk) []
theorem Cd (rk:List (Str × Nat × Int)) (rs:List R) (r:R):linesOf rk (rs++[r])=Df rk (linesOf rk rs) r:=by
 unfold linesOf
 rw [List.foldl_append]
 rfl
theorem Gu (acc:List (List Ln)) (z:List Ln) (l:Ln):putL (acc++[z]) l=acc++[z++[l]]:=by
 unfold putL
 rw [List.getLast?_concat,List.dropLast_concat]
structure oG (K:PySem.W.Frag) (aB aP aM:Addr) (ρ:V->R) (us:List V) (bs:List (Str × Nat)) (rk:List (Str × Nat × Int)) (ks:List R):Prop where
 kinds:∀ v∈us,(ρ v).w = "board" \/ (ρ v).w = "rank" \/ (ρ v).w = "line" \/ (ρ v).w = "stop" \/ (ρ v).w = "coupler" \/ (ρ v).w = "mute"
 eb:(us.filter (pw ρ "board")).map ρ=bs.map Fx
 er:(us.filter (pw ρ "rank")).map ρ=rk.map GQ
 ek:(us.filter (fun v=>Eh (ρ v).w)).map ρ=ks
 ln:∀ (i:Nat) v,us[i]? = some v->(ρ v).w = "line"->(∃ (j:Nat) (r:Str × Nat × Int) (sh lo hi:Int),rk[j]? = some r/\r.1=(ρ v).nm/\(ρ v).rest=[.int sh,.int lo,.int hi])/\∃ u∈us.take i,Eh (ρ u).w=true
 b0:1<=bs.length
 b5:bs.length<=5
 sz:∀ b∈bs,b.2<=61
 nr:rk.length<=12
 nz:∀ r∈rk,r.2.1<=97
 nk:ks.length<=100
 nb:(bs.map (·.1)).Nodup
 nrr:(rk.map (·.1)).Nodup
 nn:(ks.map (·.nm)).Nodup
 len:us.length<=150
 ok:∀ (i:Nat) v,us[i]? = some v->JD K aB aP aM ρ (us.take i) (ρ v)
end Og
namespace Ws
open PySem PySem.Spec PyProof.Rows Wd
noncomputable def Ia (prog:Program) (w:World) (h:Heap) (a:Addr) (led:Bool) (σ:List Str):Prop :=
 ∃ es ep t,h.get? a=some { cls:=.type "set",dict:=none,data:=.set es ep t }/\ElemsOf (strKind prog w) es.toList/\(∀ k,k∈σ ↔ ∃ e∈es.toList,(strKind prog w).is k e.2=true)/\es.size=σ.length/\σ.Nodup /\
  σ.length<scanBound/\t.fits es.size=true/\Good t led
noncomputable def Fe (σ:List Str) (k:Str):List Str:=if k∈σ then σ else σ++[k]
section
variable {prog:Program} {w:World} {A:Around} {E:Value->Shared->Prop} {s:Shared} {a:Addr} {led:Bool} {σ:List Str} {k:Str} {tk:Tok}
theorem bO {Q:Bool->Shared->Prop} (hS:Ia prog w s.heap a led σ) (room:σ.length+1<scanBound)
  (h:∀ b h',Heap.SameBut a s.heap h'->Ia prog w h' a led (Fe σ k)->Q b { s with heap:=h' }):wpAny (model prog w) A (setAddHashed a (.str k tk) ((strKind prog w).hash k)) Q E s:=by
 obtain ⟨es,ep,t,ho,hel,hmem,hn,nd,hb,hf,g⟩:=hS
 have hkey:(strKind prog w).is k (.str k tk)=true:=strKind_is _ _ _ _
 have hbe:es.size<scanBound:=by rw [hn]; exact hb
 unfold setAddHashed setAddHashedIn
 refine wpAny_holding (wpAny_bind (wpAny_setState_of ho rfl hf ?_))
 dsimp only
 rw [byScan_of rfl hbe hel,if_pos rfl]
 unfold setAddByScan
 refine wpAny_bind (wpAny_bind (wpAny_rule (wpAny_bind (wpAny_setScan_of hkey ho rfl hf hel ?_))))
 cases hr:List.findIdx? (fun e=>(strKind prog w).is k e.2) es.toList with
 | some j =>
  obtain ⟨hj,hpj,_⟩:=List.findIdx?_eq_some_iff_getElem.mp hr
  have hk:k∈σ:=(hmem k).mpr ⟨_,List.getElem_mem hj,hpj⟩
  refine wpAny_pure (wpAny_pure ?_)
  have:=h false s.heap (Heap.SameBut.refl a s.heap) (by unfold Fe; rw [if_pos hk]; exact ⟨es,ep,t,ho,hel,hmem,hn,nd,hb,hf,g⟩)
  exact this
 | none =>
  have hk:k ∉ σ:=fun q=>by
   obtain ⟨e,he,hp⟩:=(hmem k).mp q
   have:=List.findIdx?_eq_none_iff.mp hr e he
   rw [hp] at this
   cases this
  dsimp only
  have hperm:=layNew_perm t es ((strKind prog w).hash k) (.str k tk)
  have hfits:=layNew_fits t es ((strKind prog w).hash k) (.str k tk)
  have hgood:=Te g es ((strKind prog w).hash k) (.str k tk)
  generalize layNew t es ((strKind prog w).hash k) (.str k tk)=L at hperm hfits hgood ⊢
  obtain ⟨es1,t1,wd,gave⟩:=L
  dsimp only at hperm hfits hgood ⊢
  rw [Array.toList_push] at hperm
  have hel1:ElemsOf (strKind prog w) es1.toList:=(hel.push hkey rfl).perm hperm
  have sz1:es1.size=(σ++[k]).length:=by
   have:=hperm.length_eq
   simp only [List.length_append,Array.length_toList,List.length_singleton] at this
   simp only [List.length_append,List.length_singleton]
   omega
  have mem1:∀ k',k'∈σ++[k] ↔ ∃ e∈es1.toList,(strKind prog w).is k' e.2=true:=fun k'=>by
   have:=mem_push_iff (knd:=strKind prog w) (S:=fun k'=>decide (k'∈σ)) hkey (fun k'=>by rw [decide_eq_true_eq]; exact hmem k') hperm k'
   rw [← this]
   simp
  have nd1:(σ++[k]).Nodup:=List.nodup_append.mpr ⟨nd,by simp,fun x hx y hy=>by
   rw [List.mem_singleton.mp hy]
   intro q
   exact hk (q ▸ hx)⟩
  have hb1:(σ++[k]).length<scanBound:=by simp only [List.length_append,List.length_singleton]; exact room
  have hb1':es1.size<scanBound:=by rw [sz1]; exact hb1
  have fin:∀ (es2:Array (Int × Value)) (t2:SetTable) (ep2:Nat) (h2:Heap),Heap.SameBut a s.heap h2->h2.get? a=some { cls:=.type "set",dict:=none,data:=.set es2 ep2 t2 }->es2.toList.Perm es1.toList->t2.fits es2.size=true->Good t2 led ->
    Q true { s with heap:=h2 }:=fun es2 t2 ep2 h2 sb e2 p2 f2 g2=>by
   refine h true h2 sb ?_
   unfold Fe
   rw [if_neg hk]
   refine ⟨es2,ep2,t2,e2,hel1.perm p2,fun k'=>(mem1 k').trans ⟨fun ⟨e,he,q⟩=>⟨e,p2.mem_iff.mpr he,q⟩,fun ⟨e,he,q⟩=>⟨e,p2.mem_iff.mp he,q⟩⟩,?_,nd1,hb1,f2,g2⟩
   rw [← Array.length_toList,p2.length_eq,Array.length_toList,sz1]
  have tail:∀ (t2:SetTable),t2.fits es1.size=true->Good t2 led->wpAny (model prog w) A (do
    storeSet a es1 t2
    if (!wd && t2.tooFull)=true then do
      (match (relayAll t2 es1 (SetTable.grown es1.size)).2.2 with | true=>rule "set.scan.the-table-gave-way" | false=>pure ())
      storeSet a (relayAll t2 es1 (SetTable.grown es1.size)).1 (relayAll t2 es1 (SetTable.grown es1.size)).2.1
      pure (some true)
     else pure (some true)) (fun r s'=>match r with | some b=>Q b s' | none=>False) E s:=fun t2 f2 g2=>by
   refine wpAny_bind (wpAny_storeSet_of ho rfl ?_ (fits_of_scanBound hb1'))
   have sb1:=Heap.SameBut.update s.heap a (Obj.putSet es1 t2)
   have e1:=P0 (es':=es1) (t':=t2) ho
   split
   ·have hp:=relayAll_perm t2 es1 (SetTable.grown es1.size)
    have hq:=relayAll_fits t2 es1 (SetTable.grown es1.size)
    have hg:=OD g2 es1 (SetTable.grown es1.size)
    generalize relayAll t2 es1 (SetTable.grown es1.size)=R at hp hq hg ⊢
    obtain ⟨es2,t3,gv⟩:=R
    dsimp only at hp hq hg ⊢
    have hb2:es2.size<scanBound:=by rw [← Array.length_toList,hp.length_eq,Array.length_toList]; exact hb1'
    have last:wpAny (model prog w) A (do storeSet a es2 t3; pure (some true)) (fun r s'=>match r with | some b=>Q b s' | none=>False) E { s with heap:=s.heap.update a (Obj.putSet es1 t2) }:=by
     refine wpAny_bind (wpAny_storeSet_of e1 rfl ?_ (fits_of_scanBound hb2))
     exact wpAny_pure (fin es2 t3 _ _ (sb1.trans (Heap.SameBut.update _ a _)) (P0 e1) hp hq hg)
    cases gv
    ·exact wpAny_bind (wpAny_pure last)
    ·exact wpAny_bind (wpAny_rule last)
   ·exact wpAny_pure (fin es1 t2 _ _ sb1 e1 (List.Perm.refl _) f2 g2)
  have tail':∀ (t2:SetTable),t2.fits es1.size=true->Good t2 led->wpAny (model prog w) A (do
    storeSet a es1 t2
    if (!wd && t2.tooFull)=true then do
      (match (relayAll t2 es1 (SetTable.grown es1.size)).2.2 with | true=>rule "set.scan.the-table-gave-way" | false=>pure ())
      storeSet a (relayAll t2 es1 (SetTable.grown es1.size)).1 (relayAll t2 es1 (SetTable.grown es1.size)).2.1
      pure (some true)
     else pure (some true)) (fun r s'=>wpAny (model prog w) A (match r with | some added=>pure added | none=>setAddHashedIn a (.str k tk) ((strKind prog w).hash k) 99999) Q E s') E s:=fun t2 f2 g2 =>
   wpAny_mono (tail t2 f2 g2) (fun r s' q=>by
    cases r with
    | none=>exact q.elim
    | some b=>exact wpAny_pure q) fun _ _ e=>e
  have mid:wpAny (model prog w) A (do
    let byValue ← if t1.plain then hashByValue 8 (.str k tk) else pure true
    let t2:=if byValue=true then t1 else { t1 with plain:=false }
    storeSet a es1 t2
    if (!wd && t2.tooFull)=true then do
      (match (relayAll t2 es1 (SetTable.grown es1.size)).2.2 with | true=>rule "set.scan.the-table-gave-way" | false=>pure ())
      storeSet a (relayAll t2 es1 (SetTable.grown es1.size)).1 (relayAll t2 es1 (SetTable.grown es1.size)).2.1
      pure (some true)
     else pure (some true)) (fun r s'=>wpAny (model prog w) A (match r with | some added=>pure added | none=>setAddHashedIn a (.str k tk) ((strKind prog w).hash k) 99999) Q E s') E s:=by
   split
   ·rw [hashByValue_scannable 8 rfl]
    exact wpAny_bind (wpAny_pure (tail' { t1 with plain:=false } hfits ⟨hgood.led,fun h=>by cases h⟩))
   ·exact wpAny_bind (wpAny_pure (tail' t1 hfits hgood))
  cases gave
  ·exact wpAny_bind (wpAny_pure mid)
  ·exact wpAny_bind (wpAny_rule mid)
end
inductive StrsAre:List Value->List Str->Prop
 | nil:StrsAre [] []
 | cons (z:Str) (t:Tok) {us:List Value} {zs:List Str}:StrsAre us zs->StrsAre (.str z t::us) (z::zs)
theorem StrsAre.length:∀ {us:List Value} {zs:List Str},StrsAre us zs->us.length=zs.length
 | _,_,.nil=>rfl
 | _,_,.cons z t r=>congrArg (· + 1) r.length
theorem StrsAre.SJ:∀ {us:List Value} {zs:List Str},StrsAre us zs->∀ (i:Nat) (v:Value),us[i]? = some v->∃ t,v=.str (zs.getD i "") t
 | _,_,.nil,i,v,h=>by simp at h
 | _,_,.cons z t r,0,v,h=>by simp at h; exact ⟨t,h.symm⟩
 | _,_,.cons z t r,i+1,v,h=>by
  have h':_:=h
  rw [List.getElem?_cons_succ] at h'
  obtain ⟨t',e⟩:=r.SJ i v h'
  exact ⟨t',by rw [e]; rfl⟩
theorem Ia.keep {prog:Program} {w:World} {h h':Heap} {a:Addr} {led:Bool} {σ:List Str} (g:Ia prog w h a led σ) (k:∀ o,h.get? a=some o->h'.get? a=some o):Ia prog w h' a led σ :=
 let ⟨es,ep,t,e,r⟩:=g; ⟨es,ep,t,k _ e,r⟩
theorem UG (σ:List Str) (k:Str):(Fe σ k).length<=σ.length+1:=by
 unfold Fe
 split
 ·omega
 ·simp
theorem Kv:∀ (ns:List Str) (σ:List Str),(ns.foldl Fe σ).length<=σ.length+ns.length
 | [],σ=>by simp
 | k::ns,σ=>by
  have h1:=Kv ns (Fe σ k)
  have h2:=UG σ k
  simp only [List.foldl_cons,List.length_cons]
  omega
section
variable {prog:Program} {w:World} {A:Around} {R:Result->Shared->Prop} {I:Addr} {fp wr:List Addr} {G:Array GenState->Array GenState->Prop} {n:Nat} {P:Nat->Value->Prop} {St:Nat->Shared->Prop} {led:Bool}
theorem XC (W:WalksS prog w A.in1 I fp wr G n P St) (S:Addr) (hSf:S ∉ fp) (ns:List Str) (hn:ns.length=n) (hval:∀ i v,P i v->∃ t,v=.str (ns.getD i "") t) (hb:n+1<scanBound) :
  ∀ (k i:Nat) (s:Shared),n - i=k->i<=n->St i s->Ia prog w s.heap S led ((ns.take i).foldl Fe []) ->
   (∀ s',Moved (S::wr) G s s'->Ia prog w s'.heap S led (ns.foldl Fe [])->R (.ok (.ret .none)) s')->codeAny (model prog w) A (.builtin "set.update.loop" ⟨[.ref S,.ref I],[]⟩) R s:=by
 have nw:S ∉ wr:=fun z=>hSf (W.sub _ z)
 have up:∀ b∈wr,b∈S::wr:=fun b z=>List.mem_cons_of_mem _ z
 intro k
 induction k with
 | zero =>
  intro i s hk hi st g hR
  obtain rfl:i=n:=by omega
  refine codeAny_builtin F.entry_set_update_loop ?_
  rw [Around.under_plainId F.plain_set_update_loop _]
  refine wpAny_bind (W.done s _ _ st fun s' m=>wpAny_pure (hR s' (m.mono up) ?_))
  rw [List.take_of_length_le (by omega)] at g
  exact g.keep fun o e=>m.heap S o nw e
 | succ k ih =>
  intro i s hk hi st g hR
  have lt:i<n:=by omega
  refine codeAny_builtin F.entry_set_update_loop ?_
  rw [Around.under_plainId F.plain_set_update_loop _]
  refine wpAny_bind (W.item i s _ _ lt st fun v s' p st' m=>?_)
  obtain ⟨t,rfl⟩:=hval i v p
  have g':=g.keep (h':=s'.heap) fun o e=>m.heap S o nw e
  refine wpAny_bind (wpAny_holding (wpAny_holding (wpAny_bind ((strKind prog w).pyHash (k:=ns.getD i "") (strKind_is _ _ _ _) ?_))))
  have room:((ns.take i).foldl Fe []).length+1<scanBound:=by
   have:=Kv (ns.take i) []
   rw [List.length_take] at this
   simp at this
   omega
  have tk:ns.take (i+1)=ns.take i++[ns.getD i ""]:=by
   have hl:i<ns.length:=by omega
   rw [List.take_add_one,List.getElem?_eq_getElem hl]
   simp [hl]
  refine bO (s:={ s' with toks:=s'.toks+1 }) g' room fun b h' sb g2=>?_
  have g3:Ia prog w h' S led ((ns.take (i+1)).foldl Fe []):=by
   rw [tk,List.foldl_append]
   exact g2
  refine wpAny_pure ⟨plainId_quiet F.plain_set_update_loop _,ih (i+1) _ (by omega) lt (W.frame _ s' _ _ st' (Nat.le_succ _) fun b hb o e=>?_) g3 fun s'' m2 g4=>?_⟩
  ·rw [sb.2 b (fun z:b=S=>hSf (z ▸ hb))]
   exact e
  ·refine hR s'' (Moved.trans W.gtrans ((m.mono up).then_heap (Nat.le_succ _) fun b o hb e=>?_) m2) g4
   rw [sb.2 b (fun z:b=S=>hb (by rw [z]; exact List.mem_cons_self))]
   exact e
end
section
variable {prog:Program} {w:World} {A:Around} {E:Value->Shared->Prop} {s:Shared}
theorem Ve (h:Heap):Ia prog w (h.push { cls:=.type "set",dict:=none,data:=.set #[] 0 (.fresh 0 0 (Dw w)) }) h.objs.size (Dw w) [] :=
 ⟨#[],0,_,Heap.get?_push_size _ rfl,fun e he=>by simp at he,fun k=>by simp,rfl,.nil,by decide,by rfl,Om _⟩
set_option maxHeartbeats 4000000 in
theorem dW {l:Addr} {items:Array Value} {ns:List Str} {Q:Value->Shared->Prop} (hh:A.handled=none) (hl:s.heap.IsTuple l items) (hi:StrsAre items.toList ns) (hb:ns.length+1<scanBound)
  (h:∀ h' tk,Ia prog w h' s.heap.objs.size (Dw w) (ns.foldl Fe [])->(∀ b o,s.heap.get? b=some o->h'.get? b=some o)->Q (.ref s.heap.objs.size) { s with heap:=h',toks:=tk }) :
  wpAny (model prog w) A (call (.type "set") [.ref l]) Q E s:=by
 obtain ⟨c,tl,hmro⟩:=F.called_set.mro
 have hmade:=F.called_set.made
 have hsub:=F.called_set.sub
 have hlen:items.size=ns.length:=by rw [← StrsAre.length hi]; simp
 refine wpAny_call (codeAny_of_tree ?_)
 show wpAny _ _ (callAny (.type "set") _) _ _ _
 refine wpAny_pure ⟨Code.quiet_builtin _ (by decide +kernel),codeAny_builtin F.entry_type_call ?_⟩
 rw [Around.under_plain (weight_type_call_type "set" [.ref l] []) rfl]
 have h1:=F.called_set.notType
 have h2:=F.called_set.canCreate
 have hct:=F.typeCall_set_1 (.ref l)
 repeat (any_goals (first | assumption | wp_step))
 refine codeAny_mono (Zw (.ref l) (E:=E) (Q1:=fun obj s1=>obj=.ref s.heap.objs.size/\s1 = { s with heap:=s.heap.push { cls:=.type "set",dict:=none,data:=.set #[] 0 (.fresh 0 0 (Dw w)) } }) ⟨rfl,rfl⟩) fun r s1 hr=>?_
 rcases r with e | fl
 ·exact hr
 obtain ⟨obj,rfl,hr⟩:∃ obj,fl=.ret obj/\(obj=.ref s.heap.objs.size/\s1 = { s with heap:=s.heap.push { cls:=.type "set",dict:=none,data:=.set #[] 0 (.fresh 0 0 (Dw w)) } }):=by
  cases fl with
  | ret v=>exact ⟨v,rfl,hr⟩
  | _=>exact hr.elim
 obtain ⟨rfl,rfl⟩:=hr
 have hS:(s.heap.push { cls:=.type "set",dict:=none,data:=.set #[] 0 (.fresh 0 0 (Dw w)) }).get? s.heap.objs.size=some { cls:=.type "set",dict:=none,data:=.set #[] 0 (.fresh 0 0 (Dw w)) }:=Heap.get?_push_size _ rfl
 have hT:Shared.TypeIs { s with heap:=s.heap.push { cls:=.type "set",dict:=none,data:=.set #[] 0 (.fresh 0 0 (Dw w)) } } (.ref s.heap.objs.size) "set":=⟨_,hS,rfl⟩
 have hli:=F.called_set.init.lookup
 have hbi:=F.called_set.init.bind (.ref s.heap.objs.size)
 repeat (any_goals (first | assumption | wp_step))
 refine codeAny_mono (codeAny_call_builtin (R:=wants (fun r s2=>r=.none/\∃ h' tk,s2 = { s with heap:=h',toks:=tk }/\Ia prog w h' s.heap.objs.size (Dw w) (ns.foldl Fe [])/\∀ b o,s.heap.get? b=some o->h'.get? b=some o) E)
  F.called_set.init.plain F.entry_set_init (check_set_init_1 hT ?_)) fun r2 s2 hr2=>?_
 ·obtain ⟨ol,hol,hcl,nl,hdl⟩:=hl
  obtain ⟨ocls,odict,odata,oslots⟩:=ol
  simp only at hcl hdl
  subst hcl; subst hdl
  have hol':(s.heap.push { cls:=.type "set",dict:=none,data:=.set #[] 0 (.fresh 0 0 (Dw w)) }).get? l=some { cls:=.type "tuple",dict:=odict,data:=.seq items nl,slots:=oslots }:=Heap.get?_push_of_some _ hol
  have hsls:=F.sub_tuple_set
  have hslf:=F.sub_tuple_frozenset
  have hne:(Value.type "tuple" == Value.type "dict")=false:=by decide
  have hl1:(s.heap.push { cls:=.type "set",dict:=none,data:=.set #[] 0 (.fresh 0 0 (Dw w)) }).IsTuple l items:=⟨_,hol',rfl,nl,rfl⟩
  unfold Builtin.«set.__init__» noKeywords Builtin.Frozenset.updateFrom
  generalize hPI:pyIter=PI
  wp_walk
  subst hPI
  refine wpAny_pyIter_tuple hl1 (wpAny_bind (wpAny_runValue ?_))
  have lS:l<s.heap.objs.size:=Heap.lt_size hol
  have h3:A.in1.in1.in1.handled=none:=by simp [hh]
  have nI:l ≠ (s.heap.push { cls:=.type "set",dict:=none,data:=.set #[] 0 (.fresh 0 0 (Dw w)) }).objs.size:=by
   rw [Heap.size_push]
   exact Nat.ne_of_lt (Nat.lt_succ_of_lt lS)
  have nf:s.heap.objs.size ∉ [(s.heap.push { cls:=.type "set",dict:=none,data:=.set #[] 0 (.fresh 0 0 (Dw w)) }).objs.size,l]:=by
   rw [Heap.size_push]
   intro z
   rcases List.mem_cons.mp z with q | q
   ·exact absurd q (Nat.ne_of_lt (Nat.lt_succ_self _))
   ·exact absurd (List.mem_singleton.mp q) (Nat.ne_of_gt lS)
  refine XC ((Walks.tuple h3 _ l nI items).toS) s.heap.objs.size nf ns hlen.symm (fun i v hv=>StrsAre.SJ hi i v (by rw [Array.getElem?_toList]; exact hv)) (by rw [hlen]; exact hb) (items.size - 0) 0 _ rfl (Nat.zero_le _)
   ⟨⟨_,Heap.get?_push_size _ rfl,rfl,rfl⟩,(hl1.push _)⟩ ((Ve s.heap).keep fun o e=>Heap.get?_push_of_some _ e) fun s' m g=>?_
  obtain ⟨h',g',d',tk',os'⟩:=s'
  obtain rfl:g'=s.gens:=m.gens
  obtain rfl:d'=s.drawn:=m.drawn
  obtain rfl:os'=s.os:=m.os
  show wpAny _ _ _ _ _ _
  refine wpAny_pure ?_
  show wpAny _ _ (ret Value.none) _ _ _
  refine wpAny_pure ⟨rfl,h',tk',rfl,g,fun b o e=>?_⟩
  have b1:=Heap.lt_size e
  refine m.heap b o (fun z=>?_) (Heap.get?_push_of_some _ (Heap.get?_push_of_some _ e))
  rcases List.mem_cons.mp z with q | q
  ·exact absurd q (Nat.ne_of_lt b1)
  ·have:=List.mem_singleton.mp q
   rw [Heap.size_push] at this
   exact absurd this (Nat.ne_of_lt (Nat.lt_succ_of_lt b1))
 ·rcases r2 with e | fl2
  ·exact hr2
  obtain ⟨r,rfl,hr2⟩:∃ r,fl2=.ret r/\(r=.none/\∃ h' tk,s2 = { s with heap:=h',toks:=tk }/\Ia prog w h' s.heap.objs.size (Dw w) (ns.foldl Fe [])/\∀ b o,s.heap.get? b=some o->h'.get? b=some o):=by
   cases fl2 with
   | ret v=>exact ⟨v,rfl,hr2⟩
   | _=>exact hr2.elim
  obtain ⟨rfl,h',tk,rfl,g,hk⟩:=hr2
  repeat (any_goals (first | assumption | wp_step))
  exact h _ _ g hk
end
end Ws
namespace L2
open PySem PySem.Spec PyProof.Rows
noncomputable def NT (P:Program) (w:World) (a:Addr) (τ:List Str):HO:=.ext fun h=>Ws.Ia P w h a (Wd.Dw w) τ
theorem Rq {P:Program} {w:World} {H:Hp} {h:Heap} {a:Addr} {τ:List Str} (g:Ws.Ia P w h a (Wd.Dw w) τ):Bv P w H h a (NT P w a τ) :=
 ⟨g,(let ⟨_,_,_,e,_⟩:=g; ⟨_,e⟩),fun _ _ g k=>g.keep k⟩
theorem Kh:∀ {ts:List Str} {us:List Value},Vals (ts.map V.str) us->Ws.StrsAre us ts
 | [],_,r=>by cases r; exact .nil
 | n::ns,_,r=>by
  cases r with
  | cons r t =>
   obtain ⟨tk,rfl⟩:=r
   exact .cons n tk (Kh t)
section
variable {X:Cx}
theorem QS (hc:X.calm=true):Eg X (.type "set") (fun xs H Q=>∃ (l:Addr) (ts:List Str),xs=[V.ref l]/\Ft X.K H l (ts.map V.str)/\ts.length<=1000/\∀ p,H p=none->Q (.ref p) (upd H p (NT X.prog X.w p (ts.foldl Ws.Fe [])))):=by
 intro pins s σ H xs us Q I r h
 obtain ⟨l,ts,rfl,hl,hz,q⟩:=h
 obtain ⟨u,rfl,ru⟩:=vals1 r
 cases ru
 obtain ⟨its,rv,pl,_⟩:=I.tuple hl
 have hn:H s.heap.objs.size=none:=I.hok.fresh (Nat.le_refl _)
 refine Ws.dW (I.ok.hd hc) pl (by simpa using Kh rv) (by unfold scanBound; omega) fun h' tk g k=>?_
 exact ⟨.ref s.heap.objs.size,_,I.laid (t':=tk) k (Nat.le_refl _) (Rq g),rfl,q _ hn⟩
theorem J7:Eg X (.builtin "len") (fun xs H Q=>∃ (a:Addr) (τ:List Str),xs=[V.ref a]/\H a=some (NT X.prog X.w a τ)/\Q (.int (τ.length:Nat)) H):=by
 intro pins s σ H xs us Q I r h
 obtain ⟨a,τ,rfl,ha,q⟩:=h
 obtain ⟨u,rfl,ru⟩:=vals1 r
 cases ru
 obtain ⟨⟨es,ep,t,e1,e2,e3,e4,e5,e6,e7,e8⟩,_,_⟩:=(show Bv X.prog X.w H s.heap a (NT X.prog X.w a τ) from I.hok a _ ha)
 unfold scanBound at e6
 refine call_len_set e1 ⟨rfl,rfl,rfl⟩ rfl e7 (by omega) ⟨.int ((es.size:Nat):Int),H,I.tok _,⟨_,rfl⟩,?_⟩
 rw [e4]
 exact q
end
theorem KY:∀ (ts τ:List Str),(τ++ts).Nodup->(ts.foldl Ws.Fe τ)=τ++ts
 | [],τ,_=>(List.append_nil _).symm
 | t::ts,τ,h=>by
  have hn:t ∉ τ:=fun z=>by
   rw [List.nodup_append] at h
   exact h.2.2 t z t (List.mem_cons_self ..) rfl
  rw [List.foldl_cons]
  have e:Ws.Fe τ t=τ++[t]:=by unfold Ws.Fe; rw [if_neg hn]
  rw [e,KY ts (τ++[t]) (by rw [List.append_assoc]; exact h),List.append_assoc]
  rfl
end L2
namespace L2
open PySem PySem.Spec PyProof.Rows
section
variable {X:Cx}
end
end L2
namespace L2
open PySem PySem.Spec PyProof.Rows
section
variable {σ:St} {H1:Hp} {Q:VK} {tt:TT} {te:TE}
theorem J3 {K:PySem.W.Frag} {a:Addr} {xs:List V} (p:V->Bool) (f:V->V) (hl:Ft K H1 a xs) (hz:xs.length<sizeLine)
  (ht:∀ x∈xs,∀ H,Ak H1 H->∀ R:Bool->Hp->Prop,(∀ H',Ak H H'->R (p x) H')->tt (some x::σ) H R)
  (he:∀ x∈xs,p x=true->∀ H,Ak H1 H->∀ R:VK,(∀ H',Ak H H'->R (f x) H')->te (some x::σ) H R)
  (hq:∀ D H,H1 D=none->Ak H1 H->H D=some (.lst ((xs.filter p).map f))->Q (.ref D) H):GF (j6 K a) σ H1 Q tt te :=
 Gf p f hz (fun i H x hs hx=>⟨xs,x,hs.tup hl,hx⟩) (fun i H y H' hs _ hy=>⟨hy.1,hy.2 xs (hs.tup hl)⟩) (fun H hs=>⟨xs,hs.tup hl,Nat.le_refl _⟩) ht he hq
end
end L2
namespace Og
open PySem L2
theorem Vo {X:Cx} {K:PySem.W.Frag} {e:Expr} {f:Str} {pos:Pos} {ta:TE} (hK:X.K=K) (he:PE X e ta) (hb:attributeBase e f X.env (eval e X.env)=eval e X.env):PE X (.Attribute e f pos) (bw K ta f):=by
 rw [← hK]
 exact Bf he hb
structure Xj (K:PySem.W.Frag) (aM:Addr) (ρ:V->R) (vs:List V) (r:R):Prop where
 w:r.w = "step"
 ts:∃ ts:List Str,V.str r.nm::r.rest=ts.map V.str/\ts.Nodup/\ts.length<=24/\∀ t∈ts,isNm t/\Uy ρ vs "stop" t=true
 room:∃ (m:Int) (t:Tok),PySem.W.nsIn K aM r.w=some (some (.int m t))/\(((vs.filter (pw ρ r.w)).length:Nat):Int)<m
noncomputable abbrev Gm (K:PySem.W.Frag) (aB aP aM:Addr) (ρ:V->R) (vs:List V) (r:R):Prop:=JD K aB aP aM ρ vs r \/ Xj K aM ρ vs r
theorem Gm.room {K:PySem.W.Frag} {aB aP aM:Addr} {ρ:V->R} {vs:List V} {r:R} (h:Gm K aB aP aM ρ vs r):PySem.W.nsIn K aM r.w=some none \/ ∃ (m:Int) (t:Tok),PySem.W.nsIn K aM r.w=some (some (.int m t))/\(((vs.filter (pw ρ r.w)).length:Nat):Int)<m :=
 h.elim (fun h=>h.room.elim (fun z=>.inl z.2) .inr) (fun h=>.inr h.room)
noncomputable def K_ (r:R):List Str:=(V.str r.nm::r.rest).map fun v=>match v with | .str t=>t | _=>""
theorem Fl {r:R} {ts:List Str} (h:V.str r.nm::r.rest=ts.map V.str):K_ r=ts:=by
 unfold K_
 rw [h,List.map_map]
 exact List.map_id ts
noncomputable def stN (ks:List R) (r:R):Nat:=Wd.mk ((K_ r).map fun t=>(ks.map (·.nm)).idxOf t)
structure gR (K:PySem.W.Frag) (aB aP aM:Addr) (ρ:V->R) (us:List V) (bs:List (Str × Nat)) (rk:List (Str × Nat × Int)) (ks:List R):Prop where
 eb:(us.filter (pw ρ "board")).map ρ=bs.map Fx
 er:(us.filter (pw ρ "rank")).map ρ=rk.map GQ
 ek:(us.filter (fun v=>Eh (ρ v).w)).map ρ=ks
 ln:∀ (i:Nat) v,us[i]? = some v->(ρ v).w = "line"->(∃ (j:Nat) (r:Str × Nat × Int) (sh lo hi:Int),rk[j]? = some r/\r.1=(ρ v).nm/\(ρ v).rest=[.int sh,.int lo,.int hi])/\∃ u∈us.take i,Eh (ρ u).w=true
 st:∀ v∈us,(ρ v).w = "step"->∃ ts:List Str,V.str (ρ v).nm::(ρ v).rest=ts.map V.str/\ts.length<=24/\∀ t∈ts,t∈ks.map (·.nm)
 b0:1<=bs.length
 b5:bs.length<=5
 sz:∀ b∈bs,b.2<=61
 nr:rk.length<=12
 nz:∀ r∈rk,r.2.1<=97
 nk:ks.length<=100
 nb:(bs.map (·.1)).Nodup
 nrr:(rk.map (·.1)).Nodup
 nn:(ks.map (·.nm)).Nodup
 len:us.length<=150
 ok:∀ (i:Nat) v,us[i]? = some v->Gm K aB aP aM ρ (us.take i) (ρ v)
structure Iz (C:Addr) (H:Hp) (x:Addr) (us:List V) (bs:List (Str × Nat)) (rk:List (Str × Nat × Int)) (ks:List R) (ls:List (List Ln)) (sts:List Nat):Prop where
 o:Kz C H x bs rk ks ls
 m:∃ (dx:Addr) (fs:List (Str × V)) (rl kd ss:Addr) (kvs:List (Key × V)),H x=some (.ins C dx fs)/\fs.lookup ("row_list" : Str)=some (.ref rl)/\fs.lookup ("knob_numbers" : Str)=some (.ref kd)/\fs.lookup ("step_sets" : Str)=some (.ref ss) /\
  H rl=some (.lst us)/\H kd=some (.dK kvs)/\(∀ (i:Nat) t,(ks.map (·.nm))[i]? = some t->CT kvs (Sum.inr t)=some (.int (i:Nat)))/\(∀ t,t ∉ ks.map (·.nm)->CT kvs (Sum.inr t)=none)/\H ss=some (.lst (sts.map fun n:Nat=>V.int (n:Int))) /\
  ∃ (bn:Addr) (kb:List (Key × V)),fs.lookup ("board_numbers" : Str)=some (.ref bn)/\H bn=some (.dK kb)/\∀ t,t ∉ bs.map (·.1)->CT kb (Sum.inr t)=none
theorem Iz.mono {C:Addr} {H H':Hp} {x:Addr} {us:List V} {bs:List (Str × Nat)} {rk:List (Str × Nat × Int)} {ks:List R} {ls:List (List Ln)} {sts:List Nat} (s:Ak H H') (h:Iz C H x us bs rk ks ls sts):Iz C H' x us bs rk ks ls sts:=by
 obtain ⟨o,dx,fs,rl,kd,ss,kvs,h1,l1,l2,l3,h2,h3,h4,h5,h6,bn,kb,h7,h8,h9⟩:=h
 exact ⟨o.mono s,dx,fs,rl,kd,ss,kvs,s _ _ h1,l1,l2,l3,s _ _ h2,s _ _ h3,h4,h5,s _ _ h6,bn,kb,h7,s _ _ h8,h9⟩
noncomputable def Ds (p:Addr) (H:Hp) (D:Addr) (ls:List (List Ln)):Prop:=∃ lv,H D=some (.lst lv)/\D ≠ p/\Paired (fun l v=>Ga H l v/\v ≠ .ref p) ls lv
theorem Ds.mono {p:Addr} {H H':Hp} {D:Addr} {ls:List (List Ln)} (s:Ak H H') (h:Ds p H D ls):Ds p H' D ls:=by
 obtain ⟨lv,h1,h2,h3⟩:=h
 exact ⟨lv,s _ _ h1,h2,Paired.Hz h3 fun _ _ q=>⟨q.1.mono s,q.2⟩⟩
theorem Ds.sx {p x C dx:Addr} {fs:List (Str × V)} {H H':Hp} {D:Addr} {ls:List (List Ln)} (h:Ds p H D ls) (s:SX x H H') (hx:H x=some (.ins C dx fs)):Ds p H' D ls:=by
 obtain ⟨lv,h1,h2,h3⟩:=h
 refine ⟨lv,s.lst hx h1,h2,Paired.Hz h3 fun _ _ q=>⟨?_,q.2⟩⟩
 obtain ⟨A,ts,e,h4,h5⟩:=q.1
 exact ⟨A,ts,e,s.lst hx h4,s.pair hx h5⟩
theorem UL {p:Addr} {H H':Hp} {us zs:List V} {y:V} (s:SX p H H') (hp:H p=some (.lst us)) (h:TupAt H zs y):TupAt H' zs y:=by
 obtain ⟨T,rfl,e⟩:=h
 exact ⟨T,rfl,s _ _ e fun z=>by rw [z,hp] at e; cases e⟩
theorem Hs {α:Type} {f:α->List V} {p:Addr} {H H':Hp} {us vs:List V} {l:List α} (s:SX p H H') (hp:H p=some (.lst us)) (h:Paired (fun a y=>TupAt H (f a) y) l vs):Paired (fun a y=>TupAt H' (f a) y) l vs:=Paired.Hz h fun _ _ q=>UL s hp q
theorem Pj {p a:Addr} {H H':Hp} {us:List V} {kvs:List (Key × V)} (s:SX p H H') (hp:H p=some (.lst us)) (h:H a=some (.dK kvs)):H' a=some (.dK kvs):=s _ _ h fun z=>by rw [z,hp] at h; cases h
theorem Ds.sp {p:Addr} {H H':Hp} {us:List V} {D:Addr} {ls:List (List Ln)} (h:Ds p H D ls) (s:SX p H H') (hp:H p=some (.lst us)):Hr H' D ls:=by
 obtain ⟨lv,h1,h2,h3⟩:=h
 refine ⟨lv,s _ _ h1 h2,Paired.Hz h3 fun _ v q=>?_⟩
 obtain ⟨⟨A,ts,rfl,h4,h5⟩,hn⟩:=q
 exact ⟨A,ts,rfl,s _ _ h4 (fun z=>hn (by rw [z])),Hs s hp h5⟩
end Og
namespace L2
open PySem PySem.Spec PyProof.Rows
noncomputable def Dp:Nat->Hp->V->V->Prop
 | 0,_,x,y=>x=y/\Do x=true
 | n+1,H,x,y=>(x=y/\Do x=true) \/ ∃ a b xs ys,x=V.ref a/\y=V.ref b/\((H a=some (.lst xs)/\H b=some (.lst ys)) \/ (H a=some (.tup xs)/\H b=some (.tup ys)))/\Paired (Dp n H) xs ys
theorem Py {n:Nat} {H:Hp} {x:V} (h:Do x=true):Dp n H x x:=by
 cases n with
 | zero=>exact ⟨rfl,h⟩
 | succ n=>exact .inl ⟨rfl,h⟩
theorem Ed {R:V->V->Prop}:∀ {xs ys:List V},Paired R xs ys->∀ j,j<xs.length->R (xs.getD j .non) (ys.getD j .non)
 | _,_,.nil,j,h=>absurd h (Nat.not_lt_zero _)
 | _,_,.cons a b,0,_=>a
 | _,_,.cons a b,j+1,h=>Ed b j (Nat.lt_of_succ_lt_succ h)
section
variable {X:Cx} {pins:List (Addr × Obj)} {σ:St} {H:Hp} {s:Shared}
theorem Je (I:Inv X pins σ H s):∀ (n:Nat) (A:Around) (x y:V) (u v:Value),A.units+n<cLine->Dp n H x y->RelV x u->RelV y v->SeqAt.EqAt A s u v true
 | 0,A,x,y,u,v,hu,h,rx,ry=>by
  obtain ⟨rfl,hf⟩:=h
  have:=Ny (A:=A) (s:=s) rx ry hf hf
  rw [M5 hf] at this
  exact this
 | n+1,A,x,y,u,v,hu,h,rx,ry=>by
  rcases h with ⟨rfl,hf⟩ | ⟨a,b,xs,ys,rfl,rfl,hab,p⟩
  ·have:=Ny (A:=A) (s:=s) rx ry hf hf
   rw [M5 hf] at this
   exact this
  ·cases rx
   cases ry
   by_cases hne:a=b
   ·subst hne
    exact SeqAt.EqAt.same _
   ·refine SeqAt.EqAt.of_refs hne ?_
    have pl:=p.length
    rcases hab with ⟨ha,hb⟩ | ⟨ha,hb⟩
    ·obtain ⟨i1,r1,p1,_⟩:=I.list (show Cw X.K H a xs from .inl (.inl ha))
     obtain ⟨i2,r2,p2,_⟩:=I.list (show Cw X.K H b ys from .inl (.inl hb))
     have l1:=r1.length
     have l2:=r2.length
     have h:=SeqAt.RcAt.lists (A:=A) (e:=fun _=>true) p1.isList p2.isList (by simp; omega) (by omega) (fun j h1 h2=>by
      have h1':j<i1.length:=by simpa using h1
      have h2':j<i2.length:=by simpa using h2
      simp only [List.getElem_toArray]
      exact Je I n A.in1 _ _ _ _ (by show A.units+1+n<cLine; omega) (Ed p j (by omega)) (Fd r1 h1') (Fd r2 h2'))
     have e:((List.range i1.toArray.size).all fun _=>true)=true:=List.all_eq_true.mpr fun _ _=>rfl
     rw [e] at h
     exact h
    ·obtain ⟨i1,r1,p1,_⟩:=I.tuple (show Ft X.K H a xs from .inl (.inl ha))
     obtain ⟨i2,r2,p2,_⟩:=I.tuple (show Ft X.K H b ys from .inl (.inl hb))
     have l1:=r1.length
     have l2:=r2.length
     have h:=SeqAt.RcAt.tuples (A:=A) (e:=fun _=>true) p1 p2 (by omega) (fun j h1 h2=>by
      have h1':j<i1.length:=by simpa using h1
      have h2':j<i2.length:=by simpa using h2
      simp only [List.getElem_toArray]
      exact Je I n A.in1 _ _ _ _ (by show A.units+1+n<cLine; omega) (Ed p j (by omega)) (Fd r1 h1') (Fd r2 h2'))
     have e:((List.range (min i1.toArray.size i2.toArray.size)).all fun _=>true)=true:=List.all_eq_true.mpr fun _ _=>rfl
     have e2:(i1.toArray.size == i2.toArray.size)=true:=beq_iff_eq.mpr (by simp; omega)
     rw [e,e2] at h
     exact h
end
section
variable {X:Cx}
theorem Jt (n:Nat) (hu:X.A.units+(n+1)<cLine):HJ X (compareOp .NotEq) (fun x y H Q=>∃ a b,x=V.ref a/\y=V.ref b/\Dp (n+1) H x y/\Q (.bl false) H):=by
 intro pins s σ H x y v u Q I rx ry h
 obtain ⟨a,b,rfl,rfl,h,k⟩:=h
 rcases h with ⟨_,hf⟩ | ⟨a',b',xs,ys,ea,eb,hab,p⟩
 ·cases hf
 cases ea
 cases eb
 cases rx
 cases ry
 have pl:=p.length
 rcases hab with ⟨ha,hb⟩ | ⟨ha,hb⟩
 ·obtain ⟨i1,r1,p1,_⟩:=I.list (show Cw X.K H a xs from .inl (.inl ha))
  obtain ⟨i2,r2,p2,_⟩:=I.list (show Cw X.K H b ys from .inl (.inl hb))
  have l1:=r1.length
  have l2:=r2.length
  refine SeqAt.RcNeAt.lists (e:=fun _=>true) p1.isList p2.isList (by simp; omega) (by omega) (fun j h1 h2=>by
   have h1':j<i1.length:=by simpa using h1
   have h2':j<i2.length:=by simpa using h2
   simp only [List.getElem_toArray]
   exact Je I n X.A.in1 _ _ _ _ (by show X.A.units+1+n<cLine; omega) (Ed p j (by omega)) (Fd r1 h1') (Fd r2 h2')) _ _ _ _ ⟨.bl false,H,I,?_,k⟩
  have e:((List.range i1.toArray.size).all fun _=>true)=true:=List.all_eq_true.mpr fun _ _=>rfl
  rw [e]
  exact rfl
 ·obtain ⟨i1,r1,p1,_⟩:=I.tuple (show Ft X.K H a xs from .inl (.inl ha))
  obtain ⟨i2,r2,p2,_⟩:=I.tuple (show Ft X.K H b ys from .inl (.inl hb))
  have l1:=r1.length
  have l2:=r2.length
  refine SeqAt.RcNeAt.tuples (e:=fun _=>true) p1 p2 (by omega) (fun j h1 h2=>by
   have h1':j<i1.length:=by simpa using h1
   have h2':j<i2.length:=by simpa using h2
   simp only [List.getElem_toArray]
   exact Je I n X.A.in1 _ _ _ _ (by show X.A.units+1+n<cLine; omega) (Ed p j (by omega)) (Fd r1 h1') (Fd r2 h2')) _ _ _ _ ⟨.bl false,H,I,?_,k⟩
  have e:((List.range (min i1.toArray.size i2.toArray.size)).all fun _=>true)=true:=List.all_eq_true.mpr fun _ _=>rfl
  have e2:(i1.toArray.size == i2.toArray.size)=true:=beq_iff_eq.mpr (by simp; omega)
  rw [e,e2]
  exact rfl
end
end L2
namespace L2
open PySem PySem.Spec PySem.Calls PyProof.Rows
noncomputable def Yj (h:Heap) (x T C:Addr) (od:Option Addr) (fl:Value):Prop :=
 ∃ (vs ts:Array Value) (sl:Array (Option Value)) (oT:Obj),h.get? x=some ⟨.ref C,od,.fields vs,sl⟩/\vs[1]? = some (.ref T)/\T ≠ x/\h.get? T=some oT/\oT.data=.fields ts/\ts[3]? = some fl
structure Mv (fs:List Addr) (x T:Addr) (h h':Heap):Prop where
 keep:∀ b o,h.get? b=some o->b ≠ x->b ≠ T->b ∉ fs->h'.get? b=some o
 any:∀ b o,h.get? b=some o->b ≠ x->b ≠ T->∃ sl,h'.get? b=some { o with slots:=sl }
section
variable {M:Model} {A:Around} {E:Value->Shared->Prop} {s:Shared} {base:Heap} {env:Env} {outer:List Env} {L x T C:Addr} {od:Option Addr} {Q:Unit->Shared->Prop}
theorem Js {vs:Array Value} {sl:Array (Option Value)} {head:Value} {hadNext:Bool} (hfr:A.frames=some (env::outer)) (hl:s.heap.FunFrames base (env::outer)) (hf:env.frame=some L)
  (he:s.heap.get? x=some ⟨.ref C,od,.fields vs,sl⟩) (hsz:1<vs.size)
  (h:∀ h' T',Yj h' x T' C od (rawInt L)->Mv (frs (env::outer)) x x s.heap h'->s.heap.get? T'=none->Q () { s with heap:=h' }) :
  wpAny M A (do let a ← frameOf env; let pl ← entryPlaceOf L hadNext; let b ← EntryCells.newEntry head a .none (rawInt L) .none pl; setField (.ref x) 1 b) Q E s:=by
 have hene:x ∉ (env::outer).filterMap (·.frame):=fun hm=>by
  obtain ⟨_,o,ho,hnf⟩:=hl.mem hm
  rw [he] at ho; injection ho with ho; subst ho; exact hnf vs rfl
 refine wpAny_bind (wpAny_frameOf_fun hfr hl hf fun h₁ hs₁=>?_)
 refine wpAny_bind (wpAny_entryPlaceOf fun pl hpl=>?_)
 unfold EntryCells.newEntry newFields
 refine wpAny_bind (wpAny_newObj_type ?_ (hpl.sizeOk5 _ _ _ _ _))
 have he₁:h₁.get? x=some ⟨.ref C,od,.fields vs,sl⟩:=(hs₁.2.1 x hene).trans he
 have he₂:=Heap.get?_push_of_some (h:=h₁) { cls:=.type "traceback",dict:=none,data:=.fields ([head,.ref L,.none,rawInt L,.none]++(if pl.isEmpty then List.replicate 6 Value.none else pl)).toArray } he₁
 refine wpAny_setField he₂ rfl hsz ?_
 have hTe:h₁.objs.size ≠ x:=Nat.ne_of_gt (Heap.lt_size he₁)
 have hd₃:=Obj.data_mapFields (o:=⟨.ref C,od,.fields vs,sl⟩) rfl (·.setIfInBounds 1 (Value.ref h₁.objs.size))
 have he₃:=Heap.get?_update_self (Obj.mapFields (·.setIfInBounds 1 (Value.ref h₁.objs.size))) he₂ (Obj.isFreed_of_fields hd₃)
 have hT₃:=(Heap.get?_update_other (h₁.push { cls:=.type "traceback",dict:=none,data:=.fields ([head,.ref L,.none,rawInt L,.none]++(if pl.isEmpty then List.replicate 6 Value.none else pl)).toArray })
  (Obj.mapFields (·.setIfInBounds 1 (Value.ref h₁.objs.size))) (Ne.symm hTe)).trans (Heap.get?_push_size h₁ rfl)
 refine h _ h₁.objs.size ⟨_,_,sl,_,he₃,by simp [hsz],hTe,hT₃,rfl,by first | (simp; done) | (rcases hpl with rfl | ⟨_,_,_,_,_,_,_,rfl⟩ <;> simp)⟩ ⟨fun b o hb hx _ hn=>?_,fun b o hb hx _=>?_⟩ ?_
 ·rw [Heap.get?_update_other _ _ (Ne.symm hx)]
  exact Heap.get?_push_of_some _ ((hs₁.2.1 b hn).trans hb)
 ·obtain ⟨sl',hs⟩:=hs₁.2.2 b o hb
  rw [Heap.get?_update_other _ _ (Ne.symm hx)]
  exact ⟨sl',Heap.get?_push_of_some _ hs⟩
 ·refine Heap.get?_none_of_le ?_
  rw [hs₁.1]
  exact Nat.le_refl _
theorem Oe {vs:Array Value} {sl:Array (Option Value)} (hfr:A.frames=some (env::outer)) (hl:s.heap.FunFrames base (env::outer)) (hf:env.frame=some L)
  (he:s.heap.get? x=some ⟨.ref C,od,.fields vs,sl⟩) (h1:vs[1]? = some .none)
  (h:∀ h' T',Yj h' x T' C od (rawInt L)->Mv (frs (env::outer)) x x s.heap h'->s.heap.get? T'=none->Q () { s with heap:=h' }):wpAny M A (noteFrame (.ref x) env) Q E s:=by
 unfold noteFrame
 simp only [hf]
 refine wpAny_bind (wpAny_field he rfl h1 ?_)
 rw [if_neg (by decide)]
 exact Js hfr hl hf he (Array.getElem?_eq_some_iff.mp h1).1 h
theorem QD (hfr:A.frames=some (env::outer)) (hl:s.heap.FunFrames base (env::outer)) (hf:env.frame=some L) (hy:Yj s.heap x T C od .none)
  (h:∀ h' T',Yj h' x T' C od (rawInt L)->Mv (frs (env::outer)) x T s.heap h'->s.heap.get? T'=none->Q () { s with heap:=h' }):wpAny M A (noteFrame (.ref x) env) Q E s:=by
 obtain ⟨vs,ts,sl,oT,he,h1,hTe,hT,hdT,h3⟩:=hy
 have hsz3:=(Array.getElem?_eq_some_iff.mp h3).1
 unfold noteFrame
 simp only [hf]
 refine wpAny_bind (wpAny_field he rfl h1 ?_)
 rw [if_pos (show (Value.ref T != Value.none)=true from by simp)]
 refine wpAny_bind (wpAny_field hT hdT h3 ?_)
 rw [if_neg (show ¬ ((Value.none == rawInt L)=true) from by simp [rawInt])]
 refine wpAny_bind (wpAny_setField hT hdT hsz3 ?_)
 have other:∀ b,b ≠ T->(s.heap.update T (Obj.mapFields (·.setIfInBounds 3 Value.none))).get? b=s.heap.get? b:=fun b hb=>Heap.get?_update_other _ _ (Ne.symm hb)
 have hTn:=Heap.get?_update_self (Obj.mapFields (·.setIfInBounds 3 Value.none)) hT (Obj.isFreed_of_fields (Obj.data_mapFields hdT _))
 have noRecord:∀ b o,s.heap.get? b=some o->(∀ vs,o.data ≠ .fields vs)->b ≠ T:=fun b o hb hnf q=>by
  rw [q,hT] at hb; injection hb with hb; subst hb; exact hnf ts hdT
 refine Js (s:={ s with heap:=s.heap.update T (Obj.mapFields (·.setIfInBounds 3 Value.none)) }) hfr (hl.of_keeps fun b o hb hnf=>⟨o,(other b (noRecord b o hb hnf)).trans hb,rfl⟩) hf ((other x (Ne.symm hTe)).trans he) (Array.getElem?_eq_some_iff.mp h1).1 fun h' T' y m n=>?_
 have nT:T' ≠ T:=fun z=>by
  subst z
  have n':(s.heap.update T' (Obj.mapFields (·.setIfInBounds 3 Value.none))).get? T'=none:=n
  rw [hTn] at n'; cases n'
 exact h h' T' y ⟨fun b o hb hx ht hn=>m.keep b o ((other b ht).trans hb) hx hx hn,fun b o hb hx ht=>m.any b o ((other b ht).trans hb) hx hx⟩ ((other T' nT).symm.trans n)
theorem FQ {fl:Value} (hy:Yj s.heap x T C od fl) (h:∀ h',Yj h' x T C od .none->Mv [] x T s.heap h'->Q () { s with heap:=h' }):wpAny M A (setFlight (.ref x) none) Q E s:=by
 obtain ⟨vs,ts,sl,oT,he,h1,hTe,hT,hdT,h3⟩:=hy
 have hsz3:3<ts.size:=(Array.getElem?_eq_some_iff.mp h3).1
 have other:∀ b,b ≠ T->(s.heap.update T (Obj.mapFields (·.setIfInBounds 3 ((none:Option Addr).elim Value.none fun f=>rawInt f)))).get? b=s.heap.get? b :=
  fun b hb=>Heap.get?_update_other _ _ (Ne.symm hb)
 unfold setFlight
 refine wpAny_bind (wpAny_field he rfl h1 ?_)
 rw [if_pos (show (Value.ref T != Value.none)=true from by simp)]
 refine wpAny_setField hT hdT hsz3 (h _ ?_ ⟨fun b o hb _ ht _=>(other b ht).trans hb,fun b o hb _ ht=>⟨o.slots,(other b ht).trans hb⟩⟩)
 exact ⟨vs,_,sl,_,(other x (Ne.symm hTe)).trans he,h1,hTe,Heap.get?_update_self _ hT (Obj.isFreed_of_fields (Obj.data_mapFields hdT _)),Obj.data_mapFields hdT _,by simp [hsz3]⟩
end
section
variable {P:Program} {w:World} {fs:List Addr} {H H':Hp} {h h1 h2 h3:Heap} {x T T':Addr}
theorem Oc {h:Heap} {b y:Addr} {o:Obj} (e:h.get? b=some o) (n:h.get? y=none):b ≠ y:=fun z=>by
 rw [z,n] at e
 cases e
theorem Ef.mv (k:Ef P w H h) (m:Mv fs x T h h1) (hx:H x=none) (hT:H T=none) (hf:∀ b∈fs,H b=none):Ef P w H h1:=fun b u e=>by
 have ne:∀ c,H c ≠ none->c ≠ x/\c ≠ T/\c ∉ fs:=fun c q=>⟨fun z=>q (z ▸ hx),fun z=>q (z ▸ hT),fun z=>q (hf c z)⟩
 refine (k b u e).stay (fun c v hc q=>?_) (fun _ q=>q) fun _ _ q=>q
 have hq:H c ≠ none:=by
  rcases hc with z | z
  ·rw [z,e]; simp
  ·rw [z]; simp
 obtain ⟨a1,a2,a3⟩:=ne c hq
 exact m.keep c v q a1 a2 a3
theorem Un.mv {gs:List Addr} (u:Un gs [] H H' h h1) (m:Mv fs x T h1 h2) (hx:h.get? x=none) (hT:h.get? T=none) (hf:∀ b∈fs,b ∉ gs->h.get? b=none):Un gs [] H H' h h2:=by
 have ne:∀ b o,h.get? b=some o->b ≠ x/\b ≠ T:=fun b o e=>⟨Oc e hx,Oc e hT⟩
 refine ⟨fun b o e n hb hx'=>?_,fun b o e n hb hx'=>?_,u.free,fun b o e hx'=>?_,u.tups,u.frzs,u.tbls⟩
 ·obtain ⟨a1,a2⟩:=ne b o e
  refine m.keep b o (u.keep b o e n hb hx') a1 a2 fun z=>?_
  have:=hf b z hb
  rw [e] at this; cases this
 ·obtain ⟨a1,a2⟩:=ne b o e
  obtain ⟨sl,e1⟩:=u.slot b o e n hb hx'
  obtain ⟨sl',e2⟩:=m.any b _ e1 a1 a2
  exact ⟨sl',e2⟩
 ·obtain ⟨a1,a2⟩:=ne b o e
  obtain ⟨o',e1⟩:=u.there b o e hx'
  obtain ⟨sl,e2⟩:=m.any b o' e1 a1 a2
  exact ⟨_,e2⟩
end
noncomputable def JG (P:Program) (w:World):L_:=fun outer H s E e s'=>∃ (x T C:Addr) (od:Option Addr) (H':Hp),e=.ref x/\s'.os=s.os/\AllBare s'.gens/\Yj s'.heap x T C od .none/\s.heap.get? x=none/\s.heap.get? T=none /\
 H' x=none/\H' T=none/\Ef P w H' s'.heap/\Un (frs outer) [] H H' s.heap s'.heap/\E (.ref C) od H'
noncomputable def Z2 (X:Cx) (C:Addr) (E:XK):Prop:=∀ (pins:List (Addr × Obj)) (σ:St) (H:Hp) (s:Shared) (h':Heap) (x:Addr) (as:List Value),Inv X pins σ H s->Heap.MadeExcOf s.heap h' x (.ref C) as->E (.ref C) none H->X.xe (.ref x) { s with heap:=h' }
theorem Ht {P:Program} {w:World} {K:PySem.W.Frag} {mg:Str->Option Value} {base:Heap} {N:List Str} {qual:Str} {scope:Scope} {f:Addr} {cd:Value} {A:Around} {outer:List Env} {s:Shared} {H:Hp} {E:XK} {C:Addr} :
  Z2 (JV (JG P w) P w K mg base N qual scope f cd A outer s H E) C E:=by
 intro pins σ H1 s1 h' x as I hm q
 obtain ⟨t,he,htn,ht⟩:=hm.there
 have gone:∀ b,s1.heap.get? b=none->s.heap.get? b=none:=fun b e=>by
  cases z:s.heap.get? b with
  | none=>rfl
  | some o =>
   obtain ⟨o',e'⟩:=I.base.there b o z (by show b ∉ ([]:List Addr); simp)
   rw [e] at e'; cases e'
 have hx1:H1 x=none:=I.hok.none_of hm.new
 have frees:∀ b∈frs (envOfC qual scope s.heap.objs.size f cd::outer),H1 b=none:=I.G7
 have hfr:(A.deeper (envOfC qual scope s.heap.objs.size f cd)).frames=some (envOfC qual scope s.heap.objs.size f cd::outer):=I.ok.frames
 have hff:s1.heap.FunFrames base (envOfC qual scope s.heap.objs.size f cd::outer):=I.stack
 have u0:Un (frs outer) [] H H1 s.heap s1.heap:=I.base
 have hok1:Ef P w H1 s1.heap:=I.hok
 have fsN:∀ b∈frs (envOfC qual scope s.heap.objs.size f cd::outer),b ∉ frs outer->s.heap.get? b=none:=fun b hb hn=>by
  rcases List.mem_cons.mp (show b∈s.heap.objs.size::frs outer from hb) with z | z
  ·rw [z]; exact Heap.get?_none_of_le (Nat.le_refl _)
  ·exact absurd z hn
 show wpAny (model P w) (A.deeper (envOfC qual scope s.heap.objs.size f cd)) (leaving (envOfC qual scope s.heap.objs.size f cd) (.ref x)) _ _ _
 unfold leaving
 refine wpAny_bind (Oe (s:={ s1 with heap:=h' }) (L:=s.heap.objs.size) hfr (hff.of_keeps fun b o hb _=>⟨o,hm.keeps b o hb,rfl⟩) rfl he rfl fun h2 T y m n=>?_)
 refine FQ (s:={ s1 with heap:=h2 }) y fun h3 y3 m3=>?_
 have nT1:s1.heap.get? T=none:=by
  cases z:s1.heap.get? T with
  | none=>rfl
  | some o =>
   have n':h'.get? T=none:=n
   rw [hm.keeps T o z] at n'; cases n'
 have hT1:H1 T=none:=hok1.none_of nT1
 have hokA:Ef P w H1 h':=hok1.kept hm.keeps
 have hokB:Ef P w H1 h2:=hokA.mv m hx1 hx1 frees
 have hokC:Ef P w H1 h3:=hokB.mv m3 hx1 hT1 (fun _ z=>nomatch z)
 have uA:Un (frs outer) [] H H1 s.heap h':=u0.trans (Un.kept hm.keeps)
 have uB:Un (frs outer) [] H H1 s.heap h2:=uA.mv m (gone x hm.new) (gone x hm.new) fsN
 have uC:Un (frs outer) [] H H1 s.heap h3:=uB.mv m3 (gone x hm.new) (gone T nT1) (fun _ z=>nomatch z)
 exact ⟨x,T,C,none,H1,rfl,I.os,I.bare,y3,gone x hm.new,gone T nT1,hx1,hT1,hokC,uC,q⟩
section
variable {X:Cx} {C:Addr} {x:Str} {e:Expr} {es:List Expr} {t:TA} {np cpos pos:Pos} {E:XK}
noncomputable def YW (C:Addr) (E:XK) (t:TA):TS:=fun _ σ H=>t σ H fun vs H1=>vs.length<=1000/\E (.ref C) none H1
theorem Gk (q:PySem.W.excIn X.K C Va "ValueError.__new__" = true) (hg:Gl X x) (hm:X.mg x=some (.ref C)) (hc:X.calm=true) (hl:Z2 X C E) (ha:PA X (e::es) t)
  (hdb:(x == ("__debug__" : Str))=false:=by decide) (he:starEach (e::es) X.env=(false,eval e X.env)::starEach es X.env:=by rfl) (hpl:(backTo cpos (starEach es X.env)).any (·.1)=false:=by rfl) :
  PS X (.Raise (some (.Call (.Name x np) (e::es) [] cpos)) none pos) (YW C E t):=by
 intro pins s σ H D I h
 obtain ⟨bm,N,nm,qn,bs,hdct,sn,sub,ab,col,dd,k0,k1,k2,k3,k5,mN,hC,hN,hni,TL⟩:=QG I.ok.mod.kin q
 have hplain:(backTo cpos (starEach (e::es) X.env)).any (·.1)=false:=by
  rw [he]
  show (false || (backTo cpos (starEach es X.env)).any (·.1))=false
  rw [hpl]; rfl
 refine wpAny_Raise_call_subU (nm:=nm) (q:=qn) (C:=C) (N:=N) (bs:=bs) (bm:=bm) (hdct:=hdct) (sn:=sn) (sub:=sub) (ab:=ab) (col:=col) (dd:=dd) (k0:=k0) (k1:=k1) (k2:=k2) (k3:=k3) (k5:=k5) (mN:=mN)
  PySem.F.excBase_ValueError (by decide) PySem.F.excBase_ValueError (TL.hasType (by decide)) (I.ok.hd hc) hplain hni (Gx I hg hm ⟨rfl,?_⟩ hdb)
 have:=ha cpos pins s σ H _ I h
 rw [he] at this ⊢
 refine Calls.evalArgs_plain (Bx this fun us s1 ⟨vs,H1,I1,r,hz,q1⟩=>⟨rfl,?_,I1.bk _ _ hC,hN.keeps I1.bk,TL.keeps I1.bk,fun h' x hm'=>?_⟩)
 ·show us.length<=sizeLine
  rw [← r.length]
  exact Nat.le_of_lt (A_ hz)
 ·exact hl pins σ H1 s1 h' x _ I1 hm' q1
end
theorem NB {prog:Program} {w:World} {A:Around} {E:Value->Shared->Prop} {s:Shared} {K:PySem.W.Frag} {x C O:Addr} {od:Option Addr} {d:Data} {sl:Array (Option Value)} {b:Bool} {Q:Bool->Shared->Prop}
  (X:K.In s.heap) (he:s.heap.get? x=some ⟨.ref C,od,d,sl⟩) (q:PySem.W.excIn K O Va "ValueError.__new__" = true) (hm:PySem.W.mroIn K C (.ref O)=some b) (h:Q b s):wpAny (model prog w) A (excMatches (.ref x) (.ref O)) Q E s:=by
 obtain ⟨bm,N,nm,qn,bs,hdct,sn,sub,ab,col,dd,k0,k1,k2,k3,k5,mN,hC,hN,hni,TL⟩:=QG X q
 have hbase:bm.contains (.type "BaseException")=true:=TL.hasType (by decide)
 have hcB:(Value.ref O::bm).contains (.type "BaseException")=true:=by rw [List.contains_cons,hbase,Bool.or_true]
 have L:=PySem.W.looks_mroIn (M:=model prog w) X hm
 have f:=tc_notTuple
 obtain ⟨hp,g,dr,tk,os⟩:=s
 unfold excMatches
 repeat (first | with_reducible refine wpAny_loadPart_at he ?_ | with_reducible refine wpAny_loadPart_at hC ?_ | (with_reducible refine wpAny_isSubtype_exc hC ?_; rw [hcB]) | with_reducible refine L.at ?_ | wp_step)
 cases b <;> (wp_walk; exact h)
theorem Un.adopt {gs:List Addr} {H1 H2:Hp} {h h':Heap} {x:Addr} {o:HO} (u:Un gs [] H1 H2 h h') (hx:h.get? x=none) (hn:H2 x=none):Un gs [] H1 (upd H2 x o) h h' :=
 ⟨u.keep,u.slot,fun b ob e n hb=>by rw [Al (Oc e hx)]; exact u.free b ob e n hb,u.there,fun b xs e=>by rw [Al (Ah (u.tups b xs e) hn)]; exact u.tups b xs e,
  fun b ob v e=>by rw [Al (Ah (u.frzs b ob v e) hn)]; exact u.frzs b ob v e,fun b ps e=>by
   obtain ⟨more,e1⟩:=u.tbls b ps e
   exact ⟨more,by rw [Al (Ah e1 hn)]; exact e1⟩⟩
noncomputable abbrev Cx.inX (X:Cx) (x:Addr):Cx:={ X with A:=X.A.mark (some (.ref x)),calm:=false }
section
variable {X:Cx} {pins:List (Addr × Obj)} {σ:St} {H:Hp} {s:Shared}
theorem Inv.inX (I:Inv X pins σ H s) (x:Addr):Inv (X.inX x) pins σ H s :=
 ⟨⟨I.ok.mod,I.ok.kind,I.ok.glob,I.ok.blt,I.ok.above,I.ok.inj,I.ok.has,I.ok.cab,(fun z=>nomatch z),I.ok.frames,I.ok.stk,I.ok.exf,I.ok.bs,I.ok.bsz,I.ok.noex,I.ok.exfs,I.ok.Hc,I.ok.frf⟩,
  I.os,I.bare,I.base,I.loc,I.cell,I.free,I.freeC,I.pin,I.hok,I.len⟩
theorem Inv.U_ {x:Addr} (ok:X.Ok) (I:Inv (X.inX x) pins σ H s):Inv X pins σ H s:=⟨ok,I.os,I.bare,I.base,I.loc,I.cell,I.free,I.freeC,I.pin,I.hok,I.len⟩
theorem name_goes {M:Model} {A:Around} {E:Value->Shared->Prop} {i:Nat} {n:Str} {pos:Pos} {Q:Unit->Shared->Prop} (I:Inv X pins σ H s) (hN:X.N.Nodup) (hi:X.N[i]? = some n) (hk:X.env.kindOf n=some .local)
  (h:∀ s',Inv X pins (σ.set i none) H s'->Q () s'):wpAny M A (do bindName X.env n .none; unbindBehindTheSuite X.env n pos) Q E s:=by
 obtain ⟨m,hn,hl⟩:=id I.loc
 have hcls:(X.env.scope.kind == .class || (X.env.scope.kind == .module && X.env.locals != X.env.globals))=false:=by rw [I.ok.kind]; rfl
 have hiσ:i<σ.length:=by rw [I.len]; exact (List.getElem?_eq_some_iff.mp hi).1
 refine wpAny_nameGoes_keeps hk hn hcls fun h' v hn' hs=>h _ ?_
 obtain ⟨oL,_,_,hoL,_⟩:=id hn
 have nL:∀ b o,X.s₀.heap.get? b=some o->b ≠ X.env.locals:=fun b o e=>Nat.ne_of_lt (Nat.lt_of_lt_of_le (Heap.lt_size e) I.ok.above)
 have tracked:Ef X.prog X.w H h':=fun b ob e=>by
  refine (I.hok b ob e).stay (fun c w' hc q=>(hs.2 c ?_).trans q) (fun _ q=>q) fun _ _ q=>q
  rintro rfl
  have hfree:=I.free
  rcases hc with rfl | hc
  ·rw [hfree] at e; cases e
  ·rw [hfree] at hc; cases hc
 refine ⟨I.ok,I.os,I.bare,⟨fun b o e n hb hx=>?_,fun b o e n hb hx=>?_,I.base.free,fun b o e hx=>?_,I.base.tups,I.base.frzs,I.base.tbls⟩,⟨_,hn',fun j y v' e1 e2 e3=>?_⟩,fun y c e=>?_,I.free,I.freeC,fun p hp=>?_,tracked,by simpa using I.len⟩
 ·exact (hs.2 b (nL b o e)).trans (I.base.keep b o e n hb hx)
 ·obtain ⟨sl,e1⟩:=I.base.slot b o e n hb hx
  exact ⟨sl,(hs.2 b (nL b o e)).trans e1⟩
 ·obtain ⟨o',e1⟩:=I.base.there b o e hx
  exact ⟨o',(hs.2 b (nL b o e)).trans e1⟩
 ·by_cases hj:j=i
  ·subst hj
   rw [List.getElem?_set_self hiσ] at e2
   cases e2
  ·rw [List.getElem?_set_ne (Ne.symm hj)] at e2
   obtain ⟨u',r',q⟩:=hl j y v' e1 e2 e3
   refine ⟨u',r',?_⟩
   rcases q with ⟨k,e⟩ | ⟨k,c,e,z⟩
   ·refine .inl ⟨k,?_⟩
    have:y ≠ n:=fun e=>hj (Jg hN e1 (e ▸ hi))
    simp [this,e]
   ·exact .inr ⟨k,c,e,z.sameBut hs (I.VN y c e)⟩
 ·obtain ⟨w',z⟩:=I.cell y c e
  exact ⟨w',z.sameBut hs (I.VN y c e)⟩
 ·obtain ⟨e,n,ne,nf,d⟩:=I.pin p hp
  exact ⟨(hs.2 p.1 ne).trans e,n,ne,nf,d⟩
end
noncomputable def Ends.drop (D:Ends) (i:Nat):Ends:={ nx:=fun σ H=>D.nx (σ.set i none) H,rt:=D.rt,bk:=fun σ H=>D.bk (σ.set i none) H,ct:=fun σ H=>D.ct (σ.set i none) H }
section
variable {X:Cx} {k i:Nat} {f O:Addr} {fd:FuncData} {ps:List Str} {sp:Sp} {dvs:List V} {ds:List Value} {fx cn n:Str} {p np cpos epos hpos pos:Pos} {e:Expr} {es:List Expr} {t:TA} {b0:Stmt} {suite:List Stmt} {ts:TS}
end
structure Ff (k:Nat) (A:Around):Prop where
 dp:A.depth+3 * k+5<recursionLimit
 un:A.units+16 * k+200<cLine
theorem BW.h {k:Nat} {A:Around} (r:BW k A):Ff k A:=⟨r.dp,r.un⟩
theorem Ff.mono {j k:Nat} {A:Around} (r:Ff k A) (h:j<=k):Ff j A:=⟨by have:=r.dp; omega,by have:=r.un; omega⟩
theorem Ff.deeper {k:Nat} {A:Around} (r:Ff (k+1) A) (env:Env):Ff k (A.deeper env) :=
 ⟨by have:=r.dp; show A.depth+1+3 * k+5<_; omega,by have:=r.un; show A.units+3+16 * k+200<_; omega⟩
structure MK (P:Program) (w:World) (K:PySem.W.Frag) (mg:Str->Option Value) (base:Heap) (CX:L_) (k:Nat) (f:Addr) (fd:FuncData) (ps:List Str) (sp:Sp):Prop where
 len:∀ vs H Q E,sp vs H Q E->vs.length=ps.length
 run:∀ (A:Around) (outer:List Env) (s:Shared) (H:Hp) (args:Args) (us:List Value) (vs:List V) (Q:VK) (E:XK),Ff k A->Ld P w K mg base A outer s H->BindsTo s fd args (ps.zip us)->Vals vs us->sp vs H Q E ->
  codeAny (model P w) A (.call (.ref f) args) (CR CX outer P w H s Q E) s
noncomputable abbrev Pq (CX:L_) (P:Program) (w:World) (K:PySem.W.Frag) (mg:Str->Option Value) (base:Heap) (N:List Str) (qual:Str) (scope:Scope) (f:Addr) (cd:Value) (A:Around) (outer:List Env) (s:Shared) (H:Hp) (E:XK):Cx :=
 { JV CX P w K mg base N qual scope f cd A outer s H E with calm:=false }
theorem Inv.au {X:Cx} {pins:List (Addr × Obj)} {σ:St} {H:Hp} {s:Shared} {A':Around} {xe':Value->Shared->Prop} (I:Inv X pins σ H s) (hf:A'.frames=some X.stack):Inv { X with A:=A',calm:=false,xe:=xe' } pins σ H s :=
 ⟨⟨I.ok.mod,I.ok.kind,I.ok.glob,I.ok.blt,I.ok.above,I.ok.inj,I.ok.has,I.ok.cab,(fun z=>nomatch z),hf,I.ok.stk,I.ok.exf,I.ok.bs,I.ok.bsz,I.ok.noex,I.ok.exfs,I.ok.Hc,I.ok.frf⟩,
  I.os,I.bare,I.base,I.loc,I.cell,I.free,I.freeC,I.pin,I.hok,I.len⟩
theorem YQ {CX:L_} {P:Program} {w:World} {K:PySem.W.Frag} {mg:Str->Option Value} {base:Heap} {k:Nat} {f:Addr} {name qual:Str} {params:Arguments} {body:List Stmt} {scope:Scope} {dV kV doc pm cdv ct oc:Value} {an od:Option Addr}
  {osl:Array (Option Value)} {N ps:List Str} {sp:Sp} (lk:K.lookup f=some ⟨oc,od,.func (PySem.W.fnOf name qual params body scope dV kV doc pm an cdv ct),osl⟩) (hcd:PySem.W.codeIn K cdv qual=true) (S:Aq N ps scope)
  (len:∀ vs H Q E,sp vs H Q E->vs.length=ps.length)
  (hbody:∀ (A:Around) (outer:List Env) (s:Shared) (H:Hp) (vs:List V) (Q:VK) (E:XK),Ff k (A.deeper (envOfC qual scope s.heap.objs.size f cdv))->sp vs H Q E ->
   ∃ t,K9 (Pq CX P w K mg base N qual scope f cdv A outer s H E) body t/\t { nx:=fun _ H'=>Q .non H',rt:=Q } (start N vs) H) :
  MK P w K mg base CX (k+1) f (PySem.W.fnOf name qual params body scope dV kV doc pm an cdv ct) ps sp:=by
 refine ⟨len,fun A outer s H args us vs Q E hr e0 hb r hsp=>?_⟩
 have hl:=len _ _ _ _ hsp
 have KX:K.In s.heap:=e0.mod.kin.keeps fun b o e=>(e0.bs b o e).1
 have lim:s.heap.NoLimit:=e0.mod.nolimit.keeps fun b o e=>(e0.bs b o e).1
 have hkind:∀ y∈ps.zip us,scope.names.lookup y.1=some .local \/ (scope.names.lookup y.1=some .cell/\((cellsFrom (s.heap.objs.size+1) scope.names []).lookup y.1).isSome=true):=fun ⟨n,v⟩ hy=>by
  rcases S.par n (List.of_mem_zip hy).1 with q | q
  ·exact .inl q
  ·exact .inr ⟨q,PySem.W.cellsFrom_some _ _ _ (.inl q)⟩
 refine codeAny_call_function (by have:=hr.dp; omega) (KX _ _ lk) rfl S.co S.gen rfl (PySem.W.codeRec_of KX hcd) (hb _ _ _ _ ?_)
 refine wpAny_newFunctionEnv_cells S.kind hkind fun env he s1 x=>?_
 subst he
 refine ⟨lim.keeps x.toInCall.keep,codeAny_func ?_⟩
 obtain ⟨t,ht,hq⟩:=hbody A outer s H vs Q E (hr.deeper _) hsp
 have e0':Ld P w K mg base { A with handled:=none } outer s H:=⟨e0.frames,e0.mod,e0.bs,e0.bsz,e0.Hc,e0.frf,e0.hok,e0.bare⟩
 have I0:Inv (JV CX P w K mg base N qual scope f cdv { A with handled:=none } outer s H E) [] (start N vs) H s1:=Km S rfl e0' hl r x
 have I:Inv (Pq CX P w K mg base N qual scope f cdv A outer s H E) [] (start N vs) H s1:=I0.au (Around.frames_deeper e0.frames)
 refine wpAny_mono (ht [] s1 (start N vs) H _ I hq) (fun fl s' hs=>?_) fun e s' hs=>hs
 have fin:∀ {σ':St} {H':Hp} {v:V} {u:Value},Inv (Pq CX P w K mg base N qual scope f cdv A outer s H E) [] σ' H' s'->RelV v u->Q v H'->CE outer P w H s Q u s' :=
  fun {σ' H' v u} J rv q=>⟨v,H',J.os,J.bare,J.base,J.hok,rv,q⟩
 cases fl with
 | ret u =>
  obtain ⟨v,σ',H',J,rv,q⟩:=hs
  exact fin J rv q
 | next =>
  obtain ⟨σ',H',J,q⟩:=hs
  exact fin (v:=V.non) (u:=Value.none) J rfl q
 | brk =>
  obtain ⟨_,_,_,q⟩:=hs
  exact False.elim q
 | cont =>
  obtain ⟨_,_,_,q⟩:=hs
  exact False.elim q
section
variable {P:Program} {w:World} {K:PySem.W.Frag} {mg:Str->Option Value} {base:Heap}
theorem DX.m6 {x qual:Str} {st:Stmt} {f:Addr} {fd:FuncData} {N ps:List Str} {k:Nat} {sp:Sp} (F:DX K x qual st f fd) (S:Aq N ps (Af st)) (len:∀ vs H Q E,sp vs H Q E->vs.length=ps.length)
  (hbody:∀ (cdv:Value) (A:Around) (outer:List Env) (s:Shared) (H:Hp) (vs:List V) (Q:VK) (E:XK),Ff k (A.deeper (envOfC qual (Af st) s.heap.objs.size f cdv))->sp vs H Q E ->
   ∃ t,K9 (Pq Bh P w K mg base N qual (Af st) f cdv A outer s H E).Yk (CP st) t/\t { nx:=fun _ H'=>Q .non H',rt:=Q } (start N vs) H):MK P w K mg base Bh (k+1) f fd ps sp:=by
 obtain ⟨oc,od,kV,doc,pm,an,cdv,ct,osl,rfl,lk,hcd⟩:=F.ex
 refine YQ lk hcd S len fun A outer s H vs Q E hr hsp=>?_
 obtain ⟨t,h,q⟩:=hbody cdv A outer s H vs Q E hr hsp
 exact ⟨t,h.Yk,q⟩
theorem DX.Vf {x qual:Str} {st:Stmt} {f:Addr} {fd:FuncData} {N ps:List Str} {k:Nat} {sp:Sp} (F:DX K x qual st f fd) (S:Aq N ps (Af st)) (len:∀ vs H Q E,sp vs H Q E->vs.length=ps.length)
  (hbody:∀ (cdv:Value) (A:Around) (outer:List Env) (s:Shared) (H:Hp) (vs:List V) (Q:VK) (E:XK),BW k (A.deeper (envOfC qual (Af st) s.heap.objs.size f cdv))->sp vs H Q E ->
   ∃ t,K9 (JV (JG P w) P w K mg base N qual (Af st) f cdv A outer s H E) (CP st) t/\t { nx:=fun _ H'=>Q .non H',rt:=Q } (start N vs) H):Ar P w K mg base (JG P w) (k+1) f fd ps sp:=by
 obtain ⟨oc,od,kV,doc,pm,an,cdv,ct,osl,rfl,lk,hcd⟩:=F.ex
 refine Uw lk hcd S len fun A outer s H vs Q E hr hsp=>?_
 obtain ⟨t,h,q⟩:=hbody cdv A outer s H vs Q E hr hsp
 exact ⟨t,h,q⟩
end
section
variable {X:Cx} {CX:L_} {k:Nat} {f:Addr} {fd:FuncData} {ps:List Str} {sp:Sp} {dvs:List V} {ds:List Value} {E:XK} {x:Str} {p pos:Pos} {e:Expr} {es:List Expr} {t:TA}
theorem R_ (F:MK X.prog X.w X.K X.mg X.base CX k f fd ps sp) (hr:Ff k X.A) (hg:Gl X x) (hm:X.mg x=some (.ref f)) (hk:PySem.W.keepIn X.K (.ref f)=true) (hb:Binds X.K fd ps ds) (hd:Vals dvs ds) (hx:Ew CX X E)
  (ha:PA X (e::es) t) (hdb:(x == ("__debug__" : Str))=false:=by decide) (he:starEach (e::es) X.env=(false,eval e X.env)::starEach es X.env:=by rfl) (hpl:(backTo pos (starEach es X.env)).any (·.1)=false:=by rfl) :
  PE X (.Call (.Name x p) (e::es) [] pos) (Uo sp dvs E t):=by
 intro pins s σ H Q I h
 refine wpAny_Call_Name_kw (Gx I hg hm ?_ hdb)
 refine PySem.W.callWith_K (h₀:=X.base) I.ok.mod.kin hk (Bx (ha pos pins s σ H _ I h) fun us s1 ⟨vs,H1,I1,r,h1⟩=>⟨I1.GD,?_⟩) he hpl
 have r2:Vals (vs++dvs) (us++ds):=r.append hd
 have hl:(us++ds).length=ps.length:=by rw [← r2.length]; exact F.len _ _ _ _ h1
 refine wpAny_call (codeAny_mono (F.run X.A X.stack s1 H1 ⟨us,[]⟩ (us++ds) (vs++dvs) Q E hr I1.env0 (hb s1 us I1.GD hl) r2 h1) fun r s' hq=>?_)
 cases r with
 | error e=>exact hx pins σ H1 s1 e s' I1 hq
 | ok fl =>
  cases fl with
  | ret u=>exact I1.after hq
  | next=>exact False.elim hq
  | brk=>exact False.elim hq
  | cont=>exact False.elim hq
end
end L2
namespace L2
open PySem PySem.Spec PySem.Calls PyProof.Rows
theorem Un.jU {fs gs:List Addr} {H H1 H2:Hp} {h h1 h2:Heap} (a:Un fs [] H H1 h h1) (b:Un gs [] H1 H2 h1 h2) (hs:∀ x∈gs,x∈fs \/ h.get? x=none):Un fs [] H H2 h h2 where
 keep:=fun c o q n hc hx=>by
  have hg:c ∉ gs:=fun z=>by
   rcases hs c z with e | e
   ·exact hc e
   ·rw [q] at e; cases e
  exact b.keep c o (a.keep c o q n hc hx) (a.free c o q n hx) hg hx
 slot:=fun c o q n hc hx=>by
  obtain ⟨sl,e⟩:=a.slot c o q n hc hx
  obtain ⟨sl',e'⟩:=b.any e (a.free c o q n hx) hx
  exact ⟨sl',e'⟩
 free:=fun c o q n hx=>by
  obtain ⟨o',e⟩:=a.there c o q hx
  exact b.free c o' e (a.free c o q n hx) hx
 there:=fun c o q hx=>by
  obtain ⟨o',e⟩:=a.there c o q hx
  exact b.there c o' e hx
 tups:=fun c xs q=>b.tups c xs (a.tups c xs q)
 frzs:=fun c o u q=>b.frzs c o u (a.frzs c o u q)
 tbls:=fun c ps q=>by
  obtain ⟨m1,e1⟩:=a.tbls c ps q
  obtain ⟨m2,e2⟩:=b.tbls c _ e1
  exact ⟨m1++m2,by rw [e2,Array.append_assoc]⟩
theorem Jb {P:Program} {w:World} {K:PySem.W.Frag} {mg:Str->Option Value} {base:Heap} {N:List Str} {qual:Str} {scope:Scope} {f:Addr} {cd:Value} {A:Around} {outer:List Env} {s:Shared} {H:Hp} {E:XK} :
  Ew (JG P w) (JV (JG P w) P w K mg base N qual scope f cd A outer s H E) E:=by
 rintro pins σ H1 s1 e s' I ⟨x,T,C,od,H2,rfl,os,bare,y,nx,nT,hx2,hT2,hok2,un2,q⟩
 have gone:∀ b,s1.heap.get? b=none->s.heap.get? b=none:=fun b e=>by
  cases z:s.heap.get? b with
  | none=>rfl
  | some o =>
   obtain ⟨o',e'⟩:=I.base.there b o z (by show b ∉ ([]:List Addr); simp)
   rw [e] at e'; cases e'
 have os1:s1.os=s.os:=I.os
 obtain ⟨h1,g,dr,tk,os'⟩:=s'
 obtain rfl:os'=s1.os:=os
 have I2:=I.call (h':=h1) (g':=g) (d':=dr) (t':=tk) (ch:=[]) un2 hok2 bare (fun b z=>absurd z (by simp))
 have hfr:(A.deeper (envOfC qual scope s.heap.objs.size f cd)).frames=some (envOfC qual scope s.heap.objs.size f cd::outer):=I.ok.frames
 have hff:h1.FunFrames base (envOfC qual scope s.heap.objs.size f cd::outer):=I2.stack
 have frees:∀ b∈frs (envOfC qual scope s.heap.objs.size f cd::outer),H2 b=none:=I2.G7
 have fsN:∀ b∈frs (envOfC qual scope s.heap.objs.size f cd::outer),b∈frs outer \/ s.heap.get? b=none:=fun b hb=>by
  rcases List.mem_cons.mp (show b∈s.heap.objs.size::frs outer from hb) with z | z
  ·rw [z]; exact .inr (Heap.get?_none_of_le (Nat.le_refl _))
  ·exact .inl z
 have u0:Un (frs outer) [] H H1 s.heap s1.heap:=I.base
 have u2:Un (frs outer) [] H H2 s.heap h1:=u0.jU (show Un (frs (envOfC qual scope s.heap.objs.size f cd::outer)) [] H1 H2 s1.heap h1 from un2) fsN
 show wpAny (model P w) (A.deeper (envOfC qual scope s.heap.objs.size f cd)) (leaving (envOfC qual scope s.heap.objs.size f cd) (.ref x)) _ _ _
 unfold leaving
 refine wpAny_bind (QD (s:=⟨h1,g,dr,tk,s1.os⟩) (L:=s.heap.objs.size) hfr hff rfl y fun h3 T3 y3 m3 n3=>?_)
 refine FQ (s:=⟨h3,g,dr,tk,s1.os⟩) y3 fun h4 y4 m4=>?_
 have nT3:s.heap.get? T3=none:=by
  cases z:s.heap.get? T3 with
  | none=>rfl
  | some o =>
   obtain ⟨o',e'⟩:=u2.there T3 o z (by simp)
   have n3':h1.get? T3=none:=n3
   rw [n3'] at e'; cases e'
 have hT3:H2 T3=none:=hok2.none_of n3
 have fs2:∀ b∈frs (envOfC qual scope s.heap.objs.size f cd::outer),b ∉ frs outer->s.heap.get? b=none:=fun b hb hn=>(fsN b hb).resolve_left hn
 have u3:=u2.mv m3 (gone x nx) (gone T nT) fs2
 have u4:=u3.mv m4 (gone x nx) nT3 (fun _ z=>nomatch z)
 have k3:Ef P w H2 h3:=Ef.mv (P:=P) (w:=w) hok2 m3 hx2 hT2 frees
 have k4:Ef P w H2 h4:=k3.mv m4 hx2 hT3 (fun _ z=>nomatch z)
 exact ⟨x,T3,C,od,H2,rfl,os1,bare,y4,gone x nx,nT3,hx2,hT3,k4,u4,q⟩
end L2
namespace L2
open PySem PySem.Spec PySem.Calls PyProof.Rows
section
variable {X:Cx} {o i value:Expr} {td ty tv:TE} {pos pos':Pos}
end
section
variable {X:Cx} {k i:Nat} {f O:Addr} {fd:FuncData} {ps:List Str} {sp:Sp} {dvs:List V} {ds:List Value} {fx cn n:Str} {p np cpos epos hpos pos:Pos} {e:Expr} {es:List Expr} {t:TA} {b0:Stmt} {suite:List Stmt} {ts:TS}
end
end L2
namespace L2
open PySem PySem.Spec PySem.Calls PyProof.Rows
noncomputable abbrev XR:=Value->Option Addr->St->Hp->Prop
noncomputable def XT (X:Cx) (pins:List (Addr × Obj)) (ER:XR) (e:Value) (s':Shared):Prop:=∃ σ H1 s1,Inv X pins σ H1 s1/\JG X.prog X.w X.stack H1 s1 (fun C od H2=>ER C od σ H2) e s'
noncomputable def jE (X:Cx) (ER:XR) (st:Stmt) (t:TS):Prop :=
 ∀ (pins:List (Addr × Obj)) (s:Shared) (σ:St) (H:Hp) (D:Ends),Inv X pins σ H s->t D σ H->wpAny (model X.prog X.w) X.A (exec st X.env) (SP X pins D) (XT X pins ER) s
noncomputable def Tj (X:Cx) (ER:XR) (st:List Stmt) (t:TS):Prop :=
 ∀ (pins:List (Addr × Obj)) (s:Shared) (σ:St) (H:Hp) (D:Ends),Inv X pins σ H s->t D σ H->wpAny (model X.prog X.w) X.A (execs st X.env) (SP X pins D) (XT X pins ER) s
noncomputable def PET (X:Cx) (ER:XR) (e:Expr) (t:TE):Prop :=
 ∀ (pins:List (Addr × Obj)) (s:Shared) (σ:St) (H:Hp) (Q:VK),Inv X pins σ H s->t σ H Q->wpAny (model X.prog X.w) X.A (eval e X.env) (EP X pins σ Q) (XT X pins ER) s
section
variable {X:Cx} {ER:XR} {st:Stmt} {sts:List Stmt} {t u:TS} {pos:Pos}
theorem Rn (h:K9 X sts t) (hxe:X.xe=fun _ _=>False):Tj X ER sts t:=fun pins s σ H D I q =>
 wpAny_mono (h pins s σ H D I q) (fun _ _ z=>z) fun e s' z=>by
  rw [hxe] at z
  exact z.elim
theorem DG (h1:jE X ER st t):Tj X ER [st] t:=by
 intro pins s σ H D I h
 refine wpAny_execs_cons (Bx (h1 pins s σ H D I h) fun f s1 q=>?_)
 cases f with
 | next=>exact wpAny_execs_nil q
 | brk=>exact q
 | cont=>exact q
 | ret u=>exact q
theorem Im {c:Expr} {a b:List Stmt} {tc:TT} (hc:PT X c tc) (ha:Tj X ER a t) (hb:Tj X ER b u) (hxe:X.xe=fun _ _=>False):jE X ER (.If c a b pos) (Vu tc t u):=by
 intro pins s σ H D I h
 refine wpAny_If (wpAny_mono (hc pins s σ H _ I h) (fun d s1 ⟨H1,I1,q1⟩=>?_) fun e s' z=>?_)
 ·cases d with
  | true=>exact ha pins s1 σ H1 D I1 q1
  | false=>exact hb pins s1 σ H1 D I1 q1
 ·rw [hxe] at z
  exact z.elim
theorem G_ {i:Nat} {x:Str} {e:Expr} {te:TE} {pos':Pos} (hN:X.N.Nodup) (hi:X.N[i]? = some x) (hx:Loc X.env.scope x) (he:PET X ER e te) (hs:swapsWith e (some (.Name x pos')) pos.line X.env=pure false:=by rfl)
  (hf:X.fn x=true \/ X.env.scope.names.lookup x=some .local:=by first | exact .inl rfl | exact .inr rfl | assumption):jE X ER (.Assign [.Name x pos'] e pos) (TX te (Eo i)):=by
 intro pins s σ H D I h
 refine wpAny_Assign_Name (Bx (he pins s σ H _ I h) fun v s1 ⟨y,H1,I1,r1,q1⟩=>?_) hs
 exact Ig I1 hN hi hx r1 (fun s2 I2=>⟨_,H1,I2,q1⟩) hf
end
section
variable {X:Cx} {ER:XR} {k:Nat} {f C:Addr} {fd:FuncData} {ps:List Str} {sp:Sp} {dvs:List V} {ds:List Value} {x m:Str} {p pos apos:Pos} {e o:Expr} {es:List Expr} {ta:TE} {t:TA}
noncomputable def Ye (C:Addr) (m:Str) (sp:Sp) (dvs:List V) (ER:XR) (ta:TE) (t:TA):TE:=fun σ H Q=>Tt C m sp dvs (fun C od H2=>ER C od σ H2) ta t σ H Q
theorem Vm {pins:List (Addr × Obj)} {σ:St} {H:Hp} {s:Shared} {Q:VK} {us:List Value} {vs:List V} (F:Ar X.prog X.w X.K X.mg X.base (JG X.prog X.w) k f fd ps sp) (hr:BW k X.A) (hb:Binds X.K fd ps ds) (hd:Vals dvs ds)
  (I:Inv X pins σ H s) (r:Vals vs us) (h:sp (vs++dvs) H Q (fun C od H2=>ER C od σ H2)):wpAny (model X.prog X.w) X.A (call (.ref f) us) (EP X pins σ Q) (XT X pins ER) s:=by
 have r2:Vals (vs++dvs) (us++ds):=r.append hd
 have hl:(us++ds).length=ps.length:=by rw [← r2.length]; exact F.len _ _ _ _ h
 refine wpAny_call (codeAny_mono (F.run X.A X.stack s H ⟨us,[]⟩ (us++ds) (vs++dvs) Q _ hr I.env0 (hb s us I.GD hl) r2 h) fun r s' hq=>?_)
 cases r with
 | error e=>exact ⟨σ,H,s,I,hq⟩
 | ok fl =>
  cases fl with
  | ret u=>exact I.after hq
  | next=>exact False.elim hq
  | brk=>exact False.elim hq
  | cont=>exact False.elim hq
theorem Fi {pl:Sem Bool} (he:PE X o ta) (c:NQ X.K C) (hm:Meth X.K C m f) (F:Ar X.prog X.w X.K X.mg X.base (JG X.prog X.w) k f fd ps sp) (hr:BW k X.A) (hb:Binds X.K fd ps ds) (hd:Vals dvs ds) (ha:PA X (e::es) t)
  (hxe:X.xe=fun _ _=>False) (hst:starEach (e::es) X.env=(false,eval e X.env)::starEach es X.env:=by rfl) (hpl:(backTo pos (starEach es X.env)).any (·.1)=false:=by rfl)
  (ht:eval (.Call (.Attribute o m apos) (e::es) [] pos) X.env=(do
   let ov ← eval o X.env
   standAt apos.atName
   let (f,first) ← holding [ov] (getMethod ov m pl)
   callWith pos f first (backTo pos (starEach (e::es) X.env)) (backToKw pos (keywordEach [] X.env))):=by rfl) :
  PET X ER (.Call (.Attribute o m apos) (e::es) [] pos) (Ye C m sp dvs ER ta t):=by
 intro pins s σ H Q I h
 refine PySem.W.methodCall_KW (pl:=pl) (wpAny_mono (he pins s σ H _ I h) (fun u s1 ⟨x,H1,I1,rx,a,dx,fs,ex,ea,l,q⟩=>?_) fun e s' z=>?_) ht
 ·subst ex
  obtain rfl:u=Value.ref a:=rx
  refine Es I1 ea c hm l ?_
  refine PySem.W.callWith_K (first:=[.ref a]) (h₀:=X.base) I.ok.mod.kin hm.kp (wpAny_mono (ha pos pins s1 σ H1 _ I1 q) (fun us s2 ⟨vs,H2,I2,r,q2⟩=>⟨I2.GD,?_⟩) fun e s' z=>?_) hst hpl
  ·exact Vm (us:=.ref a::us) (vs:=.ref a::vs) F hr hb hd I2 (.cons rfl r) q2
  ·rw [hxe] at z
   exact z.elim
 ·rw [hxe] at z
  exact z.elim
end
noncomputable def jk (K:PySem.W.Frag) (O:Addr) (i:Nat) (ts:TS) (D:Ends):XR:=fun C od σ H2=>∃ Ca,C=.ref Ca/\PySem.W.mroIn K Ca (.ref O)=some true/\∀ x,H2 x=none->ts (D.drop i) (σ.set i (some (.ref x))) (upd H2 x (CQ x Ca od))
noncomputable def Zf (K:PySem.W.Frag) (tb:XR->TS) (O:Addr) (i:Nat) (ts:TS):TS:=fun D σ H=>tb (jk K O i ts D) D σ H
section
variable {X:Cx} {i:Nat} {O:Addr} {cn n:Str} {np hpos pos:Pos} {body:List Stmt} {b0:Stmt} {suite:List Stmt} {ts:TS} {tb:XR->TS}
theorem V0 (hb:∀ ER,Tj X ER body (tb ER)) (hgO:Gl X cn) (hmO:X.mg cn=some (.ref O)) (qO:PySem.W.excIn X.K O Va "ValueError.__new__" = true) (hN:X.N.Nodup) (hi:X.N[i]? = some n) (hlo:X.env.scope.names.lookup n=some .local)
  (hs:∀ x,K9 (X.inX x) (b0::suite) ts) (hxe:X.xe=fun _ _=>False:=by rfl) (hst:X.stack=X.env::X.outer:=by rfl) (hfrm:X.env.frame=some X.env.locals:=by rfl) (hdO:(cn == ("__debug__" : Str))=false:=by decide) :
  PS X (.Try body [.ExceptHandler (some (.Name cn np)) (some n) (b0::suite) hpos] [] [] pos) (Zf X.K tb O i ts):=by
 intro pins s₀ σ₀ H₀ D I₀ h₀
 refine wpAny_Try_except (wpAny_mono (hb _ pins s₀ σ₀ H₀ D I₀ h₀) (fun fl s' q=>?_) fun e' s' q=>?_)
 ·cases fl with
  | next=>exact wpAny_execs_nil q
  | brk=>exact q
  | cont=>exact q
  | ret u=>exact q
 ·obtain ⟨σ,H1,s1,I1,x,T,C,od,H2,rfl,os,bare,y,nx,nT,hx2,hT2,hok2,un2,Ca,eC,hmro,hts⟩:=q
  cases eC
  obtain ⟨h1,g,dr,tk,os'⟩:=s'
  obtain rfl:os'=s1.os:=os
  have I2:Inv X pins σ H2 ⟨h1,g,dr,tk,s1.os⟩:=I1.call (h':=h1) (g':=g) (d':=dr) (t':=tk) (ch:=[]) un2 hok2 bare (fun b z=>absurd z (by simp))
  have hfr:=I1.ok.frames
  have hff:=I2.stack
  rw [hst] at hfr hff
  refine QD (s:=⟨h1,g,dr,tk,s1.os⟩) hfr hff hfrm y fun h3 T3 y3 m3 n3=>?_
  refine FQ (s:=⟨h3,g,dr,tk,s1.os⟩) y3 fun h4 y4 m4=>?_
  have nT3:s1.heap.get? T3=none:=by
   cases z:s1.heap.get? T3 with
   | none=>rfl
   | some o =>
    obtain ⟨o',e'⟩:=un2.there T3 o z (by simp)
    have n3':h1.get? T3=none:=n3
    rw [n3'] at e'; cases e'
  have hT3:H2 T3=none:=hok2.none_of n3
  have m3':Mv (frs X.stack) x T h1 h3:=by rw [hst]; exact m3
  have u3:=un2.mv m3' nx nT (fun b z z'=>absurd z z')
  have u4:=u3.mv m4 nx nT3 (fun _ z=>nomatch z)
  have k3:Ef X.prog X.w H2 h3:=hok2.mv m3' hx2 hT2 I2.G7
  have k4:Ef X.prog X.w H2 h4:=k3.mv m4 hx2 hT3 (fun _ z=>nomatch z)
  have I4:Inv X pins σ H2 ⟨h4,g,dr,tk,s1.os⟩:=I1.call (h':=h4) (g':=g) (d':=dr) (t':=tk) (ch:=[]) u4 k4 bare (fun b z=>absurd z (by simp))
  refine wpAny_handleBy_cons (codeAny_handlers_test (Gx (I4.inX x) hgO hmO ?_ hdO)) (by intro q; cases q)
  obtain ⟨ws,wt,sl,oT,ex,_⟩:=id y4
  refine NB (s:=⟨h4,g,dr,tk,s1.os⟩) I4.GD ex qO hmro ?_
  refine codeAny_handlers_suite_as (FQ (s:=⟨h4,g,dr,tk,s1.os⟩) y4 fun h5 y5 m5=>?_)
  have u5:=(u4.mv m5 nx nT3 (fun _ z=>nomatch z)).adopt (o:=CQ x C od) nx hx2
  obtain ⟨ws5,wt5,sl5,oT5,ex5,_⟩:=id y5
  have k5:Ef X.prog X.w (upd H2 x (CQ x C od)) h5:=(k4.mv m5 hx2 hT3 (fun _ z=>nomatch z)).bM (fun _ _ e=>e) hx2 (WK ex5 rfl)
  have I5:Inv X pins σ (upd H2 x (CQ x C od)) ⟨h5,g,dr,tk,s1.os⟩:=I1.call (h':=h5) (g':=g) (d':=dr) (t':=tk) (ch:=[]) u5 k5 bare (fun b z=>absurd z (by simp))
  refine Iv (s:=⟨h5,g,dr,tk,s1.os⟩) I5 hN hi (.inl hlo) (show RelV (.ref x) (.ref x) from rfl) (fun s6 I6 _=>?_) (.inr hlo)
  refine wpAny_mono (hs x pins s6 _ _ _ (I6.inX x) (hts x hx2)) (fun fl s7 h7=>?_) fun e' s7 h7=>?_
  ·cases fl with
   | next=>obtain ⟨σ',H',J,qq⟩:=h7; exact name_goes (J.U_ I1.ok) hN hi hlo fun s8 J8=>⟨_,_,J8,qq⟩
   | brk=>obtain ⟨σ',H',J,qq⟩:=h7; exact name_goes (J.U_ I1.ok) hN hi hlo fun s8 J8=>⟨_,_,J8,qq⟩
   | cont=>obtain ⟨σ',H',J,qq⟩:=h7; exact name_goes (J.U_ I1.ok) hN hi hlo fun s8 J8=>⟨_,_,J8,qq⟩
   | ret u=>obtain ⟨v,σ',H',J,rv,qq⟩:=h7; exact name_goes (J.U_ I1.ok) hN hi hlo fun s8 J8=>⟨_,_,_,J8,rv,qq⟩
  ·have h7':X.xe e' s7:=h7
   rw [hxe] at h7'
   exact h7'.elim
end
theorem FP {X:Cx} {K:PySem.W.Frag} (hK:X.K=K):Eg X (.builtin "isinstance") (fun xs H Q=>∃ x C fs c cv b,xs=[V.ref x,c]/\M3 H x C fs/\Lh K C/\Yc c=some cv/\PySem.W.kitOne K (.ref C) cv=some b/\Q (.bl b) H):=by
 rw [← hK]
 exact PN
theorem Yg {X:Cx} {K:PySem.W.Frag} {o e:Expr} {es:List Expr} {to:TE} {t:TA} {name:Str} {apos cpos:Pos} {T id:String} {r:V->List V->Hp->VK->Prop} (hK:X.K=K) (pa:PlainAttrs T) (slot:Slot T name id) (hty:typeOf (.builtin id)=pure (.type "method_descriptor")) (hm:fu X id r) (ho:PE X o to) (ha:PA X (e::es) t)
  (hbase:attributeBase o name X.env (eval o X.env)=eval o X.env:=by rfl)
  (hfew:((backTo cpos (starEach (e::es) X.env)).all (fun x=>!x.1) && (backToKw cpos (keywordEach [] X.env)).all (fun x=>x.1.isSome)
   && decide ((e::es).length+([]:List Keyword).length+(if ([]:List Keyword).isEmpty then 0 else 1)<30))=true:=by rfl)
  (hline:(apos.endLine == cpos.line)=true:=by rfl) (hs:starEach (e::es) X.env=(false,eval e X.env)::starEach es X.env:=by rfl) (hplain:(backTo cpos (starEach es X.env)).any (·.1)=false:=by rfl) :
  PE X (.Call (.Attribute o name apos) (e::es) [] cpos) (mq K T r to t):=by
 rw [← hK]
 exact Ec pa slot hty hm ho ha hbase hfew hline hs hplain
end L2
namespace Og
open PySem L2 PyProof.Rows
end Og
namespace Og
open PySem L2 PyProof.Rows
variable {K:PySem.W.Frag}
structure V6 (K:PySem.W.Frag) (aB aP aM:Addr):Prop where
 f:KF K aB aP aM
 pR:∃ a,PySem.W.nsIn K aP "rank" = some (some (.ref a))/\KTup K a (["new","pipes","wind"].map fun s:String=>V.str s)
 pL:∃ a,PySem.W.nsIn K aP "line" = some (some (.ref a))/\KTup K a (["rank","shift","low","high"].map fun s:String=>V.str s)
 bP:∃ a,PySem.W.nsIn K aB "pipes" = some (some (.ref a))/\KTup K a [.int 1,.int 97]
 bW:∃ a,PySem.W.nsIn K aB "wind" = some (some (.ref a))/\KTup K a [.int 0,.int 1000000000]
 bS:∃ a,PySem.W.nsIn K aB "shift" = some (some (.ref a))/\KTup K a [.int (-200),.int 200]
 bLo:∃ a,PySem.W.nsIn K aB "low" = some (some (.ref a))/\KTup K a [.int 0,.int 60]
 bHi:∃ a,PySem.W.nsIn K aB "high" = some (some (.ref a))/\KTup K a [.int 0,.int 60]
 bR:PySem.W.nsIn K aB "rank" = some none
 mR:∃ t,PySem.W.nsIn K aM "rank" = some (some (.int 12 t))
 mL:PySem.W.nsIn K aM "line" = some none
section
variable {aB aP aM:Addr} {ρ:V->R} {vs:List V} {wn:List (Str × Str)} {t:Str}
theorem PQ {r:R} (h:Kp K aB aP aM ρ vs r) (hb:En ρ vs):JD K aB aP aM ρ vs r:=⟨h.ns,h.parts,.inr h.room,fun z=>absurd z h.nl,hb⟩
theorem Q9 (F:KF K aB aP aM) {wd:Str} (hw:wd = "stop" \/ wd = "mute") (e:Gs ρ vs=wn) (ht:isNm t) (h:∀ w∈named,QH wn w t=false) (hc:Ug wn wd<Ko wd) {a:Str} (ha:isNm a) (ha':QH wn "board" a=true):Kp K aB aP aM ρ vs ⟨wd,t,[.str a]⟩:=by
 have parts:∀ (j:Nat) x (y:Str),[V.str t,.str a][j]? = some x->(["new","board"]:List Str)[j]? = some y->Hj K aB ρ vs x y:=fun j x y hx hy=>by
  match j,hx,hy with
  | 0,hx,hy =>
   cases (Option.some.inj hx)
   cases (Option.some.inj hy)
   exact Hu F e ht h
  | 1,hx,hy =>
   cases (Option.some.inj hx)
   cases (Option.some.inj hy)
   exact Hg F e ha ha'
  | j+2,hx,hy=>simp at hy
 have hcnt:=Hd ρ vs wd
 rw [e] at hcnt
 rcases hw with rfl | rfl
 ·obtain ⟨ap,g1,g2⟩:=F.pS
  obtain ⟨tk,g5⟩:=F.mS
  have hm:Ko "stop" = 24:=by decide +kernel
  refine ⟨by show ¬ ("stop" : Str) = "step"; decide +kernel,by show ¬ ("stop" : Str) = "line"; decide +kernel,⟨ap,["new","board"],g1,g2,rfl,by decide,parts⟩,⟨24,tk,g5,?_⟩⟩
  show (((vs.filter (pw ρ "stop")).length:Nat):Int)<24
  omega
 ·obtain ⟨ap,g1,g2⟩:=F.pM
  obtain ⟨tk,g5⟩:=F.mM
  have hm:Ko "mute" = 5:=by decide +kernel
  refine ⟨by show ¬ ("mute" : Str) = "step"; decide +kernel,by show ¬ ("mute" : Str) = "line"; decide +kernel,⟨ap,["new","board"],g1,g2,rfl,by decide,parts⟩,⟨5,tk,g5,?_⟩⟩
  show (((vs.filter (pw ρ "mute")).length:Nat):Int)<5
  omega
theorem RM (F:V6 K aB aP aM) (e:Gs ρ vs=wn) (ht:isNm t) (h:∀ w∈named,QH wn w t=false) (hc:Ug wn "rank" < 12) {n:Nat} {wi:Int} (h1:1<=n) (h2:n<=97) (h3:0<=wi) (h4:wi<=1000000000) (hb:En ρ vs):JD K aB aP aM ρ vs (GQ (t,n,wi)):=by
 obtain ⟨ap,g1,g2⟩:=F.pR
 obtain ⟨ab,g3,g4⟩:=F.bP
 obtain ⟨aw,g6,g7⟩:=F.bW
 obtain ⟨tk,g5⟩:=F.mR
 refine ⟨by show ¬ ("rank" : Str) = "step"; decide +kernel,⟨ap,["new","pipes","wind"],g1,g2,rfl,by decide,fun j x y hx hy=>?_⟩,.inr ⟨12,tk,g5,?_⟩,fun z=>absurd z (by show ¬ ("rank" : Str) = "line"; decide +kernel),hb⟩
 ·match j,hx,hy with
  | 0,hx,hy =>
   cases (Option.some.inj hx)
   cases (Option.some.inj hy)
   exact Hu F.f e ht h
  | 1,hx,hy =>
   cases (Option.some.inj hx)
   cases (Option.some.inj hy)
   exact .inl ⟨((n:Nat):Int),1,97,ab,rfl,g3,g4,by omega,by omega⟩
  | 2,hx,hy =>
   cases (Option.some.inj hx)
   cases (Option.some.inj hy)
   exact .inl ⟨_,0,1000000000,aw,rfl,g6,g7,h3,h4⟩
  | j+3,hx,hy=>simp at hy
 ·rw [Hd,e]
  show ((Ug wn "rank" : Nat):Int)<12
  omega
theorem Qx (F:V6 K aB aP aM) (e:Gs ρ vs=wn) (ht:isNm t) (h:QH wn "rank" t=true) {sh lo hi:Int} (b1 : -200<=sh) (b2:sh<=200) (b3:0<=lo) (b4:lo<=60) (b5:0<=hi) (b6:hi<=60) (hb:En ρ vs) (hl:Nq ρ vs ⟨"line",t,[.int sh,.int lo,.int hi]⟩):JD K aB aP aM ρ vs ⟨"line",t,[.int sh,.int lo,.int hi]⟩:=by
 obtain ⟨ap,g1,g2⟩:=F.pL
 obtain ⟨a1,g3,g4⟩:=F.bS
 obtain ⟨a2,g5,g6⟩:=F.bLo
 obtain ⟨a3,g7,g8⟩:=F.bHi
 refine ⟨by show ¬ ("line" : Str) = "step"; decide +kernel,⟨ap,["rank","shift","low","high"],g1,g2,rfl,by decide,fun j x y hx hy=>?_⟩,.inl ⟨rfl,F.mL⟩,fun _=>hl,hb⟩
 match j,hx,hy with
 | 0,hx,hy =>
  cases (Option.some.inj hx)
  cases (Option.some.inj hy)
  exact .inr (.inr ⟨F.bR,by decide +kernel,_,rfl,ht,by rw [JL,e]; exact h⟩)
 | 1,hx,hy =>
  cases (Option.some.inj hx)
  cases (Option.some.inj hy)
  exact .inl ⟨_,-200,200,a1,rfl,g3,g4,b1,b2⟩
 | 2,hx,hy =>
  cases (Option.some.inj hx)
  cases (Option.some.inj hy)
  exact .inl ⟨_,0,60,a2,rfl,g5,g6,b3,b4⟩
 | 3,hx,hy =>
  cases (Option.some.inj hx)
  cases (Option.some.inj hy)
  exact .inl ⟨_,0,60,a3,rfl,g7,g8,b5,b6⟩
 | j+4,hx,hy=>simp at hy
end
structure nW (K:PySem.W.Frag) (aB aP aM:Addr) (ρ:V->R) (us:List V) (bs:List (Str × Nat)) (rk:List (Str × Nat × Int)) (ks:List R):Prop where
 kinds:∀ v∈us,(ρ v).w = "board" \/ (ρ v).w = "rank" \/ (ρ v).w = "line" \/ (ρ v).w = "stop" \/ (ρ v).w = "coupler" \/ (ρ v).w = "mute"
 eb:(us.filter (pw ρ "board")).map ρ=bs.map Fx
 er:(us.filter (pw ρ "rank")).map ρ=rk.map GQ
 ek:(us.filter (fun v=>Eh (ρ v).w)).map ρ=ks
 ln:∀ (i:Nat) v,us[i]? = some v->(ρ v).w = "line"->(∃ (j:Nat) (r:Str × Nat × Int) (sh lo hi:Int),rk[j]? = some r/\r.1=(ρ v).nm/\(ρ v).rest=[.int sh,.int lo,.int hi])/\∃ u∈us.take i,Eh (ρ u).w=true
 ok:∀ (i:Nat) v,us[i]? = some v->JD K aB aP aM ρ (us.take i) (ρ v)
section
variable {aB aP aM:Addr} {ρ:V->R} {us:List V} {v:V} {bs bs':List (Str × Nat)} {rk rk':List (Str × Nat × Int)} {ks ks':List R}
theorem Jc {w t:Str}:Uy ρ us w t=true ↔ ∃ v∈us,(ρ v).w=w/\(ρ v).nm=t:=by
 unfold Uy
 rw [List.any_eq_true]
 constructor
 ·rintro ⟨v,hv,hn⟩
  obtain ⟨h1,h2⟩:=List.mem_filter.mp hv
  exact ⟨v,h1,V.str.inj (of_decide_eq_true h2),V.str.inj (of_decide_eq_true hn)⟩
 ·rintro ⟨v,hv,h1,h2⟩
  exact ⟨v,List.mem_filter.mpr ⟨hv,decide_eq_true (congrArg V.str h1)⟩,decide_eq_true (congrArg V.str h2)⟩
theorem Jv {w:Str} (h:w = "stop" \/ w = "coupler" \/ w = "mute"):Eh w=true:=by rcases h with rfl | rfl | rfl <;> decide +kernel
theorem Jp {p:V->Bool} (h:p v=true):(us++[v]).filter p=us.filter p++[v]:=by
 rw [List.filter_append,List.filter_cons,if_pos h]
 rfl
theorem Dl {p:V->Bool} (h:p v=false):(us++[v]).filter p=us.filter p:=by
 rw [List.filter_append,List.filter_cons,if_neg (by rw [h]; decide)]
 simp
end
structure oA (K:PySem.W.Frag) (aB aP aM:Addr) (rows:List R) (bs:List (Str × Nat)) (rk:List (Str × Nat × Int)) (ks:List R) (ls:List (List Ln)):Prop where
 ok:∀ (ρ:V->R) (us:List V),us.map ρ=rows->nW K aB aP aM ρ us bs rk ks
 ln0:ks=[]->∀ rk',linesOf rk' rows=[]
 ln:linesOf rk rows=ls
section
variable {aB aP aM:Addr} {rows:List R} {bs:List (Str × Nat)} {rk:List (Str × Nat × Int)} {ks:List R} {ls:List (List Ln)}
theorem Ij {ρ:V->R} {us:List V} {r:R} (e:us.map ρ=rows++[r]):∃ us' v,us=us'++[v]/\us'.map ρ=rows/\ρ v=r:=by
 obtain ⟨a,b,rfl,h1,h2⟩:=List.map_eq_append_iff.mp e
 obtain ⟨v,l,rfl,h3,h4⟩:=List.map_eq_cons_iff.mp h2
 rw [List.map_eq_nil_iff.mp h4]
 exact ⟨a,v,rfl,h1,h3⟩
noncomputable def Tl (rows:List R) (bd:Str) (cnt:Nat):Prop:=∃ (r0:List R) (st:R) (lr:List R),rows=r0++st::lr/\st.w = "stop" /\ st.rest=[.str bd]/\lr.length=cnt/\∀ r∈lr,r.w = "line"
theorem Tl.stop (rows:List R) (t bd:Str):Tl (rows++[⟨"stop",t,[.str bd]⟩]) bd 0:=⟨rows,_,[],rfl,rfl,rfl,rfl,fun _ h=>nomatch h⟩
end
end Og
namespace Og
open PySem L2 PyProof.Rows
variable {K:PySem.W.Frag}
structure Hh (K:PySem.W.Frag) (aB aP aM:Addr) (ρ:V->R) (us:List V) (bs:List (Str × Nat)) (rk:List (Str × Nat × Int)) (ks:List R):Prop where
 eb:(us.filter (pw ρ "board")).map ρ=bs.map Fx
 er:(us.filter (pw ρ "rank")).map ρ=rk.map GQ
 ek:(us.filter (fun v=>Eh (ρ v).w)).map ρ=ks
 ln:∀ (i:Nat) v,us[i]? = some v->(ρ v).w = "line"->(∃ (j:Nat) (r:Str × Nat × Int) (sh lo hi:Int),rk[j]? = some r/\r.1=(ρ v).nm/\(ρ v).rest=[.int sh,.int lo,.int hi])/\∃ u∈us.take i,Eh (ρ u).w=true
 ok:∀ (i:Nat) v,us[i]? = some v->Gm K aB aP aM ρ (us.take i) (ρ v)
section
variable {aB aP aM:Addr} {ρ:V->R} {us:List V} {v:V} {bs bs':List (Str × Nat)} {rk rk':List (Str × Nat × Int)} {ks ks':List R}
theorem Hh.nil:Hh K aB aP aM ρ [] [] [] []:=⟨rfl,rfl,rfl,(fun i v h=>by simp at h),(fun i v h=>by simp at h)⟩
theorem Hh.Wc (h:Hh K aB aP aM ρ us bs rk ks) (hv:v∈us) (hw:(ρ v).w = "board"):∃ b∈bs,Fx b=ρ v:=by
 have:ρ v∈(us.filter (pw ρ "board")).map ρ:=List.mem_map_of_mem (List.mem_filter.mpr ⟨hv,decide_eq_true (congrArg V.str hw)⟩)
 rw [h.eb] at this
 exact List.mem_map.mp this
theorem Hh.Yx (h:Hh K aB aP aM ρ us bs rk ks) (hv:v∈us) (hw:(ρ v).w = "rank"):∃ b∈rk,GQ b=ρ v:=by
 have:ρ v∈(us.filter (pw ρ "rank")).map ρ:=List.mem_map_of_mem (List.mem_filter.mpr ⟨hv,decide_eq_true (congrArg V.str hw)⟩)
 rw [h.er] at this
 exact List.mem_map.mp this
theorem Hh.Ti (h:Hh K aB aP aM ρ us bs rk ks) (hv:v∈us) (hw:Eh (ρ v).w=true):ρ v∈ks:=by
 have:ρ v∈(us.filter (fun v=>Eh (ρ v).w)).map ρ:=List.mem_map_of_mem (List.mem_filter.mpr ⟨hv,hw⟩)
 rw [h.ek] at this
 exact this
theorem Hh.Yn (h:Hh K aB aP aM ρ us bs rk ks):En ρ us:=fun v hv hw=>by
 obtain ⟨b,_,e⟩:=h.Wc hv hw
 exact ⟨_,by rw [← e]⟩
theorem Hh.Wu (h:Hh K aB aP aM ρ us bs rk ks) {b:Str × Nat} (hb:b∈bs):∃ v∈us,ρ v=Fx b:=by
 have:Fx b∈(us.filter (pw ρ "board")).map ρ:=by rw [h.eb]; exact List.mem_map_of_mem hb
 obtain ⟨v,hv,e⟩:=List.mem_map.mp this
 exact ⟨v,(List.mem_filter.mp hv).1,e⟩
theorem Hh.bJ (h:Hh K aB aP aM ρ us bs rk ks) {r:Str × Nat × Int} (hr:r∈rk):∃ v∈us,ρ v=GQ r:=by
 have:GQ r∈(us.filter (pw ρ "rank")).map ρ:=by rw [h.er]; exact List.mem_map_of_mem hr
 obtain ⟨v,hv,e⟩:=List.mem_map.mp this
 exact ⟨v,(List.mem_filter.mp hv).1,e⟩
theorem Hh.Nj (h:Hh K aB aP aM ρ us bs rk ks) {b:Str × Nat} (hb:b∈bs):QH (Gs ρ us) "board" b.1=true:=by
 obtain ⟨v,hv,e⟩:=h.Wu hb
 rw [← JL,Jc]
 exact ⟨v,hv,by rw [e],by rw [e]⟩
theorem Hh.Xk (h:Hh K aB aP aM ρ us bs rk ks) {r:Str × Nat × Int} (hr:r∈rk):QH (Gs ρ us) "rank" r.1=true:=by
 obtain ⟨v,hv,e⟩:=h.bJ hr
 rw [← JL,Jc]
 exact ⟨v,hv,by rw [e],by rw [e]⟩
theorem Hh.fresh (h:Hh K aB aP aM ρ us bs rk ks) {t:Str} (hb:∀ b∈bs,b.1 ≠ t) (hr:∀ r∈rk,r.1 ≠ t) (hk:∀ k∈ks,k.nm ≠ t):∀ w∈named,QH (Gs ρ us) w t=false:=by
 intro w hw
 rw [← JL,← Bool.not_eq_true,Jc]
 rintro ⟨v,hv,hw',hn⟩
 simp only [List.mem_cons,List.mem_singleton,List.not_mem_nil,or_false] at hw
 rcases hw with rfl | rfl | rfl | rfl | rfl
 ·obtain ⟨b,hb',e⟩:=h.Wc hv hw'
  exact hb b hb' (by rw [← hn,← e])
 ·obtain ⟨b,hb',e⟩:=h.Yx hv hw'
  exact hr b hb' (by rw [← hn,← e])
 ·exact hk _ (h.Ti hv (Jv (.inl hw'))) hn
 ·exact hk _ (h.Ti hv (Jv (.inr (.inl hw')))) hn
 ·exact hk _ (h.Ti hv (Jv (.inr (.inr hw')))) hn
theorem Hh.ZF (h:Hh K aB aP aM ρ us bs rk ks):Ug (Gs ρ us) "board" = bs.length:=by
 rw [← Hd,← List.length_map (f:=ρ),h.eb,List.length_map]
theorem Hh.bU (h:Hh K aB aP aM ρ us bs rk ks):Ug (Gs ρ us) "rank" = rk.length:=by
 rw [← Hd,← List.length_map (f:=ρ),h.er,List.length_map]
theorem Hh.Wl (h:Hh K aB aP aM ρ us bs rk ks) {w:Str} (hw:w = "stop" \/ w = "coupler" \/ w = "mute"):Ug (Gs ρ us) w=(ks.filter fun r=>decide (V.str r.w=V.str w)).length:=by
 rw [← Hd,← h.ek,List.filter_map,List.length_map,List.filter_filter]
 refine congrArg List.length (List.filter_congr fun v _=>?_)
 show pw ρ w v=(pw ρ w v && Eh (ρ v).w)
 by_cases e:(ρ v).w=w
 ·rw [Jv (by rw [e]; exact hw),Bool.and_true]
 ·have:pw ρ w v=false:=decide_eq_false fun z=>e (V.str.inj z)
  rw [this,Bool.false_and]
theorem Hh.snoc (h:Hh K aB aP aM ρ us bs rk ks)
  (eb:((us++[v]).filter (pw ρ "board")).map ρ=bs'.map Fx) (er:((us++[v]).filter (pw ρ "rank")).map ρ=rk'.map GQ) (ek:((us++[v]).filter (fun v=>Eh (ρ v).w)).map ρ=ks')
  (hr:∀ (j:Nat) r,rk[j]? = some r->rk'[j]? = some r)
  (hl:(ρ v).w = "line"->(∃ (j:Nat) (r:Str × Nat × Int) (sh lo hi:Int),rk'[j]? = some r/\r.1=(ρ v).nm/\(ρ v).rest=[.int sh,.int lo,.int hi])/\∃ u∈us,Eh (ρ u).w=true)
  (ok:Gm K aB aP aM ρ us (ρ v)):Hh K aB aP aM ρ (us++[v]) bs' rk' ks':=by
 have at_:∀ {i:Nat} {u:V},(us++[v])[i]? = some u->us[i]? = some u/\(us++[v]).take i=us.take i \/ u=v/\(us++[v]).take i=us:=fun {i u} hi=>by
  by_cases hlt:i<us.length
  ·rw [List.getElem?_append_left hlt] at hi
   exact .inl ⟨hi,List.take_append_of_le_length (Nat.le_of_lt hlt)⟩
  ·have h2:=(List.getElem?_eq_some_iff.mp hi).1
   rw [List.length_append,List.length_singleton] at h2
   have hil:i=us.length:=by omega
   subst hil
   rw [List.getElem?_append_right (Nat.le_refl _),Nat.sub_self] at hi
   exact .inr ⟨(Option.some.inj hi).symm,by rw [List.take_append_of_le_length (Nat.le_refl _),List.take_length]⟩
 refine ⟨eb,er,ek,fun i u hi hw=>?_,fun i u hi=>?_⟩
 ·rcases at_ hi with ⟨h1,h2⟩ | ⟨rfl,h2⟩
  ·rw [h2]
   obtain ⟨⟨j,r,sh,lo,hi',g1,g2,g3⟩,g4⟩:=h.ln i u h1 hw
   exact ⟨⟨j,r,sh,lo,hi',hr j r g1,g2,g3⟩,g4⟩
  ·rw [h2]
   exact hl hw
 ·rcases at_ hi with ⟨h1,h2⟩ | ⟨rfl,h2⟩
  ·rw [h2]
   exact h.ok i u h1
  ·rw [h2]
   exact ok
end
theorem Nx {rk:List (Str × Nat × Int)} {x:Str × Nat × Int}:∀ {rows:List R},(∀ r∈rows,r.w = "line"->r.nm∈rk.map (·.1))->linesOf (rk++[x]) rows=linesOf rk rows:=by
 have key:∀ (rows:List R),(∀ r∈rows,r.w = "line"->r.nm∈rk.map (·.1))->∀ acc,rows.foldl (Df (rk++[x])) acc=rows.foldl (Df rk) acc:=by
  intro rows
  induction rows with
  | nil=>intro _ _; rfl
  | cons r rs ih =>
   intro h acc
   have e:Df (rk++[x]) acc r=Df rk acc r:=by
    unfold Df
    by_cases h1:Eh r.w=true
    ·rw [if_pos h1,if_pos h1]
    ·rw [if_neg h1,if_neg h1]
     by_cases h2:r.w = "line"
     ·rw [if_pos h2,if_pos h2]
      have hm:=h r (List.mem_cons_self ..) h2
      have:lnOf (rk++[x]) r=lnOf rk r:=by
       unfold lnOf
       rw [List.map_append,List.idxOf_append,if_pos hm]
      rw [this]
     ·rw [if_neg h2,if_neg h2]
   show rs.foldl _ (Df (rk++[x]) acc r)=rs.foldl _ (Df rk acc r)
   rw [e]
   exact ih (fun r hr=>h r (List.mem_cons_of_mem _ hr)) _
 exact fun {rows} h=>key rows h []
theorem Sx {ks:List R} {k r:R} (h:∀ t∈K_ r,t∈ks.map (·.nm)):stN (ks++[k]) r=stN ks r:=by
 unfold stN
 refine congrArg Wd.mk (List.map_congr_left fun t ht=>?_)
 rw [List.map_append,List.idxOf_append,if_pos (h t ht)]
noncomputable abbrev Tn (r:R):Bool:=decide (V.str r.w=V.str "step")
structure HN (K:PySem.W.Frag) (aB aP aM:Addr) (rows:List R) (bs:List (Str × Nat)) (rk:List (Str × Nat × Int)) (ks:List R) (ls:List (List Ln)) (sts:List Nat):Prop where
 ok:∀ (ρ:V->R) (us:List V),us.map ρ=rows->Hh K aB aP aM ρ us bs rk ks
 ln:linesOf rk rows=ls
 st:(rows.filter Tn).map (stN ks)=sts
 lm:∀ r∈rows,r.w = "line"->r.nm∈rk.map (·.1)
 sm:∀ r∈rows,r.w = "step"->∃ ts:List Str,V.str r.nm::r.rest=ts.map V.str/\ts.length<=24/\∀ t∈ts,t∈ks.map (·.nm)
section
variable {aB aP aM:Addr} {rows:List R} {bs:List (Str × Nat)} {rk:List (Str × Nat × Int)} {ks:List R} {ls:List (List Ln)} {sts:List Nat}
theorem HN.nil:HN K aB aP aM [] [] [] [] [] []:=⟨fun ρ us e=>by rw [List.map_eq_nil_iff.mp e]; exact Hh.nil,rfl,rfl,(fun _ z=>nomatch z),(fun _ z=>nomatch z)⟩
theorem P_ {r:R} (h:r.w ≠ "step"):(rows++[r]).filter Tn=rows.filter Tn:=by
 rw [List.filter_append,List.filter_cons,if_neg (by intro z; exact h (V.str.inj (of_decide_eq_true z)))]
 simp
theorem J_ {r:R} {Q:R->Prop} (h:∀ r∈rows,Q r) (hr:Q r):∀ x∈rows++[r],Q x:=fun x hx=>by
 rcases List.mem_append.mp hx with z | z
 ·exact h x z
 ·rw [List.mem_singleton.mp z]
  exact hr
theorem HN.ZJ (F:V6 K aB aP aM) (h:HN K aB aP aM rows bs rk ks ls sts) {t:Str} {n:Nat} (ht:isNm t) (hf:∀ b∈bs,b.1 ≠ t) (hr:∀ r∈rk,r.1 ≠ t) (hk:∀ k∈ks,k.nm ≠ t) (hb:bs.length<5) (h1:1<=n) (h2:n<=61):HN K aB aP aM (rows++[Fx (t,n)]) (bs++[(t,n)]) rk ks ls sts:=by
 refine ⟨fun ρ us e=>?_,?_,?_,J_ h.lm (fun z=>absurd z (by show ¬ ("board" : Str) = "line"; decide +kernel)),J_ h.sm (fun z=>absurd z (by show ¬ ("board" : Str) = "step"; decide +kernel))⟩
 ·obtain ⟨us',v,rfl,e',hv⟩:=Ij e
  have O:=h.ok ρ us' e'
  refine O.snoc ?_ ?_ ?_ (fun _ _ h=>h) (fun z=>absurd (hv ▸ z) (by show ¬ ("board" : Str) = "line"; decide +kernel)) ?_
  ·rw [Jp (by unfold pw; rw [hv]; exact decide_eq_true rfl),List.map_append,O.eb,List.map_append,List.map_singleton,hv]
   rfl
  ·rw [Dl (by unfold pw; rw [hv]; show decide (V.str "board" = V.str "rank")=false; decide +kernel),O.er]
  ·rw [Dl (by rw [hv]; show Eh "board" = false; decide +kernel),O.ek]
  ·rw [hv]
   exact .inl (PQ (Qh F.f rfl ht (O.fresh hf hr hk) (by rw [O.ZF]; exact hb) h1 h2) O.Yn)
 ·rw [Cd,h.ln]
  rfl
 ·rw [P_ (by show ¬ ("board" : Str) = "step"; decide +kernel)]
  exact h.st
theorem HN.rank (F:V6 K aB aP aM) (h:HN K aB aP aM rows bs rk ks ls sts) {t:Str} {n:Nat} {wi:Int} (ht:isNm t) (hf:∀ b∈bs,b.1 ≠ t) (hr:∀ r∈rk,r.1 ≠ t) (hk:∀ k∈ks,k.nm ≠ t) (hc:rk.length<12) (h1:1<=n) (h2:n<=97) (h3:0<=wi) (h4:wi<=1000000000):HN K aB aP aM (rows++[GQ (t,n,wi)]) bs (rk++[(t,n,wi)]) ks ls sts:=by
 have lm':∀ r∈rows,r.w = "line"->r.nm∈(rk++[(t,n,wi)]).map (·.1):=fun r hr z=>by
  rw [List.map_append]
  exact List.mem_append_left _ (h.lm r hr z)
 refine ⟨fun ρ us e=>?_,?_,?_,J_ lm' (fun z=>absurd z (by show ¬ ("rank" : Str) = "line"; decide +kernel)),J_ h.sm (fun z=>absurd z (by show ¬ ("rank" : Str) = "step"; decide +kernel))⟩
 ·obtain ⟨us',v,rfl,e',hv⟩:=Ij e
  have O:=h.ok ρ us' e'
  refine O.snoc ?_ ?_ ?_ (fun j r h=>by rw [List.getElem?_append_left (List.getElem?_eq_some_iff.mp h).1]; exact h) (fun z=>absurd (hv ▸ z) (by show ¬ ("rank" : Str) = "line"; decide +kernel)) ?_
  ·rw [Dl (by unfold pw; rw [hv]; show decide (V.str "rank" = V.str "board")=false; decide +kernel),O.eb]
  ·rw [Jp (by unfold pw; rw [hv]; exact decide_eq_true rfl),List.map_append,O.er,List.map_append,List.map_singleton,hv]
   rfl
  ·rw [Dl (by rw [hv]; show Eh "rank" = false; decide +kernel),O.ek]
  ·rw [hv]
   exact .inl (RM F rfl ht (O.fresh hf hr hk) (by rw [O.bU]; exact hc) h1 h2 h3 h4 O.Yn)
 ·rw [Cd,Nx h.lm,h.ln]
  rfl
 ·rw [P_ (by show ¬ ("rank" : Str) = "step"; decide +kernel)]
  exact h.st
theorem HN.Wh (h:HN K aB aP aM rows bs rk ks ls sts) {r:R} (hw:r.w = "stop" \/ r.w = "coupler" \/ r.w = "mute") (hr:∀ (ρ:V->R) (us:List V),us.map ρ=rows->Kp K aB aP aM ρ us r):HN K aB aP aM (rows++[r]) bs rk (ks++[r]) (ls++[[]]) sts:=by
 have hK:=Jv hw
 have sm':∀ r'∈rows,r'.w = "step"->∃ ts:List Str,V.str r'.nm::r'.rest=ts.map V.str/\ts.length<=24/\∀ t∈ts,t∈(ks++[r]).map (·.nm):=fun r' hr' z=>by
  obtain ⟨ts,g1,g2,g3⟩:=h.sm r' hr' z
  exact ⟨ts,g1,g2,fun t ht=>by rw [List.map_append]; exact List.mem_append_left _ (g3 t ht)⟩
 refine ⟨fun ρ us e=>?_,?_,?_,J_ h.lm (fun z=>?_),J_ sm' (fun z=>?_)⟩
 ·obtain ⟨us',v,rfl,e',hv⟩:=Ij e
  have O:=h.ok ρ us' e'
  refine O.snoc ?_ ?_ ?_ (fun _ _ h=>h) (fun z=>?_) ?_
  ·rw [Dl (by unfold pw; rw [hv]; rcases hw with e | e | e <;> rw [e] <;> decide +kernel),O.eb]
  ·rw [Dl (by unfold pw; rw [hv]; rcases hw with e | e | e <;> rw [e] <;> decide +kernel),O.er]
  ·rw [Jp (by rw [hv]; exact hK),List.map_append,O.ek,List.map_singleton,hv]
  ·rw [hv] at z
   rcases hw with e | e | e <;> rw [e] at z <;> exact absurd z (by decide +kernel)
  ·rw [hv]
   exact .inl (PQ (hr ρ us' e') O.Yn)
 ·rw [Cd,h.ln]
  unfold Df
  rw [if_pos hK]
 ·rw [P_ (by rcases hw with e | e | e <;> rw [e] <;> decide +kernel),← h.st]
  refine List.map_congr_left fun r' hr'=>Sx fun t ht=>?_
  obtain ⟨g1,g2⟩:=List.mem_filter.mp hr'
  obtain ⟨ts,g3,_,g5⟩:=h.sm r' g1 (V.str.inj (of_decide_eq_true g2))
  rw [Fl g3] at ht
  exact g5 t ht
 ·rcases hw with e | e | e <;> rw [e] at z <;> exact absurd z (by decide +kernel)
 ·rcases hw with e | e | e <;> rw [e] at z <;> exact absurd z (by decide +kernel)
theorem HN.VP (F:V6 K aB aP aM) (h:HN K aB aP aM rows bs rk ks ls sts) {t a b:Str} {n m:Nat} {s:Int} (ht:isNm t) (hb:∀ b∈bs,b.1 ≠ t) (hr:∀ r∈rk,r.1 ≠ t) (hk:∀ k∈ks,k.nm ≠ t) (hc:(ks.filter fun r=>decide (V.str r.w=V.str "coupler")).length<12) (ha:isNm a) (ha':(a,n)∈bs) (hb1:isNm b) (hb':(b,m)∈bs) (h1 : -60<=s) (h2:s<=60) :
  HN K aB aP aM (rows++[⟨"coupler",t,[.str a,.str b,.int s]⟩]) bs rk (ks++[⟨"coupler",t,[.str a,.str b,.int s]⟩]) (ls++[[]]) sts :=
 h.Wh (.inr (.inl rfl)) fun ρ us e=>by
  have O:=h.ok ρ us e
  exact Mh F.f rfl ht (O.fresh hb hr hk) (by rw [O.Wl (.inr (.inl rfl))]; exact hc) ha (O.Nj ha') hb1 (O.Nj hb') h1 h2
theorem HN.plain (F:V6 K aB aP aM) (h:HN K aB aP aM rows bs rk ks ls sts) {wd t a:Str} {n:Nat} (hw:wd = "stop" \/ wd = "mute") (ht:isNm t) (hb:∀ b∈bs,b.1 ≠ t) (hr:∀ r∈rk,r.1 ≠ t) (hk:∀ k∈ks,k.nm ≠ t) (hc:(ks.filter fun r=>decide (V.str r.w=V.str wd)).length<Ko wd) (ha:isNm a) (ha':(a,n)∈bs) :
  HN K aB aP aM (rows++[⟨wd,t,[.str a]⟩]) bs rk (ks++[⟨wd,t,[.str a]⟩]) (ls++[[]]) sts:=by
 have hw3:wd = "stop" \/ wd = "coupler" \/ wd = "mute":=by rcases hw with e | e; exact .inl e; exact .inr (.inr e)
 exact h.Wh hw3 fun ρ us e=>by
  have O:=h.ok ρ us e
  exact Q9 F.f hw rfl ht (O.fresh hb hr hk) (by rw [O.Wl hw3]; exact hc) ha (O.Nj ha')
theorem HN.line (F:V6 K aB aP aM) {l0:List Ln} (h:HN K aB aP aM rows bs rk ks (ls++[l0]) sts) {bd:Str} {cnt:Nat} (T:Tl rows bd cnt) (hc:cnt<4) {j n m:Nat} {t:Str} {wi sh lo hi:Int} (hj:rk[j]? = some (t,m,wi)) (hnd:(rk.map (·.1)).Nodup) (ht:isNm t) (hbd:(bd,n)∈bs) (hle:lo<=hi) (hn:hi<(n:Int)) (b1 : -200<=sh) (b2:sh<=200) (b3:0<=lo) (b6:hi<=60) :
  HN K aB aP aM (rows++[⟨"line",t,[.int sh,.int lo,.int hi]⟩]) bs rk ks (ls++[l0++[⟨j,sh,lo,hi⟩]]) sts:=by
 obtain ⟨r0,st,lr,er,g1,g2,g3,g4⟩:=T
 have nK:Eh "line" = false:=by decide +kernel
 refine ⟨fun ρ us e=>?_,?_,?_,J_ h.lm (fun _=>List.mem_map.mpr ⟨_,List.mem_of_getElem? hj,rfl⟩),J_ h.sm (fun z=>absurd z (by show ¬ ("line" : Str) = "step"; decide +kernel))⟩
 ·obtain ⟨us',v,rfl,e',hv⟩:=Ij e
  have O:=h.ok ρ us' e'
  obtain ⟨u0,u1,eu,m1,m2⟩:=List.map_eq_append_iff.mp (e'.trans er)
  obtain ⟨sv,lv,e1,m3,m4⟩:=List.map_eq_cons_iff.mp m2
  subst e1
  have hsv:sv∈us':=by rw [eu]; simp
  have hlv:lv.length=cnt:=by rw [← g3,← m4,List.length_map]
  have hus:us'.length=u0.length+(cnt+1):=by rw [eu,List.length_append,List.length_cons,hlv]
  refine O.snoc ?_ ?_ ?_ (fun _ _ h=>h) (fun _=>⟨⟨j,_,sh,lo,hi,hj,by rw [hv],by rw [hv]⟩,sv,hsv,by rw [m3,g1]; decide +kernel⟩) ?_
  ·rw [Dl (by unfold pw; rw [hv]; show decide (V.str "line" = V.str "board")=false; decide +kernel),O.eb]
  ·rw [Dl (by unfold pw; rw [hv]; show decide (V.str "line" = V.str "rank")=false; decide +kernel),O.er]
  ·rw [Dl (by rw [hv]; exact nK),O.ek]
  ·rw [hv]
   have hst:us'[us'.length - 1 - cnt]? = some sv:=by
    have:us'.length - 1 - cnt=u0.length:=by omega
    rw [this,eu,List.getElem?_append_right (Nat.le_refl _),Nat.sub_self]
    rfl
   refine .inl ?_
   refine Qx F rfl ht (O.Xk (List.mem_of_getElem? hj)) b1 b2 b3 (by omega) (by omega) b6 O.Yn ⟨cnt,sv,sh,lo,hi,bd,[],rfl,⟨fun i hi'=>?_,by omega,sv,hst,by rw [m3,g1]; decide +kernel⟩,hc,hst,by rw [m3,g1],by rw [m3,g2],hle,?_⟩
   ·have hi2:cnt - 1 - i<lv.length:=by omega
    refine ⟨lv[cnt - 1 - i],?_,?_⟩
    ·have:us'.length - 1 - i=u0.length+((cnt - 1 - i)+1):=by omega
     rw [this,eu,List.getElem?_append_right (Nat.le_add_right _ _),Nat.add_sub_cancel_left,List.getElem?_cons_succ]
     exact List.getElem?_eq_getElem hi2
    ·refine g4 _ ?_
     rw [← m4]
     exact List.mem_map_of_mem (List.getElem_mem hi2)
   ·obtain ⟨u,hu,hub⟩:=O.Wu hbd
    rw [List.any_eq_true]
    refine ⟨u,List.mem_filter.mpr ⟨hu,?_⟩,?_⟩
    ·unfold pw
     rw [hub]
     exact decide_eq_true rfl
    ·show (pn ρ bd u && decide (hi<W9 (ρ u)))=true
     unfold pn
     rw [hub,Bool.and_eq_true]
     exact ⟨decide_eq_true rfl,decide_eq_true hn⟩
 ·rw [Cd,h.ln]
  unfold Df
  rw [if_neg (by show ¬ Eh "line" = true; rw [nK]; decide),if_pos rfl,Gu]
  have hjl:=(List.getElem?_eq_some_iff.mp hj).1
  have:(rk.map (·.1)).idxOf t=j:=by
   have hl:j<(rk.map (·.1)).length:=by rw [List.length_map]; exact hjl
   have e2:(rk.map (·.1))[j]=t:=by
    rw [List.getElem_map]
    have:=(List.getElem?_eq_some_iff.mp hj).2
    rw [this]
   rw [← e2]
   exact hnd.idxOf_getElem j hl
  show ls++[l0++[⟨(rk.map (·.1)).idxOf t,sh,lo,hi⟩]]=_
  rw [this]
 ·rw [P_ (by show ¬ ("line" : Str) = "step"; decide +kernel)]
  exact h.st
theorem HN.step (h:HN K aB aP aM rows bs rk ks ls sts) (hM:∃ t,PySem.W.nsIn K aM "step" = some (some (.int 12 t))) {t0:Str} {ts:List Str} (nd:(t0::ts).Nodup) (h24:(t0::ts).length<=24) (hts:∀ t∈t0::ts,isNm t/\∃ k∈ks,k.w = "stop" /\ k.nm=t) (hc:sts.length<12):HN K aB aP aM (rows++[⟨"step",t0,ts.map V.str⟩]) bs rk ks ls (sts++[Wd.mk ((t0::ts).map fun t=>(ks.map (·.nm)).idxOf t)]):=by
 have e0:V.str t0::ts.map V.str=(t0::ts).map V.str:=rfl
 have hin:∀ t∈t0::ts,t∈ks.map (·.nm):=fun t ht=>by
  obtain ⟨_,k,hk,_,rfl⟩:=hts t ht
  exact List.mem_map_of_mem hk
 refine ⟨fun ρ us e=>?_,?_,?_,J_ h.lm (fun z=>absurd z (by show ¬ ("step" : Str) = "line"; decide +kernel)),J_ h.sm (fun _=>⟨t0::ts,e0,h24,hin⟩)⟩
 ·obtain ⟨us',v,rfl,e',hv⟩:=Ij e
  have O:=h.ok ρ us' e'
  refine O.snoc ?_ ?_ ?_ (fun _ _ h=>h) (fun z=>absurd (hv ▸ z) (by show ¬ ("step" : Str) = "line"; decide +kernel)) ?_
  ·rw [Dl (by unfold pw; rw [hv]; show decide (V.str "step" = V.str "board")=false; decide +kernel),O.eb]
  ·rw [Dl (by unfold pw; rw [hv]; show decide (V.str "step" = V.str "rank")=false; decide +kernel),O.er]
  ·rw [Dl (by rw [hv]; show Eh "step" = false; decide +kernel),O.ek]
  ·rw [hv]
   obtain ⟨tk,hM⟩:=hM
   refine .inr ⟨rfl,⟨t0::ts,e0,nd,h24,fun t ht=>?_⟩,12,tk,hM,?_⟩
   ·obtain ⟨g1,k,g2,g3,g4⟩:=hts t ht
    refine ⟨g1,Jc.mpr ?_⟩
    rw [← O.ek] at g2
    obtain ⟨u,g5,rfl⟩:=List.mem_map.mp g2
    exact ⟨u,(List.mem_filter.mp g5).1,g3,g4⟩
   ·have:(us'.filter (pw ρ "step")).length=sts.length:=by
     rw [← h.st,List.length_map,← e',List.filter_map,List.length_map]
     rfl
    show (((us'.filter (pw ρ "step")).length:Nat):Int)<12
    omega
 ·rw [Cd,h.ln]
  rfl
 ·rw [List.filter_append,List.map_append,h.st]
  have e1:([(⟨"step",t0,ts.map V.str⟩:R)]).filter Tn=[⟨"step",t0,ts.map V.str⟩]:=rfl
  rw [e1]
  show sts++[stN ks _]=_
  unfold stN
  rw [Fl (r:=⟨"step",t0,ts.map V.str⟩) e0]
theorem HN.fin {H:Hp} {vs:List V} (h:HN K aB aP aM rows bs rk ks ls sts) (hv:Paired (fun (r:R) v=>TupAt H r.v v) rows vs) (b0:1<=bs.length) (b5:bs.length<=5) (sz:∀ b∈bs,b.2<=61) (nr:rk.length<=12) (nz:∀ r∈rk,r.2.1<=97) (nk:ks.length<=100) (nb:(bs.map (·.1)).Nodup) (nrr:(rk.map (·.1)).Nodup) (nn:(ks.map (·.nm)).Nodup) (len:rows.length<=150) :
  Rows H (GP H) vs/\gR K aB aP aM (GP H) vs bs rk ks/\linesOf rk (vs.map (GP H))=ls/\((vs.filter (pw (GP H) "step")).map fun v=>stN ks (GP H v))=sts:=by
 have em:=JZ hv
 have O:=h.ok (GP H) vs em
 have hR:Rows H (GP H) vs:=fun v hv'=>by
  obtain ⟨r,_,hr⟩:=Cg hv hv'
  rw [HX hr]
  exact hr
 refine ⟨hR,⟨O.eb,O.er,O.ek,O.ln,fun v hv' hw=>?_,b0,b5,sz,nr,nz,nk,nb,nrr,nn,by rw [← hv.length]; exact len,O.ok⟩,by rw [em]; exact h.ln,?_⟩
 ·refine h.sm (GP H v) ?_ hw
  rw [← em]
  exact List.mem_map_of_mem hv'
 ·rw [← h.st,← em,List.filter_map,List.map_map]
  rfl
end
end Og
namespace Og
open PySem L2 PyProof.Rows
noncomputable def m9 (b:Str):Prop:=b.length<=6/\∀ c∈b.cps.toList,97<=c/\c<=122
theorem len_app (a b:Str):(a++b).length=a.length+b.length:=by
 show (a.cps++b.cps).size=a.cps.size+b.cps.size
 simp
noncomputable def Yq (n:Nat):Str:=⟨#[97+n]⟩
noncomputable def iY (b:Str) (k:Nat):Str:=if 26<=k then b++Yq (k % 26)++Yq (k / 26 * 5 % 26) else b++Yq (k % 26)
end Og
namespace Og
open PySem L2
structure mU where
 p:Addr
 r:Addr
 b:Addr
 k:Addr
 n:Addr
 d:Addr
 s:Addr
inductive Dt where
 | stop (b:Nat) (L:Addr)
 | coup (a b:Nat) (s:Int)
 | mute (b:Nat)
noncomputable def Dt.L:Dt->List Addr
 | .stop _ L=>[L]
 | _=>[]
structure Pl where
 rows:List R
 bs:List (Str × Nat)
 rk:List (Str × Nat × Int)
 ks:List R
 ls:List (List Ln)
 ds:List Dt
 ch:List (List Nat)
noncomputable abbrev Pl.Ls (S:Pl):List Addr:=S.ds.flatMap Dt.L
noncomputable def j9 (H:Hp) (L:Addr) (l:List Ln):Prop:=∃ ts,H L=some (.lst ts)/\Paired (fun (y:Ln) z=>TupAt H (mD y) z) l ts
noncomputable def gF (H:Hp) (x:Dt × List Ln) (v:V):Prop:=match x.1 with
 | .stop b L=>TupAt H [.int (b:Nat),.ref L] v/\j9 H L x.2
 | .coup a b s=>TupAt H [.int (a:Nat),.int (b:Nat),.int s] v
 | .mute b=>v=.int (b:Nat)
noncomputable abbrev nj (r:Str × Nat × Int):List V:=[.str r.1,.int (r.2.1:Nat),.int r.2.2]
noncomputable abbrev nZ (r:R):List V:=[.str r.w,.str r.nm]
structure nD (H0 H:Hp) (A:mU) (S:Pl) (Cs:List Addr) (lo:V):Prop where
 dp:∃ kvs:List (Key × V),H A.p=some (.dK kvs)/\kvs.length<=7/\CT kvs (Sum.inr "rows")=some (.ref A.r)/\CT kvs (Sum.inr "boards")=some (.ref A.b)/\CT kvs (Sum.inr "ranks")=some (.ref A.k)/\CT kvs (Sum.inr "knobs")=some (.ref A.n)/\CT kvs (Sum.inr "details")=some (.ref A.d)/\CT kvs (Sum.inr "steps")=some (.ref A.s)/\CT kvs (Sum.inr "lines")=some lo
 nd:(A.r::A.b::A.k::A.n::A.d::A.s::(S.Ls++Cs)).Nodup
 sm:Ak H0 H
 f0:H0 A.p=none
 fr:∀ a∈A.r::A.b::A.k::A.n::A.d::A.s::S.Ls,H0 a=none
 r:∃ vs,H A.r=some (.lst vs)/\Paired (fun (r:R) v=>TupAt H r.v v) S.rows vs
 b:∃ vs,H A.b=some (.lst vs)/\Paired (fun b v=>TupAt H (bV b) v) S.bs vs
 k:∃ vs,H A.k=some (.lst vs)/\Paired (fun r v=>TupAt H (nj r) v) S.rk vs
 n:∃ vs,H A.n=some (.lst vs)/\Paired (fun (r:R) v=>TupAt H (nZ r) v) S.ks vs
 d:∃ vs,H A.d=some (.lst vs)/\S.ds.length=S.ls.length/\Paired (gF H) (S.ds.zip S.ls) vs
 s:H A.s=some (.lst (Cs.map V.ref))
 c:Paired (fun C (l:List Nat)=>H C=some (.lst (l.map fun n:Nat=>V.int (n:Int)))) Cs S.ch
section
variable {H0 H H':Hp} {A:mU} {S:Pl} {Cs:List Addr} {lo:V}
end
end Og
namespace Og
open PySem L2
variable {K:PySem.W.Frag} {aB aP aM:Addr}
noncomputable def gk (bs:List (Str × Nat)) (r:R):Dt->Prop
 | .stop b _=>r.w = "stop" /\ ∃ x,bs[b]? = some x/\r.rest=[.str x.1]
 | .coup a b s=>r.w = "coupler" /\ ∃ x y,bs[a]? = some x/\bs[b]? = some y/\r.rest=[.str x.1,.str y.1,.int s]
 | .mute b=>r.w = "mute" /\ ∃ x,bs[b]? = some x/\r.rest=[.str x.1]
structure mz (K:PySem.W.Frag) (aB aP aM:Addr) (base:Str) (S:Pl) (lo:V):Prop where
 bl:HN K aB aP aM S.rows S.bs S.rk S.ks S.ls (S.ch.map Wd.mk)
 nb:∀ x∈S.bs,∃ i,i<S.rows.length/\x.1=iY base i
 nr:∀ x∈S.rk,∃ i,i<S.rows.length/\x.1=iY base i
 nk:∀ x∈S.ks,∃ i,i<S.rows.length/\x.nm=iY base i
 db:(S.bs.map (·.1)).Nodup
 dr:(S.rk.map (·.1)).Nodup
 dk:(S.ks.map (·.nm)).Nodup
 b5:S.bs.length<=5
 sb:∀ x∈S.bs,1<=x.2/\x.2<=61
 r12:S.rk.length<=12
 sr:∀ x∈S.rk,1<=x.2.1/\x.2.1<=97
 lk:S.ks.length<=S.rows.length
 pd:Paired (gk S.bs) S.ks S.ds
 ch:∀ l∈S.ch,l.Nodup/\∀ i∈l,∃ k,S.ks[i]? = some k/\k.w = "stop"
 op:lo=.non \/ ∃ ds0 b L x ls0 l0,S.ds=ds0++[.stop b L]/\S.ls=ls0++[l0]/\lo=.ref L/\S.bs[b]? = some x/\Tl S.rows x.1 l0.length
section
variable {base:Str} {S:Pl} {lo:V}
noncomputable def fO (ks:List R) (i:Nat):Str:=((ks[i]?).map (·.nm)).getD ""
noncomputable abbrev nY (a1 a2 a3 a4 a5 a6:Addr):List (Key × V):=[(Sum.inr "rows",.ref a1),(Sum.inr "boards",.ref a2),(Sum.inr "ranks",.ref a3),(Sum.inr "knobs",.ref a4),(Sum.inr "details",.ref a5),(Sum.inr "steps",.ref a6),(Sum.inr "lines",.non)]
end
end Og
namespace Og
open PySem L2
noncomputable def nq (x:V):Prop:=(∃ t,x=.str t) \/ ∃ i,x=.int i
noncomputable def m7 (H:Hp) (vs:List V):Prop:=∀ v∈vs,∃ (T:Addr) (xs:List V),v=.ref T/\H T=some (.tup xs)/\∀ x∈xs,nq x
variable {K:PySem.W.Frag} {aB aP aM:Addr}
noncomputable def Xm (rows:List R):V->R
 | .int i=>(rows[i.toNat]?).getD ⟨"","",[]⟩
 | _=>⟨"","",[]⟩
end Og
namespace L2
open PySem PySem.Spec PyProof.Rows
section
variable {X:Cx}
theorem SN:fu X "list.index" (fun x xs H Q=>∃ l ys y j,x=V.ref l/\xs=[y]/\Cw X.K H l ys/\Do y=true/\ys.all Do=true/\j<ys.length/\LR (ys.getD j .non) y=true/\(∀ m,m<j->LR (ys.getD m .non) y=false)/\Q (.int (j:Nat)) H):=by
 intro pins s σ H x xs v us Q I rx r h
 obtain ⟨l,ys,y,j,rfl,rfl,hS,fy,fs,hj,hit,hno,q⟩:=h
 obtain ⟨u,rfl,ru⟩:=vals1 r
 cases rx
 obtain ⟨its,rv,pl,hz⟩:=I.list hS
 obtain ⟨⟨cls,dd,data,sl⟩,ho,hc,n,hd⟩:=id pl.isList
 simp only at hc hd
 subst hc hd
 have hlen:=rv.length
 have hb:ys.length<=sizeLine:=hz
 have hline:=Gi
 refine call_meets PySem.F.slot_list_index ⟨_,ho,rfl⟩ PySem.F.entry_list_index (PySem.F.args_list_index_2 _ _)
  (SeqAt.list_indexAt l its.toArray n dd sl u (RZ y) j (by simpa [← hlen] using hj) (by omega) ?_ ?_) ⟨ho,fun z hz=>IK ru fy rv fs z (by simpa using hz),⟨.int (j:Nat),H,I.tok _,⟨_,rfl⟩,q⟩⟩
 ·have h1:j<its.length:=by omega
  show RZ y its[j]=true
  rw [Lp (Fd rv h1) (PP fs hj)]
  exact hit
 ·intro m hm hlt
  have h1:m<its.length:=by simpa using hm
  show RZ y its[m]=false
  rw [Lp (Fd rv h1) (PP fs (by omega))]
  exact hno m hlt
end
end L2
namespace L2
open PySem PySem.Spec PySem.Calls PySem.Builtin PySem.Builtin.Str PyProof.Rows
section
variable {X:Cx}
end
end L2
namespace Og
open PySem L2
noncomputable def Tx (t:Str):Prop:=t.length<=1000/\∀ c∈t.cps.toList,c<128
theorem isNm.tx {t:Str} (h:isNm t):Tx t:=⟨by have:=h.2.1; omega,fun c hc=>by have:=h.2.2 c hc; omega⟩
inductive Ex (H:Hp):V->Prop where
 | non:Ex H .non
 | bl (b:Bool):Ex H (.bl b)
 | int (i:Int):Ex H (.int i)
 | lst {a:Addr} {xs:List V} (h:H a=some (.lst xs)):Ex H (.ref a)
 | tup {a:Addr} {xs:List V} (h:H a=some (.tup xs)):Ex H (.ref a)
 | str {t:Str} (h:Tx t):Ex H (.str t)
noncomputable def Gp (ns:List Str):V->V
 | .str t=>if t∈ns then .int ((ns.idxOf t:Nat):Int) else .non
 | _=>.non
theorem Gw {ns:List Str} {t:Str} (h:t∈ns):ns[ns.idxOf t]? = some t:=by
 have hl:=List.idxOf_lt_length_of_mem h
 rw [List.getElem?_eq_getElem hl,List.getElem_idxOf hl]
theorem PX (a b:Str):LR (.str a) (.str b)=decide (a=b):=by
 show (a == b)=_
 rw [Bool.eq_iff_iff,beq_iff_eq,decide_eq_true_eq]
theorem UT {t:Str}:∀ {ns:List Str} {m:Nat},m<ns.idxOf t->∀ z,ns[m]? = some z->z ≠ t
 | [],m,h,z,hz=>by simp at hz
 | a::ns,m,h,z,hz=>by
  rw [List.idxOf_cons] at h
  by_cases e:a=t
  ·rw [e,beq_self_eq_true] at h
   exact absurd h (Nat.not_lt_zero _)
  ·rw [show (a == t)=false from beq_eq_false_iff_ne.mpr e] at h
   cases m with
   | zero =>
    simp at hz
    rw [← hz]
    exact e
   | succ m =>
    rw [List.getElem?_cons_succ] at hz
    exact UT (Nat.lt_of_succ_lt_succ h) z hz
end Og
namespace Og
open PySem L2
noncomputable def SM (K:PySem.W.Frag) (C:Addr):Bool:=(PySem.W.findIn K (.ref C) "__getattribute__" == some (some (.builtin "BaseException.__getattribute__"))) && (PySem.W.findIn K (.ref C) "__getattr__" == some none) &&
 (PySem.W.mroIn K C (.type "BaseException") == some true) && PySem.W.hasDictIn K C && (PySem.W.findIn K (.ref C) "__class__" == some (some (.builtin "object.__class__"))) &&
 (PySem.W.specialIn K (.builtin "object.__class__") "__get__" == some (some (.builtin "getset_descriptor.__get__"))) && (PySem.W.takesIn K (.builtin "object.__class__") == some true) && (PySem.W.mroIn K C (.type "object") == some true) && PySem.W.keepIn K (.ref C)
theorem Mp {K:PySem.W.Frag} {C:Addr} (h:SM K C=true):Lh K C/\PySem.W.keepIn K (.ref C)=true:=by
 simp only [SM,Bool.and_eq_true,beq_iff_eq] at h
 obtain ⟨⟨⟨⟨⟨⟨⟨⟨h1,h2⟩,h3⟩,h4⟩,h5⟩,h6⟩,h7⟩,h8⟩,h9⟩:=h
 exact ⟨⟨h1,h2,h3,h4,h5,h6,h7,h8⟩,h9⟩
noncomputable def Kc (K:PySem.W.Frag) (C cO:Addr) (ds:List Addr):Bool :=
 SM K C && (PySem.W.kitOne K (.ref C) (.ref C) == some true) && (PySem.W.kitOne K (.ref C) (.type "ValueError") == some true) && (PySem.W.kitAny K (.ref C) (ds.map Value.ref) == some false) && (ds.all fun D=>PySem.W.kitOne K (.ref C) (.ref D) == some false) &&
 PySem.W.excIn K C Va "ValueError.__new__" && (PySem.W.mroIn K C (.ref cO) == some true)
structure Rc (K:PySem.W.Frag) (C cO:Addr) (ds:List Addr):Prop where
 xc:Lh K C
 kp:PySem.W.keepIn K (.ref C)=true
 k0:PySem.W.kitOne K (.ref C) (.ref C)=some true
 kv:PySem.W.kitOne K (.ref C) (.type "ValueError")=some true
 ka:PySem.W.kitAny K (.ref C) (ds.map Value.ref)=some false
 kf:∀ D∈ds,PySem.W.kitOne K (.ref C) (.ref D)=some false
 ex:PySem.W.excIn K C Va "ValueError.__new__" = true
 mro:PySem.W.mroIn K C (.ref cO)=some true
theorem Rc.of {K:PySem.W.Frag} {C cO:Addr} {ds:List Addr} (h:Kc K C cO ds=true):Rc K C cO ds:=by
 unfold Kc at h
 simp only [Bool.and_eq_true,beq_iff_eq,List.all_eq_true] at h
 obtain ⟨⟨⟨⟨⟨⟨a1,a2⟩,a3⟩,a4⟩,a5⟩,a6⟩,a7⟩:=h
 exact ⟨(Mp a1).1,(Mp a1).2,a2,a3,a4,a5,a6,a7⟩
structure nG (K:PySem.W.Frag) (mg:Str->Option Value) (cK cP cB cS cO:Addr):Prop where
 verr:mg "ValueError" = none
 mK:mg "NoKnob" = some (.ref cK)
 mP:mg "NoPiston" = some (.ref cP)
 mB:mg "NoBoard" = some (.ref cB)
 mS:mg "NoStep" = some (.ref cS)
 mO:mg "OrganError" = some (.ref cO)
 exO:PySem.W.excIn K cO Va "ValueError.__new__" = true
 rK:Rc K cK cO [cB,cP,cS]
 rP:Rc K cP cO [cB,cK,cS]
 rB:Rc K cB cO [cK,cP,cS]
 rS:Rc K cS cO [cB,cK,cP]
noncomputable abbrev Lb:List Str:=["__init__","draw","pull","push","store","press","cancel","shoe","drawn","knobs","step"]
structure DQ (Cy:Addr) (H:Hp) (y x:Addr) (dr sh:Nat) (sd:Addr):Prop where
 ex:∃ dy fs,H y=some (.ins Cy dy fs)/\fs.lookup ("organ" : Str)=some (.ref x)/\fs.lookup ("drawn_set" : Str)=some (.int (dr:Nat))/\fs.lookup ("shoe_step" : Str)=some (.int (sh:Nat))/\fs.lookup ("stored" : Str)=some (.ref sd)/\fs.length<=4/\∀ m∈Lb,fs.lookup m=none
theorem DQ.mono {Cy:Addr} {H H':Hp} {y x:Addr} {dr sh:Nat} {sd:Addr} (s:Ak H H') (h:DQ Cy H y x dr sh sd):DQ Cy H' y x dr sh sd:=by
 obtain ⟨dy,fs,h1,h2⟩:=h.ex
 exact ⟨dy,fs,s _ _ h1,h2⟩
structure Yo (C Cy:Addr) (Ho H:Hp) (y x:Addr) (us:List V) (bs:List (Str × Nat)) (rk:List (Str × Nat × Int)) (ks:List R) (ls:List (List Ln)) (sts:List Nat) (dr sh:Nat) (sd:Addr):Prop where
 o:Iz C Ho x us bs rk ks ls sts
 s:Ak Ho H
 n:Ho y=none
 c:DQ Cy H y x dr sh sd
theorem Yo.mono {C Cy:Addr} {Ho H H':Hp} {y x:Addr} {us:List V} {bs:List (Str × Nat)} {rk:List (Str × Nat × Int)} {ks:List R} {ls:List (List Ln)} {sts:List Nat} {dr sh:Nat} {sd:Addr} (s:Ak H H') (h:Yo C Cy Ho H y x us bs rk ks ls sts dr sh sd):Yo C Cy Ho H' y x us bs rk ks ls sts dr sh sd :=
 ⟨h.o,h.s.trans s,h.n,h.c.mono s⟩
theorem J1 {f:Str} {v u:V}:∀ {fs:List (Str × V)},fs.lookup f=some u->(BP f v fs).length=fs.length
 | [],h=>by cases h
 | (g,x)::r,h=>by
  unfold BP
  by_cases e:g=f
  ·rw [if_pos e]
   rfl
  ·rw [if_neg e]
   rw [List.lookup_cons,show (f == g)=false from beq_eq_false_iff_ne.mpr (Ne.symm e)] at h
   rw [List.length_cons,List.length_cons,J1 h]
theorem Ey (f:Str) (v:V):∀ fs:List (Str × V),(BP f v fs).length<=fs.length+1
 | []=>Nat.le_refl _
 | (g,x)::r=>by
  unfold BP
  split
  ·exact Nat.le_succ _
  ·exact Nat.succ_le_succ (Ey f v r)
theorem DQ.new {Cy:Addr} {H:Hp} {y dy x sd:Addr} (h:H y=some (.ins Cy dy (BP "stored" (.ref sd) (BP "shoe_step" (.int 0) (BP "drawn_set" (.int 0) (BP "organ" (.ref x) [])))))):DQ Cy H y x 0 0 sd:=by
 refine ⟨dy,_,h,?_,?_,?_,?_,?_,fun m hm=>?_⟩
 ·rw [Ae,if_neg (by decide +kernel),Ae,if_neg (by decide +kernel),Ae,if_neg (by decide +kernel),Ae,if_pos rfl]
 ·rw [Ae,if_neg (by decide +kernel),Ae,if_neg (by decide +kernel),Ae,if_pos rfl]
  rfl
 ·rw [Ae,if_neg (by decide +kernel),Ae,if_pos rfl]
  rfl
 ·rw [Ae,if_pos rfl]
 ·have h1:=Ey "stored" (.ref sd) (BP "shoe_step" (.int 0) (BP "drawn_set" (.int 0) (BP "organ" (.ref x) [])))
  have h2:=Ey "shoe_step" (.int 0) (BP "drawn_set" (.int 0) (BP "organ" (.ref x) []))
  have h3:=Ey "drawn_set" (.int 0) (BP "organ" (.ref x) [])
  have h4:=Ey "organ" (.ref x) []
  have h5:([]:List (Str × V)).length=0:=rfl
  omega
 ·have ne:∀ f:Str,f ∉ Lb->¬ m=f:=fun f hf e=>hf (e ▸ hm)
  rw [Ae,if_neg (ne _ (by decide +kernel)),Ae,if_neg (ne _ (by decide +kernel)),Ae,if_neg (ne _ (by decide +kernel)),Ae,if_neg (ne _ (by decide +kernel))]
  rfl
theorem DQ.putD {Cy:Addr} {H:Hp} {y dy x sd:Addr} {dr sh:Nat} {fs:List (Str × V)} (n:Nat) (l1:fs.lookup ("organ" : Str)=some (.ref x)) (l2:fs.lookup ("drawn_set" : Str)=some (.int (dr:Nat))) (l3:fs.lookup ("shoe_step" : Str)=some (.int (sh:Nat))) (l4:fs.lookup ("stored" : Str)=some (.ref sd)) (l5:fs.length<=4) (lm:∀ m∈Lb,fs.lookup m=none) (h:H y=some (.ins Cy dy (BP "drawn_set" (.int (n:Nat)) fs))):DQ Cy H y x n sh sd:=by
 refine ⟨dy,_,h,?_,?_,?_,?_,by rw [J1 l2]; exact l5,fun m hm=>?_⟩
 ·rw [Ae,if_neg (by decide +kernel)]
  exact l1
 ·rw [Ae,if_pos rfl]
 ·rw [Ae,if_neg (by decide +kernel)]
  exact l3
 ·rw [Ae,if_neg (by decide +kernel)]
  exact l4
 ·rw [Ae,if_neg fun e=>absurd hm (by rw [e]; decide +kernel)]
  exact lm m hm
theorem DQ.ZC {Cy:Addr} {H:Hp} {y dy x sd:Addr} {dr sh:Nat} {fs:List (Str × V)} (n:Nat) (l1:fs.lookup ("organ" : Str)=some (.ref x)) (l2:fs.lookup ("drawn_set" : Str)=some (.int (dr:Nat))) (l3:fs.lookup ("shoe_step" : Str)=some (.int (sh:Nat))) (l4:fs.lookup ("stored" : Str)=some (.ref sd)) (l5:fs.length<=4) (lm:∀ m∈Lb,fs.lookup m=none) (h:H y=some (.ins Cy dy (BP "shoe_step" (.int (n:Nat)) fs))):DQ Cy H y x dr n sd:=by
 refine ⟨dy,_,h,?_,?_,?_,?_,by rw [J1 l3]; exact l5,fun m hm=>?_⟩
 ·rw [Ae,if_neg (by decide +kernel)]
  exact l1
 ·rw [Ae,if_neg (by decide +kernel)]
  exact l2
 ·rw [Ae,if_pos rfl]
 ·rw [Ae,if_neg (by decide +kernel)]
  exact l4
 ·rw [Ae,if_neg fun e=>absurd hm (by rw [e]; decide +kernel)]
  exact lm m hm
end Og
namespace L2
open PySem PySem.Spec PyProof.Rows
structure V4 (K:PySem.W.Frag) (x qual:Str) (st:Stmt) (f:Addr) (fd:FuncData):Prop where
 ex:∃ (oc:Value) (od:Option Addr) (dV kV doc pm:Value) (an:Option Addr) (cdv ct:Value) (osl:Array (Option Value)),
  fd=PySem.W.fnOf x qual (Cz st) (CP st) (Af st) dV kV doc pm an cdv ct/\K.lookup f=some ⟨oc,od,.func fd,osl⟩/\PySem.W.codeIn K cdv qual=true
 kp:PySem.W.keepIn K (.ref f)=true
section
variable {P:Program} {w:World} {K:PySem.W.Frag} {mg:Str->Option Value} {base:Heap}
theorem WQ {x qual:Str} {st:Stmt} {f:Addr} {oc:Value} {od an:Option Addr} {osl:Array (Option Value)} {dV kV doc pm cdv ct:Value} (l:K.lookup f=some ⟨oc,od,.func (PySem.W.fnOf x qual (Cz st) (CP st) (Af st) dV kV doc pm an cdv ct),osl⟩)
  (c:PySem.W.codeIn K cdv qual=true) (k:PySem.W.keepIn K (.ref f)=true):V4 K x qual st f (PySem.W.fnOf x qual (Cz st) (CP st) (Af st) dV kV doc pm an cdv ct):=⟨⟨oc,od,dV,kV,doc,pm,an,cdv,ct,osl,rfl,l,c⟩,k⟩
theorem Yh {fd:FuncData} {ps:List Str} {t:Addr} {ot:Value} {odt:Option Addr} {items:Array Value} {n:Nat} {slt:Array (Option Value)} (lt:K.lookup t=some ⟨ot,odt,.seq items n,slt⟩) (hd:fd.defaults=.ref t)
  (h:∀ us:List Value,us.length=ps.length->∃ k,bindArgs fd ⟨us,[]⟩=seqItems? fd.defaults >>= k/\k (some items)=pure (ps.zip us)):Binds K fd ps []:=fun s us hK hl=>by
 rw [List.append_nil] at hl ⊢
 obtain ⟨k,h1,h2⟩:=h us hl
 exact BindsTo.of_defaults hd (hK _ _ lt) rfl h1 h2
end
end L2
namespace L2
open PySem PySem.Spec PyProof.Rows
section
variable {K:PySem.W.Frag}
theorem Vc {fd:FuncData} {ps:List Str} {ds:List Value} {t:Addr} {ot:Value} {odt:Option Addr} {items:Array Value} {n:Nat} {slt:Array (Option Value)} (lt:K.lookup t=some ⟨ot,odt,.seq items n,slt⟩) (hd:fd.defaults=.ref t)
  (h:∀ us:List Value,(us++ds).length=ps.length->∃ k,bindArgs fd ⟨us,[]⟩=seqItems? fd.defaults >>= k/\k (some items)=pure (ps.zip (us++ds))):Binds K fd ps ds:=fun s us hK hl=>by
 obtain ⟨k,h1,h2⟩:=h us hl
 exact BindsTo.of_defaults hd (hK _ _ lt) rfl h1 h2
end
end L2
namespace L2
open PySem PySem.Spec PySem.Calls PyProof.Rows
structure Wn (K:PySem.W.Frag) (C:Addr) (m:Str) (f:Addr) (mc:Value):Prop where
 ga:PySem.W.specialIn K (.ref C) "__getattribute__" = some (some (.builtin "type.__getattribute__"))
 rd:PySem.W.readsIn K C mc=true
 fc:PySem.W.findCls K (.ref C) mc m=some (.val (.ref f))
 kp:PySem.W.keepIn K (.ref f)=true
section
variable {X:Cx} {CX:L_} {k:Nat} {f C:Addr} {fd:FuncData} {ps:List Str} {sp:Sp} {dvs:List V} {ds:List Value} {E:XK} {x m:Str} {p pos apos:Pos} {e:Expr} {es:List Expr} {t:TA} {mc:Value}
theorem Nv {pl:Sem Bool} (hg:Gl X x) (hm:X.mg x=some (.ref C)) (M:Wn X.K C m f mc) (F:Ar X.prog X.w X.K X.mg X.base CX k f fd ps sp) (hr:BW k X.A) (hb:Binds X.K fd ps ds) (hd:Vals dvs ds) (hx:Ew CX X E) (ha:PA X (e::es) t)
  (hdb:(x == ("__debug__" : Str))=false:=by decide)
  (hst:starEach (e::es) X.env=(false,eval e X.env)::starEach es X.env:=by rfl) (hpl:(backTo pos (starEach es X.env)).any (·.1)=false:=by rfl)
  (ht:eval (.Call (.Attribute (.Name x p) m apos) (e::es) [] pos) X.env=(do
   let ov ← eval (.Name x p) X.env
   standAt apos.atName
   let (f,first) ← holding [ov] (getMethod ov m pl)
   callWith pos f first (backTo pos (starEach (e::es) X.env)) (backToKw pos (keywordEach [] X.env))):=by rfl) :
  PE X (.Call (.Attribute (.Name x p) m apos) (e::es) [] pos) (Uo sp dvs E t):=by
 intro pins s σ H Q I h
 have he:PE X (.Name x p) (tC (.ref C)):=Bs hg hm rfl hdb
 refine PySem.W.methodCall_KW (pl:=pl) (Bx (he pins s σ H (fun v H1=>v=.ref C/\H1=H) I ⟨rfl,rfl⟩) fun u s1 ⟨v,H1,I1,rv,ev,eh⟩=>?_) ht
 subst ev
 subst eh
 obtain rfl:u=Value.ref C:=rv
 refine PySem.W.method_cls I1.GD M.ga (PySem.W.cls_value I1.GD M.rd M.fc rfl ?_)
 have I2:=I1.tok (s1.toks+1)
 refine PySem.W.callWith_K (first:=[]) (h₀:=X.base) I.ok.mod.kin M.kp (Bx (ha pos pins _ σ H1 _ I2 h) fun us s2 ⟨vs,H2,I3,r,q2⟩=>⟨I3.GD,?_⟩) hst hpl
 exact Ip (us:=us) (vs:=vs) F hr hb hd hx I3 r q2
end
section
variable {X:Cx} {CX:L_} {k:Nat} {f1 f2 C1 C2:Addr} {fd1 fd2:FuncData} {ps1 ps2:List Str} {sp1 sp2:Sp} {E:XK} {m:Str} {p pos apos:Pos} {e o:Expr} {es:List Expr} {ta:TE} {t:TA}
noncomputable def YH (C1 C2:Addr) (m:Str) (sp1 sp2:Sp) (E:XK) (ta:TE) (t:TA):TE:=fun σ H Q=>ta σ H fun x H1=>∃ a dx fs,x=.ref a/\fs.lookup m=none /\
 ((H1 a=some (.ins C1 dx fs)/\t σ H1 fun vs H2=>sp1 (x::(vs++[])) H2 Q E) \/ (H1 a=some (.ins C2 dx fs)/\t σ H1 fun vs H2=>sp2 (x::(vs++[])) H2 Q E))
theorem Uc {pl:Sem Bool} (he:PE X o ta) (c1:NQ X.K C1) (hm1:Meth X.K C1 m f1) (F1:Ar X.prog X.w X.K X.mg X.base CX k f1 fd1 ps1 sp1) (hb1:Binds X.K fd1 ps1 [])
  (c2:NQ X.K C2) (hm2:Meth X.K C2 m f2) (F2:Ar X.prog X.w X.K X.mg X.base CX k f2 fd2 ps2 sp2) (hb2:Binds X.K fd2 ps2 []) (hr:BW k X.A) (hx:Ew CX X E) (ha:PA X (e::es) t)
  (hst:starEach (e::es) X.env=(false,eval e X.env)::starEach es X.env:=by rfl) (hpl:(backTo pos (starEach es X.env)).any (·.1)=false:=by rfl)
  (ht:eval (.Call (.Attribute o m apos) (e::es) [] pos) X.env=(do
   let ov ← eval o X.env
   standAt apos.atName
   let (f,first) ← holding [ov] (getMethod ov m pl)
   callWith pos f first (backTo pos (starEach (e::es) X.env)) (backToKw pos (keywordEach [] X.env))):=by rfl) :
  PE X (.Call (.Attribute o m apos) (e::es) [] pos) (YH C1 C2 m sp1 sp2 E ta t):=by
 intro pins s σ H Q I h
 refine PySem.W.methodCall_KW (pl:=pl) (Bx (he pins s σ H _ I h) fun u s1 ⟨x,H1,I1,rx,a,dx,fs,ex,l,q⟩=>?_) ht
 subst ex
 obtain rfl:u=Value.ref a:=rx
 rcases q with ⟨ea,q⟩ | ⟨ea,q⟩
 ·refine Es I1 ea c1 hm1 l ?_
  refine PySem.W.callWith_K (first:=[.ref a]) (h₀:=X.base) I.ok.mod.kin hm1.kp (Bx (ha pos pins s1 σ H1 _ I1 q) fun us s2 ⟨vs,H2,I2,r,q2⟩=>⟨I2.GD,?_⟩) hst hpl
  exact Ip (us:=.ref a::us) (vs:=.ref a::vs) F1 hr hb1 .nil hx I2 (.cons rfl r) q2
 ·refine Es I1 ea c2 hm2 l ?_
  refine PySem.W.callWith_K (first:=[.ref a]) (h₀:=X.base) I.ok.mod.kin hm2.kp (Bx (ha pos pins s1 σ H1 _ I1 q) fun us s2 ⟨vs,H2,I2,r,q2⟩=>⟨I2.GD,?_⟩) hst hpl
  exact Ip (us:=.ref a::us) (vs:=.ref a::vs) F2 hr hb2 .nil hx I2 (.cons rfl r) q2
end
section
variable {P:Program} {w:World} {K:PySem.W.Frag} {mg:Str->Option Value} {base:Heap}
theorem V4.Vf {x qual:Str} {st:Stmt} {f:Addr} {fd:FuncData} {N ps:List Str} {k:Nat} {sp:Sp} (F:V4 K x qual st f fd) (S:Aq N ps (Af st)) (len:∀ vs H Q E,sp vs H Q E->vs.length=ps.length)
  (hbody:∀ (cdv:Value) (A:Around) (outer:List Env) (s:Shared) (H:Hp) (vs:List V) (Q:VK) (E:XK),BW k (A.deeper (envOfC qual (Af st) s.heap.objs.size f cdv))->sp vs H Q E ->
   ∃ t,K9 (JV (JG P w) P w K mg base N qual (Af st) f cdv A outer s H E) (CP st) t/\t { nx:=fun _ H'=>Q .non H',rt:=Q } (start N vs) H):Ar P w K mg base (JG P w) (k+1) f fd ps sp:=by
 obtain ⟨oc,od,dV,kV,doc,pm,an,cdv,ct,osl,rfl,lk,hcd⟩:=F.ex
 refine Uw lk hcd S len fun A outer s H vs Q E hr hsp=>?_
 obtain ⟨t,h,q⟩:=hbody cdv A outer s H vs Q E hr hsp
 exact ⟨t,h,q⟩
end
end L2
namespace Og
open PySem L2
structure gm (K:PySem.W.Frag) (mg:Str->Option Value) (pB pE pA:Addr):Prop where
 mB:mg "Piston" = some (.ref pB)
 mE:mg "Every" = some (.ref pE)
 mA:mg "Part" = some (.ref pA)
 cE:NQ K pE
 cA:NQ K pA
 nEk:CK K pE "knob_set"
 nAk:CK K pA "knob_set"
 nAw:CK K pA "whole_set"
 most:∃ t,mg "PISTON_COUNT" = some (.int 10 t)
inductive Ps where
 | every (k:Nat)
 | part (k w:Nat)
noncomputable def Ps.put:Ps->Nat->Nat
 | .every k,_=>k
 | .part k w,d=>(d - (d &&& w)) ||| k
noncomputable def Ei (pE pA:Addr) (H:Hp) (o:Addr):Ps->Prop
 | .every k=>∃ dx,H o=some (.ins pE dx [("knob_set",.int (k:Nat))])
 | .part k w=>∃ dx,H o=some (.ins pA dx [("knob_set",.int (k:Nat)),("whole_set",.int (w:Nat))])
structure V2 (pE pA:Addr) (H:Hp) (sd:Addr) (m:Nat->Option Ps) (c:Nat):Prop where
 ex:∃ kvs:List (Key × V),H sd=some (.dK kvs)/\kvs.length<=c/\(∀ p,p<10->m p=none->CT kvs (Sum.inl (p:Nat))=none)/\∀ p ps,p<10->m p=some ps->∃ o,CT kvs (Sum.inl (p:Nat))=some (.ref o)/\Ei pE pA H o ps
theorem Ei.keep {pE pA:Addr} {H H':Hp} {o:Addr} {ps:Ps} (h:Ei pE pA H o ps) (f:∀ c dx fs,H o=some (.ins c dx fs)->H' o=some (.ins c dx fs)):Ei pE pA H' o ps:=by
 cases ps with
 | every k =>
  obtain ⟨dx,e⟩:=h
  exact ⟨dx,f _ _ _ e⟩
 | part k w =>
  obtain ⟨dx,e⟩:=h
  exact ⟨dx,f _ _ _ e⟩
theorem V2.mono {pE pA:Addr} {H H':Hp} {sd:Addr} {m:Nat->Option Ps} {c:Nat} (s:Ak H H') (h:V2 pE pA H sd m c):V2 pE pA H' sd m c:=by
 obtain ⟨kvs,e1,e2,e3,e4⟩:=h.ex
 refine ⟨kvs,s _ _ e1,e2,e3,fun p ps hp hm=>?_⟩
 obtain ⟨o,f1,f2⟩:=e4 p ps hp hm
 exact ⟨o,f1,f2.keep fun _ _ _ e=>s _ _ e⟩
end Og
namespace Gn
end Gn
namespace L2
open PySem PySem.Spec PySem.Calls PyProof.Rows
section
variable {X:Cx} {pins:List (Addr × Obj)} {σ:St} {H:Hp} {s:Shared} {x z y3:Str} {scope:Scope} {fp:List Addr} {C:Addr}
end
section
variable {X:Cx} {x z y3:Str} {scope:Scope}
end
section
variable {X:Cx} {x z y3:Str} {scope:Scope}
end
section
variable {X:Cx} {x z y3:Str} {scope:Scope}
end
section
variable {σ:St} {H1:Hp} {Q:VK} {tt:TT} {te:TE}
end
end L2
namespace Bw
noncomputable abbrev Tr:=Int × Int × Int
noncomputable abbrev Dr:=List Tr
noncomputable def Chain:Int->Dr->Prop
 | _,[]=>True
 | t,x::r=>x.1=t/\x.1<x.2.1/\Chain x.2.1 r
noncomputable def cnt (x:Tr):Nat:=(x.2.1 - x.1).toNat
noncomputable def tk (P:Int):Dr->List Int
 | []=>[]
 | x::r=>List.replicate (cnt x) (x.2.2 - P)++tk P r
noncomputable def stp (e x:Int):Int:=max 0 (e+x)
noncomputable def EF (e:Int) (W:List Int):Int:=W.foldl stp e
noncomputable abbrev E (W:List Int):Int:=EF 0 W
structure oE (W:List Int) (b0 b1 b2 taken since:Int):Prop where
 e:E W=max 0 taken
 le:∀ t,t<=W.length->E (W.take t)<=b0
 s0:0<=since
 s1:since<=W.length
 tk:taken=W.sum - (W.take since.toNat).sum
 b:(b0=0/\b1=0/\b2=0) \/ (0<b0/\0<=b1/\b1<b2/\b2<=W.length/\b0=(W.take b2.toNat).sum - (W.take b1.toNat).sum/\E (W.take b2.toNat)=b0)
noncomputable def fl (cap:Int):Int->List Int->Option Nat
 | _,[]=>none
 | e,x::r=>if e+x > cap then some 0 else (fl cap (stp e x) r).map (· + 1)
noncomputable def good (cap e x:Int) (c:Nat):Int:=if cap - e - x<0 then 0 else if -x ≥ 0 then (c:Int) else min (c:Int) ((cap - e) / x)
noncomputable def ps:Int->List Int->List Int
 | s,[]=>[s]
 | s,x::r=>s::ps (s+x) r
structure nJ (W:List Int) (t:Nat) (low due:Int):Prop where
 e:(W.take t).sum - low=E (W.take t)
 le:∀ s,s<=t->E (W.take s)<=due
 ex:∃ s,s<=t/\E (W.take s)=due
end Bw
namespace Bw
end Bw
namespace Bw
noncomputable def ov (f b:Int) (x:Tr):Int:=max 0 (min x.2.1 b - max x.1 f)
end Bw
namespace Bw
end Bw
namespace Bw
end Bw
namespace Bw
end Bw
namespace Bw
open PySem L2 Og
theorem Uv (ns:List Int) (lo hi:Option Int):∃ ms:List Int,Dm (ns.map V.int) lo hi=ms.map V.int/\ms.length<=ns.length:=by
 unfold Dm
 refine ⟨(ns.drop (HT.DY (ns.map V.int).length 0 lo)).take (HT.DY (ns.map V.int).length (ns.map V.int).length hi - HT.DY (ns.map V.int).length 0 lo),?_,?_⟩
 ·rw [← List.map_drop,← List.map_take]
 ·rw [List.length_take,List.length_drop]
  omega
theorem Lq {ns:List Int} {i:Int} (h0:0<=i) (h1:i<ns.length):∃ c,ns[i.toNat]? = some c/\c∈ns/\QB (ns.map V.int) i=some (.int c):=by
 have hlt:i.toNat<ns.length:=by omega
 refine ⟨ns[i.toNat],List.getElem?_eq_getElem hlt,List.getElem_mem hlt,?_⟩
 have e:(ns.map V.int)[i.toNat]? = some (.int ns[i.toNat]):=by rw [List.getElem?_map,List.getElem?_eq_getElem hlt]; rfl
 have:=Aj e
 rw [show ((i.toNat:Nat):Int)=i by omega] at this
 exact this
theorem Ry {n:Nat} {i:Int} (h0:0<=i) (h1:i<n):Rg n i=some i.toNat:=by unfold Rg; rw [if_pos h0,if_pos h1]
noncomputable abbrev jL (x:Tr):List V:=[.int x.1,.int x.2.1,.int x.2.2]
structure lN (H:Hp) (a:Addr) (d:Dr) (ys:List V):Prop where
 l:H a=some (.lst ys)
 p:Paired (fun x v=>TupAt H (jL x) v) d ys
noncomputable def Bd (d:Dr):Prop:=∀ x∈d,0<=x.2.2/\x.2.2<2 ^ 41/\x.2.1 - x.1<2 ^ 35
noncomputable def DH (H:Hp) (dh pc:Addr) (n:Nat):Prop:=∃ (cs:List Int) (m r:Int),H dh=some (.lst [.ref pc,.int m,.int r,.int (n:Int)])/\H pc=some (.lst (cs.map V.int))/\dh ≠ pc/\(∀ c∈cs,0<=c)/\0<=m/\m<=cs.length/\0<=r/\r<2147483647/\cs.length<=64
noncomputable def W4 (H H':Hp) (dh pc:Addr):Prop:=∀ b,b ≠ dh->b ≠ pc->H' b=H b
theorem DH.same {H H':Hp} {dh pc:Addr} {n:Nat} (D:DH H dh pc n) (s:Ak H H'):DH H' dh pc n:=by
 obtain ⟨cs,m,r,e1,e2,e3⟩:=D
 exact ⟨cs,m,r,s _ _ e1,s _ _ e2,e3⟩
theorem DH.upd {H:Hp} {dh pc l:Addr} {n:Nat} {o:HO} (D:DH H dh pc n) (h1:l ≠ dh) (h2:l ≠ pc):DH (upd H l o) dh pc n:=by
 obtain ⟨cs,m,r,e1,e2,e3⟩:=D
 exact ⟨cs,m,r,by rw [Al (Ne.symm h1)]; exact e1,by rw [Al (Ne.symm h2)]; exact e2,e3⟩
noncomputable def U7:Sp:=fun vs H Q _=>∃ (x:V) (b:Bool),vs=[x]/\((∃ i,x=.int i/\b=true) \/ (x=.non/\b=false))/\Q (.bl b) H
noncomputable def Zv (K:PySem.W.Frag):Sp:=fun vs H Q _=>∃ (a:Addr) (st:Int) (ns:List Int),vs=[.ref a,.int st]/\Cw K H a (ns.map V.int)/\0<=st/\st<2147483647/\ns.length<=63/\∀ dh pc H',H dh=none->H pc=none->Ak H H'->DH H' dh pc 0->Q (.ref dh) H'
noncomputable def Yz:Sp:=fun vs H Q _=>∃ (dh pc:Addr) (n:Nat) (many:Int),vs=[.ref dh,.int many]/\DH H dh pc n/\n<1000000/\0<many/\many<1073741824/\∀ (r:Int) H',0<=r->r<many->DH H' dh pc (n+1)->W4 H H' dh pc->Q (.int r) H'
noncomputable def S9:Sp:=fun vs H Q _=>∃ (l:Addr) (d:Dr) (ys:List V) (P cap T:Int),vs=[.ref l,.int P,.int cap,.int T]/\lN H l d ys/\Chain 0 d/\Bd d/\d.length<=100/\0<=P/\P<2 ^ 60/\0<=cap/\0<=T/\T<(tk P d).length /\
 ∀ H',Ak H H'->Q (.bl true) H'
noncomputable def M_ (K:PySem.W.Frag):Sp:=fun vs H Q _=>∃ (a:Addr) (ns:List Int),vs=[.ref a]/\Cw K H a (ns.map V.int)/\ns.length<=63/\∀ H',Q (.bl true) H'
theorem Uq {c:TT} {tb u:TS} {D:Ends} {r:VK} {b k:St->Hp->Prop} {σ:St} {H:Hp} (h:Lx c tb { D with nx:=u D } σ H):({ nx:=Yb (Lx c tb) u D,rt:=r,bk:=b,ct:=k }:Ends).nx σ H:=h
end Bw
namespace L2
open PySem PySem.Spec PyProof.Rows
section
variable {X:Cx} {o e f:Expr} {apos cpos:Pos} {td ty tx:TE}
end
end L2
namespace L2
open PySem PySem.Spec PyProof.Rows
theorem Bb {X:Cx} {x:Str} {e:Expr} {te:TE} {pos' pos:Pos} (i:Nat) (hN:X.N.Nodup) (hi:X.N[i]? = some x) (hx:Loc X.env.scope x) (he:PE X e te) (hs:swapsWith e (some (.Name x pos')) pos.line X.env=pure false) (hf:X.fn x=true \/ X.env.scope.names.lookup x=some .local) :
  PS X (.Assign [.Name x pos'] e pos) (TX te (Eo i)):=Cr hN hi hx he hs hf
end L2
namespace L2
open PySem PySem.Spec PyProof.Rows
theorem An {X:Cx} {e:Expr} {es:List Expr} {te:TE} {t:TA} (h:starEach (e::es) X.env=(false,eval e X.env)::starEach es X.env) (he:PE X e te) (ht:PA X es t):PA X (e::es) (Wz te t):=Ab he ht h
end L2
namespace L2
open PySem PySem.Spec PyProof.Rows
end L2
namespace Og
open PySem L2
noncomputable def HH (kd a k:Nat):Str:=if kd=0 then Yq k++Txt.mul "v" (a:Nat) else if kd=1 then Txt.mul "o" (((1+k % 6:Nat)):Int)++Txt.mul "b" (((k / 6:Nat)):Int) else (Txt.slice "qrst" none (some (a:Nat))++Yq k)++Txt.slice "qrst" (some (a:Nat)) none
noncomputable def fQ (z:Str):Bool:=decide (1<=z.length) && decide (z.length<=8) && z.cps.toList.all (fun c=>decide (97<=c/\c<=122)) && (match z.cps.toList with | c::_=>decide (c<=116) | []=>false)
theorem VL:((List.range 3).all fun kd=>(List.range 5).all fun a=>(List.range 12).all fun k=>fQ (HH kd a k))=true:=by decide +kernel
theorem Vq:((List.range 3).all fun kd=>(List.range 5).all fun a=>(List.range 12).all fun k=>(List.range k).all fun j=>!decide (HH kd a j=HH kd a k))=true:=by decide +kernel
theorem JF {kd a k:Nat} (h1:kd<3) (h2:a<5) (h3:k<12):fQ (HH kd a k)=true:=by
 have h:=VL
 rw [List.all_eq_true] at h
 have h':=h kd (List.mem_range.mpr h1)
 rw [List.all_eq_true] at h'
 have h'':=h' a (List.mem_range.mpr h2)
 rw [List.all_eq_true] at h''
 exact h'' k (List.mem_range.mpr h3)
noncomputable def RX (z:Str):Nat:=z.cps.toList.headD 0
theorem Iw {z:Str} (h:fQ z=true):isNm z/\RX z<=116:=by
 unfold fQ at h
 simp only [Bool.and_eq_true] at h
 obtain ⟨⟨⟨h1,h2⟩,h3⟩,h4⟩:=h
 rw [List.all_eq_true] at h3
 refine ⟨⟨of_decide_eq_true h1,of_decide_eq_true h2,fun c hc=>of_decide_eq_true (h3 c hc)⟩,?_⟩
 unfold RX
 cases e:z.cps.toList with
 | nil=>exact Nat.zero_le _
 | cons c r =>
  rw [e] at h4
  exact of_decide_eq_true h4
theorem Tv {kd a k j:Nat} (h1:kd<3) (h2:a<5) (h3:k<12) (hj:j<k):HH kd a j ≠ HH kd a k:=by
 have h:=Vq
 rw [List.all_eq_true] at h
 have h':=h kd (List.mem_range.mpr h1)
 rw [List.all_eq_true] at h'
 have h'':=h' a (List.mem_range.mpr h2)
 rw [List.all_eq_true] at h''
 have h4:=h'' k (List.mem_range.mpr h3)
 rw [List.all_eq_true] at h4
 have h5:=h4 j (List.mem_range.mpr hj)
 intro e
 rw [decide_eq_true e] at h5
 cases h5
noncomputable def WD (k r:Nat):Str:=(⟨#[120+k]⟩:Str)++Txt.mul "w" (r:Nat)
noncomputable def Zu (k r:Nat):Bool:=let z:=WD k r; decide (1<=z.length) && decide (z.length<=8) && z.cps.toList.all (fun c=>decide (97<=c/\c<=122)) && decide (RX z=120+k)
theorem U9:((List.range 3).all fun k=>(List.range 3).all fun r=>Zu k r)=true:=by decide +kernel
theorem X8 {k r:Nat} (h1:k<3) (h2:r<3):isNm (WD k r)/\RX (WD k r)=120+k:=by
 have h:=U9
 rw [List.all_eq_true] at h
 have h':=h k (List.mem_range.mpr h1)
 rw [List.all_eq_true] at h'
 have h3:=h' r (List.mem_range.mpr h2)
 unfold Zu at h3
 simp only [Bool.and_eq_true] at h3
 obtain ⟨⟨⟨h4,h5⟩,h6⟩,h7⟩:=h3
 rw [List.all_eq_true] at h6
 exact ⟨⟨of_decide_eq_true h4,of_decide_eq_true h5,fun c hc=>of_decide_eq_true (h6 c hc)⟩,of_decide_eq_true h7⟩
theorem Rb:((List.range 3).all fun k=>(List.range 3).all fun r=>!decide (WD k r = "zz"))=true:=by decide +kernel
theorem Xd {k r:Nat} (h1:k<3) (h2:r<3):WD k r ≠ "zz":=by
 have h:=Rb
 rw [List.all_eq_true] at h
 have h':=h k (List.mem_range.mpr h1)
 rw [List.all_eq_true] at h'
 have h3:=h' r (List.mem_range.mpr h2)
 intro e
 rw [decide_eq_true e] at h3
 cases h3
theorem VB:isNm "u" /\ RX "u" = 117:=by
 refine ⟨⟨by decide +kernel,by decide +kernel,fun c hc=>?_⟩,by decide +kernel⟩
 have e:("u" : Str).cps.toList=[117]:=by decide +kernel
 rw [e] at hc
 rw [List.mem_singleton.mp hc]
 decide
structure Qz where
 rows:List R
 bs:List (Str × Nat)
 rk:List (Str × Nat × Int)
 ks:List R
 ls:List (List Ln)
 sts:List Nat
 sn:List Str
structure DN (K:PySem.W.Frag) (aB aP aM:Addr) (kd a i m:Nat) (S:Qz):Prop where
 bl:HN K aB aP aM S.rows S.bs S.rk S.ks S.ls S.sts
 rb:∀ (j:Nat) b,S.bs[j]? = some b->S.rows[j]? = some (Fx b)
 b1:1<=S.bs.length
 b3:S.bs.length<=3
 sb:∀ b∈S.bs,isNm b.1/\120<=RX b.1/\1<=b.2/\b.2<=61
 db:(S.bs.map (·.1)).Nodup
 rk1:∃ (m:Nat) (wi:Int),S.rk=[(("u" : Str),m,wi)]/\1<=m/\m<=97
 ek:S.rows.filter (fun r=>Eh r.w)=S.ks
 nk:S.ks.map (·.nm)=(List.range i).map (HH kd a)
 sn:∀ t∈S.sn,∃ k∈S.ks,k.w = "stop" /\ k.nm=t
 sd:S.sn.Nodup
 sl:S.sn.length<=i
 st:S.sts.length<=i
 lr:S.rows.length<=m
 kb:∀ r∈S.ks,∃ b∈S.bs,∃ rs,r.rest=V.str b.1::rs
 bz:∀ b∈S.bs,b.1 ≠ "zz"
section
variable {K:PySem.W.Frag} {aB aP aM:Addr} {kd a i m:Nat} {S:Qz}
theorem DN.lk (h:DN K aB aP aM kd a i m S):S.ks.length=i:=by
 have:=congrArg List.length h.nk
 rw [List.length_map,List.length_map,List.length_range] at this
 exact this
theorem DN.kn (h:DN K aB aP aM kd a i m S) {k:R} (hk:k∈S.ks):∃ j,j<i/\k.nm=HH kd a j:=by
 have:=List.mem_map_of_mem (f:=fun r:R=>r.nm) hk
 rw [h.nk] at this
 obtain ⟨j,hj,e⟩:=List.mem_map.mp this
 exact ⟨j,List.mem_range.mp hj,e.symm⟩
theorem DN.fb (h:DN K aB aP aM kd a i m S) (h1:kd<3) (h2:a<5) {j:Nat} (h3:j<12):∀ b∈S.bs,b.1 ≠ HH kd a j:=fun b hb e=>by
 have:=(h.sb b hb).2.1
 have:=(Iw (JF h1 h2 h3)).2
 rw [e] at *
 omega
theorem DN.fr (h:DN K aB aP aM kd a i m S) (h1:kd<3) (h2:a<5) {j:Nat} (h3:j<12):∀ r∈S.rk,r.1 ≠ HH kd a j:=fun r hr e=>by
 obtain ⟨m',wi,er,_⟩:=h.rk1
 rw [er] at hr
 rw [List.mem_singleton.mp hr] at e
 have e':("u" : Str)=HH kd a j:=e
 have h4:=(Iw (JF h1 h2 h3)).2
 rw [← e',VB.2] at h4
 omega
theorem DN.fk (h:DN K aB aP aM kd a i m S) (h1:kd<3) (h2:a<5) (h3:i<12):∀ k∈S.ks,k.nm ≠ HH kd a i:=fun k hk e=>by
 obtain ⟨j,hj,e'⟩:=h.kn hk
 exact Tv h1 h2 h3 hj (e'.symm.trans e)
theorem DN.dk (h:DN K aB aP aM kd a i m S) (h1:kd<3) (h2:a<5) (h3:i<=12):(S.ks.map (·.nm)).Nodup:=by
 rw [h.nk]
 refine List.pairwise_map.mpr (List.Pairwise.imp_of_mem (R:=(· < ·)) (fun {x y} hx hy hxy e=>?_) List.pairwise_lt_range)
 exact Tv h1 h2 (by have:=List.mem_range.mp hy; omega) hxy e
theorem DN.Xq (h:DN K aB aP aM kd a i m S) {r:R} (hw:Eh r.w=true) (hn:r.nm=HH kd a i) (hx:∃ b∈S.bs,∃ rs,r.rest=V.str b.1::rs) (hb:HN K aB aP aM (S.rows++[r]) S.bs S.rk (S.ks++[r]) (S.ls++[[]]) S.sts) :
  DN K aB aP aM kd a (i+1) (m+1) { S with rows:=S.rows++[r],ks:=S.ks++[r],ls:=S.ls++[[]] } :=
 ⟨hb,fun j b hj=>by rw [List.getElem?_append_left (List.getElem?_eq_some_iff.mp (h.rb j b hj)).1]; exact h.rb j b hj,h.b1,h.b3,h.sb,h.db,h.rk1,by
  show (S.rows++[r]).filter _=S.ks++[r]
  rw [List.filter_append,h.ek,List.filter_cons,if_pos hw]
  rfl,by
  show (S.ks++[r]).map _=_
  rw [List.map_append,h.nk,List.range_succ,List.map_append,List.map_singleton,List.map_singleton,hn],fun t ht=>by
  obtain ⟨k,hk,e⟩:=h.sn t ht
  exact ⟨k,List.mem_append_left _ hk,e⟩,h.sd,Nat.le_succ_of_le h.sl,Nat.le_succ_of_le h.st,by
  show (S.rows++[r]).length<=m+1
  rw [List.length_append]
  exact Nat.succ_le_succ h.lr,fun k hk=>by
  rcases List.mem_append.mp hk with hk | hk
  ·exact h.kb k hk
  ·rw [List.mem_singleton.mp hk]
   exact hx,h.bz⟩
theorem DN.row (h:DN K aB aP aM kd a i m S) {r:R} {ls':List (List Ln)} {sts':List Nat} (hw:Eh r.w=false) (hs:sts'.length<=i) (hb:HN K aB aP aM (S.rows++[r]) S.bs S.rk S.ks ls' sts') :
  DN K aB aP aM kd a i (m+1) { S with rows:=S.rows++[r],ls:=ls',sts:=sts' } :=
 ⟨hb,fun j b hj=>by rw [List.getElem?_append_left (List.getElem?_eq_some_iff.mp (h.rb j b hj)).1]; exact h.rb j b hj,h.b1,h.b3,h.sb,h.db,h.rk1,by
  show (S.rows++[r]).filter _=S.ks
  rw [List.filter_append,h.ek,List.filter_cons,if_neg (by rw [hw]; decide)]
  simp,h.nk,h.sn,h.sd,h.sl,hs,by
  show (S.rows++[r]).length<=m+1
  rw [List.length_append]
  exact Nat.succ_le_succ h.lr,h.kb,h.bz⟩
theorem DN.Ub (h:DN K aB aP aM kd a i m S):(S.rows.filter fun r=>decide (V.str r.w=V.str "mute")).length=(S.ks.filter fun r=>decide (V.str r.w=V.str "mute")).length:=by
 rw [← h.ek,List.filter_filter]
 congr 1
 refine List.filter_congr fun r _=>?_
 by_cases e:r.w = "mute"
 ·rw [e]
  decide +kernel
 ·rw [decide_eq_false fun z=>e (V.str.inj z)]
  rfl
theorem DN.le (h:DN K aB aP aM kd a i m S) {m':Nat} (hm:m<=m'):DN K aB aP aM kd a i m' S :=
 ⟨h.bl,h.rb,h.b1,h.b3,h.sb,h.db,h.rk1,h.ek,h.nk,h.sn,h.sd,h.sl,h.st,Nat.le_trans h.lr hm,h.kb,h.bz⟩
theorem DN.snap (h:DN K aB aP aM kd a i m S) {t:Str} (hk:∃ k∈S.ks,k.w = "stop" /\ k.nm=t) (hn:t ∉ S.sn) (hl:S.sn.length<i):DN K aB aP aM kd a i m { S with sn:=S.sn++[t] } :=
 ⟨h.bl,h.rb,h.b1,h.b3,h.sb,h.db,h.rk1,h.ek,h.nk,fun z hz=>by
  rcases List.mem_append.mp hz with hz | hz
  ·exact h.sn z hz
  ·rw [List.mem_singleton.mp hz]
   exact hk,List.nodup_append.mpr ⟨h.sd,List.nodup_cons.mpr ⟨List.not_mem_nil,List.nodup_nil⟩,fun x hx y hy e=>hn (by rw [← List.mem_singleton.mp hy,← e]; exact hx)⟩,by
  show (S.sn++[t]).length<=i
  rw [List.length_append]
  exact hl,h.st,h.lr,h.kb,h.bz⟩
theorem Pk {p:R->Bool} {l:List R} {n:Nat} (h:l.length<n):(l.filter p).length<n:=Nat.lt_of_le_of_lt (List.length_filter_le _ _) h
end
end Og
namespace Og
open PySem L2 Bw
noncomputable def JT (H H':Hp) (dh pc:Addr):Prop:=∀ b u,b ≠ dh->b ≠ pc->H b=some u->H' b=some u
theorem JT.trans {H H1 H2:Hp} {dh pc:Addr} (a:JT H H1 dh pc) (b:JT H1 H2 dh pc):JT H H2 dh pc:=fun c u h1 h2 e=>b c u h1 h2 (a c u h1 h2 e)
theorem JT.of2 {H H1:Hp} {dh pc:Addr} (a:W4 H H1 dh pc):JT H H1 dh pc:=fun c u h1 h2 e=>by rw [a c h1 h2]; exact e
theorem JT.of {H H1:Hp} {dh pc:Addr} (a:Ak H H1):JT H H1 dh pc:=fun c u _ _ e=>a c u e
theorem JT.put {H H1:Hp} {dh pc a:Addr} {o:HO} (f:JT H H1 dh pc) (h:H a=none):JT H (upd H1 a o) dh pc:=fun c u h1 h2 e=>by
 rw [Al (Ah e h)]
 exact f c u h1 h2 e
theorem JT.free {H H1:Hp} {dh pc a:Addr} (f:JT H H1 dh pc) (h:H1 a=none) (h1:a ≠ dh) (h2:a ≠ pc):H a=none:=by
 cases z:H a with
 | none=>rfl
 | some o =>
  have:=f a o h1 h2 z
  rw [h] at this
  cases this
theorem Ur {H H':Hp} {dh pc:Addr} {n:Nat} {xs:List V} {y:V} (D:DH H dh pc n) (f:JT H H' dh pc) (h:TupAt H xs y):TupAt H' xs y:=by
 obtain ⟨T,rfl,e⟩:=h
 obtain ⟨cs,m,r,e1,e2,_⟩:=D
 exact ⟨T,rfl,f T _ (fun z=>by rw [z,e1] at e; cases e) (fun z=>by rw [z,e2] at e; cases e) e⟩
theorem Vw {H H':Hp} {dh pc:Addr} {n:Nat} {rs:List R} {vs:List V} (D:DH H dh pc n) (f:JT H H' dh pc) (h:Paired (fun (r:R) v=>TupAt H r.v v) rs vs):Paired (fun (r:R) v=>TupAt H' r.v v) rs vs:=Paired.Hz h fun _ _ z=>Ur D f z
theorem DH.eY {H:Hp} {dh pc a:Addr} {n:Nat} (D:DH H dh pc n) (h:H a=none):a ≠ dh/\a ≠ pc:=by
 obtain ⟨cs,m,r,e1,e2,_⟩:=D
 exact ⟨fun z=>(by rw [z,e1] at h; cases h),fun z=>(by rw [z,e2] at h; cases h)⟩
structure RL (H0 H:Hp) (dh pc pR:Addr) (n:Nat) (rows:List R):Prop where
 r:∃ vs,H pR=some (.lst vs)/\Paired (fun (r:R) v=>TupAt H r.v v) rows vs
 d:DH H dh pc n
 f:JT H0 H dh pc
 n1:pR ≠ dh
 n2:pR ≠ pc
 n0:H0 pR=none
section
variable {H0 H H':Hp} {dh pc pR pT:Addr} {n:Nat} {rows:List R} {sn:List Str}
theorem RL.fr (h:RL H0 H dh pc pR n rows) (f:W4 H H' dh pc) {k:Nat} (D:DH H' dh pc k):RL H0 H' dh pc pR k rows:=by
 obtain ⟨vs,h1,h2⟩:=h.r
 exact ⟨⟨vs,(JT.of2 f) pR _ h.n1 h.n2 h1,Vw h.d (JT.of2 f) h2⟩,D,h.f.trans (JT.of2 f),h.n1,h.n2,h.n0⟩
theorem RL.same (h:RL H0 H dh pc pR n rows) (s:Ak H H'):RL H0 H' dh pc pR n rows:=by
 obtain ⟨vs,h1,h2⟩:=h.r
 exact ⟨⟨vs,s _ _ h1,Ao s h2⟩,h.d.same s,h.f.trans (JT.of s),h.n1,h.n2,h.n0⟩
theorem RL.app (h:RL H0 H dh pc pR n rows) {vs:List V} (e:H pR=some (.lst vs)) {r:R} {v:V} (hv:TupAt H r.v v):RL H0 (upd H pR (.lst (vs++[v]))) dh pc pR n (rows++[r]):=by
 obtain ⟨vs',h1,h2⟩:=h.r
 obtain rfl:vs'=vs:=HO.lst.inj (Option.some.inj (h1.symm.trans e))
 exact ⟨⟨_,Ag,Er (Dn h2 e) (.cons (hv.upd e) .nil)⟩,h.d.upd h.n1 h.n2,h.f.put h.n0,h.n1,h.n2,h.n0⟩
structure Ni (H0 H:Hp) (dh pc pR pT:Addr) (n:Nat) (rows:List R) (sn:List Str):Prop where
 s:RL H0 H dh pc pR n rows
 t:H pT=some (.lst (sn.map V.str))
 n1:pT ≠ dh
 n2:pT ≠ pc
 n3:pT ≠ pR
 n0:H0 pT=none
theorem Ni.fr (h:Ni H0 H dh pc pR pT n rows sn) (f:W4 H H' dh pc) {k:Nat} (D:DH H' dh pc k):Ni H0 H' dh pc pR pT k rows sn :=
 ⟨h.s.fr f D,(JT.of2 f) pT _ h.n1 h.n2 h.t,h.n1,h.n2,h.n3,h.n0⟩
theorem Ni.same (h:Ni H0 H dh pc pR pT n rows sn) (s:Ak H H'):Ni H0 H' dh pc pR pT n rows sn :=
 ⟨h.s.same s,s _ _ h.t,h.n1,h.n2,h.n3,h.n0⟩
theorem Ni.app (h:Ni H0 H dh pc pR pT n rows sn) {vs:List V} (e:H pR=some (.lst vs)) {r:R} {v:V} (hv:TupAt H r.v v):Ni H0 (upd H pR (.lst (vs++[v]))) dh pc pR pT n (rows++[r]) sn :=
 ⟨h.s.app e hv,by rw [Al h.n3]; exact h.t,h.n1,h.n2,h.n3,h.n0⟩
theorem Ni.jg (h:Ni H0 H dh pc pR pT n rows sn) (t:Str):Ni H0 (upd H pT (.lst (sn.map V.str++[.str t]))) dh pc pR pT n rows (sn++[t]):=by
 obtain ⟨vs,h1,h2⟩:=h.s.r
 exact ⟨⟨⟨vs,by rw [Al (Ne.symm h.n3)]; exact h1,Dn h2 h.t⟩,h.s.d.upd h.n1 h.n2,h.s.f.put h.n0,h.s.n1,h.s.n2,h.s.n0⟩,by rw [Ag,List.map_append]; rfl,h.n1,h.n2,h.n3,h.n0⟩
end
end Og
namespace L2
open PySem PySem.Spec PySem.Calls PyProof.Rows
section
variable {X:Cx}
end
end L2
namespace L2
open PySem PySem.Spec PySem.Calls PyProof.Rows
section
variable {X:Cx}
theorem J5 (hu:X.A.units<cLine):HJ X (compareOp .NotEq) (fun x y H Q=>∃ p q xs,x=V.ref p/\y=V.ref q/\Cw X.K H p xs/\Cw X.K H q []/\Q (.bl (!xs.isEmpty)) H):=by
 intro pins s σ H x y v u Q I rx ry h
 obtain ⟨p,q,xs,rfl,rfl,hp,hq,k⟩:=h
 cases rx
 cases ry
 obtain ⟨its,r,pl,hz⟩:=I.list hp
 obtain ⟨its2,r2,pl2,hz2⟩:=I.list hq
 have l1:=r.length
 cases r2
 cases xs with
 | nil =>
  cases r
  refine SeqAt.RcNeAt.lists (e:=fun _=>true) pl.isList pl2.isList rfl hu (fun j h1 h2=>?_) _ _ _ _ ⟨.bl _,H,I,rfl,k⟩
  exact absurd h1 (Nat.not_lt_zero _)
 | cons a b =>
  refine SeqAt.RcNeAt.lists_lengths pl.isList pl2.isList (by simp; intro z; rw [z] at l1; simp at l1) hu _ _ _ _ ⟨.bl _,H,I,rfl,k⟩
end
end L2
namespace L2
open PySem PySem.Spec PyProof.Rows
theorem Lj:∀ ns:List Int,(∀ n∈ns,0<=n)->0<=ns.sum
 | [],_=>Int.le_refl _
 | x::r,h=>by
  rw [List.sum_cons]
  have h1:=h x (List.mem_cons_self ..)
  have h2:=Lj r fun y hy=>h y (List.mem_cons_of_mem _ hy)
  omega
theorem Vr (ns:List Int) (j:Nat) (h:∀ n∈ns,0<=n):0<=(ns.take j).sum/\(ns.take j).sum<=ns.sum:=by
 have e:ns.sum=(ns.take j).sum+(ns.drop j).sum:=by rw [← List.sum_append,List.take_append_drop]
 have h1:=Lj (ns.take j) fun n hn=>h n (List.mem_of_mem_take hn)
 have h2:=Lj (ns.drop j) fun n hn=>h n (List.mem_of_mem_drop hn)
 omega
theorem Jy:∀ ns:List Int,(∀ n∈ns,0<=n)->∀ n∈ns,n<=ns.sum
 | [],_,n,hn=>nomatch hn
 | x::r,h,n,hn=>by
  rw [List.sum_cons]
  have h1:=h x (List.mem_cons_self ..)
  have h2:=Lj r fun y hy=>h y (List.mem_cons_of_mem _ hy)
  rcases List.mem_cons.mp hn with rfl | hn
  ·omega
  ·have:=Jy r (fun y hy=>h y (List.mem_cons_of_mem _ hy)) n hn
   omega
section
variable {X:Cx}
theorem Qe (hc:X.calm=true):Eg X (.builtin "sum") (fun xs H Q=>∃ (p:Addr) (ns:List Int),xs=[V.ref p]/\Cw X.K H p (ns.map V.int)/\(∀ n∈ns,0<=n)/\ns.sum<=4611686018427387904/\Q (.int ns.sum) H):=by
 intro pins s σ H xs us Q I r h
 obtain ⟨p,ns,rfl,hp,hb,hl,q⟩:=h
 obtain ⟨u,rfl,ru⟩:=vals1 r
 cases ru
 obtain ⟨its,rv,pl,hz⟩:=I.list hp
 have hlen:ns.length=its.length:=by have:=rv.length; rw [List.length_map] at this; exact this
 have hlt:p<s.heap.objs.size:=by obtain ⟨_,e,_⟩:=pl.isList; exact Heap.lt_size e
 refine call_sum_walk (wpAny_pyIter_list pl.isList ?_)
 refine ⟨s.heap.objs.size,[s.heap.objs.size,p],[s.heap.objs.size],its.toArray.size,_,_,fun i=>(ns[i]?).getD 0,rfl,Walks.list (A:=X.A.in1) (I.ok.hd hc) _ p (Nat.ne_of_lt hlt) its.toArray,
  ⟨⟨_,Heap.get?_push_size _ rfl,rfl,rfl⟩,pl.isList.push _⟩,fun b hb=>?_,fun i v hP=>?_,fun j hj=>?_,fun h' tk t' hk=>?_⟩
 ·rw [Heap.size_push]
  rcases List.mem_cons.mp hb with rfl | hb
  ·exact Nat.lt_succ_self _
  ·rw [List.mem_singleton.mp hb]
   exact Nat.lt_succ_of_lt hlt
 ·have hP':its[i]? = some v:=by simpa using hP
  have hi:i<its.length:=(List.getElem?_eq_some_iff.mp hP').1
  have hb:ns[i]? = some ns[i]:=by simp [hlen,hi]
  obtain ⟨u,hu,ru⟩:=rv.get (i:=i) (x:=.int ns[i]) (by rw [List.getElem?_map,hb]; rfl)
  rw [hP'] at hu
  cases hu
  obtain ⟨t,rfl⟩:=ru
  exact ⟨t,by dsimp only; rw [hb]; rfl⟩
 ·have hj':j<ns.length:=by rw [hlen]; simpa using hj
  rw [Gr ns (j+1) (by omega)]
  have h1:=hb ns[j] (List.getElem_mem hj')
  have h2:=Vr ns (j+1) hb
  have h3:=Jy ns hb ns[j] (List.getElem_mem hj')
  unfold InLong
  dsimp only
  rw [List.getElem?_eq_getElem hj']
  rw [Option.getD_some]
  refine ⟨⟨?_,?_⟩,⟨?_,?_⟩⟩ <;> omega
 ·have e:preSum (fun i=>(ns[i]?).getD 0) its.toArray.size=ns.sum:=by rw [List.size_toArray,← hlen,Gr ns _ (Nat.le_refl _),List.take_length]
  rw [e]
  refine ⟨.int ns.sum,H,I.kept (t':=tk) fun b o eb=>hk b o (fun hm=>?_) (Heap.get?_push_of_some _ eb),⟨_,rfl⟩,q⟩
  rw [List.mem_singleton.mp hm] at eb
  exact Nat.lt_irrefl _ (Heap.lt_size eb)
end
end L2
namespace Og
theorem Xa {a n:Nat} (h:a.testBit n=false):a ||| 2 ^ n=a+2 ^ n:=by
 have e:=Nat.div_add_mod a (2 ^ n)
 have hr:a % 2 ^ n<2 ^ n:=Nat.mod_lt _ (Nat.two_pow_pos n)
 rw [Nat.testBit_eq_decide_div_mod_eq] at h
 have h2:a / 2 ^ n % 2=0:=by
  have:=of_decide_eq_false h
  omega
 obtain ⟨q,hq⟩:∃ q,a / 2 ^ n=2 * q:=⟨a / 2 ^ n / 2,by omega⟩
 rw [hq] at e
 generalize a % 2 ^ n=r at e hr
 have e1:2 ^ n * (2 * q)+r=2 ^ n * (2 * q) ||| r:=Nat.two_pow_add_eq_or_of_lt hr _
 have e2:2 ^ n * (2 * q+1)+r=2 ^ n * (2 * q+1) ||| r:=Nat.two_pow_add_eq_or_of_lt hr _
 have e3:2 * q ||| 1=2 * q+1:=by
  have:=Nat.two_pow_add_eq_or_of_lt (i:=1) (b:=1) (by decide) q
  rw [Nat.pow_one] at this
  exact this.symm
 have e4:2 ^ n * (2 * q) ||| 2 ^ n=2 ^ n * (2 * q+1):=by
  have e5:2 ^ n * (2 * q) ||| 2 ^ n * 1=2 ^ n * (2 * q ||| 1):=by
   rw [Nat.mul_comm,Nat.mul_comm (2 ^ n) 1,Nat.mul_comm (2 ^ n) (2 * q ||| 1),← Nat.shiftLeft_eq,← Nat.shiftLeft_eq,← Nat.shiftLeft_eq,Nat.shiftLeft_or_distrib]
  rw [Nat.mul_one,e3] at e5
  exact e5
 calc a ||| 2 ^ n=(2 ^ n * (2 * q) ||| r) ||| 2 ^ n:=by rw [← e1,e]
  _=(2 ^ n * (2 * q) ||| 2 ^ n) ||| r:=by rw [Nat.or_assoc,Nat.or_comm r,← Nat.or_assoc]
  _=2 ^ n * (2 * q+1)+r:=by rw [e4,e2]
  _=a+2 ^ n:=by rw [← e,Nat.mul_add,Nat.mul_one]; omega
theorem Tq:∀ l:List Nat,l.Nodup->(l.map fun n=>2 ^ n).sum=Wd.mk l:=by
 intro l
 suffices h:∀ r:List Nat,r.reverse.Nodup->(r.reverse.map fun n=>2 ^ n).sum=Wd.mk r.reverse by
  have:=h l.reverse
  rw [List.reverse_reverse] at this
  exact this
 intro r
 induction r with
 | nil=>intro _; rfl
 | cons x r ih =>
  intro nd
  rw [List.reverse_cons] at nd ⊢
  obtain ⟨n1,_,n2⟩:=List.nodup_append.mp nd
  have hx:x ∉ r.reverse:=fun hx=>n2 x hx x (List.mem_singleton.mpr rfl) rfl
  rw [List.map_append,List.sum_append,ih n1,Wd.Pr,Xa (by rw [Wd.Ul]; exact decide_eq_false hx)]
  simp
theorem Xh {l:List Nat} {m:Nat} (hb:∀ n∈l,n<m):Wd.mk l<2 ^ m:=by
 refine Nat.lt_pow_two_of_testBit _ fun i hi=>?_
 rw [Wd.Ul]
 exact decide_eq_false fun h=>by have:=hb i h; omega
end Og
namespace Og
open PySem L2
theorem HN.RN {K:PySem.W.Frag} {aB aP aM:Addr} {rows:List R} {bs:List (Str × Nat)} {rk:List (Str × Nat × Int)} {ks:List R} {ls:List (List Ln)} {sts:List Nat} (h:HN K aB aP aM rows bs rk ks ls sts):∀ r∈rows,r.w = "step"->∃ ts:List Str,V.str r.nm::r.rest=ts.map V.str/\ts.Nodup/\ts.length<=24/\∀ t∈ts,t∈ks.map (·.nm):=by
 intro r hr hw
 obtain ⟨ts,e1,e2,e3⟩:=h.sm r hr hw
 refine ⟨ts,e1,?_,e2,e3⟩
 have em:((List.range rows.length).map fun i:Nat=>V.int (i:Int)).map (Xm rows)=rows:=by
  rw [List.map_map]
  refine List.ext_getElem? fun i=>?_
  rw [List.getElem?_map]
  by_cases hi:i<rows.length
  ·rw [List.getElem?_range hi,List.getElem?_eq_getElem hi]
   show some (Xm rows (V.int (i:Int)))=_
   show some ((rows[((i:Nat):Int).toNat]?).getD ⟨"","",[]⟩)=_
   rw [Int.toNat_natCast,List.getElem?_eq_getElem hi]
   rfl
  ·rw [List.getElem?_eq_none (by rw [List.length_range]; omega),List.getElem?_eq_none (by omega)]
   rfl
 have O:=h.ok (Xm rows) _ em
 rw [← em] at hr
 obtain ⟨v,hv,rfl⟩:=List.mem_map.mp hr
 obtain ⟨i,hi,e⟩:=List.getElem_of_mem hv
 have ok:=O.ok i v (by rw [List.getElem?_eq_getElem hi,e])
 rcases ok with ok | ok
 ·exact absurd hw ok.ns
 ·obtain ⟨ts',f1,f2,_⟩:=ok.ts
  have:ts=ts':=by
   have:=e1.symm.trans f1
   exact (List.map_inj_right (fun x y h=>V.str.inj h)).mp this
  rw [this]
  exact f2
theorem Qi {ns ts:List Str} (nd:ts.Nodup) (hin:∀ t∈ts,t∈ns):(ts.map fun t=>ns.idxOf t).Nodup:=by
 induction ts with
 | nil=>exact List.nodup_nil
 | cons t ts ih =>
  rw [List.map_cons,List.nodup_cons]
  obtain ⟨n1,n2⟩:=List.nodup_cons.mp nd
  refine ⟨fun hm=>?_,ih n2 fun x hx=>hin x (List.mem_cons_of_mem _ hx)⟩
  obtain ⟨x,hx,e⟩:=List.mem_map.mp hm
  have a1:=Gw (hin t (List.mem_cons_self ..))
  have a2:=Gw (hin x (List.mem_cons_of_mem _ hx))
  rw [e,a1] at a2
  rw [Option.some.inj a2] at n1
  exact n1 hx
end Og
section PartK40a
set_option maxHeartbeats 4000000
namespace K40
open PySem L2 Og
noncomputable def top (i:Nat):Stmt:=PySem.Challenge.pw_windchest_k40_whole_two_consoles.main.body.getD i (.Pass ⟨0,0,0,0⟩)
noncomputable abbrev lB:Stmt:=top 16
noncomputable abbrev Z8:Stmt:=top 17
noncomputable abbrev gb:Stmt:=top 18
noncomputable abbrev fX:Stmt:=top 38
noncomputable abbrev eV:Stmt:=top 39
noncomputable abbrev jQ:Stmt:=top 40
noncomputable abbrev eZ:Stmt:=top 41
noncomputable abbrev fD:Stmt:=top 42
noncomputable abbrev iK:Stmt:=top 43
noncomputable abbrev fC:Stmt:=top 44
noncomputable abbrev lO:Stmt:=top 45
noncomputable abbrev fV:Stmt:=top 46
noncomputable abbrev kI:Stmt:=top 47
noncomputable abbrev iU:Stmt:=top 48
noncomputable abbrev jh:Stmt:=top 49
noncomputable abbrev iG:Stmt:=top 50
noncomputable abbrev jJ:Stmt:=top 53
noncomputable abbrev fJ:Stmt:=top 54
noncomputable abbrev gO:Stmt:=top 55
noncomputable abbrev fj:Stmt:=top 56
noncomputable abbrev jP:Stmt:=top 21
noncomputable abbrev fG:Stmt:=top 22
noncomputable abbrev gY:Stmt:=top 23
noncomputable abbrev gZ:Stmt:=top 26
noncomputable abbrev jK:Stmt:=top 27
noncomputable abbrev eU:Stmt:=top 28
noncomputable abbrev lJ:Stmt:=top 29
noncomputable abbrev eQ:Stmt:=top 59
noncomputable abbrev lR:Stmt:=top 60
noncomputable abbrev lE:Stmt:=top 61
noncomputable abbrev fW:Stmt:=top 62
noncomputable abbrev fM:Stmt:=top 63
noncomputable abbrev Ym:Stmt:=top 64
noncomputable abbrev lF:Stmt:=top 67
noncomputable abbrev fH:Stmt:=top 66
noncomputable abbrev jC:Stmt:=top 68
noncomputable abbrev jO:Stmt:=top 69
noncomputable abbrev Uz:Stmt:=inClass (top 57) 0
noncomputable abbrev gh:Stmt:=inClass (top 57) 11
noncomputable abbrev gf:Stmt:=inClass (top 57) 13
noncomputable abbrev iy:Stmt:=inClass (top 57) 12
noncomputable abbrev iD:Stmt:=inClass (top 57) 17
noncomputable abbrev e_:Stmt:=inClass (top 57) 4
noncomputable abbrev lK:Stmt:=inClass (top 30) 0
noncomputable abbrev iQ:Stmt:=inClass (top 30) 1
noncomputable abbrev jc:Stmt:=inClass (top 30) 2
noncomputable abbrev jR:Stmt:=inClass (top 30) 3
noncomputable abbrev lC:Stmt:=inClass (top 30) 8
noncomputable abbrev ju:Stmt:=inClass (top 30) 9
noncomputable abbrev iC:Stmt:=inClass (top 30) 10
noncomputable abbrev jr:Stmt:=inClass (top 30) 7
noncomputable abbrev Ra:Stmt:=inClass (top 30) 4
noncomputable abbrev lA:Stmt:=inClass (top 30) 5
noncomputable abbrev jY:Stmt:=inClass (top 30) 6
noncomputable abbrev jW:Stmt:=inClass (top 10) 0
noncomputable abbrev jB:Stmt:=inClass (top 11) 0
noncomputable abbrev jN:Stmt:=inClass (top 12) 0
noncomputable abbrev je:Stmt:=inClass (top 12) 1
noncomputable abbrev K8:Stmt:=top 70
structure Txt (K:PySem.W.Frag) (P:Params) (mg:Str->Option Value) (C Cy cK cP cB cS cO pB pE pA aN aK aB aP aM:Addr):Prop where
 len:mg "len" = none
 isin:mg "isinstance" = none
 int:mg "int" = none
 bool:mg "bool" = none
 str:mg "str" = none
 list:mg "list" = none
 tuple:mg "tuple" = none
 all:mg "all" = none
 any:mg "any" = none
 sum:mg "sum" = none
 range:mg "range" = none
 zip:mg "zip" = none
 enumerate:mg "enumerate" = none
 max:mg "max" = none
 reversed:mg "reversed" = none
 set:mg "set" = none
 abs:mg "abs" = none
 letters:∃ t,mg "LETTERS" = some (.str letters t)
 mostL:∃ t,mg "MOST_LETTERS" = some (.int 8 t)
 mostR:∃ t,mg "MOST_ROWS" = some (.int 150 t)
 mostLn:∃ t,mg "MOST_LINES" = some (.int 4 t)
 below:∃ t,mg "MEMBERS_BELOW" = some (.int 1200 t)
 mN:mg "NAMED" = some (.ref aN)
 mK:mg "KNOBS" = some (.ref aK)
 mB:mg "BOUNDS" = some (.ref aB)
 mP:mg "PARTS" = some (.ref aP)
 mM:mg "MOST_OF" = some (.ref aM)
 tN:KTup K aN (named.map V.str)
 tK:KTup K aK [.str "stop",.str "coupler",.str "mute"]
 dB:KDict K P aB
 dP:KDict K P aP
 dM:KDict K P aM
 cl:NQ K C
 mC:mg "Organ" = some (.ref C)
 clR:NQ K Cy
 mCR:mg "Console" = some (.ref Cy)
 nr_organ:CK K Cy "organ"
 nr_drawn_set:CK K Cy "drawn_set"
 nr_shoe_step:CK K Cy "shoe_step"
 nr_stored:CK K Cy "stored"
 x4:nG K mg cK cP cB cS cO
 pis:gm K mg pB pE pA
 n_row_list:CK K C "row_list"
 n_board_list:CK K C "board_list"
 n_rank_list:CK K C "rank_list"
 n_knob_rows:CK K C "knob_rows"
 n_board_numbers:CK K C "board_numbers"
 n_rank_numbers:CK K C "rank_numbers"
 n_knob_numbers:CK K C "knob_numbers"
 n_key_places:CK K C "key_places"
 n_pipe_places:CK K C "pipe_places"
 n_knob_lines:CK K C "knob_lines"
 n_step_sets:CK K C "step_sets"
structure iV (K:PySem.W.Frag) (mg:Str->Option Value) (C Cy pB pE pA fWh fMd fNm fRo fTo fWi fPa fHp fCl fIk fSb fIs fWm fHr fIr fCk fNu fPl fLi fSs fMy fSt fUn fKn fBn fKb fIp fDn fDw fNa fLg fLx fSp fLm fDe fDo fSx fOi fOu fBk fOj fOy fOz fXi fXd fXp fXq fXw fXk fXs fXh fXt fXr fXc fPi fEp fAi fAp:Addr) (dWh dMd dNm dRo dTo dWi dPa dHp dCl dIk dSb dIs dWm dHr dIr dCk dNu dPl dLi dSs dMy dSt dUn dKn dBn dKb dIp dDn dDw dNa dLg dLx dSp dLm dDe dDo dSx dOi dOu dBk dOj dOy dOz dXi dXd dXp dXq dXw dXk dXs dXh dXt dXr dXc dPi dEp dAi dAp:FuncData):Prop where
 FWh:DX K "is_whole" "is_whole" lB fWh dWh∧Binds K dWh ["thing"] []∧mg "is_whole" = some (.ref fWh)
 FMd:DX K "is_made_of" "is_made_of" Z8 fMd dMd∧Binds K dMd ["text","signs","most"] []∧mg "is_made_of" = some (.ref fMd)
 FNm:DX K "is_name" "is_name" gb fNm dNm∧Binds K dNm ["thing"] []∧mg "is_name" = some (.ref fNm)
 FRo:DX K "rows_of" "rows_of" fX fRo dRo∧Binds K dRo ["rows","word"] []∧mg "rows_of" = some (.ref fRo)
 FTo:DX K "is_told" "is_told" eV fTo dTo∧Binds K dTo ["rows","word","thing"] []∧mg "is_told" = some (.ref fTo)
 FWi:DX K "is_within" "is_within" jQ fWi dWi∧Binds K dWi ["thing","bounds"] []∧mg "is_within" = some (.ref fWi)
 FPa:DX K "is_part" "is_part" eZ fPa dPa∧Binds K dPa ["thing","part","ahead"] []∧mg "is_part" = some (.ref fPa)
 FHp:DX K "has_parts" "has_parts" fD fHp dHp∧Binds K dHp ["row","ahead"] []∧mg "has_parts" = some (.ref fHp)
 FCl:DX K "count_of_last_lines" "count_of_last_lines" iK fCl dCl∧Binds K dCl ["rows"] []∧mg "count_of_last_lines" = some (.ref fCl)
 FIk:DX K "is_key_of" "is_key_of" fC fIk dIk∧Binds K dIk ["number","board","ahead"] []∧mg "is_key_of" = some (.ref fIk)
 FSb:DX K "stands_behind_stop" "stands_behind_stop" lO fSb dSb∧Binds K dSb ["line","ahead"] []∧mg "stands_behind_stop" = some (.ref fSb)
 FIs:DX K "is_step" "is_step" fV fIs dIs∧Binds K dIs ["row","ahead"] []∧mg "is_step" = some (.ref fIs)
 FWm:DX K "is_well_made" "is_well_made" kI fWm dWm∧Binds K dWm ["row","ahead"] []∧mg "is_well_made" = some (.ref fWm)
 FHr:DX K "has_room" "has_room" iU fHr dHr∧Binds K dHr ["word","ahead"] []∧mg "has_room" = some (.ref fHr)
 FIr:DX K "is_row" "is_row" jh fIr dIr∧Binds K dIr ["thing","ahead"] []∧mg "is_row" = some (.ref fIr)
 FCk:DX K "check_rows" "check_rows" iG fCk dCk∧Binds K dCk ["rows"] []∧mg "check_rows" = some (.ref fCk)
 FNu:DX K "numbers_of" "numbers_of" jJ fNu dNu∧Binds K dNu ["names"] []∧mg "numbers_of" = some (.ref fNu)
 FPl:DX K "places_of" "places_of" fJ fPl dPl∧Binds K dPl ["things"] []∧mg "places_of" = some (.ref fPl)
 FLi:DX K "lines_by_knob" "lines_by_knob" gO fLi dLi∧Binds K dLi ["rows","rank_numbers"] []∧mg "lines_by_knob" = some (.ref fLi)
 FSs:DX K "set_of_step" "set_of_step" fj fSs dSs∧Binds K dSs ["row","knob_numbers"] []∧mg "set_of_step" = some (.ref fSs)
 FMy:DX K "may_be_member" "may_be_member" jP fMy dMy∧Binds K dMy ["thing"] []∧mg "may_be_member" = some (.ref fMy)
 FSt:DX K "set_of" "set_of" fG fSt dSt∧Binds K dSt ["numbers"] []∧mg "set_of" = some (.ref fSt)
 FUn:DX K "union_of" "union_of" gY fUn dUn∧Binds K dUn ["sets"] []∧mg "union_of" = some (.ref fUn)
 FKn:DX K "knob_named" "knob_named" gZ fKn dKn∧Binds K dKn ["organ","name"] []∧mg "knob_named" = some (.ref fKn)
 FBn:DX K "board_named" "board_named" jK fBn dBn∧Binds K dBn ["organ","name"] []∧mg "board_named" = some (.ref fBn)
 FKb:DX K "knobs_of_board" "knobs_of_board" eU fKb dKb∧Binds K dKb ["organ","name"] []∧mg "knobs_of_board" = some (.ref fKb)
 FIp:DX K "is_piston" "is_piston" lJ fIp dIp∧Binds K dIp ["thing"] []∧mg "is_piston" = some (.ref fIp)
 FDn:DX K "_law_drawn" "_law_drawn" eQ fDn dDn∧Binds K dDn ["_law_script","_law_start"] []∧mg "_law_drawn" = some (.ref fDn)
 FDw:DX K "_law_draw" "_law_draw" lR fDw dDw∧Binds K dDw ["_law_drawn_here","_law_many"] []∧mg "_law_draw" = some (.ref fDw)
 FNa:DX K "_law_name" "_law_name" lE fNa dNa∧Binds K dNa ["_law_kind","_law_at","_law_k"] []∧mg "_law_name" = some (.ref fNa)
 FLg:DX K "_law_organ" "_law_organ" fW fLg dLg∧Binds K dLg ["_law_drawn_here"] []∧mg "_law_organ" = some (.ref fLg)
 FLx:DX K "_law_knobs" "_law_knobs" fM fLx dLx∧Binds K dLx ["_law_rows"] []∧mg "_law_knobs" = some (.ref fLx)
 FSp:DX K "_law_steps" "_law_steps" Ym fSp dSp∧Binds K dSp ["_law_rows"] []∧mg "_law_steps" = some (.ref fSp)
 FLm:DX K "_law_names" "_law_names" lF fLm dLm∧Binds K dLm ["_law_e"] []∧mg "_law_names" = some (.ref fLm)
 FDe:DX K "_law_deed" "_law_deed" fH fDe dDe∧Binds K dDe ["_law_rows","_law_number"] []∧mg "_law_deed" = some (.ref fDe)
 FDo:DX K "_law_do" "_law_do" jC fDo dDo∧Binds K dDo ["_law_console","_law_deed_here"] []∧mg "_law_do" = some (.ref fDo)
 FSx:DX K "_law_stood" "_law_stood" jO fSx dSx∧Binds K dSx ["_law_console"] []∧mg "_law_stood" = some (.ref fSx)
 FOi:DX K "__init__" "Organ.__init__" Uz fOi dOi∧Binds K dOi ["self","rows"] []∧Mk K C fOi
 FOu:DX K "board_number" "Organ.board_number" gh fOu dOu∧Binds K dOu ["self","name"] []∧Meth K C "board_number" fOu
 FBk:DX K "board_of_knob" "Organ.board_of_knob" gf fBk dBk∧Binds K dBk ["self","knob"] []∧Meth K C "board_of_knob" fBk
 FOj:DX K "knob_number" "Organ.knob_number" iy fOj dOj∧Binds K dOj ["self","name"] []∧Meth K C "knob_number" fOj
 FOy:DX K "steps" "Organ.steps" iD fOy dOy∧Binds K dOy ["self"] []∧Meth K C "steps" fOy
 FOz:DX K "knobs" "Organ.knobs" e_ fOz dOz∧Binds K dOz ["self"] []∧Meth K C "knobs" fOz
 FXi:DX K "__init__" "Console.__init__" lK fXi dXi∧Binds K dXi ["self","organ"] []∧Mk K Cy fXi
 FXd:DX K "draw" "Console.draw" iQ fXd dXd∧Binds K dXd ["self","knobs"] []∧Meth K Cy "draw" fXd
 FXp:DX K "pull" "Console.pull" jc fXp dXp∧Binds K dXp ["self","name"] []∧Meth K Cy "pull" fXp
 FXq:DX K "push" "Console.push" jR fXq dXq∧Binds K dXq ["self","name"] []∧Meth K Cy "push" fXq
 FXw:DX K "drawn" "Console.drawn" lC fXw dXw∧Binds K dXw ["self"] []∧Meth K Cy "drawn" fXw
 FXk:DX K "knobs" "Console.knobs" ju fXk dXk∧Binds K dXk ["self"] []∧Meth K Cy "knobs" fXk
 FXs:DX K "step" "Console.step" iC fXs dXs∧Binds K dXs ["self"] []∧Meth K Cy "step" fXs
 FXh:DX K "shoe" "Console.shoe" jr fXh dXh∧Binds K dXh ["self","step"] []∧Meth K Cy "shoe" fXh
 FXt:V4 K "store" "Console.store" Ra fXt dXt∧Binds K dXt ["self","piston","board"] []∧Meth K Cy "store" fXt
 FXr:DX K "press" "Console.press" lA fXr dXr∧Binds K dXr ["self","piston"] []∧Meth K Cy "press" fXr
 FXc:DX K "cancel" "Console.cancel" jY fXc dXc∧Binds K dXc ["self"] []∧Meth K Cy "cancel" fXc
 FPi:DX K "__init__" "Piston.__init__" jW fPi dPi∧Binds K dPi ["self","knobs"] []∧Mk K pE fPi
 FEp:DX K "put" "Every.put" jB fEp dEp∧Binds K dEp ["self","drawn"] []∧Meth K pE "put" fEp
 FAi:DX K "__init__" "Part.__init__" jN fAi dAi∧Binds K dAi ["self","knobs","whole"] []∧Mk K pA fAi
 FAp:DX K "put" "Part.put" je fAp dAp∧Binds K dAp ["self","drawn"] []∧Meth K pA "put" fAp
 bXt0:Binds K dXt ["self","piston","board"] [.none]
 cPi:Wn K pB "__init__" fPi (.type "type")
section
variable {P:Program} {w:World} {K:PySem.W.Frag} {mg:Str->Option Value} {base:Heap} {C Cy cK cP cB cS cO pB pE pA aN aK aB aP aM:Addr} {fWh fMd fNm fRo fTo fWi fPa fHp fCl fIk fSb fIs fWm fHr fIr fCk fNu fPl fLi fSs fMy fSt fUn fKn fBn fKb fIp fDn fDw fNa fLg fLx fSp fLm fDe fDo fSx fOi fOu fBk fOj fOy fOz fXi fXd fXp fXq fXw fXk fXs fXh fXt fXr fXc fPi fEp fAi fAp:Addr} {dWh dMd dNm dRo dTo dWi dPa dHp dCl dIk dSb dIs dWm dHr dIr dCk dNu dPl dLi dSs dMy dSt dUn dKn dBn dKb dIp dDn dDw dNa dLg dLx dSp dLm dDe dDo dSx dOi dOu dBk dOj dOy dOz dXi dXd dXp dXq dXw dXk dXs dXh dXt dXr dXc dPi dEp dAi dAp:FuncData}
variable (N:iV K mg C Cy pB pE pA fWh fMd fNm fRo fTo fWi fPa fHp fCl fIk fSb fIs fWm fHr fIr fCk fNu fPl fLi fSs fMy fSt fUn fKn fBn fKb fIp fDn fDw fNa fLg fLx fSp fLm fDe fDo fSx fOi fOu fBk fOj fOy fOz fXi fXd fXp fXq fXw fXk fXs fXh fXt fXr fXc fPi fEp fAi fAp dWh dMd dNm dRo dTo dWi dPa dHp dCl dIk dSb dIs dWm dHr dIr dCk dNu dPl dLi dSs dMy dSt dUn dKn dBn dKb dIp dDn dDw dNa dLg dLx dSp dLm dDe dDo dSx dOi dOu dBk dOj dOy dOz dXi dXd dXp dXq dXw dXk dXs dXh dXt dXr dXc dPi dEp dAi dAp) (T:Txt K w.params mg C Cy cK cP cB cS cO pB pE pA aN aK aB aP aM)
noncomputable def U7:Sp:=fun vs H Q _=>∃ i:Int,vs=[.int i]/\Q (.bl true) H
theorem cD:Aq ["thing"] ["thing"] (Af lB):=Bp
include N T in
theorem Wk:Ar P w K mg base Bh 1 fWh dWh ["thing"] U7:=by
 refine N.FWh.1.ok cD (fun vs H Q E h=>?_) (fun cdv A outer s H vs Q E hr h=>?_)
 ·obtain ⟨i,rfl,_⟩:=h
  rfl
 ·obtain ⟨i,rfl,q⟩:=h
  refine ⟨_,(Ai (Aw (Dh (BJ DP rfl T.isin PyProof.Rows.boot_isinstance (Ab (pv 0) (Ab (Eb (v:=.ty "int") rfl T.int PyProof.Rows.boot_int rfl) Aa))) (Dd (Ot (BJ DP rfl T.isin PyProof.Rows.boot_isinstance (Ab (pv 0) (Ab (Eb (v:=.ty "bool") rfl T.bool PyProof.Rows.boot_bool rfl) Aa)))))))),?_⟩
  refine ⟨_,rfl,_,"int",_,_,rfl,.int i,ty_int,_,rfl,Cj ?_⟩
  exact ⟨_,rfl,_,"bool",_,_,rfl,.int i,Wj,_,rfl,q⟩
noncomputable def d8:Sp:=fun vs H Q _=>∃ z:Str,vs=[.str z,.str letters,.int 8]/\isNm z/\∀ H',Ak H H'->Q (.bl true) H'
theorem Zb:Aq ["text","signs","most"] ["text","signs","most"] (Af Z8):=Bp
include N T in
theorem cL:Ar P w K mg base Bh 1 fMd dMd ["text","signs","most"] d8:=by
 refine N.FMd.1.ok Zb (fun vs H Q E h=>?_) (fun cdv A outer s H vs Q E hr h=>?_)
 ·obtain ⟨z,rfl,_⟩:=h
  rfl
 ·obtain ⟨z,rfl,hz,q⟩:=h
  refine ⟨_,(Ai (Aw (Dh (Gq Fj Fj Ac (BJ Hn rfl T.len PySem.boot_len (Ab (pv 0) Aa)) (pv 2)) (Dd (BJ (Gg rfl) rfl T.all PyProof.Rows.boot_all (Ab (Bk rfl (Ba (osc:=Af Z8) (N:=["text","signs","most"]) rfl rfl (by decide +kernel)) (Ro (pv 0)) (fun _ _ _ _=>Cq) (fun _ _ _ _=>(Ek KD (pv 0) (pv 2) rfl))) Aa)))))),?_⟩
  have hzl:z.length<sizeLine:=A_ (by have:=hz.2.1; omega)
  refine ⟨_,rfl,z,rfl,Nat.le_of_lt hzl,_,_,rfl,rfl,_,rfl,?_⟩
  refine Ci (fun h1=>?_) (fun h1=>absurd (decide_eq_true (by have:=hz.1; omega)) h1)
  refine ⟨_,rfl,_,_,rfl,rfl,_,rfl,?_⟩
  refine Ci (fun h2=>?_) (fun h2=>absurd (decide_eq_true (by have:=hz.2.1; omega)) h2)
  refine ⟨_,rfl,z,rfl,MN (fun _=>true) (fun c=>.bl (V_ letters c)) hzl (fun c hc H' hs R k=>k H' (Ak.refl H')) (fun c hc _ H' hs R k=>⟨_,rfl,_,rfl,_,_,rfl,rfl,k H' (Ak.refl H')⟩) (fun D H' hD hs hl=>?_)⟩
  refine ⟨D,z.cps.toList.map (V_ letters),rfl,.inl (.inl ?_),?_⟩
  ·rw [hl,List.filter_eq_self.mpr (fun _ _=>rfl),List.map_map]
   rfl
  ·have e:(z.cps.toList.map (V_ letters)).all id=true:=by
    rw [List.all_map,List.all_eq_true]
    intro c hc
    have:=hz.2.2 c hc
    show V_ letters c=true
    rw [Ly c (by omega)]
    exact decide_eq_true this
   rw [e]
   exact q H' hs
noncomputable def W8:Sp:=fun vs H Q _=>∃ z:Str,vs=[.str z]/\isNm z/\∀ H',Ak H H'->Q (.bl true) H'
theorem aH:Aq ["thing"] ["thing"] (Af gb):=Bp
include N T in
theorem W0:Ar P w K mg base Bh 2 fNm dNm ["thing"] W8:=by
 have GMd:Ar P w K mg base Bh 1 fMd dMd ["text","signs","most"] d8:=cL N T
 refine N.FNm.1.ok aH (fun vs H Q E h=>?_) (fun cdv A outer s H vs Q E hr h=>?_)
 ·obtain ⟨z,rfl,_⟩:=h
  rfl
 ·obtain ⟨z,rfl,hz,q⟩:=h
  have hrMd:BW 1 _:=hr.mono (by decide)
  obtain ⟨tLET,hLET⟩:=T.letters
  obtain ⟨tML,hML⟩:=T.mostL
  refine ⟨_,(Ai (Aw (Dh (BJ DP rfl T.isin PyProof.Rows.boot_isinstance (Ab (pv 0) (Ab (Eb (v:=.ty "str") rfl T.str PyProof.Rows.boot_str rfl) Aa))) (Dd (Am GMd hrMd rfl N.FMd.2.2 N.FMd.1.kp N.FMd.2.1 .nil Az (Ab (pv 0) (Ab (Bs (v:=.str letters) rfl hLET ⟨tLET,rfl⟩) (Ab (Bs (v:=.int 8) rfl hML ⟨tML,rfl⟩) Aa)))))))),?_⟩
  refine ⟨_,rfl,_,"str",_,_,rfl,.str z,Rz,_,rfl,Cj ?_⟩
  exact ⟨_,rfl,z,rfl,hz,q⟩
noncomputable def Qd:Sp:=fun vs H Q _=>∃ (p:Addr) (us:List V) (w:Str) (ρ:V->R),vs=[.ref p,.str w]/\H p=some (.lst us)/\Rows H ρ us/\us.length<=500/\∀ D H',H D=none->Ak H H'->H' D=some (.lst (us.filter (pw ρ w)))->Q (.ref D) H'
theorem jt:Aq ["rows","word"] ["rows","word"] (Af fX):=Bp
include N T in
theorem NZ:Ar P w K mg base Bh 1 fRo dRo ["rows","word"] Qd:=by
 refine N.FRo.1.ok jt (fun vs H Q E h=>?_) (fun cdv A outer s H vs Q E hr h=>?_)
 ·obtain ⟨p,us,w,ρ,rfl,_⟩:=h
  rfl
 ·obtain ⟨p,us,w,ρ,rfl,hp,hR,hl,q⟩:=h
  refine ⟨_,(Ai (Aw (Bk rfl (Ba (osc:=Af fX) (N:=["rows","word"]) rfl rfl (by decide +kernel)) (Br (pv 0)) (fun _ _ _ _=>(Hk (BK Bu (Ay (Ax (K:=K) rfl) (pv 0) Ac (fun _ _=>rfl)) (pv 2) (BV _)))) (fun _ _ _ _=>(pv 0))))),?_⟩
  have hS:Cw K H p us:=.inl (.inl hp)
  refine ⟨_,rfl,p,rfl,⟨_,hS⟩,Cu (K:=K) (xs:=us) (pw ρ w) id hS (A_ (by omega)) (fun x hx H' hs R k=>?_) (fun x hx _ H' hs R k=>⟨_,rfl,k H' (Ak.refl H')⟩) (fun D H' hD hs hl'=>?_)⟩
  ·obtain ⟨T0,rfl,hT⟩:=(hR x hx).mono hs
   exact ⟨_,rfl,T0,_,_,_,rfl,rfl,.inl (.inl hT),Aj (j:=0) rfl,_,rfl,rfl,_,rfl,k H' (Ak.refl H')⟩
  ·rw [List.map_id] at hl'
   exact q D H' hD hs hl'
noncomputable def Xz:Sp:=fun vs H Q _=>∃ (p:Addr) (us:List V) (w t:Str) (ρ:V->R),vs=[.ref p,.str w,.str t]/\H p=some (.lst us)/\Rows H ρ us/\us.length<=500/\isNm t/\∀ H',Ak H H'->Q (.bl (Uy ρ us w t)) H'
theorem jG:Aq ["rows","word","thing"] ["rows","word","thing"] (Af eV):=Bp
include N T in
theorem Wb:Ar P w K mg base Bh 3 fTo dTo ["rows","word","thing"] Xz:=by
 have GNm:Ar P w K mg base Bh 2 fNm dNm ["thing"] W8:=W0 N T
 have GRo:Ar P w K mg base Bh 1 fRo dRo ["rows","word"] Qd:=NZ N T
 refine N.FTo.1.ok jG (fun vs H Q E h=>?_) (fun cdv A outer s H vs Q E hr h=>?_)
 ·obtain ⟨p,us,w,t,ρ,rfl,_⟩:=h
  rfl
 ·obtain ⟨p,us,w,t,ρ,rfl,hp,hR,hl,ht,q⟩:=h
  have hrNm:BW 2 _:=hr.mono (by decide)
  have hrRo:BW 1 _:=hr.mono (by decide)
  refine ⟨_,(Ai (Aw (Dh (Am GNm hrNm rfl N.FNm.2.2 N.FNm.1.kp N.FNm.2.1 .nil Az (Ab (pv 2) Aa)) (Dd (BJ (Jo rfl) rfl T.any PyProof.Rows.boot_any (Ab (Bk rfl (Ba (osc:=Af eV) (N:=["rows","word","thing"]) rfl rfl (by decide +kernel)) (Br (Am GRo hrRo rfl N.FRo.2.2 N.FRo.1.kp N.FRo.2.1 .nil Az (Ab (pv 0) (Ab (pv 1) Aa)))) (fun _ _ _ _=>Cq) (fun _ _ _ _=>(Ek Bu (Ay (Ax (K:=K) rfl) (pv 0) Ac (fun _ _=>rfl)) (pv 3) (BV _)))) Aa)))))),?_⟩
  refine ⟨_,rfl,t,rfl,ht,fun H1 s1=>⟨_,rfl,Cj ?_⟩⟩
  refine ⟨_,rfl,_,rfl,p,us,w,ρ,rfl,s1 _ _ hp,hR.mono s1,hl,fun D H2 hD s2 hl2=>?_⟩
  have hS:Cw K H2 D (us.filter (pw ρ w)):=.inl (.inl hl2)
  refine ⟨D,rfl,⟨_,hS⟩,Cu (K:=K) (xs:=us.filter (pw ρ w)) (fun _=>true) (fun v=>.bl (pn ρ t v)) hS (A_ (by have:=HR (pw ρ w) us; omega)) (fun x hx H' hs R k=>k H' (Ak.refl H')) (fun x hx _ H' hs R k=>?_) (fun D3 H3 hD3 s3 hl3=>?_)⟩
  ·obtain ⟨T0,rfl,hT⟩:=(((hR.mono s1).mono s2).mono hs) x (List.mem_filter.mp hx).1
   exact ⟨_,rfl,T0,_,_,_,rfl,rfl,.inl (.inl hT),Aj (j:=1) rfl,_,rfl,rfl,k H' (Ak.refl H')⟩
  ·refine ⟨D3,(us.filter (pw ρ w)).map (pn ρ t),rfl,.inl (.inl ?_),?_⟩
   ·rw [hl3,List.filter_eq_self.mpr (fun _ _=>rfl),List.map_map]
    rfl
   ·have e:((us.filter (pw ρ w)).map (pn ρ t)).any id=Uy ρ us w t:=by
     rw [List.any_map]
     rfl
    rw [e]
    exact q H3 ((s1.trans s2).trans s3)
noncomputable def cF (K:PySem.W.Frag):Sp:=fun vs H Q _=>∃ (i lo hi:Int) (b:Addr),vs=[.int i,.ref b]/\KTup K b [.int lo,.int hi]/\lo<=i/\i<=hi/\Q (.bl true) H
theorem kO:Aq ["thing","bounds"] ["thing","bounds"] (Af jQ):=Bp
include N T in
theorem aj:Ar P w K mg base Bh 2 fWi dWi ["thing","bounds"] (cF K):=by
 have GWh:Ar P w K mg base Bh 1 fWh dWh ["thing"] U7:=Wk N T
 refine N.FWi.1.ok kO (fun vs H Q E h=>?_) (fun cdv A outer s H vs Q E hr h=>?_)
 ·obtain ⟨i,lo,hi,b,rfl,_⟩:=h
  rfl
 ·obtain ⟨i,lo,hi,b,rfl,hb,h1,h2,q⟩:=h
  have hrWh:BW 1 _:=hr.mono (by decide)
  refine ⟨_,(Ai (Aw (Dh (Am GWh hrWh rfl N.FWh.2.2 N.FWh.1.kp N.FWh.2.1 .nil Az (Ab (pv 0) Aa)) (Dd (Gq Fj Fj (Ay (Ax (K:=K) rfl) (pv 1) Ac (fun _ _=>rfl)) (pv 0) (Ay (Ax (K:=K) rfl) (pv 1) Ac (fun _ _=>rfl))))))),?_⟩
  refine ⟨_,rfl,i,rfl,_,rfl,Cj ?_⟩
  refine ⟨_,rfl,b,_,_,_,rfl,rfl,hb.sq _,Aj (j:=0) rfl,_,rfl,_,_,rfl,rfl,_,rfl,?_⟩
  refine Ci (fun _=>?_) (fun z=>absurd (decide_eq_true h1) z)
  refine ⟨_,rfl,b,_,_,_,rfl,rfl,hb.sq _,Aj (j:=1) rfl,_,_,rfl,rfl,?_⟩
  show Q (.bl (decide (i<=hi))) H
  rw [decide_eq_true h2]
  exact q
noncomputable def dg (K:PySem.W.Frag) (aB:Addr):Sp:=fun vs H Q _=>∃ (x:V) (part:Str) (p:Addr) (us:List V) (ρ:V->R),vs=[x,.str part,.ref p]/\H p=some (.lst us)/\Rows H ρ us/\us.length<=500/\Hj K aB ρ us x part/\∀ H',Ak H H'->Q (.bl true) H'
theorem iR:Aq ["thing","part","ahead"] ["thing","part","ahead"] (Af eZ):=Bp
include N T in
theorem Zi:Ar P w K mg base Bh 4 fPa dPa ["thing","part","ahead"] (dg K aB):=by
 have GNm:Ar P w K mg base Bh 2 fNm dNm ["thing"] W8:=W0 N T
 have GTo:Ar P w K mg base Bh 3 fTo dTo ["rows","word","thing"] Xz:=Wb N T
 have GWi:Ar P w K mg base Bh 2 fWi dWi ["thing","bounds"] (cF K):=aj N T
 refine N.FPa.1.ok iR (fun vs H Q E h=>?_) (fun cdv A outer s H vs Q E hr h=>?_)
 ·obtain ⟨x,part,p,us,ρ,rfl,_⟩:=h
  rfl
 ·obtain ⟨x,part,p,us,ρ,rfl,hp,hR,hl,hok,q⟩:=h
  have hrNm:BW 2 _:=hr.mono (by decide)
  have hrTo:BW 3 _:=hr.mono (by decide)
  have hrWi:BW 2 _:=hr.mono (by decide)
  refine ⟨_,(Ad (Bg (Rj (Sq (pv 1) (Bs (v:=.ref aB) rfl T.mB rfl))) (Ai (Aw (Am GWi hrWi rfl N.FWi.2.2 N.FWi.1.kp N.FWi.2.1 .nil Az (Ab (pv 0) (Ab (K1 (Bs (v:=.ref aB) rfl T.mB rfl) (pv 1) (fun _ _=>rfl)) Aa))))) BZ)
   (Ad (Bg (BK Bu (pv 1) BL (BV _)) (Ai (Aw (Dh (Am GNm hrNm rfl N.FNm.2.2 N.FNm.1.kp N.FNm.2.1 .nil Az (Ab (pv 0) Aa)) (Dd (Ot (BJ (Jo rfl) rfl T.any PyProof.Rows.boot_any (Ab (Bk rfl (Ba (osc:=Af eZ) (N:=["thing","part","ahead"]) rfl rfl (by decide +kernel)) (K5 (Bs (v:=.ref aN) rfl T.mN rfl)) (fun _ _ _ _=>Cq) (fun _ _ _ _=>(Am GTo hrTo rfl N.FTo.2.2 N.FTo.1.kp N.FTo.2.1 .nil Az (Ab (pv 3) (Ab (pv 0) (Ab (pv 1) Aa)))))) Aa))))))) BZ)
   (Ai (Aw (Am GTo hrTo rfl N.FTo.2.2 N.FTo.1.kp N.FTo.2.1 .nil Az (Ab (pv 2) (Ab (pv 1) (Ab (pv 0) Aa)))))))),?_⟩
  rcases hok with ⟨i,lo,hi,b,rfl,hn,hb,h1,h2⟩ | ⟨hn,rfl,t,rfl,ht,hno⟩ | ⟨hn,hne,t,rfl,ht,hyes⟩
  ·refine ⟨_,rfl,aB,part,_,rfl,rfl,T.dB,hn,_,rfl,Cj ?_⟩
   exact ⟨_,rfl,_,rfl,aB,part,.ref b,_,rfl,rfl,T.dB,hn,rfl,i,lo,hi,b,rfl,hb,h1,h2,q H (Ak.refl H)⟩
  ·refine ⟨_,rfl,aB,_,_,rfl,rfl,T.dB,hn,_,rfl,Bo ?_⟩
   refine ⟨_,rfl,rfl,_,rfl,Cj ?_⟩
   refine ⟨_,rfl,t,rfl,ht,fun H1 s1=>⟨_,rfl,Cj ?_⟩⟩
   have hS:Ft K H1 aN (named.map V.str):=T.tN.sq _
   refine ⟨aN,rfl,⟨_,hS⟩,Gf (xs:=named.map V.str) (fun _=>true) (fun _=>.bl false) (by show 5<sizeLine; decide) (fun i H2 x hs hx=>⟨_,x,hs.tup hS,hx⟩) (fun i H2 y H3 hs _ hy=>⟨hy.1,hy.2 _ (hs.tup hS)⟩) (fun H2 hs=>⟨_,hs.tup hS,Nat.le_refl _⟩)
    (fun x hx H' hs R k=>k H' (Ak.refl H')) (fun x hx _ H' hs R k=>?_) (fun D H2 hD s2 hl2=>?_)⟩
   ·obtain ⟨w0,hw0,rfl⟩:=List.mem_map.mp hx
    refine ⟨_,rfl,_,rfl,_,rfl,p,us,w0,t,ρ,rfl,hs _ _ (s1 _ _ hp),(hR.mono s1).mono hs,hl,ht,fun H'' s''=>?_⟩
    rw [hno w0 hw0]
    exact k H'' s''
   ·refine ⟨D,[false,false,false,false,false],rfl,.inl (.inl hl2),_,rfl,?_⟩
    exact q H2 (s1.trans s2)
  ·refine ⟨_,rfl,aB,_,_,rfl,rfl,T.dB,hn,_,rfl,Bo ?_⟩
   refine ⟨_,rfl,rfl,_,rfl,?_⟩
   refine Ci (fun z=>absurd (V.str.inj (of_decide_eq_true z)) hne) (fun _=>?_)
   refine ⟨_,rfl,_,rfl,_,rfl,p,us,part,t,ρ,rfl,hp,hR,hl,ht,fun H' hs=>?_⟩
   rw [hyes]
   exact q H' hs
noncomputable def Zm (K:PySem.W.Frag) (aB aP:Addr):Sp:=fun vs H Q _=>∃ (r p:Addr) (w:Str) (xs:List V) (us:List V) (ρ:V->R) (ap:Addr) (ps:List Str),vs=[.ref r,.ref p]/\H r=some (.tup (.str w::xs))/\H p=some (.lst us)/\Rows H ρ us/\us.length<=500 /\
 PySem.W.nsIn K aP w=some (some (.ref ap))/\KTup K ap (ps.map V.str)/\xs.length=ps.length/\ps.length<=10/\(∀ (i:Nat) x y,xs[i]? = some x->ps[i]? = some y->Hj K aB ρ us x y)/\∀ H',Ak H H'->Q (.bl true) H'
theorem ao:Aq ["row","ahead","parts"] ["row","ahead"] (Af fD):=Bp
include N T in
theorem Zj:Ar P w K mg base Bh 5 fHp dHp ["row","ahead"] (Zm K aB aP):=by
 have GPa:Ar P w K mg base Bh 4 fPa dPa ["thing","part","ahead"] (dg K aB):=Zi N T
 refine N.FHp.1.ok ao (fun vs H Q E h=>?_) (fun cdv A outer s H vs Q E hr h=>?_)
 ·obtain ⟨r,p,w,xs,us,ρ,ap,ps,rfl,_⟩:=h
  rfl
 ·obtain ⟨r,p,w,xs,us,ρ,ap,ps,rfl,hr0,hp,hR,hl,hn,hap,hlen,hps,hok,q⟩:=h
  have hrPa:BW 4 _:=hr.mono (by decide)
  refine ⟨_,(Ad (Cr (i:=2) ao.nd rfl (Or.inl rfl) (K1 (Bs (v:=.ref aP) rfl T.mP rfl) (Ay (Ax (K:=K) rfl) (pv 0) Ac (fun _ _=>rfl)) (fun _ _=>rfl)))
   (Ad (Bg (BK Nb (BJ BX rfl T.len PySem.boot_len (Ab (pv 0) Aa)) (BR Di Ac (BJ BX rfl T.len PySem.boot_len (Ab (pv 2) Aa))) (BV _)) (Ai (Aw JQ)) BZ)
   (Ai (Aw (BJ (Gg rfl) rfl T.all PyProof.Rows.boot_all (Ab (Vj rfl (Oq (osc:=Af fD) (N:=["row","ahead","parts"]) rfl rfl (by decide +kernel)) (Vb rfl T.zip (Ab (Cp LQ (pv 0) (DR Ac) Dk) (Ab (pv 2) Aa))) (fun _ _ _ _=>Cq) (fun _ _ _ _=>(Am GPa hrPa rfl N.FPa.2.2 N.FPa.1.kp N.FPa.2.1 .nil Az (Ab (pv 0) (Ab (pv 1) (Ab (pv 3) Aa)))))) Aa)))))),?_⟩
  refine ⟨_,rfl,r,_,_,_,rfl,rfl,.inl (.inl hr0),Aj (j:=0) rfl,aP,w,.ref ap,_,rfl,rfl,T.dP,hn,rfl,?_⟩
  refine ⟨_,rfl,r,_,rfl,.inr (.inl (.inl hr0)),_,rfl,ap,_,rfl,.inr (hap.sq _),_,_,rfl,rfl,rfl,_,rfl,?_⟩
  refine Ci (fun z=>?_) (fun _=>?_)
  ·exfalso
   have e:(((V.str w::xs).length:Nat):Int)=1+(((ps.map V.str).length:Nat):Int):=by
    rw [List.length_cons,List.length_map,hlen]
    omega
   rw [e] at z
   simp at z
  ·have hcut:Dm (V.str w::xs) (some 1) none=xs:=by
    unfold Dm
    have e1:HT.DY (V.str w::xs).length 0 (some ((1:Nat):Int))=1:=by rw [HT.Dv,List.length_cons]; omega
    have e1':HT.DY (V.str w::xs).length 0 (some (1:Int))=1:=e1
    rw [e1',HT.Hw,List.drop_succ_cons,List.drop_zero]
    exact List.take_of_length_le (by rw [List.length_cons]; omega)
   refine ⟨_,rfl,_,rfl,r,_,rfl,.inl (.inl hr0),(fun z=>?_),fun p2 hp2=>?_⟩
   ·have e1:HT.DY (V.str w::xs).length 0 (some ((1:Nat):Int))=1:=by rw [HT.Dv,List.length_cons]; omega
    have:=z.1.symm.trans e1
    cases this
   rw [hcut]
   obtain ⟨H2,eqH,s2,a2⟩:=DW (o:=HO.tup xs) hp2
   rw [eqH]
   have h1:Ft K H2 p2 xs:=.inl (.inl a2)
   refine ⟨_,rfl,p2,ap,rfl,⟨_,h1⟩,⟨_,hap.sq _⟩,S6 (K:=K) (xs:=xs) (ys:=ps.map V.str) (fun _ _=>.bl true) h1 (hap.sq _) (by rw [List.length_map]; exact hlen) (A_ (by omega)) (fun i x y hx hy H3 s3 R k=>?_) (fun D H3 hD s3 hl3=>?_)⟩
   ·rw [List.getElem?_map] at hy
    obtain ⟨part,hpart,rfl⟩:=Option.map_eq_some_iff.mp hy
    exact ⟨_,rfl,_,rfl,_,rfl,x,part,p,us,ρ,rfl,s3 _ _ (s2 _ _ hp),(hR.mono s2).mono s3,hl,hok i x part hx hpart,fun H4 s4=>k H4 s4⟩
   ·have e:List.zipWith (fun _ _=>V.bl true) xs (ps.map V.str)=(List.replicate xs.length true).map V.bl:=by
     rw [List.map_replicate]
     refine List.ext_getElem? fun i=>?_
     rw [List.getElem?_zipWith]
     by_cases hi:i<xs.length
     ·rw [List.getElem?_eq_getElem hi,List.getElem?_eq_getElem (by rw [List.length_map]; omega),List.getElem?_eq_getElem (by rw [List.length_replicate]; exact hi)]
      simp
     ·rw [List.getElem?_eq_none (by omega),List.getElem?_eq_none (l:=List.replicate _ _) (by rw [List.length_replicate]; omega)]
    rw [e] at hl3
    refine ⟨D,List.replicate xs.length true,rfl,.inl (.inl hl3),?_⟩
    have e2:(List.replicate xs.length true).all id=true:=by simp
    rw [e2]
    exact q H3 (s2.trans s3)
noncomputable def aW:Sp:=fun vs H Q _=>∃ (p:Addr) (us:List V) (ρ:V->R) (c:Nat),vs=[.ref p]/\H p=some (.lst us)/\Rows H ρ us/\us.length<=500/\Wf ρ us c/\Q (.int (c:Nat)) H
theorem WP:Aq ["rows","count","row"] ["rows"] (Af iK):=Bp
include N T in
theorem cT:Ar P w K mg base Bh 1 fCl dCl ["rows"] aW:=by
 refine N.FCl.1.ok WP (fun vs H Q E h=>?_) (fun cdv A outer s H vs Q E hr h=>?_)
 ·obtain ⟨p,us,ρ,c,rfl,_⟩:=h
  rfl
 ·obtain ⟨p,us,ρ,c,rfl,hp,hR,hl,hc,q⟩:=h
  refine ⟨_,(Ad (Cr (i:=1) WP.nd rfl (Or.inl rfl) Ac)
   (Ad (Dz PassesOwn.never rfl (YB rfl T.reversed (Ab (pv 0) Aa)) (B_ (i:=2) WP.nd rfl (Or.inl rfl)) (Ad (Bg (BK Nb (Ay (Ax (K:=K) rfl) (pv 2) Ac (fun _ _=>rfl)) BL (BV _)) (Ai Rk) BZ)
   (Ai (Cr (i:=1) WP.nd rfl (Or.inl rfl) (BR Di (pv 1) Ac)))))
   (Ai (Aw (pv 1))))),?_⟩
  have hS:Cw K H p us:=.inl (.inl hp)
  refine ⟨_,rfl,p,us,rfl,hS,WM (K:=K) (a:=p) (xs:=us) (fun i σ H4=>H4=H/\i<=c/\∃ v2,σ=[some (.ref p),some (.int (i:Nat)),v2]) ⟨rfl,Nat.zero_le _,_,rfl⟩ (fun i σ H4 _ h=>by rw [h.1]; exact hS) ?_ ?_⟩
  ·rintro i x σ H4 hi hx ⟨rfl,hic,v2,rfl⟩
   obtain ⟨r,rfl,hr0⟩:=hR x (List.mem_of_getElem? hx)
   refine ⟨_,rfl,r,_,_,_,rfl,rfl,.inl (.inl hr0),Aj (j:=0) rfl,rfl,_,rfl,?_⟩
   by_cases e:(ρ (.ref r)).w = "line"
   ·have hne:i ≠ c:=fun z=>by
     obtain ⟨v,hv,hno⟩:=hc.no
     rw [← z,hx] at hv
     cases hv
     exact hno e
    refine We (congrArg V.str e) ?_
    exact ⟨_,rfl,_,_,rfl,rfl,rfl,by omega,_,rfl⟩
   ·have hic':i=c:=by
     refine Classical.byContradiction fun z=>?_
     obtain ⟨v,hv,hyes⟩:=hc.all i (by omega)
     rw [hx] at hv
     cases hv
     exact e hyes
    subst hic'
    rw [decide_eq_false fun z=>e (V.str.inj z)]
    refine Cj ?_
    exact ⟨_,rfl,q⟩
  ·rintro σ H4 ⟨rfl,hic,v2,rfl⟩
   have:=hc.lt
   omega
noncomputable def ZX:Sp:=fun vs H Q _=>∃ (n:Int) (bd:Str) (p:Addr) (us:List V) (ρ:V->R),vs=[.int n,.str bd,.ref p]/\H p=some (.lst us)/\Rows H ρ us/\us.length<=500/\En ρ us/\∀ H',Ak H H'->Q (.bl (keyOf ρ us bd n)) H'
theorem gG:Aq ["number","board","ahead"] ["number","board","ahead"] (Af fC):=Bp
include N T in
theorem Zt:Ar P w K mg base Bh 2 fIk dIk ["number","board","ahead"] ZX:=by
 have GRo:Ar P w K mg base Bh 1 fRo dRo ["rows","word"] Qd:=NZ N T
 refine N.FIk.1.ok gG (fun vs H Q E h=>?_) (fun cdv A outer s H vs Q E hr h=>?_)
 ·obtain ⟨n,bd,p,us,ρ,rfl,_⟩:=h
  rfl
 ·obtain ⟨n,bd,p,us,ρ,rfl,hp,hR,hl,hB,q⟩:=h
  have hrRo:BW 1 _:=hr.mono (by decide)
  refine ⟨_,(Ai (Aw (BJ (Jo rfl) rfl T.any PyProof.Rows.boot_any (Ab (Bk rfl (Ba (osc:=Af fC) (N:=["number","board","ahead"]) rfl rfl (by decide +kernel)) (Br (Am GRo hrRo rfl N.FRo.2.2 N.FRo.1.kp N.FRo.2.1 .nil Az (Ab (pv 2) (Ab BL Aa)))) (fun _ _ _ _=>Cq) (fun _ _ _ _=>(Dh (Ek Bu (Ay (Ax (K:=K) rfl) (pv 0) Ac (fun _ _=>rfl)) (pv 2) (BV _)) (Dd (Ek JN (pv 1) (Ay (Ax (K:=K) rfl) (pv 0) Ac (fun _ _=>rfl)) (BV _)))))) Aa)))),?_⟩
  refine ⟨_,rfl,p,us,"board",ρ,rfl,hp,hR,hl,fun D H2 hD s2 hl2=>?_⟩
  have hS:Cw K H2 D (us.filter (pw ρ "board")):=.inl (.inl hl2)
  refine ⟨D,rfl,⟨_,hS⟩,Cu (K:=K) (xs:=us.filter (pw ρ "board")) (fun _=>true) (fun v=>.bl (pn ρ bd v && decide (n<W9 (ρ v)))) hS (A_ (by have:=HR (pw ρ "board") us; omega)) (fun x hx H' hs R k=>k H' (Ak.refl H')) (fun x hx _ H' hs R k=>?_) (fun D3 H3 hD3 s3 hl3=>?_)⟩
  ·have hx':=List.mem_filter.mp hx
   obtain ⟨m,em⟩:=hB x hx'.1 (V.str.inj (of_decide_eq_true hx'.2))
   have hz:W9 (ρ x)=m:=by unfold W9; rw [em]
   have hT:=((hR.mono s2).mono hs) x hx'.1
   have kk:=k H' (Ak.refl H')
   rw [hz] at kk
   obtain ⟨T0,rfl,hT⟩:=hT
   have kk:R (.bl (decide (V.str (ρ (.ref T0)).nm=V.str bd) && decide (n<m))) H':=kk
   have hT':H' T0=some (.tup (.str (ρ (.ref T0)).w :: .str (ρ (.ref T0)).nm::(ρ (.ref T0)).rest)):=hT
   rw [em] at hT'
   refine ⟨_,rfl,T0,_,_,_,rfl,rfl,.inl (.inl hT'),Aj (j:=1) rfl,_,rfl,rfl,_,rfl,?_⟩
   refine Ci (fun g=>?_) (fun g=>?_)
   ·rw [g,Bool.true_and] at kk
    exact ⟨_,rfl,_,rfl,T0,_,_,_,rfl,rfl,.inl (.inl hT'),Aj (j:=2) rfl,_,_,rfl,rfl,kk⟩
   ·rw [(Bool.not_eq_true _).mp g,Bool.false_and] at kk
    exact kk
  ·refine ⟨D3,(us.filter (pw ρ "board")).map (fun v=>pn ρ bd v && decide (n<W9 (ρ v))),rfl,.inl (.inl ?_),?_⟩
   ·rw [hl3,List.filter_eq_self.mpr (fun _ _=>rfl),List.map_map]
    rfl
   ·have e:((us.filter (pw ρ "board")).map (fun v=>pn ρ bd v && decide (n<W9 (ρ v)))).any id=keyOf ρ us bd n:=by
     rw [List.any_map]
     rfl
    rw [e]
    exact q H3 (s2.trans s3)
noncomputable def ak:Sp:=fun vs H Q _=>∃ (r p:Addr) (ro:R) (us:List V) (ρ:V->R),vs=[.ref r,.ref p]/\H r=some (.tup ro.v)/\H p=some (.lst us)/\Rows H ρ us/\us.length<=500/\Nq ρ us ro/\En ρ us/\∀ H',Ak H H'->Q (.bl true) H'
theorem YX:Aq ["line","ahead","count","row"] ["line","ahead"] (Af lO):=Bp
include N T in
theorem cY:Ar P w K mg base Bh 3 fSb dSb ["line","ahead"] ak:=by
 have GCl:Ar P w K mg base Bh 1 fCl dCl ["rows"] aW:=cT N T
 have GIk:Ar P w K mg base Bh 2 fIk dIk ["number","board","ahead"] ZX:=Zt N T
 refine N.FSb.1.ok YX (fun vs H Q E h=>?_) (fun cdv A outer s H vs Q E hr h=>?_)
 ·obtain ⟨r,p,ro,us,ρ,rfl,_⟩:=h
  rfl
 ·obtain ⟨r,p,ro,us,ρ,rfl,hr0,hp,hR,hl,hL,hB,q⟩:=h
  have hrCl:BW 1 _:=hr.mono (by decide)
  have hrIk:BW 2 _:=hr.mono (by decide)
  obtain ⟨tML4,hML4⟩:=T.mostLn
  refine ⟨_,(Ad (Cr (i:=2) YX.nd rfl (Or.inl rfl) (Am GCl hrCl rfl N.FCl.2.2 N.FCl.1.kp N.FCl.2.1 .nil Az (Ab (pv 1) Aa)))
   (Ad (Cr (i:=3) YX.nd rfl (Or.inl rfl) (Ay Bt (pv 1) (BR Oo (BR Oo (BJ BX rfl T.len PySem.boot_len (Ab (pv 1) Aa)) Ac) (pv 2)) (fun _ _=>rfl)))
   (Ad (Bg (PW.pt (Ib (BK Nb (Ay (Ax (K:=K) rfl) (pv 3) Ac (fun _ _=>rfl)) BL (BV _)) (GX (BK aV (pv 2) (Bs (v:=.int 4) rfl hML4 ⟨tML4,rfl⟩) (BV _))))) (Ai (Aw JQ)) BZ)
   (Ai (Aw (Dh (Ek Fj (Ay (Ax (K:=K) rfl) (pv 0) Ac (fun _ _=>rfl)) (Ay (Ax (K:=K) rfl) (pv 0) Ac (fun _ _=>rfl)) (BV _)) (Dd (Am GIk hrIk rfl N.FIk.2.2 N.FIk.1.kp N.FIk.2.1 .nil Az (Ab (Ay (Ax (K:=K) rfl) (pv 0) Ac (fun _ _=>rfl)) (Ab (Ay (Ax (K:=K) rfl) (pv 3) Ac (fun _ _=>rfl)) (Ab (pv 1) Aa))))))))))),?_⟩
  obtain ⟨cnt,v,sh,lo,hi,bd,rs,er,hc,h4,hv,hw,hrest,hle,hk⟩:=hL.ex
  have hr1:H r=some (.tup [.str ro.w,.str ro.nm,.int sh,.int lo,.int hi]):=by rw [hr0,← er]
  obtain ⟨r2,rfl,hr2⟩:=hR v (List.mem_of_getElem? hv)
  have hr2':H r2=some (.tup (.str (ρ (.ref r2)).w :: .str (ρ (.ref r2)).nm :: .str bd::rs)):=by rw [hr2,← hrest]
  have hlt:=hc.lt
  have ei:((us.length:Nat):Int) - 1 - ((cnt:Nat):Int)=((us.length - 1 - cnt:Nat):Int):=by omega
  have hS:Cw K H p us:=.inl (.inl hp)
  refine ⟨_,rfl,p,us,ρ,cnt,rfl,hp,hR,hl,hc,?_⟩
  refine ⟨_,rfl,_,rfl,p,us,rfl,.inl hS,_,_,rfl,rfl,_,rfl,_,_,rfl,rfl,p,us,_,_,rfl,rfl,hS,(by rw [ei]; exact Aj hv),?_⟩
  refine ⟨_,rfl,r2,_,_,_,rfl,rfl,.inl (.inl hr2'),Aj (j:=0) rfl,rfl,_,rfl,We (congrArg V.str hw) ?_⟩
  refine ⟨_,rfl,_,_,rfl,rfl,_,rfl,?_⟩
  refine Ci (fun z=>?_) (fun _=>?_)
  ·have:=of_decide_eq_true z
   omega
  refine ⟨_,rfl,r,_,_,_,rfl,rfl,.inl (.inl hr1),Aj (j:=3) rfl,_,rfl,r,_,_,_,rfl,rfl,.inl (.inl hr1),Aj (j:=4) rfl,_,_,rfl,rfl,_,rfl,?_⟩
  refine Ci (fun _=>?_) (fun z=>absurd (decide_eq_true hle) z)
  refine ⟨_,rfl,r,_,_,_,rfl,rfl,.inl (.inl hr1),Aj (j:=4) rfl,_,rfl,r2,_,_,_,rfl,rfl,.inl (.inl hr2'),Aj (j:=2) rfl,_,rfl,hi,bd,p,us,ρ,rfl,hp,hR,hl,hB,fun H' s'=>?_⟩
  rw [hk]
  exact q H' s'
noncomputable def bh:Sp:=fun vs H Q _=>∃ (r p:Addr) (ro:R) (us:List V) (ρ:V->R) (ts:List Str),vs=[.ref r,.ref p]/\H r=some (.tup ro.v)/\H p=some (.lst us)/\Rows H ρ us/\us.length<=500/\V.str ro.nm::ro.rest=ts.map V.str/\ts.Nodup/\ts.length<=24/\(∀ t∈ts,isNm t/\Uy ρ us "stop" t=true)/\∀ H',Ak H H'->Q (.bl true) H'
theorem Y0:Aq ["row","ahead","names"] ["row","ahead"] (Af fV):=Bp
include N T in
theorem Zn:Ar P w K mg base Bh 5 fIs dIs ["row","ahead"] bh:=by
 have GTo:Ar P w K mg base Bh 3 fTo dTo ["rows","word","thing"] Xz:=Wb N T
 refine N.FIs.1.ok Y0 (fun vs H Q E h=>?_) (fun cdv A outer s H vs Q E hr h=>?_)
 ·obtain ⟨r,p,ro,us,ρ,ts,rfl,_⟩:=h
  rfl
 ·obtain ⟨r,p,ro,us,ρ,ts,rfl,hr0,hp,hR,hl,ets,nd,h24,hts,q⟩:=h
  have hrTo:BW 3 _:=hr.mono (by decide)
  refine ⟨_,(Ad (Cr (i:=2) Y0.nd rfl (Or.inl rfl) (Cp LQ (pv 0) (DR Ac) Dk))
   (Ad (Bg (PW.pt (Ib (BK Bu (BJ BX rfl T.len PySem.boot_len (Ab (pv 2) Aa)) Ac (BV _)) (GX (Dy (Dj (BJ (Gg rfl) rfl T.all PyProof.Rows.boot_all (Ab (Bk rfl (Ba (osc:=Af fV) (N:=["row","ahead","names"]) rfl rfl (by decide +kernel)) (K5 (pv 2)) (fun _ _ _ _=>Cq) (fun _ _ _ _=>(Am GTo hrTo rfl N.FTo.2.2 N.FTo.1.kp N.FTo.2.1 .nil Az (Ab (pv 2) (Ab BL (Ab (pv 0) Aa)))))) Aa))))))) (Ai (Aw JQ)) BZ)
   (Ai (Aw (Ek Bu (BJ J7 rfl T.len PySem.boot_len (Ab (HF (QS rfl) rfl T.set PyProof.Rows.boot_set (Ab (pv 2) Aa)) Aa)) (BJ BX rfl T.len PySem.boot_len (Ab (pv 2) Aa)) (BV _)))))),?_⟩
  have hv:ro.v=V.str ro.w::ts.map V.str:=by
   show V.str ro.w::(V.str ro.nm::ro.rest)=_
   rw [ets]
  rw [hv] at hr0
  have tne:1<=ts.length:=by
   cases ts with
   | nil=>cases ets
   | cons a b=>exact Nat.succ_le_succ (Nat.zero_le _)
  have hcut:Dm (V.str ro.w::ts.map V.str) (some 1) none=ts.map V.str:=by
   unfold Dm
   have e1:HT.DY (V.str ro.w::ts.map V.str).length 0 (some 1)=1:=by
    rw [show (some (1:Int))=some ((1:Nat):Int) from rfl,HT.Dv]
    simp
   rw [e1,HT.Hw]
   simp
   exact List.take_of_length_le (by rw [List.length_map]; exact Nat.le_refl _)
  refine ⟨_,rfl,_,rfl,r,_,rfl,.inl (.inl hr0),?_,fun n0 hn0=>?_⟩
  ·rintro ⟨z,_⟩
   have e1:HT.DY (V.str ro.w::ts.map V.str).length 0 (some 1)=1:=by
    rw [show (some (1:Int))=some ((1:Nat):Int) from rfl,HT.Dv]
    simp
   rw [e1] at z
   cases z
  rw [hcut]
  obtain ⟨H1,eqH,s1,a1⟩:=DW (o:=HO.tup (ts.map V.str)) hn0
  rw [eqH]
  have hT:Ft K H1 n0 (ts.map V.str):=.inl (.inl a1)
  have ltm:(ts.map V.str).length=ts.length:=List.length_map ..
  refine ⟨_,rfl,n0,_,rfl,.inr hT,rfl,_,rfl,Ci (fun z=>?_) (fun _=>?_)⟩
  ·exfalso
   have:=V.int.inj (of_decide_eq_true z)
   omega
  refine ⟨_,rfl,n0,rfl,⟨_,hT⟩,J3 (K:=K) (xs:=ts.map V.str) (fun _=>true) (fun _=>.bl true) hT (A_ (by omega)) (fun x hx H' hs R k=>k H' (Ak.refl H')) (fun x hx _ H' hs R k=>?_) (fun D H2 hD s2 hl2=>?_)⟩
  ·obtain ⟨z,hz,rfl⟩:=List.mem_map.mp hx
   obtain ⟨z1,z2⟩:=hts z hz
   refine ⟨_,rfl,_,rfl,p,us,"stop",z,ρ,rfl,hs _ _ (s1 _ _ hp),(hR.mono s1).mono hs,hl,z1,fun H3 s3=>?_⟩
   rw [z2]
   exact k H3 s3
  ·refine ⟨D,List.replicate ts.length true,rfl,.inl (.inl ?_),_,rfl,?_⟩
   ·rw [hl2,List.filter_eq_self.mpr (fun _ _=>rfl),List.map_map]
    congr 2
    refine List.ext_getElem? fun i=>?_
    rw [List.getElem?_map,List.getElem?_map,List.getElem?_replicate]
    by_cases hi:i<ts.length
    ·rw [List.getElem?_eq_getElem hi,if_pos hi]
     rfl
    ·rw [List.getElem?_eq_none (by omega),if_neg hi]
     rfl
   have ea:(List.replicate ts.length true).all id=true:=by simp
   rw [ea]
   refine Bo ?_
   have hT2:=s2 _ _ a1
   refine ⟨_,rfl,n0,ts,rfl,.inl (.inl hT2),by omega,fun S hS=>?_⟩
   have s3:=Av (o:=NT P w S (ts.foldl Ws.Fe [])) hS
   refine ⟨S,_,rfl,Ag,_,rfl,n0,_,rfl,.inr (.inl (.inl (s3 _ _ hT2))),rfl,?_⟩
   have e:ts.foldl Ws.Fe []=ts:=(KY ts [] (by rw [List.nil_append]; exact nd)).trans (List.nil_append _)
   have e2:decide (V.int (((ts.foldl Ws.Fe []).length:Nat):Int)=V.int (((ts.map V.str).length:Nat):Int))=true:=decide_eq_true (by rw [e,ltm])
   rw [e2]
   exact q _ (s1.trans (s2.trans s3))
noncomputable def XM (K:PySem.W.Frag) (aB aP aM:Addr):Sp:=fun vs H Q _=>∃ (r p:Addr) (ro:R) (us:List V) (ρ:V->R),vs=[.ref r,.ref p]/\H r=some (.tup ro.v)/\H p=some (.lst us)/\Rows H ρ us/\us.length<=500/\Gm K aB aP aM ρ us ro/\∀ H',Ak H H'->Q (.bl true) H'
theorem iz:Aq ["row","ahead"] ["row","ahead"] (Af kI):=Bp
include N T in
theorem bA:Ar P w K mg base Bh 6 fWm dWm ["row","ahead"] (XM K aB aP aM):=by
 have GHp:Ar P w K mg base Bh 5 fHp dHp ["row","ahead"] (Zm K aB aP):=Zj N T
 have GSb:Ar P w K mg base Bh 3 fSb dSb ["line","ahead"] ak:=cY N T
 have GIs:Ar P w K mg base Bh 5 fIs dIs ["row","ahead"] bh:=Zn N T
 refine N.FWm.1.ok iz (fun vs H Q E h=>?_) (fun cdv A outer s H vs Q E hr h=>?_)
 ·obtain ⟨r,p,ro,us,ρ,rfl,_⟩:=h
  rfl
 ·obtain ⟨r,p,ro,us,ρ,rfl,hr0,hp,hR,hl,ok3,q⟩:=h
  have hrHp:BW 5 _:=hr.mono (by decide)
  have hrSb:BW 3 _:=hr.mono (by decide)
  have hrIs:BW 5 _:=hr.mono (by decide)
  refine ⟨_,(Ad (Bg (BK Bu (Ay (Ax (K:=K) rfl) (pv 0) Ac (fun _ _=>rfl)) BL (BV _)) (Ai (Aw (Am GIs hrIs rfl N.FIs.2.2 N.FIs.1.kp N.FIs.2.1 .nil Az (Ab (pv 0) (Ab (pv 1) Aa))))) BZ)
   (Ad (Bg (BK Bu (Ay (Ax (K:=K) rfl) (pv 0) Ac (fun _ _=>rfl)) BL (BV _)) (Ai (Aw (Dh (Am GHp hrHp rfl N.FHp.2.2 N.FHp.1.kp N.FHp.2.1 .nil Az (Ab (pv 0) (Ab (pv 1) Aa))) (Dd (Am GSb hrSb rfl N.FSb.2.2 N.FSb.1.kp N.FSb.2.1 .nil Az (Ab (pv 0) (Ab (pv 1) Aa))))))) BZ)
   (Ai (Aw (Dh (TQ (Sq (Ay (Ax (K:=K) rfl) (pv 0) Ac (fun _ _=>rfl)) (Bs (v:=.ref aP) rfl T.mP rfl))) (Dd (Am GHp hrHp rfl N.FHp.2.2 N.FHp.1.kp N.FHp.2.1 .nil Az (Ab (pv 0) (Ab (pv 1) Aa))))))))),?_⟩
  refine ⟨_,rfl,r,_,_,_,rfl,rfl,.inl (.inl hr0),Aj (j:=0) rfl,rfl,_,rfl,?_⟩
  rcases ok3 with ok | ok
  case inr =>
   obtain ⟨ts,ets,nd,h24,hts⟩:=ok.ts
   refine Ci (fun _=>?_) (fun z=>absurd (decide_eq_true (congrArg V.str ok.w)) z)
   exact ⟨_,rfl,_,rfl,r,p,ro,us,ρ,ts,rfl,hr0,hp,hR,hl,ets,nd,h24,hts,q⟩
  obtain ⟨ap,ps,hn,hap,hlen,hps,hok⟩:=ok.parts
  refine Ci (fun z=>absurd (V.str.inj (of_decide_eq_true z)) ok.ns) (fun _=>?_)
  refine ⟨_,rfl,r,_,_,_,rfl,rfl,.inl (.inl hr0),Aj (j:=0) rfl,rfl,_,rfl,?_⟩
  refine Ci (fun z=>?_) (fun _=>?_)
  ·have hline:=ok.line (V.str.inj (of_decide_eq_true z))
   refine ⟨_,rfl,_,rfl,r,p,ro.w,_,us,ρ,ap,ps,rfl,hr0,hp,hR,hl,hn,hap,hlen,hps,hok,fun H1 s1=>⟨_,rfl,Cj ?_⟩⟩
   exact ⟨_,rfl,_,rfl,r,p,ro,us,ρ,rfl,s1 _ _ hr0,s1 _ _ hp,hR.mono s1,hl,hline,ok.Yn,fun H2 s2=>q H2 (s1.trans s2)⟩
  refine ⟨_,rfl,r,_,_,_,rfl,rfl,.inl (.inl hr0),Aj (j:=0) rfl,aP,_,_,rfl,rfl,T.dP,hn,_,rfl,Cj ?_⟩
  exact ⟨_,rfl,_,rfl,r,p,ro.w,_,us,ρ,ap,ps,rfl,hr0,hp,hR,hl,hn,hap,hlen,hps,hok,q⟩
noncomputable def Zh (K:PySem.W.Frag) (aM:Addr):Sp:=fun vs H Q _=>∃ (p:Addr) (w:Str) (us:List V) (ρ:V->R),vs=[.str w,.ref p]/\H p=some (.lst us)/\Rows H ρ us/\us.length<=500/\(PySem.W.nsIn K aM w=some none \/ ∃ (m:Int) (t:Tok),PySem.W.nsIn K aM w=some (some (.int m t))/\(((us.filter (pw ρ w)).length:Nat):Int)<m)/\∀ H',Ak H H'->Q (.bl true) H'
theorem gW:Aq ["word","ahead"] ["word","ahead"] (Af iU):=Bp
include N T in
theorem Za:Ar P w K mg base Bh 2 fHr dHr ["word","ahead"] (Zh K aM):=by
 have GRo:Ar P w K mg base Bh 1 fRo dRo ["rows","word"] Qd:=NZ N T
 refine N.FHr.1.ok gW (fun vs H Q E h=>?_) (fun cdv A outer s H vs Q E hr h=>?_)
 ·obtain ⟨p,w,us,ρ,rfl,_⟩:=h
  rfl
 ·obtain ⟨p,w,us,ρ,rfl,hp,hR,hl,hroom,q⟩:=h
  have hrRo:BW 1 _:=hr.mono (by decide)
  refine ⟨_,(Ai (Aw (bC (TQ (Q0 (pv 0) (Bs (v:=.ref aM) rfl T.mM rfl))) (Dd (Ek JN (BJ BX rfl T.len PySem.boot_len (Ab (Am GRo hrRo rfl N.FRo.2.2 N.FRo.1.kp N.FRo.2.1 .nil Az (Ab (pv 1) (Ab (pv 0) Aa))) Aa)) (K1 (Bs (v:=.ref aM) rfl T.mM rfl) (pv 0) (fun _ _=>rfl)) (BV _)))))),?_⟩
  rcases hroom with hn | ⟨m,t,hn,hm⟩
  ·refine ⟨_,rfl,aM,w,_,rfl,rfl,T.dM,hn,_,rfl,Cj ?_⟩
   exact q H (Ak.refl H)
  refine ⟨_,rfl,aM,w,_,rfl,rfl,T.dM,hn,_,rfl,Bo ?_⟩
  refine ⟨_,rfl,_,rfl,p,us,w,ρ,rfl,hp,hR,hl,fun D H2 hD s2 hl2=>?_⟩
  refine ⟨D,_,rfl,.inl (.inl (.inl hl2)),_,rfl,aM,w,.int m,_,rfl,rfl,T.dM,hn,⟨t,rfl⟩,_,_,rfl,rfl,?_⟩
  show Q (.bl (decide ((((us.filter (pw ρ w)).length:Nat):Int)<m))) H2
  rw [decide_eq_true hm]
  exact q H2 s2
noncomputable def dN (K:PySem.W.Frag) (aB aP aM:Addr):Sp:=XM K aB aP aM
theorem j8:Aq ["thing","ahead"] ["thing","ahead"] (Af jh):=Bp
include N T in
theorem dG:Ar P w K mg base Bh 7 fIr dIr ["thing","ahead"] (dN K aB aP aM):=by
 have GWm:Ar P w K mg base Bh 6 fWm dWm ["row","ahead"] (XM K aB aP aM):=bA N T
 have GHr:Ar P w K mg base Bh 2 fHr dHr ["word","ahead"] (Zh K aM):=Za N T
 refine N.FIr.1.ok j8 (fun vs H Q E h=>?_) (fun cdv A outer s H vs Q E hr h=>?_)
 ·obtain ⟨r,p,ro,us,ρ,rfl,_⟩:=h
  rfl
 ·obtain ⟨r,p,ro,us,ρ,rfl,hr0,hp,hR,hl,ok,q⟩:=h
  have hrWm:BW 6 _:=hr.mono (by decide)
  have hrHr:BW 2 _:=hr.mono (by decide)
  refine ⟨_,(Ad (Bg (PW.pt (Ib (Dy (Dj (BJ DP rfl T.isin PyProof.Rows.boot_isinstance (Ab (pv 0) (Ab (Eb (v:=.ty "tuple") rfl T.tuple PyProof.Rows.boot_tuple rfl) Aa))))) (Ib (BK Bu (BJ BX rfl T.len PySem.boot_len (Ab (pv 0) Aa)) Ac (BV _)) (GX (Dy (Dj (BJ DP rfl T.isin PyProof.Rows.boot_isinstance (Ab (Ay (Ax (K:=K) rfl) (pv 0) Ac (fun _ _=>rfl)) (Ab (Eb (v:=.ty "str") rfl T.str PyProof.Rows.boot_str rfl) Aa))))))))) (Ai (Aw JQ)) BZ)
   (Ai (Aw (Dh (Am GWm hrWm rfl N.FWm.2.2 N.FWm.1.kp N.FWm.2.1 .nil Az (Ab (pv 0) (Ab (pv 1) Aa))) (Dd (Am GHr hrHr rfl N.FHr.2.2 N.FHr.1.kp N.FHr.2.1 .nil Az (Ab (Ay (Ax (K:=K) rfl) (pv 0) Ac (fun _ _=>rfl)) (Ab (pv 1) Aa)))))))),?_⟩
  have hroom:PySem.W.nsIn K aM ro.w=some none \/ ∃ (m:Int) (t:Tok),PySem.W.nsIn K aM ro.w=some (some (.int m t))/\(((us.filter (pw ρ ro.w)).length:Nat):Int)<m:=Gm.room ok
  refine ⟨_,rfl,_,"tuple",_,_,rfl,.tup hr0,aF,_,rfl,Bo ?_⟩
  refine ⟨_,rfl,r,_,rfl,.inr (.inl (.inl hr0)),rfl,_,rfl,?_⟩
  refine Ci (fun z=>?_) (fun _=>?_)
  ·exfalso
   have:=of_decide_eq_true z
   have:=V.int.inj this
   simp at this
   omega
  refine ⟨_,rfl,r,_,_,_,rfl,rfl,.inl (.inl hr0),Aj (j:=0) rfl,_,"str",_,_,rfl,.str _,Rz,_,rfl,Bo ?_⟩
  refine ⟨_,rfl,_,rfl,r,p,ro,us,ρ,rfl,hr0,hp,hR,hl,ok,fun H1 s1=>⟨_,rfl,Cj ?_⟩⟩
  exact ⟨_,rfl,r,_,_,_,rfl,rfl,.inl (.inl (s1 _ _ hr0)),Aj (j:=0) rfl,_,rfl,p,ro.w,us,ρ,rfl,s1 _ _ hp,hR.mono s1,hl,hroom,fun H2 s2=>q H2 (s1.trans s2)⟩
noncomputable def aQ (K:PySem.W.Frag) (aB aP aM:Addr):Sp:=fun vs H Q _=>∃ (p:Addr) (us:List V) (ρ:V->R),vs=[.ref p]/\H p=some (.lst us)/\Rows H ρ us/\1<=us.length/\us.length<=150/\(∀ (i:Nat) v,us[i]? = some v->Gm K aB aP aM ρ (us.take i) (ρ v))/\(us.filter (pw ρ "board")).isEmpty=false/\∀ H',Ak H H'->Q .non H'
theorem XX:Aq ["rows","at","row"] ["rows"] (Af iG):=Bp
include N T in
theorem Ze:Ar P w K mg base Bh 8 fCk dCk ["rows"] (aQ K aB aP aM):=by
 have GIr:Ar P w K mg base Bh 7 fIr dIr ["thing","ahead"] (dN K aB aP aM):=dG N T
 have GRo:Ar P w K mg base Bh 1 fRo dRo ["rows","word"] Qd:=NZ N T
 refine N.FCk.1.ok XX (fun vs H Q E h=>?_) (fun cdv A outer s H vs Q E hr h=>?_)
 ·obtain ⟨p,us,ρ,rfl,_⟩:=h
  rfl
 ·obtain ⟨p,us,ρ,rfl,hp,hR,h1,h2,hok,hb,q⟩:=h
  have hrIr:BW 7 _:=hr.mono (by decide)
  have hrRo:BW 1 _:=hr.mono (by decide)
  obtain ⟨tMR,hMR⟩:=T.mostR
  refine ⟨_,(Ad (Bg (PW.pt (Ib (Dy (Dj (BJ DP rfl T.isin PyProof.Rows.boot_isinstance (Ab (pv 0) (Ab (Eb (v:=.ty "list") rfl T.list PyProof.Rows.boot_list rfl) Aa))))) (GX (Dy (MP Fj Fj Ac (BJ BX rfl T.len PySem.boot_len (Ab (pv 0) Aa)) (Bs (v:=.int 150) rfl hMR ⟨tMR,rfl⟩)))))) (Ai Hv) BZ)
   (Ad (Dz PassesOwn.never rfl (LC rfl T.enumerate (Ab (pv 0) Aa)) (Jf rfl (De (B_ (i:=1) XX.nd rfl (Or.inl rfl)) (De (B_ (i:=2) XX.nd rfl (Or.inl rfl)) H_))) (Ai (Bg (Dy (Dj (Am GIr hrIr rfl N.FIr.2.2 N.FIr.1.kp N.FIr.2.1 .nil Az (Ab (pv 2) (Ab (Cp GC (pv 0) Dk (DR (pv 1))) Aa))))) (Ai Hv) BZ)))
   (Ai (Bg (Dy (Tc (Am GRo hrRo rfl N.FRo.2.2 N.FRo.1.kp N.FRo.2.1 .nil Az (Ab (pv 0) (Ab BL Aa))) (fun _=>rfl))) (Ai Hv) BZ)))),?_⟩
  have hS:Cw K H p us:=.inl (.inl hp)
  refine ⟨_,rfl,_,"list",_,_,rfl,.lst hp,Wq,_,rfl,Bo ?_⟩
  refine ⟨_,rfl,p,_,rfl,.inl hS,_,_,rfl,rfl,_,rfl,?_⟩
  refine Ci (fun _=>?_) (fun z=>absurd (decide_eq_true (by omega)) z)
  refine ⟨_,_,rfl,rfl,_,rfl,?_⟩
  have e150:decide ((us.length:Int)<=150)=true:=decide_eq_true (by omega)
  rw [e150]
  refine Bo ?_
  refine ⟨_,rfl,p,rfl,⟨_,hS⟩,J2 (K:=K) (a:=p) (xs:=us) (fun i σ H4=>Ak H H4/\∃ v1 v2,σ=[some (.ref p),v1,v2]) ⟨Ak.refl H,_,_,rfl⟩ (fun i σ H4 _ h=>h.1.seq hS) ?_ ?_⟩
  ·rintro i x σ H4 T0 hx ⟨s4,v1,v2,rfl⟩ hT
   have s5:=Av (o:=HO.tup [.int (i:Int),x]) hT
   refine ⟨T0,_,rfl,.inl (.inl Ag),rfl,_,_,rfl,_,_,rfl,rfl,?_⟩
   generalize upd H4 T0 (HO.tup [.int (i:Int),x])=H5 at s5 ⊢
   have s05:=s4.trans s5
   have hi:i<us.length:=(List.getElem?_eq_some_iff.mp hx).1
   obtain ⟨r,rfl,hr0⟩:=(hR.mono s05) x (List.mem_of_getElem? hx)
   refine ⟨_,rfl,_,rfl,_,rfl,_,rfl,p,_,rfl,s05.seq hS,fun p6 hp6=>?_⟩
   have s6:=Av (o:=HO.lst (Dm us none (some (i:Int)))) hp6
   have a6:upd H5 p6 (HO.lst (Dm us none (some (i:Int)))) p6=_:=Ag
   generalize upd H5 p6 (HO.lst (Dm us none (some (i:Int))))=H6 at s6 a6 ⊢
   rw [Mg us i (by omega)] at a6
   have s06:=s05.trans s6
   refine ⟨r,p6,ρ (.ref r),us.take i,ρ,rfl,s6 _ _ hr0,a6,(hR.mono s06).sub fun v hv=>List.mem_of_mem_take hv,by rw [List.length_take]; omega,hok i _ hx,fun H7 s7=>⟨_,rfl,Bo ?_⟩⟩
   exact ⟨s06.trans s7,_,_,rfl⟩
  ·rintro σ H4 ⟨s4,v1,v2,rfl⟩
   refine ⟨_,rfl,p,us,"board",ρ,rfl,s4 _ _ hp,hR.mono s4,by omega,fun D H5 hD s5 hl5=>?_⟩
   refine ⟨_,.inl ⟨_,.inl (.inl hl5),rfl⟩,?_⟩
   rw [hb]
   exact Bo (q H5 (s4.trans s5))
noncomputable def Y_:Sp:=fun vs H Q _=>∃ (p:Addr) (ts:List Str),vs=[.ref p]/\H p=some (.lst (ts.map V.str))/\ts.length<=300/\ts.Nodup/\∀ D (kvs:List (Key × V)) H',H D=none->Ak H H'->H' D=some (.dK kvs)->(∀ (i:Nat) t,ts[i]? = some t->CT kvs (Sum.inr t)=some (.int (i:Nat)))->(∀ t,t ∉ ts->CT kvs (Sum.inr t)=none)->Q (.ref D) H'
theorem Vt:Aq ["names","numbers","number","name"] ["names"] (Af jJ):=Bp
include N T in
theorem Z_:Ar P w K mg base Bh 1 fNu dNu ["names"] Y_:=by
 refine N.FNu.1.ok Vt (fun vs H Q E h=>?_) (fun cdv A outer s H vs Q E hr h=>?_)
 ·obtain ⟨p,ts,rfl,_⟩:=h
  rfl
 ·obtain ⟨p,ts,rfl,hp,hl,nd,q⟩:=h
  have hu:=CV hr
  refine ⟨_,(Ad (Cr (i:=1) Vt.nd rfl (Or.inl rfl) Mi)
   (Ad (Dz PassesOwn.never rfl (LC rfl T.enumerate (Ab (pv 0) Aa)) (Jf rfl (De (B_ (i:=2) Vt.nd rfl (Or.inl rfl)) (De (B_ (i:=3) Vt.nd rfl (Or.inl rfl)) H_))) (Ai (Lg hu (pv 1) (pv 3) (pv 2) rfl)))
   (Ai (Aw (pv 1))))),?_⟩
  intro D hD
  have s0:=Av (o:=HO.dK []) hD
  have hS:Cw K H p (ts.map V.str):=.inl (.inl hp)
  refine ⟨_,rfl,p,rfl,⟨_,s0.seq hS⟩,J2 (K:=K) (a:=p) (xs:=ts.map V.str) (fun i σ H4=>Ak H H4/\∃ (kvs:List (Key × V)),H4 D=some (.dK kvs)/\kvs.length<=i/\(∀ (j:Nat) t,j<i->ts[j]? = some t->CT kvs (Sum.inr t)=some (.int (j:Nat)))/\(∀ t,t ∉ ts->CT kvs (Sum.inr t)=none)/\∃ v2 v3,σ=[some (.ref p),some (.ref D),v2,v3])
   ⟨s0,[],Ag,Nat.le_refl _,fun j t hj=>absurd hj (Nat.not_lt_zero _),fun t _=>Hq,_,_,rfl⟩ (fun i σ H4 _ h=>h.1.seq hS) ?_ ?_⟩
  ·rintro i x σ H4 T0 hx ⟨s4,kvs,hd,hk,hv,hv0,v2,v3,rfl⟩ hT
   rw [List.getElem?_map] at hx
   obtain ⟨t,ht,rfl⟩:=Option.map_eq_some_iff.mp hx
   have hi:i<ts.length:=(List.getElem?_eq_some_iff.mp ht).1
   have s5:=Av (o:=HO.tup [.int (i:Int),.str t]) hT
   refine ⟨T0,_,rfl,.inl (.inl Ag),rfl,_,_,rfl,_,_,rfl,rfl,?_⟩
   generalize upd H4 T0 (HO.tup [.int (i:Int),.str t])=H5 at s5 ⊢
   refine ⟨_,rfl,_,rfl,_,rfl,D,_,rfl,Od.k (k:=Sum.inr t) (s5 _ _ hd) (A_ (by omega)),?_⟩
   refine ⟨fun b u e=>?_,putK kvs (Sum.inr t) (.int (i:Int)),Ag,Nat.le_trans (Gj _ _ _) (by omega),fun j t' hj ht'=>?_,fun t' ht'=>(by rw [Ge,if_neg fun z=>ht' (by rw [Sum.inr.inj z]; exact List.mem_of_getElem? ht)]; exact hv0 t' ht'),_,_,rfl⟩
   ·rw [Al (Ah e hD)]
    exact s5 _ _ (s4 _ _ e)
   ·rw [Ge]
    by_cases e:t'=t
    ·subst e
     have:j=i:=by
      obtain ⟨h1,e1⟩:=List.getElem?_eq_some_iff.mp ht'
      obtain ⟨h2,e2⟩:=List.getElem?_eq_some_iff.mp ht
      exact (List.getElem_inj nd).mp (e1.trans e2.symm)
     subst this
     rw [if_pos rfl]
    ·rw [if_neg fun z=>e (Sum.inr.inj z)]
     refine hv j t' ?_ ht'
     rcases Nat.lt_succ_iff_lt_or_eq.mp hj with z | z
     ·exact z
     ·subst z
      rw [ht] at ht'
      exact absurd (Option.some.inj ht').symm e
  ·rintro σ H4 ⟨s4,kvs,hd,hk,hv,hv0,v2,v3,rfl⟩
   refine ⟨_,rfl,q D kvs H4 hD s4 hd (fun i t ht=>hv i t ?_ ht) hv0⟩
   rw [List.length_map]
   exact (List.getElem?_eq_some_iff.mp ht).1
theorem cz {n:Nat} (h:n<=3000):n<sizeLine:=Nat.lt_of_le_of_lt h (by decide)
noncomputable def dO:Sp:=fun vs H Q _=>∃ (p:Addr) (as:List Th) (us:List V),vs=[.ref p]/\H p=some (.lst us)/\Paired (fun (a:Th) y=>TupAt H (tV a) y) as us/\as.length<=12/\(∀ a∈as,a.2.1<=97)/\∀ D ys H',H D=none->Ak H H'->H' D=some (.lst ys)->Paired (fun q y=>TupAt H' (qV q) y) (QQ (as.map tN)) ys->Q (.ref D) H'
theorem Vd:Aq ["things","places","number","thing"] ["things"] (Af fJ):=Bp
include N T in
theorem bc:Ar P w K mg base Bh 1 fPl dPl ["things"] dO:=by
 refine N.FPl.1.ok Vd (fun vs H Q E h=>?_) (fun cdv A outer s H vs Q E hr h=>?_)
 ·obtain ⟨p,as,us,rfl,_⟩:=h
  rfl
 ·obtain ⟨p,as,us,rfl,hp,hb,hl,hz,q⟩:=h
  refine ⟨_,(Ad (Cr (i:=1) Vd.nd rfl (Or.inl rfl) (Cv Aa))
   (Ad (Dz PassesOwn.never rfl (LC rfl T.enumerate (Ab (pv 0) Aa)) (Jf rfl (De (B_ (i:=2) Vd.nd rfl (Or.inr rfl)) (De (B_ (i:=3) Vd.nd rfl (Or.inl rfl)) H_))) (Ai (CG (Ec PySem.F.plainAttrs_list PySem.F.slot_list_extend PySem.F.type_list_extend Qo (pv 1) (Ab (Bk rfl (Ba (osc:=Af fJ) (N:=["things","places","number","thing"]) rfl rfl (by decide +kernel)) (El rfl T.range (Ab (Ay (Ax (K:=K) rfl) (pv 3) Ac (fun _ _=>rfl)) Aa)) (fun _ _ _ _=>Cq) (fun _ _ _ _=>(Bq (Ab (pv 3) (Ab (pv 0) Aa))))) Aa)))))
   (Ai (Aw (pv 1))))),?_⟩
  refine ⟨Be (by simp),fun D hD=>?_⟩
  have s0:=Av (o:=HO.lst []) hD
  have hS:Cw K H p us:=.inl (.inl hp)
  have hul:=hb.length
  refine ⟨_,rfl,p,rfl,⟨_,s0.seq hS⟩,J2 (K:=K) (a:=p) (xs:=us) (fun i σ H4=>Ak H H4/\∃ ys,H4 D=some (.lst ys)/\Paired (fun q y=>TupAt H4 (qV q) y) (QQ ((as.map tN).take i)) ys/\∃ v2 v3,σ=[some (.ref p),some (.ref D),v2,v3])
   ⟨s0,[],Ag,.nil,_,_,rfl⟩ (fun i σ H4 _ h=>h.1.seq hS) ?_ ?_⟩
  ·rintro i x σ H4 T0 hx ⟨s4,ys,hd,hpr,v2,v3,rfl⟩ hT
   obtain ⟨b,hbi,hxb⟩:=NK hb hx
   have hi:i<as.length:=(List.getElem?_eq_some_iff.mp hbi).1
   have hb97:=hz b (List.mem_of_getElem? hbi)
   have hbi':(as.map tN)[i]? = some (tN b):=by rw [List.getElem?_map,hbi]; rfl
   have s5:=Av (o:=HO.tup [.int (i:Int),x]) hT
   refine ⟨T0,_,rfl,.inl (.inl Ag),rfl,_,_,rfl,_,_,rfl,rfl,?_⟩
   generalize upd H4 T0 (HO.tup [.int (i:Int),x])=H5 at s5 ⊢
   obtain ⟨r,rfl,hr0⟩:=hxb.mono (s4.trans s5)
   have p5:=Ao s5 hpr
   have d5:=s5 _ _ hd
   refine ⟨_,rfl,.inl ⟨rfl,_,.inl (.inl d5)⟩,_,rfl,r,_,_,_,rfl,rfl,.inl (.inl hr0),Aj (j:=1) rfl,_,rfl,by omega,by omega,?_⟩
   rw [Int.toNat_natCast]
   refine Qa (n:=b.2.1) (fun e=>qV (i,e)) (A_ (by omega)) (fun e he H6 s6 R k=>?_) (fun D6 H6 zs hD6 s6 hl6 hz6=>?_)
   ·refine ⟨_,rfl,_,rfl,by show 2<=sizeLine; decide,fun T6 hT6=>?_⟩
    exact k _ _ (Av hT6) ⟨T6,rfl,Ag⟩
   ·have ly:=(Ao s6 p5).length
    have lz:=hz6.length
    have lp:=U4 ((as.map tN).take i) 97 fun b hb=>by
     obtain ⟨a,ha,rfl⟩:=List.mem_map.mp (List.mem_of_mem_take hb)
     exact hz a ha
    rw [List.length_take,List.length_map] at lp
    rw [List.length_range] at lz
    have:min i as.length * 97<=12 * 97:=Nat.mul_le_mul_right _ (by omega)
    refine ⟨D,D6,ys,zs,rfl,rfl,s6 _ _ d5,hl6,Nat.le_of_lt (cz (by omega)),?_⟩
    refine ⟨fun b u e=>?_,ys++zs,Ag,?_,_,_,rfl⟩
    ·rw [Al (Ah e hD)]
     exact s6 _ _ (s5 _ _ (s4 _ _ e))
    ·rw [Mt hbi']
     exact Er (Dn (Ao s6 p5) (s6 _ _ d5)) (Ce (F:=fun q y=>TupAt _ (qV q) y) (fun e=>(i,e)) (Dn hz6 (s6 _ _ d5)))
  ·rintro σ H4 ⟨s4,ys,hd,hpr,v2,v3,rfl⟩
   rw [← hul,List.take_of_length_le (by rw [List.length_map]; exact Nat.le_refl _)] at hpr
   exact ⟨_,rfl,q D ys H4 hD s4 hd hpr⟩
theorem VV {α:Type} (l:List α) (x:α):QB (l++[x]) (-1)=some x:=by
 unfold QB Rg
 rw [if_neg (by decide),if_pos (by rw [List.length_append,List.length_singleton]; omega)]
 show (l++[x])[(-1+(((l++[x]).length:Nat):Int)).toNat]? = some x
 have e:(-1+(((l++[x]).length:Nat):Int)).toNat=l.length:=by
  rw [List.length_append,List.length_singleton]
  omega
 rw [e,List.getElem?_append_right (Nat.le_refl _),Nat.sub_self]
 rfl
theorem Jr {H:Hp} {l:List Ln} {v:V} {A:Addr} {xs ys:List V} (h:Ga H l v) (hA:H A=some (.lst xs)) (hv:v ≠ .ref A):Ga (upd H A (.lst ys)) l v:=by
 obtain ⟨B,ts,rfl,h1,h2⟩:=h
 have:B ≠ A:=fun z=>hv (by rw [z])
 exact ⟨B,ts,rfl,by rw [Al this]; exact h1,Dn h2 hA⟩
theorem E_ {α β:Type} {F G:α->β->Prop}:∀ {l:List α} {vs:List β},Paired F l vs->(∀ a b,b∈vs->F a b->G a b)->Paired G l vs
 | [],_,h,_=>by cases h; exact .nil
 | a::l,_,h,k=>by
  cases h with
  | cons x y=>exact .cons (k _ _ (List.mem_cons_self ..) x) (E_ y fun a b hb=>k a b (List.mem_cons_of_mem _ hb))
theorem Ih {α β:Type} {F:α->β->Prop}:∀ {l:List α} {z:α} {vs:List β},Paired F (l++[z]) vs->∃ us u,vs=us++[u]/\Paired F l us/\F z u
 | [],z,_,h=>by
  cases h with
  | cons x y=>cases y; exact ⟨[],_,rfl,.nil,x⟩
 | a::l,z,_,h=>by
  cases h with
  | cons x y =>
   obtain ⟨us,u,rfl,h1,h2⟩:=Ih y
   exact ⟨_::us,u,rfl,.cons x h1,h2⟩
theorem Ez {α:Type} {l:List α} (h:l ≠ []):∃ a z,l=a++[z]:=⟨l.dropLast,l.getLast h,(List.dropLast_concat_getLast h).symm⟩
theorem Ng {rk:List (Str × Nat × Int)}:∀ {rs:List R},(∃ r∈rs,Eh r.w=true)->linesOf rk rs ≠ []:=by
 have key:∀ (n:Nat) (rs:List R),rs.length=n->(∃ r∈rs,Eh r.w=true)->linesOf rk rs ≠ []:=by
  intro n
  induction n with
  | zero =>
   rintro rs hl ⟨r,hr,_⟩
   cases rs with
   | nil=>cases hr
   | cons a b=>cases hl
  | succ n ih =>
   rintro rs hl ⟨r,hr,hk⟩
   obtain ⟨a,z,rfl⟩:=Ez (l:=rs) (by intro e; rw [e] at hl; cases hl)
   rw [Cd]
   rw [List.length_append,List.length_singleton] at hl
   unfold Df
   by_cases hz:Eh z.w=true
   ·rw [if_pos hz]
    simp
   ·rw [if_neg hz]
    have hr':r∈a:=by
     rcases List.mem_append.mp hr with h | h
     ·exact h
     ·rw [List.mem_singleton.mp h] at hk
      exact absurd hk hz
    have ih':=ih a (by omega) ⟨r,hr',hk⟩
    split
    ·obtain ⟨b,y,e⟩:=Ez ih'
     rw [e,Gu]
     simp
    ·exact ih'
 exact fun {rs} h=>key rs.length rs rfl h
noncomputable def bY:Sp:=fun vs H Q _=>∃ (p d:Addr) (us:List V) (ρ:V->R) (rk:List (Str × Nat × Int)) (kvs:List (Key × V)),vs=[.ref p,.ref d]/\H p=some (.lst us)/\Rows H ρ us/\us.length<=500/\H d=some (.dK kvs)/\(∀ (i:Nat) r,rk[i]? = some r->CT kvs (Sum.inr r.1)=some (.int (i:Nat)))/\(rk.map (·.1)).Nodup /\
 (∀ (i:Nat) v,us[i]? = some v->(ρ v).w = "line"->(∃ (j:Nat) (r:Str × Nat × Int) (sh lo hi:Int),rk[j]? = some r/\r.1=(ρ v).nm/\(ρ v).rest=[.int sh,.int lo,.int hi])/\∃ u∈us.take i,Eh (ρ u).w=true)/\∀ D H',H D=none->Ak H H'->Ds p H' D (linesOf rk (us.map ρ))->Q (.ref D) H'
theorem XJ {rk:List (Str × Nat × Int)} {j:Nat} {r:Str × Nat × Int} (nd:(rk.map (·.1)).Nodup) (h:rk[j]? = some r):(rk.map (·.1)).idxOf r.1=j:=by
 have hj:j<(rk.map (·.1)).length:=by rw [List.length_map]; exact (List.getElem?_eq_some_iff.mp h).1
 have e:(rk.map (·.1))[j]=r.1:=by
  rw [List.getElem_map]
  exact congrArg (·.1) (List.getElem?_eq_some_iff.mp h).2
 rw [← e]
 exact List.Nodup.idxOf_getElem nd j hj
theorem XF:Aq ["rows","rank_numbers","lines","row"] ["rows","rank_numbers"] (Af gO):=Bp
include N T in
theorem cH:Ar P w K mg base Bh 1 fLi dLi ["rows","rank_numbers"] bY:=by
 refine N.FLi.1.ok XF (fun vs H Q E h=>?_) (fun cdv A outer s H vs Q E hr h=>?_)
 ·obtain ⟨p,d,us,ρ,rk,kvs,rfl,_⟩:=h
  rfl
 ·obtain ⟨p,d,us,ρ,rk,kvs,rfl,hp,hR,hl,hdk,hval,hnd,hln,q⟩:=h
  have hu:=CV hr
  refine ⟨_,(Ad (Cr (i:=2) XF.nd rfl (Or.inl rfl) (Cv Aa))
   (Ad (Dz PassesOwn.never rfl (Br (pv 0)) (B_ (i:=3) XF.nd rfl (Or.inl rfl)) (Ad (Bg (BK (Hf (K:=K) rfl) (Ay (Ax (K:=K) rfl) (pv 3) Ac (fun _ _=>rfl)) (Bs (v:=.ref aK) rfl T.mK rfl) rfl) (Ai (CG (Ec PySem.F.plainAttrs_list PySem.F.slot_list_append PySem.F.type_list_append Bl (pv 2) (Ab (Cv Aa) Aa)))) BZ)
   (Ai (Bg (BK Bu (Ay (Ax (K:=K) rfl) (pv 3) Ac (fun _ _=>rfl)) BL (BV _)) (Ai (CG (Ec PySem.F.plainAttrs_list PySem.F.slot_list_append PySem.F.type_list_append Bl (Ay (CZ (K:=K) rfl) (pv 2) (Mx Ol Ac) (fun _ _=>rfl)) (Ab (Bq (Ab (Ja hu (pv 1) (Ay (Ax (K:=K) rfl) (pv 3) Ac (fun _ _=>rfl)) (fun _ _=>rfl)) (Ab (Ay (Ax (K:=K) rfl) (pv 3) Ac (fun _ _=>rfl)) (Ab (Ay (Ax (K:=K) rfl) (pv 3) Ac (fun _ _=>rfl)) (Ab (Ay (Ax (K:=K) rfl) (pv 3) Ac (fun _ _=>rfl)) Aa))))) Aa)))) BZ))))
   (Ai (Aw (pv 2))))),?_⟩
  refine ⟨Be (by simp),fun D hD=>?_⟩
  have s0:=Av (o:=HO.lst []) hD
  have hS:Cw K H p us:=.inl (.inl hp)
  refine ⟨_,rfl,p,rfl,⟨_,s0.seq hS⟩,Gb (K:=K) (a:=p) (xs:=us) (fun i σ H4=>Ak H H4/\∃ lv,H4 D=some (.lst lv)/\Paired (fun l v=>Ga H4 l v) (linesOf rk ((us.take i).map ρ)) lv/\lv.Nodup/\(∀ v∈lv,v ≠ .ref D)/\(∀ v∈lv,∃ A,v=.ref A/\H A=none)/\lv.length<=i/\(∀ l∈linesOf rk ((us.take i).map ρ),l.length<=i)/\∃ v3,σ=[some (.ref p),some (.ref d),some (.ref D),v3])
   ⟨s0,[],Ag,.nil,List.nodup_nil,(fun v hv=>nomatch hv),(fun v hv=>nomatch hv),Nat.le_refl _,(fun l hl=>nomatch hl),_,rfl⟩ (fun i σ H4 _ h=>h.1.seq hS) ?_ ?_⟩
  ·rintro i x σ H4 hx ⟨s4,lv,hd,hpr,nd,hne,hA0,hlv,hll,v3,rfl⟩
   have hm:=List.mem_of_getElem? hx
   have hi:i<us.length:=(List.getElem?_eq_some_iff.mp hx).1
   obtain ⟨r,rfl,hr0⟩:=(hR.mono s4) x hm
   have etake:(us.take (i+1)).map ρ=(us.take i).map ρ++[ρ (.ref r)]:=by
    rw [List.take_add_one,hx,List.map_append]
    rfl
   have est:linesOf rk ((us.take (i+1)).map ρ)=Df rk (linesOf rk ((us.take i).map ρ)) (ρ (.ref r)):=by rw [etake,Cd]
   have lvl:(linesOf rk ((us.take i).map ρ)).length=lv.length:=hpr.length
   by_cases hk:Eh (ρ (.ref r)).w=true
   ·have hnl:¬ (ρ (.ref r)).w = "line":=fun z=>by rw [z] at hk; exact absurd hk (by decide +kernel)
    have est2:linesOf rk ((us.take (i+1)).map ρ)=linesOf rk ((us.take i).map ρ)++[[]]:=by rw [est]; unfold Df; rw [if_pos hk]
    refine ⟨_,rfl,r,_,_,_,rfl,rfl,.inl (.inl hr0),Aj (j:=0) rfl,aK,_,rfl,.inr (T.tK.sq _),rfl,rfl,_,rfl,?_⟩
    refine Ci (fun _=>?_) (fun z=>absurd hk z)
    refine ⟨_,rfl,.inl ⟨rfl,_,.inl (.inl hd)⟩,Be (by simp),fun p5 hp5=>?_⟩
    obtain ⟨H5,eqH,s5,u5⟩:=DW (o:=HO.lst []) hp5
    rw [eqH]
    have hd5:=s5 _ _ hd
    refine ⟨D,lv,_,rfl,rfl,hd5,A_ (by omega),?_⟩
    have hrD:r ≠ D:=Wx (s5 _ _ hr0) hd5 (by intro z; cases z)
    have hpD:p5 ≠ D:=fun z=>by rw [z,hd] at hp5; cases hp5
    refine ⟨_,rfl,r,_,_,_,rfl,rfl,.inl (.inl (by rw [Al hrD]; exact s5 _ _ hr0)),Aj (j:=0) rfl,rfl,_,rfl,?_⟩
    refine Ci (fun z=>absurd (V.str.inj (of_decide_eq_true z)) hnl) (fun _=>?_)
    refine ⟨fun b u e=>?_,lv++[.ref p5],Ag,?_,?_,?_,?_,by simp; omega,?_,_,rfl⟩
    ·rw [Al (Ah e hD)]
     exact s5 _ _ (s4 _ _ e)
    ·rw [est2]
     refine Er (E_ hpr fun l v hv h=>Jr (h.mono s5) hd5 (hne v hv)) (.cons ⟨p5,[],rfl,by rw [Al hpD]; exact u5,.nil⟩ .nil)
    ·refine QM nd fun hm=>?_
     obtain ⟨l,_,hA⟩:=Cg hpr hm
     obtain ⟨A,ts,e,h1,_⟩:=hA
     cases e
     rw [h1] at hp5
     cases hp5
    ·intro v hv
     rcases List.mem_append.mp hv with h | h
     ·exact hne v h
     ·rw [List.mem_singleton.mp h]
      intro z
      exact hpD (V.ref.inj z)
    ·intro v hv
     rcases List.mem_append.mp hv with h | h
     ·exact hA0 v h
     ·exact ⟨p5,List.mem_singleton.mp h,s4.free hp5⟩
    ·intro l hl'
     rw [est2] at hl'
     rcases List.mem_append.mp hl' with h | h
     ·exact Nat.le_succ_of_le (hll l h)
     ·rw [List.mem_singleton.mp h]
      exact Nat.zero_le _
   ·refine ⟨_,rfl,r,_,_,_,rfl,rfl,.inl (.inl hr0),Aj (j:=0) rfl,aK,_,rfl,.inr (T.tK.sq _),rfl,rfl,_,rfl,?_⟩
    refine Ci (fun z=>absurd z hk) (fun _=>?_)
    refine ⟨_,rfl,r,_,_,_,rfl,rfl,.inl (.inl hr0),Aj (j:=0) rfl,rfl,_,rfl,?_⟩
    by_cases hwl:(ρ (.ref r)).w = "line"
    ·refine Ci (fun _=>?_) (fun z=>absurd (decide_eq_true (congrArg V.str hwl)) z)
     obtain ⟨⟨j,rr,sh,lo,hi',hj,hnm,hrest⟩,u,hu,hku⟩:=hln i _ hx hwl
     have hne0:linesOf rk ((us.take i).map ρ) ≠ []:=Ng ⟨ρ u,List.mem_map_of_mem hu,hku⟩
     obtain ⟨ac,z,eac⟩:=Ez hne0
     rw [eac] at hpr
     obtain ⟨lv',v,rfl,hpr',hz⟩:=Ih hpr
     obtain ⟨A,ts,rfl,hA,htp⟩:=hz
     have est2:linesOf rk ((us.take (i+1)).map ρ)=ac++[z++[⟨j,sh,lo,hi'⟩]]:=by
      rw [est]
      unfold Df
      rw [if_neg hk,if_pos hwl,eac,Gu]
      unfold lnOf
      rw [hrest,← hnm,XJ hnd hj]
     have hr1:H4 r=some (.tup [.str (ρ (.ref r)).w,.str (ρ (.ref r)).nm,.int sh,.int lo,.int hi']):=by rw [hr0,← hrest]
     have g:=HQ.k (k:=Sum.inr rr.1) (s4 _ _ hdk)
     rw [hval j rr hj,hnm] at g
     have hAD:A ≠ D:=fun e=>hne (.ref A) (by simp) (by rw [e])
     have hzl:z.length<=i:=hll z (by rw [eac]; simp)
     have htl:=htp.length
     refine ⟨_,rfl,_,rfl,D,_,_,_,rfl,rfl,.inl (.inl hd),VV lv' (V.ref A),.inl ⟨rfl,_,.inl (.inl hA)⟩,_,rfl,_,rfl,r,_,_,_,rfl,rfl,.inl (.inl hr1),Aj (j:=1) rfl,d,_,rfl,g,_,rfl,r,_,_,_,rfl,rfl,.inl (.inl hr1),Aj (j:=2) rfl,_,rfl,r,_,_,_,rfl,rfl,.inl (.inl hr1),Aj (j:=3) rfl,_,rfl,r,_,_,_,rfl,rfl,.inl (.inl hr1),Aj (j:=4) rfl,by show 4<=sizeLine; decide,fun T5 hT5=>?_⟩
     obtain ⟨H5,eqH,s5,u5⟩:=DW (o:=HO.tup [.int (j:Nat),.int sh,.int lo,.int hi']) hT5
     rw [eqH]
     have hA5:=s5 _ _ hA
     have hTA:T5 ≠ A:=fun e=>by rw [e,hA] at hT5; cases hT5
     have hdj:D ≠ A:=fun e=>hAD e.symm
     obtain ⟨nd1,_,hdisj⟩:=List.nodup_append.mp nd
     refine ⟨A,ts,_,rfl,rfl,hA5,A_ (by omega),?_⟩
     refine ⟨fun b u e=>?_,lv'++[.ref A],by rw [Al hdj]; exact s5 _ _ hd,?_,nd,hne,hA0,by omega,?_,_,rfl⟩
     ·obtain ⟨A',eA,hA'⟩:=hA0 (.ref A) (by simp)
      cases eA
      rw [Al (Ah e hA')]
      exact s5 _ _ (s4 _ _ e)
     ·rw [est2]
      refine Er (E_ hpr' fun l v hv h=>Jr (h.mono s5) hA5 (fun e=>hdisj v hv _ (List.mem_singleton.mpr rfl) e)) (.cons ⟨A,ts++[.ref T5],rfl,Ag,Er (Dn (Ao s5 htp) hA5) (.cons ⟨T5,rfl,by rw [Al hTA]; exact u5⟩ .nil)⟩ .nil)
     ·intro l hl'
      rw [est2] at hl'
      rcases List.mem_append.mp hl' with h | h
      ·exact Nat.le_succ_of_le (hll l (by rw [eac]; exact List.mem_append_left _ h))
      ·rw [List.mem_singleton.mp h,List.length_append,List.length_singleton]
       omega
    ·refine Ci (fun z=>absurd (V.str.inj (of_decide_eq_true z)) hwl) (fun _=>?_)
     have est2:linesOf rk ((us.take (i+1)).map ρ)=linesOf rk ((us.take i).map ρ):=by rw [est]; unfold Df; rw [if_neg hk,if_neg hwl]
     rw [← est2] at hpr hll
     exact ⟨s4,lv,hd,hpr,nd,hne,hA0,by omega,fun l hl'=>Nat.le_succ_of_le (hll l hl'),_,rfl⟩
  ·rintro σ H4 ⟨s4,lv,hd,hpr,nd,hne,hA0,hlv,hll,v3,rfl⟩
   rw [List.take_length] at hpr
   have hDp:D ≠ p:=Ne.symm (Ah hp hD)
   refine ⟨_,rfl,q D H4 hD s4 ⟨lv,hd,hDp,E_ hpr fun l v hv h=>⟨h,fun z=>?_⟩⟩⟩
   obtain ⟨A,e,hA⟩:=hA0 v hv
   rw [e] at z
   rw [V.ref.inj z,hp] at hA
   cases hA
noncomputable abbrev nV (l:List Nat):List V:=l.map fun n:Nat=>V.int (n:Int)
noncomputable def dJ:Sp:=fun vs H Q _=>∃ i:Int,vs=[.int i]/\Q (.bl (decide (0<=i) && decide (i<1200))) H
theorem iI:Aq ["thing"] ["thing"] (Af jP):=Bp
include N T in
theorem cJ:Ar P w K mg base Bh 2 fMy dMy ["thing"] dJ:=by
 have GWh:Ar P w K mg base Bh 1 fWh dWh ["thing"] U7:=Wk N T
 refine N.FMy.1.ok iI (fun vs H Q E h=>?_) (fun cdv A outer s H vs Q E hr h=>?_)
 ·obtain ⟨i,rfl,_⟩:=h
  rfl
 ·obtain ⟨i,rfl,q⟩:=h
  have hrWh:BW 1 _:=hr.mono (by decide)
  obtain ⟨tMB,hMB⟩:=T.below
  refine ⟨_,(Ai (Aw (Dh (Am GWh hrWh rfl N.FWh.2.2 N.FWh.1.kp N.FWh.2.1 .nil Az (Ab (pv 0) Aa)) (Dd (Gq Fj JN Ac (pv 0) (Bs (v:=.int 1200) rfl hMB ⟨tMB,rfl⟩)))))),?_⟩
  refine ⟨_,rfl,i,rfl,_,rfl,Cj ?_⟩
  refine ⟨_,rfl,_,_,rfl,rfl,_,rfl,?_⟩
  refine Ci (fun h1=>?_) (fun h1=>?_)
  ·rw [h1,Bool.true_and] at q
   exact ⟨_,_,rfl,rfl,q⟩
  ·rw [(Bool.not_eq_true _).mp h1,Bool.false_and] at q
   exact q
noncomputable def S9:Sp:=fun vs H Q _=>∃ (p:Addr) (l:List Nat),vs=[.ref p]/\H p=some (.lst (nV l))/\l.length<=500/\(∀ n∈l,n<1200)/\∀ H',Ak H H'->Q (.int (Wd.mk l:Nat)) H'
theorem aY (l:List Nat) (n:Nat):Builtin.bitOr ((Wd.mk l:Nat):Int) (1 * 2 ^ ((n:Nat):Int).toNat)=((Wd.mk (l++[n]):Nat):Int):=by
 rw [Int.one_mul,Int.toNat_natCast,Ss,Ik,Wd.Pr]
theorem VM:Aq ["numbers","some","number"] ["numbers"] (Af fG):=Bp
include N T in
theorem Um:Ar P w K mg base Bh 3 fSt dSt ["numbers"] S9:=by
 have GMy:Ar P w K mg base Bh 2 fMy dMy ["thing"] dJ:=cJ N T
 refine N.FSt.1.ok VM (fun vs H Q E h=>?_) (fun cdv A outer s H vs Q E hr h=>?_)
 ·obtain ⟨p,l,rfl,_⟩:=h
  rfl
 ·obtain ⟨p,l,rfl,hp,hz,hb,q⟩:=h
  have hrMy:BW 2 _:=hr.mono (by decide)
  refine ⟨_,(Ad (Bg (PW.pt (Ib (Dy (Dj (BJ DP rfl T.isin PyProof.Rows.boot_isinstance (Ab (pv 0) (Ab (Eb (v:=.ty "list") rfl T.list PyProof.Rows.boot_list rfl) Aa))))) (GX (Dy (Dj (BJ (Gg rfl) rfl T.all PyProof.Rows.boot_all (Ab (Bk rfl (Ba (osc:=Af fG) (N:=["numbers","some","number"]) rfl rfl (by decide +kernel)) (Br (pv 0)) (fun _ _ _ _=>Cq) (fun _ _ _ _=>(Am GMy hrMy rfl N.FMy.2.2 N.FMy.1.kp N.FMy.2.1 .nil Az (Ab (pv 0) Aa)))) Aa))))))) (Ai Hv) BZ)
   (Ad (Cr (i:=1) VM.nd rfl (Or.inl rfl) Ac)
   (Ad (Dz PassesOwn.never rfl (Br (pv 0)) (B_ (i:=2) VM.nd rfl (Or.inl rfl)) (Ai (Cr (i:=1) VM.nd rfl (Or.inl rfl) (BR MF (pv 1) (BR Ri Ac (pv 2))))))
   (Ai (Aw (pv 1)))))),?_⟩
  have hS:Cw K H p (nV l):=.inl (.inl hp)
  refine ⟨_,rfl,_,"list",_,_,rfl,.lst hp,Wq,_,rfl,Bo ?_⟩
  have hzl:(nV l).length<sizeLine:=A_ (by simp; omega)
  refine ⟨_,rfl,p,rfl,⟨_,hS⟩,Cu (K:=K) (xs:=nV l) (fun _=>true) (fun _=>.bl true) hS hzl (fun x hx H' hs R k=>k H' (Ak.refl H')) (fun x hx _ H' hs R k=>?_) (fun D H' hD hs hl=>?_)⟩
  ·obtain ⟨n,hn,rfl⟩:=List.mem_map.mp hx
   refine ⟨_,rfl,(n:Int),rfl,?_⟩
   have e:(decide ((0:Int)<=(n:Int)) && decide ((n:Int)<1200))=true:=by
    have:=hb n hn
    simp
    omega
   rw [e]
   exact k H' (Ak.refl H')
  ·refine ⟨D,(nV l).map fun _=>true,rfl,.inl (.inl ?_),?_⟩
   ·rw [hl,List.filter_eq_self.mpr (fun _ _=>rfl)]
    simp
   ·have e:((nV l).map fun _=>true).all id=true:=by simp
    rw [e]
    refine ⟨_,rfl,Bo ?_⟩
    refine ⟨_,rfl,p,rfl,⟨_,hs.seq hS⟩,Gb (K:=K) (a:=p) (xs:=nV l) (fun i σ H4=>H4=H'/\∃ v2,σ=[some (.ref p),some (.int (Wd.mk (l.take i):Nat)),v2]) ⟨rfl,_,rfl⟩ (fun i σ H4 _ h=>by rw [h.1]; exact hs.seq hS) ?_ ?_⟩
    ·rintro i y σ H4 hi ⟨rfl,v2,rfl⟩
     rw [List.getElem?_map] at hi
     obtain ⟨n,hn,rfl⟩:=Option.map_eq_some_iff.mp hi
     have hn':=hb n (List.mem_of_getElem? hn)
     refine ⟨_,rfl,_,rfl,_,_,rfl,rfl,⟨by omega,by omega,by decide⟩,_,_,rfl,rfl,?_⟩
     refine ⟨rfl,some (.int (n:Int)),?_⟩
     dsimp only
     rw [aY,List.take_add_one,hn]
     rfl
    ·rintro σ H4 ⟨rfl,v2,rfl⟩
     have el:l.take (nV l).length=l:=List.take_of_length_le (by simp)
     rw [el]
     exact ⟨_,rfl,q _ hs⟩
noncomputable def mJ (nms:List Str):V->V
 | .str t=>.int (nms.idxOf t:Nat)
 | _=>.non
theorem Qw {nms:List Str} {t:Str} (h:t∈nms):nms[nms.idxOf t]? = some t:=by
 rw [List.getElem?_eq_getElem (List.idxOf_lt_length_of_mem h),List.getElem_idxOf]
noncomputable def Zo:Sp:=fun vs H Q _=>∃ (r kd:Addr) (ro:R) (kvs:List (Key × V)) (nms ts:List Str),vs=[.ref r,.ref kd]/\H r=some (.tup ro.v)/\H kd=some (.dK kvs)/\V.str ro.nm::ro.rest=ts.map V.str/\ts.length<=24/\nms.length<=300/\(∀ (i:Nat) t,nms[i]? = some t->CT kvs (Sum.inr t)=some (.int (i:Nat)))/\(∀ t∈ts,t∈nms)/\∀ H',Ak H H'->Q (.int (Wd.mk (ts.map fun t=>nms.idxOf t):Nat)) H'
theorem gq:Aq ["row","knob_numbers"] ["row","knob_numbers"] (Af fj):=Bp
include N T in
theorem du:Ar P w K mg base Bh 4 fSs dSs ["row","knob_numbers"] Zo:=by
 have GSt:Ar P w K mg base Bh 3 fSt dSt ["numbers"] S9:=Um N T
 refine N.FSs.1.ok gq (fun vs H Q E h=>?_) (fun cdv A outer s H vs Q E hr h=>?_)
 ·obtain ⟨r,kd,ro,kvs,nms,ts,rfl,_⟩:=h
  rfl
 ·obtain ⟨r,kd,ro,kvs,nms,ts,rfl,hr0,hkd,ets,h24,hnm,hval,hin,q⟩:=h
  have hrSt:BW 3 _:=hr.mono (by decide)
  have hu:=CV hr
  refine ⟨_,(Ai (Aw (Am GSt hrSt rfl N.FSt.2.2 N.FSt.1.kp N.FSt.2.1 .nil Az (Ab (Bk rfl (Ba (osc:=Af fj) (N:=["row","knob_numbers"]) rfl rfl (by decide +kernel)) (K5 (Cp LQ (pv 0) (DR Ac) Dk)) (fun _ _ _ _=>Cq) (fun _ _ _ _=>(Ja hu (pv 2) (pv 0) (fun _ _=>rfl)))) Aa)))),?_⟩
  have hv:ro.v=V.str ro.w::ts.map V.str:=by
   show V.str ro.w::(V.str ro.nm::ro.rest)=_
   rw [ets]
  rw [hv] at hr0
  have e1:HT.DY (V.str ro.w::ts.map V.str).length 0 (some 1)=1:=by
   rw [show (some (1:Int))=some ((1:Nat):Int) from rfl,HT.Dv]
   simp
  have hcut:Dm (V.str ro.w::ts.map V.str) (some 1) none=ts.map V.str:=by
   unfold Dm
   rw [e1,HT.Hw]
   simp
   exact List.take_of_length_le (by rw [List.length_map]; exact Nat.le_refl _)
  refine ⟨_,rfl,_,rfl,r,_,rfl,.inl (.inl hr0),?_,fun n0 hn0=>?_⟩
  ·rintro ⟨z,_⟩
   rw [e1] at z
   cases z
  rw [hcut]
  obtain ⟨H1,eqH,s1,a1⟩:=DW (o:=HO.tup (ts.map V.str)) hn0
  rw [eqH]
  have hT:Ft K H1 n0 (ts.map V.str):=.inl (.inl a1)
  have ltm:(ts.map V.str).length=ts.length:=List.length_map ..
  refine ⟨n0,rfl,⟨_,hT⟩,J3 (K:=K) (xs:=ts.map V.str) (fun _=>true) (mJ nms) hT (A_ (by omega)) (fun x hx H' hs R k=>k H' (Ak.refl H')) (fun x hx _ H' hs R k=>?_) (fun D H2 hD s2 hl2=>?_)⟩
  ·obtain ⟨t,ht,rfl⟩:=List.mem_map.mp hx
   have g:=HQ.k (k:=Sum.inr t) (hs _ _ (s1 _ _ hkd))
   rw [hval _ t (Qw (hin t ht))] at g
   exact ⟨_,rfl,_,rfl,kd,_,rfl,g,k H' (Ak.refl H')⟩
  ·rw [List.filter_eq_self.mpr (fun _ _=>rfl),List.map_map] at hl2
   have e2:ts.map (mJ nms ∘ V.str)=nV (ts.map fun t=>nms.idxOf t):=by
    unfold nV
    rw [List.map_map]
    rfl
   rw [e2] at hl2
   refine ⟨D,_,rfl,hl2,by rw [List.length_map]; omega,fun n hn=>?_,fun H3 s3=>q H3 (s1.trans (s2.trans s3))⟩
   obtain ⟨t,ht,rfl⟩:=List.mem_map.mp hn
   have:=List.idxOf_lt_length_of_mem (hin t ht)
   omega
noncomputable abbrev WF:List Str:=["row_list","board_list","rank_list","knob_rows","board_numbers","rank_numbers","knob_numbers","key_places","pipe_places","knob_lines","step_sets"]
theorem Du:∀ m∈meths,∀ f∈WF,¬ m=f:=by decide +kernel
theorem Q8 {rk:List (Str × Nat × Int)} {ρ:V->R} {us:List V} {P1:Nat->V->Prop} (h:∀ (i:Nat) v,us[i]? = some v->(ρ v).w = "line"->P1 i v/\∃ u∈us.take i,Eh (ρ u).w=true):(linesOf rk (us.map ρ)).length=(us.filter (fun v=>Eh (ρ v).w)).length:=by
 have key:∀ n,n<=us.length->(linesOf rk ((us.take n).map ρ)).length=((us.take n).filter (fun v=>Eh (ρ v).w)).length:=by
  intro n
  induction n with
  | zero=>intro _; rfl
  | succ n ih =>
   intro hn
   have hx:=List.getElem?_eq_getElem (l:=us) (i:=n) (by omega)
   rw [List.take_add_one,hx,List.map_append]
   show (linesOf rk ((us.take n).map ρ++[ρ us[n]])).length=((us.take n++[us[n]]).filter _).length
   rw [Cd,List.filter_append,List.length_append,← ih (by omega)]
   unfold Df
   by_cases hk:Eh (ρ us[n]).w=true
   ·rw [if_pos hk,List.filter_cons,if_pos hk]
    simp
   ·rw [if_neg hk,List.filter_cons,if_neg hk]
    by_cases hl:(ρ us[n]).w = "line"
    ·rw [if_pos hl]
     obtain ⟨_,u,hu,hku⟩:=h n _ hx hl
     obtain ⟨a,z,e⟩:=Ez (Ng (rk:=rk) ⟨ρ u,List.mem_map_of_mem hu,hku⟩)
     rw [e,Gu]
     simp
    ·rw [if_neg hl]
     simp
 have:=key us.length (Nat.le_refl _)
 rw [List.take_length] at this
 exact this
noncomputable def dH (K:PySem.W.Frag) (aB aP aM C:Addr):Sp:=fun vs H Q _=>∃ (x dx p:Addr) (us:List V) (ρ:V->R) (bs:List (Str × Nat)) (rk:List (Str × Nat × Int)) (ks:List R),vs=[.ref x,.ref p]/\H x=some (.ins C dx [])/\H p=some (.lst us)/\Rows H ρ us/\gR K aB aP aM ρ us bs rk ks/\∀ H',Iz C H' x us bs rk ks (linesOf rk (us.map ρ)) ((us.filter (pw ρ "step")).map fun v=>stN ks (ρ v))->(∀ H'',SX p H' H''->Iz C H'' x us bs rk ks (linesOf rk (us.map ρ)) ((us.filter (pw ρ "step")).map fun v=>stN ks (ρ v)))->SX x H H'->Q .non H'
theorem ji:Aq ["self","rows"] ["self","rows"] (Af Uz):=Bp
include N T in
theorem d7:Ar P w K mg base Bh 9 fOi dOi ["self","rows"] (dH K aB aP aM C):=by
 have GCk:Ar P w K mg base Bh 8 fCk dCk ["rows"] (aQ K aB aP aM):=Ze N T
 have GRo:Ar P w K mg base Bh 1 fRo dRo ["rows","word"] Qd:=NZ N T
 have GNu:Ar P w K mg base Bh 1 fNu dNu ["names"] Y_:=Z_ N T
 have GPl:Ar P w K mg base Bh 1 fPl dPl ["things"] dO:=bc N T
 have GLi:Ar P w K mg base Bh 1 fLi dLi ["rows","rank_numbers"] bY:=cH N T
 have GSs:Ar P w K mg base Bh 4 fSs dSs ["row","knob_numbers"] Zo:=du N T
 refine N.FOi.1.ok ji (fun vs H Q E h=>?_) (fun cdv A outer s H vs Q E hr h=>?_)
 ·obtain ⟨x,dx,p,us,ρ,bs,rk,ks,rfl,_⟩:=h
  rfl
 ·obtain ⟨x,dx,p,us,ρ,bs,rk,ks,rfl,hx,hp,hR,O,q⟩:=h
  have hrCk:BW 8 _:=hr.mono (by decide)
  have hrRo:BW 1 _:=hr.mono (by decide)
  have hrNu:BW 1 _:=hr.mono (by decide)
  have hrPl:BW 1 _:=hr.mono (by decide)
  have hrLi:BW 1 _:=hr.mono (by decide)
  have hrSs:BW 4 _:=hr.mono (by decide)
  refine ⟨_,(Ad (CG (Am GCk hrCk rfl N.FCk.2.2 N.FCk.1.kp N.FCk.2.1 .nil Az (Ab (pv 1) Aa)))
   (Ad (Cm (pv 0) (HF Hm rfl T.list PyProof.Rows.boot_list (Ab (pv 1) Aa)) rfl)
   (Ad (Cm (pv 0) (Bk rfl (Ba (osc:=Af Uz) (N:=["self","rows"]) rfl rfl (by decide +kernel)) (Br (Am GRo hrRo rfl N.FRo.2.2 N.FRo.1.kp N.FRo.2.1 .nil Az (Ab (pv 1) (Ab BL Aa)))) (fun _ _ _ _=>Cq) (fun _ _ _ _=>(Bq (Ab (Ay (Ax (K:=K) rfl) (pv 0) Ac (fun _ _=>rfl)) (Ab (Ay (Ax (K:=K) rfl) (pv 0) Ac (fun _ _=>rfl)) Aa))))) rfl)
   (Ad (Cm (pv 0) (Bk rfl (Ba (osc:=Af Uz) (N:=["self","rows"]) rfl rfl (by decide +kernel)) (Br (Am GRo hrRo rfl N.FRo.2.2 N.FRo.1.kp N.FRo.2.1 .nil Az (Ab (pv 1) (Ab BL Aa)))) (fun _ _ _ _=>Cq) (fun _ _ _ _=>(Bq (Ab (Ay (Ax (K:=K) rfl) (pv 0) Ac (fun _ _=>rfl)) (Ab (Ay (Ax (K:=K) rfl) (pv 0) Ac (fun _ _=>rfl)) (Ab (Ay (Ax (K:=K) rfl) (pv 0) Ac (fun _ _=>rfl)) Aa)))))) rfl)
   (Ad (Cm (pv 0) (Bk rfl (Ba (osc:=Af Uz) (N:=["self","rows"]) rfl rfl (by decide +kernel)) (Br (pv 1)) (fun _ _ _ _=>(Hk (BK (Hf (K:=K) rfl) (Ay (Ax (K:=K) rfl) (pv 0) Ac (fun _ _=>rfl)) (Bs (v:=.ref aK) rfl T.mK rfl) rfl))) (fun _ _ _ _=>(pv 0))) rfl)
   (Ad (Cm (pv 0) (Am GNu hrNu rfl N.FNu.2.2 N.FNu.1.kp N.FNu.2.1 .nil Az (Ab (Bk rfl (Ba (osc:=Af Uz) (N:=["self","rows"]) rfl rfl (by decide +kernel)) (Br (Bf (pv 0) rfl)) (fun _ _ _ _=>Cq) (fun _ _ _ _=>(Ay (Ax (K:=K) rfl) (pv 0) Ac (fun _ _=>rfl)))) Aa)) rfl)
   (Ad (Cm (pv 0) (Am GNu hrNu rfl N.FNu.2.2 N.FNu.1.kp N.FNu.2.1 .nil Az (Ab (Bk rfl (Ba (osc:=Af Uz) (N:=["self","rows"]) rfl rfl (by decide +kernel)) (Br (Bf (pv 0) rfl)) (fun _ _ _ _=>Cq) (fun _ _ _ _=>(Ay (Ax (K:=K) rfl) (pv 0) Ac (fun _ _=>rfl)))) Aa)) rfl)
   (Ad (Cm (pv 0) (Am GNu hrNu rfl N.FNu.2.2 N.FNu.1.kp N.FNu.2.1 .nil Az (Ab (Bk rfl (Ba (osc:=Af Uz) (N:=["self","rows"]) rfl rfl (by decide +kernel)) (Br (Bf (pv 0) rfl)) (fun _ _ _ _=>Cq) (fun _ _ _ _=>(Ay (Ax (K:=K) rfl) (pv 0) Ac (fun _ _=>rfl)))) Aa)) rfl)
   (Ad (Cm (pv 0) (Am GPl hrPl rfl N.FPl.2.2 N.FPl.1.kp N.FPl.2.1 .nil Az (Ab (Bf (pv 0) rfl) Aa)) rfl)
   (Ad (Cm (pv 0) (Am GPl hrPl rfl N.FPl.2.2 N.FPl.1.kp N.FPl.2.1 .nil Az (Ab (Bf (pv 0) rfl) Aa)) rfl)
   (Ad (Cm (pv 0) (Am GLi hrLi rfl N.FLi.2.2 N.FLi.1.kp N.FLi.2.1 .nil Az (Ab (pv 1) (Ab (Bf (pv 0) rfl) Aa))) rfl)
   (Ai (Cm (pv 0) (Bk rfl (Ba (osc:=Af Uz) (N:=["self","rows"]) rfl rfl (by decide +kernel)) (Br (Am GRo hrRo rfl N.FRo.2.2 N.FRo.1.kp N.FRo.2.1 .nil Az (Ab (pv 1) (Ab BL Aa)))) (fun _ _ _ _=>Cq) (fun _ _ _ _=>(Am GSs hrSs rfl N.FSs.2.2 N.FSs.1.kp N.FSs.2.1 .nil Az (Ab (pv 0) (Ab (Vo (K:=K) rfl (pv 1) rfl) Aa))))) rfl))))))))))))),?_⟩
  have hlen:=O.len
  obtain ⟨ur,hur⟩:∃ ur,us.filter (pw ρ "rank")=ur:=⟨_,rfl⟩
  have er:ur.map ρ=rk.map GQ:=by rw [← hur]; exact O.er
  have lr:ur.length=rk.length:=by have:=congrArg List.length er; simpa using this
  have inR:∀ {v},v∈ur->v∈us:=fun {v} hv=>by rw [← hur] at hv; exact (List.mem_filter.mp hv).1
  have ofR:∀ {v},v∈ur->∃ b∈rk,ρ v=GQ b:=fun {v} hv=>by
   have:ρ v∈rk.map GQ:=by rw [← er]; exact List.mem_map_of_mem hv
   obtain ⟨b,hb,e⟩:=List.mem_map.mp this
   exact ⟨b,hb,e.symm⟩
  obtain ⟨ub,hub⟩:∃ ub,us.filter (pw ρ "board")=ub:=⟨_,rfl⟩
  obtain ⟨uk,huk⟩:∃ uk,us.filter (fun v=>Eh (ρ v).w)=uk:=⟨_,rfl⟩
  have eb:ub.map ρ=bs.map Fx:=by rw [← hub]; exact O.eb
  have ek:uk.map ρ=ks:=by rw [← huk]; exact O.ek
  have lb:ub.length=bs.length:=by have:=congrArg List.length eb; simpa using this
  have lku:uk.length=ks.length:=by have:=congrArg List.length ek; simpa using this
  have inB:∀ {v},v∈ub->v∈us:=fun {v} hv=>by rw [← hub] at hv; exact (List.mem_filter.mp hv).1
  have inKn:∀ {v},v∈uk->v∈us:=fun {v} hv=>by rw [← huk] at hv; exact (List.mem_filter.mp hv).1
  have ofB:∀ {v},v∈ub->∃ b∈bs,ρ v=Fx b:=fun {v} hv=>by
   have:ρ v∈bs.map Fx:=by rw [← eb]; exact List.mem_map_of_mem hv
   obtain ⟨b,hb,e⟩:=List.mem_map.mp this
   exact ⟨b,hb,e.symm⟩
  have l1us:1<=us.length:=by
   have h1:=O.b0
   have h2:ub.length<=us.length:=by rw [← hub]; exact List.length_filter_le _ _
   omega
  refine ⟨_,rfl,p,us,ρ,rfl,hp,hR,l1us,by omega,O.ok,?_,fun H1 s1=>?_⟩
  ·rw [hub]
   cases ub with
   | nil =>
    have:=O.b0
    simp at lb
    omega
   | cons a b=>rfl
  have c1:SX x H H1:=SX.of s1
  have x1:=s1 _ _ hx
  refine ⟨_,rfl,p,_,rfl,.inl (.inl (.inl (s1 _ _ hp))),fun l1 hl1=>?_⟩
  have nl1:l1 ≠ p:=Ne.symm (Ah (s1 _ _ hp) hl1)
  obtain ⟨H2,eqH,s2,rw2⟩:=DW (o:=HO.lst us) hl1
  rw [eqH]
  refine ⟨_,rfl,x,C,dx,_,rfl,s2 _ _ x1,T.cl,T.n_row_list,(by show 0<1000; decide),?_⟩
  have c2:SX x H _:=(c1.trans (SX.of s2)).trans (SX.up (o:=HO.ins C dx (BP "row_list" (.ref l1) [])))
  have x2:upd H2 x (HO.ins C dx (BP "row_list" (.ref l1) [])) x=_:=Ag
  have rw3:=(SX.up (o:=HO.ins C dx (BP "row_list" (.ref l1) [])):SX x H2 _).lst (s2 _ _ x1) rw2
  generalize upd H2 x (HO.ins C dx (BP "row_list" (.ref l1) []))=H3 at c2 x2 rw3 ⊢
  have c0:=c2
  replace hR:Rows H3 ρ us:=fun v hv=>c2.tup hx (hR v hv)
  replace hp:=c2.lst hx hp
  clear c2
  replace hx:=x2
  have c2:SX x H3 H3:=SX.of (Ak.refl _)
  have R3:Rows H3 ρ us:=fun v hv=>c2.tup hx (hR v hv)
  refine ⟨_,rfl,p,_,"board",ρ,rfl,c2.lst hx hp,R3,by omega,fun D4 H4 hD4 s4 hl4=>?_⟩
  rw [hub] at hl4
  have hS4:Cw K H4 D4 ub:=.inl (.inl hl4)
  refine ⟨D4,rfl,⟨_,hS4⟩,Jx (K:=K) (xs:=ub) (fun _=>true) (fun v=>[.str (ρ v).nm,(ρ v).rest.getD 0 .non]) hS4 (A_ (by have:=O.b5; omega)) (fun y hy H' hs R k=>k H' (Ak.refl H')) (fun y hy _ H' hs R k=>?_) (fun D5 H5 bvs hD5 s5 hl5 hb5=>?_)⟩
  ·obtain ⟨b,_,e⟩:=ofB hy
   have hT:=(R3 y (inB hy)).mono (s4.trans hs)
   rw [e] at hT k
   obtain ⟨T0,rfl,hT⟩:=hT
   exact ⟨_,rfl,T0,_,_,_,rfl,rfl,.inl (.inl hT),Aj (j:=1) rfl,_,rfl,T0,_,_,_,rfl,rfl,.inl (.inl hT),Aj (j:=2) rfl,by show 2<=sizeLine; decide,fun T6 hT6=>k _ _ (Av hT6) ⟨T6,rfl,Ag⟩⟩
  rw [List.filter_eq_self.mpr (fun _ _=>rfl)] at hb5
  have hb5':Paired (fun b y=>TupAt H5 (bV b) y) bs bvs:=by
   have h1:=Ce (F:=fun (r:R) y=>TupAt H5 [.str r.nm,r.rest.getD 0 .non] y) ρ hb5
   rw [eb] at h1
   exact FW Fx h1
  clear hb5
  refine ⟨_,rfl,x,C,dx,_,rfl,s5 _ _ (s4 _ _ x2),T.cl,T.n_board_list,Nat.lt_of_le_of_lt (Bm _ _ _) (by show 1<1000; decide),?_⟩
  have u6:SX x H5 _:=SX.up (o:=HO.ins C dx (BP "board_list" (.ref D5) (BP "row_list" (.ref l1) [])))
  have x5:=s5 _ _ (s4 _ _ x2)
  have c6:=(c2.trans (SX.of (s4.trans s5))).trans u6
  have x6:upd H5 x (HO.ins C dx (BP "board_list" (.ref D5) (BP "row_list" (.ref l1) []))) x=_:=Ag
  have hl6:=u6.lst x5 hl5
  have hb6:=u6.pair x5 hb5'
  generalize upd H5 x (HO.ins C dx (BP "board_list" (.ref D5) (BP "row_list" (.ref l1) [])))=H6 at c6 x6 hl6 hb6 ⊢
  clear u6
  have R6:Rows H6 ρ us:=fun v hv=>c6.tup hx (hR v hv)
  refine ⟨_,rfl,p,_,"rank",ρ,rfl,c6.lst hx hp,R6,by omega,fun D7 H7 hD7 s7 hl7=>?_⟩
  rw [hur] at hl7
  have hS7:Cw K H7 D7 ur:=.inl (.inl hl7)
  refine ⟨D7,rfl,⟨_,hS7⟩,Jx (K:=K) (xs:=ur) (fun _=>true) (fun v=>[.str (ρ v).nm,(ρ v).rest.getD 0 .non,(ρ v).rest.getD 1 .non]) hS7 (A_ (by have:=O.nr; omega)) (fun y hy H' hs R k=>k H' (Ak.refl H')) (fun y hy _ H' hs R k=>?_) (fun D8 H8 rvs hD8 s8 hl8 hr8=>?_)⟩
  ·obtain ⟨b,_,e⟩:=ofR hy
   have hT:=(R6 y (inR hy)).mono (s7.trans hs)
   rw [e] at hT k
   obtain ⟨T0,rfl,hT⟩:=hT
   exact ⟨_,rfl,T0,_,_,_,rfl,rfl,.inl (.inl hT),Aj (j:=1) rfl,_,rfl,T0,_,_,_,rfl,rfl,.inl (.inl hT),Aj (j:=2) rfl,_,rfl,T0,_,_,_,rfl,rfl,.inl (.inl hT),Aj (j:=3) rfl,by show 3<=sizeLine; decide,fun T6 hT6=>k _ _ (Av hT6) ⟨T6,rfl,Ag⟩⟩
  rw [List.filter_eq_self.mpr (fun _ _=>rfl)] at hr8
  have hr8':Paired (fun (a:Th) y=>TupAt H8 (tV a) y) (rk.map Yp) rvs:=by
   have h1:=Ce (F:=fun (r:R) y=>TupAt H8 [.str r.nm,r.rest.getD 0 .non,r.rest.getD 1 .non] y) ρ hr8
   rw [er] at h1
   exact Ce (F:=fun (a:Th) y=>TupAt H8 (tV a) y) Yp (FW GQ h1)
  clear hr8
  refine ⟨_,rfl,x,C,dx,_,rfl,s8 _ _ (s7 _ _ x6),T.cl,T.n_rank_list,Nat.lt_of_le_of_lt (Nat.le_trans (Bm _ _ _) (Nat.succ_le_succ (Bm _ _ _))) (by show 2<1000; decide),?_⟩
  have s68:=s7.trans s8
  have x8:=s68 _ _ x6
  have c8:=c6.trans (SX.of s68)
  have hl8b:=s68 _ _ hl6
  have hb8:=Ao s68 hb6
  have u9:SX x H8 _:=SX.up (o:=HO.ins C dx (BP "rank_list" (.ref D8) (BP "board_list" (.ref D5) (BP "row_list" (.ref l1) []))))
  have x9:upd H8 x (HO.ins C dx (BP "rank_list" (.ref D8) (BP "board_list" (.ref D5) (BP "row_list" (.ref l1) [])))) x=_:=Ag
  have c9:=c8.trans u9
  have bl9:=u9.lst x8 hl8b
  have bp9:=u9.pair x8 hb8
  have rl9:=u9.lst x8 hl8
  have rp9:=u9.pair x8 hr8'
  generalize hf9:BP "rank_list" (.ref D8) (BP "board_list" (.ref D5) (BP "row_list" (.ref l1) []))=f9 at x9 c9 bl9 bp9 rl9 rp9 u9 ⊢
  generalize upd H8 x (HO.ins C dx f9)=H9 at x9 c9 bl9 bp9 rl9 rp9 ⊢
  have n9:f9.length<=3:=by rw [← hf9]; exact Nat.le_trans (Bm _ _ _) (Nat.succ_le_succ (Nat.le_trans (Bm _ _ _) (Nat.succ_le_succ (Bm _ _ _))))
  have lb9:f9.lookup ("board_list" : Str)=some (.ref D5):=by rw [← hf9,Ae,if_neg (by decide +kernel),Ae,if_pos rfl]
  have lw9:f9.lookup ("row_list" : Str)=some (.ref l1):=by rw [← hf9,Ae,if_neg (by decide +kernel),Ae,if_neg (by decide +kernel),Ae,if_pos rfl]
  have lr9:f9.lookup ("rank_list" : Str)=some (.ref D8):=by rw [← hf9,Ae,if_pos rfl]
  have no9:∀ m∈meths,f9.lookup m=none:=fun m hm=>by
   rw [← hf9,Ae,if_neg (Du m hm _ (by decide +kernel)),Ae,if_neg (Du m hm _ (by decide +kernel)),Ae,if_neg (Du m hm _ (by decide +kernel))]
   rfl
  clear u9 hf9
  have R9:Rows H9 ρ us:=fun v hv=>c9.tup hx (hR v hv)
  have hS9:Cw K H9 p us:=.inl (.inl (c9.lst hx hp))
  refine ⟨_,rfl,p,rfl,⟨_,hS9⟩,Cu (K:=K) (xs:=us) (fun v=>Eh (ρ v).w) id hS9 (A_ (by omega)) (fun y hy H' hs R k=>?_) (fun y hy _ H' hs R k=>⟨_,rfl,k H' (Ak.refl H')⟩) (fun D10 H10 hD10 s10 hl10=>?_)⟩
  ·obtain ⟨T0,rfl,hT⟩:=(R9.mono hs) y hy
   exact ⟨_,rfl,T0,_,_,_,rfl,rfl,.inl (.inl hT),Aj (j:=0) rfl,aK,_,rfl,.inr (T.tK.sq _),rfl,rfl,_,rfl,k H' (Ak.refl H')⟩
  rw [List.map_id,huk] at hl10
  refine ⟨_,rfl,x,C,dx,_,rfl,s10 _ _ x9,T.cl,T.n_knob_rows,by omega,?_⟩
  have x10:=s10 _ _ x9
  have u11:SX x H10 _:=SX.up (o:=HO.ins C dx (BP "knob_rows" (.ref D10) f9))
  have x11:upd H10 x (HO.ins C dx (BP "knob_rows" (.ref D10) f9)) x=_:=Ag
  have c11:=(c9.trans (SX.of s10)).trans u11
  have bl11:=u11.lst x10 (s10 _ _ bl9)
  have bp11:=u11.pair x10 (Ao s10 bp9)
  have rl11:=u11.lst x10 (s10 _ _ rl9)
  have rp11:=u11.pair x10 (Ao s10 rp9)
  have kr11:=u11.lst x10 hl10
  generalize upd H10 x (HO.ins C dx (BP "knob_rows" (.ref D10) f9))=H11 at x11 c11 bl11 bp11 rl11 rp11 kr11 ⊢
  clear u11
  have hul:=bp11.length
  have hS11:Cw K H11 D5 bvs:=.inl (.inl bl11)
  refine ⟨_,rfl,x,C,dx,_,_,rfl,x11,T.cl,T.n_board_list,(by rw [Ae,if_neg (by decide +kernel)]; exact lb9),D5,rfl,⟨_,hS11⟩,Cu (K:=K) (xs:=bvs) (fun _=>true) (Ky H11 0) hS11 (A_ (by have:=O.b5; omega)) (fun y hy H' hs R k=>k H' (Ak.refl H')) (fun y hy _ H' hs R k=>?_) (fun D12 H12 hD12 s12 hl12=>?_)⟩
  ·obtain ⟨b,_,hx'⟩:=Cg bp11 hy
   have e:=G9 hx' 0
   obtain ⟨T0,rfl,hT⟩:=hx'.mono hs
   refine ⟨_,rfl,T0,_,_,_,rfl,rfl,.inl (.inl hT),Aj (j:=0) rfl,?_⟩
   have:=k H' (Ak.refl H')
   rw [e] at this
   exact this
  rw [List.filter_eq_self.mpr (fun _ _=>rfl),Lw 0 bp11] at hl12
  have e12:(bs.map fun b=>(bV b).getD 0 V.non)=(bs.map (·.1)).map V.str:=by
   rw [List.map_map]
   rfl
  rw [e12] at hl12
  refine ⟨D12,_,rfl,hl12,by rw [List.length_map]; have:=O.b5; omega,O.nb,fun D13 kvs H13 hD13 s13 hl13 hv13 hw13=>?_⟩
  have s1113:=s12.trans s13
  have x13:=s1113 _ _ x11
  refine ⟨_,rfl,x,C,dx,_,rfl,x13,T.cl,T.n_board_numbers,Nat.lt_of_le_of_lt (Bm _ _ _) (by omega),?_⟩
  have u14:SX x H13 _:=SX.up (o:=HO.ins C dx (BP "board_numbers" (.ref D13) (BP "knob_rows" (.ref D10) f9)))
  have x14:upd H13 x (HO.ins C dx (BP "board_numbers" (.ref D13) (BP "knob_rows" (.ref D10) f9))) x=_:=Ag
  have c14:=(c11.trans (SX.of s1113)).trans u14
  have bl14:=u14.lst x13 (s1113 _ _ bl11)
  have bp14:=u14.pair x13 (Ao s1113 bp11)
  have rl14:=u14.lst x13 (s1113 _ _ rl11)
  have rp14:=u14.pair x13 (Ao s1113 rp11)
  have kr14:=u14.lst x13 (s1113 _ _ kr11)
  have bn14:=u14.dk x13 hl13
  generalize upd H13 x (HO.ins C dx (BP "board_numbers" (.ref D13) (BP "knob_rows" (.ref D10) f9)))=H14 at x14 c14 bl14 bp14 rl14 rp14 kr14 bn14 ⊢
  clear u14
  have hrl:=rp14.length
  rw [List.length_map] at hrl
  have hS14:Cw K H14 D8 rvs:=.inl (.inl rl14)
  refine ⟨_,rfl,x,C,dx,_,_,rfl,x14,T.cl,T.n_rank_list,(by rw [Ae,if_neg (by decide +kernel),Ae,if_neg (by decide +kernel)]; exact lr9),D8,rfl,⟨_,hS14⟩,Cu (K:=K) (xs:=rvs) (fun _=>true) (Ky H14 0) hS14 (A_ (by have:=O.nr; omega)) (fun y hy H' hs R k=>k H' (Ak.refl H')) (fun y hy _ H' hs R k=>?_) (fun D15 H15 hD15 s15 hl15=>?_)⟩
  ·obtain ⟨b,_,hx'⟩:=Cg rp14 hy
   have e:=G9 hx' 0
   obtain ⟨T0,rfl,hT⟩:=hx'.mono hs
   refine ⟨_,rfl,T0,_,_,_,rfl,rfl,.inl (.inl hT),Aj (j:=0) rfl,?_⟩
   have:=k H' (Ak.refl H')
   rw [e] at this
   exact this
  rw [List.filter_eq_self.mpr (fun _ _=>rfl),Lw 0 rp14] at hl15
  have e15:((rk.map Yp).map fun b=>(tV b).getD 0 V.non)=(rk.map (·.1)).map V.str:=by
   rw [List.map_map,List.map_map]
   rfl
  rw [e15] at hl15
  refine ⟨D15,_,rfl,hl15,by rw [List.length_map]; have:=O.nr; omega,O.nrr,fun D16 kvs16 H16 hD16 s16 hl16 hv16 hw16=>?_⟩
  have s1416:=s15.trans s16
  have x16:=s1416 _ _ x14
  refine ⟨_,rfl,x,C,dx,_,rfl,x16,T.cl,T.n_rank_numbers,Nat.lt_of_le_of_lt (Nat.le_trans (Bm _ _ _) (Nat.succ_le_succ (Bm _ _ _))) (by omega),?_⟩
  have u17:SX x H16 _:=SX.up (o:=HO.ins C dx (BP "rank_numbers" (.ref D16) (BP "board_numbers" (.ref D13) (BP "knob_rows" (.ref D10) f9))))
  have x17:upd H16 x (HO.ins C dx (BP "rank_numbers" (.ref D16) (BP "board_numbers" (.ref D13) (BP "knob_rows" (.ref D10) f9)))) x=_:=Ag
  have c17:=(c14.trans (SX.of s1416)).trans u17
  have bl17:=u17.lst x16 (s1416 _ _ bl14)
  have bp17:=u17.pair x16 (Ao s1416 bp14)
  have rl17:=u17.lst x16 (s1416 _ _ rl14)
  have rp17:=u17.pair x16 (Ao s1416 rp14)
  have kr17:=u17.lst x16 (s1416 _ _ kr14)
  have bn17:=u17.dk x16 (s1416 _ _ bn14)
  have rn17:=u17.dk x16 hl16
  generalize hf17:BP "rank_numbers" (.ref D16) (BP "board_numbers" (.ref D13) (BP "knob_rows" (.ref D10) f9))=f17 at x17 c17 bl17 bp17 rl17 rp17 kr17 bn17 rn17 u17 ⊢
  generalize upd H16 x (HO.ins C dx f17)=H17 at x17 c17 bl17 bp17 rl17 rp17 kr17 bn17 rn17 ⊢
  have n17:f17.length<=6:=by rw [← hf17]; exact Nat.le_trans (Bm _ _ _) (Nat.succ_le_succ (Nat.le_trans (Bm _ _ _) (Nat.succ_le_succ (Nat.le_trans (Bm _ _ _) (Nat.succ_le_succ n9)))))
  have lb17:f17.lookup ("board_list" : Str)=some (.ref D5):=by rw [← hf17,Ae,if_neg (by decide +kernel),Ae,if_neg (by decide +kernel),Ae,if_neg (by decide +kernel)]; exact lb9
  have lw17:f17.lookup ("row_list" : Str)=some (.ref l1):=by rw [← hf17,Ae,if_neg (by decide +kernel),Ae,if_neg (by decide +kernel),Ae,if_neg (by decide +kernel)]; exact lw9
  have lr17:f17.lookup ("rank_list" : Str)=some (.ref D8):=by rw [← hf17,Ae,if_neg (by decide +kernel),Ae,if_neg (by decide +kernel),Ae,if_neg (by decide +kernel)]; exact lr9
  have lrn17:f17.lookup ("rank_numbers" : Str)=some (.ref D16):=by rw [← hf17,Ae,if_pos rfl]
  have lbn17:f17.lookup ("board_numbers" : Str)=some (.ref D13):=by rw [← hf17,Ae,if_neg (by decide +kernel),Ae,if_pos rfl]
  have lkr17:f17.lookup ("knob_rows" : Str)=some (.ref D10):=by rw [← hf17,Ae,if_neg (by decide +kernel),Ae,if_neg (by decide +kernel),Ae,if_pos rfl]
  have no17:∀ m∈meths,f17.lookup m=none:=fun m hm=>by
   rw [← hf17,Ae,if_neg (Du m hm _ (by decide +kernel)),Ae,if_neg (Du m hm _ (by decide +kernel)),Ae,if_neg (Du m hm _ (by decide +kernel))]
   exact no9 m hm
  clear u17 hf17
  have hS17:Cw K H17 D10 uk:=.inl (.inl kr17)
  have R17:Rows H17 ρ us:=fun v hv=>c17.tup hx (hR v hv)
  refine ⟨_,rfl,x,C,dx,_,_,rfl,x17,T.cl,T.n_knob_rows,lkr17,D10,rfl,⟨_,hS17⟩,Cu (K:=K) (xs:=uk) (fun _=>true) (fun v=>.str (ρ v).nm) hS17 (A_ (by have:=O.nk; omega)) (fun y hy H' hs R k=>k H' (Ak.refl H')) (fun y hy _ H' hs R k=>?_) (fun D18 H18 hD18 s18 hl18=>?_)⟩
  ·obtain ⟨T0,rfl,hT⟩:=(R17.mono hs) y (inKn hy)
   exact ⟨_,rfl,T0,_,_,_,rfl,rfl,.inl (.inl hT),Aj (j:=1) rfl,k H' (Ak.refl H')⟩
  rw [List.filter_eq_self.mpr (fun _ _=>rfl)] at hl18
  have e18:(uk.map fun v=>V.str (ρ v).nm)=(ks.map (·.nm)).map V.str:=by
   rw [← ek,List.map_map,List.map_map]
   rfl
  rw [e18] at hl18
  refine ⟨D18,_,rfl,hl18,by rw [List.length_map]; have:=O.nk; omega,O.nn,fun D19 kvs19 H19 hD19 s19 hl19 hv19 hw19=>?_⟩
  have s1719:=s18.trans s19
  have x19:=s1719 _ _ x17
  refine ⟨_,rfl,x,C,dx,_,rfl,x19,T.cl,T.n_knob_numbers,by omega,?_⟩
  have u20:SX x H19 _:=SX.up (o:=HO.ins C dx (BP "knob_numbers" (.ref D19) f17))
  have x20:upd H19 x (HO.ins C dx (BP "knob_numbers" (.ref D19) f17)) x=_:=Ag
  have c20:=(c17.trans (SX.of s1719)).trans u20
  have bl20:=u20.lst x19 (s1719 _ _ bl17)
  have bp20:=u20.pair x19 (Ao s1719 bp17)
  have rl20:=u20.lst x19 (s1719 _ _ rl17)
  have rp20:=u20.pair x19 (Ao s1719 rp17)
  have kr20:=u20.lst x19 (s1719 _ _ kr17)
  have kn20:=u20.dk x19 hl19
  have bn20:=u20.dk x19 (s1719 _ _ bn17)
  have rn20:=u20.dk x19 (s1719 _ _ rn17)
  generalize upd H19 x (HO.ins C dx (BP "knob_numbers" (.ref D19) f17))=H20 at x20 c20 bl20 bp20 rl20 rp20 kr20 bn20 rn20 kn20 ⊢
  clear u20
  refine ⟨_,rfl,x,C,dx,_,_,rfl,x20,T.cl,T.n_board_list,(by rw [Ae,if_neg (by decide +kernel)]; exact lb17),D5,bs.map jn,bvs,rfl,bl20,Ce (F:=fun (a:Th) y=>TupAt H20 (tV a) y) jn bp20,(by rw [List.length_map]; have:=O.b5; omega),(fun a ha=>by obtain ⟨b,hb,rfl⟩:=List.mem_map.mp ha; have:=O.sz b hb; show b.2<=97; omega),fun D21 pvs H21 hD21 s21 hl21 hp21=>?_⟩
  have e21:(bs.map jn).map tN=bs:=by
   rw [List.map_map]
   exact List.map_id bs
  rw [e21] at hp21
  have x21:=s21 _ _ x20
  refine ⟨_,rfl,x,C,dx,_,rfl,x21,T.cl,T.n_key_places,Nat.lt_of_le_of_lt (Bm _ _ _) (by omega),?_⟩
  have u22:SX x H21 _:=SX.up (o:=HO.ins C dx (BP "key_places" (.ref D21) (BP "knob_numbers" (.ref D19) f17)))
  have x22:upd H21 x (HO.ins C dx (BP "key_places" (.ref D21) (BP "knob_numbers" (.ref D19) f17))) x=_:=Ag
  have c22:=(c20.trans (SX.of s21)).trans u22
  have bl22:=u22.lst x21 (s21 _ _ bl20)
  have bp22:=u22.pair x21 (Ao s21 bp20)
  have rl22:=u22.lst x21 (s21 _ _ rl20)
  have rp22:=u22.pair x21 (Ao s21 rp20)
  have kr22:=u22.lst x21 (s21 _ _ kr20)
  have kn22:=u22.dk x21 (s21 _ _ kn20)
  have bn22:=u22.dk x21 (s21 _ _ bn20)
  have rn22:=u22.dk x21 (s21 _ _ rn20)
  have kp22:=u22.lst x21 hl21
  have kq22:=u22.pair x21 hp21
  generalize upd H21 x (HO.ins C dx (BP "key_places" (.ref D21) (BP "knob_numbers" (.ref D19) f17)))=H22 at x22 c22 bl22 bp22 rl22 rp22 kr22 bn22 rn22 kp22 kq22 kn22 ⊢
  clear u22
  refine ⟨_,rfl,x,C,dx,_,_,rfl,x22,T.cl,T.n_rank_list,(by rw [Ae,if_neg (by decide +kernel),Ae,if_neg (by decide +kernel)]; exact lr17),D8,rk.map Yp,rvs,rfl,rl22,rp22,(by rw [List.length_map]; exact O.nr),(fun a ha=>by obtain ⟨r,hr,rfl⟩:=List.mem_map.mp ha; exact O.nz r hr),fun D23 qvs H23 hD23 s23 hl23 hp23=>?_⟩
  have e23:(rk.map Yp).map tN=rk.map mW:=by
   rw [List.map_map]
   rfl
  rw [e23] at hp23
  have x23:=s23 _ _ x22
  refine ⟨_,rfl,x,C,dx,_,rfl,x23,T.cl,T.n_pipe_places,Nat.lt_of_le_of_lt (Nat.le_trans (Bm _ _ _) (Nat.succ_le_succ (Bm _ _ _))) (by omega),?_⟩
  have u24:SX x H23 _:=SX.up (o:=HO.ins C dx (BP "pipe_places" (.ref D23) (BP "key_places" (.ref D21) (BP "knob_numbers" (.ref D19) f17))))
  have x24:upd H23 x (HO.ins C dx (BP "pipe_places" (.ref D23) (BP "key_places" (.ref D21) (BP "knob_numbers" (.ref D19) f17)))) x=_:=Ag
  have c24:=(c22.trans (SX.of s23)).trans u24
  have bl24:=u24.lst x23 (s23 _ _ bl22)
  have bp24:=u24.pair x23 (Ao s23 bp22)
  have kr24:=u24.lst x23 (s23 _ _ kr22)
  have rl24:=u24.lst x23 (s23 _ _ rl22)
  have rp24:=u24.pair x23 (Ao s23 rp22)
  have pp24:=u24.lst x23 hl23
  have pq24:=u24.pair x23 hp23
  have kn24:=u24.dk x23 (s23 _ _ kn22)
  have bn24:=u24.dk x23 (s23 _ _ bn22)
  have rn24:=u24.dk x23 (s23 _ _ rn22)
  have kp24:=u24.lst x23 (s23 _ _ kp22)
  have kq24:=u24.pair x23 (Ao s23 kq22)
  generalize hf24:BP "pipe_places" (.ref D23) (BP "key_places" (.ref D21) (BP "knob_numbers" (.ref D19) f17))=f24 at x24 c24 bl24 bp24 kr24 rl24 rp24 pp24 pq24 bn24 rn24 kp24 kq24 u24 kn24 ⊢
  generalize upd H23 x (HO.ins C dx f24)=H24 at x24 c24 bl24 bp24 kr24 rl24 rp24 pp24 pq24 bn24 rn24 kp24 kq24 kn24 ⊢
  have n24:f24.length<=9:=by rw [← hf24]; exact Nat.le_trans (Bm _ _ _) (Nat.succ_le_succ (Nat.le_trans (Bm _ _ _) (Nat.succ_le_succ (Nat.le_trans (Bm _ _ _) (Nat.succ_le_succ n17)))))
  have old24:∀ {f:Str} {v:V},¬ f = "pipe_places"->¬ f = "key_places"->¬ f = "knob_numbers"->f17.lookup f=some v->f24.lookup f=some v:=fun h1 h2 h3 h=>by
   rw [← hf24,Ae,if_neg h1,Ae,if_neg h2,Ae,if_neg h3]; exact h
  have lb24:=old24 (by decide +kernel) (by decide +kernel) (by decide +kernel) lb17
  have lbn24:=old24 (by decide +kernel) (by decide +kernel) (by decide +kernel) lbn17
  have lw24:=old24 (by decide +kernel) (by decide +kernel) (by decide +kernel) lw17
  have lkn24:f24.lookup ("knob_numbers" : Str)=some (.ref D19):=by rw [← hf24,Ae,if_neg (by decide +kernel),Ae,if_neg (by decide +kernel),Ae,if_pos rfl]
  have lr24:=old24 (by decide +kernel) (by decide +kernel) (by decide +kernel) lr17
  have lpp24:f24.lookup ("pipe_places" : Str)=some (.ref D23):=by rw [← hf24,Ae,if_pos rfl]
  have lrn24:=old24 (by decide +kernel) (by decide +kernel) (by decide +kernel) lrn17
  have lkr24:=old24 (by decide +kernel) (by decide +kernel) (by decide +kernel) lkr17
  have lkp24:f24.lookup ("key_places" : Str)=some (.ref D21):=by rw [← hf24,Ae,if_neg (by decide +kernel),Ae,if_pos rfl]
  have no24:∀ m∈meths,f24.lookup m=none:=fun m hm=>by
   rw [← hf24,Ae,if_neg (Du m hm _ (by decide +kernel)),Ae,if_neg (Du m hm _ (by decide +kernel)),Ae,if_neg (Du m hm _ (by decide +kernel))]
   exact no17 m hm
  clear u24 hf24 old24
  have R24:Rows H24 ρ us:=fun v hv=>c24.tup hx (hR v hv)
  refine ⟨_,rfl,_,rfl,x,C,dx,_,_,rfl,x24,T.cl,T.n_rank_numbers,lrn24,p,D16,us,ρ,rk,kvs16,rfl,c24.lst hx hp,R24,by omega,rn24,(fun i r hr=>hv16 i r.1 (by rw [List.getElem?_map,hr]; rfl)),O.nrr,O.ln,fun D25 H25 hD25 s25 hl25=>?_⟩
  have x25:=s25 _ _ x24
  refine ⟨_,rfl,x,C,dx,_,rfl,x25,T.cl,T.n_knob_lines,by omega,?_⟩
  have u26:SX x H25 _:=SX.up (o:=HO.ins C dx (BP "knob_lines" (.ref D25) f24))
  have x26:upd H25 x (HO.ins C dx (BP "knob_lines" (.ref D25) f24)) x=_:=Ag
  have c26:=(c24.trans (SX.of s25)).trans u26
  have bl26:=u26.lst x25 (s25 _ _ bl24)
  have bp26:=u26.pair x25 (Ao s25 bp24)
  have kr26:=u26.lst x25 (s25 _ _ kr24)
  have rl26:=u26.lst x25 (s25 _ _ rl24)
  have rp26:=u26.pair x25 (Ao s25 rp24)
  have pp26:=u26.lst x25 (s25 _ _ pp24)
  have pq26:=u26.pair x25 (Ao s25 pq24)
  have ln26:=hl25.sx u26 x25
  have kn26:=u26.dk x25 (s25 _ _ kn24)
  have bn26:=u26.dk x25 (s25 _ _ bn24)
  have rn26:=u26.dk x25 (s25 _ _ rn24)
  have kp26:=u26.lst x25 (s25 _ _ kp24)
  have kq26:=u26.pair x25 (Ao s25 kq24)
  generalize upd H25 x (HO.ins C dx (BP "knob_lines" (.ref D25) f24))=H26 at x26 c26 bl26 bp26 kr26 rl26 rp26 pp26 pq26 ln26 bn26 rn26 kp26 kq26 kn26 ⊢
  clear u26
  have R26:Rows H26 ρ us:=fun v hv=>c26.tup hx (hR v hv)
  refine ⟨_,rfl,p,_,"step",ρ,rfl,c26.lst hx hp,R26,by omega,fun D27 H27 hD27 s27 hl27=>?_⟩
  have kn27:=s27 _ _ kn26
  have x27:=s27 _ _ x26
  have hS27:Cw K H27 D27 (us.filter (pw ρ "step")):=.inl (.inl hl27)
  have lus:(us.filter (pw ρ "step")).length<=us.length:=List.length_filter_le _ _
  refine ⟨D27,rfl,⟨_,hS27⟩,Cu (K:=K) (xs:=us.filter (pw ρ "step")) (fun _=>true) (fun v=>.int (stN ks (ρ v):Nat)) hS27 (A_ (by omega)) (fun y hy H' hs R k=>k H' (Ak.refl H')) (fun y hy _ H' hs R k=>?_) (fun D28 H28 hD28 s28 hl28=>?_)⟩
  ·obtain ⟨hyu,hyw⟩:=List.mem_filter.mp hy
   obtain ⟨ts,ets,t24,tin⟩:=O.st y hyu (V.str.inj (of_decide_eq_true hyw))
   obtain ⟨T0,rfl,hT⟩:=((R26.mono s27).mono hs) y hyu
   refine ⟨_,rfl,_,rfl,x,C,dx,_,_,rfl,hs _ _ x27,T.cl,T.n_knob_numbers,(by rw [Ae,if_neg (by decide +kernel)]; exact lkn24),T0,D19,ρ (.ref T0),kvs19,ks.map (·.nm),ts,rfl,hT,hs _ _ kn27,ets,t24,(by rw [List.length_map]; have:=O.nk; omega),hv19,tin,fun H3 s3=>?_⟩
   have e:Wd.mk (ts.map fun t=>(ks.map (·.nm)).idxOf t)=stN ks (ρ (.ref T0)):=by unfold stN; rw [Fl ets]
   rw [e]
   exact k H3 s3
  rw [List.filter_eq_self.mpr (fun _ _=>rfl)] at hl28
  have s2628:=s27.trans s28
  have x28:=s2628 _ _ x26
  refine ⟨_,rfl,x,C,dx,_,rfl,x28,T.cl,T.n_step_sets,Nat.lt_of_le_of_lt (Bm _ _ _) (by omega),?_⟩
  have u29:SX x H28 _:=SX.up (o:=HO.ins C dx (BP "step_sets" (.ref D28) (BP "knob_lines" (.ref D25) f24)))
  have old:∀ {f:Str},¬ f = "step_sets"->¬ f = "knob_lines"->(BP "step_sets" (.ref D28) (BP "knob_lines" (.ref D25) f24)).lookup f=f24.lookup f:=fun h1 h2=>by rw [Ae,if_neg h1,Ae,if_neg h2]
  have es:((us.filter (pw ρ "step")).map fun v=>V.int (stN ks (ρ v):Nat))=(((us.filter (pw ρ "step")).map fun v=>stN ks (ρ v)).map fun n:Nat=>V.int (n:Int)):=by rw [List.map_map]; rfl
  rw [es] at hl28
  have hpF:=u29.lst x28 (s2628 _ _ (c26.lst hx hp))
  have nx:x ≠ p:=fun z=>by rw [z,hp] at hx; cases hx
  have n5:D5 ≠ p:=Ne.symm (Ah (s4 _ _ hp) hD5)
  have n8:D8 ≠ p:=Ne.symm (Ah (s7 _ _ (c6.lst hx hp)) hD8)
  have n10:D10 ≠ p:=Ne.symm (Ah (c9.lst hx hp) hD10)
  have n21:D21 ≠ p:=Ne.symm (Ah (c20.lst hx hp) hD21)
  have n23:D23 ≠ p:=Ne.symm (Ah (c22.lst hx hp) hD23)
  have n28:D28 ≠ p:=Ne.symm (Ah (s27 _ _ (c26.lst hx hp)) hD28)
  suffices key:∀ H'',SX p (upd H28 x _) H''->Iz C H'' x us bs rk ks (linesOf rk (us.map ρ)) ((us.filter (pw ρ "step")).map fun v=>stN ks (ρ v)) from q _ (key _ SX.refl) key  (c0.trans ((c26.trans (SX.of s2628)).trans u29))
  intro H'' sp
  refine ⟨⟨⟨⟨dx,_,D5,D13,D21,D10,bvs,pvs,uk,kvs,sp _ _ Ag nx,(old (by decide +kernel) (by decide +kernel)).trans lb24,(old (by decide +kernel) (by decide +kernel)).trans lbn24,(old (by decide +kernel) (by decide +kernel)).trans lkp24,(old (by decide +kernel) (by decide +kernel)).trans lkr24,
   fun m hm=>(old (Du m hm _ (by decide +kernel)) (Du m hm _ (by decide +kernel))).trans (no24 m hm),sp _ _ (u29.lst x28 (s2628 _ _ bl26)) n5,Hs sp hpF (u29.pair x28 (Ao s2628 bp26)),Pj sp hpF (u29.dk x28 (s2628 _ _ bn26)),fun i b hb=>hv13 i b.1 (by rw [List.getElem?_map,hb]; rfl),sp _ _ (u29.lst x28 (s2628 _ _ kp26)) n21,Hs sp hpF (u29.pair x28 (Ao s2628 kq26)),sp _ _ (u29.lst x28 (s2628 _ _ kr26)) n10,?_⟩,O.b5,O.sz,by have:=O.nk; omega⟩,⟨dx,_,D8,D16,D23,D25,rvs,qvs,kvs16,sp _ _ Ag nx,(old (by decide +kernel) (by decide +kernel)).trans lr24,(old (by decide +kernel) (by decide +kernel)).trans lrn24,(old (by decide +kernel) (by decide +kernel)).trans lpp24,(by rw [Ae,if_neg (by decide +kernel),Ae,if_pos rfl]),sp _ _ (u29.lst x28 (s2628 _ _ rl26)) n8,Hs sp hpF (u29.pair x28 (Ao s2628 rp26)),Pj sp hpF (u29.dk x28 (s2628 _ _ rn26)),(fun i r hr=>hv16 i r.1 (by rw [List.getElem?_map,hr]; rfl)),sp _ _ (u29.lst x28 (s2628 _ _ pp26)) n23,Hs sp hpF (u29.pair x28 (Ao s2628 pq26)),((ln26.mono s2628).sx u29 x28).sp sp hpF⟩,O.nr,O.nz,?_⟩,dx,_,l1,D19,D28,kvs19,sp _ _ Ag nx,(old (by decide +kernel) (by decide +kernel)).trans lw24,(old (by decide +kernel) (by decide +kernel)).trans lkn24,(by rw [Ae,if_pos rfl]),sp _ _ (u29.lst x28 (s2628 _ _ (c26.lst hx rw3))) nl1,Pj sp hpF (u29.dk x28 (s2628 _ _ kn26)),hv19,hw19,sp _ _ (u29.lst x28 hl28) n28,D13,kvs,(old (by decide +kernel) (by decide +kernel)).trans lbn24,Pj sp hpF (u29.dk x28 (s2628 _ _ bn26)),hw13⟩
  case refine_2=>rw [Q8 O.ln,← ek,List.length_map,huk]
  rw [← ek]
  refine Ce (F:=fun (r:R) y=>TupAt _ r.v y) ρ ?_
  have R29:Rows _ ρ uk:=fun v hv=>UL sp hpF (u29.tup x28 ((R26.mono s2628) v (inKn hv)))
  generalize H''=H29 at R29 ⊢
  have key:∀ l:List V,(∀ v∈l,TupAt H29 (ρ v).v v)->Paired (fun v y=>TupAt H29 (ρ v).v y) l l:=by
   intro l
   induction l with
   | nil=>intro _; exact .nil
   | cons a b ih=>intro h; exact .cons (h a (List.mem_cons_self ..)) (ih fun v hv=>h v (List.mem_cons_of_mem _ hv))
  exact key uk R29
noncomputable def X4 (C:Addr):Sp:=fun vs H Q _=>∃ (x:Addr) (us:List V) (bs:List (Str × Nat)) (rk:List (Str × Nat × Int)) (ks:List R) (ls:List (List Ln)) (sts:List Nat),vs=[.ref x]/\Iz C H x us bs rk ks ls sts/\∀ D H',H D=none->Ak H H'->H' D=some (.lst (nV sts))->Q (.ref D) H'
theorem ik:Aq ["self"] ["self"] (Af iD):=Bp
include N T in
theorem Wg:Ar P w K mg base Bh 1 fOy dOy ["self"] (X4 C):=by
 refine N.FOy.1.ok ik (fun vs H Q E h=>?_) (fun cdv A outer s H vs Q E hr h=>?_)
 ·obtain ⟨x,us,bs,rk,ks,ls,sts,rfl,_⟩:=h
  rfl
 ·obtain ⟨x,us,bs,rk,ks,ls,sts,rfl,O,q⟩:=h
  refine ⟨_,(Ai (Aw (HF Hm rfl T.list PyProof.Rows.boot_list (Ab (Bf (pv 0) rfl) Aa)))),?_⟩
  obtain ⟨_,dx,fs,rl,kd,ss,kvs,h1,l1,l2,l3,h2,h3,h4,h5,h6,_⟩:=id O
  exact ⟨_,rfl,x,C,dx,_,_,rfl,h1,T.cl,T.n_step_sets,l3,ss,_,rfl,.inl (.inl (.inl h6)),fun l hl=>q l _ hl (Av hl) Ag⟩
noncomputable def Ww:Sp:=fun vs H Q _=>∃ z:Str,vs=[.str z,.str letters,.int 8]/\Tx z/\∀ b H',Ak H H'->(b=true ↔ isNm z)->Q (.bl b) H'
include N T in
theorem Xg:Ar P w K mg base Bh 1 fMd dMd ["text","signs","most"] Ww:=by
 refine N.FMd.1.ok Zb (fun vs H Q E h=>?_) (fun cdv A outer s H vs Q E hr h=>?_)
 ·obtain ⟨z,rfl,_⟩:=h
  rfl
 ·obtain ⟨z,rfl,hz,q⟩:=h
  refine ⟨_,(Ai (Aw (Dh (Gq Fj Fj Ac (BJ Hn rfl T.len PySem.boot_len (Ab (pv 0) Aa)) (pv 2)) (Dd (BJ (Gg rfl) rfl T.all PyProof.Rows.boot_all (Ab (Bk rfl (Ba (osc:=Af Z8) (N:=["text","signs","most"]) rfl rfl (by decide +kernel)) (Ro (pv 0)) (fun _ _ _ _=>Cq) (fun _ _ _ _=>(Ek KD (pv 0) (pv 2) rfl))) Aa)))))),?_⟩
  have hzl:z.length<sizeLine:=A_ hz.1
  have no:¬ isNm z->Q (.bl false) H:=fun h=>q false H (Ak.refl H) ⟨fun z=>(nomatch z),fun z=>absurd z h⟩
  refine ⟨_,rfl,z,rfl,Nat.le_of_lt hzl,_,_,rfl,rfl,_,rfl,?_⟩
  refine Ci (fun h1=>?_) (fun h1=>⟨_,rfl,Bo (no fun c=>h1 (decide_eq_true (by have:=c.1; omega)))⟩)
  refine ⟨_,rfl,_,_,rfl,rfl,_,rfl,?_⟩
  refine Ci (fun h2=>?_) (fun h2=>no fun c=>h2 (decide_eq_true (by have:=c.2.1; omega)))
  refine ⟨_,rfl,z,rfl,MN (fun _=>true) (fun c=>.bl (V_ letters c)) hzl (fun c hc H' hs R k=>k H' (Ak.refl H')) (fun c hc _ H' hs R k=>⟨_,rfl,_,rfl,_,_,rfl,rfl,k H' (Ak.refl H')⟩) (fun D H' hD hs hl=>?_)⟩
  refine ⟨D,z.cps.toList.map (V_ letters),rfl,.inl (.inl ?_),q _ H' hs ?_⟩
  ·rw [hl,List.filter_eq_self.mpr (fun _ _=>rfl),List.map_map]
   rfl
  ·rw [List.all_map,List.all_eq_true]
   have b1:1<=z.length:=by have:=of_decide_eq_true h1; omega
   have b2:z.length<=8:=by have:=of_decide_eq_true h2; omega
   constructor
   ·intro h
    refine ⟨b1,b2,fun c hc=>?_⟩
    have e:V_ letters c=true:=h c hc
    rw [Ly c (hz.2 c hc)] at e
    exact of_decide_eq_true e
   ·intro h c hc
    show V_ letters c=true
    rw [Ly c (hz.2 c hc)]
    exact decide_eq_true (h.2.2 c hc)
theorem iW {K:PySem.W.Frag}:PySem.W.kitOne K (.type "int") (.type "str")=some false:=by kernel_rfl
theorem gH {K:PySem.W.Frag}:PySem.W.kitOne K (.type "bool") (.type "str")=some false:=by kernel_rfl
theorem iu {K:PySem.W.Frag}:PySem.W.kitOne K (.type "NoneType") (.type "str")=some false:=by kernel_rfl
theorem jH {K:PySem.W.Frag}:PySem.W.kitOne K (.type "list") (.type "str")=some false:=by kernel_rfl
theorem iJ {K:PySem.W.Frag}:PySem.W.kitOne K (.type "tuple") (.type "str")=some false:=by kernel_rfl
noncomputable def isStr:V->Bool
 | .str _=>true
 | _=>false
theorem W_ (K:PySem.W.Frag) {H:Hp} {v:V} (h:Ex H v):∃ n,IW K H v (.type n)/\PySem.W.kitOne K (.type n) (.type "str")=some (isStr v):=by
 cases h with
 | non=>exact ⟨_,.non,iu⟩
 | bl b=>exact ⟨_,.bl b,gH⟩
 | int i=>exact ⟨_,.int i,iW⟩
 | lst h=>exact ⟨_,.lst h,jH⟩
 | tup h=>exact ⟨_,.tup h,iJ⟩
 | str h=>exact ⟨_,.str _,Rz⟩
noncomputable def ZP (v:V):Prop:=∃ t,v=.str t/\isNm t
noncomputable def SQ:Sp:=fun vs H Q _=>∃ v:V,vs=[v]/\Ex H v/\∀ b H',Ak H H'->(b=true ↔ ZP v)->Q (.bl b) H'
include N T in
theorem Rx:Ar P w K mg base Bh 2 fNm dNm ["thing"] SQ:=by
 have GMdG:Ar P w K mg base Bh 1 fMd dMd ["text","signs","most"] Ww:=Xg N T
 refine N.FNm.1.ok aH (fun vs H Q E h=>?_) (fun cdv A outer s H vs Q E hr h=>?_)
 ·obtain ⟨v,rfl,_⟩:=h
  rfl
 ·obtain ⟨v,rfl,hv,q⟩:=h
  have hrMdG:BW 1 _:=hr.mono (by decide)
  obtain ⟨tLET,hLET⟩:=T.letters
  obtain ⟨tML,hML⟩:=T.mostL
  refine ⟨_,(Ai (Aw (Dh (BJ DP rfl T.isin PyProof.Rows.boot_isinstance (Ab (pv 0) (Ab (Eb (v:=.ty "str") rfl T.str PyProof.Rows.boot_str rfl) Aa))) (Dd (Am GMdG hrMdG rfl N.FMd.2.2 N.FMd.1.kp N.FMd.2.1 .nil Az (Ab (pv 0) (Ab (Bs (v:=.str letters) rfl hLET ⟨tLET,rfl⟩) (Ab (Bs (v:=.int 8) rfl hML ⟨tML,rfl⟩) Aa)))))))),?_⟩
  obtain ⟨n,e1,e2⟩:=W_ K hv
  refine ⟨_,rfl,_,"str",_,_,rfl,e1,e2,_,rfl,?_⟩
  cases hv with
  | str h =>
   refine Cj ⟨_,rfl,_,rfl,h,fun b H' s hb=>q b H' s (hb.trans ⟨fun z=>⟨_,rfl,z⟩,fun ⟨t,e,z⟩=>by cases e; exact z⟩)⟩
  | _=>exact Bo (q false H (Ak.refl H) ⟨fun z=>(nomatch z),fun ⟨t,e,z⟩=>(nomatch e)⟩)
noncomputable def d9 (C:Addr):Sp:=fun vs H Q _=>∃ (x:Addr) (us:List V) (bs:List (Str × Nat)) (rk:List (Str × Nat × Int)) (ks:List R) (ls:List (List Ln)) (sts:List Nat) (v:V),vs=[.ref x,v]/\Iz C H x us bs rk ks ls sts/\Ex H v/\(∀ n∈bs.map (·.1),isNm n)/\∀ H',Ak H H'->Q (Gp (bs.map (·.1)) v) H'
noncomputable def cI (C:Addr):Sp:=fun vs H Q _=>∃ (x:Addr) (us:List V) (bs:List (Str × Nat)) (rk:List (Str × Nat × Int)) (ks:List R) (ls:List (List Ln)) (sts:List Nat) (v:V),vs=[.ref x,v]/\Iz C H x us bs rk ks ls sts/\Ex H v/\(∀ n∈ks.map (·.nm),isNm n)/\∀ H',Ak H H'->Q (Gp (ks.map (·.nm)) v) H'
theorem QL {ns:List Str} {v:V} (hn:∀ n∈ns,isNm n) (h:¬ ZP v):Gp ns v=.non:=by
 cases v with
 | str t=>exact if_neg fun z=>h ⟨t,rfl,hn t z⟩
 | _=>rfl
theorem valN {ns:List Str} {kvs:List (Key × V)} (h1:∀ (i:Nat) t,ns[i]? = some t->CT kvs (Sum.inr t)=some (.int (i:Nat))) (h2:∀ t,t ∉ ns->CT kvs (Sum.inr t)=none) (t:Str):(CT kvs (Sum.inr t)).getD .non=Gp ns (.str t):=by
 by_cases h:t∈ns
 ·rw [h1 _ t (Gw h)]
  exact (if_pos h).symm
 ·rw [h2 t h]
  exact (if_neg h).symm
theorem kY:Aq ["self","name"] ["self","name"] (Af iy):=Bp
include N T in
theorem Zg:Ar P w K mg base Bh 3 fOj dOj ["self","name"] (cI C):=by
 have GNmG:Ar P w K mg base Bh 2 fNm dNm ["thing"] SQ:=Rx N T
 refine N.FOj.1.ok kY (fun vs H Q E h=>?_) (fun cdv A outer s H vs Q E hr h=>?_)
 ·obtain ⟨x,us,bs,rk,ks,ls,sts,v,rfl,_⟩:=h
  rfl
 ·obtain ⟨x,us,bs,rk,ks,ls,sts,v,rfl,O,hv,hn,q⟩:=h
  have hrNmG:BW 2 _:=hr.mono (by decide)
  have hu:=CV hr
  refine ⟨_,(Ai (Aw (Mq (Dj (Am GNmG hrNmG rfl N.FNm.2.2 N.FNm.1.kp N.FNm.2.1 .nil Az (Ab (pv 1) Aa))) (MJ hu (Bf (pv 0) rfl) (pv 1) ⟨rfl,rfl,rfl,rfl⟩) Gh))),?_⟩
  obtain ⟨O1,dx,fs,rl,kd,ss,kvs,h1,l1,l2,l3,h2,h3,h4,h5,h6,bn,kb,h7,h8,h9⟩:=id O
  refine ⟨_,rfl,v,rfl,hv,fun b H1 s1 hb=>⟨_,rfl,?_⟩⟩
  refine Ci (fun z=>?_) (fun z=>?_)
  ·obtain ⟨t,rfl,ht⟩:=hb.mp z
   refine ⟨_,rfl,x,C,dx,_,_,rfl,s1 _ _ h1,T.cl,T.n_knob_numbers,l2,kd,rfl,.inl ⟨_,.inl (s1 _ _ h3)⟩,_,rfl,_,HQ.k (k:=Sum.inr t) (s1 _ _ h3),?_⟩
   rw [valN h4 h5 t]
   exact q _ s1
  ·have e:=QL hn fun c=>z (hb.mpr c)
   rw [e] at q
   exact q _ s1
noncomputable def Wv (l:List Nat):Nat:=l.foldl (· ||| ·) 0
theorem Rm (l:List Nat) (n:Nat):Wv (l++[n])=Wv l ||| n:=by
 unfold Wv
 rw [List.foldl_append]
 rfl
noncomputable def bQ:Sp:=fun vs H Q _=>∃ (p:Addr) (l:List Nat),vs=[.ref p]/\H p=some (.lst (nV l))/\l.length<=500/\Q (.int (Wv l:Nat)) H
theorem VJ:Aq ["sets","some","each"] ["sets"] (Af gY):=Bp
include N T in
theorem dR:Ar P w K mg base Bh 1 fUn dUn ["sets"] bQ:=by
 refine N.FUn.1.ok VJ (fun vs H Q E h=>?_) (fun cdv A outer s H vs Q E hr h=>?_)
 ·obtain ⟨p,l,rfl,_⟩:=h
  rfl
 ·obtain ⟨p,l,rfl,hp,hz,q⟩:=h
  refine ⟨_,(Ad (Cr (i:=1) VJ.nd rfl (Or.inl rfl) Ac)
   (Ad (Dz PassesOwn.never rfl (Br (pv 0)) (B_ (i:=2) VJ.nd rfl (Or.inl rfl)) (Ai (Cr (i:=1) VJ.nd rfl (Or.inl rfl) (BR MF (pv 1) (pv 2)))))
   (Ai (Aw (pv 1))))),?_⟩
  have hS:Cw K H p (nV l):=.inl (.inl hp)
  refine ⟨_,rfl,p,rfl,⟨_,hS⟩,Gb (K:=K) (a:=p) (xs:=nV l) (fun i σ H4=>H4=H/\∃ v2,σ=[some (.ref p),some (.int (Wv (l.take i):Nat)),v2]) ⟨rfl,_,rfl⟩ (fun i σ H4 _ h=>by rw [h.1]; exact hS) ?_ ?_⟩
  ·rintro i y σ H4 hi ⟨rfl,v2,rfl⟩
   rw [List.getElem?_map] at hi
   obtain ⟨n,hn,rfl⟩:=Option.map_eq_some_iff.mp hi
   refine ⟨_,rfl,_,rfl,_,_,rfl,rfl,?_⟩
   refine ⟨rfl,some (.int (n:Int)),?_⟩
   dsimp only
   rw [Ik,List.take_add_one,hn]
   show _=[some (V.ref p),some (V.int ((Wv (l.take i++[n]):Nat):Int)),_]
   rw [Rm]
   rfl
  ·rintro σ H4 ⟨rfl,v2,rfl⟩
   have el:l.take (nV l).length=l:=List.take_of_length_le (by simp)
   rw [el]
   exact ⟨_,rfl,q⟩
theorem Xb (k:Nat):Wd.mk [k]=2 ^ k:=by
 show 0 ||| 2 ^ k=2 ^ k
 rw [Nat.zero_or]
theorem d_ {ns:List Str} {t:Str} (h:t∈ns):Gp ns (.str t)=.int ((ns.idxOf t:Nat):Int):=if_pos h
noncomputable def Yd (C cK:Addr):Sp:=fun vs H Q E=>∃ (x:Addr) (us:List V) (bs:List (Str × Nat)) (rk:List (Str × Nat × Int)) (ks:List R) (ls:List (List Ln)) (sts:List Nat) (v:V),vs=[.ref x,v]/\Iz C H x us bs rk ks ls sts/\Ex H v/\(∀ n∈ks.map (·.nm),isNm n)/\ks.length<=100 /\
 (∀ t H',Ak H H'->v=.str t->t∈ks.map (·.nm)->Q (.int ((2 ^ (ks.map (·.nm)).idxOf t:Nat):Int)) H')/\(∀ H',Ak H H'->Gp (ks.map (·.nm)) v=.non->E (.ref cK) none H')
theorem Kg (ns:List Str) (v:V):Gp ns v=.non \/ ∃ t,v=.str t/\t∈ns/\Gp ns v=.int ((ns.idxOf t:Nat):Int):=by
 cases v with
 | str t =>
  by_cases h:t∈ns
  ·exact .inr ⟨t,rfl,h,if_pos h⟩
  ·exact .inl (if_neg h)
 | _=>exact .inl rfl
theorem cW:Aq ["organ","name","knob"] ["organ","name"] (Af gZ):=Bp
include N T in
theorem WY:Ar P w K mg base (JG P w) 4 fKn dKn ["organ","name"] (Yd C cK):=by
 have GOj:Ar P w K mg base Bh 3 fOj dOj ["self","name"] (cI C):=Zg N T
 have GSt:Ar P w K mg base Bh 3 fSt dSt ["numbers"] S9:=Um N T
 refine N.FKn.1.Vf cW (fun vs H Q E h=>?_) (fun cdv A outer s H vs Q E hr h=>?_)
 ·obtain ⟨x,us,bs,rk,ks,ls,sts,v,rfl,_⟩:=h
  rfl
 ·obtain ⟨x,us,bs,rk,ks,ls,sts,v,rfl,O,hv,hn,hl,q,qe⟩:=h
  have hrOj:BW 3 _:=hr.mono (by decide)
  have hrSt:BW 3 _:=hr.mono (by decide)
  have hu:=CV hr
  refine ⟨_,(Ad (Cr (i:=2) cW.nd rfl (Or.inl rfl) (GJ (pv 0) T.cl N.FOj.2.2 GOj hrOj N.FOj.2.1 .nil Az (Ab (pv 1) Aa)))
   (Ad (Bg (BK N7 (pv 2) Gh (BV _)) (Ai (Gk T.x4.rK.ex rfl T.x4.mK rfl Ht (Ab BL Aa))) BZ)
   (Ai (Aw (Am GSt hrSt rfl N.FSt.2.2 N.FSt.1.kp N.FSt.2.1 .nil Az (Ab (Cv (Ab (pv 2) Aa)) Aa)))))),?_⟩
  obtain ⟨⟨⟨dx,fs,_,_,_,_,_,_,_,_,h1,_,_,_,_,lm,_⟩,_⟩,_⟩:=id O.o
  refine ⟨_,rfl,x,dx,fs,rfl,h1,lm _ (by decide +kernel),_,rfl,x,us,bs,rk,ks,ls,sts,v,rfl,O,hv,hn,fun H1 s1=>?_⟩
  rcases Kg (ks.map (·.nm)) v with e | ⟨t,rfl,ht,e⟩
  ·have qe':=qe H1 s1 e
   rw [e]
   exact ⟨_,rfl,rfl,_,rfl,Cj ⟨by show 1<=1000; decide,qe'⟩⟩
  ·rw [e]
   have hi:=List.idxOf_lt_length_of_mem ht
   rw [List.length_map] at hi
   refine ⟨_,rfl,rfl,_,rfl,Bo ?_⟩
   refine ⟨_,rfl,Be (by simp),fun p2 hp2=>?_⟩
   have s2:=Av (o:=HO.lst [V.int (((ks.map (·.nm)).idxOf t:Nat):Int)]) hp2
   refine ⟨p2,[(ks.map (·.nm)).idxOf t],rfl,Ag,by simp,fun n hn=>by rw [List.mem_singleton.mp hn]; omega,fun H3 s3=>?_⟩
   rw [Xb]
   exact q t H3 (s1.trans (s2.trans s3)) rfl ht
noncomputable def aO (Cy:Addr):Sp:=fun vs H Q _=>∃ (y dy x:Addr),vs=[.ref y,.ref x]/\H y=some (.ins Cy dy [])/\∀ (sd:Addr) H',SX y H H'->H sd=none->H' sd=some (.dK [])->DQ Cy H' y x 0 0 sd->Q .non H'
noncomputable def QR (Cy:Addr):Sp:=fun vs H Q _=>∃ (y x:Addr) (dr sh:Nat) (sd:Addr) (n:Nat),vs=[.ref y,.int (n:Nat)]/\DQ Cy H y x dr sh sd/\∀ H',SX y H H'->DQ Cy H' y x n sh sd->Q (.bl (!decide (n=dr))) H'
theorem ir:Aq ["self","organ"] ["self","organ"] (Af lK):=Bp
include N T in
theorem bG:Ar P w K mg base Bh 1 fXi dXi ["self","organ"] (aO Cy):=by
 refine N.FXi.1.ok ir (fun vs H Q E h=>?_) (fun cdv A outer s H vs Q E hr h=>?_)
 ·obtain ⟨y,dy,x,rfl,_⟩:=h
  rfl
 ·obtain ⟨y,dy,x,rfl,h1,q⟩:=h
  have hu:=CV hr
  refine ⟨_,(Ad (Cm (pv 0) (pv 1) rfl)
   (Ad (Cm (pv 0) Ac rfl)
   (Ad (Cm (pv 0) Ac rfl)
   (Ai (Cm (pv 0) Mi rfl))))),?_⟩
  refine ⟨_,rfl,_,rfl,y,Cy,dy,_,rfl,h1,T.clR,T.nr_organ,by show 0<1000; decide,?_⟩
  have x1:upd H y (HO.ins Cy dy (BP "organ" (.ref x) [])) y=some (.ins Cy dy (BP "organ" (.ref x) [])):=Ag
  have c1:SX y H (upd H y (HO.ins Cy dy (BP "organ" (.ref x) []))):=SX.up
  generalize upd H y (HO.ins Cy dy (BP "organ" (.ref x) []))=H1 at x1 c1 ⊢
  have z1:=Ey "organ" (.ref x) []
  have z2:=Ey "drawn_set" (.int 0) (BP "organ" (.ref x) [])
  have z3:=Ey "shoe_step" (.int 0) (BP "drawn_set" (.int 0) (BP "organ" (.ref x) []))
  have z0:([]:List (Str × V)).length=0:=rfl
  refine ⟨_,rfl,y,Cy,dy,_,rfl,x1,T.clR,T.nr_drawn_set,by omega,?_⟩
  have x2:upd H1 y (HO.ins Cy dy (BP "drawn_set" (.int 0) (BP "organ" (.ref x) []))) y=some (.ins Cy dy (BP "drawn_set" (.int 0) (BP "organ" (.ref x) []))):=Ag
  have c2:SX y H1 (upd H1 y (HO.ins Cy dy (BP "drawn_set" (.int 0) (BP "organ" (.ref x) [])))):=SX.up
  generalize upd H1 y (HO.ins Cy dy (BP "drawn_set" (.int 0) (BP "organ" (.ref x) [])))=H2 at x2 c2 ⊢
  refine ⟨_,rfl,y,Cy,dy,_,rfl,x2,T.clR,T.nr_shoe_step,by omega,?_⟩
  have x3:upd H2 y (HO.ins Cy dy (BP "shoe_step" (.int 0) (BP "drawn_set" (.int 0) (BP "organ" (.ref x) [])))) y=some (.ins Cy dy (BP "shoe_step" (.int 0) (BP "drawn_set" (.int 0) (BP "organ" (.ref x) [])))):=Ag
  have c3:SX y H2 (upd H2 y (HO.ins Cy dy (BP "shoe_step" (.int 0) (BP "drawn_set" (.int 0) (BP "organ" (.ref x) []))))):=SX.up
  generalize upd H2 y (HO.ins Cy dy (BP "shoe_step" (.int 0) (BP "drawn_set" (.int 0) (BP "organ" (.ref x) []))))=H3 at x3 c3 ⊢
  intro sd hsd
  obtain ⟨H4,eqH,s4,e4⟩:=DW (o:=HO.dK []) hsd
  rw [eqH]
  refine ⟨_,rfl,y,Cy,dy,_,rfl,s4 _ _ x3,T.clR,T.nr_stored,by omega,?_⟩
  have ny:sd ≠ y:=Ne.symm (Ah x3 hsd)
  have c03:=c1.trans (c2.trans c3)
  have fsd:H sd=none:=by
   cases z:H sd with
   | none=>rfl
   | some ob =>
    have:=c03 sd ob z ny
    rw [hsd] at this
    cases this
  exact q sd _ (c03.trans ((SX.of s4).trans SX.up)) fsd (by rw [Al ny]; exact e4) (DQ.new Ag)
theorem cu:Aq ["self","knobs","changed"] ["self","knobs"] (Af iQ):=Bp
include N T in
theorem Px:Ar P w K mg base Bh 1 fXd dXd ["self","knobs"] (QR Cy):=by
 refine N.FXd.1.ok cu (fun vs H Q E h=>?_) (fun cdv A outer s H vs Q E hr h=>?_)
 ·obtain ⟨y,x,dr,sh,sd,n,rfl,_⟩:=h
  rfl
 ·obtain ⟨y,x,dr,sh,sd,n,rfl,D,q⟩:=h
  have hu:=CV hr
  refine ⟨_,(Ad (Cr (i:=2) cu.nd rfl (Or.inl rfl) (Ek Nb (pv 1) (Bf (pv 0) rfl) (BV _)))
   (Ad (Cm (pv 0) (pv 1) rfl)
   (Ai (Aw (pv 2))))),?_⟩
  obtain ⟨dy,fs,h1,l1,l2,l3,l4,l5,lm⟩:=id D.ex
  refine ⟨_,rfl,_,rfl,y,Cy,dy,_,_,rfl,h1,T.clR,T.nr_drawn_set,l2,rfl,?_⟩
  refine ⟨_,rfl,_,rfl,y,Cy,dy,_,rfl,h1,T.clR,T.nr_drawn_set,by omega,?_⟩
  have c1:SX y H (upd H y (HO.ins Cy dy (BP "drawn_set" (.int (n:Nat)) fs))):=SX.up
  have D1:DQ Cy (upd H y (HO.ins Cy dy (BP "drawn_set" (.int (n:Nat)) fs))) y x n sh sd:=DQ.putD n l1 l2 l3 l4 l5 lm Ag
  have e:(!decide (V.int ((n:Nat):Int)=V.int ((dr:Nat):Int))) = !decide (n=dr):=by
   congr 1
   rw [decide_eq_decide]
   constructor
   ·intro z
    have:=V.int.inj z
    omega
   ·rintro rfl
    rfl
  have q1:=q _ c1 D1
  rw [← e] at q1
  exact ⟨_,rfl,q1⟩
theorem Pn (a b:Nat):Builtin.bitAnd (a:Int) (Builtin.bitNot (b:Int))=((a - (a &&& b):Nat):Int):=by
 have h:¬ 0<=Builtin.bitNot (b:Int):=by unfold Builtin.bitNot; omega
 have nn:Builtin.bitNot (Builtin.bitNot (b:Int))=(b:Int):=by unfold Builtin.bitNot; omega
 have hle:a &&& b<=a:=Nat.and_le_left
 unfold Builtin.bitAnd
 rw [decide_eq_true (Int.natCast_nonneg a),decide_eq_false h]
 show (a:Int) - ((((a:Int).toNat &&& (Builtin.bitNot (Builtin.bitNot (b:Int))).toNat:Nat)):Int)=_
 rw [nn,Int.toNat_natCast,Int.toNat_natCast]
 omega
noncomputable abbrev Hl (ks:List R):List Str:=ks.map (·.nm)
noncomputable def Et (C Cy:Addr) (Ho H:Hp) (y x:Addr) (ks:List R) (sts:List Nat) (dr sh:Nat) (sd:Addr):Prop:=(∃ us bs rk ls,Yo C Cy Ho H y x us bs rk ks ls sts dr sh sd)/\(∀ n∈Hl ks,isNm n)/\ks.length<=100
theorem Et.mono {C Cy:Addr} {Ho H H':Hp} {y x:Addr} {ks:List R} {sts:List Nat} {dr sh:Nat} {sd:Addr} (s:Ak H H') (h:Et C Cy Ho H y x ks sts dr sh sd):Et C Cy Ho H' y x ks sts dr sh sd:=by
 obtain ⟨⟨us,bs,rk,ls,h1⟩,h2,h3⟩:=h
 exact ⟨⟨us,bs,rk,ls,h1.mono s⟩,h2,h3⟩
theorem Et.put {C Cy:Addr} {Ho H H':Hp} {y x:Addr} {ks:List R} {sts:List Nat} {dr sh dr' sh':Nat} {sd:Addr} (h:Et C Cy Ho H y x ks sts dr sh sd) (s:SX y H H') (c:DQ Cy H' y x dr' sh' sd):Et C Cy Ho H' y x ks sts dr' sh' sd:=by
 obtain ⟨⟨us,bs,rk,ls,h1⟩,h2,h3⟩:=h
 exact ⟨⟨us,bs,rk,ls,h1.o,fun b o e=>s b o (h1.s b o e) (Ah e h1.n),h1.n,c⟩,h2,h3⟩
noncomputable def V1 (up:Bool) (C Cy cK:Addr):Sp:=fun vs H Q E=>∃ (Ho:Hp) (y x:Addr) (ks:List R) (sts:List Nat) (dr sh:Nat) (sd:Addr) (v:V),vs=[.ref y,v]/\Et C Cy Ho H y x ks sts dr sh sd/\Ex H v /\
 (∀ t d2 H',SX y H H'->v=.str t->t∈Hl ks->d2=(if up then dr ||| 2 ^ (Hl ks).idxOf t else dr - (dr &&& 2 ^ (Hl ks).idxOf t))->Et C Cy Ho H' y x ks sts d2 sh sd->Q (.bl (!decide (d2=dr))) H')/\(∀ H',Ak H H'->Gp (Hl ks) v=.non->E (.ref cK) none H')
theorem iM:Aq ["self","name"] ["self","name"] (Af jc):=Bp
include N T in
theorem bF:Ar P w K mg base (JG P w) 5 fXp dXp ["self","name"] (V1 true C Cy cK):=by
 have GKn:Ar P w K mg base (JG P w) 4 fKn dKn ["organ","name"] (Yd C cK):=WY N T
 have GXd:Ar P w K mg base Bh 1 fXd dXd ["self","knobs"] (QR Cy):=Px N T
 refine N.FXp.1.Vf iM (fun vs H Q E h=>?_) (fun cdv A outer s H vs Q E hr h=>?_)
 ·obtain ⟨Ho,y,x,ks,sts,dr,sh,sd,v,rfl,_⟩:=h
  rfl
 ·obtain ⟨Ho,y,x,ks,sts,dr,sh,sd,v,rfl,O,hv,q,qe⟩:=h
  have hrKn:BW 4 _:=hr.mono (by decide)
  have hrXd:BW 1 _:=hr.mono (by decide)
  have hu:=CV hr
  refine ⟨_,(Ai (Aw (GJ (pv 0) T.clR N.FXd.2.2 GXd hrXd N.FXd.2.1 .nil Az (Ab (BR MF (Bf (pv 0) rfl) (Am GKn hrKn rfl N.FKn.2.2 N.FKn.1.kp N.FKn.2.1 .nil Jb (Ab (Bf (pv 0) rfl) (Ab (pv 1) Aa)))) Aa)))),?_⟩
  obtain ⟨⟨us,bs,rk,ls,D⟩,hn,hl⟩:=id O
  obtain ⟨dy,fs,h1,l1,l2,l3,l4,l5,lm⟩:=id D.c.ex
  refine ⟨_,rfl,y,dy,fs,rfl,h1,lm _ (by decide +kernel),_,rfl,y,Cy,dy,_,_,rfl,h1,T.clR,T.nr_drawn_set,l2,_,rfl,y,Cy,dy,_,_,rfl,h1,T.clR,T.nr_organ,l1,_,rfl,x,us,bs,rk,ks,ls,sts,v,rfl,D.o.mono D.s,hv,hn,hl,fun t H1 s1 ev ht=>?_,fun H1 s1 e=>qe H1 s1 e⟩
  subst ev
  refine ⟨_,_,rfl,rfl,?_⟩
  dsimp only
  rw [Ik]
  refine ⟨y,x,dr,sh,sd,_,rfl,D.c.mono s1,fun H2 c2 D2=>?_⟩
  exact q t _ H2 ((SX.of s1).trans c2) rfl ht rfl ((O.mono s1).put c2 D2)
theorem lL:Aq ["self","name"] ["self","name"] (Af jR):=Bp
include N T in
theorem dF:Ar P w K mg base (JG P w) 5 fXq dXq ["self","name"] (V1 false C Cy cK):=by
 have GKn:Ar P w K mg base (JG P w) 4 fKn dKn ["organ","name"] (Yd C cK):=WY N T
 have GXd:Ar P w K mg base Bh 1 fXd dXd ["self","knobs"] (QR Cy):=Px N T
 refine N.FXq.1.Vf lL (fun vs H Q E h=>?_) (fun cdv A outer s H vs Q E hr h=>?_)
 ·obtain ⟨Ho,y,x,ks,sts,dr,sh,sd,v,rfl,_⟩:=h
  rfl
 ·obtain ⟨Ho,y,x,ks,sts,dr,sh,sd,v,rfl,O,hv,q,qe⟩:=h
  have hrKn:BW 4 _:=hr.mono (by decide)
  have hrXd:BW 1 _:=hr.mono (by decide)
  have hu:=CV hr
  refine ⟨_,(Ai (Aw (GJ (pv 0) T.clR N.FXd.2.2 GXd hrXd N.FXd.2.1 .nil Az (Ab (BR Ou (Bf (pv 0) rfl) (Mx Tw (Am GKn hrKn rfl N.FKn.2.2 N.FKn.1.kp N.FKn.2.1 .nil Jb (Ab (Bf (pv 0) rfl) (Ab (pv 1) Aa))))) Aa)))),?_⟩
  obtain ⟨⟨us,bs,rk,ls,D⟩,hn,hl⟩:=id O
  obtain ⟨dy,fs,h1,l1,l2,l3,l4,l5,lm⟩:=id D.c.ex
  refine ⟨_,rfl,y,dy,fs,rfl,h1,lm _ (by decide +kernel),_,rfl,y,Cy,dy,_,_,rfl,h1,T.clR,T.nr_drawn_set,l2,_,rfl,y,Cy,dy,_,_,rfl,h1,T.clR,T.nr_organ,l1,_,rfl,x,us,bs,rk,ks,ls,sts,v,rfl,D.o.mono D.s,hv,hn,hl,fun t H1 s1 ev ht=>?_,fun H1 s1 e=>qe H1 s1 e⟩
  subst ev
  refine ⟨_,rfl,_,_,rfl,rfl,?_⟩
  dsimp only
  rw [Pn]
  refine ⟨y,x,dr,sh,sd,_,rfl,D.c.mono s1,fun H2 c2 D2=>?_⟩
  exact q t _ H2 ((SX.of s1).trans c2) rfl ht rfl ((O.mono s1).put c2 D2)
noncomputable def cX (Cy:Addr):Sp:=fun vs H Q _=>∃ (y x:Addr) (dr sh:Nat) (sd:Addr),vs=[.ref y]/\DQ Cy H y x dr sh sd/\Q (.int (dr:Nat)) H
noncomputable def dD (Cy:Addr):Sp:=fun vs H Q _=>∃ (y x:Addr) (dr sh:Nat) (sd:Addr),vs=[.ref y]/\DQ Cy H y x dr sh sd/\Q (.int (sh:Nat)) H
noncomputable def dU (C Cy:Addr):Sp:=fun vs H Q _=>∃ (Ho:Hp) (y x:Addr) (ks:List R) (sts:List Nat) (dr sh:Nat) (sd:Addr),vs=[.ref y]/\Et C Cy Ho H y x ks sts dr sh sd/\sh<=sts.length/\sts.length<=100/\∀ H',Ak H H'->Q (.int ((dr ||| Wv (sts.take sh):Nat):Int)) H'
theorem iH:Aq ["self"] ["self"] (Af lC):=Bp
include N T in
theorem Yw:Ar P w K mg base Bh 1 fXw dXw ["self"] (cX Cy):=by
 refine N.FXw.1.ok iH (fun vs H Q E h=>?_) (fun cdv A outer s H vs Q E hr h=>?_)
 ·obtain ⟨y,x,dr,sh,sd,rfl,_⟩:=h
  rfl
 ·obtain ⟨y,x,dr,sh,sd,rfl,D,q⟩:=h
  have hu:=CV hr
  refine ⟨_,(Ai (Aw (Bf (pv 0) rfl))),?_⟩
  obtain ⟨dy,fs,h1,l1,l2,l3,l4,l5,lm⟩:=id D.ex
  exact ⟨_,rfl,y,Cy,dy,_,_,rfl,h1,T.clR,T.nr_drawn_set,l2,q⟩
theorem jD:Aq ["self"] ["self"] (Af iC):=Bp
include N T in
theorem Yy:Ar P w K mg base Bh 1 fXs dXs ["self"] (dD Cy):=by
 refine N.FXs.1.ok jD (fun vs H Q E h=>?_) (fun cdv A outer s H vs Q E hr h=>?_)
 ·obtain ⟨y,x,dr,sh,sd,rfl,_⟩:=h
  rfl
 ·obtain ⟨y,x,dr,sh,sd,rfl,D,q⟩:=h
  have hu:=CV hr
  refine ⟨_,(Ai (Aw (Bf (pv 0) rfl))),?_⟩
  obtain ⟨dy,fs,h1,l1,l2,l3,l4,l5,lm⟩:=id D.ex
  exact ⟨_,rfl,y,Cy,dy,_,_,rfl,h1,T.clR,T.nr_shoe_step,l3,q⟩
theorem gw:Aq ["self"] ["self"] (Af ju):=Bp
include N T in
theorem Z4:Ar P w K mg base Bh 2 fXk dXk ["self"] (dU C Cy):=by
 have GUn:Ar P w K mg base Bh 1 fUn dUn ["sets"] bQ:=dR N T
 have GOy:Ar P w K mg base Bh 1 fOy dOy ["self"] (X4 C):=Wg N T
 refine N.FXk.1.ok gw (fun vs H Q E h=>?_) (fun cdv A outer s H vs Q E hr h=>?_)
 ·obtain ⟨Ho,y,x,ks,sts,dr,sh,sd,rfl,_⟩:=h
  rfl
 ·obtain ⟨Ho,y,x,ks,sts,dr,sh,sd,rfl,O,hsh,hst,q⟩:=h
  have hrUn:BW 1 _:=hr.mono (by decide)
  have hrOy:BW 1 _:=hr.mono (by decide)
  have hu:=CV hr
  refine ⟨_,(Ai (Aw (BR MF (Bf (pv 0) rfl) (Am GUn hrUn rfl N.FUn.2.2 N.FUn.1.kp N.FUn.2.1 .nil Az (Ab (Cp GC (Ep (Bf (pv 0) rfl) T.cl N.FOy.2.2 GOy hrOy N.FOy.2.1 .nil Az) Dk (DR (Bf (pv 0) rfl))) Aa))))),?_⟩
  obtain ⟨⟨us,bs,rk,ls,D⟩,hn,hl⟩:=id O
  obtain ⟨dy,fs,h1,l1,l2,l3,l4,l5,lm⟩:=id D.c.ex
  have OX:=D.o.mono D.s
  obtain ⟨⟨⟨dx,gs,_,_,_,_,_,_,_,_,k1,_,_,_,_,km,_⟩,_⟩,_⟩:=id OX.o
  refine ⟨_,rfl,y,Cy,dy,_,_,rfl,h1,T.clR,T.nr_drawn_set,l2,_,rfl,y,Cy,dy,_,_,rfl,h1,T.clR,T.nr_organ,l1,x,dx,gs,rfl,k1,km _ (by decide +kernel),x,us,bs,rk,ks,ls,sts,rfl,OX,fun D1 H1 hD1 s1 q1=>?_⟩
  refine ⟨_,rfl,y,Cy,dy,_,_,rfl,s1 _ _ h1,T.clR,T.nr_shoe_step,l3,_,rfl,D1,_,rfl,.inl (.inl q1),fun p2 hp2=>?_⟩
  have s2:=Av (o:=HO.lst (Dm (nV sts) none (some (sh:Int)))) hp2
  have a2:upd H1 p2 (HO.lst (Dm (nV sts) none (some (sh:Int)))) p2=_:=Ag
  generalize upd H1 p2 (HO.lst (Dm (nV sts) none (some (sh:Int))))=H2 at s2 a2 ⊢
  have lz:(nV sts).length=sts.length:=List.length_map _
  rw [Mg (nV sts) sh (by omega)] at a2
  have e2:(nV sts).take sh=nV (sts.take sh):=(List.map_take ..).symm
  rw [e2] at a2
  refine ⟨p2,sts.take sh,rfl,a2,by rw [List.length_take]; omega,_,_,rfl,rfl,?_⟩
  dsimp only
  rw [Ik]
  exact q H2 (s1.trans s2)
noncomputable def isI:V->Bool
 | .int _=>true
 | _=>false
theorem kJ {K:PySem.W.Frag}:PySem.W.kitOne K (.type "NoneType") (.type "int")=some false:=by kernel_rfl
theorem iT {K:PySem.W.Frag}:PySem.W.kitOne K (.type "bool") (.type "int")=some true:=by kernel_rfl
theorem lG {K:PySem.W.Frag}:PySem.W.kitOne K (.type "bool") (.type "bool")=some true:=by kernel_rfl
theorem jT {K:PySem.W.Frag}:PySem.W.kitOne K (.type "list") (.type "int")=some false:=by kernel_rfl
theorem kh {K:PySem.W.Frag}:PySem.W.kitOne K (.type "tuple") (.type "int")=some false:=by kernel_rfl
theorem lM {K:PySem.W.Frag}:PySem.W.kitOne K (.type "str") (.type "int")=some false:=by kernel_rfl
noncomputable def Uj:Sp:=fun vs H Q _=>∃ v:V,vs=[v]/\Ex H v/\Q (.bl (isI v)) H
include N T in
theorem TF:Ar P w K mg base Bh 1 fWh dWh ["thing"] Uj:=by
 refine N.FWh.1.ok cD (fun vs H Q E h=>?_) (fun cdv A outer s H vs Q E hr h=>?_)
 ·obtain ⟨v,rfl,_⟩:=h
  rfl
 ·obtain ⟨v,rfl,hv,q⟩:=h
  refine ⟨_,(Ai (Aw (Dh (BJ DP rfl T.isin PyProof.Rows.boot_isinstance (Ab (pv 0) (Ab (Eb (v:=.ty "int") rfl T.int PyProof.Rows.boot_int rfl) Aa))) (Dd (Ot (BJ DP rfl T.isin PyProof.Rows.boot_isinstance (Ab (pv 0) (Ab (Eb (v:=.ty "bool") rfl T.bool PyProof.Rows.boot_bool rfl) Aa)))))))),?_⟩
  cases hv with
  | non=>exact ⟨_,rfl,_,"int",_,_,rfl,.non,kJ,_,rfl,Bo q⟩
  | bl b=>exact ⟨_,rfl,_,"int",_,_,rfl,.bl b,iT,_,rfl,Cj ⟨_,rfl,_,"bool",_,_,rfl,.bl b,lG,_,rfl,q⟩⟩
  | int i=>exact ⟨_,rfl,_,"int",_,_,rfl,.int i,ty_int,_,rfl,Cj ⟨_,rfl,_,"bool",_,_,rfl,.int i,Wj,_,rfl,q⟩⟩
  | lst h=>exact ⟨_,rfl,_,"int",_,_,rfl,.lst h,jT,_,rfl,Bo q⟩
  | tup h=>exact ⟨_,rfl,_,"int",_,_,rfl,.tup h,kh,_,rfl,Bo q⟩
  | str h=>exact ⟨_,rfl,_,"int",_,_,rfl,.str _,lM,_,rfl,Bo q⟩
noncomputable def X_ (n:Nat):V->Bool
 | .int i=>decide (0<=i) && decide (i<=(n:Nat))
 | _=>false
noncomputable def aG (C Cy cS:Addr):Sp:=fun vs H Q E=>∃ (Ho:Hp) (y x:Addr) (ks:List R) (sts:List Nat) (dr sh:Nat) (sd:Addr) (v:V),vs=[.ref y,v]/\Et C Cy Ho H y x ks sts dr sh sd/\Ex H v /\
 (∀ (i:Nat) H',v=.int (i:Nat)->i<=sts.length->SX y H H'->Et C Cy Ho H' y x ks sts dr i sd->Q .non H')/\(∀ H',Ak H H'->X_ sts.length v=false->E (.ref cS) none H')
theorem jZ:Aq ["self","step"] ["self","step"] (Af jr):=Bp
include N T in
theorem cG:Ar P w K mg base (JG P w) 3 fXh dXh ["self","step"] (aG C Cy cS):=by
 have GWhG:Ar P w K mg base Bh 1 fWh dWh ["thing"] Uj:=TF N T
 have GOy:Ar P w K mg base Bh 1 fOy dOy ["self"] (X4 C):=Wg N T
 refine N.FXh.1.Vf jZ (fun vs H Q E h=>?_) (fun cdv A outer s H vs Q E hr h=>?_)
 ·obtain ⟨Ho,y,x,ks,sts,dr,sh,sd,v,rfl,_⟩:=h
  rfl
 ·obtain ⟨Ho,y,x,ks,sts,dr,sh,sd,v,rfl,O,hv,q,qe⟩:=h
  have hrWhG:BW 1 _:=hr.mono (by decide)
  have hrOy:BW 1 _:=hr.mono (by decide)
  have hu:=CV hr
  refine ⟨_,(Ad (Bg (PW.pt (Ib (Dy (Dj (Am GWhG hrWhG rfl N.FWh.2.2 N.FWh.1.kp N.FWh.2.1 .nil Az (Ab (pv 1) Aa)))) (GX (Dy (MP Fj Fj Ac (pv 1) (BJ BX rfl T.len PySem.boot_len (Ab (Ep (Bf (pv 0) rfl) T.cl N.FOy.2.2 GOy hrOy N.FOy.2.1 .nil Az) Aa))))))) (Ai (Gk T.x4.rS.ex rfl T.x4.mS rfl Ht (Ab BL Aa))) BZ)
   (Ai (Cm (pv 0) (pv 1) rfl))),?_⟩
  obtain ⟨⟨us,bs,rk,ls,D⟩,hn,hl⟩:=id O
  obtain ⟨dy,fs,h1,l1,l2,l3,l4,l5,lm⟩:=id D.c.ex
  have OX:=D.o.mono D.s
  obtain ⟨⟨⟨dx,gs,_,_,_,_,_,_,_,_,k1,_,_,_,_,km,_⟩,_⟩,_⟩:=id OX.o
  refine ⟨_,rfl,v,rfl,hv,_,rfl,?_⟩
  cases v with
  | int i =>
   refine Bo ⟨_,rfl,_,_,rfl,rfl,_,rfl,Ci (fun h0=>?_) (fun h0=>?_)⟩
   ·refine ⟨_,rfl,y,Cy,dy,_,_,rfl,h1,T.clR,T.nr_organ,l1,x,dx,gs,rfl,k1,km _ (by decide +kernel),x,us,bs,rk,ks,ls,sts,rfl,OX,fun D1 H1 hD1 s1 q1=>?_⟩
    refine ⟨D1,_,rfl,.inl (.inl (.inl q1)),_,_,rfl,rfl,decide (i<=(((nV sts).length:Nat):Int)),rfl,?_⟩
    have lst:(nV sts).length=sts.length:=List.length_map _
    by_cases hi:i<=((sts.length:Nat):Int)
    ·rw [decide_eq_true (show i<=(((nV sts).length:Nat):Int) by omega)]
     have i0:0<=i:=of_decide_eq_true h0
     refine Bo ?_
     refine ⟨_,rfl,_,rfl,y,Cy,dy,_,rfl,s1 _ _ h1,T.clR,T.nr_shoe_step,by omega,?_⟩
     obtain ⟨j,rfl⟩:=Int.eq_ofNat_of_zero_le i0
     exact q j _ rfl (by omega) ((SX.of s1).trans SX.up) ((O.mono s1).put SX.up (DQ.ZC j l1 l2 l3 l4 l5 lm Ag))
    ·rw [decide_eq_false (show ¬ i<=(((nV sts).length:Nat):Int) by omega)]
     exact Cj ⟨by show 1<=1000; decide,qe H1 s1 (by show (decide (0<=i) && decide (i<=((sts.length:Nat):Int)))=false; rw [decide_eq_false hi,Bool.and_false])⟩
   ·exact ⟨_,rfl,Cj ⟨by show 1<=1000; decide,qe H (Ak.refl H) (by show (decide (0<=i) && decide (i<=((sts.length:Nat):Int)))=false; rw [decide_eq_false (fun z=>h0 (decide_eq_true z)),Bool.false_and])⟩⟩
  | _=>exact Cj ⟨by show 1<=1000; decide,qe H (Ak.refl H) rfl⟩
open Bw
theorem kW {c:Int}:0<=(if c<0 then -c else c):=by split <;> omega
theorem Qv:Aq ["_law_script","_law_start","_law_cells","_law_number","_law_k","_law_mixed"] ["_law_script","_law_start"] (Af eQ):=Bp
include N T in
theorem dI:Ar P w K mg base Bh 1 fDn dDn ["_law_script","_law_start"] (Zv K):=by
 refine N.FDn.1.ok Qv (fun vs H Q E h=>?_) (fun cdv A outer s H vs Q E hr h=>?_)
 ·obtain ⟨a,st,ns,rfl,_⟩:=h
  rfl
 ·obtain ⟨a,st,ns,rfl,hS,h0,h1,hz,q⟩:=h
  refine ⟨_,(@Ad _ _ _ _ _ (@Bb _ _ _ _ _ _ 2 Qv.nd rfl (Or.inl rfl) (BR Nt (Bk rfl (Ba (osc:=Af eQ) (N:=["_law_script","_law_start","_law_cells","_law_number","_law_k","_law_mixed"]) rfl rfl (by decide +kernel)) (Br (Cp GC (pv 0) Dk (DR Ac))) (fun _ _ _ _=>Cq) (fun _ _ _ _=>(BJ Tf rfl T.abs PyProof.Rows.boot_abs (@An _ _ _ _ _ rfl (pv 0) Aa)))) (@Cv _ _ _ _ (@An _ _ _ _ _ rfl Ac Aa))) (by kernel_rfl) (.inl rfl))
   (@Ad _ _ _ _ _ (@Bb _ _ _ _ _ _ 3 Qv.nd rfl (Or.inl rfl) (pv 1) (by kernel_rfl) (.inl rfl))
   (@Ad _ _ _ _ _ (Dz PassesOwn.never rfl (El rfl T.range (@An _ _ _ _ _ rfl (BJ BX rfl T.len PySem.boot_len (@An _ _ _ _ _ rfl (pv 2) Aa)) Aa)) (B_ (i:=4) Qv.nd rfl (Or.inl rfl)) (@Ai _ _ _ (@Bb _ _ _ _ _ _ 3 Qv.nd rfl (Or.inl rfl) (BR CN (BR Di (BR Di (BR F_ (pv 3) Ac) (BR F_ (BR CN (@Ay _ _ _ _ _ _ _ Bt (pv 2) (pv 4) (fun _ _=>rfl)) Ac) (BR Di (BR F_ (pv 4) (pv 4)) Ac))) Ac) Ac) (by kernel_rfl) (.inl rfl))))
   (@Ad _ _ _ _ _ (@Bb _ _ _ _ _ _ 5 Qv.nd rfl (Or.inl rfl) (BR F_ (BR CN (@Ay _ _ _ _ _ _ _ Bt (pv 2) Ac (fun _ _=>rfl)) Ac) (BJ BX rfl T.len PySem.boot_len (@An _ _ _ _ _ rfl (pv 2) Aa))) (by kernel_rfl) (.inl rfl))
   (@Ad _ _ _ _ _ (J4 (BR Ej (@Ay _ _ _ _ _ _ _ Bt (pv 2) Ac (fun _ _=>rfl)) Ac) (Ju (pv 2) Ac set_list))
   (@Ai _ _ _ (@Aw _ _ _ _ (@Cv _ _ _ _ (@An _ _ _ _ _ rfl (pv 2) (@An _ _ _ _ _ rfl (pv 5) (@An _ _ _ _ _ rfl (pv 3) (@An _ _ _ _ _ rfl Ac Aa)))))))))))),?_⟩
  refine ⟨_,rfl,_,rfl,a,_,rfl,hS,fun p1 hp1=>?_⟩
  obtain ⟨ms,em,hm⟩:=Uv ns none (some 63)
  rw [em]
  have s1:=Av (o:=HO.lst (ms.map V.int)) hp1
  have l1:Cw K (upd H p1 (HO.lst (ms.map V.int))) p1 (ms.map V.int):=.inl (.inl Ag)
  generalize upd H p1 (HO.lst (ms.map V.int))=H1 at s1 l1 ⊢
  refine ⟨p1,rfl,⟨_,l1⟩,Cu (K:=K) (xs:=ms.map V.int) (fun _=>true) (fun v=>match v with | .int i=>.int (if i<0 then -i else i) | x=>x) l1 (A_ (by simp; omega)) (fun x hx H' hs R k=>k H' (Ak.refl H')) (fun x hx _ H' hs R k=>?_) (fun D H2 hD hs hl=>?_)⟩
  ·obtain ⟨i,_,rfl⟩:=List.mem_map.mp hx
   exact ⟨_,rfl,i,rfl,k H' (Ak.refl H')⟩
  rw [List.filter_eq_self.mpr (fun _ _=>rfl),List.map_map] at hl
  have hl':H2 D=some (.lst ((ms.map fun i=>if i<0 then -i else i).map V.int)):=by rw [hl,List.map_map]; rfl
  clear hl
  have hnn:∀ c∈ms.map (fun i:Int=>if i<0 then -i else i),(0:Int)<=c:=fun c hc=>by
   obtain ⟨i,_,rfl⟩:=List.mem_map.mp hc
   exact kW
  have hml:(ms.map fun i:Int=>if i<0 then -i else i).length<=63:=by rw [List.length_map]; omega
  generalize (ms.map fun i:Int=>if i<0 then -i else i)=as at hl' hnn hml
  refine ⟨by show 1<=sizeLine; decide,fun p3 hp3=>?_⟩
  obtain ⟨H3,eqH,s3,l3⟩:=DW (o:=HO.lst [V.int 0]) hp3
  rw [eqH]
  refine ⟨D,p3,_,_,rfl,rfl,s3 _ _ hl',l3,Be (by simp; omega),fun pc hpc=>?_⟩
  have s4:=Av (o:=HO.lst (as.map V.int++[V.int 0])) hpc
  have l4:upd H3 pc (HO.lst (as.map V.int++[V.int 0])) pc=some (.lst ((as++[0]).map V.int)):=by rw [Ag,List.map_append]; rfl
  have hn4:∀ c∈as++[0],(0:Int)<=c:=fun c hc=>by
   rcases List.mem_append.mp hc with h | h
   ·exact hnn c h
   ·rw [List.mem_singleton.mp h]; exact Int.le_refl _
  have hl4:0<(as++[0]).length/\(as++[(0:Int)]).length<=64:=by rw [List.length_append,List.length_singleton]; omega
  have hfree:H pc=none:=(s1.trans (hs.trans s3)).free hpc
  have s04:=s1.trans (hs.trans (s3.trans s4))
  generalize upd H3 pc (HO.lst (as.map V.int++[V.int 0]))=H4 at s4 l4 s04 ⊢
  generalize as++[0]=cs at l4 hn4 hl4
  clear s1 l1 hl' hnn hml s3 l3 s4 hpc hp3 hp1 hD hs
  have qc:Cw K H4 pc (cs.map V.int):=.inl (.inl l4)
  have hlen:(cs.map V.int).length=cs.length:=List.length_map ..
  refine ⟨_,rfl,?_⟩
  refine ⟨_,rfl,pc,_,rfl,.inl qc,_,rfl,by omega,by omega,Gv (lo:=0) (n:=(((cs.map V.int).length:Nat):Int).toNat) (fun i σ H5=>H5=H4/\∃ (num:Int) (v4:Option V),0<=num/\num<2147483647/\σ=[some (.ref a),some (.int st),some (.ref pc),some (.int num),v4,none]) ⟨rfl,st,none,h0,h1,rfl⟩ ?_ ?_⟩
  ·rintro i σ H5 hi ⟨rfl,num,v4,hn0,hn1,rfl⟩
   obtain ⟨c,_,hc,hat⟩:=Lq (ns:=cs) (i:=(0:Int)+(i:Int)) (by omega) (by omega)
   have c0:0<=c % 2147483647/\c % 2147483647<2147483647:=⟨Int.emod_nonneg _ (by decide),Int.emod_lt_of_pos _ (by decide)⟩
   refine ⟨_,rfl,_,_,rfl,rfl,.inr ⟨by decide,by decide⟩,_,rfl,_,rfl,pc,_,_,_,rfl,rfl,qc,hat,_,_,rfl,rfl,(by show (0:Int)<2147483647; decide),_,rfl,_,rfl,_,_,rfl,rfl,.inl ⟨by omega,by omega⟩,_,_,rfl,rfl,_,_,rfl,rfl,.inl ⟨by omega,by omega⟩,_,_,rfl,rfl,_,_,rfl,rfl,_,_,rfl,rfl,(by show (0:Int)<2147483629; decide),?_⟩
   refine ⟨rfl,_,_,Int.emod_nonneg _ (by decide),?_,rfl⟩
   exact Int.lt_trans (Int.emod_lt_of_pos _ (by decide)) (by decide)
  ·rintro σ H5 ⟨rfl,num,v4,hn0,hn1,rfl⟩
   obtain ⟨c,ec,hc,hat⟩:=Lq (ns:=cs) (i:=0) (by decide) (by omega)
   have m2:0<=c % 2/\c % 2<2:=⟨Int.emod_nonneg _ (by decide),Int.emod_lt_of_pos _ (by decide)⟩
   refine ⟨_,rfl,pc,_,_,_,rfl,rfl,qc,hat,_,_,rfl,rfl,(by show (0:Int)<2; decide),_,rfl,pc,_,rfl,.inl qc,_,_,rfl,rfl,.inl ⟨by omega,by omega⟩,?_⟩
   have hmx:0<=c % 2 * ((cs.map V.int).length:Int)/\c % 2 * ((cs.map V.int).length:Int)<=cs.length:=by
    rw [hlen]
    have:c % 2=0 \/ c % 2=1:=by omega
    rcases this with e | e <;> rw [e] <;> omega
   show Eo 5 (V.int (c % 2 * ((cs.map V.int).length:Int))) _ _ _
   generalize c % 2 * ((cs.map V.int).length:Int)=mx at hmx
   refine ⟨_,rfl,pc,_,_,_,rfl,rfl,qc,hat,_,_,rfl,rfl,⟨by decide,by decide⟩,_,rfl,pc,_,0,0,rfl,rfl,l4,Ry (by decide) (by omega),?_⟩
   have e5:((cs.map V.int).set 0 (V.int (c / 2)))=(cs.set 0 (c / 2)).map V.int:=by rw [List.map_set]
   have l5:upd H5 pc (HO.lst ((cs.map V.int).set 0 (V.int (c / 2)))) pc=some (.lst ((cs.set 0 (c / 2)).map V.int)):=by rw [Ag,e5]
   have s5:Ak H (upd H5 pc (HO.lst ((cs.map V.int).set 0 (V.int (c / 2))))):=fun b o e=>by rw [Al (Ah e hfree)]; exact s04 b o e
   generalize upd H5 pc (HO.lst ((cs.map V.int).set 0 (V.int (c / 2))))=H6 at l5 s5 ⊢
   refine ⟨_,rfl,_,rfl,_,rfl,by show 4<=sizeLine; decide,fun dh hdh=>?_⟩
   refine q dh pc _ (s5.free hdh) hfree (s5.trans (Av hdh)) ?_
   refine ⟨cs.set 0 (c / 2),mx,num,Ag,?_,?_,?_,hmx.1,by rw [List.length_set]; exact hmx.2,hn0,hn1,by rw [List.length_set]; exact hl4.2⟩
   ·rw [Al (Ah l5 hdh)]
    exact l5
   ·intro e
    rw [e,l5] at hdh
    cases hdh
   ·intro x hx
    rcases List.mem_or_eq_of_mem_set hx with h | h
    ·exact hn4 x h
    ·rw [h]
     have:=hn4 c hc
     omega
theorem Vp:Aq ["_law_drawn_here","_law_many","_law_cells","_law_turn","_law_digit"] ["_law_drawn_here","_law_many"] (Af lR):=Bp
include N T in
theorem Z0:Ar P w K mg base Bh 1 fDw dDw ["_law_drawn_here","_law_many"] Yz:=by
 refine N.FDw.1.ok Vp (fun vs H Q E h=>?_) (fun cdv A outer s H vs Q E hr h=>?_)
 ·obtain ⟨dh,pc,n,many,rfl,_⟩:=h
  rfl
 ·obtain ⟨dh,pc,n,many,rfl,⟨cs,m,r,hd,hp,ne,hn,hm0,hm1,hr0,hr1,hl⟩,hnn,hma,hmb,q⟩:=h
  refine ⟨_,(@Ad _ _ _ _ _ (@Bb _ _ _ _ _ _ 2 Vp.nd rfl (Or.inl rfl) (@Ay _ _ _ _ _ _ _ Bt (pv 0) Ac (fun _ _=>rfl)) (by kernel_rfl) (.inl rfl))
   (@Ad _ _ _ _ _ (J4 (BR Di (@Ay _ _ _ _ _ _ _ Bt (pv 0) Ac (fun _ _=>rfl)) Ac) (Ju (pv 0) Ac set_list))
   (@Ad _ _ _ _ _ (TV PassesOwn.never (PW.pt (JK (BK JN (@Ay _ _ _ _ _ _ _ Bt (pv 0) Ac (fun _ _=>rfl)) (BJ BX rfl T.len PySem.boot_len (@An _ _ _ _ _ rfl (pv 2) Aa)) (BV _)) (Gy (BK Bu (@Ay _ _ _ _ _ _ _ Bt (pv 2) (@Ay _ _ _ _ _ _ _ Bt (pv 0) Ac (fun _ _=>rfl)) (fun _ _=>rfl)) Ac (BV _))))) (@Ai _ _ _ (J4 (BR Di (@Ay _ _ _ _ _ _ _ Bt (pv 0) Ac (fun _ _=>rfl)) Ac) (Ju (pv 0) Ac set_list))))
   (@Ad _ _ _ _ _ (@Bg _ _ _ _ _ _ _ _ (BK Bu (@Ay _ _ _ _ _ _ _ Bt (pv 0) Ac (fun _ _=>rfl)) (BJ BX rfl T.len PySem.boot_len (@An _ _ _ _ _ rfl (pv 2) Aa)) (BV _)) (@Ad _ _ _ _ _ (@Bb _ _ _ _ _ _ 3 Vp.nd rfl (Or.inl rfl) (@Ay _ _ _ _ _ _ _ Bt (pv 0) Ac (fun _ _=>rfl)) (by kernel_rfl) (.inl rfl))
   (@Ad _ _ _ _ _ (J4 (BR CN (BR Di (BR Di (BR F_ (@Ay _ _ _ _ _ _ _ Bt (pv 0) Ac (fun _ _=>rfl)) Ac) (BR F_ (BR F_ (pv 3) (pv 3)) (pv 3))) Ac) Ac) (Ju (pv 0) Ac set_list))
   (@Ai _ _ _ (@Aw _ _ _ _ (BR CN (BR Ej (BR CN (BR F_ (@Ay _ _ _ _ _ _ _ Bt (pv 0) Ac (fun _ _=>rfl)) (@Ay _ _ _ _ _ _ _ Bt (pv 0) Ac (fun _ _=>rfl))) Ac) Ac) (pv 1)))))) BZ)
   (@Ad _ _ _ _ _ (@Bb _ _ _ _ _ _ 4 Vp.nd rfl (Or.inl rfl) (BR CN (@Ay _ _ _ _ _ _ _ Bt (pv 2) (@Ay _ _ _ _ _ _ _ Bt (pv 0) Ac (fun _ _=>rfl)) (fun _ _=>rfl)) (pv 1)) (by kernel_rfl) (.inl rfl))
   (@Ad _ _ _ _ _ (J4 (BR Ej (@Ay _ _ _ _ _ _ _ Bt (pv 2) (@Ay _ _ _ _ _ _ _ Bt (pv 0) Ac (fun _ _=>rfl)) (fun _ _=>rfl)) (pv 1)) (Ju (pv 2) (@Ay _ _ _ _ _ _ _ Bt (pv 0) Ac (fun _ _=>rfl)) set_list))
   (@Ai _ _ _ (@Aw _ _ _ _ (pv 4))))))))),?_⟩
  have qd:Cw K H dh _:=.inl (.inl hd)
  refine ⟨_,rfl,dh,_,_,_,rfl,rfl,qd,Aj (j:=0) rfl,?_⟩
  refine ⟨_,rfl,dh,_,_,_,rfl,rfl,qd,Aj (j:=3) rfl,_,_,rfl,rfl,_,rfl,dh,_,3,3,rfl,rfl,hd,rfl,?_⟩
  have d1:upd H dh (HO.lst ([V.ref pc,V.int m,V.int r,V.int (n:Int)].set 3 (V.int ((n:Int)+1)))) dh=some (.lst [V.ref pc,V.int m,V.int r,V.int ((n+1:Nat):Int)]):=Ag
  have f1:W4 H (upd H dh (HO.lst ([V.ref pc,V.int m,V.int r,V.int (n:Int)].set 3 (V.int ((n:Int)+1))))) dh pc:=fun b h1 h2=>Al h1
  have p1:upd H dh (HO.lst ([V.ref pc,V.int m,V.int r,V.int (n:Int)].set 3 (V.int ((n:Int)+1)))) pc=some (.lst (cs.map V.int)):=by rw [Al (Ne.symm ne)]; exact hp
  generalize upd H dh (HO.lst ([V.ref pc,V.int m,V.int r,V.int (n:Int)].set 3 (V.int ((n:Int)+1))))=H1 at d1 f1 p1 ⊢
  refine Uq ?_
  have hlen:(cs.map V.int).length=cs.length:=List.length_map ..
  refine R1 (fun σ H4=>σ=[some (.ref dh),some (.int many),some (.ref pc),none,none]/\∃ m,0<=m/\m<=(cs.length:Int)/\H4 dh=some (.lst [V.ref pc,V.int m,V.int r,V.int ((n+1:Nat):Int)])/\H4 pc=some (.lst (cs.map V.int))/\W4 H H4 dh pc)
   (fun _ H4=>match H4 dh with | some (.lst [_,.int m,_,_])=>((cs.length:Int) - m).toNat | _=>0) ⟨rfl,m,hm0,hm1,d1,p1,f1⟩ ?_ ?_
  ·rintro σ H4 ⟨rfl,m,hm0,hm1,d4,p4,f4⟩
   have qd:Cw K H4 dh _:=.inl (.inl d4)
   have qc:Cw K H4 pc _:=.inl (.inl p4)
   refine ⟨_,rfl,dh,_,_,_,rfl,rfl,qd,Aj (j:=1) rfl,_,rfl,pc,_,rfl,.inl qc,_,_,rfl,rfl,_,rfl,?_⟩
   refine Ci (fun h1=>?_) (fun h1=>?_)
   ·have h1':m<cs.length:=by have:=of_decide_eq_true h1; omega
    obtain ⟨c,ec,hc,hat⟩:=Lq (ns:=cs) (i:=m) hm0 h1'
    refine ⟨_,rfl,_,rfl,dh,_,_,_,rfl,rfl,qd,Aj (j:=1) rfl,pc,_,_,_,rfl,rfl,qc,hat,rfl,_,rfl,?_⟩
    refine Ci (fun h2=>?_) (fun h2=>?_)
    ·refine ⟨_,rfl,dh,_,_,_,rfl,rfl,qd,Aj (j:=1) rfl,_,_,rfl,rfl,_,rfl,dh,_,1,1,rfl,rfl,d4,rfl,?_⟩
     have d5:upd H4 dh (HO.lst ([V.ref pc,V.int m,V.int r,V.int ((n+1:Nat):Int)].set 1 (V.int (m+1)))) dh=some (.lst [V.ref pc,V.int (m+1),V.int r,V.int ((n+1:Nat):Int)]):=Ag
     refine ⟨⟨rfl,m+1,by omega,by omega,d5,by rw [Al (Ne.symm ne)]; exact p4,fun b h3 h4=>by rw [Al h3]; exact f4 b h3 h4⟩,?_⟩
     dsimp only
     rw [d4,d5]
     show ((cs.length:Int) - (m+1)).toNat<((cs.length:Int) - m).toNat
     omega
    ·have hcz:c ≠ 0:=fun z=>h2 (by rw [z]; rfl)
     refine ⟨_,rfl,dh,_,_,_,rfl,rfl,qd,Aj (j:=1) rfl,_,rfl,pc,_,rfl,.inl qc,rfl,_,rfl,?_⟩
     refine Ci (fun h3=>?_) (fun h3=>?_)
     ·have h3':V.int m=V.int ((cs.map V.int).length:Int):=of_decide_eq_true h3
      have:=V.int.inj h3'
      omega
     ·refine ⟨_,rfl,_,rfl,dh,_,_,_,rfl,rfl,qd,Aj (j:=1) rfl,pc,_,_,_,rfl,rfl,qc,hat,_,rfl,_,_,rfl,rfl,hma,?_⟩
      refine ⟨_,rfl,_,rfl,dh,_,_,_,rfl,rfl,qd,Aj (j:=1) rfl,pc,_,_,_,rfl,rfl,qc,hat,_,rfl,_,_,rfl,rfl,⟨hma,hmb⟩,_,rfl,_,rfl,dh,_,_,_,rfl,rfl,qd,Aj (j:=1) rfl,pc,_,_,m.toNat,rfl,rfl,p4,Ry hm0 (by omega),?_⟩
      have l5:upd H4 pc (HO.lst ((cs.map V.int).set m.toNat (V.int (c / many)))) pc=some (.lst ((cs.set m.toNat (c / many)).map V.int)):=by rw [Ag,List.map_set]
      refine ⟨_,rfl,q (c % many) _ (Int.emod_nonneg _ (by omega)) (Int.emod_lt_of_pos _ hma) ⟨cs.set m.toNat (c / many),m,r,by rw [Al ne]; exact d4,l5,ne,fun x hx=>?_,hm0,by rw [List.length_set]; omega,hr0,hr1,by rw [List.length_set]; exact hl⟩ (fun b h3 h4=>by rw [Al h4]; exact f4 b h3 h4)⟩
      rcases List.mem_or_eq_of_mem_set hx with h | h
      ·exact hn x h
      ·rw [h]
       exact Int.ediv_nonneg (hn c hc) (by omega)
   ·have h1':¬ m<cs.length:=fun z=>h1 (decide_eq_true (by omega))
    have em:m=((cs.map V.int).length:Int):=by omega
    refine ⟨_,rfl,dh,_,_,_,rfl,rfl,qd,Aj (j:=1) rfl,_,rfl,pc,_,rfl,.inl qc,rfl,_,rfl,?_⟩
    refine Ci (fun h3=>?_) (fun h3=>absurd (decide_eq_true (by rw [em])) h3)
    refine ⟨_,rfl,dh,_,_,_,rfl,rfl,qd,Aj (j:=3) rfl,?_⟩
    refine ⟨_,rfl,dh,_,_,_,rfl,rfl,qd,Aj (j:=2) rfl,_,_,rfl,rfl,.inr ⟨by decide,by decide⟩,_,rfl,_,rfl,_,_,rfl,rfl,.inl ⟨by omega,by omega⟩,_,rfl,_,_,rfl,rfl,.inr ⟨by omega,by omega⟩,_,_,rfl,rfl,_,_,rfl,rfl,_,_,rfl,rfl,(by show (0:Int)<2147483647; decide),_,rfl,dh,_,2,2,rfl,rfl,d4,rfl,?_⟩
    dsimp only
    have hb0:=Int.emod_nonneg (r * 48271+((n+1:Nat):Int) * ((n+1:Nat):Int) * ((n+1:Nat):Int)+1) (show (2147483647:Int) ≠ 0 by decide)
    have hb1:=Int.emod_lt_of_pos (r * 48271+((n+1:Nat):Int) * ((n+1:Nat):Int) * ((n+1:Nat):Int)+1) (show (0:Int)<2147483647 by decide)
    generalize (r * 48271+((n+1:Nat):Int) * ((n+1:Nat):Int) * ((n+1:Nat):Int)+1) % 2147483647=r2 at hb0 hb1 ⊢
    have d5:upd H4 dh (HO.lst ([V.ref pc,V.int m,V.int r,V.int ((n+1:Nat):Int)].set 2 (V.int r2))) dh=some (.lst [V.ref pc,V.int m,V.int r2,V.int ((n+1:Nat):Int)]):=Ag
    have p5:upd H4 dh (HO.lst ([V.ref pc,V.int m,V.int r,V.int ((n+1:Nat):Int)].set 2 (V.int r2))) pc=some (.lst (cs.map V.int)):=by rw [Al (Ne.symm ne)]; exact p4
    have f5:W4 H (upd H4 dh (HO.lst ([V.ref pc,V.int m,V.int r,V.int ((n+1:Nat):Int)].set 2 (V.int r2)))) dh pc:=fun b h3 h4=>by rw [Al h3]; exact f4 b h3 h4
    generalize upd H4 dh (HO.lst ([V.ref pc,V.int m,V.int r,V.int ((n+1:Nat):Int)].set 2 (V.int r2)))=H5 at d5 p5 f5 ⊢
    have qd5:Cw K H5 dh _:=.inl (.inl d5)
    refine ⟨_,rfl,dh,_,_,_,rfl,rfl,qd5,Aj (j:=2) rfl,_,rfl,dh,_,_,_,rfl,rfl,qd5,Aj (j:=2) rfl,_,_,rfl,rfl,.inl ⟨by omega,by omega⟩,_,_,rfl,rfl,(by show (0:Int)<2147483629; decide),_,_,rfl,rfl,⟨by decide,by decide⟩,_,rfl,_,_,rfl,rfl,hma,?_⟩
    exact q _ _ (Int.emod_nonneg _ (by omega)) (Int.emod_lt_of_pos _ hma) ⟨cs,m,r2,d5,p5,ne,hn,hm0,hm1,hb0,hb1,hl⟩ f5
  ·rintro σ H4 Q1 Q2 hq ⟨v,e1,p,xs,i,z,e2,e3,hs,ha,v2,e4,p2,ys,e5,hy,i2,j2,e6,e7,k,e8,hh⟩
   refine ⟨v,e1,p,xs,i,z,e2,e3,hs,ha,v2,e4,p2,ys,e5,hy,i2,j2,e6,e7,k,e8,?_⟩
   cases k with
   | false =>
    rw [if_neg Bool.false_ne_true] at hh
    exact Bo (hq _ _ hh)
   | true =>
    rw [if_pos rfl] at hh
    obtain ⟨v3,f1,v4,f2,p3,xs3,i3,z3,f3,f4,hs3,ha3,p4,xs4,i4,z4,f5,f6,hs4,ha4,f7,k2,f8,hQ⟩:=hh
    exact Cj ⟨v3,f1,v4,f2,p3,xs3,i3,z3,f3,f4,hs3,ha3,p4,xs4,i4,z4,f5,f6,hs4,ha4,f7,k2,f8,hq _ _ hQ⟩
open Bw
theorem k_ {k:Nat} (h:k<12):QB ("abcdefghijkl" : Str).cps.toList ((k:Nat):Int)=some (97+k):=by
 have e:("abcdefghijkl" : Str).cps.toList=[97,98,99,100,101,102,103,104,105,106,107,108]:=by decide +kernel
 rw [e]
 refine Aj ?_
 match k,h with
 | 0,_=>rfl
 | 1,_=>rfl
 | 2,_=>rfl
 | 3,_=>rfl
 | 4,_=>rfl
 | 5,_=>rfl
 | 6,_=>rfl
 | 7,_=>rfl
 | 8,_=>rfl
 | 9,_=>rfl
 | 10,_=>rfl
 | 11,_=>rfl
theorem Lr {c:Str} (hc:c.length=1) {m:Nat} (hm:m<=8):MulOk c ((m:Nat):Int):=by
 refine ⟨?_,fun _ _=>?_,fun _ _=>?_⟩
 ·rw [Bool.or_eq_false_iff,decide_eq_false_iff_not,decide_eq_false_iff_not]
  omega
 ·rw [hc]
  by_cases h0:m=0
  ·subst h0
   contradiction
  have:(1:Int)<=(2 ^ 63 - 1) / (m:Int):=by
   rw [Int.le_ediv_iff_mul_le (by omega)]
   omega
  show ¬ ((1:Int) > (2 ^ 63 - 1) / (m:Int))
  omega
 ·rw [hc,Int.toNat_natCast]
  have h1:∀ j<9,Builtin.Str.tooLong (1 * j)=false:=by decide +kernel
  exact h1 m (by omega)
theorem HB {f:Nat->Str} {n:Nat} (h:((List.range n).all fun a=>decide ((f a).length<=100))=true) {a:Nat} (ha:a<n):(f a).length<=100:=by
 rw [List.all_eq_true] at h
 exact of_decide_eq_true (h a (List.mem_range.mpr ha))
theorem Mm {a b:Nat} (h1:a<=200) (h2:b<=200):a+b<=sizeLine:=Nat.le_of_lt (A_ (by omega))
theorem ZM {a:Nat} (h:a<5):(Txt.mul "v" (a:Nat)).length<=100:=HB (f:=fun a=>Txt.mul "v" (a:Nat)) (n:=5) (by decide +kernel) h
theorem aJ {a:Nat} (h:a<9):(Txt.mul "o" (a:Nat)).length<=100:=HB (f:=fun a=>Txt.mul "o" (a:Nat)) (n:=9) (by decide +kernel) h
theorem Zr {a:Nat} (h:a<9):(Txt.mul "b" (a:Nat)).length<=100:=HB (f:=fun a=>Txt.mul "b" (a:Nat)) (n:=9) (by decide +kernel) h
theorem Ud {a:Nat} (h:a<5):(Txt.slice "qrst" none (some (a:Nat))).length<=100:=HB (f:=fun a=>Txt.slice "qrst" none (some (a:Nat))) (n:=5) (by decide +kernel) h
theorem Xw {a:Nat} (h:a<5):(Txt.slice "qrst" (some (a:Nat)) none).length<=100:=HB (f:=fun a=>Txt.slice "qrst" (some (a:Nat)) none) (n:=5) (by decide +kernel) h
noncomputable def b_:Sp:=fun vs H Q _=>∃ (kd a k:Nat),vs=[.int (kd:Nat),.int (a:Nat),.int (k:Nat)]/\kd<3/\a<5/\k<12/\Q (.str (HH kd a k)) H
theorem Zk:Aq ["_law_kind","_law_at","_law_k","_law_letter"] ["_law_kind","_law_at","_law_k"] (Af lE):=Bp
include N T in
theorem aL:Ar P w K mg base Bh 1 fNa dNa ["_law_kind","_law_at","_law_k"] b_:=by
 refine N.FNa.1.ok Zk (fun vs H Q E h=>?_) (fun cdv A outer s H vs Q E hr h=>?_)
 ·obtain ⟨kd,a,k,rfl,_⟩:=h
  rfl
 ·obtain ⟨kd,a,k,rfl,h1,h2,h3,q⟩:=h
  refine ⟨_,(@Ad _ _ _ _ _ (@Bb _ _ _ _ _ _ 3 Zk.nd rfl (Or.inl rfl) (@Ay _ _ _ _ _ _ _ Rt BL (pv 2) (fun _ _=>rfl)) (by kernel_rfl) (.inl rfl))
   (@Ad _ _ _ _ _ (@Bg _ _ _ _ _ _ _ _ (BK Bu (pv 0) Ac (BV _)) (@Ai _ _ _ (@Aw _ _ _ _ (BR Em (pv 3) (BR GK BL (pv 1))))) BZ)
   (@Ad _ _ _ _ _ (@Bg _ _ _ _ _ _ _ _ (BK Bu (pv 0) Ac (BV _)) (@Ai _ _ _ (@Aw _ _ _ _ (BR Em (BR GK BL (BR Di Ac (BR CN (pv 2) Ac))) (BR GK BL (BR Ej (pv 2) Ac))))) BZ)
   (@Ai _ _ _ (@Aw _ _ _ _ (BR Em (BR Em (Cp S5 BL Dk (DR (pv 1))) (pv 3)) (Cp S5 BL (DR (pv 1)) Dk))))))),?_⟩
  refine ⟨_,rfl,_,_,_,rfl,rfl,Be (by decide +kernel),k_ h3,?_⟩
  refine ⟨_,rfl,rfl,_,rfl,?_⟩
  by_cases k0:kd=0
  ·subst k0
   rw [decide_eq_true (show V.int ((0:Nat):Int)=V.int 0 from rfl)]
   refine Cj ⟨_,rfl,_,rfl,_,_,rfl,rfl,Lr (by decide +kernel) (by omega),_,_,rfl,rfl,Mm (by show 1<=200; decide) (by have:=ZM h2; omega),?_⟩
   exact q
  rw [decide_eq_false (fun z=>k0 (by have:=V.int.inj z; omega))]
  refine Bo ⟨_,rfl,rfl,_,rfl,?_⟩
  by_cases k1:kd=1
  ·subst k1
   rw [decide_eq_true (show V.int ((1:Nat):Int)=V.int 1 from rfl)]
   have e1:(1:Int)+((k:Nat):Int) % 6=((1+k % 6:Nat):Int):=by omega
   have e2:((k:Nat):Int) / 6=((k / 6:Nat):Int):=by omega
   refine Cj ⟨_,rfl,_,_,rfl,rfl,(by show (0:Int)<6; decide),_,_,rfl,rfl,_,_,rfl,rfl,(by show MulOk _ ((1:Int)+((k:Nat):Int) % 6); rw [e1]; exact Lr (by decide +kernel) (by omega)),_,rfl,_,_,rfl,rfl,⟨by decide,by decide⟩,_,_,rfl,rfl,(by show MulOk _ (((k:Nat):Int) / 6); rw [e2]; exact Lr (by decide +kernel) (by omega)),_,_,rfl,rfl,?_,?_⟩
   ·rw [e1,e2]
    exact Mm (by have:=aJ (a:=1+k % 6) (by omega); omega) (by have:=Zr (a:=k / 6) (by omega); omega)
   ·rw [e1,e2]
    exact q
  rw [decide_eq_false (fun z=>k1 (by have:=V.int.inj z; omega))]
  refine Bo ⟨_,rfl,_,rfl,_,rfl,Be (by decide +kernel),_,rfl,_,_,rfl,rfl,Mm (by have:=Ud h2; omega) (by show 1<=200; decide),_,rfl,_,rfl,_,rfl,Be (by decide +kernel),_,_,rfl,rfl,Mm (by rw [len_app]; have:=Ud h2; show _+1<=200; omega) (by have:=Xw h2; omega),?_⟩
  have e:HH kd a k=(Txt.slice "qrst" none (some (a:Nat))++Yq k)++Txt.slice "qrst" (some (a:Nat)) none:=by
   unfold HH
   rw [if_neg k0,if_neg k1]
  rw [e] at q
  exact q
open Bw
theorem nO {k:Nat} (h:k<3):QB ("xyz" : Str).cps.toList ((k:Nat):Int)=some (120+k):=by
 have e:("xyz" : Str).cps.toList=[120,121,122]:=by decide +kernel
 rw [e]
 refine Aj ?_
 match k,h with
 | 0,_=>rfl
 | 1,_=>rfl
 | 2,_=>rfl
theorem bD {a:Nat} (h:a<5):(Txt.mul "w" (a:Nat)).length<=100:=HB (f:=fun a=>Txt.mul "w" (a:Nat)) (n:=5) (by decide +kernel) h
structure aD (K:PySem.W.Frag) (aB aP aM:Addr):Prop where
 f:V6 K aB aP aM
 mT:∃ t,PySem.W.nsIn K aM "step" = some (some (.int 12 t))
structure QV (K:PySem.W.Frag) (aB aP aM:Addr) (rows:List R) (bs:List (Str × Nat)):Prop where
 bl:HN K aB aP aM rows bs [] [] [] []
 rb:rows=bs.map Fx
 nm:∀ (j:Nat) b,bs[j]? = some b->isNm b.1/\RX b.1=120+j/\1<=b.2/\b.2<=61/\b.1 ≠ "zz"
theorem QV.new:QV K aB aP aM [] []:=⟨HN.nil,rfl,fun j b h=>by simp at h⟩
theorem QV.fresh {rows:List R} {bs:List (Str × Nat)} (h:QV K aB aP aM rows bs) {t:Str} (ht:RX t=120+bs.length):∀ b∈bs,b.1 ≠ t:=fun b hb e=>by
 obtain ⟨j,hj⟩:=List.getElem?_of_mem hb
 have:=(h.nm j b hj).2.1
 have:=(List.getElem?_eq_some_iff.mp hj).1
 rw [e] at *
 omega
theorem QV.app (F:aD K aB aP aM) {rows:List R} {bs:List (Str × Nat)} (h:QV K aB aP aM rows bs) (hl:bs.length<3) {r m:Nat} (hr:r<3) (h1:1<=m) (h2:m<=61):QV K aB aP aM (rows++[Fx (WD bs.length r,m)]) (bs++[(WD bs.length r,m)]):=by
 obtain ⟨n1,n2⟩:=X8 hl hr
 refine ⟨h.bl.ZJ F.f n1 (h.fresh n2) (fun _ z=>nomatch z) (fun _ z=>nomatch z) (by omega) h1 h2,by rw [h.rb,List.map_append]; rfl,fun j b hj=>?_⟩
 by_cases hlt:j<bs.length
 ·rw [List.getElem?_append_left hlt] at hj
  exact h.nm j b hj
 ·rw [List.getElem?_append_right (by omega)] at hj
  have e:j - bs.length=0:=by
   cases z:j - bs.length with
   | zero=>rfl
   | succ q=>rw [z] at hj; simp at hj
  rw [e] at hj
  obtain rfl:(WD bs.length r,m)=b:=by simpa using hj
  have:j=bs.length:=by omega
  subst this
  exact ⟨n1,n2,h1,h2,Xd hl hr⟩
theorem QV.db {rows:List R} {bs:List (Str × Nat)} (h:QV K aB aP aM rows bs):(bs.map (·.1)).Nodup:=by
 have e:(bs.map (·.1)).map RX=(List.range bs.length).map fun j=>120+j:=by
  rw [List.map_map]
  refine List.ext_getElem? fun j=>?_
  rw [List.getElem?_map,List.getElem?_map]
  by_cases hj:j<bs.length
  ·rw [List.getElem?_range hj,List.getElem?_eq_getElem hj]
   show some (RX bs[j].1)=some (120+j)
   rw [(h.nm j _ (List.getElem?_eq_getElem hj)).2.1]
  ·rw [List.getElem?_eq_none (by omega),List.getElem?_eq_none (by rw [List.length_range]; omega)]
   rfl
 have nd:((List.range bs.length).map fun j=>120+j).Nodup:=List.pairwise_map.mpr (List.Pairwise.imp (fun {x y} hxy=>by omega) List.pairwise_lt_range)
 rw [← e] at nd
 exact List.Pairwise.of_map RX (fun x y h z=>h (by rw [z])) nd
theorem QV.rank (F:aD K aB aP aM) {rows:List R} {bs:List (Str × Nat)} (h:QV K aB aP aM rows bs) (b1:1<=bs.length) (b3:bs.length<=3) {m:Nat} {wi:Int} (h1:1<=m) (h2:m<=97) (h3:0<=wi) (h4:wi<=1000000000) (kd a:Nat) :
  DN K aB aP aM kd a 0 4 ⟨rows++[GQ (("u" : Str),m,wi)],bs,[(("u" : Str),m,wi)],[],[],[],[]⟩:=by
 have nb:∀ b∈bs,isNm b.1/\120<=RX b.1/\1<=b.2/\b.2<=61:=fun b hb=>by
  obtain ⟨j,hj⟩:=List.getElem?_of_mem hb
  obtain ⟨z1,z2,z3⟩:=h.nm j b hj
  exact ⟨z1,by omega,z3.1,z3.2.1⟩
 have hlr:rows.length=bs.length:=by rw [h.rb,List.length_map]
 refine ⟨h.bl.rank F.f VB.1 (fun b hb e=>by have:=(nb b hb).2.1; rw [e,VB.2] at this; omega) (fun _ z=>nomatch z) (fun _ z=>nomatch z) (by decide) h1 h2 h3 h4,fun j b hj=>?_,b1,b3,nb,h.db,⟨m,wi,rfl,h1,h2⟩,?_,rfl,(fun _ z=>nomatch z),List.nodup_nil,Nat.le_refl _,Nat.le_refl _,?_,(fun _ z=>nomatch z),(fun b hb=>by obtain ⟨j,hj⟩:=List.getElem?_of_mem hb; exact (h.nm j b hj).2.2.2.2)⟩
 ·have hj':bs[j]? = some b:=hj
  have hlt:j<bs.length:=(List.getElem?_eq_some_iff.mp hj').1
  show (rows++_)[j]? = _
  rw [List.getElem?_append_left (by omega),h.rb,List.getElem?_map,hj']
  rfl
 ·show (rows++[GQ (("u" : Str),m,wi)]).filter _=[]
  rw [List.filter_eq_nil_iff]
  intro r hr
  rcases List.mem_append.mp hr with z | z
  ·rw [h.rb] at z
   obtain ⟨b,_,rfl⟩:=List.mem_map.mp z
   show ¬ Eh "board" = true
   decide +kernel
  ·rw [List.mem_singleton.mp z]
   show ¬ Eh "rank" = true
   decide +kernel
 ·show (rows++[_]).length<=4
  rw [List.length_append,hlr]
  show bs.length+1<=4
  omega
noncomputable def dZ (K:PySem.W.Frag) (aB aP aM:Addr):Sp:=fun vs H Q _=>∃ (dh pc:Addr) (n:Nat),vs=[.ref dh]/\DH H dh pc n/\n<=1000/\aD K aB aP aM /\
 ∀ (pR:Addr) (S:Qz) (kd a i n':Nat) H',kd<3->a<5->1<=i->i<=12->DN K aB aP aM kd a i (4+3 * i) S->RL H H' dh pc pR n' S.rows->n'<=n+150->Q (.ref pR) H'
theorem mZ {c:TT} {t t2 u:TS} {D:Ends} {σ:St} {H:Hp} (C:Bool->Hp->Prop) (hc:∀ Q:Bool->Hp->Prop,(∀ H1,C true H1->Q true H1)->(∀ H1,C false H1->Q false H1)->c σ H Q) (ht:∀ H1,C true H1->t { D with nx:=u D } σ H1) (hu:∀ H1,C false H1->t2 { D with nx:=u D } σ H1):Yb (Vu c t t2) u D σ H :=
 hc _ (fun H1 h=>by rw [if_pos rfl]; exact ht H1 h) (fun H1 h=>by rw [if_neg Bool.false_ne_true]; exact hu H1 h)
theorem nH {c:TT} {t t2:TS} {D:Ends} {σ:St} {H:Hp} (C:Bool->Hp->Prop) (hc:∀ Q:Bool->Hp->Prop,(∀ H1,C true H1->Q true H1)->(∀ H1,C false H1->Q false H1)->c σ H Q) (ht:∀ H1,C true H1->t D σ H1) (hu:∀ H1,C false H1->t2 D σ H1):Vu c t t2 D σ H :=
 hc _ (fun H1 h=>by rw [if_pos rfl]; exact ht H1 h) (fun H1 h=>by rw [if_neg Bool.false_ne_true]; exact hu H1 h)
theorem U3 {sn:List Str} (nd:sn.Nodup) (hne:sn ≠ []) (a z:Nat):∃ t0 ts,(sn.drop a++sn.take a).take (1+z)=t0::ts/\(t0::ts).Nodup/\(∀ t∈t0::ts,t∈sn)/\(t0::ts).length<=sn.length:=by
 have pm:(sn.drop a++sn.take a).Perm sn:=List.perm_append_comm.trans (by rw [List.take_append_drop])
 have hl:(sn.drop a++sn.take a).length=sn.length:=pm.length_eq
 have hpos:0<sn.length:=List.length_pos_iff.mpr hne
 cases e:(sn.drop a++sn.take a).take (1+z) with
 | nil =>
  have:=congrArg List.length e
  rw [List.length_take,hl,List.length_nil] at this
  omega
 | cons t0 ts =>
  refine ⟨t0,ts,rfl,?_,fun t ht=>?_,?_⟩
  ·rw [← e]
   exact List.Nodup.sublist (List.take_sublist _ _) (pm.nodup_iff.mpr nd)
  ·rw [← e] at ht
   exact pm.mem_iff.mp (List.mem_of_mem_take ht)
  ·rw [← e,List.length_take,hl]
   omega
theorem cC {G:Prop} {K:Hp->Prop} (P:Hp->Prop) (h1:(∀ H,P H->K H)->G) (h2:∀ H,P H->K H):G:=h1 h2
theorem Qp {xs:List V} {k:Nat}:Dm xs (some (k:Int)) none=xs.drop k:=by
 unfold Dm
 have e1:HT.DY xs.length 0 (some (k:Int))=min k xs.length:=by rw [HT.Dv]
 have e2:HT.DY xs.length xs.length none=xs.length:=rfl
 rw [e1,e2]
 by_cases h:k<=xs.length
 ·rw [Nat.min_eq_left h,List.take_of_length_le (by rw [List.length_drop]; omega)]
 ·rw [Nat.min_eq_right (by omega),List.drop_of_length_le (by omega),List.drop_of_length_le (by omega),List.take_nil]
theorem Ku {xs:List V} {k:Nat}:Dm xs none (some (k:Int))=xs.take k:=by
 unfold Dm
 have e1:HT.DY xs.length 0 none=0:=rfl
 have e2:HT.DY xs.length xs.length (some (k:Int))=min k xs.length:=by rw [HT.Dv]
 rw [e1,e2,List.drop_zero,Nat.sub_zero]
 by_cases h:k<=xs.length
 ·rw [Nat.min_eq_left h]
 ·rw [Nat.min_eq_right (by omega),List.take_length,List.take_of_length_le (by omega)]
theorem T_ {H:Hp} {rows:List R} {vs:List V} (p:Paired (fun (r:R) v=>TupAt H r.v v) rows vs):(vs.filter (pw (GP H) "mute")).length=(rows.filter fun r=>decide (V.str r.w=V.str "mute")).length:=by
 rw [← JZ p,List.filter_map,List.length_map]
 rfl
theorem Il {H:Hp} {rows:List R} {vs:List V} (p:Paired (fun (r:R) v=>TupAt H r.v v) rows vs):Rows H (GP H) vs:=fun v hv=>by
 obtain ⟨r,_,h⟩:=Cg p hv
 rw [HX h]
 exact h
theorem JW:Aq ["_law_drawn_here","_law_boards","_law_kind","_law_at","_law_rows","_law_k","_law_stops","_law_board","_law_way","_law_name_here","_law_turn"] ["_law_drawn_here"] (Af fW):=Bp
include N T in
theorem Y8:Ar P w K mg base Bh 3 fLg dLg ["_law_drawn_here"] (dZ K aB aP aM):=by
 have GDw:Ar P w K mg base Bh 1 fDw dDw ["_law_drawn_here","_law_many"] Yz:=Z0 N T
 have GNa:Ar P w K mg base Bh 1 fNa dNa ["_law_kind","_law_at","_law_k"] b_:=aL N T
 refine N.FLg.1.ok JW (fun vs H Q E h=>?_) (fun cdv A outer s H vs Q E hr h=>?_)
 ·obtain ⟨dh,pc,n,rfl,_⟩:=h
  rfl
 ·obtain ⟨dh,pc,n,rfl,D,hn,F,q⟩:=h
  have hrDw:BW 1 _:=hr.mono (by decide)
  have hrNa:BW 1 _:=hr.mono (by decide)
  have hu:=CV hr
  refine ⟨_,(@Ad _ _ _ _ _ (@Bb _ _ _ _ _ _ 1 JW.nd rfl (Or.inl rfl) (BR Di Ac (Am GDw hrDw rfl N.FDw.2.2 N.FDw.1.kp N.FDw.2.1 .nil Az (@An _ _ _ _ _ rfl (pv 0) (@An _ _ _ _ _ rfl Ac Aa)))) (by kernel_rfl) (.inl rfl))
   (@Ad _ _ _ _ _ (@Bb _ _ _ _ _ _ 2 JW.nd rfl (Or.inl rfl) (Am GDw hrDw rfl N.FDw.2.2 N.FDw.1.kp N.FDw.2.1 .nil Az (@An _ _ _ _ _ rfl (pv 0) (@An _ _ _ _ _ rfl Ac Aa))) (by kernel_rfl) (.inl rfl))
   (@Ad _ _ _ _ _ (@Bb _ _ _ _ _ _ 3 JW.nd rfl (Or.inl rfl) (Am GDw hrDw rfl N.FDw.2.2 N.FDw.1.kp N.FDw.2.1 .nil Az (@An _ _ _ _ _ rfl (pv 0) (@An _ _ _ _ _ rfl Ac Aa))) (by kernel_rfl) (.inl rfl))
   (@Ad _ _ _ _ _ (@Bb _ _ _ _ _ _ 4 JW.nd rfl (Or.inl rfl) (@Cv _ _ _ _ Aa) (by kernel_rfl) (.inl rfl))
   (@Ad _ _ _ _ _ (Dz PassesOwn.never rfl (El rfl T.range (@An _ _ _ _ _ rfl (pv 1) Aa)) (B_ (i:=5) JW.nd rfl (Or.inl rfl)) (@Ai _ _ _ (CG (Ec PySem.F.plainAttrs_list PySem.F.slot_list_append PySem.F.type_list_append Bl (pv 4) (@An _ _ _ _ _ rfl (@Bq _ _ _ _ _ (@An _ _ _ _ _ rfl BL (@An _ _ _ _ _ rfl (BR Em (@Ay _ _ _ _ _ _ _ Rt BL (pv 5) (fun _ _=>rfl)) (BR GK BL (Am GDw hrDw rfl N.FDw.2.2 N.FDw.1.kp N.FDw.2.1 .nil Az (@An _ _ _ _ _ rfl (pv 0) (@An _ _ _ _ _ rfl Ac Aa))))) (@An _ _ _ _ _ rfl (BR Di Ac (Am GDw hrDw rfl N.FDw.2.2 N.FDw.1.kp N.FDw.2.1 .nil Az (@An _ _ _ _ _ rfl (pv 0) (@An _ _ _ _ _ rfl Ac Aa)))) Aa)))) Aa)))))
   (@Ad _ _ _ _ _ (CG (Ec PySem.F.plainAttrs_list PySem.F.slot_list_append PySem.F.type_list_append Bl (pv 4) (@An _ _ _ _ _ rfl (@Bq _ _ _ _ _ (@An _ _ _ _ _ rfl BL (@An _ _ _ _ _ rfl BL (@An _ _ _ _ _ rfl (BR Di Ac (Am GDw hrDw rfl N.FDw.2.2 N.FDw.1.kp N.FDw.2.1 .nil Az (@An _ _ _ _ _ rfl (pv 0) (@An _ _ _ _ _ rfl Ac Aa)))) (@An _ _ _ _ _ rfl (Am GDw hrDw rfl N.FDw.2.2 N.FDw.1.kp N.FDw.2.1 .nil Az (@An _ _ _ _ _ rfl (pv 0) (@An _ _ _ _ _ rfl Ac Aa))) Aa))))) Aa)))
   (@Ad _ _ _ _ _ (@Bb _ _ _ _ _ _ 6 JW.nd rfl (Or.inl rfl) (@Cv _ _ _ _ Aa) (by kernel_rfl) (.inl rfl))
   (@Ad _ _ _ _ _ (Dz PassesOwn.never rfl (El rfl T.range (@An _ _ _ _ _ rfl (BR Di Ac (Am GDw hrDw rfl N.FDw.2.2 N.FDw.1.kp N.FDw.2.1 .nil Az (@An _ _ _ _ _ rfl (pv 0) (@An _ _ _ _ _ rfl Ac Aa)))) Aa)) (B_ (i:=5) JW.nd rfl (Or.inl rfl)) (@Ad _ _ _ _ _ (@Bb _ _ _ _ _ _ 7 JW.nd rfl (Or.inl rfl) (@Ay _ _ _ _ _ _ _ (Ax (K:=K) rfl) (@Ay _ _ _ _ _ _ _ (CZ (K:=K) rfl) (pv 4) (Am GDw hrDw rfl N.FDw.2.2 N.FDw.1.kp N.FDw.2.1 .nil Az (@An _ _ _ _ _ rfl (pv 0) (@An _ _ _ _ _ rfl (pv 1) Aa))) (fun _ _=>rfl)) Ac (fun _ _=>rfl)) (by kernel_rfl) (.inl rfl))
   (@Ad _ _ _ _ _ (@Bb _ _ _ _ _ _ 8 JW.nd rfl (Or.inl rfl) (Am GDw hrDw rfl N.FDw.2.2 N.FDw.1.kp N.FDw.2.1 .nil Az (@An _ _ _ _ _ rfl (pv 0) (@An _ _ _ _ _ rfl Ac Aa))) (by kernel_rfl) (.inl rfl))
   (@Ad _ _ _ _ _ (@Bb _ _ _ _ _ _ 9 JW.nd rfl (Or.inl rfl) (Am GNa hrNa rfl N.FNa.2.2 N.FNa.1.kp N.FNa.2.1 .nil Az (@An _ _ _ _ _ rfl (pv 2) (@An _ _ _ _ _ rfl (pv 3) (@An _ _ _ _ _ rfl (pv 5) Aa)))) (by kernel_rfl) (.inl rfl))
   (@Ad _ _ _ _ _ (@Bg _ _ _ _ _ _ _ _ (PW.pt (JK (BK Bu (pv 8) Ac (BV _)) (Gy (BK JN (BJ BX rfl T.len PySem.boot_len (@An _ _ _ _ _ rfl (Bk rfl (Ba (osc:=Af fW) (N:=["_law_drawn_here","_law_boards","_law_kind","_law_at","_law_rows","_law_k","_law_stops","_law_board","_law_way","_law_name_here","_law_turn"]) rfl rfl (by decide +kernel)) (Br (pv 4)) (fun _ _ _ _=>(Hk (BK Bu (@Ay _ _ _ _ _ _ _ (Ax (K:=K) rfl) (pv 0) Ac (fun _ _=>rfl)) BL (BV _)))) (fun _ _ _ _=>(pv 0))) Aa)) Ac (BV _))))) (@Ai _ _ _ (CG (Ec PySem.F.plainAttrs_list PySem.F.slot_list_append PySem.F.type_list_append Bl (pv 4) (@An _ _ _ _ _ rfl (@Bq _ _ _ _ _ (@An _ _ _ _ _ rfl BL (@An _ _ _ _ _ rfl (pv 9) (@An _ _ _ _ _ rfl (pv 7) Aa)))) Aa)))) (@Ai _ _ _ (@Bg _ _ _ _ _ _ _ _ (BK JN (pv 8) Ac (BV _)) (@Ai _ _ _ (CG (Ec PySem.F.plainAttrs_list PySem.F.slot_list_append PySem.F.type_list_append Bl (pv 4) (@An _ _ _ _ _ rfl (@Bq _ _ _ _ _ (@An _ _ _ _ _ rfl BL (@An _ _ _ _ _ rfl (pv 9) (@An _ _ _ _ _ rfl (pv 7) (@An _ _ _ _ _ rfl (@Ay _ _ _ _ _ _ _ (Ax (K:=K) rfl) (@Ay _ _ _ _ _ _ _ (CZ (K:=K) rfl) (pv 4) (Am GDw hrDw rfl N.FDw.2.2 N.FDw.1.kp N.FDw.2.1 .nil Az (@An _ _ _ _ _ rfl (pv 0) (@An _ _ _ _ _ rfl (pv 1) Aa))) (fun _ _=>rfl)) Ac (fun _ _=>rfl)) (@An _ _ _ _ _ rfl (BR Oo (Am GDw hrDw rfl N.FDw.2.2 N.FDw.1.kp N.FDw.2.1 .nil Az (@An _ _ _ _ _ rfl (pv 0) (@An _ _ _ _ _ rfl Ac Aa))) Ac) Aa)))))) Aa)))) (@Ad _ _ _ _ _ (CG (Ec PySem.F.plainAttrs_list PySem.F.slot_list_append PySem.F.type_list_append Bl (pv 6) (@An _ _ _ _ _ rfl (pv 9) Aa)))
   (@Ad _ _ _ _ _ (CG (Ec PySem.F.plainAttrs_list PySem.F.slot_list_append PySem.F.type_list_append Bl (pv 4) (@An _ _ _ _ _ rfl (@Bq _ _ _ _ _ (@An _ _ _ _ _ rfl BL (@An _ _ _ _ _ rfl (pv 9) (@An _ _ _ _ _ rfl (pv 7) Aa)))) Aa)))
   (@Ai _ _ _ (@Bg _ _ _ _ _ _ _ _ (BK Bu (pv 8) Ac (BV _)) (@Ai _ _ _ (CG (Ec PySem.F.plainAttrs_list PySem.F.slot_list_append PySem.F.type_list_append Bl (pv 4) (@An _ _ _ _ _ rfl (@Bq _ _ _ _ _ (@An _ _ _ _ _ rfl BL (@An _ _ _ _ _ rfl BL (@An _ _ _ _ _ rfl Ac (@An _ _ _ _ _ rfl Ac (@An _ _ _ _ _ rfl Ac Aa)))))) Aa)))) BZ)))))))
   (@Ai _ _ _ (@Bg _ _ _ _ _ _ _ _ (PW.pt (JK (BK (J5 (Nat.lt_of_succ_lt hu)) (pv 6) (@Cv _ _ _ _ Aa) (BV _)) (Gy (BK Bu (Am GDw hrDw rfl N.FDw.2.2 N.FDw.1.kp N.FDw.2.1 .nil Az (@An _ _ _ _ _ rfl (pv 0) (@An _ _ _ _ _ rfl Ac Aa))) Ac (BV _))))) (@Ad _ _ _ _ _ (@Bb _ _ _ _ _ _ 10 JW.nd rfl (Or.inl rfl) (Am GDw hrDw rfl N.FDw.2.2 N.FDw.1.kp N.FDw.2.1 .nil Az (@An _ _ _ _ _ rfl (pv 0) (@An _ _ _ _ _ rfl (BJ BX rfl T.len PySem.boot_len (@An _ _ _ _ _ rfl (pv 6) Aa)) Aa))) (by kernel_rfl) (.inl rfl))
   (@Ai _ _ _ (CG (Ec PySem.F.plainAttrs_list PySem.F.slot_list_append PySem.F.type_list_append Bl (pv 4) (@An _ _ _ _ _ rfl (HF J6 rfl T.tuple PyProof.Rows.boot_tuple (@An _ _ _ _ _ rfl (BR Nt (@Cv _ _ _ _ (@An _ _ _ _ _ rfl BL Aa)) (Cp GC (BR Nt (Cp GC (pv 6) (DR (pv 10)) Dk) (Cp GC (pv 6) Dk (DR (pv 10)))) Dk (DR (BR Di Ac (Am GDw hrDw rfl N.FDw.2.2 N.FDw.1.kp N.FDw.2.1 .nil Az (@An _ _ _ _ _ rfl (pv 0) (@An _ _ _ _ _ rfl Ac Aa))))))) Aa)) Aa))))) BZ)))))))
   (@Ai _ _ _ (@Aw _ _ _ _ (pv 4))))))))))),?_⟩
  refine ⟨_,rfl,dh,pc,n,3,rfl,D,by omega,by decide,by decide,fun x0 H1 x00 x01 D1 f1=>⟨_,_,rfl,rfl,?_⟩⟩
  refine ⟨_,rfl,dh,pc,_,3,rfl,D1,by omega,by decide,by decide,fun x1 H2 x10 x11 D2 f2=>?_⟩
  refine ⟨_,rfl,dh,pc,_,5,rfl,D2,by omega,by decide,by decide,fun x2 H3 x20 x21 D3 f3=>?_⟩
  obtain ⟨nb,rfl⟩:∃ m:Nat,x0=(m:Int):=⟨x0.toNat,by omega⟩
  obtain ⟨kd,rfl⟩:∃ m:Nat,x1=(m:Int):=⟨x1.toNat,by omega⟩
  obtain ⟨at_,rfl⟩:∃ m:Nat,x2=(m:Int):=⟨x2.toNat,by omega⟩
  have F3:JT H H3 dh pc:=(JT.of2 f1).trans ((JT.of2 f2).trans (JT.of2 f3))
  refine ⟨Be (by simp),fun pR hpR=>?_⟩
  obtain ⟨a1,a2⟩:=DH.eY D3 hpR
  have h0:H pR=none:=F3.free hpR a1 a2
  have R0:RL H (upd H3 pR (HO.lst [])) dh pc pR (n+3) []:=⟨⟨[],Ag,.nil⟩,D3.upd a1 a2,F3.put h0,a1,a2,h0⟩
  generalize upd H3 pR (HO.lst [])=H4 at R0 ⊢
  have adv:∀ m:Nat,(fun i j:Int=>V.int (i+j)) 1 ((m:Nat):Int)=V.int (((1+m:Nat)):Int):=fun m=>by
   show V.int (1+(m:Int))=_
   congr 1
  rw [adv nb]
  have e0:∀ i:Nat,(0:Int)+(i:Int)=((i:Nat):Int):=fun i=>by omega
  refine ⟨_,rfl,_,rfl,by omega,by omega,Gv (lo:=0) (n:=1+nb) (fun i σ H'=>∃ (rows:List R) (bs:List (Str × Nat)) (v5:Option V),RL H H' dh pc pR (n+3+2 * i) rows/\QV K aB aP aM rows bs/\bs.length=i/\σ=[some (.ref dh),some (.int ((1+nb:Nat):Int)),some (.int (kd:Nat)),some (.int (at_:Nat)),some (.ref pR),v5,none,none,none,none,none]) ⟨[],[],_,R0,QV.new,rfl,rfl⟩ ?_ ?_⟩
  ·rintro i σ H5 hi ⟨rows,bs,v5,R5,B5,hl,rfl⟩
   rw [e0]
   obtain ⟨vs,e5,p5⟩:=R5.r
   have hi3:i<3:=by omega
   refine ⟨_,rfl,.inl ⟨rfl,_,.inl (.inl e5)⟩,_,rfl,_,_,_,rfl,rfl,Be (by decide +kernel),nO hi3,_,rfl,dh,pc,_,3,rfl,R5.d,by omega,by decide,by decide,fun r H6 r0 r1 D6 f6=>?_⟩
   obtain ⟨r,rfl⟩:∃ m:Nat,r=(m:Int):=⟨r.toNat,by omega⟩
   refine ⟨_,_,rfl,rfl,Lr (by decide +kernel) (by omega),_,_,rfl,rfl,Mm (by show 1<=200; decide) (by have:=bD (a:=r) (by omega); omega),?_⟩
   refine ⟨_,rfl,dh,pc,_,61,rfl,D6,by omega,by decide,by decide,fun m H7 m0 m1 D7 f7=>⟨_,_,rfl,rfl,?_⟩⟩
   obtain ⟨m,rfl⟩:∃ z:Nat,m=(z:Int):=⟨m.toNat,by omega⟩
   rw [adv m]
   have R7:=(R5.fr f6 D6).fr f7 D7
   obtain ⟨vs7,e7,p7⟩:=R7.r
   refine ⟨by show 3<=sizeLine; decide,fun T8 hT8=>?_⟩
   obtain ⟨H8,eqH,s8,t8⟩:=DW (o:=HO.tup [V.str "board",.str ((⟨#[120+i]⟩:Str)++Txt.mul "w" (r:Nat)),.int ((1+m:Nat):Int)]) hT8
   rw [eqH]
   have R8:=R7.same s8
   have e8:=s8 _ _ e7
   have lv:vs7.length=rows.length:=p7.length.symm
   have lrb:rows.length=bs.length:=by rw [B5.rb,List.length_map]
   refine ⟨pR,vs7,_,rfl,rfl,e8,A_ (by omega),?_⟩
   have R9:=R8.app e8 (r:=Fx (WD bs.length r,1+m)) (v:=.ref T8) ⟨T8,rfl,by rw [t8,hl]; rfl⟩
   exact ⟨_,_,_,R9,B5.app F (by omega) (by omega) (by omega) (by omega),by rw [List.length_append,hl]; rfl,rfl⟩
  rintro σ H5 ⟨rows,bs,v5,R5,B5,hl,rfl⟩
  obtain ⟨vs,e5,p5⟩:=R5.r
  refine ⟨_,rfl,.inl ⟨rfl,_,.inl (.inl e5)⟩,_,rfl,dh,pc,_,97,rfl,R5.d,by omega,by decide,by decide,fun m H6 m0 m1 D6 f6=>⟨_,_,rfl,rfl,?_⟩⟩
  obtain ⟨m,rfl⟩:∃ z:Nat,m=(z:Int):=⟨m.toNat,by omega⟩
  rw [adv m]
  refine ⟨_,rfl,dh,pc,_,9,rfl,D6,by omega,by decide,by decide,fun wi H7 w0 w1 D7 f7=>?_⟩
  have R7:=(R5.fr f6 D6).fr f7 D7
  obtain ⟨vs7,e7,p7⟩:=R7.r
  refine ⟨by show 4<=sizeLine; decide,fun T8 hT8=>?_⟩
  obtain ⟨H8,eqH,s8,t8⟩:=DW (o:=HO.tup [V.str "rank",.str "u",.int ((1+m:Nat):Int),.int wi]) hT8
  rw [eqH]
  have R8:=R7.same s8
  have e8:=s8 _ _ e7
  have lv:vs7.length=rows.length:=p7.length.symm
  have lrb:rows.length=bs.length:=by rw [B5.rb,List.length_map]
  refine ⟨pR,vs7,_,rfl,rfl,e8,A_ (by omega),?_⟩
  have R9:=R8.app e8 (r:=GQ (("u" : Str),1+m,wi)) (v:=.ref T8) ⟨T8,rfl,t8⟩
  have C9:=B5.rank F (by omega) (by omega) (m:=1+m) (wi:=wi) (by omega) (by omega) w0 (by omega) kd at_
  generalize upd H8 pR (HO.lst (vs7++[V.ref T8]))=H9 at R9 ⊢
  clear R8 e8 s8 t8 hT8 R7 e7 p7 D7 f7 D6 f6 R5 e5 p5 R0 B5
  refine ⟨Be (by simp),fun pT hpT=>?_⟩
  obtain ⟨c1,c2⟩:=DH.eY R9.d hpT
  have T0:Ni H (upd H9 pT (HO.lst [])) dh pc pR pT (n+3+2 * (1+nb)+2) (rows++[GQ (("u" : Str),1+m,wi)]) []:=by
   obtain ⟨vs9,e9,_⟩:=R9.r
   have n3:pT ≠ pR:=fun z=>by rw [z,e9] at hpT; cases hpT
   exact ⟨R9.same (Av hpT),Ag,c1,c2,n3,R9.f.free hpT c1 c2⟩
  generalize upd H9 pT (HO.lst [])=H10 at T0 ⊢
  clear R9 hpT
  refine ⟨_,rfl,dh,pc,_,12,rfl,T0.s.d,by omega,by decide,by decide,fun x H11 x0 x1 D11 f11=>⟨_,_,rfl,rfl,?_⟩⟩
  obtain ⟨ni,rfl⟩:∃ z:Nat,x=(z:Int):=⟨x.toNat,by omega⟩
  rw [adv ni]
  have T1:=T0.fr f11 D11
  refine ⟨_,rfl,by omega,by omega,Gv (lo:=0) (n:=1+ni) (fun i σ H'=>∃ (S:Qz) (k:Nat) (v5 v7 v8 v9 v10:Option V),Ni H H' dh pc pR pT k S.rows S.sn/\k<=n+20+10 * i/\DN K aB aP aM kd at_ i (4+3 * i) S/\S.bs.length=1+nb/\σ=[some (.ref dh),some (.int ((1+nb:Nat):Int)),some (.int (kd:Nat)),some (.int (at_:Nat)),some (.ref pR),v5,some (.ref pT),v7,v8,v9,v10]) ⟨⟨_,bs,_,[],[],[],[]⟩,_,_,_,_,_,_,T1,by omega,C9,hl,rfl⟩ ?_ ?_⟩
  ·rintro i σ H12 hi ⟨S,k,v5,v7,v8,v9,v10,T2,hk,O2,hb,rfl⟩
   clear T0 T1 C9 D11 f11
   have hi12:i<12:=by omega
   rw [e0]
   refine ⟨_,rfl,_,rfl,_,rfl,dh,pc,_,_,rfl,T2.s.d,by omega,(by show (0:Int)<((1+nb:Nat):Int); omega),(by show (((1+nb:Nat):Int))<1073741824; omega),fun j H13 j0 j1 D13 f13=>?_⟩
   obtain ⟨j,rfl⟩:∃ z:Nat,j=(z:Int):=⟨j.toNat,by omega⟩
   have T3:=T2.fr f13 D13
   obtain ⟨vs,e13,p13⟩:=T3.s.r
   have hjb:j<S.bs.length:=by omega
   obtain ⟨b,hbj⟩:∃ b,S.bs[j]? = some b:=⟨_,List.getElem?_eq_getElem hjb⟩
   obtain ⟨yb,eyb,Tb,rfl,tb⟩:=Fq p13 (O2.rb j b hbj)
   have bmem:=List.mem_of_getElem? hbj
   refine ⟨pR,vs,_,_,rfl,rfl,.inl (.inl e13),Aj eyb,Tb,_,_,_,rfl,rfl,.inl (.inl tb),Aj (j:=1) rfl,?_⟩
   refine ⟨_,rfl,dh,pc,_,6,rfl,D13,by omega,by decide,by decide,fun wy H14 wy0 wy1 D14 f14=>?_⟩
   have T4:=T3.fr f14 D14
   refine ⟨_,rfl,_,rfl,_,rfl,kd,at_,i,rfl,by omega,by omega,hi12,?_⟩
   clear T2 T3 vs e13 p13 eyb tb D13 f13 f14
   have nm1:=(Iw (JF (show kd<3 by omega) (show at_<5 by omega) hi12)).1
   have fb:=O2.fb (show kd<3 by omega) (show at_<5 by omega) hi12
   have fr:=O2.fr (show kd<3 by omega) (show at_<5 by omega) hi12
   have fk:=O2.fk (show kd<3 by omega) (show at_<5 by omega) hi12
   have sbb:=O2.sb b bmem
   have lk:=O2.lk
   have lr:=O2.lr
   obtain ⟨H15,eH⟩:∃ H15,H15=H14:=⟨_,rfl⟩
   rw [← eH] at T4 D14 ⊢
   clear eH
   show Eo 9 (V.str (HH kd at_ i)) _ H15 _
   unfold Eo
   dsimp only
   apply cC (P:=fun H'=>∃ (S':Qz) (k':Nat),Ni H H' dh pc pR pT k' S'.rows S'.sn/\k'<=k+5/\DN K aB aP aM kd at_ (i+1) (4+3 * i+2) S'/\S'.bs=S.bs/\S'.sts=S.sts)
   case h1 =>
    intro rest
    obtain ⟨vs,e15,p15⟩:=T4.s.r
    have lv:vs.length=S.rows.length:=p15.length.symm
    have hS15:Cw K H15 pR vs:=.inl (.inl e15)
    refine mZ (fun bt H2=>Ak H15 H2/\(bt=true->(S.ks.filter fun r=>decide (V.str r.w=V.str "mute")).length<5)) (fun Q' qt qf=>?_) (fun H16 hC=>?_) (fun H16 hC=>?_)
    ·refine ⟨_,rfl,rfl,_,rfl,Ci (fun w0=>?_) (fun _=>qf _ ⟨Ak.refl _,fun z=>nomatch z⟩)⟩
     refine ⟨_,rfl,pR,rfl,⟨_,hS15⟩,Cu (K:=K) (xs:=vs) (pw (GP H15) "mute") id hS15 (A_ (by omega)) (fun y hy Hx hs R kk=>?_) (fun y hy _ Hx hs R kk=>⟨_,rfl,kk Hx (Ak.refl Hx)⟩) (fun D6 H6 hD6 s6 hl6=>?_)⟩
     ·obtain ⟨T0,rfl,hT⟩:=((Il p15) y hy).mono hs
      exact ⟨_,rfl,T0,_,_,_,rfl,rfl,.inl (.inl hT),Aj (j:=0) rfl,rfl,_,rfl,kk Hx (Ak.refl Hx)⟩
     rw [List.map_id] at hl6
     refine ⟨D6,_,rfl,.inl (.inl (.inl hl6)),_,_,rfl,rfl,_,rfl,?_⟩
     have ec:=(T_ p15).trans O2.Ub
     by_cases h5:(S.ks.filter fun r=>decide (V.str r.w=V.str "mute")).length<5
     ·rw [decide_eq_true (show (((vs.filter (pw (GP H15) "mute")).length:Nat):Int)<5 by rw [ec]; omega)]
      exact qt _ ⟨s6,fun _=>h5⟩
     ·rw [decide_eq_false (show ¬ (((vs.filter (pw (GP H15) "mute")).length:Nat):Int)<5 by rw [ec]; omega)]
      exact qf _ ⟨s6,fun z=>nomatch z⟩
    ·obtain ⟨s16,hm5⟩:=hC
     have h5:=hm5 rfl
     have T6:=T4.same s16
     have e16:=s16 _ _ e15
     refine ⟨_,rfl,.inl ⟨rfl,_,.inl (.inl e16)⟩,_,rfl,_,rfl,by show 3<=sizeLine; decide,fun T7 hT7=>?_⟩
     obtain ⟨H17,eqH,s7,t7⟩:=DW (o:=HO.tup [V.str "mute",.str (HH kd at_ i),.str b.1]) hT7
     rw [eqH]
     refine ⟨pR,vs,_,rfl,rfl,s7 _ _ e16,A_ (by omega),?_⟩
     have hB:=O2.bl.plain F.f (wd:="mute") (.inr rfl) nm1 fb fr fk (by rw [show Ko "mute" = 5 by decide +kernel]; exact h5) sbb.1 (n:=b.2) bmem
     have R7:=(T6.same s7).app (s7 _ _ e16) (r:=⟨"mute",HH kd at_ i,[.str b.1]⟩) (v:=.ref T7) ⟨T7,rfl,t7⟩
     have O3:=O2.Xq (r:=⟨"mute",HH kd at_ i,[.str b.1]⟩) (by show Eh "mute" = true; decide +kernel) rfl ⟨b,bmem,_,rfl⟩ hB
     exact rest _ ⟨_,_,R7,by omega,O3.le (by omega),rfl,rfl⟩
    ·obtain ⟨s16,_⟩:=hC
     have T6:=T4.same s16
     have e16:=s16 _ _ e15
     refine ⟨_,rfl,_,_,rfl,rfl,_,rfl,Ci (fun w3=>?_) (fun w3=>?_)⟩
     ·refine ⟨_,rfl,.inl ⟨rfl,_,.inl (.inl e16)⟩,_,rfl,_,rfl,_,rfl,_,rfl,_,rfl,dh,pc,_,_,rfl,T6.s.d,by omega,(by show (0:Int)<((1+nb:Nat):Int); omega),(by show (((1+nb:Nat):Int))<1073741824; omega),fun g H17 g0 g1 D17 f17=>?_⟩
      obtain ⟨g,rfl⟩:∃ z:Nat,g=(z:Int):=⟨g.toNat,by omega⟩
      have T7:=T6.fr f17 D17
      obtain ⟨vs7,e17,p17⟩:=T7.s.r
      have lv7:vs7.length=S.rows.length:=p17.length.symm
      obtain ⟨b2,hb2⟩:∃ b,S.bs[g]? = some b:=⟨_,List.getElem?_eq_getElem (by omega)⟩
      obtain ⟨yg,eyg,Tg,rfl,tg⟩:=Fq p17 (O2.rb g b2 hb2)
      have sb2:=O2.sb b2 (List.mem_of_getElem? hb2)
      refine ⟨pR,vs7,_,_,rfl,rfl,.inl (.inl e17),Aj eyg,Tg,_,_,_,rfl,rfl,.inl (.inl tg),Aj (j:=1) rfl,?_⟩
      refine ⟨_,rfl,dh,pc,_,121,rfl,D17,by omega,by decide,by decide,fun sh H18 sh0 sh1 D18 f18=>⟨_,_,rfl,rfl,?_⟩⟩
      have T8:=T7.fr f18 D18
      obtain ⟨vs8,e18,p18⟩:=T8.s.r
      have lv8:vs8.length=S.rows.length:=p18.length.symm
      refine ⟨by show 5<=sizeLine; decide,fun T9 hT9=>?_⟩
      have s9:=Av (o:=HO.tup [V.str "coupler",.str (HH kd at_ i),.str b.1,.str b2.1,.int (sh - 60)]) hT9
      have t9:upd H18 T9 (HO.tup [V.str "coupler",.str (HH kd at_ i),.str b.1,.str b2.1,.int (sh - 60)]) T9=some (.tup [V.str "coupler",.str (HH kd at_ i),.str b.1,.str b2.1,.int (sh - 60)]):=Ag
      refine ⟨pR,vs8,_,rfl,rfl,s9 _ _ e18,A_ (by omega),?_⟩
      have hB:=O2.bl.VP F.f nm1 fb fr fk (Pk (by omega)) sbb.1 (n:=b.2) bmem sb2.1 (m:=b2.2) (List.mem_of_getElem? hb2) (s:=sh - 60) (by omega) (by omega)
      have R9:=(T8.same s9).app (s9 _ _ e18) (r:=⟨"coupler",HH kd at_ i,[.str b.1,.str b2.1,.int (sh - 60)]⟩) (v:=.ref T9) ⟨T9,rfl,t9⟩
      have O3:=O2.Xq (r:=⟨"coupler",HH kd at_ i,[.str b.1,.str b2.1,.int (sh - 60)]⟩) (by show Eh "coupler" = true; decide +kernel) rfl ⟨b,bmem,_,rfl⟩ hB
      exact rest _ ⟨_,_,R9,by omega,O3.le (by omega),rfl,rfl⟩
     ·have lsn:=O2.sl
      refine ⟨_,rfl,.inl ⟨rfl,_,.inl (.inl T6.t)⟩,_,rfl,pT,_,_,rfl,rfl,T6.t,A_ (by rw [List.length_map]; omega),?_⟩
      have T7:=T6.jg (HH kd at_ i)
      generalize upd H16 pT (HO.lst (S.sn.map V.str++[.str (HH kd at_ i)]))=H17 at T7 ⊢
      obtain ⟨vs7,e17,p17⟩:=T7.s.r
      have lv7:vs7.length=S.rows.length:=p17.length.symm
      refine ⟨_,rfl,.inl ⟨rfl,_,.inl (.inl e17)⟩,_,rfl,_,rfl,by show 3<=sizeLine; decide,fun T8 hT8=>?_⟩
      obtain ⟨H18,eqH,s8,t8⟩:=DW (o:=HO.tup [V.str "stop",.str (HH kd at_ i),.str b.1]) hT8
      rw [eqH]
      refine ⟨pR,vs7,_,rfl,rfl,s8 _ _ e17,A_ (by omega),?_⟩
      have hB:=O2.bl.plain F.f (wd:="stop") (.inl rfl) nm1 fb fr fk (by rw [show Ko "stop" = 24 by decide +kernel]; exact Pk (by omega)) sbb.1 (n:=b.2) bmem
      have R8:=(T7.same s8).app (s8 _ _ e17) (r:=⟨"stop",HH kd at_ i,[.str b.1]⟩) (v:=.ref T8) ⟨T8,rfl,t8⟩
      have O3:=(O2.Xq (r:=⟨"stop",HH kd at_ i,[.str b.1]⟩) (by show Eh "stop" = true; decide +kernel) rfl ⟨b,bmem,_,rfl⟩ hB).snap (t:=HH kd at_ i) ⟨⟨"stop",HH kd at_ i,[.str b.1]⟩,List.mem_append_right _ (List.mem_singleton.mpr rfl),rfl,rfl⟩ (fun hx=>by
       obtain ⟨z,hz,_,e⟩:=O2.sn _ hx
       exact fk z hz e) (by show S.sn.length<i+1; omega)
      generalize upd H18 pR (HO.lst (vs7++[V.ref T8]))=H19 at R8 ⊢
      refine ⟨_,rfl,rfl,_,rfl,Ci (fun w5=>?_) (fun w5=>?_)⟩
      ·obtain ⟨vs9,e19,p19⟩:=R8.s.r
       have lv9:vs9.length=S.rows.length+1:=by rw [← p19.length,List.length_append]; rfl
       refine ⟨_,rfl,.inl ⟨rfl,_,.inl (.inl e19)⟩,by show 5<=sizeLine; decide,fun T20 hT20=>?_⟩
       obtain ⟨H20,eqH,s20,t20⟩:=DW (o:=HO.tup [V.str "line",.str "u",.int 0,.int 0,.int 0]) hT20
       rw [eqH]
       refine ⟨pR,vs9,_,rfl,rfl,s20 _ _ e19,A_ (by omega),?_⟩
       obtain ⟨mm,ww,erk,_⟩:=O2.rk1
       have hL:=hB.line F.f (Tl.stop S.rows (HH kd at_ i) b.1) (by decide) (j:=0) (n:=b.2) (m:=mm) (t:="u") (wi:=ww) (sh:=0) (lo:=0) (hi:=0) (by rw [erk]; rfl) (by rw [erk]; exact List.nodup_cons.mpr ⟨List.not_mem_nil,List.nodup_nil⟩) VB.1 bmem (by decide) (by omega) (by decide) (by decide) (by decide) (by decide)
       have R9:=(R8.same s20).app (s20 _ _ e19) (r:=⟨"line","u",[.int 0,.int 0,.int 0]⟩) (v:=.ref T20) ⟨T20,rfl,t20⟩
       have O4:=O3.row (r:=⟨"line","u",[.int 0,.int 0,.int 0]⟩) (by show Eh "line" = false; decide +kernel) O3.st hL
       exact rest _ ⟨_,_,R9,by omega,O4,rfl,rfl⟩
      ·exact rest _ ⟨_,_,R8,by omega,O3.le (by omega),rfl,rfl⟩
   rintro H16 ⟨S',k',T6,hk',O6,ebs,ests⟩
   have lsn:=O6.sl
   have lst:S'.sts.length<=i:=by rw [ests]; exact O2.st
   dsimp only
   have lr6:=O6.lr
   refine nH (fun bt H2=>∃ k2,Ni H H2 dh pc pR pT k2 S'.rows S'.sn/\k2<=k'+1/\(bt=true->S'.sn ≠ [])) (fun Q' qt qf=>?_) (fun H17 hC=>?_) (fun H17 hC=>?_)
   ·refine ⟨_,rfl,Be (by simp),fun E1 hE1=>?_⟩
    obtain ⟨H17,eqH,s7,l7⟩:=DW (o:=HO.lst []) hE1
    rw [eqH]
    have T7:=T6.same s7
    refine ⟨pT,E1,_,rfl,rfl,.inl (.inl T7.t),.inl (.inl l7),_,rfl,?_⟩
    by_cases hsn:S'.sn=[]
    ·rw [show (S'.sn.map V.str).isEmpty=true by rw [hsn]; rfl]
     exact Bo (qf _ ⟨_,T7,by omega,fun z=>nomatch z⟩)
    ·rw [show (S'.sn.map V.str).isEmpty=false by
      cases z:S'.sn with
      | nil=>exact absurd z hsn
      | cons x y=>rfl]
     refine Cj ⟨_,rfl,dh,pc,_,4,rfl,T7.s.d,by omega,by decide,by decide,fun r H18 r0 r1 D18 f18=>⟨rfl,_,rfl,?_⟩⟩
     have T8:=T7.fr f18 D18
     by_cases hr0:r=0
     ·rw [decide_eq_true (show V.int r=V.int 0 by rw [hr0])]
      exact qt _ ⟨_,T8,by omega,fun _=>hsn⟩
     ·rw [decide_eq_false (show ¬ V.int r=V.int 0 from fun z=>hr0 (V.int.inj z))]
      exact qf _ ⟨_,T8,by omega,fun z=>nomatch z⟩
   ·obtain ⟨k2,T7,hk2,hne'⟩:=hC
    have hne:=hne' rfl
    have lpos:0<S'.sn.length:=List.length_pos_iff.mpr hne
    refine ⟨_,rfl,_,rfl,pT,_,rfl,.inl (.inl (.inl T7.t)),dh,pc,_,_,rfl,T7.s.d,by omega,(by show (0:Int)<(((S'.sn.map V.str).length:Nat):Int); rw [List.length_map]; omega),(by show (((S'.sn.map V.str).length:Nat):Int)<1073741824; rw [List.length_map]; omega),fun tn H18 tn0 tn1 D18 f18=>?_⟩
    obtain ⟨tn,rfl⟩:∃ z:Nat,tn=(z:Int):=⟨tn.toNat,by omega⟩
    have T8:=T7.fr f18 D18
    obtain ⟨vs8,e8,p8⟩:=T8.s.r
    refine ⟨_,rfl,.inl ⟨rfl,_,.inl (.inl e8)⟩,by show 1<=sizeLine; decide,fun q1 hq1=>?_⟩
    obtain ⟨H19,eqH,s9,l9⟩:=DW (o:=HO.lst [V.str "step"]) hq1
    rw [eqH]
    have T9:=T8.same s9
    refine ⟨_,rfl,_,rfl,_,rfl,pT,_,rfl,.inl (.inl T9.t),fun q2 hq2=>?_⟩
    rw [Qp]
    obtain ⟨H20,eqH,s10,l10⟩:=DW (o:=HO.lst ((S'.sn.map V.str).drop tn)) hq2
    rw [eqH]
    have T10:=T9.same s10
    refine ⟨_,rfl,_,rfl,_,rfl,pT,_,rfl,.inl (.inl T10.t),fun q3 hq3=>?_⟩
    rw [Ku]
    obtain ⟨H21,eqH,s11,l11⟩:=DW (o:=HO.lst ((S'.sn.map V.str).take tn)) hq3
    rw [eqH]
    refine ⟨q2,q3,_,_,rfl,rfl,s11 _ _ l10,l11,Be (by rw [List.length_drop,List.length_take,List.length_map]; omega),fun q4 hq4=>?_⟩
    obtain ⟨H22,eqH,s12,l12⟩:=DW (o:=HO.lst ((S'.sn.map V.str).drop tn++(S'.sn.map V.str).take tn)) hq4
    rw [eqH]
    have T12:=T10.same (s11.trans s12)
    refine ⟨_,rfl,dh,pc,_,3,rfl,T12.s.d,by omega,by decide,by decide,fun z H23 z0 z1 D23 f23=>?_⟩
    have n4:=DH.eY (T10.same s11).s.d hq4
    rw [← f23 q4 n4.1 n4.2] at l12
    refine ⟨_,_,rfl,rfl,_,rfl,q4,_,rfl,.inl (.inl l12),fun q5 hq5=>?_⟩
    obtain ⟨z,rfl⟩:∃ y:Nat,z=(y:Int):=⟨z.toNat,by omega⟩
    have ez:(1:Int)+((z:Nat):Int)=((1+z:Nat):Int):=by omega
    rw [ez,Ku,← List.map_drop,← List.map_take,← List.map_append,← List.map_take]
    obtain ⟨t0,ts,ets,nd,hin,hlen⟩:=U3 O6.sd hne tn z
    rw [ets]
    have T13:=T12.fr f23 D23
    have n1:=DH.eY T8.s.d hq1
    have l9':H23 q1=some (.lst [V.str "step"]):=by
     rw [f23 q1 n1.1 n1.2]
     exact s12 _ _ (s11 _ _ (s10 _ _ l9))
    obtain ⟨H24,eqH,s14,l14⟩:=DW (o:=HO.lst ((t0::ts).map V.str)) hq5
    rw [eqH]
    refine ⟨q1,q5,_,_,rfl,rfl,s14 _ _ l9',l14,Be (by rw [List.length_map]; show 1+(t0::ts).length<=1000; omega),fun q6 hq6=>?_⟩
    have s15:=Av (o:=HO.lst ([V.str "step"]++(t0::ts).map V.str)) hq6
    refine ⟨q6,_,rfl,.inl ⟨.inl (.inl Ag),fun T16 hT16=>?_⟩⟩
    have s16:=Av (o:=HO.tup ([V.str "step"]++(t0::ts).map V.str)) hT16
    have t16:upd (upd H24 q6 (HO.lst ([V.str "step"]++(t0::ts).map V.str))) T16 (HO.tup ([V.str "step"]++(t0::ts).map V.str)) T16=some (.tup ([V.str "step"]++(t0::ts).map V.str)):=Ag
    generalize upd (upd H24 q6 (HO.lst ([V.str "step"]++(t0::ts).map V.str))) T16 (HO.tup ([V.str "step"]++(t0::ts).map V.str))=H25 at s16 t16 ⊢
    have T16':=T13.same (s14.trans (s15.trans s16))
    obtain ⟨vs25,e25,p25⟩:=T16'.s.r
    have lv25:vs25.length=S'.rows.length:=p25.length.symm
    refine ⟨pR,vs25,_,rfl,rfl,e25,A_ (by omega),?_⟩
    have hB:=O6.bl.step F.mT nd (by omega) (fun t ht=>by
     obtain ⟨kk,hkk,hkw,hkn⟩:=O6.sn t (hin t ht)
     obtain ⟨jj,hjj,ejj⟩:=O6.kn hkk
     refine ⟨?_,kk,hkk,hkw,hkn⟩
     rw [← hkn,ejj]
     exact (Iw (JF (show kd<3 by omega) (show at_<5 by omega) (by omega))).1) (by omega)
    have R25:=T16'.app e25 (r:=⟨"step",t0,ts.map V.str⟩) (v:=.ref T16) ⟨T16,rfl,t16⟩
    have O7:=O6.row (r:=⟨"step",t0,ts.map V.str⟩) (by show Eh "step" = false; decide +kernel) (sts':=_) (by rw [List.length_append]; show S'.sts.length+1<=i+1; omega) hB
    exact ⟨_,_,_,_,_,_,_,R25,by omega,O7.le (by omega),by show S'.bs.length=_; rw [ebs]; exact hb,rfl⟩
   ·obtain ⟨k2,T7,hk2,_⟩:=hC
    exact ⟨S',k2,_,_,_,_,_,T7,by omega,O6.le (by omega),by rw [ebs]; exact hb,rfl⟩
  rintro σ H12 ⟨S,k,v5,v7,v8,v9,v10,T2,hk,O2,hb,rfl⟩
  exact ⟨_,rfl,q pR S kd at_ (1+ni) k H12 (by omega) (by omega) (by omega) (by omega) O2 T2.s (by omega)⟩
open Bw
theorem bj (z:Str):inV (.str z) [.str "stop",.str "coupler",.str "mute"]=Eh z:=rfl
noncomputable def YC:Sp:=fun vs H Q _=>∃ (p:Addr) (us:List V) (rows:List R),vs=[.ref p]/\H p=some (.lst us)/\Paired (fun (r:R) v=>TupAt H r.v v) rows us/\rows.length<=200/\∀ D us' H',H D=none->Ak H H'->H' D=some (.lst us')->Paired (fun (r:R) v=>TupAt H' r.v v) (rows.filter fun r=>Eh r.w) us'->Q (.ref D) H'
theorem Gd {H:Hp}:∀ {rows:List R} {vs:List V},Paired (fun (r:R) v=>TupAt H r.v v) rows vs->Paired (fun (r:R) v=>TupAt H r.v v) (rows.filter fun r=>Eh r.w) (vs.filter fun v=>Eh (GP H v).w)
 | [],_,h=>by
  cases h
  exact .nil
 | r::rows,_,h=>by
  cases h with
  | cons a b =>
   have ih:=Gd b
   rw [List.filter_cons,List.filter_cons,HX a]
   by_cases hk:Eh r.w=true
   ·rw [if_pos hk,if_pos hk]
    exact .cons a ih
   ·rw [if_neg hk,if_neg hk]
    exact ih
theorem iw:Aq ["_law_rows"] ["_law_rows"] (Af fM):=Bp
include N T in
theorem WX:Ar P w K mg base Bh 1 fLx dLx ["_law_rows"] YC:=by
 refine N.FLx.1.ok iw (fun vs H Q E h=>?_) (fun cdv A outer s H vs Q E hr h=>?_)
 ·obtain ⟨p,us,rows,rfl,_⟩:=h
  rfl
 ·obtain ⟨p,us,rows,rfl,hp,hpr,hl,q⟩:=h
  refine ⟨_,(@Ai _ _ _ (@Aw _ _ _ _ (Bk rfl (Ba (osc:=Af fM) (N:=["_law_rows"]) rfl rfl (by decide +kernel)) (Br (pv 0)) (fun _ _ _ _=>(Hk (BK (Hf (K:=K) rfl) (@Ay _ _ _ _ _ _ _ (Ax (K:=K) rfl) (pv 0) Ac (fun _ _=>rfl)) (@Bq _ _ _ _ _ (@An _ _ _ _ _ rfl BL (@An _ _ _ _ _ rfl BL (@An _ _ _ _ _ rfl BL Aa)))) rfl))) (fun _ _ _ _=>(pv 0))))),?_⟩
  have hS:Cw K H p us:=.inl (.inl hp)
  have lu:us.length=rows.length:=hpr.length.symm
  refine ⟨_,rfl,p,rfl,⟨_,hS⟩,Cu (K:=K) (xs:=us) (fun v=>Eh (GP H v).w) id hS (A_ (by omega)) (fun y hy Hx hs R kk=>?_) (fun y hy _ Hx hs R kk=>⟨_,rfl,kk Hx (Ak.refl Hx)⟩) (fun D H' hD hs hl'=>?_)⟩
  ·obtain ⟨T0,rfl,hT⟩:=((Il hpr) y hy).mono hs
   refine ⟨_,rfl,T0,_,_,_,rfl,rfl,.inl (.inl hT),Aj (j:=0) rfl,by show 3<=sizeLine; decide,fun q1 hq1=>?_⟩
   have s1:=Av (o:=HO.tup [V.str "stop",.str "coupler",.str "mute"]) hq1
   refine ⟨q1,_,rfl,.inr (.inl (.inl Ag)),rfl,rfl,_,rfl,?_⟩
   have:=kk _ s1
   rw [← bj] at this
   exact this
  rw [List.map_id] at hl'
  exact q D _ H' hD hs hl' (Ao hs (Gd hpr))
theorem G8 {H0 H:Hp} {a:Addr} {o:HO} (s:Ak H0 H) (h:H0 a=none):Ak H0 (upd H a o):=fun b u e=>by
 rw [Al (Ah e h)]
 exact s _ _ e
theorem Sv {ns:List Str} {v:V} {t:Str} (h:Gp ns v=.non) (e:v=.str t) (ht:t∈ns):False:=by
 subst e
 rw [d_ ht] at h
 cases h
noncomputable def Xi (pE pA:Addr):Sp:=fun vs H Q _=>∃ (x c dx:Addr) (k:Nat),vs=[.ref x,.int (k:Nat)]/\(c=pE \/ c=pA)/\H x=some (.ins c dx [])/\Q .non (upd H x (.ins c dx [("knob_set",.int (k:Nat))]))
noncomputable def cj (pE pA:Addr):Sp:=fun vs H Q _=>∃ (x dx:Addr) (k w:Nat),vs=[.ref x,.int (k:Nat),.int (w:Nat)]/\H x=some (.ins pA dx [])/\∀ H',SX x H H'->Ei pE pA H' x (.part k w)->Q .non H'
noncomputable def dz (pE:Addr):Sp:=fun vs H Q _=>∃ (x dx:Addr) (k d:Nat),vs=[.ref x,.int (d:Nat)]/\H x=some (.ins pE dx [("knob_set",.int (k:Nat))])/\Q (.int (k:Nat)) H
noncomputable def Yv (pA:Addr):Sp:=fun vs H Q _=>∃ (x dx:Addr) (k w d:Nat),vs=[.ref x,.int (d:Nat)]/\H x=some (.ins pA dx [("knob_set",.int (k:Nat)),("whole_set",.int (w:Nat))])/\Q (.int (((d - (d &&& w)) ||| k:Nat):Int)) H
theorem lU:Aq ["self","knobs"] ["self","knobs"] (Af jW):=Bp
include N T in
theorem Wo:Ar P w K mg base Bh 1 fPi dPi ["self","knobs"] (Xi pE pA):=by
 refine N.FPi.1.ok lU (fun vs H Q E h=>?_) (fun cdv A outer s H vs Q E hr h=>?_)
 ·obtain ⟨x,c,dx,k,rfl,_⟩:=h
  rfl
 ·obtain ⟨x,c,dx,k,rfl,hc,h1,q⟩:=h
  have hu:=CV hr
  refine ⟨_,(Ai (Cm (pv 0) (pv 1) rfl)),?_⟩
  rcases hc with rfl | rfl
  ·exact ⟨_,rfl,_,rfl,x,_,dx,_,rfl,h1,T.pis.cE,T.pis.nEk,by show 0<1000; decide,q⟩
  ·exact ⟨_,rfl,_,rfl,x,_,dx,_,rfl,h1,T.pis.cA,T.pis.nAk,by show 0<1000; decide,q⟩
theorem gJ:Aq ["self","knobs","whole"] ["self","knobs","whole"] (Af jN):=Bp
include N T in
theorem dC:Ar P w K mg base Bh 2 fAi dAi ["self","knobs","whole"] (cj pE pA):=by
 have GPi:Ar P w K mg base Bh 1 fPi dPi ["self","knobs"] (Xi pE pA):=Wo N T
 refine N.FAi.1.ok gJ (fun vs H Q E h=>?_) (fun cdv A outer s H vs Q E hr h=>?_)
 ·obtain ⟨x,dx,k,w0,rfl,_⟩:=h
  rfl
 ·obtain ⟨x,dx,k,w0,rfl,h1,q⟩:=h
  have hrPi:BW 1 _:=hr.mono (by decide)
  have hu:=CV hr
  refine ⟨_,(Ad (CG (Nv rfl T.pis.mB N.cPi GPi hrPi N.FPi.2.1 .nil Az (Ab (pv 0) (Ab (pv 1) Aa))))
   (Ai (Cm (pv 0) (pv 2) rfl))),?_⟩
  refine ⟨_,rfl,_,rfl,x,pA,dx,k,rfl,.inr rfl,h1,?_⟩
  refine ⟨_,rfl,_,rfl,x,pA,dx,_,rfl,Ag,T.pis.cA,T.pis.nAw,by show 1<1000; decide,?_⟩
  exact q _ (SX.up.trans SX.up) ⟨dx,Ag⟩
theorem i_:Aq ["self","drawn"] ["self","drawn"] (Af jB):=Bp
include N T in
theorem Y9:Ar P w K mg base Bh 1 fEp dEp ["self","drawn"] (dz pE):=by
 refine N.FEp.1.ok i_ (fun vs H Q E h=>?_) (fun cdv A outer s H vs Q E hr h=>?_)
 ·obtain ⟨x,dx,k,d,rfl,_⟩:=h
  rfl
 ·obtain ⟨x,dx,k,d,rfl,h1,q⟩:=h
  have hu:=CV hr
  refine ⟨_,(Ai (Aw (Bf (pv 0) rfl))),?_⟩
  exact ⟨_,rfl,x,pE,dx,_,_,rfl,h1,T.pis.cE,T.pis.nEk,rfl,q⟩
theorem iB:Aq ["self","drawn"] ["self","drawn"] (Af je):=Bp
include N T in
theorem Z5:Ar P w K mg base Bh 1 fAp dAp ["self","drawn"] (Yv pA):=by
 refine N.FAp.1.ok iB (fun vs H Q E h=>?_) (fun cdv A outer s H vs Q E hr h=>?_)
 ·obtain ⟨x,dx,k,w0,d,rfl,_⟩:=h
  rfl
 ·obtain ⟨x,dx,k,w0,d,rfl,h1,q⟩:=h
  have hu:=CV hr
  refine ⟨_,(Ai (Aw (BR MF (BR Ou (pv 1) (Mx Tw (Bf (pv 0) rfl))) (Bf (pv 0) rfl)))),?_⟩
  refine ⟨_,rfl,_,rfl,x,pA,dx,_,_,rfl,h1,T.pis.cA,T.pis.nAw,rfl,_,rfl,_,_,rfl,rfl,_,rfl,x,pA,dx,_,_,rfl,h1,T.pis.cA,T.pis.nAk,rfl,_,_,rfl,rfl,?_⟩
  dsimp only
  rw [Pn,Ik]
  exact q
noncomputable def JH:V->Bool
 | .int i=>decide (0<=i) && decide (i<10)
 | _=>false
noncomputable def XD:Sp:=fun vs H Q _=>∃ v:V,vs=[v]/\Ex H v/\Q (.bl (JH v)) H
theorem gD:Aq ["thing"] ["thing"] (Af lJ):=Bp
include N T in
theorem Wm:Ar P w K mg base Bh 2 fIp dIp ["thing"] XD:=by
 have GWhG:Ar P w K mg base Bh 1 fWh dWh ["thing"] Uj:=TF N T
 refine N.FIp.1.ok gD (fun vs H Q E h=>?_) (fun cdv A outer s H vs Q E hr h=>?_)
 ·obtain ⟨v,rfl,_⟩:=h
  rfl
 ·obtain ⟨v,rfl,hv,q⟩:=h
  have hrWhG:BW 1 _:=hr.mono (by decide)
  obtain ⟨tPC,hPC⟩:=T.pis.most
  refine ⟨_,(Ai (Aw (Dh (Am GWhG hrWhG rfl N.FWh.2.2 N.FWh.1.kp N.FWh.2.1 .nil Az (Ab (pv 0) Aa)) (Dd (Gq Fj JN Ac (pv 0) (Bs (v:=.int 10) rfl hPC ⟨tPC,rfl⟩)))))),?_⟩
  refine ⟨_,rfl,v,rfl,hv,_,rfl,?_⟩
  cases v with
  | int i =>
   refine Cj ⟨_,rfl,_,_,rfl,rfl,_,rfl,Ci (fun h0=>?_) (fun h0=>?_)⟩
   ·refine ⟨_,_,rfl,rfl,?_⟩
    have e:JH (.int i)=decide (i<10):=by
     show (decide (0<=i) && decide (i<10))=_
     rw [h0,Bool.true_and]
    rw [e] at q
    exact q
   ·have e:JH (.int i)=false:=by
     show (decide (0<=i) && decide (i<10))=_
     rw [(Bool.not_eq_true _).mp h0,Bool.false_and]
    rw [e] at q
    exact q
  | _=>exact Bo q
theorem g_:Aq ["self","name"] ["self","name"] (Af gh):=Bp
include N T in
theorem bH:Ar P w K mg base Bh 3 fOu dOu ["self","name"] (d9 C):=by
 have GNmG:Ar P w K mg base Bh 2 fNm dNm ["thing"] SQ:=Rx N T
 refine N.FOu.1.ok g_ (fun vs H Q E h=>?_) (fun cdv A outer s H vs Q E hr h=>?_)
 ·obtain ⟨x,us,bs,rk,ks,ls,sts,v,rfl,_⟩:=h
  rfl
 ·obtain ⟨x,us,bs,rk,ks,ls,sts,v,rfl,O,hv,hn,q⟩:=h
  have hrNmG:BW 2 _:=hr.mono (by decide)
  have hu:=CV hr
  obtain ⟨tLET,hLET⟩:=T.letters
  obtain ⟨tML,hML⟩:=T.mostL
  refine ⟨_,(Ai (Aw (Mq (Dj (Am GNmG hrNmG rfl N.FNm.2.2 N.FNm.1.kp N.FNm.2.1 .nil Az (Ab (pv 1) Aa))) (MJ hu (Bf (pv 0) rfl) (pv 1) ⟨rfl,rfl,rfl,rfl⟩) Gh))),?_⟩
  obtain ⟨O1,dx,fs,rl,kd,ss,kvs,h1,l1,l2,l3,h2,h3,h4,h5,h6,bn,kb,h7,h8,h9⟩:=id O
  obtain ⟨⟨dx',fs',bl,bn',kp,kr,bvs,pvs,uvs,kvs',g1,m1,m2,m3,m4,lm,e2,e3,e4,e5,e6,e7,e8,e9⟩,ob5,osz,onk⟩:=id O1.o
  rw [h1] at g1
  cases g1
  rw [h7] at m2
  cases m2
  rw [h8] at e4
  cases e4
  refine ⟨_,rfl,v,rfl,hv,fun b H1 s1 hb=>⟨_,rfl,?_⟩⟩
  refine Ci (fun z=>?_) (fun z=>?_)
  ·obtain ⟨t,rfl,ht⟩:=hb.mp z
   refine ⟨_,rfl,x,C,dx,_,_,rfl,s1 _ _ h1,T.cl,T.n_board_numbers,h7,bn,rfl,.inl ⟨_,.inl (s1 _ _ h8)⟩,_,rfl,_,HQ.k (k:=Sum.inr t) (s1 _ _ h8),?_⟩
   rw [valN (fun i t ht=>by rw [List.getElem?_map] at ht; obtain ⟨b,hb,rfl⟩:=Option.map_eq_some_iff.mp ht; exact e5 i b hb) h9 t]
   exact q _ s1
  ·have e:=QL hn fun c=>z (hb.mpr c)
   rw [e] at q
   exact q _ s1
noncomputable def b8 (C:Addr):Sp:=fun vs H Q _=>∃ (x:Addr) (bs:List (Str × Nat)) (ks:List R) (k j1:Nat) (b1:Str × Nat) (wd nm:Str) (rs:List V),vs=[.ref x,.int (k:Nat)]/\Kd C H x bs ks/\ks[k]? = some ⟨wd,nm,.str b1.1::rs⟩/\bs[j1]? = some b1/\Q (.int (j1:Nat)) H
theorem j7:Aq ["self","knob"] ["self","knob"] (Af gf):=Bp
include N T in
theorem aa:Ar P w K mg base Bh 1 fBk dBk ["self","knob"] (b8 C):=by
 refine N.FBk.1.ok j7 (fun vs H Q E h=>?_) (fun cdv A outer s H vs Q E hr h=>?_)
 ·obtain ⟨x,bs,ks,k,j1,b1,wd,nm,rs,rfl,_⟩:=h
  rfl
 ·obtain ⟨x,bs,ks,k,j1,b1,wd,nm,rs,rfl,O,hk,hb1,q⟩:=h
  have hu:=CV hr
  refine ⟨_,(Ai (Aw (Ja hu (Bf (pv 0) rfl) (Ay (Ax (K:=K) rfl) (Ay Bt (Bf (pv 0) rfl) (pv 1) (fun _ _=>rfl)) Ac (fun _ _=>rfl)) (fun _ _=>rfl)))),?_⟩
  obtain ⟨⟨dx,fs,bl,bn,kp,kr,bvs,pvs,uvs,kvs,h1,l1,l2,l3,l4,lm,h2,h3,h4,h5,h6,h7,h8,h9⟩,ob5,osz,onk⟩:=id O
  obtain ⟨y,hy,T0,rfl,ht⟩:=Fq h9 hk
  have g1:=HQ.k (k:=Sum.inr b1.1) h4
  rw [h5 j1 b1 hb1] at g1
  exact ⟨_,rfl,x,C,dx,_,_,rfl,h1,T.cl,T.n_board_numbers,l2,_,rfl,x,C,dx,_,_,rfl,h1,T.cl,T.n_knob_rows,l4,_,rfl,kr,uvs,_,_,rfl,rfl,.inl (.inl h8),Aj hy,T0,_,_,_,rfl,rfl,.inl (.inl ht),Aj (j:=2) rfl,bn,_,rfl,g1,q⟩
noncomputable def aq (C:Addr):Sp:=fun vs H Q _=>∃ (x:Addr) (bs:List (Str × Nat)) (ks:List R),vs=[.ref x]/\Kd C H x bs ks/\∀ D ys H',H D=none->Ak H H'->H' D=some (.lst ys)->Paired (fun (r:R) y=>TupAt H' [.str r.w,.str r.nm] y) ks ys->Q (.ref D) H'
theorem kj:Aq ["self"] ["self"] (Af e_):=Bp
include N T in
theorem ZW:Ar P w K mg base Bh 1 fOz dOz ["self"] (aq C):=by
 refine N.FOz.1.ok kj (fun vs H Q E h=>?_) (fun cdv A outer s H vs Q E hr h=>?_)
 ·obtain ⟨x,bs,ks,rfl,_⟩:=h
  rfl
 ·obtain ⟨x,bs,ks,rfl,O,q⟩:=h
  refine ⟨_,(Ai (Aw (Bk rfl (Ba (osc:=Af e_) (N:=["self"]) rfl rfl (by decide +kernel)) (Br (Bf (pv 0) rfl)) (fun _ _ _ _=>Cq) (fun _ _ _ _=>(Bq (Ab (Ay (Ax (K:=K) rfl) (pv 0) Ac (fun _ _=>rfl)) (Ab (Ay (Ax (K:=K) rfl) (pv 0) Ac (fun _ _=>rfl)) Aa))))))),?_⟩
  obtain ⟨⟨dx,fs,bl,bn,kp,kr,bvs,pvs,uvs,kvs,h1,l1,l2,l3,l4,lm,h2,h3,h4,h5,h6,h7,h8,h9⟩,ob5,osz,onk⟩:=id O
  have hS:Cw K H kr uvs:=.inl (.inl h8)
  have hul:=h9.length
  refine ⟨_,rfl,x,C,dx,_,_,rfl,h1,T.cl,T.n_knob_rows,l4,kr,rfl,⟨_,hS⟩,Jx (K:=K) (xs:=uvs) (fun _=>true) (fun v=>[.str (GP H v).w,.str (GP H v).nm]) hS (A_ (by omega)) (fun y hy H' hs R k=>k H' (Ak.refl H')) (fun y hy _ H' hs R k=>?_) (fun D H' ys hD hs hl hv=>?_)⟩
  ·obtain ⟨r,_,hr0⟩:=Cg h9 hy
   have e:=HX hr0
   rw [e] at k
   obtain ⟨T0,rfl,hT⟩:=hr0.mono hs
   exact ⟨_,rfl,T0,_,_,_,rfl,rfl,.inl (.inl hT),Aj (j:=0) rfl,_,rfl,T0,_,_,_,rfl,rfl,.inl (.inl hT),Aj (j:=1) rfl,by show 2<=sizeLine; decide,fun T6 hT6=>k _ _ (Av hT6) ⟨T6,rfl,Ag⟩⟩
  ·rw [List.filter_eq_self.mpr (fun _ _=>rfl)] at hv
   have h:=Ce (F:=fun (r:R) y=>TupAt H' [.str r.w,.str r.nm] y) (GP H) hv
   rw [JZ h9] at h
   exact q D ys H' hD hs hl h
noncomputable def Zd (C cB:Addr):Sp:=fun vs H Q E=>∃ (x:Addr) (us:List V) (bs:List (Str × Nat)) (rk:List (Str × Nat × Int)) (ks:List R) (ls:List (List Ln)) (sts:List Nat) (v:V),vs=[.ref x,v]/\Iz C H x us bs rk ks ls sts/\Ex H v/\(∀ n∈bs.map (·.1),isNm n) /\
 (∀ t H',Ak H H'->v=.str t->t∈bs.map (·.1)->Q (.int (((bs.map (·.1)).idxOf t:Nat):Int)) H')/\(∀ H',Ak H H'->Gp (bs.map (·.1)) v=.non->E (.ref cB) none H')
theorem cU:Aq ["organ","name","board"] ["organ","name"] (Af jK):=Bp
include N T in
theorem di:Ar P w K mg base (JG P w) 4 fBn dBn ["organ","name"] (Zd C cB):=by
 have GOu:Ar P w K mg base Bh 3 fOu dOu ["self","name"] (d9 C):=bH N T
 refine N.FBn.1.Vf cU (fun vs H Q E h=>?_) (fun cdv A outer s H vs Q E hr h=>?_)
 ·obtain ⟨x,us,bs,rk,ks,ls,sts,v,rfl,_⟩:=h
  rfl
 ·obtain ⟨x,us,bs,rk,ks,ls,sts,v,rfl,O,hv,hn,q,qe⟩:=h
  have hrOu:BW 3 _:=hr.mono (by decide)
  have hu:=CV hr
  refine ⟨_,(Ad (Cr (i:=2) cU.nd rfl (Or.inl rfl) (GJ (pv 0) T.cl N.FOu.2.2 GOu hrOu N.FOu.2.1 .nil Az (Ab (pv 1) Aa)))
   (Ad (Bg (BK N7 (pv 2) Gh (BV _)) (Ai (Gk T.x4.rB.ex rfl T.x4.mB rfl Ht (Ab BL Aa))) BZ)
   (Ai (Aw (pv 2))))),?_⟩
  obtain ⟨⟨⟨dx,fs,_,_,_,_,_,_,_,_,h1,_,_,_,_,lm,_⟩,_⟩,_⟩:=id O.o
  refine ⟨_,rfl,x,dx,fs,rfl,h1,lm _ (by decide +kernel),_,rfl,x,us,bs,rk,ks,ls,sts,v,rfl,O,hv,hn,fun H1 s1=>?_⟩
  rcases Kg (bs.map (·.1)) v with e | ⟨t,rfl,ht,e⟩
  ·have qe':=qe H1 s1 e
   rw [e]
   exact ⟨_,rfl,rfl,_,rfl,Cj ⟨by show 1<=1000; decide,qe'⟩⟩
  ·rw [e]
   exact ⟨_,rfl,rfl,_,rfl,Bo ⟨_,rfl,q t H1 s1 rfl ht⟩⟩
noncomputable def U0 (ks:List R) (t:Str) (k:Nat):Bool:=match ks[k]? with
 | some r=>decide (r.rest.head? = some (V.str t))
 | none=>false
noncomputable def Ha (ks:List R) (t:Str):Nat:=Wd.mk ((List.range ks.length).filter (U0 ks t))
noncomputable def aU (C cB:Addr):Sp:=fun vs H Q E=>∃ (x:Addr) (us:List V) (bs:List (Str × Nat)) (rk:List (Str × Nat × Int)) (ks:List R) (ls:List (List Ln)) (sts:List Nat) (v:V),vs=[.ref x,v]/\Iz C H x us bs rk ks ls sts/\Ex H v/\(∀ n∈bs.map (·.1),isNm n)/\(bs.map (·.1)).Nodup/\ks.length<=100/\(∀ r∈ks,∃ b∈bs,∃ rs,r.rest=.str b.1::rs) /\
 (∀ t H',Ak H H'->v=.str t->t∈bs.map (·.1)->Q (.int ((Ha ks t:Nat):Int)) H')/\(∀ H',Ak H H'->Gp (bs.map (·.1)) v=.non->E (.ref cB) none H')
theorem Z1:Aq ["organ","name","board"] ["organ","name"] (Af eU):=Bp
include N T in
theorem ZD:Ar P w K mg base (JG P w) 5 fKb dKb ["organ","name"] (aU C cB):=by
 have GBn:Ar P w K mg base (JG P w) 4 fBn dBn ["organ","name"] (Zd C cB):=di N T
 have GBk:Ar P w K mg base Bh 1 fBk dBk ["self","knob"] (b8 C):=aa N T
 have GOz:Ar P w K mg base Bh 1 fOz dOz ["self"] (aq C):=ZW N T
 have GSt:Ar P w K mg base Bh 3 fSt dSt ["numbers"] S9:=Um N T
 refine N.FKb.1.Vf Z1 (fun vs H Q E h=>?_) (fun cdv A outer s H vs Q E hr h=>?_)
 ·obtain ⟨x,us,bs,rk,ks,ls,sts,v,rfl,_⟩:=h
  rfl
 ·obtain ⟨x,us,bs,rk,ks,ls,sts,v,rfl,O,hv,hn,nd,hl,hkb,q,qe⟩:=h
  have hrBn:BW 4 _:=hr.mono (by decide)
  have hrBk:BW 1 _:=hr.mono (by decide)
  have hrOz:BW 1 _:=hr.mono (by decide)
  have hrSt:BW 3 _:=hr.mono (by decide)
  have hu:=CV hr
  refine ⟨_,(Ad (Cr (i:=2) Z1.nd rfl (Or.inr rfl) (Am GBn hrBn rfl N.FBn.2.2 N.FBn.1.kp N.FBn.2.1 .nil Jb (Ab (pv 0) (Ab (pv 1) Aa))))
   (Ai (Aw (Am GSt hrSt rfl N.FSt.2.2 N.FSt.1.kp N.FSt.2.1 .nil Az (Ab (Bk rfl (Ba (osc:=Af eU) (N:=["organ","name","board"]) rfl rfl (by decide +kernel)) (El rfl T.range (Ab (BJ BX rfl T.len PySem.boot_len (Ab (Ep (pv 0) T.cl N.FOz.2.2 GOz hrOz N.FOz.2.1 .nil Az) Aa)) Aa)) (fun _ _ _ _=>(Hk (BK Bu (GJ (pv 1) T.cl N.FBk.2.2 GBk hrBk N.FBk.2.1 .nil Az (Ab (pv 0) Aa)) (pv 3) (BV _)))) (fun _ _ _ _=>(pv 0))) Aa))))),?_⟩
  refine ⟨_,rfl,_,rfl,x,us,bs,rk,ks,ls,sts,v,rfl,O,hv,hn,fun t H1 s1 ev ht=>?_,fun H1 s1 e=>qe H1 s1 e⟩
  subst ev
  have O1:=O.mono s1
  obtain ⟨⟨⟨dx,fs,_,_,_,_,_,_,_,_,h1,_,_,_,_,lm,_⟩,_⟩,_⟩:=id O1.o
  refine ⟨_,rfl,x,dx,fs,rfl,h1,lm _ (by decide +kernel),x,_,_,rfl,O1.o.o,fun D2 nvs H2 hD2 s2 q2 p2=>?_⟩
  have ln2:nvs.length=ks.length:=p2.length.symm
  refine ⟨D2,_,rfl,.inl (.inl (.inl q2)),_,rfl,by omega,by omega,PJ (lo:=0) (n:=nvs.length) (fun z=>U0 ks t z.toNat) (fun z=>.int z) (A_ (by omega)) (fun i hi Hx hs R kk=>?_) (fun i hi _ Hx hs R kk=>⟨_,rfl,kk Hx (Ak.refl Hx)⟩) (fun D3 H3 hD3 s3 hl3=>?_)⟩
  ·have ei:(0:Int)+((i:Nat):Int)=((i:Nat):Int):=by omega
   rw [ei] at kk ⊢
   obtain ⟨r,hr⟩:∃ r,ks[i]? = some r:=⟨_,List.getElem?_eq_getElem (by omega)⟩
   obtain ⟨b,hb,rs,er⟩:=hkb r (List.mem_of_getElem? hr)
   obtain ⟨j,hj⟩:=List.getElem?_of_mem hb
   have e1:U0 ks t i=decide (V.int ((j:Nat):Int)=V.int (((bs.map (·.1)).idxOf t:Nat):Int)):=by
    unfold U0
    rw [hr]
    show decide (r.rest.head? = some (V.str t))=_
    rw [er,decide_eq_decide]
    have hjm:(bs.map (·.1))[j]? = some b.1:=by rw [List.getElem?_map,hj]; rfl
    constructor
    ·intro z
     have z':b.1=t:=V.str.inj (Option.some.inj z)
     rw [z'] at hjm
     have hjl:=(List.getElem?_eq_some_iff.mp hjm).1
     rw [(List.getElem?_inj hjl nd).mp (hjm.trans (Gw ht).symm)]
    ·intro z
     have z':j=(bs.map (·.1)).idxOf t:=by have:=V.int.inj z; omega
     rw [z',Gw ht] at hjm
     show some (V.str b.1)=some (V.str t)
     rw [← Option.some.inj hjm]
   obtain ⟨rw_,rn,rr⟩:=r
   obtain rfl:rr=.str b.1::rs:=er
   have Ox:=(O1.mono s2).mono hs
   obtain ⟨⟨⟨dx',fs',_,_,_,_,_,_,_,_,h1',_,_,_,_,lm',_⟩,_⟩,_⟩:=id Ox.o
   refine ⟨_,rfl,x,dx',fs',rfl,h1',lm' _ (by decide +kernel),_,rfl,x,bs,ks,i,j,b,rw_,rn,rs,rfl,Ox.o.o,hr,hj,_,rfl,rfl,_,rfl,?_⟩
   have:=kk Hx (Ak.refl Hx)
   rw [Int.toNat_natCast,e1] at this
   exact this
  have el:((((List.range nvs.length).map fun (i:Nat)=>(0:Int)+(i:Int)).filter fun z=>U0 ks t z.toNat).map fun z=>V.int z)=nV ((List.range ks.length).filter (U0 ks t)):=by
   rw [ln2,List.filter_map,List.map_map]
   have ef:((fun z:Int=>U0 ks t z.toNat) ∘ fun (i:Nat)=>(0:Int)+(i:Int))=U0 ks t:=by
    funext k
    show U0 ks t ((0:Int)+(k:Int)).toNat=U0 ks t k
    rw [Int.zero_add,Int.toNat_natCast]
   rw [ef]
   unfold nV
   refine List.map_congr_left fun k _=>?_
   show V.int ((0:Int)+(k:Int))=V.int (k:Int)
   rw [Int.zero_add]
  rw [el] at hl3
  refine ⟨D3,_,rfl,hl3,Nat.le_trans (List.length_filter_le _ _) (by rw [List.length_range]; omega),fun n hn=>?_,fun H4 s4=>q t H4 (s1.trans (s2.trans (s3.trans s4))) rfl ht⟩
  have:=List.mem_range.mp (List.mem_filter.mp hn).1
  omega
structure dj (bs:List (Str × Nat)) (ks:List R):Prop where
 bn:∀ n∈bs.map (·.1),isNm n
 bd:(bs.map (·.1)).Nodup
 kn:∀ n∈Hl ks,isNm n
 kd:(Hl ks).Nodup
 kl:ks.length<=12
 kb:∀ r∈ks,∃ b∈bs,∃ rs,r.rest=.str b.1::rs
structure CJ (C Cy pE pA:Addr) (Ho H:Hp) (y x:Addr) (bs:List (Str × Nat)) (ks:List R) (sts:List Nat) (dr sh:Nat) (sd:Addr) (m:Nat->Option Ps) (c:Nat):Prop where
 o:∃ us rk ls,Yo C Cy Ho H y x us bs rk ks ls sts dr sh sd
 f:dj bs ks
 hs:Ho sd=none
 ny:sd ≠ y
 st:V2 pE pA H sd m c
section
variable {C Cy pE pA:Addr} {Ho H H':Hp} {y x:Addr} {bs:List (Str × Nat)} {ks:List R} {sts:List Nat} {dr sh dr' sh':Nat} {sd:Addr} {m m':Nat->Option Ps} {c c':Nat}
theorem CJ.ok (h:CJ C Cy pE pA Ho H y x bs ks sts dr sh sd m c):Et C Cy Ho H y x ks sts dr sh sd:=by
 obtain ⟨us,rk,ls,h1⟩:=h.o
 exact ⟨⟨us,bs,rk,ls,h1⟩,h.f.kn,by have:=h.f.kl; omega⟩
theorem CJ.mono (s:Ak H H') (h:CJ C Cy pE pA Ho H y x bs ks sts dr sh sd m c):CJ C Cy pE pA Ho H' y x bs ks sts dr sh sd m c:=by
 obtain ⟨us,rk,ls,h1⟩:=h.o
 exact ⟨⟨us,rk,ls,h1.mono s⟩,h.f,h.hs,h.ny,h.st.mono s⟩
theorem CJ.at (h:CJ C Cy pE pA Ho H y x bs ks sts dr sh sd m c):DQ Cy H y x dr sh sd:=by
 obtain ⟨us,rk,ls,h1⟩:=h.o
 exact h1.c
theorem CJ.not (h:CJ C Cy pE pA Ho H y x bs ks sts dr sh sd m c) {o:Addr} {ps:Ps} (hp:Ei pE pA H o ps):o ≠ y/\o ≠ sd:=by
 obtain ⟨dy,fs,h1,l1,_⟩:=h.at.ex
 obtain ⟨kvs,d1,_⟩:=h.st.ex
 have key:∃ c dx fs',H o=some (.ins c dx fs')/\fs'.lookup ("organ" : Str)=none:=by
  cases ps with
  | every k =>
   obtain ⟨dx,e⟩:=hp
   exact ⟨_,_,_,e,by rw [List.lookup_cons,show (("organ" : Str) == "knob_set")=false by decide +kernel]; rfl⟩
  | part k w =>
   obtain ⟨dx,e⟩:=hp
   exact ⟨_,_,_,e,by rw [List.lookup_cons,show (("organ" : Str) == "knob_set")=false by decide +kernel]; show List.lookup _ _=none; rw [List.lookup_cons,show (("organ" : Str) == "whole_set")=false by decide +kernel]; rfl⟩
 obtain ⟨c',dx,fs',e,l⟩:=key
 refine ⟨fun z=>?_,fun z=>by rw [z,d1] at e; cases e⟩
 rw [z,h1] at e
 cases e
 rw [l1] at l
 cases l
theorem CJ.put (h:CJ C Cy pE pA Ho H y x bs ks sts dr sh sd m c) (s:SX y H H') (a:DQ Cy H' y x dr' sh' sd):CJ C Cy pE pA Ho H' y x bs ks sts dr' sh' sd m c:=by
 obtain ⟨us,rk,ls,h1⟩:=h.o
 obtain ⟨kvs,d1,d2,d3,d4⟩:=h.st.ex
 refine ⟨⟨us,rk,ls,h1.o,fun b o e=>s b o (h1.s b o e) (Ah e h1.n),h1.n,a⟩,h.f,h.hs,h.ny,kvs,s _ _ d1 h.ny,d2,d3,fun p ps hp hm=>?_⟩
 obtain ⟨o,f1,f2⟩:=d4 p ps hp hm
 exact ⟨o,f1,f2.keep fun _ _ _ e=>s _ _ e (h.not f2).1⟩
end
noncomputable def Jj (m:Nat->Option Ps) (p:Nat) (ps:Ps):Nat->Option Ps:=fun q=>if q=p then some ps else m q
theorem U8 (kvs:List (Key × V)) (k:Key) (v:V):(putK kvs k v).length<=kvs.length+1:=by
 unfold putK
 split
 ·rw [List.length_map]
  omega
 ·rw [List.length_append]
  exact Nat.le_refl _
theorem Nk {v:V} (h:JH v=true):∃ p:Nat,v=.int (p:Nat)/\p<10:=by
 cases v with
 | int i =>
  have h1:(decide (0<=i) && decide (i<10))=true:=h
  rw [Bool.and_eq_true,decide_eq_true_eq,decide_eq_true_eq] at h1
  obtain ⟨j,rfl⟩:=Int.eq_ofNat_of_zero_le h1.1
  exact ⟨j,rfl,by omega⟩
 | _=>cases h
theorem Yi {p:Nat} (h:p<10):JH (.int (p:Nat))=true:=by
 show (decide (0<=(p:Int)) && decide ((p:Int)<10))=true
 rw [decide_eq_true (Int.natCast_nonneg p),decide_eq_true (by omega)]
 rfl
section
variable {C Cy pE pA:Addr} {Ho H H':Hp} {y x:Addr} {bs:List (Str × Nat)} {ks:List R} {sts:List Nat} {dr sh dr' sh':Nat} {sd:Addr} {m m':Nat->Option Ps} {c c':Nat}
theorem CJ.keep (h:CJ C Cy pE pA Ho H y x bs ks sts dr sh sd m c) {kvs:List (Key × V)} {p:Nat} {ps:Ps} {o:Addr} (e:H sd=some (.dK kvs)) (hc:kvs.length<=c) (h0:∀ p,p<10->m p=none->CT kvs (Sum.inl (p:Nat))=none) (h1:∀ p ps,p<10->m p=some ps->∃ o,CT kvs (Sum.inl (p:Nat))=some (.ref o)/\Ei pE pA H o ps) (hp:Ei pE pA H o ps) :
  CJ C Cy pE pA Ho (upd H sd (.dK (putK kvs (Sum.inl (p:Nat)) (.ref o)))) y x bs ks sts dr sh sd (Jj m p ps) (c+1):=by
 obtain ⟨us,rk,ls,g⟩:=h.o
 have up:SX sd H (upd H sd (.dK (putK kvs (Sum.inl (p:Nat)) (.ref o)))):=SX.up
 have keepP:∀ {o ps},Ei pE pA H o ps->Ei pE pA (upd H sd (.dK (putK kvs (Sum.inl (p:Nat)) (.ref o)))) o ps:=fun {_ _} f=>f.keep fun _ _ _ e=>by
  rw [Al (h.not f).2]
  exact e
 have ne:∀ q:Nat,¬ q=p->¬ (Sum.inl ((q:Nat):Int):Key)=Sum.inl ((p:Nat):Int):=fun q hq z=>hq (by have:=Sum.inl.inj z; omega)
 refine ⟨⟨us,rk,ls,g.o,fun b ob eb=>up b ob (g.s b ob eb) (fun z=>by rw [z,h.hs] at eb; cases eb),g.n,?_⟩,h.f,h.hs,h.ny,_,Ag,Nat.le_trans (U8 _ _ _) (by omega),fun q hq hm=>?_,fun q qs hq hm=>?_⟩
 ·obtain ⟨dy,fs,a1,a2⟩:=g.c.ex
  exact ⟨dy,fs,by rw [Al (Ne.symm h.ny)]; exact a1,a2⟩
 ·unfold Jj at hm
  by_cases z:q=p
  ·rw [if_pos z] at hm
   cases hm
  ·rw [if_neg z] at hm
   rw [Ge,if_neg (ne q z)]
   exact h0 q hq hm
 ·unfold Jj at hm
  by_cases z:q=p
  ·rw [if_pos z] at hm
   cases hm
   subst z
   exact ⟨o,by rw [Ge,if_pos rfl],hp.keep fun _ _ _ e=>by rw [Al (h.not hp).2]; exact e⟩
  ·rw [if_neg z] at hm
   obtain ⟨o',f1,f2⟩:=h1 q qs hq hm
   exact ⟨o',by rw [Ge,if_neg (ne q z)]; exact f1,f2.keep fun _ _ _ e=>by rw [Al (h.not f2).2]; exact e⟩
end
noncomputable def dw (C Cy pE pA:Addr):Sp:=fun vs H Q _=>∃ (Ho:Hp) (y x:Addr) (bs:List (Str × Nat)) (ks:List R) (sts:List Nat) (dr sh:Nat) (sd:Addr) (m:Nat->Option Ps) (c:Nat),vs=[.ref y]/\CJ C Cy pE pA Ho H y x bs ks sts dr sh sd m c/\∀ H',SX y H H'->CJ C Cy pE pA Ho H' y x bs ks sts 0 0 sd m c->Q .non H'
noncomputable def ZR (C Cy pE pA cP:Addr):Sp:=fun vs H Q E=>∃ (Ho:Hp) (y x:Addr) (bs:List (Str × Nat)) (ks:List R) (sts:List Nat) (dr sh:Nat) (sd:Addr) (m:Nat->Option Ps) (c:Nat) (v:V),vs=[.ref y,v]/\CJ C Cy pE pA Ho H y x bs ks sts dr sh sd m c/\Ex H v /\
 (∀ (p:Nat) ps H',v=.int (p:Nat)->p<10->m p=some ps->SX y H H'->CJ C Cy pE pA Ho H' y x bs ks sts (ps.put dr) sh sd m c->Q .non H')/\(∀ H',Ak H H'->(∀ p:Nat,v=.int (p:Nat)->p<10->m p=none)->E (.ref cP) none H')
noncomputable def Zz (C Cy pE pA cP cB:Addr):Sp:=fun vs H Q E=>∃ (Ho:Hp) (y x:Addr) (bs:List (Str × Nat)) (ks:List R) (sts:List Nat) (dr sh:Nat) (sd:Addr) (m:Nat->Option Ps) (c:Nat) (v b:V),vs=[.ref y,v,b]/\CJ C Cy pE pA Ho H y x bs ks sts dr sh sd m c/\c<900/\Ex H v/\Ex H b /\
 (∀ (p:Nat) H',v=.int (p:Nat)->p<10->b=.non->SX sd H H'->CJ C Cy pE pA Ho H' y x bs ks sts dr sh sd (Jj m p (.every dr)) (c+1)->Q .non H') /\
 (∀ (p:Nat) t H',v=.int (p:Nat)->p<10->b=.str t->t∈bs.map (·.1)->SX sd H H'->CJ C Cy pE pA Ho H' y x bs ks sts dr sh sd (Jj m p (.part (dr &&& Ha ks t) (Ha ks t))) (c+1)->Q .non H') /\
 (∀ H',Ak H H'->JH v=false->E (.ref cP) none H')/\(∀ H',Ak H H'->JH v=true->b ≠ .non->Gp (bs.map (·.1)) b=.non->E (.ref cB) none H')
theorem j_:Aq ["self"] ["self"] (Af jY):=Bp
include N T in
theorem bI:Ar P w K mg base Bh 2 fXc dXc ["self"] (dw C Cy pE pA):=by
 have GXd:Ar P w K mg base Bh 1 fXd dXd ["self","knobs"] (QR Cy):=Px N T
 refine N.FXc.1.ok j_ (fun vs H Q E h=>?_) (fun cdv A outer s H vs Q E hr h=>?_)
 ·obtain ⟨Ho,y,x,bs,ks,sts,dr,sh,sd,m,c,rfl,_⟩:=h
  rfl
 ·obtain ⟨Ho,y,x,bs,ks,sts,dr,sh,sd,m,c,rfl,O,q⟩:=h
  have hrXd:BW 1 _:=hr.mono (by decide)
  have hu:=CV hr
  refine ⟨_,(Ad (CG (GJ (pv 0) T.clR N.FXd.2.2 GXd hrXd N.FXd.2.1 .nil Az (Ab Ac Aa)))
   (Ai (Cm (pv 0) Ac rfl))),?_⟩
  obtain ⟨us,rk,ls,D⟩:=id O.o
  obtain ⟨dy,fs,h1,l1,l2,l3,l4,l5,lm⟩:=id D.c.ex
  refine ⟨_,rfl,y,dy,fs,rfl,h1,lm _ (by decide +kernel),y,x,dr,sh,sd,0,rfl,D.c,fun H1 c1 D1=>?_⟩
  obtain ⟨dy',fs',k1,j1,j2,j3,j4,j5,jm⟩:=id D1.ex
  refine ⟨_,rfl,y,Cy,dy',_,rfl,k1,T.clR,T.nr_shoe_step,by omega,?_⟩
  exact q _ (c1.trans SX.up) ((O.put c1 D1).put SX.up (DQ.ZC 0 j1 j2 j3 j4 j5 jm Ag))
theorem lQ:Aq ["self","piston"] ["self","piston"] (Af lA):=Bp
include N T in
theorem Ys:Ar P w K mg base (JG P w) 3 fXr dXr ["self","piston"] (ZR C Cy pE pA cP):=by
 have GIp:Ar P w K mg base Bh 2 fIp dIp ["thing"] XD:=Wm N T
 have GXd:Ar P w K mg base Bh 1 fXd dXd ["self","knobs"] (QR Cy):=Px N T
 have GEp:Ar P w K mg base Bh 1 fEp dEp ["self","drawn"] (dz pE):=Y9 N T
 have GAp:Ar P w K mg base Bh 1 fAp dAp ["self","drawn"] (Yv pA):=Z5 N T
 refine N.FXr.1.Vf lQ (fun vs H Q E h=>?_) (fun cdv A outer s H vs Q E hr h=>?_)
 ·obtain ⟨Ho,y,x,bs,ks,sts,dr,sh,sd,m,c,v,rfl,_⟩:=h
  rfl
 ·obtain ⟨Ho,y,x,bs,ks,sts,dr,sh,sd,m,c,v,rfl,O,hv,q,qe⟩:=h
  have hrIp:BW 2 _:=hr.mono (by decide)
  have hrXd:BW 1 _:=hr.mono (by decide)
  have hrEp:BW 1 _:=hr.mono (by decide)
  have hrAp:BW 1 _:=hr.mono (by decide)
  have hu:=CV hr
  refine ⟨_,(Ad (Bg (PW.pt (Ib (Dy (Dj (Am GIp hrIp rfl N.FIp.2.2 N.FIp.1.kp N.FIp.2.1 .nil Az (Ab (pv 1) Aa)))) (GX (Rj (Qj hu (pv 1) (Bf (pv 0) rfl)))))) (Ai (Gk T.x4.rP.ex rfl T.x4.mP rfl Ht (Ab BL Aa))) BZ)
   (Ai (CG (GJ (pv 0) T.clR N.FXd.2.2 GXd hrXd N.FXd.2.1 .nil Az (Ab (Uc (Ja hu (Bf (pv 0) rfl) (pv 1) (fun _ _=>rfl)) T.pis.cE N.FEp.2.2 GEp N.FEp.2.1 T.pis.cA N.FAp.2.2 GAp N.FAp.2.1 hrEp Az (Ab (Bf (pv 0) rfl) Aa)) Aa))))),?_⟩
  obtain ⟨us,rk,ls,D⟩:=id O.o
  obtain ⟨dy,fs,h1,l1,l2,l3,l4,l5,lm⟩:=id D.c.ex
  obtain ⟨kvs,d1,d2,d3,d4⟩:=id O.st.ex
  refine ⟨_,rfl,v,rfl,hv,_,rfl,?_⟩
  cases hb:JH v with
  | false =>
   refine Cj ⟨by show 1<=1000; decide,qe H (Ak.refl H) fun p ev hp=>?_⟩
   rw [ev,Yi hp] at hb
   cases hb
  | true =>
   obtain ⟨p,rfl,hp⟩:=Nk hb
   refine Bo ⟨_,rfl,_,rfl,y,Cy,dy,_,_,rfl,h1,T.clR,T.nr_stored,l4,sd,_,rfl,HQ.k (k:=Sum.inl ((p:Nat):Int)) d1,_,rfl,?_⟩
   cases hm:m p with
   | none =>
    rw [d3 p hp hm]
    exact Cj ⟨by show 1<=1000; decide,qe H (Ak.refl H) fun p' ev _=>by rw [show p'=p by have:=V.int.inj ev; omega]; exact hm⟩
   | some ps =>
    obtain ⟨o,f1,f2⟩:=d4 p ps hp hm
    rw [f1]
    refine Bo ⟨_,rfl,y,dy,fs,rfl,h1,lm _ (by decide +kernel),_,rfl,y,Cy,dy,_,_,rfl,h1,T.clR,T.nr_stored,l4,_,rfl,sd,_,rfl,f1 ▸ HQ.k (k:=Sum.inl ((p:Nat):Int)) d1,?_⟩
    have fin:∀ n:Nat,n=ps.put dr->QR Cy [.ref y,.int (n:Nat)] H (fun _ H2=>Q .non H2) E:=fun n en=>⟨y,x,dr,sh,sd,n,rfl,D.c,fun H1 c1 D1=>q p ps H1 rfl hp hm c1 (en ▸ O.put c1 D1)⟩
    cases ps with
    | every k =>
     obtain ⟨dx,e⟩:=f2
     refine ⟨o,dx,_,rfl,by rw [List.lookup_cons,show (("put" : Str) == "knob_set")=false by decide +kernel]; rfl,.inl ⟨e,_,rfl,y,Cy,dy,_,_,rfl,h1,T.clR,T.nr_drawn_set,l2,o,dx,k,dr,rfl,e,fin k rfl⟩⟩
    | part k w0 =>
     obtain ⟨dx,e⟩:=f2
     refine ⟨o,dx,_,rfl,by rw [List.lookup_cons,show (("put" : Str) == "knob_set")=false by decide +kernel]; show List.lookup _ _=none; rw [List.lookup_cons,show (("put" : Str) == "whole_set")=false by decide +kernel]; rfl,.inr ⟨e,_,rfl,y,Cy,dy,_,_,rfl,h1,T.clR,T.nr_drawn_set,l2,o,dx,k,w0,dr,rfl,e,fin _ rfl⟩⟩
theorem Z6:Aq ["self","piston","board","whole"] ["self","piston","board"] (Af Ra):=Bp
include N T in
theorem ZS:Ar P w K mg base (JG P w) 6 fXt dXt ["self","piston","board"] (Zz C Cy pE pA cP cB):=by
 have GIp:Ar P w K mg base Bh 2 fIp dIp ["thing"] XD:=Wm N T
 have GPi:Ar P w K mg base Bh 1 fPi dPi ["self","knobs"] (Xi pE pA):=Wo N T
 have GAi:Ar P w K mg base Bh 2 fAi dAi ["self","knobs","whole"] (cj pE pA):=dC N T
 have GKb:Ar P w K mg base (JG P w) 5 fKb dKb ["organ","name"] (aU C cB):=ZD N T
 refine N.FXt.1.Vf Z6 (fun vs H Q E h=>?_) (fun cdv A outer s H vs Q E hr h=>?_)
 ·obtain ⟨Ho,y,x,bs,ks,sts,dr,sh,sd,m,c,v,b,rfl,_⟩:=h
  rfl
 ·obtain ⟨Ho,y,x,bs,ks,sts,dr,sh,sd,m,c,v,b,rfl,O,hc,hv,hb,q1,q2,qe1,qe2⟩:=h
  have hrIp:BW 2 _:=hr.mono (by decide)
  have hrPi:BW 1 _:=hr.mono (by decide)
  have hrAi:BW 2 _:=hr.mono (by decide)
  have hrKb:BW 5 _:=hr.mono (by decide)
  have hu:=CV hr
  refine ⟨_,(Ad (Bg (Dy (Dj (Am GIp hrIp rfl N.FIp.2.2 N.FIp.1.kp N.FIp.2.1 .nil Az (Ab (pv 1) Aa)))) (Ai (Gk T.x4.rP.ex rfl T.x4.mP rfl Ht (Ab BL Aa))) BZ)
   (Ai (Bg (BK N7 (pv 2) Gh (BV _)) (Ai (Lg hu (Bf (pv 0) rfl) (pv 1) (Fw N.FPi.2.2 GPi (hr.mono (by decide)) rfl T.pis.mE N.FPi.2.1 .nil Az (Ab (Bf (pv 0) rfl) Aa)) rfl)) (Ad (Cr (i:=3) Z6.nd rfl (Or.inl rfl) (Am GKb hrKb rfl N.FKb.2.2 N.FKb.1.kp N.FKb.2.1 .nil Jb (Ab (Bf (pv 0) rfl) (Ab (pv 2) Aa))))
   (Ai (Lg hu (Bf (pv 0) rfl) (pv 1) (Fw N.FAi.2.2 GAi (hr.mono (by decide)) rfl T.pis.mA N.FAi.2.1 .nil Az (Ab (BR Ou (Bf (pv 0) rfl) (pv 3)) (Ab (pv 3) Aa))) rfl)))))),?_⟩
  obtain ⟨us,rk,ls,D⟩:=id O.o
  obtain ⟨dy,fs,h1,l1,l2,l3,l4,l5,lm⟩:=id D.c.ex
  refine ⟨_,rfl,v,rfl,hv,_,rfl,?_⟩
  cases hk:JH v with
  | false=>exact Cj ⟨by show 1<=1000; decide,qe1 H (Ak.refl H) hk⟩
  | true =>
   obtain ⟨p,rfl,hp⟩:=Nk hk
   refine Bo ?_
   have sto:∀ H1,Ak H H1->∀ (o:Addr) (ps:Ps),Ei pE pA H1 o ps->∃ H2,Od H1 sd (.int ((p:Nat):Int)) (.ref o) H2/\SX sd H H2/\CJ C Cy pE pA Ho H2 y x bs ks sts dr sh sd (Jj m p ps) (c+1):=fun H1 s1 o ps hps=>by
    obtain ⟨kvs,d1,d2,d3,d4⟩:=(O.mono s1).st.ex
    exact ⟨_,Od.k (k:=Sum.inl ((p:Nat):Int)) d1 (A_ (by omega)),(SX.of s1).trans SX.up,(O.mono s1).keep d1 d2 d3 d4 hps⟩
   by_cases en:b=.non
   ·subst en
    refine ⟨_,rfl,rfl,_,rfl,Cj ⟨_,rfl,y,Cy,dy,_,_,rfl,h1,T.clR,T.nr_drawn_set,l2,fun o dx ho hdx hne=>?_⟩⟩
    refine ⟨o,pE,dx,dr,rfl,.inl rfl,Ag,rfl,?_⟩
    have sN:Ak H (upd (upd (upd H dx (.own o)) o (.ins pE dx [])) o (.ins pE dx [("knob_set",.int (dr:Nat))])):=fun a ob e=>by
     rw [Al (Ah e ho),Al (Ah e ho),Al (Ah e hdx)]
     exact e
    have pN:Ei pE pA (upd (upd (upd H dx (.own o)) o (.ins pE dx [])) o (.ins pE dx [("knob_set",.int (dr:Nat))])) o (.every dr):=⟨dx,Ag⟩
    generalize (upd (upd (upd H dx (.own o)) o (.ins pE dx [])) o (.ins pE dx [("knob_set",.int (dr:Nat))]))=H1 at sN pN ⊢
    obtain ⟨H2,g1,g2,g3⟩:=sto H1 sN o _ pN
    exact ⟨_,rfl,y,Cy,dy,_,_,rfl,sN _ _ h1,T.clR,T.nr_stored,l4,_,rfl,sd,H2,rfl,g1,q1 p H2 rfl hp rfl g2 g3⟩
   ·have en':(decide (b=V.non))=false:=decide_eq_false en
    refine ⟨_,rfl,rfl,_,rfl,?_⟩
    rw [en']
    refine Bo ?_
    refine ⟨_,rfl,y,Cy,dy,_,_,rfl,h1,T.clR,T.nr_organ,l1,_,rfl,x,us,bs,rk,ks,ls,sts,b,rfl,D.o.mono D.s,hb,O.f.bn,O.f.bd,Nat.le_trans O.f.kl (by decide),O.f.kb,fun t H1 s1 ev ht=>?_,fun H1 s1 e=>qe2 H1 s1 hk en e⟩
    subst ev
    refine ⟨_,rfl,y,Cy,dy,_,_,rfl,s1 _ _ h1,T.clR,T.nr_drawn_set,l2,_,rfl,_,_,rfl,rfl,_,rfl,fun o dx ho hdx hne=>?_⟩
    dsimp only
    rw [TJ]
    refine ⟨o,dx,_,_,rfl,Ag,fun H2 c2 pN=>⟨rfl,?_⟩⟩
    have sN:Ak H1 H2:=fun a ob e=>c2 a ob (by rw [Al (Ah e ho),Al (Ah e hdx)]; exact e) (Ah e ho)
    obtain ⟨H3,g1,g2,g3⟩:=sto H2 (s1.trans sN) o _ pN
    exact ⟨_,rfl,y,Cy,dy,_,_,rfl,sN _ _ (s1 _ _ h1),T.clR,T.nr_stored,l4,_,rfl,sd,H3,rfl,g1,q2 p t H3 rfl hp rfl ht g2 g3⟩
open Bw
theorem VR {X:Cx} {K:PySem.W.Frag} {tg l:Expr} {tl:TE} (hK:X.K=K) (hl:PE X l tl):PI X tg l (eG K tl):=by
 rw [← hK]
 exact K5 hl
theorem Vh {X:Cx} {K:PySem.W.Frag} (hK:X.K=K):aR X (aX K):=by
 rw [← hK]
 exact LQ
theorem Qy {X:Cx} {K:PySem.W.Frag} (hK:X.K=K) (hc:X.calm=true):Eg X (.builtin "sum") (fun xs H Q=>∃ (p:Addr) (ns:List Int),xs=[V.ref p]/\Cw K H p (ns.map V.int)/\(∀ n∈ns,0<=n)/\ns.sum<=4611686018427387904/\Q (.int ns.sum) H):=by
 rw [← hK]
 exact Qe hc
theorem Qm {X:Cx} {K:PySem.W.Frag} (hK:X.K=K):fu X "list.index" (fun x xs H Q=>∃ l ys y j,x=V.ref l/\xs=[y]/\Cw K H l ys/\Do y=true/\ys.all Do=true/\j<ys.length/\LR (ys.getD j .non) y=true/\(∀ m,m<j->LR (ys.getD m .non) y=false)/\Q (.int (j:Nat)) H):=by
 rw [← hK]
 exact SN
noncomputable def Uk (scope osc:Scope):Scope:={ scope with names:=scope.names.map fun (n,k)=>if (k == NameKind.free && osc.kind == .function && osc.names.lookup n == some .cell) then (n,NameKind.cell) else (n,k) }
theorem Li {X:Cx} {x:Str} {scope osc:Scope} {C:Addr} {s₀:Shared} {H₀:Hp} {fp:List Addr} (h:X.env.scope=osc):(By X x scope C s₀ H₀ fp).env.scope=Uk scope osc:=by
 subst h
 rfl
structure lV (rows ks:List R) (sts:List Nat):Prop where
 ek:rows.filter (fun r=>Eh r.w)=ks
 st:(rows.filter Tn).map (stN ks)=sts
 nm:∀ r∈rows,r.w = "step"->∃ ts:List Str,V.str r.nm::r.rest=ts.map V.str/\ts.Nodup/\ts.length<=24/\∀ t∈ts,t∈ks.map (·.nm)
 lr:rows.length<=100
 lk:ks.length<=12
noncomputable def Yu:Sp:=fun vs H Q _=>∃ (p:Addr) (us:List V) (rows ks:List R) (sts:List Nat),vs=[.ref p]/\H p=some (.lst us)/\Paired (fun (r:R) v=>TupAt H r.v v) rows us/\lV rows ks sts/\∀ D H',H D=none->Ak H H'->H' D=some (.lst (nV sts))->Q (.ref D) H'
theorem O9 (ns:List Str):(ns.map V.str).all Do=true:=List.all_eq_true.mpr fun v hv=>by
 obtain ⟨n,_,rfl⟩:=List.mem_map.mp hv
 rfl
noncomputable def mj (ns:List Str):V->V
 | .str t=>.int (1 * 2 ^ ((ns.idxOf t:Nat):Int).toNat)
 | v=>v
theorem NP:∀ l:List Nat,(l.map fun n:Nat=>(n:Int)).sum=((l.sum:Nat):Int)
 | []=>rfl
 | n::l=>by
  rw [List.map_cons,List.sum_cons,List.sum_cons,NP l]
  omega
theorem Vg (ns ts:List Str):(ts.map V.str).map (mj ns)=(((ts.map fun t=>ns.idxOf t).map fun n=>2 ^ n).map fun n:Nat=>(n:Int)).map V.int:=by
 rw [List.map_map,List.map_map,List.map_map,List.map_map]
 refine List.map_congr_left fun t _=>?_
 show V.int (1 * 2 ^ ((ns.idxOf t:Nat):Int).toNat)=V.int ((2 ^ ns.idxOf t:Nat):Int)
 rw [Int.toNat_natCast,Int.one_mul,Int.natCast_pow]
 rfl
theorem ZL:Aq ["_law_rows","_law_names_here"] ["_law_rows"] (Af Ym):=Bp
include N T in
theorem Z3:Ar P w K mg base Bh 2 fSp dSp ["_law_rows"] Yu:=by
 have GLx:Ar P w K mg base Bh 1 fLx dLx ["_law_rows"] YC:=WX N T
 refine N.FSp.1.ok ZL (fun vs H Q E h=>?_) (fun cdv A outer s H vs Q E hr h=>?_)
 ·obtain ⟨p,us,rows,ks,sts,rfl,_⟩:=h
  rfl
 ·obtain ⟨p,us,rows,ks,sts,rfl,hp,hpr,St,q⟩:=h
  have hrLx:BW 1 _:=hr.mono (by decide)
  have hu:=CV hr
  refine ⟨_,(@Ad _ _ _ _ _ (Cr (i:=1) ZL.nd rfl (Or.inr rfl) (Bk rfl (Ba (osc:=Af Ym) (N:=["_law_rows","_law_names_here"]) rfl rfl (by decide +kernel)) (Br (Am GLx hrLx rfl N.FLx.2.2 N.FLx.1.kp N.FLx.2.1 .nil Az (@An _ _ _ _ _ rfl (pv 0) Aa))) (fun _ _ _ _=>Cq) (fun _ _ _ _=>(@Ay _ _ _ _ _ _ _ (Ax (K:=K) rfl) (pv 0) Ac (fun _ _=>rfl)))))
   (@Ai _ _ _ (@Aw _ _ _ _ (Bk rfl (Ba (osc:=Af Ym) (N:=["_law_rows","_law_names_here"]) rfl rfl (by decide +kernel)) (Br (pv 0)) (fun _ _ _ _=>(Hk (BK Bu (@Ay _ _ _ _ _ _ _ (Ax (K:=K) rfl) (pv 0) Ac (fun _ _=>rfl)) BL (BV _)))) (fun _ _ _ _=>(BJ (Qy (K:=K) rfl rfl) rfl T.sum PyProof.Rows.boot_sum (@An _ _ _ _ _ rfl (Bk rfl (Ba (osc:=Uk _ (Af Ym)) (N:=["_law_row","_law_rows","_law_names_here"]) (Li rfl) rfl (by decide +kernel)) (VR (K:=K) rfl (Cp (Vh (K:=K) rfl) (pv 0) (DR Ac) Dk)) (fun _ _ _ _=>Cq) (fun _ _ _ _=>(BR Ri Ac (Yg (K:=K) rfl PySem.F.plainAttrs_list PySem.F.slot_list_index PySem.F.type_list_index (Qm (K:=K) rfl) (pv 3) (@An _ _ _ _ _ rfl (pv 0) Aa))))) Aa))))))),?_⟩
  have lr:=St.lr
  have lu:us.length=rows.length:=hpr.length.symm
  refine ⟨_,rfl,p,us,rows,rfl,hp,hpr,by omega,fun DK us3 H3 hDK s3 l3 p3=>?_⟩
  rw [St.ek] at p3
  have hS3:Cw K H3 DK us3:=.inl (.inl l3)
  have l3k:us3.length=ks.length:=p3.length.symm
  have lk:=St.lk
  refine ⟨DK,rfl,⟨_,hS3⟩,Cu (K:=K) (xs:=us3) (fun _=>true) (Ky H3 1) hS3 (A_ (by omega)) (fun y hy Hx hs R kk=>kk Hx (Ak.refl Hx)) (fun y hy _ Hx hs R kk=>?_) (fun pN H4 hpN s4 hl4=>?_)⟩
  ·obtain ⟨b',_,hx'⟩:=Cg p3 hy
   have e:=G9 hx' 1
   obtain ⟨T0,rfl,hT⟩:=hx'.mono hs
   refine ⟨_,rfl,T0,_,_,_,rfl,rfl,.inl (.inl hT),Aj (j:=1) rfl,?_⟩
   have:=kk Hx (Ak.refl Hx)
   rw [e] at this
   exact this
  rw [List.filter_eq_self.mpr (fun _ _=>rfl),Lw 1 p3] at hl4
  have e4:(ks.map fun r=>(R.v r).getD 1 V.non)=(Hl ks).map V.str:=by
   rw [List.map_map]
   rfl
  rw [e4] at hl4
  have s04:=s3.trans s4
  have hpr4:=Ao s04 hpr
  have hS4:Cw K H4 p us:=.inl (.inl (s04 _ _ hp))
  refine ⟨_,rfl,p,rfl,⟨_,hS4⟩,Cu (K:=K) (xs:=us) (pw (GP H4) "step") (fun v=>.int (stN ks (GP H4 v):Nat)) hS4 (A_ (by omega)) (fun y hy Hx hs R kk=>?_) (fun y hy hp' Hx hs R kk=>?_) (fun D5 H5 hD5 s5 hl5=>?_)⟩
  ·obtain ⟨T0,rfl,hT⟩:=((Il hpr4) y hy).mono hs
   exact ⟨_,rfl,T0,_,_,_,rfl,rfl,.inl (.inl hT),Aj (j:=0) rfl,rfl,_,rfl,kk Hx (Ak.refl Hx)⟩
  ·obtain ⟨r,hr,ht⟩:=Cg hpr4 hy
   have er:=HX ht
   rw [er] at kk
   have hw:r.w = "step":=by
    have h1:decide (V.str (GP H4 y).w=V.str "step")=true:=hp'
    rw [er] at h1
    exact V.str.inj (of_decide_eq_true h1)
   obtain ⟨ts,ets,nd,h24,hin⟩:=St.nm r hr hw
   obtain ⟨T0,rfl,hT⟩:=ht.mono hs
   have hv:r.v=V.str r.w::ts.map V.str:=by
    show V.str r.w::(V.str r.nm::r.rest)=_
    rw [ets]
   rw [hv] at hT
   have e1:HT.DY (V.str r.w::ts.map V.str).length 0 (some 1)=1:=by
    rw [show (some (1:Int))=some ((1:Nat):Int) from rfl,HT.Dv]
    simp
   have hcut:Dm (V.str r.w::ts.map V.str) (some 1) none=ts.map V.str:=by
    unfold Dm
    rw [e1,HT.Hw]
    simp
    exact List.take_of_length_le (by rw [List.length_map]; exact Nat.le_refl _)
   refine ⟨_,rfl,_,rfl,T0,_,rfl,.inl (.inl hT),?_,fun n0 hn0=>?_⟩
   ·rintro ⟨z,_⟩
    rw [e1] at z
    cases z
   rw [hcut]
   obtain ⟨Hy,eqH,s1,a1⟩:=DW (o:=HO.tup (ts.map V.str)) hn0
   rw [eqH]
   have hT1:Ft K Hy n0 (ts.map V.str):=.inl (.inl a1)
   have ltm:(ts.map V.str).length=ts.length:=List.length_map ..
   refine ⟨n0,rfl,⟨_,hT1⟩,J3 (K:=K) (xs:=ts.map V.str) (fun _=>true) (mj (Hl ks)) hT1 (A_ (by omega)) (fun x hx H' hs R k=>k H' (Ak.refl H')) (fun x hx _ H' hs2 R2 k2=>?_) (fun D H2 hD s2 hl2=>?_)⟩
   ·obtain ⟨t,ht',rfl⟩:=List.mem_map.mp hx
    have htn:=hin t ht'
    have hN':=hs2 _ _ (s1 _ _ (hs _ _ hl4))
    have hil:(Hl ks).idxOf t<(Hl ks).length:=List.idxOf_lt_length_of_mem htn
    have lnk:(Hl ks).length=ks.length:=List.length_map _
    refine ⟨_,rfl,.inl ⟨rfl,_,.inl (.inl hN')⟩,_,rfl,pN,_,_,(Hl ks).idxOf t,rfl,rfl,.inl (.inl hN'),rfl,O9 (Hl ks),by rw [List.length_map]; exact hil,?_,?_,_,_,rfl,rfl,⟨by omega,by omega,by decide⟩,k2 _ (Ak.refl _)⟩
    ·rw [List.getD_eq_getElem?_getD,List.getElem?_map,Gw htn]
     show LR (.str t) (.str t)=true
     rw [PX]
     exact decide_eq_true rfl
    ·intro m hm
     have hm':m<(Hl ks).length:=by omega
     rw [List.getD_eq_getElem?_getD,List.getElem?_map,List.getElem?_eq_getElem hm']
     show LR (.str (Hl ks)[m]) (.str t)=false
     rw [PX]
     exact decide_eq_false (UT hm _ (List.getElem?_eq_getElem hm'))
   ·rw [List.filter_eq_self.mpr (fun _ _=>rfl),Vg] at hl2
    have ndx:=Qi nd hin
    have hsum:(((ts.map fun t=>(Hl ks).idxOf t).map fun n=>2 ^ n).map fun n:Nat=>(n:Int)).sum=((stN ks r:Nat):Int):=by
     rw [NP,Tq _ ndx]
     unfold stN
     rw [Fl ets]
    have hlt:stN ks r<2 ^ 12:=by
     unfold stN
     rw [Fl ets]
     refine Xh fun n hn=>?_
     obtain ⟨t,ht',rfl⟩:=List.mem_map.mp hn
     have:=List.idxOf_lt_length_of_mem (hin t ht')
     rw [List.length_map] at this
     omega
    have e12:(2:Nat) ^ 12=4096:=by decide
    refine ⟨D,_,rfl,.inl (.inl hl2),fun n hn=>?_,?_,?_⟩
    ·obtain ⟨m,_,rfl⟩:=List.mem_map.mp hn
     omega
    ·rw [hsum]
     omega
    rw [hsum]
    exact kk H2 (s1.trans s2)
  have e5:((us.filter (pw (GP H4) "step")).map fun v=>V.int (stN ks (GP H4 v):Nat))=nV sts:=by
   rw [← St.st,← JZ hpr4,List.filter_map]
   unfold nV
   rw [List.map_map,List.map_map]
   rfl
  rw [e5] at hl5
  exact q D5 H5 (s04.free hD5) (s04.trans s5) hl5
theorem DN.org {kd a i m:Nat} {S:Qz} (h:DN K aB aP aM kd a i m S) (h1:kd<3) (h2:a<5) (h3:i<=12) (hm:m<=100) {H:Hp} {vs:List V} (hv:Paired (fun (r:R) v=>TupAt H r.v v) S.rows vs):Rows H (GP H) vs/\gR K aB aP aM (GP H) vs S.bs S.rk S.ks/\linesOf S.rk (vs.map (GP H))=S.ls/\((vs.filter (pw (GP H) "step")).map fun v=>stN S.ks (GP H v))=S.sts:=by
 obtain ⟨mm,wi,erk,r1,r2⟩:=h.rk1
 have lr:=h.lr
 have lk:=h.lk
 have b3:=h.b3
 exact h.bl.fin hv h.b1 (by omega) (fun b hb=>(h.sb b hb).2.2.2) (by rw [erk]; simp) (fun r hr=>by rw [erk] at hr; rw [List.mem_singleton.mp hr]; exact r2) (by omega) h.db (by rw [erk]; exact List.nodup_cons.mpr ⟨List.not_mem_nil,List.nodup_nil⟩) (h.dk h1 h2 h3) (by omega)
theorem V8 {k:Nat} {A:Around} (r:Ff k A) (h:Option Value):Ff k (A.mark h):=⟨r.dp,r.un⟩
noncomputable def nmE:Nat->Str
 | 0=>"knob"
 | 1=>"piston"
 | 2=>"board"
 | _=>"step"
noncomputable def nF (cK cP cB cS:Addr):Nat->Addr
 | 0=>cK
 | 1=>cP
 | 2=>cB
 | _=>cS
noncomputable def bu (cK cP cB cS:Addr):Sp:=fun vs H Q _=>∃ (ex:Addr) (i:Nat),vs=[.ref ex]/\H ex=some (CQ ex (nF cK cP cB cS i) none)/\i<4/\∀ D H',H D=none->Ak H H'->H' D=some (.lst [.str (nmE i)])->Q (.ref D) H'
theorem dX:Aq ["_law_e","_law_some"] ["_law_e"] (Af lF):=Bp
include N T in
theorem bZ:MK P w K mg base Bh 1 fLm dLm ["_law_e"] (bu cK cP cB cS):=by
 refine N.FLm.1.m6 dX (fun vs H Q E h=>?_) (fun cdv A outer s H vs Q E hr h=>?_)
 ·obtain ⟨ex,i,rfl,_⟩:=h
  rfl
 ·obtain ⟨ex,i,rfl,hx,hi,q⟩:=h
  refine ⟨_,(@Ad _ _ _ _ _ (@Bb _ _ _ _ _ _ 1 dX.nd rfl (Or.inl rfl) (@Cv _ _ _ _ Aa) (by kernel_rfl) (.inl rfl))
   (@Ad _ _ _ _ _ (@Bg _ _ _ _ _ _ _ _ (Dj (BJ (FP (K:=K) rfl) rfl T.isin PyProof.Rows.boot_isinstance (@An _ _ _ _ _ rfl (pv 0) (@An _ _ _ _ _ rfl (Bs (v:=.ref cK) rfl T.x4.mK rfl) Aa)))) (@Ai _ _ _ (CG (Ec PySem.F.plainAttrs_list PySem.F.slot_list_append PySem.F.type_list_append Bl (pv 1) (@An _ _ _ _ _ rfl BL Aa)))) BZ)
   (@Ad _ _ _ _ _ (@Bg _ _ _ _ _ _ _ _ (Dj (BJ (FP (K:=K) rfl) rfl T.isin PyProof.Rows.boot_isinstance (@An _ _ _ _ _ rfl (pv 0) (@An _ _ _ _ _ rfl (Bs (v:=.ref cP) rfl T.x4.mP rfl) Aa)))) (@Ai _ _ _ (CG (Ec PySem.F.plainAttrs_list PySem.F.slot_list_append PySem.F.type_list_append Bl (pv 1) (@An _ _ _ _ _ rfl BL Aa)))) BZ)
   (@Ad _ _ _ _ _ (@Bg _ _ _ _ _ _ _ _ (Dj (BJ (FP (K:=K) rfl) rfl T.isin PyProof.Rows.boot_isinstance (@An _ _ _ _ _ rfl (pv 0) (@An _ _ _ _ _ rfl (Bs (v:=.ref cB) rfl T.x4.mB rfl) Aa)))) (@Ai _ _ _ (CG (Ec PySem.F.plainAttrs_list PySem.F.slot_list_append PySem.F.type_list_append Bl (pv 1) (@An _ _ _ _ _ rfl BL Aa)))) BZ)
   (@Ad _ _ _ _ _ (@Bg _ _ _ _ _ _ _ _ (Dj (BJ (FP (K:=K) rfl) rfl T.isin PyProof.Rows.boot_isinstance (@An _ _ _ _ _ rfl (pv 0) (@An _ _ _ _ _ rfl (Bs (v:=.ref cS) rfl T.x4.mS rfl) Aa)))) (@Ai _ _ _ (CG (Ec PySem.F.plainAttrs_list PySem.F.slot_list_append PySem.F.type_list_append Bl (pv 1) (@An _ _ _ _ _ rfl BL Aa)))) BZ)
   (@Ai _ _ _ (@Aw _ _ _ _ (pv 1)))))))),?_⟩
  refine ⟨Be (by simp),fun p1 hp1=>?_⟩
  obtain ⟨H1,eqH,s1,l1⟩:=DW (o:=HO.lst []) hp1
  rw [eqH]
  have hx1:=s1 _ _ hx
  obtain rfl | rfl | rfl | rfl:i=0 \/ i=1 \/ i=2 \/ i=3:=by omega
  ·have hx1:H1 ex=some (CQ ex cK none):=hx1
   refine ⟨_,rfl,ex,cK,[],_,_,_,rfl,.bare hx1,T.x4.rK.xc,rfl,T.x4.rK.k0,_,rfl,Cj ?_⟩
   have s2:Ak H (upd H1 p1 (HO.lst ([]++[V.str "knob"]))):=G8 s1 hp1
   have hx2:upd H1 p1 (HO.lst ([]++[V.str "knob"])) ex=some (CQ ex cK none):=by rw [Al (Ah hx hp1)]; exact hx1
   refine ⟨_,rfl,.inl ⟨rfl,_,.inl (.inl l1)⟩,p1,_,_,rfl,rfl,l1,by show 1<=sizeLine; decide,?_⟩
   exact ⟨_,rfl,ex,cK,[],_,_,_,rfl,.bare hx2,T.x4.rK.xc,rfl,T.x4.rK.kf _ (by simp),_,rfl,Bo ⟨_,rfl,ex,cK,[],_,_,_,rfl,.bare hx2,T.x4.rK.xc,rfl,T.x4.rK.kf _ (by simp),_,rfl,Bo ⟨_,rfl,ex,cK,[],_,_,_,rfl,.bare hx2,T.x4.rK.xc,rfl,T.x4.rK.kf _ (by simp),_,rfl,Bo ⟨_,rfl,q p1 _ hp1 s2 Ag⟩⟩⟩⟩
  ·have hx1:H1 ex=some (CQ ex cP none):=hx1
   refine ⟨_,rfl,ex,cP,[],_,_,_,rfl,.bare hx1,T.x4.rP.xc,rfl,T.x4.rP.kf _ (by simp),_,rfl,Bo ⟨_,rfl,ex,cP,[],_,_,_,rfl,.bare hx1,T.x4.rP.xc,rfl,T.x4.rP.k0,_,rfl,Cj ?_⟩⟩
   have s2:Ak H (upd H1 p1 (HO.lst ([]++[V.str "piston"]))):=G8 s1 hp1
   have hx2:upd H1 p1 (HO.lst ([]++[V.str "piston"])) ex=some (CQ ex cP none):=by rw [Al (Ah hx hp1)]; exact hx1
   refine ⟨_,rfl,.inl ⟨rfl,_,.inl (.inl l1)⟩,p1,_,_,rfl,rfl,l1,by show 1<=sizeLine; decide,?_⟩
   exact ⟨_,rfl,ex,cP,[],_,_,_,rfl,.bare hx2,T.x4.rP.xc,rfl,T.x4.rP.kf _ (by simp),_,rfl,Bo ⟨_,rfl,ex,cP,[],_,_,_,rfl,.bare hx2,T.x4.rP.xc,rfl,T.x4.rP.kf _ (by simp),_,rfl,Bo ⟨_,rfl,q p1 _ hp1 s2 Ag⟩⟩⟩
  ·have hx1:H1 ex=some (CQ ex cB none):=hx1
   refine ⟨_,rfl,ex,cB,[],_,_,_,rfl,.bare hx1,T.x4.rB.xc,rfl,T.x4.rB.kf _ (by simp),_,rfl,Bo ⟨_,rfl,ex,cB,[],_,_,_,rfl,.bare hx1,T.x4.rB.xc,rfl,T.x4.rB.kf _ (by simp),_,rfl,Bo ⟨_,rfl,ex,cB,[],_,_,_,rfl,.bare hx1,T.x4.rB.xc,rfl,T.x4.rB.k0,_,rfl,Cj ?_⟩⟩⟩
   have s2:Ak H (upd H1 p1 (HO.lst ([]++[V.str "board"]))):=G8 s1 hp1
   have hx2:upd H1 p1 (HO.lst ([]++[V.str "board"])) ex=some (CQ ex cB none):=by rw [Al (Ah hx hp1)]; exact hx1
   refine ⟨_,rfl,.inl ⟨rfl,_,.inl (.inl l1)⟩,p1,_,_,rfl,rfl,l1,by show 1<=sizeLine; decide,?_⟩
   exact ⟨_,rfl,ex,cB,[],_,_,_,rfl,.bare hx2,T.x4.rB.xc,rfl,T.x4.rB.kf _ (by simp),_,rfl,Bo ⟨_,rfl,q p1 _ hp1 s2 Ag⟩⟩
  ·have hx1:H1 ex=some (CQ ex cS none):=hx1
   refine ⟨_,rfl,ex,cS,[],_,_,_,rfl,.bare hx1,T.x4.rS.xc,rfl,T.x4.rS.kf _ (by simp),_,rfl,Bo ⟨_,rfl,ex,cS,[],_,_,_,rfl,.bare hx1,T.x4.rS.xc,rfl,T.x4.rS.kf _ (by simp),_,rfl,Bo ⟨_,rfl,ex,cS,[],_,_,_,rfl,.bare hx1,T.x4.rS.xc,rfl,T.x4.rS.kf _ (by simp),_,rfl,Bo ⟨_,rfl,ex,cS,[],_,_,_,rfl,.bare hx1,T.x4.rS.xc,rfl,T.x4.rS.k0,_,rfl,Cj ?_⟩⟩⟩⟩
   have s2:Ak H (upd H1 p1 (HO.lst ([]++[V.str "step"]))):=G8 s1 hp1
   have hx2:upd H1 p1 (HO.lst ([]++[V.str "step"])) ex=some (CQ ex cS none):=by rw [Al (Ah hx hp1)]; exact hx1
   refine ⟨_,rfl,.inl ⟨rfl,_,.inl (.inl l1)⟩,p1,_,_,rfl,rfl,l1,by show 1<=sizeLine; decide,?_⟩
   exact ⟨_,rfl,q p1 _ hp1 s2 Ag⟩
inductive JM where
 | pull (v:V)
 | push (v:V)
 | store (v:V)
 | storeB (v b:V)
 | press (v:V)
 | shoe (v:V)
 | cancel
noncomputable def JM.v:JM->List V
 | .pull v=>[.str "pull",v]
 | .push v=>[.str "push",v]
 | .store v=>[.str "store",v]
 | .storeB v b=>[.str "store",v,b]
 | .press v=>[.str "press",v]
 | .shoe v=>[.str "shoe",v]
 | .cancel=>[.str "cancel"]
noncomputable def Wi (v:V):Prop:=v=.non \/ ∃ t,v=.str t/\Tx t
noncomputable def Ux (v:V):Prop:=v=.bl true \/ ∃ i,v=.int i
noncomputable def JM.ok:JM->Prop
 | .pull v=>Wi v
 | .push v=>Wi v
 | .store v=>Ux v
 | .storeB v b=>Ux v/\Wi b
 | .press v=>Ux v
 | .shoe v=>Ux v
 | .cancel=>True
theorem Wi.odd {v:V} (h:Wi v) (H:Hp):Ex H v:=by
 rcases h with rfl | ⟨t,rfl,h⟩
 ·exact .non
 ·exact .str h
theorem Ux.odd {v:V} (h:Ux v) (H:Hp):Ex H v:=by
 rcases h with rfl | ⟨t,rfl⟩
 ·exact .bl _
 ·exact .int _
theorem M8 {c A B:Prop} [Decidable c] (hc:c) (h:A):if decide c=true then A else B:=by
 rw [decide_eq_true hc,if_pos rfl]
 exact h
theorem Y7 {c A B:Prop} [Decidable c] (hc:¬ c) (h:B):if decide c=true then A else B:=by
 rw [decide_eq_false hc,if_neg Bool.false_ne_true]
 exact h
theorem Zy {a b:Str} (h:(a == b)=false):¬ V.str a=V.str b:=fun z=>by
 rw [V.str.inj z,beq_self_eq_true] at h
 cases h
theorem Kr {a b:Str} {A B:Prop} (h:B) (hn:(a == b)=false:=by decide +kernel):if decide (V.str a=V.str b)=true then A else B:=Y7 (Zy hn) h
noncomputable def Y5 (K:PySem.W.Frag) (aB aP aM:Addr):Sp:=fun vs H Q _=>∃ (p:Addr) (us:List V) (S:Qz) (kd a i:Nat) (n:Int),vs=[.ref p,.int n]/\0<=n/\H p=some (.lst us)/\Paired (fun (r:R) v=>TupAt H r.v v) S.rows us/\DN K aB aP aM kd a i (4+3 * i) S/\kd<3/\a<5/\1<=i/\i<=12 /\
 ∀ (T:Addr) (d:JM) H',H T=none->Ak H H'->H' T=some (.tup d.v)->d.ok->Q (.ref T) H'
theorem Ov:Aq ["_law_rows","_law_number","_law_knobs_here","_law_boards","_law_way","_law_more","_law_name_here","_law_board"] ["_law_rows","_law_number"] (Af fH):=Bp
include N T in
theorem aA:Ar P w K mg base Bh 3 fDe dDe ["_law_rows","_law_number"] (Y5 K aB aP aM):=by
 have GLx:Ar P w K mg base Bh 1 fLx dLx ["_law_rows"] YC:=WX N T
 have GSp:Ar P w K mg base Bh 2 fSp dSp ["_law_rows"] Yu:=Z3 N T
 refine N.FDe.1.ok Ov (fun vs H Q E h=>?_) (fun cdv A outer s H vs Q E hr h=>?_)
 ·obtain ⟨p,us,S,kd,a,i,n,rfl,_⟩:=h
  rfl
 ·obtain ⟨p,us,S,kd,a,i,n,rfl,hn,hp,hpr,O,k3,a5,i1,i12,q⟩:=h
  have hrLx:BW 1 _:=hr.mono (by decide)
  have hrSp:BW 2 _:=hr.mono (by decide)
  have hu:=CV hr
  refine ⟨_,(@Ad _ _ _ _ _ (@Bb _ _ _ _ _ _ 2 Ov.nd rfl (Or.inl rfl) (Am GLx hrLx rfl N.FLx.2.2 N.FLx.1.kp N.FLx.2.1 .nil Az (@An _ _ _ _ _ rfl (pv 0) Aa)) (by kernel_rfl) (.inl rfl))
   (@Ad _ _ _ _ _ (U5 (i:=3) Ov.nd rfl rfl rfl (Ba (osc:=Af fH) (N:=["_law_rows","_law_number","_law_knobs_here","_law_boards","_law_way","_law_more","_law_name_here","_law_board"]) rfl rfl (by decide +kernel)) (Br (pv 0)) (fun _ _ _ _=>(Hk (BK Bu (@Ay _ _ _ _ _ _ _ (Ax (K:=K) rfl) (pv 0) Ac (fun _ _=>rfl)) BL (BV _)))) (fun _ _ _ _=>(@Ay _ _ _ _ _ _ _ (Ax (K:=K) rfl) (pv 0) Ac (fun _ _=>rfl))))
   (@Ad _ _ _ _ _ (@Bb _ _ _ _ _ _ 4 Ov.nd rfl (Or.inl rfl) (BR CN (pv 1) Ac) (by kernel_rfl) (.inl rfl))
   (@Ad _ _ _ _ _ (@Bb _ _ _ _ _ _ 5 Ov.nd rfl (Or.inl rfl) (BR Ej (pv 1) Ac) (by kernel_rfl) (.inl rfl))
   (@Ad _ _ _ _ _ (@Bb _ _ _ _ _ _ 6 Ov.nd rfl (Or.inl rfl) (@Ay _ _ _ _ _ _ _ (Ax (K:=K) rfl) (@Ay _ _ _ _ _ _ _ (CZ (K:=K) rfl) (pv 2) (BR CN (pv 5) (BJ BX rfl T.len PySem.boot_len (@An _ _ _ _ _ rfl (pv 2) Aa))) (fun _ _=>rfl)) Ac (fun _ _=>rfl)) (by kernel_rfl) (.inl rfl))
   (@Ad _ _ _ _ _ (@Bb _ _ _ _ _ _ 7 Ov.nd rfl (Or.inl rfl) (@Ay _ _ _ _ _ _ _ (CZ (K:=K) rfl) (pv 3) (BR CN (BR Ej (pv 5) Ac) (BJ BX rfl T.len PySem.boot_len (@An _ _ _ _ _ rfl (pv 3) Aa))) (fun _ _=>rfl)) (by kernel_rfl) (.inl rfl))
   (@Ad _ _ _ _ _ (@Bg _ _ _ _ _ _ _ _ (BK JN (pv 4) Ac (BV _)) (@Ai _ _ _ (@Aw _ _ _ _ (@Bq _ _ _ _ _ (@An _ _ _ _ _ rfl BL (@An _ _ _ _ _ rfl (pv 6) Aa))))) BZ)
   (@Ad _ _ _ _ _ (@Bg _ _ _ _ _ _ _ _ (BK Bu (pv 4) Ac (BV _)) (@Ai _ _ _ (@Aw _ _ _ _ (@Bq _ _ _ _ _ (@An _ _ _ _ _ rfl BL (@An _ _ _ _ _ rfl (pv 6) Aa))))) BZ)
   (@Ad _ _ _ _ _ (@Bg _ _ _ _ _ _ _ _ (BK Bu (pv 4) Ac (BV _)) (@Ai _ _ _ (@Aw _ _ _ _ (@Bq _ _ _ _ _ (@An _ _ _ _ _ rfl BL (@An _ _ _ _ _ rfl (BR CN (BR CN (pv 5) Ac) Ac) Aa))))) BZ)
   (@Ad _ _ _ _ _ (@Bg _ _ _ _ _ _ _ _ (BK Bu (pv 4) Ac (BV _)) (@Ai _ _ _ (@Aw _ _ _ _ (@Bq _ _ _ _ _ (@An _ _ _ _ _ rfl BL (@An _ _ _ _ _ rfl (BR CN (BR CN (pv 5) Ac) Ac) (@An _ _ _ _ _ rfl (pv 7) Aa)))))) BZ)
   (@Ad _ _ _ _ _ (@Bg _ _ _ _ _ _ _ _ (BK Bu (pv 4) Ac (BV _)) (@Ai _ _ _ (@Aw _ _ _ _ (@Bq _ _ _ _ _ (@An _ _ _ _ _ rfl BL (@An _ _ _ _ _ rfl (BR CN (BR CN (pv 5) Ac) Ac) Aa))))) BZ)
   (@Ad _ _ _ _ _ (@Bg _ _ _ _ _ _ _ _ (BK Bu (pv 4) Ac (BV _)) (@Ai _ _ _ (@Aw _ _ _ _ (@Bq _ _ _ _ _ (@An _ _ _ _ _ rfl BL (@An _ _ _ _ _ rfl (BR CN (pv 5) Ac) Aa))))) BZ)
   (@Ad _ _ _ _ _ (@Bg _ _ _ _ _ _ _ _ (BK Bu (pv 4) Ac (BV _)) (@Ai _ _ _ (@Aw _ _ _ _ (@Bq _ _ _ _ _ (@An _ _ _ _ _ rfl BL (@An _ _ _ _ _ rfl (BR CN (pv 5) (BR Di (BJ BX rfl T.len PySem.boot_len (@An _ _ _ _ _ rfl (Am GSp hrSp rfl N.FSp.2.2 N.FSp.1.kp N.FSp.2.1 .nil Az (@An _ _ _ _ _ rfl (pv 0) Aa)) Aa)) Ac)) Aa))))) BZ)
   (@Ad _ _ _ _ _ (@Bg _ _ _ _ _ _ _ _ (PW.pt (JK (BK Bu (pv 4) Ac (BV _)) (Gy (BK Bu (BR CN (pv 5) Ac) Ac (BV _))))) (@Ai _ _ _ (@Aw _ _ _ _ (@Bq _ _ _ _ _ (@An _ _ _ _ _ rfl BL Aa)))) BZ)
   (@Ad _ _ _ _ _ (@Bg _ _ _ _ _ _ _ _ (BK Bu (pv 4) Ac (BV _)) (@Ai _ _ _ (@Aw _ _ _ _ (@Bq _ _ _ _ _ (@An _ _ _ _ _ rfl BL (@An _ _ _ _ _ rfl (BR CN (pv 5) Ac) (@An _ _ _ _ _ rfl Gh Aa)))))) BZ)
   (@Ai _ _ _ (@Aw _ _ _ _ (@Ay _ _ _ _ _ _ _ (CZ (K:=K) rfl) (@Cv _ _ _ _ (@An _ _ _ _ _ rfl (@Bq _ _ _ _ _ (@An _ _ _ _ _ rfl BL (@An _ _ _ _ _ rfl (pv 7) Aa))) (@An _ _ _ _ _ rfl (@Bq _ _ _ _ _ (@An _ _ _ _ _ rfl BL (@An _ _ _ _ _ rfl Gh Aa))) (@An _ _ _ _ _ rfl (@Bq _ _ _ _ _ (@An _ _ _ _ _ rfl BL (@An _ _ _ _ _ rfl Ac Aa))) (@An _ _ _ _ _ rfl (@Bq _ _ _ _ _ (@An _ _ _ _ _ rfl BL (@An _ _ _ _ _ rfl (Mx Ol Ac) Aa))) (@An _ _ _ _ _ rfl (@Bq _ _ _ _ _ (@An _ _ _ _ _ rfl BL (@An _ _ _ _ _ rfl JQ Aa))) (@An _ _ _ _ _ rfl (@Bq _ _ _ _ _ (@An _ _ _ _ _ rfl BL (@An _ _ _ _ _ rfl Ac (@An _ _ _ _ _ rfl (pv 6) Aa)))) Aa))))))) (BR CN (pv 5) Ac) (fun _ _=>rfl))))))))))))))))))),?_⟩
  have lk:=O.lk
  have lr:=O.lr
  have lus:us.length=S.rows.length:=hpr.length.symm
  have b1:=O.b1
  have b3:=O.b3
  have fO:∀ n∈Hl S.ks,Tx n:=fun n hn=>by
   obtain ⟨r,hr,rfl⟩:=List.mem_map.mp hn
   obtain ⟨j,hj,e⟩:=O.kn hr
   rw [e]
   exact (Iw (JF k3 a5 (by omega))).1.tx
  have St:lV S.rows S.ks S.sts:=⟨O.ek,O.bl.st,O.bl.RN,by omega,by omega⟩
  obtain ⟨_,O8,_,_⟩:=DN.org O k3 a5 i12 (by omega) hpr
  refine ⟨_,rfl,p,us,S.rows,rfl,hp,hpr,by omega,fun DK us3 H3 hDK s3 l3 p3=>?_⟩
  rw [O.ek] at p3
  have l3k:us3.length=S.ks.length:=p3.length.symm
  have hp3:=s3 _ _ hp
  have hpr3:=Ao s3 hpr
  obtain ⟨_,O8,_,_⟩:=DN.org O k3 a5 i12 (by omega) hpr3
  have hS2:Cw K H3 p us:=.inl (.inl hp3)
  refine ⟨_,rfl,p,rfl,⟨_,hS2⟩,Cu (K:=K) (xs:=us) (pw (GP H3) "board") (Ky H3 1) hS2 (A_ (by omega)) (fun y hy Hx hs R kk=>?_) (fun y hy _ Hx hs R kk=>?_) (fun pB H4 hpB s4 hl4=>?_)⟩
  ·obtain ⟨T0,rfl,hT⟩:=((Il hpr3) y hy).mono hs
   exact (wT hT (kk Hx (Ak.refl Hx)))
  ·obtain ⟨b',_,hx'⟩:=Cg hpr3 hy
   have e:=G9 hx' 1
   obtain ⟨T0,rfl,hT⟩:=hx'.mono hs
   refine ⟨_,rfl,T0,_,_,_,rfl,rfl,.inl (.inl hT),Aj (j:=1) rfl,?_⟩
   have:=kk Hx (Ak.refl Hx)
   rw [e] at this
   exact this
  have e3:(us.filter (pw (GP H3) "board")).map (Ky H3 1)=(S.bs.map (·.1)).map V.str:=by
   have e:(us.filter (pw (GP H3) "board")).map (Ky H3 1)=((us.filter (pw (GP H3) "board")).map (GP H3)).map fun r=>V.str r.nm:=by
    rw [List.map_map]
    refine List.map_congr_left fun y hy=>?_
    obtain ⟨b',_,hx'⟩:=Cg hpr3 (List.mem_filter.mp hy).1
    show Ky H3 1 y=V.str (GP H3 y).nm
    rw [G9 hx' 1,HX hx']
    rfl
   rw [e,O8.eb,List.map_map,List.map_map]
   rfl
  rw [e3] at hl4
  have lbs:((S.bs.map (·.1)).map V.str).length=S.bs.length:=by rw [List.length_map,List.length_map]
  have s04:=s3.trans s4
  have l34:=s4 _ _ l3
  refine ⟨_,rfl,_,_,rfl,rfl,(by show (0:Int)<12; decide),_,rfl,_,_,rfl,rfl,⟨by decide,by decide⟩,?_⟩
  dsimp only
  obtain ⟨wy,ewy⟩:∃ wy,n % 12=wy:=⟨_,rfl⟩
  obtain ⟨mo,emo,hmo⟩:∃ mo,n / 12=mo/\0<=mo:=⟨_,rfl,by omega⟩
  rw [ewy,emo]
  obtain ⟨j1,hj1,ej1⟩:∃ j:Nat,j<S.ks.length/\mo % ((us3.length:Nat):Int)=(j:Int):=by
   have h0:=Int.emod_nonneg mo (show ((us3.length:Nat):Int) ≠ 0 by omega)
   have h1:=Int.emod_lt_of_pos mo (show (0:Int)<((us3.length:Nat):Int) by omega)
   obtain ⟨j,hj⟩:=Int.eq_ofNat_of_zero_le h0
   exact ⟨j,by omega,hj⟩
  obtain ⟨rn,hrn⟩:∃ r,S.ks[j1]? = some r:=⟨_,List.getElem?_eq_getElem hj1⟩
  obtain ⟨yr,eyr,Tr,rfl,tr⟩:=Fq p3 hrn
  have txn:Tx rn.nm:=fO _ (List.mem_map_of_mem (List.mem_of_getElem? hrn))
  refine ⟨_,rfl,_,rfl,_,rfl,DK,_,rfl,.inl (.inl (.inl l34)),_,_,rfl,rfl,(by show (0:Int)<((us3.length:Nat):Int); omega),DK,us3,_,_,rfl,rfl,.inl (.inl l34),(by rw [ej1]; exact Aj eyr),Tr,_,_,_,rfl,rfl,.inl (.inl (s4 _ _ tr)),Aj (j:=1) rfl,?_⟩
  obtain ⟨j2,hj2,ej2⟩:∃ j:Nat,j<S.bs.length/\mo / 16 % ((((S.bs.map (·.1)).map V.str).length:Nat):Int)=(j:Int):=by
   have h0:=Int.emod_nonneg (mo / 16) (show (((((S.bs.map (·.1)).map V.str).length:Nat)):Int) ≠ 0 by omega)
   have h1:=Int.emod_lt_of_pos (mo / 16) (show (0:Int)<(((((S.bs.map (·.1)).map V.str).length:Nat)):Int) by omega)
   obtain ⟨j,hj⟩:=Int.eq_ofNat_of_zero_le h0
   exact ⟨j,by omega,hj⟩
  obtain ⟨b0,hb0⟩:∃ b,S.bs[j2]? = some b:=⟨_,List.getElem?_eq_getElem hj2⟩
  have txb:Tx b0.1:=(O.sb b0 (List.mem_of_getElem? hb0)).1.tx
  have eb0:((S.bs.map (·.1)).map V.str)[j2]? = some (.str b0.1):=by rw [List.getElem?_map,List.getElem?_map,hb0]; rfl
  refine ⟨_,rfl,_,rfl,_,_,rfl,rfl,⟨by decide,by decide⟩,_,rfl,pB,_,rfl,.inl (.inl (.inl hl4)),_,_,rfl,rfl,(by show (0:Int)<(((((S.bs.map (·.1)).map V.str).length:Nat)):Int); omega),pB,_,_,_,rfl,rfl,.inl (.inl hl4),(by rw [ej2]; exact Aj eb0),?_⟩
  have fin:∀ (d:JM) (T:Addr),H4 T=none->d.ok->Q (.ref T) (upd H4 T (.tup d.v)):=fun d T hT hd=>q T d _ (s04.free hT) (s04.trans (Av hT)) Ag hd
  refine ⟨_,rfl,_,_,rfl,rfl,_,rfl,Ci (fun _=>⟨_,rfl,by show 2<=sizeLine; decide,fun T hT=>fin (.pull _) T hT (.inr ⟨_,rfl,txn⟩)⟩) (fun _=>?_)⟩
  refine ⟨_,rfl,rfl,_,rfl,Ci (fun _=>⟨_,rfl,by show 2<=sizeLine; decide,fun T hT=>fin (.push _) T hT (.inr ⟨_,rfl,txn⟩)⟩) (fun _=>?_)⟩
  refine ⟨_,rfl,rfl,_,rfl,Ci (fun _=>⟨_,rfl,_,_,rfl,rfl,(by show (0:Int)<10; decide),_,_,rfl,rfl,(by show (0:Int)<4; decide),by show 2<=sizeLine; decide,fun T hT=>fin (.store _) T hT (.inr ⟨_,rfl⟩)⟩) (fun _=>?_)⟩
  refine ⟨_,rfl,rfl,_,rfl,Ci (fun _=>⟨_,rfl,_,_,rfl,rfl,(by show (0:Int)<10; decide),_,_,rfl,rfl,(by show (0:Int)<4; decide),_,rfl,by show 3<=sizeLine; decide,fun T hT=>fin (.storeB _ _) T hT ⟨.inr ⟨_,rfl⟩,.inr ⟨_,rfl,txb⟩⟩⟩) (fun _=>?_)⟩
  refine ⟨_,rfl,rfl,_,rfl,Ci (fun _=>⟨_,rfl,_,_,rfl,rfl,(by show (0:Int)<10; decide),_,_,rfl,rfl,(by show (0:Int)<4; decide),by show 2<=sizeLine; decide,fun T hT=>fin (.press _) T hT (.inr ⟨_,rfl⟩)⟩) (fun _=>?_)⟩
  refine ⟨_,rfl,rfl,_,rfl,Ci (fun _=>⟨_,rfl,_,_,rfl,rfl,(by show (0:Int)<10; decide),by show 2<=sizeLine; decide,fun T hT=>fin (.press _) T hT (.inr ⟨_,rfl⟩)⟩) (fun _=>?_)⟩
  refine ⟨_,rfl,rfl,_,rfl,Ci (fun _=>?_) (fun _=>?_)⟩
  ·refine ⟨_,rfl,_,rfl,p,us,S.rows,S.ks,S.sts,rfl,s04 _ _ hp,Ao s04 hpr,St,fun DS H5 hDS s5 l5=>⟨DS,_,rfl,.inl (.inl (.inl l5)),_,_,rfl,rfl,_,_,rfl,rfl,(by show (0:Int)<(((nV S.sts).length:Nat):Int)+1; omega),by show 2<=sizeLine; decide,fun T hT=>?_⟩⟩
   exact q T (.shoe _) _ (s04.free (s5.free hT)) (s04.trans (s5.trans (Av hT))) Ag (.inr ⟨_,rfl⟩)
  unfold Wr
  dsimp only
  refine mZ (fun b H1=>H1=H4) (fun Q1 qt qf=>⟨_,rfl,rfl,_,rfl,Ci (fun _=>⟨_,rfl,_,_,rfl,rfl,(by show (0:Int)<4; decide),rfl,_,rfl,?_⟩) (fun _=>qf _ rfl)⟩) (fun H1 e=>?_) (fun H1 e=>?_)
  ·by_cases h4:V.int (mo % 4)=V.int 0
   ·rw [decide_eq_true h4]
    exact qt _ rfl
   ·rw [decide_eq_false h4]
    exact qf _ rfl
  ·subst e
   exact ⟨by show 1<=sizeLine; decide,fun T hT=>fin .cancel T hT trivial⟩
  subst e
  refine ⟨_,rfl,rfl,_,rfl,Ci (fun _=>⟨_,rfl,_,_,rfl,rfl,(by show (0:Int)<10; decide),by show 3<=sizeLine; decide,fun T hT=>fin (.storeB _ _) T hT ⟨.inr ⟨_,rfl⟩,.inl rfl⟩⟩) (fun _=>?_)⟩
  refine ⟨_,rfl,by show 2<=sizeLine; decide,fun T0 hT0=>?_⟩
  obtain ⟨G0,eqH,t0,u0⟩:=DW (o:=HO.tup [V.str "pull",.str b0.1]) hT0
  rw [eqH]
  refine ⟨by show 2<=sizeLine; decide,fun T1 hT1=>?_⟩
  obtain ⟨G1,eqH,t1,u1⟩:=DW (o:=HO.tup [V.str "push",.non]) hT1
  rw [eqH]
  refine ⟨by show 2<=sizeLine; decide,fun T2 hT2=>?_⟩
  obtain ⟨G2,eqH,t2,u2⟩:=DW (o:=HO.tup [V.str "press",.int 10]) hT2
  rw [eqH]
  refine ⟨_,rfl,by show 2<=sizeLine; decide,fun T3 hT3=>?_⟩
  obtain ⟨G3,eqH,t3,u3⟩:=DW (o:=HO.tup [V.str "shoe",.int (-1)]) hT3
  rw [eqH]
  refine ⟨by show 2<=sizeLine; decide,fun T4 hT4=>?_⟩
  obtain ⟨G4,eqH,t4,u4⟩:=DW (o:=HO.tup [V.str "store",.bl true]) hT4
  rw [eqH]
  refine ⟨_,rfl,by show 3<=sizeLine; decide,fun T5 hT5=>?_⟩
  obtain ⟨G5,eqH,t5,u5⟩:=DW (o:=HO.tup [V.str "store",.int 3,.str rn.nm]) hT5
  rw [eqH]
  refine ⟨by show 6<=sizeLine; decide,fun pL hpL=>?_⟩
  obtain ⟨G6,eqH,t6,u6⟩:=DW (o:=HO.lst [V.ref T0,.ref T1,.ref T2,.ref T3,.ref T4,.ref T5]) hpL
  rw [eqH]
  obtain ⟨j,hj,ej⟩:∃ j:Nat,j<6/\mo % 6=(j:Int):=⟨(mo % 6).toNat,by omega,by omega⟩
  refine ⟨_,rfl,_,_,rfl,rfl,(by show (0:Int)<6; decide),?_⟩
  dsimp only
  rw [ej]
  obtain rfl | rfl | rfl | rfl | rfl | rfl:j=0 \/ j=1 \/ j=2 \/ j=3 \/ j=4 \/ j=5:=by omega
  ·exact ⟨pL,_,_,_,rfl,rfl,.inl (.inl u6),Aj (j:=0) rfl,q T0 (.pull (.str b0.1)) _ (s04.free hT0) (s04.trans (t0.trans ( t1.trans ( t2.trans ( t3.trans ( t4.trans ( t5.trans (t6)))))))) (t6 _ _ (t5 _ _ (t4 _ _ (t3 _ _ (t2 _ _ (t1 _ _ (u0))))))) (.inr ⟨_,rfl,txb⟩)⟩
  ·exact ⟨pL,_,_,_,rfl,rfl,.inl (.inl u6),Aj (j:=1) rfl,q T1 (.push .non) _ (s04.free (t0.free hT1)) (s04.trans (t0.trans ( t1.trans ( t2.trans ( t3.trans ( t4.trans ( t5.trans (t6)))))))) (t6 _ _ (t5 _ _ (t4 _ _ (t3 _ _ (t2 _ _ (u1)))))) (.inl rfl)⟩
  ·exact ⟨pL,_,_,_,rfl,rfl,.inl (.inl u6),Aj (j:=2) rfl,q T2 (.press (.int 10)) _ (s04.free (t0.free (t1.free hT2))) (s04.trans (t0.trans ( t1.trans ( t2.trans ( t3.trans ( t4.trans ( t5.trans (t6)))))))) (t6 _ _ (t5 _ _ (t4 _ _ (t3 _ _ (u2))))) (.inr ⟨_,rfl⟩)⟩
  ·exact ⟨pL,_,_,_,rfl,rfl,.inl (.inl u6),Aj (j:=3) rfl,q T3 (.shoe (.int (-1))) _ (s04.free (t0.free (t1.free (t2.free hT3)))) (s04.trans (t0.trans ( t1.trans ( t2.trans ( t3.trans ( t4.trans ( t5.trans (t6)))))))) (t6 _ _ (t5 _ _ (t4 _ _ (u3)))) (.inr ⟨_,rfl⟩)⟩
  ·exact ⟨pL,_,_,_,rfl,rfl,.inl (.inl u6),Aj (j:=4) rfl,q T4 (.store (.bl true)) _ (s04.free (t0.free (t1.free (t2.free (t3.free hT4))))) (s04.trans (t0.trans ( t1.trans ( t2.trans ( t3.trans ( t4.trans ( t5.trans (t6)))))))) (t6 _ _ (t5 _ _ (u4))) (.inl rfl)⟩
  ·exact ⟨pL,_,_,_,rfl,rfl,.inl (.inl u6),Aj (j:=5) rfl,q T5 (.storeB (.int 3) (.str rn.nm)) _ (s04.free (t0.free (t1.free (t2.free (t3.free (t4.free hT5)))))) (s04.trans (t0.trans ( t1.trans ( t2.trans ( t3.trans ( t4.trans ( t5.trans (t6)))))))) (t6 _ _ (u5)) ⟨.inr ⟨_,rfl⟩,.inr ⟨_,rfl,txn⟩⟩⟩
open Bw
structure Cs where
 dr:Nat
 sh:Nat
 m:Nat->Option Ps
inductive Rs where
 | told (v:V)
 | no (i:Nat)
noncomputable def Fv (ks:List R):V->Option Nat
 | .str t=>if t∈Hl ks then some ((Hl ks).idxOf t) else none
 | _=>none
noncomputable def FJ:V->Option Nat
 | .int i=>if 0<=i/\i<10 then some i.toNat else none
 | _=>none
noncomputable def Jl (n:Nat):V->Option Nat
 | .int i=>if 0<=i/\i<=(n:Nat) then some i.toNat else none
 | _=>none
noncomputable def Y4 (ns:List Str) (ks:List R) (dr:Nat):V->Option Ps
 | .non=>some (.every dr)
 | .str t=>if t∈ns then some (.part (dr &&& Ha ks t) (Ha ks t)) else none
 | _=>none
noncomputable def My (up:Bool) (dr k:Nat):Nat:=if up then dr ||| 2 ^ k else dr - (dr &&& 2 ^ k)
noncomputable def act (ns:List Str) (ks:List R) (n:Nat) (s:Cs):JM->Cs × Rs
 | .pull v=>match Fv ks v with
  | some k=>(⟨My true s.dr k,s.sh,s.m⟩,.told (.bl (!decide (My true s.dr k=s.dr))))
  | none=>(s,.no 0)
 | .push v=>match Fv ks v with
  | some k=>(⟨My false s.dr k,s.sh,s.m⟩,.told (.bl (!decide (My false s.dr k=s.dr))))
  | none=>(s,.no 0)
 | .store v=>match FJ v with
  | some p=>(⟨s.dr,s.sh,Jj s.m p (.every s.dr)⟩,.told .non)
  | none=>(s,.no 1)
 | .storeB v b=>match FJ v with
  | some p=>match Y4 ns ks s.dr b with
   | some ps=>(⟨s.dr,s.sh,Jj s.m p ps⟩,.told .non)
   | none=>(s,.no 2)
  | none=>(s,.no 1)
 | .press v=>match (FJ v).bind s.m with
  | some ps=>(⟨ps.put s.dr,s.sh,s.m⟩,.told .non)
  | none=>(s,.no 1)
 | .shoe v=>match Jl n v with
  | some i=>(⟨s.dr,i,s.m⟩,.told .non)
  | none=>(s,.no 3)
 | .cancel=>(⟨0,0,s.m⟩,.told .non)
noncomputable def mQ (H H':Hp):Rs->V->Prop
 | .told u,v=>v=u
 | .no i,v=>i<4/\∃ D,v=.ref D/\H D=none/\H' D=some (.lst [.str (nmE i)])
theorem Pz {ks:List R} {v:V} (h:Gp (Hl ks) v=.non):Fv ks v=none:=by
 cases v with
 | str t=>exact if_neg fun z=>Sv h rfl z
 | _=>rfl
theorem Sh {v:V} (h:JH v=false):FJ v=none:=by
 cases v with
 | int i =>
  refine if_neg fun z=>?_
  have h1:(decide (0<=i) && decide (i<10))=false:=h
  rw [decide_eq_true z.1,decide_eq_true z.2] at h1
  cases h1
 | _=>rfl
theorem IV {p:Nat} (h:p<10):FJ (.int (p:Nat))=some p:=if_pos ⟨by omega,by omega⟩
theorem Xo {v:V} {p:Nat} (h:FJ v=some p):v=.int (p:Nat)/\p<10:=by
 cases v with
 | int i =>
  have h1:(if 0<=i/\i<10 then some i.toNat else none)=some p:=h
  by_cases c:0<=i/\i<10
  ·rw [if_pos c] at h1
   have:=Option.some.inj h1
   exact ⟨congrArg V.int (by omega),by omega⟩
  ·rw [if_neg c] at h1
   cases h1
 | _=>cases h
theorem U6 {n:Nat} {v:V} (h:X_ n v=false):Jl n v=none:=by
 cases v with
 | int i =>
  refine if_neg fun z=>?_
  have h1:(decide (0<=i) && decide (i<=(n:Nat)))=false:=h
  rw [decide_eq_true z.1,decide_eq_true z.2] at h1
  cases h1
 | _=>rfl
theorem Rf {n i:Nat} (h:i<=n):Jl n (.int (i:Nat))=some i:=if_pos ⟨by omega,by omega⟩
section
variable {ns:List Str} {ks:List R} {n:Nat} {s:Cs} {v b:V}
theorem Rv {t:Str} (h:t∈Hl ks):act ns ks n s (.pull (.str t))=(⟨My true s.dr ((Hl ks).idxOf t),s.sh,s.m⟩,.told (.bl (!decide (My true s.dr ((Hl ks).idxOf t)=s.dr)))):=by
 unfold act
 dsimp only
 rw [show Fv ks (.str t)=some _ from if_pos h]
theorem Rh {t:Str} (h:t∈Hl ks):act ns ks n s (.push (.str t))=(⟨My false s.dr ((Hl ks).idxOf t),s.sh,s.m⟩,.told (.bl (!decide (My false s.dr ((Hl ks).idxOf t)=s.dr)))):=by
 unfold act
 dsimp only
 rw [show Fv ks (.str t)=some _ from if_pos h]
theorem Qq (h:Gp (Hl ks) v=.non):act ns ks n s (.pull v)=(s,.no 0):=by
 unfold act
 dsimp only
 rw [Pz h]
theorem Qk (h:Gp (Hl ks) v=.non):act ns ks n s (.push v)=(s,.no 0):=by
 unfold act
 dsimp only
 rw [Pz h]
theorem Qt {p:Nat} (h:p<10):act ns ks n s (.store (.int (p:Nat)))=(⟨s.dr,s.sh,Jj s.m p (.every s.dr)⟩,.told .non):=by
 unfold act
 dsimp only
 rw [IV h]
theorem Np (h:JH v=false):act ns ks n s (.store v)=(s,.no 1):=by
 unfold act
 dsimp only
 rw [Sh h]
theorem N_ {p:Nat} (h:p<10):act ns ks n s (.storeB (.int (p:Nat)) .non)=(⟨s.dr,s.sh,Jj s.m p (.every s.dr)⟩,.told .non):=by
 unfold act
 dsimp only
 rw [IV h]
 rfl
theorem Oj {p:Nat} (h:p<10) {t:Str} (ht:t∈ns):act ns ks n s (.storeB (.int (p:Nat)) (.str t))=(⟨s.dr,s.sh,Jj s.m p (.part (s.dr &&& Ha ks t) (Ha ks t))⟩,.told .non):=by
 unfold act
 dsimp only
 rw [IV h,show Y4 ns ks s.dr (.str t)=some _ from if_pos ht]
theorem Mz (h:JH v=false):act ns ks n s (.storeB v b)=(s,.no 1):=by
 unfold act
 dsimp only
 rw [Sh h]
theorem M6 (h:JH v=true) (h1:b ≠ .non) (h2:Gp ns b=.non):act ns ks n s (.storeB v b)=(s,.no 2):=by
 obtain ⟨p,rfl,hp⟩:=Nk h
 unfold act
 dsimp only
 rw [IV hp]
 have e:Y4 ns ks s.dr b=none:=by
  cases b with
  | non=>exact (h1 rfl).elim
  | str t=>exact if_neg fun z=>Sv h2 rfl z
  | _=>rfl
 rw [e]
theorem QX {p:Nat} {ps:Ps} (h:p<10) (hm:s.m p=some ps):act ns ks n s (.press (.int (p:Nat)))=(⟨ps.put s.dr,s.sh,s.m⟩,.told .non):=by
 unfold act
 dsimp only
 rw [IV h,Option.bind_some,hm]
theorem Oi (h:∀ p:Nat,v=.int (p:Nat)->p<10->s.m p=none):act ns ks n s (.press v)=(s,.no 1):=by
 unfold act
 dsimp only
 have e:(FJ v).bind s.m=none:=by
  cases z:FJ v with
  | none=>rfl
  | some p =>
   obtain ⟨e,hp⟩:=Xo z
   exact h p e hp
 rw [e]
theorem Sy {i:Nat} (h:i<=n):act ns ks n s (.shoe (.int (i:Nat)))=(⟨s.dr,i,s.m⟩,.told .non):=by
 unfold act
 dsimp only
 rw [Rf h]
theorem Q5 (h:X_ n v=false):act ns ks n s (.shoe v)=(s,.no 3):=by
 unfold act
 dsimp only
 rw [U6 h]
end
noncomputable def Fb (H H':Hp) (a b:Addr):Prop:=∀ c o,H c=some o->c ≠ a->c ≠ b->H' c=some o
theorem CJ.le {C Cy pE pA:Addr} {Ho H:Hp} {y x:Addr} {bs:List (Str × Nat)} {ks:List R} {sts:List Nat} {dr sh:Nat} {sd:Addr} {m:Nat->Option Ps} {c c':Nat} (h:CJ C Cy pE pA Ho H y x bs ks sts dr sh sd m c) (hc:c<=c'):CJ C Cy pE pA Ho H y x bs ks sts dr sh sd m c':=by
 obtain ⟨kvs,e1,e2,e3⟩:=h.st.ex
 exact ⟨h.o,h.f,h.hs,h.ny,kvs,e1,Nat.le_trans e2 hc,e3⟩
theorem Et.gB {C Cy:Addr} {Ho H:Hp} {y x:Addr} {ks:List R} {sts:List Nat} {dr sh:Nat} {sd:Addr} (h:Et C Cy Ho H y x ks sts dr sh sd):DQ Cy H y x dr sh sd:=by
 obtain ⟨⟨us,bs,rk,ls,h1⟩,h2,h3⟩:=h
 exact h1.c
noncomputable def cR (C Cy pE pA:Addr):Sp:=fun vs H Q _=>∃ (Ho:Hp) (y x:Addr) (bs:List (Str × Nat)) (ks:List R) (sts:List Nat) (s:Cs) (sd:Addr) (c:Nat) (T:Addr) (d:JM),vs=[.ref y,.ref T]/\CJ C Cy pE pA Ho H y x bs ks sts s.dr s.sh sd s.m c/\c<900/\H T=some (.tup d.v)/\d.ok /\
 ∀ v H',Fb H H' y sd->CJ C Cy pE pA Ho H' y x bs ks sts (act (bs.map (·.1)) ks sts.length s d).1.dr (act (bs.map (·.1)) ks sts.length s d).1.sh sd (act (bs.map (·.1)) ks sts.length s d).1.m (c+1)->mQ H H' (act (bs.map (·.1)) ks sts.length s d).2 v->Q v H'
theorem JX:Aq ["_law_console","_law_deed_here","_law_told","_law_found","_law_e"] ["_law_console","_law_deed_here"] (Af jC):=Bp
include N T in
theorem bT:Ar P w K mg base Bh 7 fDo dDo ["_law_console","_law_deed_here"] (cR C Cy pE pA):=by
 have GXr:Ar P w K mg base (JG P w) 3 fXr dXr ["self","piston"] (ZR C Cy pE pA cP):=Ys N T
 have GXt:Ar P w K mg base (JG P w) 6 fXt dXt ["self","piston","board"] (Zz C Cy pE pA cP cB):=ZS N T
 have GXp:Ar P w K mg base (JG P w) 5 fXp dXp ["self","name"] (V1 true C Cy cK):=bF N T
 have GXq:Ar P w K mg base (JG P w) 5 fXq dXq ["self","name"] (V1 false C Cy cK):=dF N T
 have GXh:Ar P w K mg base (JG P w) 3 fXh dXh ["self","step"] (aG C Cy cS):=cG N T
 have GXc:Ar P w K mg base Bh 2 fXc dXc ["self"] (dw C Cy pE pA):=bI N T
 have GLm:MK P w K mg base Bh 1 fLm dLm ["_law_e"] (bu cK cP cB cS):=bZ N T
 refine N.FDo.1.ok JX (fun vs H Q E h=>?_) (fun cdv A outer s0 H vs Q E hr h=>?_)
 ·obtain ⟨Ho,y,x,bs,ks,sts,s,sd,c,T,d,rfl,_⟩:=h
  rfl
 ·obtain ⟨Ho,y,x,bs,ks,sts,s,sd,c,T0,d,rfl,O,hc,hT,hd,q⟩:=h
  have hrXr:BW 3 _:=hr.mono (by decide)
  have hrXt:BW 6 _:=hr.mono (by decide)
  have hrXp:BW 5 _:=hr.mono (by decide)
  have hrXq:BW 5 _:=hr.mono (by decide)
  have hrXh:BW 3 _:=hr.mono (by decide)
  have hrXc:BW 2 _:=hr.mono (by decide)
  have hu:=CV hr
  refine ⟨_,(@Ad _ _ _ _ _ (@Bb _ _ _ _ _ _ 2 JX.nd rfl (Or.inl rfl) Gh (by kernel_rfl) (.inl rfl))
   (@Ad _ _ _ _ _ (@Bb _ _ _ _ _ _ 3 JX.nd rfl (Or.inl rfl) (@Cv _ _ _ _ Aa) (by kernel_rfl) (.inl rfl))
   (@Ad _ _ _ _ _ (V0 (fun ER=>(DG (Im (BK Bu (@Ay _ _ _ _ _ _ _ (Ax (K:=K) rfl) (pv 1) Ac (fun _ _=>rfl)) BL (BV _)) (DG (G_ (i:=2) JX.nd rfl (Or.inl rfl) (Fi (pv 0) T.clR N.FXp.2.2 GXp hrXp N.FXp.2.1 .nil (@An _ _ _ _ _ rfl (@Ay _ _ _ _ _ _ _ (Ax (K:=K) rfl) (pv 1) Ac (fun _ _=>rfl)) Aa) rfl))) (DG (Im (BK Bu (@Ay _ _ _ _ _ _ _ (Ax (K:=K) rfl) (pv 1) Ac (fun _ _=>rfl)) BL (BV _)) (DG (G_ (i:=2) JX.nd rfl (Or.inl rfl) (Fi (pv 0) T.clR N.FXq.2.2 GXq hrXq N.FXq.2.1 .nil (@An _ _ _ _ _ rfl (@Ay _ _ _ _ _ _ _ (Ax (K:=K) rfl) (pv 1) Ac (fun _ _=>rfl)) Aa) rfl))) (DG (Im (PW.pt (JK (BK Bu (@Ay _ _ _ _ _ _ _ (Ax (K:=K) rfl) (pv 1) Ac (fun _ _=>rfl)) BL (BV _)) (Gy (BK Bu (BJ BX rfl T.len PySem.boot_len (@An _ _ _ _ _ rfl (pv 1) Aa)) Ac (BV _))))) (DG (G_ (i:=2) JX.nd rfl (Or.inl rfl) (Fi (dvs:=[.non]) (pv 0) T.clR N.FXt.2.2 GXt hrXt N.bXt0 (.cons rfl .nil) (@An _ _ _ _ _ rfl (@Ay _ _ _ _ _ _ _ (Ax (K:=K) rfl) (pv 1) Ac (fun _ _=>rfl)) Aa) rfl))) (DG (Im (BK Bu (@Ay _ _ _ _ _ _ _ (Ax (K:=K) rfl) (pv 1) Ac (fun _ _=>rfl)) BL (BV _)) (DG (G_ (i:=2) JX.nd rfl (Or.inl rfl) (Fi (pv 0) T.clR N.FXt.2.2 GXt hrXt N.FXt.2.1 .nil (@An _ _ _ _ _ rfl (@Ay _ _ _ _ _ _ _ (Ax (K:=K) rfl) (pv 1) Ac (fun _ _=>rfl)) (@An _ _ _ _ _ rfl (@Ay _ _ _ _ _ _ _ (Ax (K:=K) rfl) (pv 1) Ac (fun _ _=>rfl)) Aa)) rfl))) (DG (Im (BK Bu (@Ay _ _ _ _ _ _ _ (Ax (K:=K) rfl) (pv 1) Ac (fun _ _=>rfl)) BL (BV _)) (DG (G_ (i:=2) JX.nd rfl (Or.inl rfl) (Fi (pv 0) T.clR N.FXr.2.2 GXr hrXr N.FXr.2.1 .nil (@An _ _ _ _ _ rfl (@Ay _ _ _ _ _ _ _ (Ax (K:=K) rfl) (pv 1) Ac (fun _ _=>rfl)) Aa) rfl))) (DG (Im (BK Bu (@Ay _ _ _ _ _ _ _ (Ax (K:=K) rfl) (pv 1) Ac (fun _ _=>rfl)) BL (BV _)) (DG (G_ (i:=2) JX.nd rfl (Or.inl rfl) (Fi (pv 0) T.clR N.FXh.2.2 GXh hrXh N.FXh.2.1 .nil (@An _ _ _ _ _ rfl (@Ay _ _ _ _ _ _ _ (Ax (K:=K) rfl) (pv 1) Ac (fun _ _=>rfl)) Aa) rfl))) (Rn (@Ai _ _ _ (@Bb _ _ _ _ _ _ 2 JX.nd rfl (Or.inl rfl) (Ep (pv 0) T.clR N.FXc.2.2 GXc hrXc N.FXc.2.1 .nil Az) (by kernel_rfl) (.inl rfl))) rfl) rfl)) rfl)) rfl)) rfl)) rfl)) rfl))) rfl T.x4.mO T.x4.exO JX.nd (i:=4) rfl rfl (fun x=>(@Ai _ _ _ (@Bb _ _ _ _ _ _ 3 JX.nd rfl (Or.inl rfl) (R_ GLm (V8 (k:=1) (hr.h.mono (by decide)) _) rfl N.FLm.2.2 N.FLm.1.kp N.FLm.2.1 .nil Az (@An _ _ _ _ _ rfl (pv 4) Aa)) (by kernel_rfl) (.inl rfl)))))
   (@Ad _ _ _ _ _ (@Bg _ _ _ _ _ _ _ _ (BK (J5 (Nat.lt_of_succ_lt hu)) (pv 3) (@Cv _ _ _ _ Aa) (BV _)) (@Ai _ _ _ (@Aw _ _ _ _ (pv 3))) BZ)
   (@Ai _ _ _ (@Aw _ _ _ _ (pv 2))))))),?_⟩
  refine ⟨Be (by simp),fun pF hpF=>?_⟩
  obtain ⟨H1,eqH,s1,l1⟩:=DW (o:=HO.lst []) hpF
  rw [eqH]
  have O1:=O.mono s1
  have hT1:=s1 _ _ hT
  obtain ⟨dy,fs,h1,_,_,_,_,_,lm⟩:=id O1.at.ex
  obtain ⟨kvs,d1,_⟩:=id O1.st.ex
  have pFy:pF ≠ y:=fun z=>by
   rw [z,h1] at l1
   cases l1
  have pFd:pF ≠ sd:=fun z=>by
   rw [z,d1] at l1
   cases l1
  have finN:∀ (i:Nat) (D:Addr) (H4:Hp),act (bs.map (·.1)) ks sts.length s d=(s,.no i)->i<4->Ak H H4->H D=none->H4 D=some (.lst [.str (nmE i)])->∀ E1,H4 E1=none->Q (.ref D) (upd H4 E1 (.lst [])):=fun i D H4 ha hi s4 hD l4 E1 hE1=>by
   have s5:=s4.trans (Av (o:=HO.lst []) hE1)
   refine q _ _ (fun c o e _ _=>s5 _ _ e) ?_ ?_
   ·rw [ha]
    exact (O.mono s5).le (by omega)
   ·rw [ha]
    exact ⟨hi,D,rfl,hD,(Av (o:=HO.lst []) hE1) _ _ l4⟩
  have finT:∀ (s':Cs) (u:V) (H2:Hp),act (bs.map (·.1)) ks sts.length s d=(s',.told u)->Fb H1 H2 y sd->CJ C Cy pE pA Ho H2 y x bs ks sts s'.dr s'.sh sd s'.m (c+1)->∀ E1,H2 E1=none->Q u (upd H2 E1 (.lst [])):=fun s' u H2 ha f2 K2 E1 hE1=>by
   have s3:=Av (o:=HO.lst []) hE1
   refine q _ _ (fun c o e n1 n2=>s3 _ _ (f2 _ _ (s1 _ _ e) n1 n2)) ?_ ?_
   ·rw [ha]
    exact K2.mono s3
   ·rw [ha]
    rfl
  have fy:∀ {H2},SX y H1 H2->Fb H1 H2 y sd:=fun {_} c b o e n _=>c b o e n
  have fd:∀ {H2},SX sd H1 H2->Fb H1 H2 y sd:=fun {_} c b o e _ n=>c b o e n
  cases d with
  | pull v =>
   refine (wT hT1 (M8 rfl ⟨_,rfl,y,dy,fs,rfl,h1,lm _ (by decide +kernel),_,rfl,T0,_,_,_,rfl,rfl,.inl (.inl hT1),Aj (j:=1) rfl,Ho,y,x,ks,sts,s.dr,s.sh,sd,v,rfl,O1.ok,Wi.odd hd _,(fun t d2 H2 c2 ev ht ed O2=>?_),fun H2 s2 hno=>⟨cK,rfl,T.x4.rK.mro,fun ex hex=>?_⟩⟩))
   ·subst ev
    subst ed
    exact ⟨_,rfl,Be (by simp),fun E1 hE1=>⟨pF,E1,_,rfl,rfl,.inl (.inl (Av hE1 _ _ (fy c2 _ _ l1 pFy pFd))),.inl (.inl Ag),_,rfl,Bo ⟨_,rfl,finT ⟨_,_,_⟩ _ H2 (Rv ht) (fy c2) ((O1.put c2 O2.gB).le (by omega)) E1 hE1⟩⟩⟩
   ·have s3:=Av (o:=CQ ex cK none) hex
    have x3:upd H2 ex (CQ ex cK none) ex=some (CQ ex cK none):=Ag
    generalize upd H2 ex (CQ ex cK none)=H3 at s3 x3 ⊢
    have s03:=s1.trans (s2.trans s3)
    exact ⟨_,rfl,ex,0,rfl,x3,by decide,fun D H4 hD s4 l4=>⟨_,rfl,Be (by simp),fun E1 hE1=>⟨D,E1,_,rfl,rfl,.inl (.inl (Av hE1 _ _ l4)),.inl (.inl Ag),_,rfl,Cj ⟨_,rfl,finN 0 D H4 (Qq hno) (by decide) (s03.trans s4) (s03.free hD) l4 E1 hE1⟩⟩⟩⟩
  | push v =>
   refine (wT hT1 (Kr (wT hT1 (M8 rfl ⟨_,rfl,y,dy,fs,rfl,h1,lm _ (by decide +kernel),_,rfl,T0,_,_,_,rfl,rfl,.inl (.inl hT1),Aj (j:=1) rfl,Ho,y,x,ks,sts,s.dr,s.sh,sd,v,rfl,O1.ok,Wi.odd hd _,(fun t d2 H2 c2 ev ht ed O2=>?_),fun H2 s2 hno=>⟨cK,rfl,T.x4.rK.mro,fun ex hex=>?_⟩⟩))))
   ·subst ev
    subst ed
    exact ⟨_,rfl,Be (by simp),fun E1 hE1=>⟨pF,E1,_,rfl,rfl,.inl (.inl (Av hE1 _ _ (fy c2 _ _ l1 pFy pFd))),.inl (.inl Ag),_,rfl,Bo ⟨_,rfl,finT ⟨_,_,_⟩ _ H2 (Rh ht) (fy c2) ((O1.put c2 O2.gB).le (by omega)) E1 hE1⟩⟩⟩
   ·have s3:=Av (o:=CQ ex cK none) hex
    have x3:upd H2 ex (CQ ex cK none) ex=some (CQ ex cK none):=Ag
    generalize upd H2 ex (CQ ex cK none)=H3 at s3 x3 ⊢
    have s03:=s1.trans (s2.trans s3)
    exact ⟨_,rfl,ex,0,rfl,x3,by decide,fun D H4 hD s4 l4=>⟨_,rfl,Be (by simp),fun E1 hE1=>⟨D,E1,_,rfl,rfl,.inl (.inl (Av hE1 _ _ l4)),.inl (.inl Ag),_,rfl,Cj ⟨_,rfl,finN 0 D H4 (Qk hno) (by decide) (s03.trans s4) (s03.free hD) l4 E1 hE1⟩⟩⟩⟩
  | store v =>
   refine (wT hT1 (Kr (wT hT1 (Kr (wT hT1 (M8 rfl ⟨_,rfl,T0,_,rfl,.inr (.inl (.inl hT1)),rfl,_,rfl,M8 rfl ⟨_,rfl,y,dy,fs,rfl,h1,lm _ (by decide +kernel),_,rfl,T0,_,_,_,rfl,rfl,.inl (.inl hT1),Aj (j:=1) rfl,Ho,y,x,bs,ks,sts,s.dr,s.sh,sd,s.m,c,v,.non,rfl,O1,hc,Ux.odd hd _,.non,(fun p H2 ev hp _ c2 K2=>?_),(fun p t H2 _ _ ev=>nomatch ev),(fun H2 s2 hno=>⟨cP,rfl,T.x4.rP.mro,fun ex hex=>?_⟩),(fun H2 _ _ h=>(h rfl).elim)⟩⟩))))))
   ·subst ev
    exact ⟨_,rfl,Be (by simp),fun E1 hE1=>⟨pF,E1,_,rfl,rfl,.inl (.inl (Av hE1 _ _ (fd c2 _ _ l1 pFy pFd))),.inl (.inl Ag),_,rfl,Bo ⟨_,rfl,finT ⟨_,_,_⟩ _ H2 (Qt hp) (fd c2) K2 E1 hE1⟩⟩⟩
   ·have s3:=Av (o:=CQ ex cP none) hex
    have x3:upd H2 ex (CQ ex cP none) ex=some (CQ ex cP none):=Ag
    generalize upd H2 ex (CQ ex cP none)=H3 at s3 x3 ⊢
    have s03:=s1.trans (s2.trans s3)
    exact ⟨_,rfl,ex,1,rfl,x3,by decide,fun D H4 hD s4 l4=>⟨_,rfl,Be (by simp),fun E1 hE1=>⟨D,E1,_,rfl,rfl,.inl (.inl (Av hE1 _ _ l4)),.inl (.inl Ag),_,rfl,Cj ⟨_,rfl,finN 1 D H4 (Np hno) (by decide) (s03.trans s4) (s03.free hD) l4 E1 hE1⟩⟩⟩⟩
  | storeB v b =>
   refine (wT hT1 (Kr (wT hT1 (Kr (wT hT1 (M8 rfl ⟨_,rfl,T0,_,rfl,.inr (.inl (.inl hT1)),rfl,_,rfl,Y7 (fun z=>absurd (V.int.inj z) (by show ¬ ((3:Nat):Int)=2; decide)) (wT hT1 (M8 rfl ⟨_,rfl,y,dy,fs,rfl,h1,lm _ (by decide +kernel),_,rfl,T0,_,_,_,rfl,rfl,.inl (.inl hT1),Aj (j:=1) rfl,_,rfl,T0,_,_,_,rfl,rfl,.inl (.inl hT1),Aj (j:=2) rfl,Ho,y,x,bs,ks,sts,s.dr,s.sh,sd,s.m,c,v,b,rfl,O1,hc,Ux.odd hd.1 _,Wi.odd hd.2 _,(fun p H2 ev hp eb c2 K2=>?_),(fun p t H2 ev hp eb ht c2 K2=>?_),(fun H2 s2 hno=>⟨cP,rfl,T.x4.rP.mro,fun ex hex=>?_⟩),(fun H2 s2 h8 h9 hno=>⟨cB,rfl,T.x4.rB.mro,fun ex hex=>?_⟩)⟩))⟩))))))
   ·subst ev
    subst eb
    exact ⟨_,rfl,Be (by simp),fun E1 hE1=>⟨pF,E1,_,rfl,rfl,.inl (.inl (Av hE1 _ _ (fd c2 _ _ l1 pFy pFd))),.inl (.inl Ag),_,rfl,Bo ⟨_,rfl,finT ⟨_,_,_⟩ _ H2 (N_ hp) (fd c2) K2 E1 hE1⟩⟩⟩
   ·subst ev
    subst eb
    exact ⟨_,rfl,Be (by simp),fun E1 hE1=>⟨pF,E1,_,rfl,rfl,.inl (.inl (Av hE1 _ _ (fd c2 _ _ l1 pFy pFd))),.inl (.inl Ag),_,rfl,Bo ⟨_,rfl,finT ⟨_,_,_⟩ _ H2 (Oj hp ht) (fd c2) K2 E1 hE1⟩⟩⟩
   ·have s3:=Av (o:=CQ ex cP none) hex
    have x3:upd H2 ex (CQ ex cP none) ex=some (CQ ex cP none):=Ag
    generalize upd H2 ex (CQ ex cP none)=H3 at s3 x3 ⊢
    have s03:=s1.trans (s2.trans s3)
    exact ⟨_,rfl,ex,1,rfl,x3,by decide,fun D H4 hD s4 l4=>⟨_,rfl,Be (by simp),fun E1 hE1=>⟨D,E1,_,rfl,rfl,.inl (.inl (Av hE1 _ _ l4)),.inl (.inl Ag),_,rfl,Cj ⟨_,rfl,finN 1 D H4 (Mz hno) (by decide) (s03.trans s4) (s03.free hD) l4 E1 hE1⟩⟩⟩⟩
   ·have s3:=Av (o:=CQ ex cB none) hex
    have x3:upd H2 ex (CQ ex cB none) ex=some (CQ ex cB none):=Ag
    generalize upd H2 ex (CQ ex cB none)=H3 at s3 x3 ⊢
    have s03:=s1.trans (s2.trans s3)
    exact ⟨_,rfl,ex,2,rfl,x3,by decide,fun D H4 hD s4 l4=>⟨_,rfl,Be (by simp),fun E1 hE1=>⟨D,E1,_,rfl,rfl,.inl (.inl (Av hE1 _ _ l4)),.inl (.inl Ag),_,rfl,Cj ⟨_,rfl,finN 2 D H4 (M6 h8 h9 hno) (by decide) (s03.trans s4) (s03.free hD) l4 E1 hE1⟩⟩⟩⟩
  | press v =>
   refine (wT hT1 (Kr (wT hT1 (Kr (wT hT1 (Kr (Bo ((wT hT1 (Kr (wT hT1 (M8 rfl ⟨_,rfl,y,dy,fs,rfl,h1,lm _ (by decide +kernel),_,rfl,T0,_,_,_,rfl,rfl,.inl (.inl hT1),Aj (j:=1) rfl,Ho,y,x,bs,ks,sts,s.dr,s.sh,sd,s.m,c,v,rfl,O1,Ux.odd hd _,(fun p ps H2 ev hp hm c2 K2=>?_),fun H2 s2 hno=>⟨cP,rfl,T.x4.rP.mro,fun ex hex=>?_⟩⟩))))))))))))
   ·subst ev
    exact ⟨_,rfl,Be (by simp),fun E1 hE1=>⟨pF,E1,_,rfl,rfl,.inl (.inl (Av hE1 _ _ (fy c2 _ _ l1 pFy pFd))),.inl (.inl Ag),_,rfl,Bo ⟨_,rfl,finT ⟨_,_,_⟩ _ H2 (QX hp hm) (fy c2) (K2.le (by omega)) E1 hE1⟩⟩⟩
   ·have s3:=Av (o:=CQ ex cP none) hex
    have x3:upd H2 ex (CQ ex cP none) ex=some (CQ ex cP none):=Ag
    generalize upd H2 ex (CQ ex cP none)=H3 at s3 x3 ⊢
    have s03:=s1.trans (s2.trans s3)
    exact ⟨_,rfl,ex,1,rfl,x3,by decide,fun D H4 hD s4 l4=>⟨_,rfl,Be (by simp),fun E1 hE1=>⟨D,E1,_,rfl,rfl,.inl (.inl (Av hE1 _ _ l4)),.inl (.inl Ag),_,rfl,Cj ⟨_,rfl,finN 1 D H4 (Oi hno) (by decide) (s03.trans s4) (s03.free hD) l4 E1 hE1⟩⟩⟩⟩
  | shoe v =>
   refine (wT hT1 (Kr (wT hT1 (Kr (wT hT1 (Kr (Bo ((wT hT1 (Kr (wT hT1 (Kr (wT hT1 (M8 rfl ⟨_,rfl,y,dy,fs,rfl,h1,lm _ (by decide +kernel),_,rfl,T0,_,_,_,rfl,rfl,.inl (.inl hT1),Aj (j:=1) rfl,Ho,y,x,ks,sts,s.dr,s.sh,sd,v,rfl,O1.ok,Ux.odd hd _,(fun i H2 ev hi c2 O2=>?_),fun H2 s2 hno=>⟨cS,rfl,T.x4.rS.mro,fun ex hex=>?_⟩⟩))))))))))))))
   ·subst ev
    exact ⟨_,rfl,Be (by simp),fun E1 hE1=>⟨pF,E1,_,rfl,rfl,.inl (.inl (Av hE1 _ _ (fy c2 _ _ l1 pFy pFd))),.inl (.inl Ag),_,rfl,Bo ⟨_,rfl,finT ⟨_,_,_⟩ _ H2 (Sy hi) (fy c2) ((O1.put c2 O2.gB).le (by omega)) E1 hE1⟩⟩⟩
   ·have s3:=Av (o:=CQ ex cS none) hex
    have x3:upd H2 ex (CQ ex cS none) ex=some (CQ ex cS none):=Ag
    generalize upd H2 ex (CQ ex cS none)=H3 at s3 x3 ⊢
    have s03:=s1.trans (s2.trans s3)
    exact ⟨_,rfl,ex,3,rfl,x3,by decide,fun D H4 hD s4 l4=>⟨_,rfl,Be (by simp),fun E1 hE1=>⟨D,E1,_,rfl,rfl,.inl (.inl (Av hE1 _ _ l4)),.inl (.inl Ag),_,rfl,Cj ⟨_,rfl,finN 3 D H4 (Q5 hno) (by decide) (s03.trans s4) (s03.free hD) l4 E1 hE1⟩⟩⟩⟩
  | cancel =>
   refine (wT hT1 (Kr (wT hT1 (Kr (wT hT1 (Kr (Bo ((wT hT1 (Kr (wT hT1 (Kr (wT hT1 (Kr ⟨_,rfl,y,dy,fs,rfl,h1,lm _ (by decide +kernel),Ho,y,x,bs,ks,sts,s.dr,s.sh,sd,s.m,c,rfl,O1,fun H2 c2 K2=>?_⟩))))))))))))))
   exact ⟨_,rfl,Be (by simp),fun E1 hE1=>⟨pF,E1,_,rfl,rfl,.inl (.inl (Av hE1 _ _ (fy c2 _ _ l1 pFy pFd))),.inl (.inl Ag),_,rfl,Bo ⟨_,rfl,finT ⟨_,_,_⟩ _ H2 (rfl) (fy c2) (K2.le (by omega)) E1 hE1⟩⟩⟩
open Bw
structure RB (K:PySem.W.Frag) (aB aP aM:Addr) (H:Hp) (p:Addr) (us:List V) (S:Qz) (kd a i:Nat):Prop where
 l:H p=some (.lst us)
 r:Paired (fun (r:R) v=>TupAt H r.v v) S.rows us
 o:DN K aB aP aM kd a i (4+3 * i) S
 k3:kd<3
 a5:a<5
 i1:1<=i
 i12:i<=12
theorem RB.to {K:PySem.W.Frag} {aB aP aM:Addr} {H H':Hp} {p:Addr} {us:List V} {S:Qz} {kd a i:Nat} (h:RB K aB aP aM H p us S kd a i) (hl:∀ a xs,H a=some (.lst xs)->H' a=some (.lst xs)) (ht:∀ a xs,H a=some (.tup xs)->H' a=some (.tup xs)):RB K aB aP aM H' p us S kd a i :=
 ⟨hl _ _ h.l,Paired.Hz h.r fun _ _ z=>(by
  obtain ⟨T,e,h⟩:=z
  exact ⟨T,e,ht _ _ h⟩),h.o,h.k3,h.a5,h.i1,h.i12⟩
theorem RB.mono {K:PySem.W.Frag} {aB aP aM:Addr} {H H':Hp} {p:Addr} {us:List V} {S:Qz} {kd a i:Nat} (h:RB K aB aP aM H p us S kd a i) (s:Ak H H'):RB K aB aP aM H' p us S kd a i:=h.to (fun _ _ e=>s _ _ e) (fun _ _ e=>s _ _ e)
noncomputable def Zc (sts:List Nat) (s:Cs):List V:=[.int (s.dr:Nat),.int ((s.dr ||| Wv (sts.take s.sh):Nat):Int),.int (s.sh:Nat)]
noncomputable def az (C Cy:Addr):Sp:=fun vs H Q _=>∃ (Ho:Hp) (y x:Addr) (ks:List R) (sts:List Nat) (s:Cs) (sd:Addr),vs=[.ref y]/\Et C Cy Ho H y x ks sts s.dr s.sh sd/\s.sh<=sts.length/\sts.length<=100/\∀ S H',H S=none->Ak H H'->H' S=some (.tup (Zc sts s))->Q (.ref S) H'
theorem gM:Aq ["_law_console"] ["_law_console"] (Af jO):=Bp
include N T in
theorem eN:Ar P w K mg base Bh 3 fSx dSx ["_law_console"] (az C Cy):=by
 have GXw:Ar P w K mg base Bh 1 fXw dXw ["self"] (cX Cy):=Yw N T
 have GXs:Ar P w K mg base Bh 1 fXs dXs ["self"] (dD Cy):=Yy N T
 have GXk:Ar P w K mg base Bh 2 fXk dXk ["self"] (dU C Cy):=Z4 N T
 refine N.FSx.1.ok gM (fun vs H Q E h=>?_) (fun cdv A outer s H vs Q E hr h=>?_)
 ·obtain ⟨Ho,y,x,ks,sts,s,sd,rfl,_⟩:=h
  rfl
 ·obtain ⟨Ho,y,x,ks,sts,s,sd,rfl,O,hs,l100,q⟩:=h
  have hrXw:BW 1 _:=hr.mono (by decide)
  have hrXs:BW 1 _:=hr.mono (by decide)
  have hrXk:BW 2 _:=hr.mono (by decide)
  have hu:=CV hr
  refine ⟨_,(@Ai _ _ _ (@Aw _ _ _ _ (@Bq _ _ _ _ _ (@An _ _ _ _ _ rfl (Ep (pv 0) T.clR N.FXw.2.2 GXw hrXw N.FXw.2.1 .nil Az) (@An _ _ _ _ _ rfl (Ep (pv 0) T.clR N.FXk.2.2 GXk hrXk N.FXk.2.1 .nil Az) (@An _ _ _ _ _ rfl (Ep (pv 0) T.clR N.FXs.2.2 GXs hrXs N.FXs.2.1 .nil Az) Aa)))))),?_⟩
  have A:=O.gB
  obtain ⟨dy,fs,h1,_,_,_,_,_,lm⟩:=id A.ex
  refine ⟨_,rfl,y,dy,fs,rfl,h1,lm _ (by decide +kernel),y,x,s.dr,s.sh,sd,rfl,A,_,rfl,y,dy,fs,rfl,h1,lm _ (by decide +kernel),Ho,y,x,ks,sts,s.dr,s.sh,sd,rfl,O,hs,l100,fun H1 s1=>?_⟩
  refine ⟨_,rfl,y,dy,fs,rfl,s1 _ _ h1,lm _ (by decide +kernel),y,x,s.dr,s.sh,sd,rfl,A.mono s1,by show 3<=sizeLine; decide,fun S hS=>?_⟩
  exact q S _ (s1.free hS) (s1.trans (Av hS)) Ag
noncomputable def mY:Rs->Prop
 | .told u=>u=.non \/ ∃ b,u=.bl b
 | .no _=>True
theorem Rr {ns:List Str} {ks:List R} {n:Nat} {s:Cs} (d:JM):mY (act ns ks n s d).2:=by
 cases d with
 | pull v =>
  unfold act
  dsimp only
  cases Fv ks v with
  | none=>trivial
  | some k=>exact .inr ⟨_,rfl⟩
 | push v =>
  unfold act
  dsimp only
  cases Fv ks v with
  | none=>trivial
  | some k=>exact .inr ⟨_,rfl⟩
 | store v =>
  unfold act
  dsimp only
  cases FJ v with
  | none=>trivial
  | some k=>exact .inl rfl
 | storeB v b =>
  unfold act
  dsimp only
  cases FJ v with
  | none=>trivial
  | some k =>
   dsimp only
   cases Y4 ns ks s.dr b with
   | none=>trivial
   | some q=>exact .inl rfl
 | press v =>
  unfold act
  dsimp only
  cases (FJ v).bind s.m with
  | none=>trivial
  | some k=>exact .inl rfl
 | shoe v =>
  unfold act
  dsimp only
  cases Jl n v with
  | none=>trivial
  | some k=>exact .inl rfl
 | cancel=>exact .inl rfl
noncomputable def Vn (H:Hp):Rs->V->Prop
 | .told u,v=>v=u
 | .no i,v=>∃ D,v=.ref D/\H D=some (.lst [.str (nmE i)])
noncomputable def Rec (ns:List Str) (ks:List R) (sts:List Nat) (H:Hp):Cs->List V->Cs->Prop
 | s,[],s'=>s=s'
 | s,e::es,s'=>∃ (E T S:Addr) (v:V) (d:JM),e=.ref E/\H E=some (.tup [.ref T,v,.ref S])/\H T=some (.tup d.v)/\d.ok/\Vn H (act ns ks sts.length s d).2 v/\H S=some (.tup (Zc sts (act ns ks sts.length s d).1))/\Rec ns ks sts H (act ns ks sts.length s d).1 es s'
theorem Vn.to {H H':Hp} {r:Rs} {v:V} (h:Vn H r v) (hl:∀ a i,H a=some (.lst [.str (nmE i)])->H' a=some (.lst [.str (nmE i)])):Vn H' r v:=by
 cases r with
 | told u=>exact h
 | no i =>
  obtain ⟨D,e,h2⟩:=h
  exact ⟨D,e,hl _ _ h2⟩
section
variable {ns:List Str} {ks:List R} {sts:List Nat} {H H':Hp}
theorem Rec.to (hl:∀ a i,H a=some (.lst [.str (nmE i)])->H' a=some (.lst [.str (nmE i)])) (ht:∀ a xs,H a=some (.tup xs)->H' a=some (.tup xs)):∀ {es:List V} {s s':Cs},Rec ns ks sts H s es s'->Rec ns ks sts H' s es s'
 | [],_,_,h=>h
 | _::es,_,_,⟨E,T,S,v,d,h1,h2,h3,h4,h5,h6,h7⟩=>⟨E,T,S,v,d,h1,ht _ _ h2,ht _ _ h3,h4,h5.to hl,ht _ _ h6,Rec.to hl ht h7⟩
theorem Rec.snoc {E T S:Addr} {v:V} {d:JM} (h2:H E=some (.tup [.ref T,v,.ref S])) (h3:H T=some (.tup d.v)) (h4:d.ok):∀ {es:List V} {s s':Cs},Rec ns ks sts H s es s'->Vn H (act ns ks sts.length s' d).2 v->H S=some (.tup (Zc sts (act ns ks sts.length s' d).1))->Rec ns ks sts H s (es++[.ref E]) (act ns ks sts.length s' d).1
 | [],s,s',h,h5,h6=>by
  obtain rfl:s=s':=h
  exact ⟨E,T,S,v,d,rfl,h2,h3,h4,h5,h6,rfl⟩
 | _::es,_,_,⟨E',T',S',v',d',g1,g2,g3,g4,g5,g6,g7⟩,h5,h6=>⟨E',T',S',v',d',g1,g2,g3,g4,g5,g6,Rec.snoc h2 h3 h4 g7 h5 h6⟩
theorem Rec.last:∀ {es:List V} {s s':Cs},Rec ns ks sts H s es s'->es ≠ []->∃ (E T S:Addr) (v:V),es[es.length - 1]? = some (.ref E)/\H E=some (.tup [.ref T,v,.ref S])/\H S=some (.tup (Zc sts s'))
 | [],_,_,_,z=>(z rfl).elim
 | [e],s,s',⟨E,T,S,v,d,g1,g2,g3,g4,g5,g6,g7⟩,_=>by
  have e':(act ns ks sts.length s d).1=s':=g7
  rw [e'] at g6
  exact ⟨E,T,S,v,by rw [g1]; rfl,g2,g6⟩
 | _::e2::es,_,_,⟨E,T,S,v,d,g1,g2,g3,g4,g5,g6,g7⟩,_=>by
  obtain ⟨E',T',S',v',k1,k2,k3⟩:=Rec.last g7 (fun z=>nomatch z)
  exact ⟨E',T',S',v',k1,k2,k3⟩
end
theorem Ob {n:Nat} {H:Hp}:∀ {xs:List V},xs.all Do=true->Paired (Dp n H) xs xs
 | [],_=>.nil
 | x::xs,h=>by
  rw [List.all_cons,Bool.and_eq_true] at h
  exact .cons (Py h.1) (Ob h.2)
theorem Su {X:Cx} (hu:X.A.units+1<cLine):HJ X (compareOp .NotEq) (fun x y H Q=>(∃ r,mY r/\Vn H r x/\Vn H r y)/\Q (.bl false) H):=by
 intro pins s σ H x y v u Q I rx ry h
 obtain ⟨⟨r,hk,hx,hy⟩,q⟩:=h
 cases r with
 | told z =>
  obtain rfl:x=z:=hx
  obtain rfl:y=x:=hy
  refine Nb pins s σ H _ _ v u Q I rx ry ⟨?_,?_⟩
  ·rcases hk with rfl | ⟨b,rfl⟩ <;> rfl
  ·rw [decide_eq_true rfl]
   exact q
 | no i =>
  obtain ⟨D,rfl,l1⟩:=hx
  obtain ⟨D2,rfl,l2⟩:=hy
  exact Jt 0 hu pins s σ H _ _ v u Q I rx ry ⟨D,D2,rfl,rfl,.inr ⟨D,D2,_,_,rfl,rfl,.inl ⟨l1,l2⟩,.cons (Py rfl) .nil⟩,q⟩
open Bw
noncomputable def M_ (K:PySem.W.Frag):Sp:=fun vs H Q _=>∃ (a:Addr) (ns:List Int),vs=[.ref a]/\Cw K H a (ns.map V.int)/\ns.length<=63/\∀ H',Q (.bl true) H'
theorem Qs (ns:List Int) {lo hi:Int} (h0:0<=lo) (h1:lo<=hi):∃ ms:List Int,Dm (ns.map V.int) (some lo) (some hi)=ms.map V.int/\(ms.length:Int)<=hi - lo:=by
 obtain ⟨a,rfl⟩:=Int.eq_ofNat_of_zero_le h0
 obtain ⟨b,rfl⟩:=Int.eq_ofNat_of_zero_le (show 0<=hi by omega)
 unfold Dm
 refine ⟨(ns.drop (HT.DY (ns.map V.int).length 0 (some (a:Int)))).take (HT.DY (ns.map V.int).length (ns.map V.int).length (some (b:Int)) - HT.DY (ns.map V.int).length 0 (some (a:Int))),?_,?_⟩
 ·rw [← List.map_drop,← List.map_take]
 ·rw [List.length_take,List.length_drop,HT.Dv,HT.Dv]
  omega
theorem Kw {ns:List Str} {ks:List R} {n:Nat} {s:Cs} (h:s.sh<=n) (d:JM):(act ns ks n s d).1.sh<=n:=by
 cases d with
 | pull v =>
  unfold act
  dsimp only
  cases Fv ks v <;> exact h
 | push v =>
  unfold act
  dsimp only
  cases Fv ks v <;> exact h
 | store v =>
  unfold act
  dsimp only
  cases FJ v <;> exact h
 | storeB v b =>
  unfold act
  dsimp only
  cases FJ v with
  | none=>exact h
  | some p =>
   dsimp only
   cases Y4 ns ks s.dr b <;> exact h
 | press v =>
  unfold act
  dsimp only
  cases (FJ v).bind s.m <;> exact h
 | shoe v =>
  unfold act
  dsimp only
  cases e:Jl n v with
  | none=>exact h
  | some i =>
   cases v with
   | int j =>
    have e':(if 0<=j/\j<=(n:Nat) then some j.toNat else none)=some i:=e
    by_cases c:0<=j/\j<=(n:Nat)
    ·rw [if_pos c] at e'
     have:=Option.some.inj e'
     show i<=n
     omega
    ·rw [if_neg c] at e'
     cases e'
   | _=>cases e
 | cancel=>exact Nat.zero_le _
section
variable {C Cy pE pA:Addr} {Ho H H':Hp} {y x a b:Addr} {bs:List (Str × Nat)} {ks:List R} {sts:List Nat} {dr sh:Nat} {sd:Addr} {m:Nat->Option Ps} {c:Nat}
theorem CJ.lq (h:CJ C Cy pE pA Ho H y x bs ks sts dr sh sd m c) (f:Fb H H' a b) (h1:Ho a=none) (h2:Ho b=none) (na:y ≠ a) (nb:y ≠ b) (ma:sd ≠ a) (mb:sd ≠ b) (pa:∀ o ps,Ei pE pA H o ps->o ≠ a/\o ≠ b):CJ C Cy pE pA Ho H' y x bs ks sts dr sh sd m c:=by
 obtain ⟨us,rk,ls,g⟩:=h.o
 obtain ⟨dy,fs,a1,a2⟩:=g.c.ex
 obtain ⟨kvs,d1,d2,d3,d4⟩:=h.st.ex
 refine ⟨⟨us,rk,ls,g.o,fun b o e=>f b o (g.s b o e) (Ah e h1) (Ah e h2),g.n,dy,fs,f _ _ a1 na nb,a2⟩,h.f,h.hs,h.ny,kvs,f _ _ d1 ma mb,d2,d3,fun p ps hp hm=>?_⟩
 obtain ⟨o,f1,f2⟩:=d4 p ps hp hm
 exact ⟨o,f1,f2.keep fun _ _ _ e=>f _ _ e (pa o ps f2).1 (pa o ps f2).2⟩
theorem CJ.kinds (h:CJ C Cy pE pA Ho H y x bs ks sts dr sh sd m c):(∃ d fs,H y=some (.ins Cy d fs))/\∃ k,H sd=some (.dK k):=by
 obtain ⟨dy,fs,e,_⟩:=h.at.ex
 obtain ⟨kvs,d1,_⟩:=h.st.ex
 exact ⟨⟨_,_,e⟩,_,d1⟩
theorem CJ.keeps (h:CJ C Cy pE pA Ho H y x bs ks sts dr sh sd m c) (f:Fb H H' y sd):(∀ a xs,H a=some (.lst xs)->H' a=some (.lst xs))/\∀ a xs,H a=some (.tup xs)->H' a=some (.tup xs):=by
 obtain ⟨⟨d,fs,e1⟩,k,e2⟩:=h.kinds
 exact ⟨fun a xs e=>f _ _ e (fun z=>by rw [z,e1] at e; cases e) (fun z=>by rw [z,e2] at e; cases e),fun a xs e=>f _ _ e (fun z=>by rw [z,e1] at e; cases e) (fun z=>by rw [z,e2] at e; cases e)⟩
theorem Ei.ins {o:Addr} {ps:Ps} (h:Ei pE pA H o ps):∃ c d fs,H o=some (.ins c d fs):=by
 cases ps with
 | every k =>
  obtain ⟨dx,e⟩:=h
  exact ⟨_,_,_,e⟩
 | part k w =>
  obtain ⟨dx,e⟩:=h
  exact ⟨_,_,_,e⟩
theorem CJ.lW (h:CJ C Cy pE pA Ho H y x bs ks sts dr sh sd m c) {Ho2:Hp} {x2:Addr} {dr2 sh2 c2:Nat} {m2:Nat->Option Ps} (g:CJ C Cy pE pA Ho2 H a x2 bs ks sts dr2 sh2 b m2 c2) (f:Fb H H' a b) (h1:Ho a=none) (h2:Ho b=none) (na:y ≠ a) (mb:sd ≠ b):CJ C Cy pE pA Ho H' y x bs ks sts dr sh sd m c:=by
 obtain ⟨⟨d,fs,e1⟩,k,e2⟩:=h.kinds
 obtain ⟨⟨d',fs',e3⟩,k',e4⟩:=g.kinds
 exact h.lq f h1 h2 na (fun z=>by rw [z,e4] at e1; cases e1) (fun z=>by rw [z,e3] at e2; cases e2) mb fun o ps hp=>g.not hp
theorem CJ.mG (h:CJ C Cy pE pA Ho H y x bs ks sts dr sh sd m c) {xs:List V} (e:H a=some (.lst xs)) (h1:Ho a=none) {ob:HO}:CJ C Cy pE pA Ho (upd H a ob) y x bs ks sts dr sh sd m c:=by
 obtain ⟨⟨d,fs,e1⟩,k,e2⟩:=h.kinds
 have n1:y ≠ a:=fun z=>by rw [z,e] at e1; cases e1
 have n2:sd ≠ a:=fun z=>by rw [z,e] at e2; cases e2
 exact h.lq (a:=a) (b:=a) (fun b o eb n _=>by rw [Al n]; exact eb) h1 h1 n1 n1 n2 n2 fun o ps hp=>by
  obtain ⟨c',d',fs',e'⟩:=Ei.ins hp
  have:o ≠ a:=fun z=>by rw [z,e] at e'; cases e'
  exact ⟨this,this⟩
end
noncomputable def s0:Cs:=⟨0,0,fun _=>none⟩
structure Iu (C Cy pE pA:Addr) (Ho H:Hp) (x:Addr) (S:Qz) (Y SD TL:Nat->Addr) (s:Nat->Cs) (es:Nat->List V) (c:Nat):Prop where
 k:∀ b,b<2->CJ C Cy pE pA Ho H (Y b) x S.bs S.ks S.sts (s b).dr (s b).sh (SD b) (s b).m c
 l:∀ b,b<2->H (TL b)=some (.lst (es b))
 r:∀ b,b<2->Rec (S.bs.map (·.1)) S.ks S.sts H s0 (es b) (s b)
 n:∀ b,b<2->(es b).length<=c
 h:∀ b,b<2->(s b).sh<=S.sts.length
structure Apart (Ho:Hp) (Y SD TL:Nat->Addr):Prop where
 y:∀ b c,b<2->c<2->b ≠ c->Y b ≠ Y c
 d:∀ b c,b<2->c<2->b ≠ c->SD b ≠ SD c
 t:∀ b c,b<2->c<2->b ≠ c->TL b ≠ TL c
 hy:∀ b,b<2->Ho (Y b)=none
 hd:∀ b,b<2->Ho (SD b)=none
 ht:∀ b,b<2->Ho (TL b)=none
section
variable {C Cy pE pA:Addr} {Ho H H':Hp} {x:Addr} {S:Qz} {Y SD TL:Nat->Addr} {s:Nat->Cs} {es:Nat->List V} {c:Nat}
theorem Iu.mono (h:Iu C Cy pE pA Ho H x S Y SD TL s es c) (f:Ak H H'):Iu C Cy pE pA Ho H' x S Y SD TL s es c :=
 ⟨fun b hb=>(h.k b hb).mono f,fun b hb=>f _ _ (h.l b hb),fun b hb=>(h.r b hb).to (fun _ _ e=>f _ _ e) (fun _ _ e=>f _ _ e),h.n,h.h⟩
theorem Iu.third (h:Iu C Cy pE pA Ho H x S Y SD TL s es c) {Ho2:Hp} {y2 x2 sd2:Addr} {dr2 sh2 c2:Nat} {m2:Nat->Option Ps} (g:CJ C Cy pE pA Ho2 H y2 x2 S.bs S.ks S.sts dr2 sh2 sd2 m2 c2) (f:Fb H H' y2 sd2) (h1:Ho y2=none) (h2:Ho sd2=none) (n1:∀ b,b<2->Y b ≠ y2) (n2:∀ b,b<2->SD b ≠ sd2):Iu C Cy pE pA Ho H' x S Y SD TL s es c :=
 ⟨fun b hb=>(h.k b hb).lW g f h1 h2 (n1 b hb) (n2 b hb),fun b hb=>(g.keeps f).1 _ _ (h.l b hb),fun b hb=>(h.r b hb).to (fun _ _ e=>(g.keeps f).1 _ _ e) (g.keeps f).2,h.n,h.h⟩
theorem Iu.step (h:Iu C Cy pE pA Ho H x S Y SD TL s es c) (ap:Apart Ho Y SD TL) {a:Nat} (ha:a<2) (f:Fb H H' (Y a) (SD a)) {d:JM} (K':CJ C Cy pE pA Ho H' (Y a) x S.bs S.ks S.sts (act (S.bs.map (·.1)) S.ks S.sts.length (s a) d).1.dr (act (S.bs.map (·.1)) S.ks S.sts.length (s a) d).1.sh (SD a) (act (S.bs.map (·.1)) S.ks S.sts.length (s a) d).1.m (c+1))
  {H2:Hp} (s2:Ak H' H2) {E T P:Addr} {v:V} (hE:H2 E=some (.tup [.ref T,v,.ref P])) (hT:H2 T=some (.tup d.v)) (hd:d.ok) (hv:Vn H2 (act (S.bs.map (·.1)) S.ks S.sts.length (s a) d).2 v) (hP:H2 P=some (.tup (Zc S.sts (act (S.bs.map (·.1)) S.ks S.sts.length (s a) d).1))) :
  Iu C Cy pE pA Ho (upd H2 (TL a) (.lst (es a++[.ref E]))) x S Y SD TL (fun b=>if b=a then (act (S.bs.map (·.1)) S.ks S.sts.length (s a) d).1 else s b) (fun b=>if b=a then es a++[.ref E] else es b) (c+1):=by
 have kp:=(h.k a ha).keeps f
 have la:H2 (TL a)=some (.lst (es a)):=s2 _ _ (kp.1 _ _ (h.l a ha))
 have ht:∀ b xs,H2 b=some (.tup xs)->upd H2 (TL a) (.lst (es a++[.ref E])) b=some (.tup xs):=fun b xs e=>by
  rw [Al (fun z=>by rw [z,la] at e; cases e)]
  exact e
 have hl:∀ (b:Addr) (i:Nat),H2 b=some (.lst [.str (nmE i)])->b ≠ TL a->upd H2 (TL a) (.lst (es a++[.ref E])) b=some (.lst [.str (nmE i)]):=fun b i e n=>by
  rw [Al n]
  exact e
 have nl:∀ (b:Addr) (i:Nat),H2 b=some (.lst [.str (nmE i)])->b ≠ TL a:=fun b i e z=>by
  rw [z,la] at e
  have e2:=HO.lst.inj (Option.some.inj e)
  have hr:=h.r a ha
  rw [e2] at hr
  obtain ⟨E',_,_,_,_,h1,_⟩:=hr
  cases h1
 have hl':∀ (b:Addr) (i:Nat),H2 b=some (.lst [.str (nmE i)])->upd H2 (TL a) (.lst (es a++[.ref E])) b=some (.lst [.str (nmE i)]):=fun b i e=>hl b i e (nl b i e)
 have r2:∀ b,b<2->Rec (S.bs.map (·.1)) S.ks S.sts H2 s0 (es b) (s b):=fun b hb=>(h.r b hb).to (fun _ _ e=>s2 _ _ (kp.1 _ _ e)) (fun _ _ e=>s2 _ _ (kp.2 _ _ e))
 refine ⟨fun b hb=>?_,fun b hb=>?_,fun b hb=>?_,fun b hb=>?_,fun b hb=>?_⟩
 ·by_cases e:b=a
  ·rw [if_pos e,e]
   exact (K'.mono s2).mG la (ap.ht a ha)
  ·rw [if_neg e]
   exact ((((h.k b hb).lW (h.k a ha) f (ap.hy a ha) (ap.hd a ha) (ap.y b a hb ha e) (ap.d b a hb ha e)).mono s2).mG la (ap.ht a ha)).le (by omega)
 ·by_cases e:b=a
  ·rw [if_pos e,e]
   exact Ag
  ·rw [if_neg e,Al (ap.t b a hb ha e)]
   exact s2 _ _ (kp.1 _ _ (h.l b hb))
 ·by_cases e:b=a
  ·rw [if_pos e,if_pos e]
   exact ((r2 a ha).snoc hE hT hd hv hP).to hl' ht
  ·rw [if_neg e,if_neg e]
   exact (r2 b hb).to hl' ht
 ·have:=h.n b hb
  by_cases e:b=a
  ·rw [if_pos e,List.length_append,← e]
   show _+1<=_
   omega
  ·rw [if_neg e]
   omega
 ·by_cases e:b=a
  ·rw [if_pos e]
   exact Kw (h.h a ha) d
  ·rw [if_neg e]
   exact h.h b hb
end
theorem Sg {H H1 H2:Hp} {r:Rs} {v:V} (h:mQ H H1 r v) (hl:∀ a xs,H1 a=some (.lst xs)->H2 a=some (.lst xs)):Vn H2 r v:=by
 cases r with
 | told u=>exact h
 | no i =>
  obtain ⟨hi,D,e,h1,h2⟩:=h
  exact ⟨D,e,hl _ _ h2⟩
theorem XN {α:Type} {xs:List α} {v:α} (h:xs[xs.length - 1]? = some v):QB xs (-1)=some v:=by
 have hl:=(List.getElem?_eq_some_iff.mp h).1
 unfold QB Rg
 rw [if_neg (by decide),if_pos (by omega)]
 show xs[(-1+(xs.length:Int)).toNat]? = some v
 rw [show (-1+(xs.length:Int)).toNat=xs.length - 1 by omega]
 exact h
theorem RB.to2 {K:PySem.W.Frag} {aB aP aM:Addr} {H H':Hp} {p:Addr} {us:List V} {S:Qz} {kd a i:Nat} (h:RB K aB aP aM H p us S kd a i) (hl:H' p=some (.lst us)) (ht:∀ a xs,H a=some (.tup xs)->H' a=some (.tup xs)):RB K aB aP aM H' p us S kd a i :=
 ⟨hl,Paired.Hz h.r fun _ _ z=>(by
  obtain ⟨T,e,h⟩:=z
  exact ⟨T,e,ht _ _ h⟩),h.o,h.k3,h.a5,h.i1,h.i12⟩
theorem two_get {f:Nat->Addr} {b:Nat} (h:b<2):[V.ref (f 0),.ref (f 1)][b]? = some (.ref (f b)):=by
 obtain rfl | rfl:b=0 \/ b=1:=by omega
 ·rfl
 ·rfl
theorem FN:Aq ["_law_script","_law_rows","_law_organ_here","_law_consoles","_law_told","_law_cell","_law_number","_law_at","_law_deed_here","_law_alone","_law_found","_law_stood_here"] ["_law_script"] (Af K8):=Bp
set_option maxHeartbeats 0 in
theorem Xv {f:Addr} {fd:FuncData} (F:DX K "law" "law" K8 f fd) (N:iV K mg C Cy pB pE pA fWh fMd fNm fRo fTo fWi fPa fHp fCl fIk fSb fIs fWm fHr fIr fCk fNu fPl fLi fSs fMy fSt fUn fKn fBn fKb fIp fDn fDw fNa fLg fLx fSp fLm fDe fDo fSx fOi fOu fBk fOj fOy fOz fXi fXd fXp fXq fXw fXk fXs fXh fXt fXr fXc fPi fEp fAi fAp dWh dMd dNm dRo dTo dWi dPa dHp dCl dIk dSb dIs dWm dHr dIr dCk dNu dPl dLi dSs dMy dSt dUn dKn dBn dKb dIp dDn dDw dNa dLg dLx dSp dLm dDe dDo dSx dOi dOu dBk dOj dOy dOz dXi dXd dXp dXq dXw dXk dXs dXh dXt dXr dXc dPi dEp dAi dAp) (T:Txt K w.params mg C Cy cK cP cB cS cO pB pE pA aN aK aB aP aM) (F0:aD K aB aP aM):Ar P w K mg base Bh 11 f fd ["_law_script"] (M_ K):=by
 have GDn:Ar P w K mg base Bh 1 fDn dDn ["_law_script","_law_start"] (Zv K):=dI N T
 have GLg:Ar P w K mg base Bh 3 fLg dLg ["_law_drawn_here"] (dZ K aB aP aM):=Y8 N T
 have GOi:Ar P w K mg base Bh 9 fOi dOi ["self","rows"] (dH K aB aP aM C):=d7 N T
 have GXi:Ar P w K mg base Bh 1 fXi dXi ["self","organ"] (aO Cy):=bG N T
 have GDe:Ar P w K mg base Bh 3 fDe dDe ["_law_rows","_law_number"] (Y5 K aB aP aM):=aA N T
 have GDo:Ar P w K mg base Bh 7 fDo dDo ["_law_console","_law_deed_here"] (cR C Cy pE pA):=bT N T
 have GSx:Ar P w K mg base Bh 3 fSx dSx ["_law_console"] (az C Cy):=eN N T
 refine F.ok FN (fun vs H Q E h=>?_) (fun cdv A outer s H vs Q E hr h=>?_)
 ·obtain ⟨a,ns,rfl,_⟩:=h
  rfl
 ·obtain ⟨a,ns,rfl,hS,hlen,q⟩:=h
  have hrDn:BW 1 _:=hr.mono (by decide)
  have hrLg:BW 3 _:=hr.mono (by decide)
  have hrOi:BW 9 _:=hr.mono (by decide)
  have hrXi:BW 1 _:=hr.mono (by decide)
  have hrDe:BW 3 _:=hr.mono (by decide)
  have hrDo:BW 7 _:=hr.mono (by decide)
  have hrSx:BW 3 _:=hr.mono (by decide)
  have hu:=CV hr
  refine ⟨_,(@Ad _ _ _ _ _ (@Bb _ _ _ _ _ _ 1 FN.nd rfl (Or.inl rfl) (Am GLg hrLg rfl N.FLg.2.2 N.FLg.1.kp N.FLg.2.1 .nil Az (@An _ _ _ _ _ rfl (Am GDn hrDn rfl N.FDn.2.2 N.FDn.1.kp N.FDn.2.1 .nil Az (@An _ _ _ _ _ rfl (pv 0) (@An _ _ _ _ _ rfl Ac Aa))) Aa)) (by kernel_rfl) (.inl rfl))
   (@Ad _ _ _ _ _ (@Bb _ _ _ _ _ _ 2 FN.nd rfl (Or.inl rfl) (Fw N.FOi.2.2 GOi hr rfl T.mC N.FOi.2.1 .nil Az (@An _ _ _ _ _ rfl (pv 1) Aa)) (by kernel_rfl) (.inl rfl))
   (@Ad _ _ _ _ _ (@Bb _ _ _ _ _ _ 3 FN.nd rfl (Or.inl rfl) (@Cv _ _ _ _ (@An _ _ _ _ _ rfl (Fw N.FXi.2.2 GXi (hr.mono (by decide)) rfl T.mCR N.FXi.2.1 .nil Az (@An _ _ _ _ _ rfl (pv 2) Aa)) (@An _ _ _ _ _ rfl (Fw N.FXi.2.2 GXi (hr.mono (by decide)) rfl T.mCR N.FXi.2.1 .nil Az (@An _ _ _ _ _ rfl (pv 2) Aa)) Aa))) (by kernel_rfl) (.inl rfl))
   (@Ad _ _ _ _ _ (@Bb _ _ _ _ _ _ 4 FN.nd rfl (Or.inl rfl) (@Cv _ _ _ _ (@An _ _ _ _ _ rfl (@Cv _ _ _ _ Aa) (@An _ _ _ _ _ rfl (@Cv _ _ _ _ Aa) Aa))) (by kernel_rfl) (.inl rfl))
   (@Ad _ _ _ _ _ (Dz PassesOwn.never rfl (Br (Cp GC (pv 0) (DR Ac) (DR Ac))) (B_ (i:=5) FN.nd rfl (Or.inl rfl)) (@Ad _ _ _ _ _ (@Bb _ _ _ _ _ _ 6 FN.nd rfl (Or.inl rfl) (BR Ej (BR CN (BR F_ (pv 5) Ac) Ac) Ac) (by kernel_rfl) (.inl rfl))
   (@Ad _ _ _ _ _ (@Bb _ _ _ _ _ _ 7 FN.nd rfl (Or.inl rfl) (BR CN (BR Ej (pv 6) Ac) Ac) (by kernel_rfl) (.inl rfl))
   (@Ad _ _ _ _ _ (@Bb _ _ _ _ _ _ 8 FN.nd rfl (Or.inl rfl) (Am GDe hrDe rfl N.FDe.2.2 N.FDe.1.kp N.FDe.2.1 .nil Az (@An _ _ _ _ _ rfl (pv 1) (@An _ _ _ _ _ rfl (BR Ej (pv 6) Ac) Aa))) (by kernel_rfl) (.inl rfl))
   (@Ai _ _ _ (CG (Ec PySem.F.plainAttrs_list PySem.F.slot_list_append PySem.F.type_list_append Bl (@Ay _ _ _ _ _ _ _ (CZ (K:=K) rfl) (pv 4) (pv 7) (fun _ _=>rfl)) (@An _ _ _ _ _ rfl (@Bq _ _ _ _ _ (@An _ _ _ _ _ rfl (pv 8) (@An _ _ _ _ _ rfl (Am GDo hrDo rfl N.FDo.2.2 N.FDo.1.kp N.FDo.2.1 .nil Az (@An _ _ _ _ _ rfl (@Ay _ _ _ _ _ _ _ (CZ (K:=K) rfl) (pv 3) (pv 7) (fun _ _=>rfl)) (@An _ _ _ _ _ rfl (pv 8) Aa))) (@An _ _ _ _ _ rfl (Am GSx hrSx rfl N.FSx.2.2 N.FSx.1.kp N.FSx.2.1 .nil Az (@An _ _ _ _ _ rfl (@Ay _ _ _ _ _ _ _ (CZ (K:=K) rfl) (pv 3) (pv 7) (fun _ _=>rfl)) Aa)) Aa)))) Aa))))))))
   (@Ad _ _ _ _ _ (Dz PassesOwn.never rfl (El rfl T.range (@An _ _ _ _ _ rfl Ac Aa)) (B_ (i:=7) FN.nd rfl (Or.inl rfl)) (@Ad _ _ _ _ _ (@Bb _ _ _ _ _ _ 9 FN.nd rfl (Or.inl rfl) (Fw N.FXi.2.2 GXi (hr.mono (by decide)) rfl T.mCR N.FXi.2.1 .nil Az (@An _ _ _ _ _ rfl (Fw N.FOi.2.2 GOi hr rfl T.mC N.FOi.2.1 .nil Az (@An _ _ _ _ _ rfl (pv 1) Aa)) Aa)) (by kernel_rfl) (.inl rfl))
   (@Ad _ _ _ _ _ (Dz PassesOwn.never rfl (Br (@Ay _ _ _ _ _ _ _ (CZ (K:=K) rfl) (pv 4) (pv 7) (fun _ _=>rfl))) (Jf rfl (De (B_ (i:=8) FN.nd rfl (Or.inl rfl)) (De (B_ (i:=10) FN.nd rfl (Or.inl rfl)) (De (B_ (i:=11) FN.nd rfl (Or.inl rfl)) H_)))) (@Ai _ _ _ (@Bg _ _ _ _ _ _ _ _ (PW.pt (Ib (BK (Su (Nat.lt_of_le_of_lt (Nat.add_le_add_left (by decide:1<=64) _) hr.units)) (Am GDo hrDo rfl N.FDo.2.2 N.FDo.1.kp N.FDo.2.1 .nil Az (@An _ _ _ _ _ rfl (pv 9) (@An _ _ _ _ _ rfl (pv 8) Aa))) (pv 10) (BV _)) (GX (BK (Jt 0 (Nat.lt_of_le_of_lt (Nat.add_le_add_left (by decide:1<=64) _) hr.units)) (Am GSx hrSx rfl N.FSx.2.2 N.FSx.1.kp N.FSx.2.1 .nil Az (@An _ _ _ _ _ rfl (pv 9) Aa)) (pv 11) (BV _))))) (@Ai _ _ _ (@Aw _ _ _ _ JQ)) BZ)))
   (@Ai _ _ _ (@Bg _ _ _ _ _ _ _ _ (PW.pt (JK (BK (J5 (Nat.lt_of_succ_lt hu)) (@Ay _ _ _ _ _ _ _ (CZ (K:=K) rfl) (pv 4) (pv 7) (fun _ _=>rfl)) (@Cv _ _ _ _ Aa) (BV _)) (Gy (BK (Jt 0 (Nat.lt_of_le_of_lt (Nat.add_le_add_left (by decide:1<=64) _) hr.units)) (Am GSx hrSx rfl N.FSx.2.2 N.FSx.1.kp N.FSx.2.1 .nil Az (@An _ _ _ _ _ rfl (@Ay _ _ _ _ _ _ _ (CZ (K:=K) rfl) (pv 3) (pv 7) (fun _ _=>rfl)) Aa)) (@Ay _ _ _ _ _ _ _ (Ax (K:=K) rfl) (@Ay _ _ _ _ _ _ _ (CZ (K:=K) rfl) (@Ay _ _ _ _ _ _ _ (CZ (K:=K) rfl) (pv 4) (pv 7) (fun _ _=>rfl)) (Mx Ol Ac) (fun _ _=>rfl)) Ac (fun _ _=>rfl)) (BV _))))) (@Ai _ _ _ (@Aw _ _ _ _ JQ)) BZ)))))
   (@Ai _ _ _ (@Aw _ _ _ _ JQ)))))))),?_⟩
  refine ⟨_,rfl,a,47,ns,rfl,hS,by decide,by decide,hlen,fun dh pc H1 hdh hpc s1 D1=>?_⟩
  refine ⟨dh,pc,0,rfl,D1,by omega,F0,fun pR S kd at_ i0 n' H2 k3 a5 i1 i12 O2 R2 hn'=>?_⟩
  have sH2:Ak H H2:=fun b o e=>R2.f b o (Ah e hdh) (Ah e hpc) (s1 b o e)
  obtain ⟨vr,r1,r2⟩:=R2.r
  have lk:=O2.lk
  have lr:=O2.lr
  have ndk:=O2.dk k3 a5 i12
  have fO:∀ n∈Hl S.ks,isNm n:=fun n hn=>by
   obtain ⟨r,hr,rfl⟩:=List.mem_map.mp hn
   obtain ⟨j,hj,e⟩:=O2.kn hr
   rw [e]
   exact (Iw (JF k3 a5 (by omega))).1
  have RW2:RB K aB aP aM H2 pR vr S kd at_ i0:=⟨r1,r2,O2,k3,a5,i1,i12⟩
  have OF:dj S.bs S.ks:=⟨fun n hn=>by
   obtain ⟨b,hb,rfl⟩:=List.mem_map.mp hn
   exact (O2.sb b hb).1,O2.db,fO,ndk,by omega,O2.kb⟩
  have l100:S.sts.length<=100:=by have:=O2.st; omega
  refine ⟨_,rfl,?_⟩
  intro x dx nx ndx nex
  have sx:Ak H2 (upd (upd H2 dx (.own x)) x (.ins C dx [])):=fun b o e=>by
   rw [Al (Ah e nx),Al (Ah e ndx)]
   exact e
  obtain ⟨R8,O8,eL,eS⟩:=DN.org O2 k3 a5 i12 (by omega) RW2.r
  refine ⟨x,dx,pR,vr,GP H2,S.bs,S.rk,S.ks,rfl,Ag,sx _ _ RW2.l,R8.mono sx,O8,fun Ho OA _ SXh=>⟨rfl,?_⟩⟩
  rw [eL,eS] at OA
  have s2o:Ak H2 Ho:=fun b o e=>SXh b o (sx b o e) (Ah e nx)
  clear SXh sx nx ndx nex R8 O8
  refine ⟨_,rfl,?_⟩
  intro y0 dy ny ndy ney
  have sy:Ak Ho (upd (upd Ho dy (.own y0)) y0 (.ins Cy dy [])):=fun b o e=>by
   rw [Al (Ah e ny),Al (Ah e ndy)]
   exact e
  refine ⟨y0,dy,x,rfl,Ag,fun sd0 H3 c3 hsd e3 CA=>⟨rfl,?_⟩⟩
  have so3:Ak Ho H3:=fun b o e=>c3 b o (sy b o e) (Ah e ny)
  have nsd:sd0 ≠ y0:=fun z=>by
   rw [z,Ag] at hsd
   cases hsd
  have fy0:=ny
  have fsd0:=sy.free hsd
  have K3:CJ C Cy pE pA Ho H3 y0 x S.bs S.ks S.sts s0.dr s0.sh sd0 s0.m 0:=⟨⟨vr,S.rk,S.ls,OA,(Ak.refl _).trans so3,(Ak.refl _).free ny,CA⟩,OF,(Ak.refl _).free (sy.free hsd),nsd,[],e3,Nat.le_refl _,fun _ _ _=>Hq,fun _ _ _ z=>nomatch z⟩
  clear c3 sy ndy ney CA hsd e3 nsd ny
  refine ⟨_,rfl,?_⟩
  intro y1 dy ny ndy ney
  have sy:Ak H3 (upd (upd H3 dy (.own y1)) y1 (.ins Cy dy [])):=fun b o e=>by
   rw [Al (Ah e ny),Al (Ah e ndy)]
   exact e
  refine ⟨y1,dy,x,rfl,Ag,fun sd1 H4 c3 hsd e3 CA=>⟨rfl,?_⟩⟩
  have s34:Ak H3 H4:=fun b o e=>c3 b o (sy b o e) (Ah e ny)
  have nsd:sd1 ≠ y1:=fun z=>by
   rw [z,Ag] at hsd
   cases hsd
  have fy1:=ny
  have fsd1:=sy.free hsd
  have K4:CJ C Cy pE pA Ho H4 y1 x S.bs S.ks S.sts s0.dr s0.sh sd1 s0.m 0:=⟨⟨vr,S.rk,S.ls,OA,(so3).trans s34,(so3).free ny,CA⟩,OF,(so3).free (sy.free hsd),nsd,[],e3,Nat.le_refl _,fun _ _ _=>Hq,fun _ _ _ z=>nomatch z⟩
  clear c3 sy ndy ney CA hsd e3 nsd ny
  have K3':=K3.mono s34
  obtain ⟨⟨d3,fs3,h3y⟩,k3',h3d⟩:=K3.kinds
  have ny01:y0 ≠ y1:=Ah h3y fy1
  have nd01:sd0 ≠ sd1:=Ah h3d fsd1
  refine ⟨by show 2<=sizeLine; decide,fun pC hpC=>?_⟩
  obtain ⟨H5,eqH,s5,l5⟩:=DW (o:=HO.lst [V.ref y0,.ref y1]) hpC
  rw [eqH]
  refine ⟨Be (by simp),fun t0 ht0=>?_⟩
  obtain ⟨H6,eqH,s6,l6⟩:=DW (o:=HO.lst []) ht0
  rw [eqH]
  refine ⟨Be (by simp),fun t1 ht1=>?_⟩
  obtain ⟨H7,eqH,s7,l7⟩:=DW (o:=HO.lst []) ht1
  rw [eqH]
  refine ⟨by show 2<=sizeLine; decide,fun pT hpT=>?_⟩
  obtain ⟨H8,eqH,s8,l8⟩:=DW (o:=HO.lst [V.ref t0,.ref t1]) hpT
  rw [eqH]
  have nt01:t0 ≠ t1:=Ah l6 ht1
  have nC0:pC ≠ t0:=Ah l5 ht0
  have nC1:pC ≠ t1:=Ah (s6 _ _ l5) ht1
  have nT0:t0 ≠ pT:=Ah (s7 _ _ l6) hpT
  have nT1:t1 ≠ pT:=Ah l7 hpT
  have s24:Ak H2 H4:=s2o.trans (so3.trans s34)
  have s48:Ak H4 H8:=s5.trans (s6.trans (s7.trans s8))
  have RW8:=RW2.mono (s24.trans s48)
  have nR0:pR ≠ t0:=Ah (s5 _ _ (s24 _ _ r1)) ht0
  have nR1:pR ≠ t1:=Ah (s6 _ _ (s5 _ _ (s24 _ _ r1))) ht1
  have hot0:Ho t0=none:=so3.free (s34.free (s5.free ht0))
  have hot1:Ho t1=none:=so3.free (s34.free (s5.free (s6.free ht1)))
  have hoy1:Ho y1=none:=so3.free fy1
  have hod1:Ho sd1=none:=so3.free fsd1
  have K38:=K3'.mono s48
  have K48:=K4.mono s48
  have lC8:=s8 _ _ (s7 _ _ (s6 _ _ l5))
  have l68:=s8 _ _ (s7 _ _ l6)
  have l78:=s8 _ _ l7
  have sH8:Ak H H8:=sH2.trans (s24.trans s48)
  obtain ⟨Y,e0,e1⟩:∃ Y:Nat->Addr,Y 0=y0/\Y 1=y1:=⟨fun b=>if b=0 then y0 else y1,rfl,rfl⟩
  obtain ⟨SD,e2,e3⟩:∃ Y:Nat->Addr,Y 0=sd0/\Y 1=sd1:=⟨fun b=>if b=0 then sd0 else sd1,rfl,rfl⟩
  obtain ⟨TL,e4,e5⟩:∃ Y:Nat->Addr,Y 0=t0/\Y 1=t1:=⟨fun b=>if b=0 then t0 else t1,rfl,rfl⟩
  have tw:∀ {p:Nat->Prop},p 0->p 1->∀ b,b<2->p b:=fun {p} h0 h1 b hb=>by
   obtain rfl | rfl:b=0 \/ b=1:=by omega
   ·exact h0
   ·exact h1
  have tw2:∀ {f:Nat->Addr},f 0 ≠ f 1->∀ b c,b<2->c<2->b ≠ c->f b ≠ f c:=fun {f} h b c hb hc n=>by
   obtain rfl | rfl:b=0 \/ b=1:=by omega
   ·obtain rfl:c=1:=by omega
    exact h
   ·obtain rfl:c=0:=by omega
    exact Ne.symm h
  have ap:Apart Ho Y SD TL:=⟨tw2 (by rw [e0,e1]; exact ny01),tw2 (by rw [e2,e3]; exact nd01),tw2 (by rw [e4,e5]; exact nt01),tw (by rw [e0]; exact fy0) (by rw [e1]; exact hoy1),tw (by rw [e2]; exact fsd0) (by rw [e3]; exact hod1),tw (by rw [e4]; exact hot0) (by rw [e5]; exact hot1)⟩
  have nC:∀ b,b<2->pC ≠ TL b:=tw (by rw [e4]; exact nC0) (by rw [e5]; exact nC1)
  have nT:∀ b,b<2->pT ≠ TL b:=tw (by rw [e4]; exact Ne.symm nT0) (by rw [e5]; exact Ne.symm nT1)
  have nR:∀ b,b<2->pR ≠ TL b:=tw (by rw [e4]; exact nR0) (by rw [e5]; exact nR1)
  have T8:Iu C Cy pE pA Ho H8 x S Y SD TL (fun _=>s0) (fun _=>[]) 0:=⟨tw (by rw [e0,e2]; exact K38) (by rw [e1,e3]; exact K48),tw (by rw [e4]; exact l68) (by rw [e5]; exact l78),tw rfl rfl,fun _ _=>Nat.le_refl _,fun _ _=>Nat.zero_le _⟩
  rw [← e0,← e1] at lC8
  rw [← e4,← e5] at l8
  have hY8:∀ b,b<2->∃ o,H8 (Y b)=some o:=fun b hb=>by
   obtain ⟨⟨d,fs,e⟩,_⟩:=(T8.k b hb).kinds
   exact ⟨_,e⟩
  have hD8:∀ b,b<2->∃ o,H8 (SD b)=some o:=fun b hb=>by
   obtain ⟨_,k,e⟩:=(T8.k b hb).kinds
   exact ⟨_,e⟩
  clear e0 e1 e2 e3 e4 e5 K38 K48 K3 K4 K3' l68 l78 l5 l6 l7
  refine ⟨_,rfl,_,rfl,_,rfl,a,_,rfl,sH8.seq hS,fun p9 hp9=>?_⟩
  obtain ⟨ms,ems,lms⟩:=Qs ns (lo:=2) (hi:=86) (by omega) (by omega)
  obtain ⟨H9,eqH,s9,l9⟩:=DW (o:=HO.lst (Dm (ns.map V.int) (some 2) (some 86))) hp9
  rw [eqH]
  rw [ems] at l9
  have hS9:Cw K H9 p9 (ms.map V.int):=.inl (.inl l9)
  have n9:∀ b,b<2->p9 ≠ TL b:=fun b hb=>Ne.symm (Ah (T8.l b hb) hp9)
  refine ⟨p9,rfl,⟨_,hS9⟩,Gb (K:=K) (a:=p9) (xs:=ms.map V.int) (fun i σ H'=>∃ (s:Nat->Cs) (es:Nat->List V) (v5 v6 v7 v8:Option V),Iu C Cy pE pA Ho H' x S Y SD TL s es i/\RB K aB aP aM H' pR vr S kd at_ i0/\H' pC=some (.lst [.ref (Y 0),.ref (Y 1)])/\H' pT=some (.lst [.ref (TL 0),.ref (TL 1)])/\H' p9=some (.lst (ms.map V.int))/\σ=[some (.ref a),some (.ref pR),some (.ref x),some (.ref pC),some (.ref pT),v5,v6,v7,v8,none,none,none]) ⟨_,_,_,_,_,_,T8.mono s9,RW8.mono s9,s9 _ _ lC8,s9 _ _ l8,l9,rfl⟩ (fun i σ H' _ h=>by obtain ⟨_,_,_,_,_,_,_,_,_,_,l,_⟩:=h; exact .inl (.inl l)) ?_ ?_⟩
  ·rintro i yv σ H10 hy ⟨s,es,v5,v6,v7,v8,T10,RW10,c10,t10,l10,rfl⟩
   have hi:i<(ms.map V.int).length:=(List.getElem?_eq_some_iff.mp hy).1
   rw [List.length_map] at hi
   obtain ⟨n,_,rfl⟩:=List.mem_map.mp (List.mem_of_getElem? hy)
   refine ⟨_,rfl,_,_,rfl,rfl,.inr ⟨by decide,by decide⟩,_,_,rfl,rfl,(by show (0:Int)<2147483647; decide),_,_,rfl,rfl,⟨by decide,by decide⟩,?_⟩
   obtain ⟨nu,enu,hnu⟩:∃ nu,n * 1226874159 % 2147483647 / 8=nu/\0<=nu:=⟨_,rfl,by
    have:=Int.emod_nonneg (n * 1226874159) (show (2147483647:Int) ≠ 0 by decide)
    omega⟩
   dsimp only
   rw [enu]
   refine ⟨_,rfl,_,_,rfl,rfl,⟨by decide,by decide⟩,_,_,rfl,rfl,(by show (0:Int)<2; decide),?_⟩
   obtain ⟨b,hb,eb⟩:∃ b:Nat,b<2/\nu / 3 % 2=(b:Int):=⟨(nu / 3 % 2).toNat,by omega,by omega⟩
   dsimp only
   rw [eb]
   refine ⟨_,rfl,_,rfl,_,_,rfl,rfl,⟨by decide,by decide⟩,pR,vr,S,kd,at_,i0,_,rfl,(by show 0<=nu / 6; omega),RW10.l,RW10.r,O2,k3,a5,i1,i12,fun Td d H11 hT s11 l11 hd=>?_⟩
   have T11:=T10.mono s11
   have RW11:=RW10.mono s11
   have c11:=s11 _ _ c10
   have t11:=s11 _ _ t10
   refine ⟨_,rfl,_,rfl,pT,_,_,_,rfl,rfl,.inl (.inl t11),Aj (two_get hb),.inl ⟨rfl,_,.inl (.inl (T11.l b hb))⟩,_,rfl,_,rfl,_,rfl,pC,_,_,_,rfl,rfl,.inl (.inl c11),Aj (two_get hb),_,rfl,Ho,Y b,x,S.bs,S.ks,S.sts,s b,SD b,i,Td,d,rfl,T11.k b hb,by omega,l11,hd,fun v H12 f12 K12 r12=>?_⟩
   have kp:=(T11.k b hb).keeps f12
   refine ⟨_,rfl,_,rfl,pC,_,_,_,rfl,rfl,.inl (.inl (kp.1 _ _ c11)),Aj (two_get hb),Ho,Y b,x,S.ks,S.sts,_,SD b,rfl,K12.ok,Kw (T11.h b hb) d,l100,fun P H13 hP s13 lP=>⟨by show 3<=sizeLine; decide,fun E1 hE1=>?_⟩⟩
   obtain ⟨H14,eqH,s14,l14⟩:=DW (o:=HO.tup [V.ref Td,v,.ref P]) hE1
   rw [eqH]
   have s1214:=s13.trans s14
   have T15:=T11.step ap hb f12 K12 s1214 l14 (s1214 _ _ (kp.2 _ _ l11)) hd (Sg r12 (fun _ _ e=>s1214 _ _ e)) (s14 _ _ lP)
   have la14:=s1214 _ _ (kp.1 _ _ (T11.l b hb))
   refine ⟨TL b,es b,_,rfl,rfl,la14,Be (by have:=T11.n b hb; show (es b).length+1<=1000; omega),?_⟩
   have ne:∀ {z:Addr} {xs:List V},H11 z=some (.lst xs)->z ≠ TL b->upd H14 (TL b) (HO.lst (es b++[.ref E1])) z=some (.lst xs):=fun {z xs} e n=>by
    rw [Al n]
    exact s1214 _ _ (kp.1 _ _ e)
   exact ⟨_,_,_,_,_,_,T15,RW11.to2 (ne RW11.l (nR b hb)) (fun z xs e=>by
    have e':=s1214 _ _ (kp.2 _ _ e)
    rw [Al (fun w=>by rw [w,la14] at e'; cases e')]
    exact e'),ne c11 (nC b hb),ne t11 (nT b hb),ne (s11 _ _ l10) (n9 b hb),rfl⟩
  rintro σ H20 ⟨s,es,v5,v6,v7,v8,T20,RW20,c20,t20,l20,rfl⟩
  have lms':ms.length<=84:=by omega
  have el:(ms.map V.int).length=ms.length:=List.length_map _
  rw [el] at T20
  refine ⟨_,rfl,by decide,by decide,Gv (lo:=0) (n:=2) (fun i σ H'=>∃ (v7 v8 v9 v10 v11:Option V),Iu C Cy pE pA Ho H' x S Y SD TL s es ms.length/\RB K aB aP aM H' pR vr S kd at_ i0/\H' pC=some (.lst [.ref (Y 0),.ref (Y 1)])/\H' pT=some (.lst [.ref (TL 0),.ref (TL 1)])/\σ=[some (.ref a),some (.ref pR),some (.ref x),some (.ref pC),some (.ref pT),v5,v6,v7,v8,v9,v10,v11]) ⟨_,_,_,_,_,T20,RW20,c20,t20,rfl⟩ ?_ ?_⟩
  ·rintro b σ H21 hb ⟨v7,v8,v9,v10,v11,T21,RW21,c21,t21,rfl⟩
   rw [Int.zero_add]
   refine ⟨_,rfl,?_⟩
   intro xa dx nx ndx nex
   have sx:Ak H21 (upd (upd H21 dx (.own xa)) xa (.ins C dx [])):=fun b o e=>by
    rw [Al (Ah e nx),Al (Ah e ndx)]
    exact e
   obtain ⟨R8,O8,eL,eS⟩:=DN.org O2 k3 a5 i12 (by omega) RW21.r
   refine ⟨xa,dx,pR,vr,GP H21,S.bs,S.rk,S.ks,rfl,Ag,sx _ _ RW21.l,R8.mono sx,O8,fun Hoa OAa _ SXh=>⟨rfl,?_⟩⟩
   rw [eL,eS] at OAa
   have s21:Ak H21 Hoa:=fun b o e=>SXh b o (sx b o e) (Ah e nx)
   clear SXh sx nx ndx nex R8 O8
   intro ya dy ny ndy ney
   have sy:Ak Hoa (upd (upd Hoa dy (.own ya)) ya (.ins Cy dy [])):=fun b o e=>by
    rw [Al (Ah e ny),Al (Ah e ndy)]
    exact e
   refine ⟨ya,dy,xa,rfl,Ag,fun sda H22 c3 hsd e3 CA=>⟨rfl,?_⟩⟩
   have s22:Ak Hoa H22:=fun b o e=>c3 b o (sy b o e) (Ah e ny)
   have nsd:sda ≠ ya:=fun z=>by
    rw [z,Ag] at hsd
    cases hsd
   have fya:=ny
   have fsda:=sy.free hsd
   have K22:CJ C Cy pE pA Hoa H22 ya xa S.bs S.ks S.sts s0.dr s0.sh sda s0.m 0:=⟨⟨vr,S.rk,S.ls,OAa,(Ak.refl _).trans s22,(Ak.refl _).free ny,CA⟩,OF,(Ak.refl _).free (sy.free hsd),nsd,[],e3,Nat.le_refl _,fun _ _ _=>Hq,fun _ _ _ z=>nomatch z⟩
   clear c3 sy ndy ney CA hsd e3 nsd ny
   have s2122:=s21.trans s22
   have T22:=T21.mono s2122
   have RW22:=RW21.mono s2122
   have c22:=s2122 _ _ c21
   have t22:=s2122 _ _ t21
   obtain ⟨us21,rk21,ls21,g21⟩:=(T21.k b hb).o
   have hoya:Ho ya=none:=g21.s.free (s21.free fya)
   have hosa:Ho sda=none:=g21.s.free (s21.free fsda)
   have nYa:∀ b,b<2->Y b ≠ ya:=fun b hb=>by
    obtain ⟨⟨d,fs,e⟩,_⟩:=(T21.k b hb).kinds
    exact Ah e (s21.free fya)
   have nSa:∀ b,b<2->SD b ≠ sda:=fun b hb=>by
    obtain ⟨_,k,e⟩:=(T21.k b hb).kinds
    exact Ah e (s21.free fsda)
   clear g21 us21 rk21 ls21
   refine ⟨_,rfl,_,rfl,pT,_,_,_,rfl,rfl,.inl (.inl t22),Aj (two_get hb),TL b,rfl,⟨_,.inl (.inl (T22.l b hb))⟩,Gb (K:=K) (a:=TL b) (xs:=es b) (fun j σ H'=>∃ (t:Cs) (v8 v10 v11:Option V),Iu C Cy pE pA Ho H' x S Y SD TL s es ms.length/\RB K aB aP aM H' pR vr S kd at_ i0/\H' pC=some (.lst [.ref (Y 0),.ref (Y 1)])/\H' pT=some (.lst [.ref (TL 0),.ref (TL 1)])/\CJ C Cy pE pA Hoa H' ya xa S.bs S.ks S.sts t.dr t.sh sda t.m j/\t.sh<=S.sts.length/\Rec (S.bs.map (·.1)) S.ks S.sts H' t ((es b).drop j) (s b)/\σ=[some (.ref a),some (.ref pR),some (.ref x),some (.ref pC),some (.ref pT),v5,v6,some (.int (b:Nat)),v8,some (.ref ya),v10,v11]) ⟨s0,_,_,_,T22,RW22,c22,t22,K22,Nat.zero_le _,T22.r b hb,rfl⟩ (fun j σ H' _ h=>by obtain ⟨_,_,_,_,T',_⟩:=h; exact .inl (.inl (T'.l b hb))) ?_ ?_⟩
   ·rintro j yv σ H23 hy ⟨t,v8,v10,v11,T23,RW23,c23,t23,K23,h23,r23,rfl⟩
    have hj:j<(es b).length:=(List.getElem?_eq_some_iff.mp hy).1
    have hn:=T23.n b hb
    rw [List.drop_eq_getElem_cons hj] at r23
    obtain ⟨E1,T1,P1,v,d,eE,hE,hT,hd,hv,hP,r24⟩:=r23
    obtain rfl:yv=.ref E1:=by
     rw [List.getElem?_eq_getElem hj] at hy
     exact (Option.some.inj hy).symm.trans eE
    refine ⟨E1,_,rfl,.inl (.inl hE),rfl,_,_,rfl,_,_,rfl,_,_,rfl,rfl,?_⟩
    refine ⟨_,rfl,_,rfl,Hoa,ya,xa,S.bs,S.ks,S.sts,t,sda,j,T1,d,rfl,K23,by omega,hT,hd,fun v' H24 f24 K24 r24'=>?_⟩
    have kp:=K23.keeps f24
    have T24:=T23.third K23 f24 hoya hosa nYa nSa
    refine ⟨_,rfl,⟨_,Rr d,Sg r24' (fun _ _ e=>e),hv.to fun _ _ e=>kp.1 _ _ e⟩,_,rfl,Bo ⟨_,rfl,Hoa,ya,xa,S.ks,S.sts,_,sda,rfl,K24.ok,Kw h23 d,l100,fun P2 H25 hP2 s25 lP2=>⟨_,rfl,P2,P1,rfl,rfl,.inr ⟨P2,P1,_,_,rfl,rfl,.inr ⟨lP2,s25 _ _ (kp.2 _ _ hP)⟩,Ob rfl⟩,_,rfl,Bo ?_⟩⟩⟩
    exact ⟨_,_,_,_,T24.mono s25,(RW23.to kp.1 kp.2).mono s25,s25 _ _ (kp.1 _ _ c23),s25 _ _ (kp.1 _ _ t23),K24.mono s25,Kw h23 d,r24.to (fun _ _ e=>s25 _ _ (kp.1 _ _ e)) (fun _ _ e=>s25 _ _ (kp.2 _ _ e)),rfl⟩
   rintro σ H23 ⟨t,v8,v10,v11,T23,RW23,c23,t23,K23,h23,r23,rfl⟩
   refine ⟨_,rfl,_,rfl,pT,_,_,_,rfl,rfl,.inl (.inl t23),Aj (two_get hb),Be (by simp),fun E2 hE2=>?_⟩
   obtain ⟨H24,eqH,s24,l24⟩:=DW (o:=HO.lst []) hE2
   rw [eqH]
   have T24:=T23.mono s24
   refine ⟨TL b,E2,_,rfl,rfl,.inl (.inl (T24.l b hb)),.inl (.inl l24),_,rfl,?_⟩
   by_cases en:es b=[]
   ·rw [en]
    exact Bo (Bo ⟨_,_,_,_,_,T24,RW23.mono s24,s24 _ _ c23,s24 _ _ t23,rfl⟩)
   obtain ⟨E1,T1,P1,v,k1,k2,k3'⟩:=(T24.r b hb).last en
   rw [show (es b).isEmpty=false by cases h:es b with | nil=>exact (en h).elim | cons _ _=>rfl]
   refine Cj ⟨_,rfl,_,rfl,pC,_,_,_,rfl,rfl,.inl (.inl (s24 _ _ c23)),Aj (two_get hb),Ho,Y b,x,S.ks,S.sts,s b,SD b,rfl,(T24.k b hb).ok,T24.h b hb,l100,fun P2 H25 hP2 s25 lP2=>?_⟩
   have T25:=T24.mono s25
   refine ⟨_,rfl,_,rfl,pT,_,_,_,rfl,rfl,.inl (.inl (s25 _ _ (s24 _ _ t23))),Aj (two_get hb),_,rfl,TL b,es b,_,_,rfl,rfl,.inl (.inl (T25.l b hb)),XN k1,E1,_,_,_,rfl,rfl,.inl (.inl (s25 _ _ k2)),Aj (j:=2) rfl,P2,P1,rfl,rfl,.inr ⟨P2,P1,_,_,rfl,rfl,.inr ⟨lP2,s25 _ _ k3'⟩,Ob rfl⟩,_,rfl,Bo ?_⟩
   exact ⟨_,_,_,_,_,T25,RW23.mono (s24.trans s25),s25 _ _ (s24 _ _ c23),s25 _ _ (s24 _ _ t23),rfl⟩
  rintro σ H21 ⟨v7,v8,v9,v10,v11,T21,RW21,c21,t21,rfl⟩
  exact q _
end
end K40
end PartK40a
section PartK40z
set_option maxHeartbeats 4000000
theorem UL1 {α:Type} {us:List α} (h:us.length=1):∃ a,us=[a]:=match us,h with | [a],_=>⟨a,rfl⟩
theorem UL2 {α:Type} {us:List α} (h:us.length=2):∃ a b,us=[a,b]:=match us,h with | [a,b],_=>⟨a,b,rfl⟩
theorem UL3 {α:Type} {us:List α} (h:us.length=3):∃ a b c,us=[a,b,c]:=match us,h with | [a,b,c],_=>⟨a,b,c,rfl⟩
theorem UL4 {α:Type} {us:List α} (h:us.length=4):∃ a b c d,us=[a,b,c,d]:=match us,h with | [a,b,c,d],_=>⟨a,b,c,d,rfl⟩
theorem UL5 {α:Type} {us:List α} (h:us.length=5):∃ a b c d e,us=[a,b,c,d,e]:=match us,h with | [a,b,c,d,e],_=>⟨a,b,c,d,e,rfl⟩
namespace K40
open PySem L2 Og
section
variable {K:W.Frag}
noncomputable abbrev DA (K:W.Frag) (x:Str) (st:Stmt) (f:Addr):Prop:=W.nsIn K mainGlobals x=some (some (.ref f))/\∃ fd,DX K x x st f fd
noncomputable abbrev MA (K:W.Frag) (C:Addr) (x q:Str) (st:Stmt) (f:Addr):Prop:=W.findIn K (.ref C) x=some (some (.ref f))/\W.isFn K (.ref f)=true/\∃ fd,DX K x q st f fd
theorem FT {x q:Str} {st:Stmt} {f:Addr} {fd:FuncData} {ps:List Str} (F:DX K x q st f fd) (hl:ps.length=1:=by rfl) (h:∀ (kV doc pm:Value) (an:Option Addr) (cdv ct:Value) (u:Value),bindArgs (W.fnOf x q (Cz st) (CP st) (Af st) .none kV doc pm an cdv ct) ⟨[u],[]⟩=pure (ps.zip [u]):=by intros; rfl):Binds K fd ps []:=F.binds fun kV doc pm an cdv ct us hu=>match us,hu.trans hl with | [u],_=>h kV doc pm an cdv ct u
theorem Dq {x q:Str} {st:Stmt} {f:Addr} {fd:FuncData} {ps:List Str} (F:DX K x q st f fd) (hl:ps.length=2:=by rfl) (h:∀ (kV doc pm:Value) (an:Option Addr) (cdv ct:Value) (u v:Value),bindArgs (W.fnOf x q (Cz st) (CP st) (Af st) .none kV doc pm an cdv ct) ⟨[u,v],[]⟩=pure (ps.zip [u,v]):=by intros; rfl):Binds K fd ps []:=F.binds fun kV doc pm an cdv ct us hu=>match us,hu.trans hl with | [u,v],_=>h kV doc pm an cdv ct u v
theorem RC {x q:Str} {st:Stmt} {f:Addr} {fd:FuncData} {ps:List Str} (F:DX K x q st f fd) (hl:ps.length=3:=by rfl) (h:∀ (kV doc pm:Value) (an:Option Addr) (cdv ct:Value) (u v a:Value),bindArgs (W.fnOf x q (Cz st) (CP st) (Af st) .none kV doc pm an cdv ct) ⟨[u,v,a],[]⟩=pure (ps.zip [u,v,a]):=by intros; rfl):Binds K fd ps []:=F.binds fun kV doc pm an cdv ct us hu=>match us,hu.trans hl with | [u,v,a],_=>h kV doc pm an cdv ct u v a
end
theorem XS {l:W.OpenLaw} {w:World} {K:W.Frag} {h:Heap} {mg:Str->Option Value} {fa:Addr} (X:K.In h) (G:h.Ns mainGlobals mg) (hfa:mg "law" = some (.ref fa))
  {C Cy cK cP cB cS cO pB pE pA aN aK aB aP aM p1 p2 p3 p4 p5 p6 b1 b2 b3 b4 b5 b6 b7 fWh fMd fNm fRo fTo fWi fPa fHp fCl fIk fSb fIs fWm fHr fIr fCk fNu fPl fLi fSs fMy fSt fUn fKn fBn fKb fIp fDn fDw fNa fLg fLx fSp fLm fDe fDo fSx fOi fOu fBk fOj fOy fOz fXi fXd fXp fXq fXw fXk fXs fXh fXt fXr fXc fPi fEp fAi fAp fZ:Addr} {odXt anXt odZ anZ:Option Addr} {slXt slZ:Array (Option Value)} {ocXt kVXt dcXt pmXt cdXt ctXt ocZ kVZ dcZ pmZ cdZ ctZ:Value}
  {tPC tLET tML tMR tMLn tMB tm1 tm2 tm3 tm4 tm5 tm6 ttN_0 ttN_1 ttN_2 ttN_3 ttN_4 ttK_0 ttK_1 ttK_2 ttp1_0 ttp1_1 ttp2_0 ttp2_1 ttp3_0 ttp3_1 ttp4_0 ttp4_1 ttp4_2 ttp4_3 ttp5_0 ttp5_1 ttp5_2 ttp6_0 ttp6_1 ttp6_2 ttp6_3 ttb1_0 ttb1_1 ttb2_0 ttb2_1 ttb3_0 ttb3_1 ttb4_0 ttb4_1 ttb5_0 ttb5_1 ttb6_0 ttb6_1 ttb7_0 ttb7_1:Tok} {od_N od_K od_p1 od_p2 od_p3 od_p4 od_p5 od_p6 od_b1 od_b2 od_b3 od_b4 od_b5 od_b6 od_b7:Option Addr} {sl_N sl_K sl_p1 sl_p2 sl_p3 sl_p4 sl_p5 sl_p6 sl_b1 sl_b2 sl_b3 sl_b4 sl_b5 sl_b6 sl_b7:Array (Option Value)} {n_N n_K n_p1 n_p2 n_p3 n_p4 n_p5 n_p6 n_b1 n_b2 n_b3 n_b4 n_b5 n_b6 n_b7 nB nP nM:Nat} {eB eP eM:Array DictEntry}
  {tDXt:Addr} {oDXt:Option Addr} {sDXt:Array (Option Value)} {nDXt:Nat}
  (FWh:DA K "is_whole" lB fWh)
  (FMd:DA K "is_made_of" Z8 fMd)
  (FNm:DA K "is_name" gb fNm)
  (FRo:DA K "rows_of" fX fRo)
  (FTo:DA K "is_told" eV fTo)
  (FWi:DA K "is_within" jQ fWi)
  (FPa:DA K "is_part" eZ fPa)
  (FHp:DA K "has_parts" fD fHp)
  (FCl:DA K "count_of_last_lines" iK fCl)
  (FIk:DA K "is_key_of" fC fIk)
  (FSb:DA K "stands_behind_stop" lO fSb)
  (FIs:DA K "is_step" fV fIs)
  (FWm:DA K "is_well_made" kI fWm)
  (FHr:DA K "has_room" iU fHr)
  (FIr:DA K "is_row" jh fIr)
  (FCk:DA K "check_rows" iG fCk)
  (FNu:DA K "numbers_of" jJ fNu)
  (FPl:DA K "places_of" fJ fPl)
  (FLi:DA K "lines_by_knob" gO fLi)
  (FSs:DA K "set_of_step" fj fSs)
  (FMy:DA K "may_be_member" jP fMy)
  (FSt:DA K "set_of" fG fSt)
  (FUn:DA K "union_of" gY fUn)
  (FKn:DA K "knob_named" gZ fKn)
  (FBn:DA K "board_named" jK fBn)
  (FKb:DA K "knobs_of_board" eU fKb)
  (FIp:DA K "is_piston" lJ fIp)
  (FDn:DA K "_law_drawn" eQ fDn)
  (FDw:DA K "_law_draw" lR fDw)
  (FNa:DA K "_law_name" lE fNa)
  (FLg:DA K "_law_organ" fW fLg)
  (FLx:DA K "_law_knobs" fM fLx)
  (FSp:DA K "_law_steps" Ym fSp)
  (FLm:DA K "_law_names" lF fLm)
  (FDe:DA K "_law_deed" fH fDe)
  (FDo:DA K "_law_do" jC fDo)
  (FSx:DA K "_law_stood" jO fSx)
  (aZ:W.nsIn K mainGlobals "law" = some (some (.ref fZ)))
  (lZ:K.lookup fZ=some ⟨ocZ,odZ,.func (W.fnOf "law" "law" (Cz K8) (CP K8) (Af K8) .none kVZ dcZ pmZ anZ cdZ ctZ),slZ⟩) (cZ:W.codeIn K cdZ "law" = true) (kZ:W.keepIn K (.ref fZ)=true)
  (aC:W.nsIn K mainGlobals "Organ" = some (some (.ref C)))
  (FOi:MA K C "__init__" "Organ.__init__" Uz fOi)
  (FOu:MA K C "board_number" "Organ.board_number" gh fOu)
  (FBk:MA K C "board_of_knob" "Organ.board_of_knob" gf fBk)
  (FOj:MA K C "knob_number" "Organ.knob_number" iy fOj)
  (FOy:MA K C "steps" "Organ.steps" iD fOy)
  (FOz:MA K C "knobs" "Organ.knobs" e_ fOz)
  (aCy:W.nsIn K mainGlobals "Console" = some (some (.ref Cy)))
  (FXi:MA K Cy "__init__" "Console.__init__" lK fXi)
  (FXd:MA K Cy "draw" "Console.draw" iQ fXd)
  (FXp:MA K Cy "pull" "Console.pull" jc fXp)
  (FXq:MA K Cy "push" "Console.push" jR fXq)
  (FXw:MA K Cy "drawn" "Console.drawn" lC fXw)
  (FXk:MA K Cy "knobs" "Console.knobs" ju fXk)
  (FXs:MA K Cy "step" "Console.step" iC fXs)
  (FXh:MA K Cy "shoe" "Console.shoe" jr fXh)
  (aXt:W.findIn K (.ref Cy) "store" = some (some (.ref fXt)))
  (iXt:W.isFn K (.ref fXt)=true)
  (lXt:K.lookup fXt=some ⟨ocXt,odXt,.func (W.fnOf "store" "Console.store" (Cz Ra) (CP Ra) (Af Ra) (.ref tDXt) kVXt dcXt pmXt anXt cdXt ctXt),slXt⟩) (cXt:W.codeIn K cdXt "Console.store" = true) (kXt:W.keepIn K (.ref fXt)=true)
  (FXr:MA K Cy "press" "Console.press" lA fXr)
  (FXc:MA K Cy "cancel" "Console.cancel" jY fXc)
  (pmB:W.nsIn K mainGlobals "Piston" = some (some (.ref pB)))
  (pmE:W.nsIn K mainGlobals "Every" = some (some (.ref pE)))
  (pmA:W.nsIn K mainGlobals "Part" = some (some (.ref pA)))
  (FPi:MA K pE "__init__" "Piston.__init__" jW fPi)
  (FEp:MA K pE "put" "Every.put" jB fEp)
  (FAi:MA K pA "__init__" "Part.__init__" jN fAi)
  (FAp:MA K pA "put" "Part.put" je fAp)
  (pg3E:W.plainGet K pE Str.empty=true)
  (hd3E:W.hasDictIn K pE=true)
  (po3E:W.plainOver K pE=true)
  (sa3E:W.findIn K (.ref pE) "__setattr__" = some (some (.builtin "object.__setattr__")))
  (mk3E:W.makesIn K pE=true)
  (kc3E:W.keepIn K (.ref pE)=true)
  (nk3E:W.findIn K (.ref pE) "knob_set" = some none)
  (pg3A:W.plainGet K pA Str.empty=true)
  (hd3A:W.hasDictIn K pA=true)
  (po3A:W.plainOver K pA=true)
  (sa3A:W.findIn K (.ref pA) "__setattr__" = some (some (.builtin "object.__setattr__")))
  (mk3A:W.makesIn K pA=true)
  (kc3A:W.keepIn K (.ref pA)=true)
  (nk3A:W.findIn K (.ref pA) "knob_set" = some none)
  (nw3A:W.findIn K (.ref pA) "whole_set" = some none)
  (zPC:W.nsIn K mainGlobals "PISTON_COUNT" = some (some (.int 10 tPC)))
  (gaB:W.specialIn K (.ref pB) "__getattribute__" = some (some (.builtin "type.__getattribute__")))
  (rdB:W.readsIn K pB (.type "type")=true)
  (fcB:W.findCls K (.ref pB) (.type "type") "__init__" = some (.val (.ref fPi)))
  (pg2:W.plainGet K Cy Str.empty=true)
  (hd2:W.hasDictIn K Cy=true)
  (po2:W.plainOver K Cy=true)
  (sa2:W.findIn K (.ref Cy) "__setattr__" = some (some (.builtin "object.__setattr__")))
  (mkC2:W.makesIn K Cy=true)
  (kc2:W.keepIn K (.ref Cy)=true)
  (nr2o:W.findIn K (.ref Cy) "organ" = some none)
  (nr2d:W.findIn K (.ref Cy) "drawn_set" = some none)
  (nr2s:W.findIn K (.ref Cy) "shoe_step" = some none)
  (nr2t:W.findIn K (.ref Cy) "stored" = some none)
  (xve:W.nsIn K mainGlobals "ValueError" = some none)
  (xmK:W.nsIn K mainGlobals "NoKnob" = some (some (.ref cK)))
  (xmP:W.nsIn K mainGlobals "NoPiston" = some (some (.ref cP)))
  (xmB:W.nsIn K mainGlobals "NoBoard" = some (some (.ref cB)))
  (xmS:W.nsIn K mainGlobals "NoStep" = some (some (.ref cS)))
  (xmO:W.nsIn K mainGlobals "OrganError" = some (some (.ref cO)))
  (xeO:W.excIn K cO Va "ValueError.__new__" = true)
  (xbK:Kc K cK cO [cB,cP,cS]=true)
  (xbP:Kc K cP cO [cB,cK,cS]=true)
  (xbB:Kc K cB cO [cK,cP,cS]=true)
  (xbS:Kc K cS cO [cB,cK,cP]=true)
  (pg:W.plainGet K C Str.empty=true)
  (hd:W.hasDictIn K C=true)
  (po:W.plainOver K C=true)
  (sa:W.findIn K (.ref C) "__setattr__" = some (some (.builtin "object.__setattr__")))
  (mkC:W.makesIn K C=true)
  (kc:W.keepIn K (.ref C)=true)
  (n_row_list_:W.findIn K (.ref C) "row_list" = some none)
  (n_board_list_:W.findIn K (.ref C) "board_list" = some none)
  (n_rank_list_:W.findIn K (.ref C) "rank_list" = some none)
  (n_knob_rows_:W.findIn K (.ref C) "knob_rows" = some none)
  (n_board_numbers_:W.findIn K (.ref C) "board_numbers" = some none)
  (n_rank_numbers_:W.findIn K (.ref C) "rank_numbers" = some none)
  (n_knob_numbers_:W.findIn K (.ref C) "knob_numbers" = some none)
  (n_key_places_:W.findIn K (.ref C) "key_places" = some none)
  (n_pipe_places_:W.findIn K (.ref C) "pipe_places" = some none)
  (n_knob_lines_:W.findIn K (.ref C) "knob_lines" = some none)
  (n_step_sets_:W.findIn K (.ref C) "step_sets" = some none)
  (zlen:W.nsIn K mainGlobals "len" = some none)
  (zisinstance:W.nsIn K mainGlobals "isinstance" = some none)
  (zint:W.nsIn K mainGlobals "int" = some none)
  (zbool:W.nsIn K mainGlobals "bool" = some none)
  (zstr:W.nsIn K mainGlobals "str" = some none)
  (zlist:W.nsIn K mainGlobals "list" = some none)
  (ztuple:W.nsIn K mainGlobals "tuple" = some none)
  (zall:W.nsIn K mainGlobals "all" = some none)
  (zany:W.nsIn K mainGlobals "any" = some none)
  (zsum:W.nsIn K mainGlobals "sum" = some none)
  (zrange:W.nsIn K mainGlobals "range" = some none)
  (zzip:W.nsIn K mainGlobals "zip" = some none)
  (zenumerate:W.nsIn K mainGlobals "enumerate" = some none)
  (zmax:W.nsIn K mainGlobals "max" = some none)
  (zreversed:W.nsIn K mainGlobals "reversed" = some none)
  (zset:W.nsIn K mainGlobals "set" = some none)
  (zabs:W.nsIn K mainGlobals "abs" = some none)
  (zLET:W.nsIn K mainGlobals "LETTERS" = some (some (.str letters tLET)))
  (zML:W.nsIn K mainGlobals "MOST_LETTERS" = some (some (.int 8 tML)))
  (zMR:W.nsIn K mainGlobals "MOST_ROWS" = some (some (.int 150 tMR)))
  (zMLn:W.nsIn K mainGlobals "MOST_LINES" = some (some (.int 4 tMLn)))
  (zMB:W.nsIn K mainGlobals "MEMBERS_BELOW" = some (some (.int 1200 tMB)))
  (rN:W.nsIn K mainGlobals "NAMED" = some (some (.ref aN)))
  (rK:W.nsIn K mainGlobals "KNOBS" = some (some (.ref aK)))
  (rB:W.nsIn K mainGlobals "BOUNDS" = some (some (.ref aB)))
  (rP:W.nsIn K mainGlobals "PARTS" = some (some (.ref aP)))
  (rM:W.nsIn K mainGlobals "MOST_OF" = some (some (.ref aM)))
  (dB:K.lookup aB=some ⟨.type "dict",none,.dict eB nB,#[]⟩)
  (kB:W.KeysLit w.params eB.toList)
  (oB:(aB == sysModules)=false)
  (dP:K.lookup aP=some ⟨.type "dict",none,.dict eP nP,#[]⟩)
  (kP:W.KeysLit w.params eP.toList)
  (oP:(aP == sysModules)=false)
  (dM:K.lookup aM=some ⟨.type "dict",none,.dict eM nM,#[]⟩)
  (kM:W.KeysLit w.params eM.toList)
  (oM:(aM == sysModules)=false)
  (qp1:W.nsIn K aP "board" = some (some (.ref p1)))
  (qp2:W.nsIn K aP "stop" = some (some (.ref p2)))
  (qp3:W.nsIn K aP "mute" = some (some (.ref p3)))
  (qp4:W.nsIn K aP "coupler" = some (some (.ref p4)))
  (qp5:W.nsIn K aP "rank" = some (some (.ref p5)))
  (qp6:W.nsIn K aP "line" = some (some (.ref p6)))
  (qb1:W.nsIn K aB "keys" = some (some (.ref b1)))
  (qb2:W.nsIn K aB "leap" = some (some (.ref b2)))
  (qb3:W.nsIn K aB "pipes" = some (some (.ref b3)))
  (qb4:W.nsIn K aB "wind" = some (some (.ref b4)))
  (qb5:W.nsIn K aB "shift" = some (some (.ref b5)))
  (qb6:W.nsIn K aB "low" = some (some (.ref b6)))
  (qb7:W.nsIn K aB "high" = some (some (.ref b7)))
  (qn:W.nsIn K aB "new" = some none)
  (qb:W.nsIn K aB "board" = some none)
  (qr:W.nsIn K aB "rank" = some none)
  (ql:W.nsIn K aM "line" = some none)
  (qm1:W.nsIn K aM "board" = some (some (.int 5 tm1)))
  (qm2:W.nsIn K aM "stop" = some (some (.int 24 tm2)))
  (qm3:W.nsIn K aM "coupler" = some (some (.int 12 tm3)))
  (qm4:W.nsIn K aM "mute" = some (some (.int 5 tm4)))
  (qm5:W.nsIn K aM "rank" = some (some (.int 12 tm5)))
  (qm6:W.nsIn K aM "step" = some (some (.int 12 tm6)))
  (uN:K.lookup aN=some ⟨.type "tuple",od_N,.seq #[.str "board" ttN_0,.str "rank" ttN_1,.str "stop" ttN_2,.str "coupler" ttN_3,.str "mute" ttN_4] n_N,sl_N⟩)
  (uK:K.lookup aK=some ⟨.type "tuple",od_K,.seq #[.str "stop" ttK_0,.str "coupler" ttK_1,.str "mute" ttK_2] n_K,sl_K⟩)
  (up1:K.lookup p1=some ⟨.type "tuple",od_p1,.seq #[.str "new" ttp1_0,.str "keys" ttp1_1] n_p1,sl_p1⟩)
  (up2:K.lookup p2=some ⟨.type "tuple",od_p2,.seq #[.str "new" ttp2_0,.str "board" ttp2_1] n_p2,sl_p2⟩)
  (up3:K.lookup p3=some ⟨.type "tuple",od_p3,.seq #[.str "new" ttp3_0,.str "board" ttp3_1] n_p3,sl_p3⟩)
  (up4:K.lookup p4=some ⟨.type "tuple",od_p4,.seq #[.str "new" ttp4_0,.str "board" ttp4_1,.str "board" ttp4_2,.str "leap" ttp4_3] n_p4,sl_p4⟩)
  (up5:K.lookup p5=some ⟨.type "tuple",od_p5,.seq #[.str "new" ttp5_0,.str "pipes" ttp5_1,.str "wind" ttp5_2] n_p5,sl_p5⟩)
  (up6:K.lookup p6=some ⟨.type "tuple",od_p6,.seq #[.str "rank" ttp6_0,.str "shift" ttp6_1,.str "low" ttp6_2,.str "high" ttp6_3] n_p6,sl_p6⟩)
  (uXt:K.lookup tDXt=some ⟨.type "tuple",oDXt,.seq #[.none] nDXt,sDXt⟩)
  (ub1:K.lookup b1=some ⟨.type "tuple",od_b1,.seq #[.int (1) ttb1_0,.int (61) ttb1_1] n_b1,sl_b1⟩)
  (ub2:K.lookup b2=some ⟨.type "tuple",od_b2,.seq #[.int (-60) ttb2_0,.int (60) ttb2_1] n_b2,sl_b2⟩)
  (ub3:K.lookup b3=some ⟨.type "tuple",od_b3,.seq #[.int (1) ttb3_0,.int (97) ttb3_1] n_b3,sl_b3⟩)
  (ub4:K.lookup b4=some ⟨.type "tuple",od_b4,.seq #[.int (0) ttb4_0,.int (1000000000) ttb4_1] n_b4,sl_b4⟩)
  (ub5:K.lookup b5=some ⟨.type "tuple",od_b5,.seq #[.int (-200) ttb5_0,.int (200) ttb5_1] n_b5,sl_b5⟩)
  (ub6:K.lookup b6=some ⟨.type "tuple",od_b6,.seq #[.int (0) ttb6_0,.int (60) ttb6_1] n_b6,sl_b6⟩)
  (ub7:K.lookup b7=some ⟨.type "tuple",od_b7,.seq #[.int (0) ttb7_0,.int (60) ttb7_1] n_b7,sl_b7⟩)
  : ∃ fd:FuncData,(∀ (s:Shared) (v:Value),BindsTo s fd ⟨[v],[]⟩ [("_law_script",v)])/\∀ base:Heap,K.In base->base.Ns mainGlobals mg->Ar l.prog w K mg base Bh 11 fa fd ["_law_script"] (M_ K):=by
 obtain ⟨aWh,dWh,FWh⟩:=FWh
 obtain ⟨aMd,dMd,FMd⟩:=FMd
 obtain ⟨aNm,dNm,FNm⟩:=FNm
 obtain ⟨aRo,dRo,FRo⟩:=FRo
 obtain ⟨aTo,dTo,FTo⟩:=FTo
 obtain ⟨aWi,dWi,FWi⟩:=FWi
 obtain ⟨aPa,dPa,FPa⟩:=FPa
 obtain ⟨aHp,dHp,FHp⟩:=FHp
 obtain ⟨aCl,dCl,FCl⟩:=FCl
 obtain ⟨aIk,dIk,FIk⟩:=FIk
 obtain ⟨aSb,dSb,FSb⟩:=FSb
 obtain ⟨aIs,dIs,FIs⟩:=FIs
 obtain ⟨aWm,dWm,FWm⟩:=FWm
 obtain ⟨aHr,dHr,FHr⟩:=FHr
 obtain ⟨aIr,dIr,FIr⟩:=FIr
 obtain ⟨aCk,dCk,FCk⟩:=FCk
 obtain ⟨aNu,dNu,FNu⟩:=FNu
 obtain ⟨aPl,dPl,FPl⟩:=FPl
 obtain ⟨aLi,dLi,FLi⟩:=FLi
 obtain ⟨aSs,dSs,FSs⟩:=FSs
 obtain ⟨aMy,dMy,FMy⟩:=FMy
 obtain ⟨aSt,dSt,FSt⟩:=FSt
 obtain ⟨aUn,dUn,FUn⟩:=FUn
 obtain ⟨aKn,dKn,FKn⟩:=FKn
 obtain ⟨aBn,dBn,FBn⟩:=FBn
 obtain ⟨aKb,dKb,FKb⟩:=FKb
 obtain ⟨aIp,dIp,FIp⟩:=FIp
 obtain ⟨aDn,dDn,FDn⟩:=FDn
 obtain ⟨aDw,dDw,FDw⟩:=FDw
 obtain ⟨aNa,dNa,FNa⟩:=FNa
 obtain ⟨aLg,dLg,FLg⟩:=FLg
 obtain ⟨aLx,dLx,FLx⟩:=FLx
 obtain ⟨aSp,dSp,FSp⟩:=FSp
 obtain ⟨aLm,dLm,FLm⟩:=FLm
 obtain ⟨aDe,dDe,FDe⟩:=FDe
 obtain ⟨aDo,dDo,FDo⟩:=FDo
 obtain ⟨aSx,dSx,FSx⟩:=FSx
 obtain ⟨aOi,iOi,dOi,FOi⟩:=FOi
 obtain ⟨aOu,iOu,dOu,FOu⟩:=FOu
 obtain ⟨aBk,iBk,dBk,FBk⟩:=FBk
 obtain ⟨aOj,iOj,dOj,FOj⟩:=FOj
 obtain ⟨aOy,iOy,dOy,FOy⟩:=FOy
 obtain ⟨aOz,iOz,dOz,FOz⟩:=FOz
 obtain ⟨aXi,iXi,dXi,FXi⟩:=FXi
 obtain ⟨aXd,iXd,dXd,FXd⟩:=FXd
 obtain ⟨aXp,iXp,dXp,FXp⟩:=FXp
 obtain ⟨aXq,iXq,dXq,FXq⟩:=FXq
 obtain ⟨aXw,iXw,dXw,FXw⟩:=FXw
 obtain ⟨aXk,iXk,dXk,FXk⟩:=FXk
 obtain ⟨aXs,iXs,dXs,FXs⟩:=FXs
 obtain ⟨aXh,iXh,dXh,FXh⟩:=FXh
 obtain ⟨aXr,iXr,dXr,FXr⟩:=FXr
 obtain ⟨aXc,iXc,dXc,FXc⟩:=FXc
 obtain ⟨aPi,iPi,dPi,FPi⟩:=FPi
 obtain ⟨aEp,iEp,dEp,FEp⟩:=FEp
 obtain ⟨aAi,iAi,dAi,FAi⟩:=FAi
 obtain ⟨aAp,iAp,dAp,FAp⟩:=FAp
 have e:=hfa.symm.trans (W.mg_of X G aZ)
 cases e
 have FXt:=WQ (st:=Ra) lXt cXt kXt
 have FZ:=N5 (st:=K8) lZ cZ kZ
 have bXt:Binds K (W.fnOf "store" "Console.store" (Cz Ra) (CP Ra) (Af Ra) (.ref tDXt) kVXt dcXt pmXt anXt cdXt ctXt) ["self","piston","board"] []:=Yh uXt rfl fun us hl=>match us,hl with | [_,_,_],_=>⟨_,rfl,rfl⟩
 have gN:KTup K aN [.str "board",.str "rank",.str "stop",.str "coupler",.str "mute"]:=(⟨_,_,_,uN,rfl,rfl,by show 5<=sizeLine; decide,.cons ⟨_,rfl⟩ (.cons ⟨_,rfl⟩ (.cons ⟨_,rfl⟩ (.cons ⟨_,rfl⟩ (.cons ⟨_,rfl⟩ (.nil)))))⟩)
 have gK:KTup K aK [.str "stop",.str "coupler",.str "mute"]:=(⟨_,_,_,uK,rfl,rfl,by show 3<=sizeLine; decide,.cons ⟨_,rfl⟩ (.cons ⟨_,rfl⟩ (.cons ⟨_,rfl⟩ (.nil)))⟩)
 have gp1:KTup K p1 [.str "new",.str "keys"]:=(⟨_,_,_,up1,rfl,rfl,by show 2<=sizeLine; decide,.cons ⟨_,rfl⟩ (.cons ⟨_,rfl⟩ (.nil))⟩)
 have gp2:KTup K p2 [.str "new",.str "board"]:=(⟨_,_,_,up2,rfl,rfl,by show 2<=sizeLine; decide,.cons ⟨_,rfl⟩ (.cons ⟨_,rfl⟩ (.nil))⟩)
 have gp3:KTup K p3 [.str "new",.str "board"]:=(⟨_,_,_,up3,rfl,rfl,by show 2<=sizeLine; decide,.cons ⟨_,rfl⟩ (.cons ⟨_,rfl⟩ (.nil))⟩)
 have gp4:KTup K p4 [.str "new",.str "board",.str "board",.str "leap"]:=(⟨_,_,_,up4,rfl,rfl,by show 4<=sizeLine; decide,.cons ⟨_,rfl⟩ (.cons ⟨_,rfl⟩ (.cons ⟨_,rfl⟩ (.cons ⟨_,rfl⟩ (.nil))))⟩)
 have gp5:KTup K p5 [.str "new",.str "pipes",.str "wind"]:=(⟨_,_,_,up5,rfl,rfl,by show 3<=sizeLine; decide,.cons ⟨_,rfl⟩ (.cons ⟨_,rfl⟩ (.cons ⟨_,rfl⟩ (.nil)))⟩)
 have gp6:KTup K p6 [.str "rank",.str "shift",.str "low",.str "high"]:=(⟨_,_,_,up6,rfl,rfl,by show 4<=sizeLine; decide,.cons ⟨_,rfl⟩ (.cons ⟨_,rfl⟩ (.cons ⟨_,rfl⟩ (.cons ⟨_,rfl⟩ (.nil))))⟩)
 have gb1:KTup K b1 [.int (1),.int (61)]:=(⟨_,_,_,ub1,rfl,rfl,by show 2<=sizeLine; decide,.cons ⟨_,rfl⟩ (.cons ⟨_,rfl⟩ (.nil))⟩)
 have gb2:KTup K b2 [.int (-60),.int (60)]:=(⟨_,_,_,ub2,rfl,rfl,by show 2<=sizeLine; decide,.cons ⟨_,rfl⟩ (.cons ⟨_,rfl⟩ (.nil))⟩)
 have gb3:KTup K b3 [.int (1),.int (97)]:=(⟨_,_,_,ub3,rfl,rfl,by show 2<=sizeLine; decide,.cons ⟨_,rfl⟩ (.cons ⟨_,rfl⟩ (.nil))⟩)
 have gb4:KTup K b4 [.int (0),.int (1000000000)]:=(⟨_,_,_,ub4,rfl,rfl,by show 2<=sizeLine; decide,.cons ⟨_,rfl⟩ (.cons ⟨_,rfl⟩ (.nil))⟩)
 have gb5:KTup K b5 [.int (-200),.int (200)]:=(⟨_,_,_,ub5,rfl,rfl,by show 2<=sizeLine; decide,.cons ⟨_,rfl⟩ (.cons ⟨_,rfl⟩ (.nil))⟩)
 have gb6:KTup K b6 [.int (0),.int (60)]:=(⟨_,_,_,ub6,rfl,rfl,by show 2<=sizeLine; decide,.cons ⟨_,rfl⟩ (.cons ⟨_,rfl⟩ (.nil))⟩)
 have gb7:KTup K b7 [.int (0),.int (60)]:=(⟨_,_,_,ub7,rfl,rfl,by show 2<=sizeLine; decide,.cons ⟨_,rfl⟩ (.cons ⟨_,rfl⟩ (.nil))⟩)
 have F2:V6 K aB aP aM:=⟨⟨⟨_,qp1,gp1⟩,⟨_,qp2,gp2⟩,⟨_,qp3,gp3⟩,⟨_,qp4,gp4⟩,⟨_,qb1,gb1⟩,⟨_,qb2,gb2⟩,qn,qb,⟨_,qm1⟩,⟨_,qm2⟩,⟨_,qm3⟩,⟨_,qm4⟩⟩,⟨_,qp5,gp5⟩,⟨_,qp6,gp6⟩,⟨_,qb3,gb3⟩,⟨_,qb4,gb4⟩,⟨_,qb5,gb5⟩,⟨_,qb6,gb6⟩,⟨_,qb7,gb7⟩,qr,⟨_,qm5⟩,ql⟩
 have F0:aD K aB aP aM:=⟨F2,⟨_,qm6⟩⟩
 have T:Txt K w.params mg C Cy cK cP cB cS cO pB pE pA aN aK aB aP aM:=⟨W.mg_none_of X G zlen,W.mg_none_of X G zisinstance,W.mg_none_of X G zint,W.mg_none_of X G zbool,W.mg_none_of X G zstr,W.mg_none_of X G zlist,W.mg_none_of X G ztuple,W.mg_none_of X G zall,W.mg_none_of X G zany,W.mg_none_of X G zsum,W.mg_none_of X G zrange,W.mg_none_of X G zzip,W.mg_none_of X G zenumerate,W.mg_none_of X G zmax,W.mg_none_of X G zreversed,W.mg_none_of X G zset,W.mg_none_of X G zabs,⟨_,W.mg_of X G zLET⟩,⟨_,W.mg_of X G zML⟩,⟨_,W.mg_of X G zMR⟩,⟨_,W.mg_of X G zMLn⟩,⟨_,W.mg_of X G zMB⟩,W.mg_of X G rN,W.mg_of X G rK,W.mg_of X G rB,W.mg_of X G rP,W.mg_of X G rM,gN,gK,⟨⟨_,_,dB,kB⟩,oB⟩,⟨⟨_,_,dP,kP⟩,oP⟩,⟨⟨_,_,dM,kM⟩,oM⟩,⟨pg,hd,po,sa⟩,W.mg_of X G aC,⟨pg2,hd2,po2,sa2⟩,W.mg_of X G aCy,nr2o,nr2d,nr2s,nr2t,⟨W.mg_none_of X G xve,W.mg_of X G xmK,W.mg_of X G xmP,W.mg_of X G xmB,W.mg_of X G xmS,W.mg_of X G xmO,xeO,Rc.of xbK,Rc.of xbP,Rc.of xbB,Rc.of xbS⟩,⟨W.mg_of X G pmB,W.mg_of X G pmE,W.mg_of X G pmA,⟨pg3E,hd3E,po3E,sa3E⟩,⟨pg3A,hd3A,po3A,sa3A⟩,nk3E,nk3A,nw3A,⟨_,W.mg_of X G zPC⟩⟩,n_row_list_,n_board_list_,n_rank_list_,n_knob_rows_,n_board_numbers_,n_rank_numbers_,n_knob_numbers_,n_key_places_,n_pipe_places_,n_knob_lines_,n_step_sets_⟩
 have bXt0:Binds K (W.fnOf "store" "Console.store" (Cz Ra) (CP Ra) (Af Ra) (.ref tDXt) kVXt dcXt pmXt anXt cdXt ctXt) ["self","piston","board"] [.none]:=Vc uXt rfl fun us hl=>match us,(show us.length=2 by simpa using hl) with | [_,_],_=>⟨_,rfl,rfl⟩
 have N:iV K mg C Cy pB pE pA fWh fMd fNm fRo fTo fWi fPa fHp fCl fIk fSb fIs fWm fHr fIr fCk fNu fPl fLi fSs fMy fSt fUn fKn fBn fKb fIp fDn fDw fNa fLg fLx fSp fLm fDe fDo fSx fOi fOu fBk fOj fOy fOz fXi fXd fXp fXq fXw fXk fXs fXh fXt fXr fXc fPi fEp fAi fAp _ _ _ _ _ _ _ _ _ _ _ _ _ _ _ _ _ _ _ _ _ _ _ _ _ _ _ _ _ _ _ _ _ _ _ _ _ _ _ _ _ _ _ _ _ _ _ _ _ _ _ _ _ _ _ _ _ _:=⟨⟨FWh,(FT FWh),W.mg_of X G aWh⟩,⟨FMd,(RC FMd),W.mg_of X G aMd⟩,⟨FNm,(FT FNm),W.mg_of X G aNm⟩,⟨FRo,(Dq FRo),W.mg_of X G aRo⟩,⟨FTo,(RC FTo),W.mg_of X G aTo⟩,⟨FWi,(Dq FWi),W.mg_of X G aWi⟩,⟨FPa,(RC FPa),W.mg_of X G aPa⟩,⟨FHp,(Dq FHp),W.mg_of X G aHp⟩,⟨FCl,(FT FCl),W.mg_of X G aCl⟩,⟨FIk,(RC FIk),W.mg_of X G aIk⟩,⟨FSb,(Dq FSb),W.mg_of X G aSb⟩,⟨FIs,(Dq FIs),W.mg_of X G aIs⟩,⟨FWm,(Dq FWm),W.mg_of X G aWm⟩,⟨FHr,(Dq FHr),W.mg_of X G aHr⟩,⟨FIr,(Dq FIr),W.mg_of X G aIr⟩,⟨FCk,(FT FCk),W.mg_of X G aCk⟩,⟨FNu,(FT FNu),W.mg_of X G aNu⟩,⟨FPl,(FT FPl),W.mg_of X G aPl⟩,⟨FLi,(Dq FLi),W.mg_of X G aLi⟩,⟨FSs,(Dq FSs),W.mg_of X G aSs⟩,⟨FMy,(FT FMy),W.mg_of X G aMy⟩,⟨FSt,(FT FSt),W.mg_of X G aSt⟩,⟨FUn,(FT FUn),W.mg_of X G aUn⟩,⟨FKn,(Dq FKn),W.mg_of X G aKn⟩,⟨FBn,(Dq FBn),W.mg_of X G aBn⟩,⟨FKb,(Dq FKb),W.mg_of X G aKb⟩,⟨FIp,(FT FIp),W.mg_of X G aIp⟩,⟨FDn,(Dq FDn),W.mg_of X G aDn⟩,⟨FDw,(Dq FDw),W.mg_of X G aDw⟩,⟨FNa,(RC FNa),W.mg_of X G aNa⟩,⟨FLg,(FT FLg),W.mg_of X G aLg⟩,⟨FLx,(FT FLx),W.mg_of X G aLx⟩,⟨FSp,(FT FSp),W.mg_of X G aSp⟩,⟨FLm,(FT FLm),W.mg_of X G aLm⟩,⟨FDe,(Dq FDe),W.mg_of X G aDe⟩,⟨FDo,(Dq FDo),W.mg_of X G aDo⟩,⟨FSx,(FT FSx),W.mg_of X G aSx⟩,⟨FOi,(Dq FOi),⟨mkC,aOi,iOi,kc⟩⟩,⟨FOu,(Dq FOu),⟨aOu,iOu,FOu.kp⟩⟩,⟨FBk,(Dq FBk),⟨aBk,iBk,FBk.kp⟩⟩,⟨FOj,(Dq FOj),⟨aOj,iOj,FOj.kp⟩⟩,⟨FOy,(FT FOy),⟨aOy,iOy,FOy.kp⟩⟩,⟨FOz,(FT FOz),⟨aOz,iOz,FOz.kp⟩⟩,⟨FXi,(Dq FXi),⟨mkC2,aXi,iXi,kc2⟩⟩,⟨FXd,(Dq FXd),⟨aXd,iXd,FXd.kp⟩⟩,⟨FXp,(Dq FXp),⟨aXp,iXp,FXp.kp⟩⟩,⟨FXq,(Dq FXq),⟨aXq,iXq,FXq.kp⟩⟩,⟨FXw,(FT FXw),⟨aXw,iXw,FXw.kp⟩⟩,⟨FXk,(FT FXk),⟨aXk,iXk,FXk.kp⟩⟩,⟨FXs,(FT FXs),⟨aXs,iXs,FXs.kp⟩⟩,⟨FXh,(Dq FXh),⟨aXh,iXh,FXh.kp⟩⟩,⟨FXt,bXt,⟨aXt,iXt,kXt⟩⟩,⟨FXr,(Dq FXr),⟨aXr,iXr,FXr.kp⟩⟩,⟨FXc,(FT FXc),⟨aXc,iXc,FXc.kp⟩⟩,⟨FPi,(Dq FPi),⟨mk3E,aPi,iPi,kc3E⟩⟩,⟨FEp,(Dq FEp),⟨aEp,iEp,FEp.kp⟩⟩,⟨FAi,(RC FAi),⟨mk3A,aAi,iAi,kc3A⟩⟩,⟨FAp,(Dq FAp),⟨aAp,iAp,FAp.kp⟩⟩,bXt0,⟨gaB,rdB,fcB,FPi.kp⟩⟩
 exact ⟨W.fnOf "law" "law" (Cz K8) (CP K8) (Af K8) .none kVZ dcZ pmZ anZ cdZ ctZ,fun s v=>.of_eq rfl,fun base _ _=>Xv FZ N T F0⟩
theorem walk {l:W.OpenLaw} {q:Program} {loose:List Str} {XP:(Str->Option Value)->Heap->Prop} {YP:World->Heap->Prop} {d:DefRec} {K:Params->W.Frag} (hn:l.most=some 63) (hdf:d.params.defaults=[])
  (hY:∀ (w:World) (h:Heap),YP w h->(K w.params).In h)
  (F:∀ (w:World) (mg:Str->Option Value) (fa:Addr) (h:Heap),(K w.params).In h->h.Ns mainGlobals mg->mg d.name=some (.ref fa) ->
   ∃ fd:FuncData,(∀ (s:Shared) (u:Value),BindsTo s fd ⟨[u],[]⟩ [("_law_script",u)])/\∀ base:Heap,(K w.params).In base->base.Ns mainGlobals mg->Ar l.prog w (K w.params) mg base Bh 11 fa fd ["_law_script"] (M_ (K w.params))) :
  W.WalkO q loose XP YP l.row.toRowW d [] (fun f vs=>PySem.call f vs) :=
 L2.V3 (n:=63) (k:=11) (x:="_law_script") (CX:=fun _=>Bh) (sp:=fun w=>M_ (K w.params)) hn (by decide) hdf ⟨rfl,by decide,by decide⟩ hY F (fun _ _ a ns hl _ hS=>⟨a,ns,rfl,hS,hl,fun _=>rfl⟩) fun _ _ _ _ _ z=>z
end K40
open PySem PySem.W PyProof.Rows
noncomputable def PySem.W.Fast.tw2011772530970199843:Unit:=()
noncomputable def PySem.W.Fast.tw163101356270440342:Unit:=()
noncomputable def PySem.W.Fast.tw4496948837786384071:Unit:=()
noncomputable def PySem.W.Fast.tw13916346062007879840:Unit:=()
noncomputable def PySem.W.Fast.tw1536256037422729825:Unit:=()
noncomputable def PySem.W.Fast.tw9173246593610369859:Unit:=()
noncomputable def PySem.W.Fast.tw10565979349084486203:Unit:=()
noncomputable def PySem.W.Fast.tw12184292398971668087:Unit:=()
noncomputable def PySem.W.Fast.tw17705142492876285064:Unit:=()
noncomputable def PySem.W.Fast.tw16883674277804817307:Unit:=()
noncomputable def PySem.W.Fast.tw1510659692491097079:Unit:=()
noncomputable def PySem.W.Fast.tw13621261390438166845:Unit:=()
noncomputable def PySem.W.Fast.tw6540559039239368859:Unit:=()
noncomputable def PySem.W.Fast.tw17639232221859772909:Unit:=()
noncomputable def PySem.W.Fast.tw14113301351761246052:Unit:=()
noncomputable def PySem.W.Fast.tw11457271383248725698:Unit:=()
noncomputable def PySem.W.Fast.tw2774609124605881601:Unit:=()
noncomputable def PySem.W.Fast.tw1152462155838315644:Unit:=()
noncomputable def PySem.W.Fast.tw17129673505904684167:Unit:=()
noncomputable def PySem.W.Fast.tw8379472115393716583:Unit:=()
noncomputable def PySem.W.Fast.tw1358837385543943716:Unit:=()
noncomputable def PySem.W.Fast.tw13370247035842051533:Unit:=()
noncomputable def PySem.W.Fast.tw15788342611875057340:Unit:=()
noncomputable def PySem.W.Fast.tw16537934052117895349:Unit:=()
noncomputable def PySem.W.Fast.tw15308724380024690410:Unit:=()
noncomputable def PySem.W.Fast.tw3802599311926042669:Unit:=()
noncomputable def PySem.W.Fast.tw13402803618825977003:Unit:=()
noncomputable def PySem.W.Fast.tw14213974318246857835:Unit:=()
noncomputable def PySem.W.Fast.tw12462256273480740605:Unit:=()
noncomputable def PySem.W.Fast.tw5662166026176248181:Unit:=()
noncomputable def PySem.W.Fast.tw17849534457852071054:Unit:=()
noncomputable def PySem.W.Fast.tw11260401047203953798:Unit:=()
noncomputable def PySem.W.Fast.tw967348598474889963:Unit:=()
noncomputable def PySem.W.Fast.tw5450824778814668719:Unit:=()
noncomputable def PySem.W.Fast.tw18240283011341110171:Unit:=()
noncomputable def PySem.W.Fast.tw13035360383625157608:Unit:=()
noncomputable def PySem.W.Fast.tw17238249540608631505:Unit:=()
noncomputable def PySem.W.Fast.tw14763013925931334405:Unit:=()
noncomputable def PySem.W.Fast.tw6330360568513327681:Unit:=()
noncomputable def PySem.W.Fast.tw16044571240550212090:Unit:=()
noncomputable def PySem.W.Fast.tw14343160569175843039:Unit:=()
noncomputable def PySem.W.Fast.tw17540798336023654044:Unit:=()
noncomputable def PySem.W.Fast.tw4287266022492253599:Unit:=()
noncomputable def PySem.W.Fast.tw3582754793053476137:Unit:=()
noncomputable def PySem.W.Fast.tw7788957097967683012:Unit:=()
noncomputable def PySem.W.Fast.tw12483393503388990537:Unit:=()
noncomputable def PySem.W.Fast.tw5008152171384760924:Unit:=()
noncomputable def PySem.W.Fast.tw18173154536558927693:Unit:=()
noncomputable def PySem.W.Fast.tw11082715081829670143:Unit:=()
noncomputable def PySem.W.Fast.tw9984806456418351592:Unit:=()
noncomputable def PySem.W.Fast.tw16838720234278026148:Unit:=()
noncomputable def PySem.W.Fast.tw5510443576931012973:Unit:=()
noncomputable def PySem.W.Fast.tw4689026866350728800:Unit:=()
noncomputable def PySem.W.Fast.tw5089089700708801435:Unit:=()
noncomputable def PySem.W.Fast.tw18139241458021129431:Unit:=()
noncomputable def PySem.W.Fast.tw2033577971487997206:Unit:=()
noncomputable def PySem.W.Fast.tw8258994584317663941:Unit:=()
noncomputable def PySem.W.Fast.tw12814229930067079396:Unit:=()
noncomputable def PySem.W.Fast.tw12267571060830548186:Unit:=()
noncomputable def PySem.W.Fast.tw16183111074626369478:Unit:=()
noncomputable def PySem.W.Fast.tw15807582402109338733:Unit:=()
noncomputable def PySem.W.Fast.tw7441753184543159560:Unit:=()
noncomputable def PySem.W.Fast.tw13640207868813571114:Unit:=()
noncomputable def PySem.W.Fast.tw3412702649300619493:Unit:=()
noncomputable def PySem.W.Fast.tw16572785908422275863:Unit:=()
noncomputable def PySem.W.Fast.tw5398567697677966773:Unit:=()
noncomputable def PySem.W.Fast.tw17134057740250278346:Unit:=()
noncomputable def PySem.W.Fast.tw6814094873276614895:Unit:=()
noncomputable def PySem.W.Fast.tw5686450433828646397:Unit:=()
noncomputable def PySem.W.Fast.tw4535781413172782891:Unit:=()
noncomputable def PySem.W.Fast.tw4667442324214771935:Unit:=()
noncomputable def PySem.W.Fast.tw13632454371507914408:Unit:=()
noncomputable def PySem.W.Fast.tw14355626349307667713:Unit:=()
noncomputable def PySem.W.Fast.tw4240247638013913736:Unit:=()
noncomputable def PySem.W.Fast.tw18056134076117392663:Unit:=()
noncomputable def PySem.W.Fast.tw4567247802936021380:Unit:=()
noncomputable def PySem.W.Fast.tw115489645969114190:Unit:=()
noncomputable def PySem.W.Fast.tw13046485647996364380:Unit:=()
noncomputable def PySem.W.Fast.tw15135346158189450109:Unit:=()
noncomputable def PySem.W.Fast.tw16681717993489176379:Unit:=()
noncomputable def PySem.W.Fast.tw3272181437705572370:Unit:=()
noncomputable def PySem.W.Fast.tw5245627948320417017:Unit:=()
noncomputable def PySem.W.Fast.tw3575372174059158051:Unit:=()
noncomputable def PySem.W.Fast.tw16245697511166602646:Unit:=()
noncomputable def PySem.W.Fast.tw5755289897754891727:Unit:=()
noncomputable def PySem.W.Fast.tw5170995839164136365:Unit:=()
noncomputable def PySem.W.Fast.tw3848056806614756309:Unit:=()
noncomputable def PySem.W.Fast.tw11313209012047567551:Unit:=()
noncomputable def PySem.W.Fast.tw10346397066192277865:Unit:=()
noncomputable def PySem.W.Fast.tw10013892857233956137:Unit:=()
noncomputable def PySem.W.Fast.tw18315912664797106859:Unit:=()
noncomputable def PySem.W.Fast.tw2504294253199140550:Unit:=()
set_option maxRecDepth 100000 in
set_option maxHeartbeats 0 in
theorem PySem.Challenge.cw_windchest_k40_whole_two_consoles_holds : PySem.Challenge.rw_windchest_k40_whole_two_consoles.Holds := by
 w_on; o_law; k_head; (case hw=>w_witness2)
 k_fill
 refine K40.walk (l:=PySem.Challenge.rw_windchest_k40_whole_two_consoles) rfl rfl (fun w h Y=>PySem.W.kIn_of Y) ?F
 case F =>
  intro w mg fa h KX G hmg
  refine' K40.XS KX G hmg ?_ ?_ ?_ ?_ ?_ ?_ ?_ ?_ ?_ ?_ ?_ ?_ ?_ ?_ ?_ ?_ ?_ ?_ ?_ ?_ ?_ ?_ ?_ ?_ ?_ ?_ ?_ ?_ ?_ ?_ ?_ ?_ ?_ ?_ ?_ ?_ ?_ ?_ ?_ ?_ ?_ ?_ ?_ ?_ ?_ ?_ ?_ ?_ ?_ ?_ ?_ ?_ ?_ ?_ ?_ ?_ ?_ ?_ ?_ ?_ ?_ ?_ ?_ ?_ ?_ ?_ ?_ ?_ ?_ ?_ ?_ ?_ ?_ ?_ ?_ ?_ ?_ ?_ ?_ ?_ ?_ ?_ ?_ ?_ ?_ ?_ ?_ ?_ ?_ ?_ ?_ ?_ ?_ ?_ ?_ ?_ ?_ ?_ ?_ ?_ ?_ ?_ ?_ ?_ ?_ ?_ ?_ ?_ ?_ ?_ ?_ ?_ ?_ ?_ ?_ ?_ ?_ ?_ ?_ ?_ ?_ ?_ ?_ ?_ ?_ ?_ ?_ ?_ ?_ ?_ ?_ ?_ ?_ ?_ ?_ ?_ ?_ ?_ ?_ ?_ ?_ ?_ ?_ ?_ ?_ ?_ ?_ ?_ ?_ ?_ ?_ ?_ ?_ ?_ ?_ ?_ ?_ ?_ ?_ ?_ ?_ ?_ ?_ ?_ ?_ ?_ ?_ ?_ ?_ ?_ ?_ ?_ ?_ ?_ ?_ ?_ ?_ ?_ ?_ ?_ ?_ ?_ ?_ ?_ ?_ ?_ ?_ ?_ ?_ ?_ ?_ ?_ ?_ ?_ ?_ ?_ ?_ ?_ ?_ ?_ ?_ ?_ ?_
  all_goals first | (k_is; done) | (refine' ⟨?a,_,L2.N5 ?l ?c ?k⟩; (case a=>k_is); (case l=>k_is); (case c=>k_is); case k=>k_is) | (refine' ⟨?a,?i,_,L2.N5 ?l ?c ?k⟩; (case a=>k_is); (case i=>k_is); (case l=>k_is); (case c=>k_is); case k=>k_is) | (k_keys; done) | decide | kernel_rfl! | skip
end PartK40z
