import PyProof.Rows.All
import Wide.All
import OpenK.AllK
import Wide.FinOn
import Lean
import PyProof.EqAt
import PyProof.EqKinds
import PyProof.TupleCall
import PySem.Challenge.RW_notefall_k75_texts_that_are_no_body
set_option Elab.async false
set_option maxRecDepth 100000 in
set_option maxHeartbeats 0 in
theorem su.MK:PySem.W.OpenLaw.wellSaid PySem.Challenge.rw_notefall_k75_texts_that_are_no_body=true:=by kernel_rfl
set_option Elab.async false
set_option linter.all false
set_option maxRecDepth 100000
namespace L2
open PySem PySem.Spec PyProof.Rows
abbrev Key:=Sum Int Str
def vN:Key->Value->Bool
 | .inl k,v=>Value.isInt k v
 | .inr x,v=>Value.isStrOf x v
def Sw (w:World):Key->Int
 | .inl k=>hashInt k
 | .inr x=>hashStr w x
theorem dM:∀ {k:Key} {v:Value},vN k v=true->(∃ i t,k=Sum.inl i/\v=Value.int i t)∨(∃ x t,k=Sum.inr x/\v=Value.str x t)
 | .inl i,v,h=>by
   obtain ⟨t,e⟩:=Value.isInt_shape (k:=i) (v:=v) h
   exact .inl ⟨i,t,rfl,e⟩
 | .inr x,v,h=>by
   obtain ⟨t,e⟩:=Value.isStrOf_shape (x:=x) (v:=v) h
   exact .inr ⟨x,t,rfl,e⟩
theorem CM (i:Int) (t:Tok):vN (.inl i) (.int i t)=true:=by simp [vN,Value.isInt]
theorem CN (x:Str) (t:Tok):vN (.inr x) (.str x t)=true:=by simp [vN,Value.isStrOf]
theorem Kc (a b:Int):decide ((Sum.inl a:Key)=Sum.inl b)=(a==b):=by
 by_cases e:a=b
 . subst e;simp
 . have h:¬ (Sum.inl a:Key)=Sum.inl b:=fun q=>e (Sum.inl.inj q)
   rw [decide_eq_false h]
   exact (beq_eq_false_iff_ne.mpr e).symm
theorem Kd (a b:Str):decide ((Sum.inr a:Key)=Sum.inr b)=decide (a=b):=by
 by_cases e:a=b
 . subst e;simp
 . have h:¬ (Sum.inr a:Key)=Sum.inr b:=fun q=>e (Sum.inr.inj q)
   rw [decide_eq_false h,decide_eq_false e]
theorem Ke (a:Int) (b:Str):decide ((Sum.inl a:Key)=Sum.inr b)=false:=decide_eq_false (fun q=>nomatch q)
theorem Kf (a:Str) (b:Int):decide ((Sum.inr a:Key)=Sum.inl b)=false:=decide_eq_false (fun q=>nomatch q)
def dZ (prog:Program) (w:World):PySem.KeyKind prog w Key where
 is:=vN
 hash:=Sw w
 inj:=fun v a b ha hb=>by
   rcases dM ha with ⟨i,t,rfl,rfl⟩ | ⟨x,t,rfl,rfl⟩
   . rcases dM hb with ⟨j,u,rfl,e⟩ | ⟨y,u,rfl,e⟩
     . injection e with e1 _;rw [e1]
     . exact nomatch e
   . rcases dM hb with ⟨j,u,rfl,e⟩ | ⟨y,u,rfl,e⟩
     . exact nomatch e
     . injection e with e1 _;rw [e1]
 byValue:=fun k v h=>by
   rcases dM h with ⟨i,t,rfl,rfl⟩ | ⟨x,t,rfl,rfl⟩ <;> rfl
 pyHash:=fun hv h=>by
   rcases dM hv with ⟨i,t,rfl,rfl⟩ | ⟨x,t,rfl,rfl⟩
   . exact wpAny_pyHash_int h
   . exact wpAny_pyHash_str h
 eqBool:=fun hu hv h=>by
   rcases dM hu with ⟨i,t,rfl,rfl⟩ | ⟨x,t,rfl,rfl⟩
   . rcases dM hv with ⟨j,u,rfl,rfl⟩ | ⟨y,u,rfl,rfl⟩
     . rw [Kc] at h;exact wpAny_eqBool_int h
     . rw [Ke] at h;exact SeqAt.EqAt.int_str i t y u _ _ _ _ h
   . rcases dM hv with ⟨j,u,rfl,rfl⟩ | ⟨y,u,rfl,rfl⟩
     . rw [Kf] at h;exact SeqAt.EqAt.str_int x t j u _ _ _ _ h
     . rw [Kd] at h;exact wpAny_eqBool_str h
 «strs»:=fun k x t v h=>by
   rcases dM h with ⟨i,u,rfl,e⟩ | ⟨y,u,rfl,e⟩
   . exact nomatch e
   . injection e with e1 _
     subst e1
     cases v <;> rfl
theorem zc (prog:Program) (w:World) (i:Int) (t:Tok):(dZ prog w).is (.inl i) (.int i t)=true:=CM i t
theorem zd (prog:Program) (w:World) (x:Str) (t:Tok):(dZ prog w).is (.inr x) (.str x t)=true:=CN x t
end L2
namespace L2
open PySem PySem.Spec PyProof.Rows
inductive V where
 | cQ | bl (b:Bool) | int (i:Int) | str (x:Str) | CO (b:Array UInt8) | Me (b:UInt64) | ref (a:Addr) | ty (n:String)
 deriving DecidableEq
def RelV:V->Value->Prop
 | .cQ,u=>u=Value.none
 | .bl b,u=>u=Value.bool b
 | .int i,u=>∃ t,u=Value.int i t
 | .str x,u=>∃ t,u=Value.str x t
 | .CO b,u=>∃ t,u=Value.bytes b t
 | .Me b,u=>∃ t,u=Value.float b t
 | .ref a,u=>u=Value.ref a
 | .ty n,u=>u=Value.type n
abbrev Vals:List V->List Value->Prop:=Paired RelV
theorem Vals.length {xs:List V} {us:List Value} (r:Vals xs us):xs.length=us.length:=Paired.length r
theorem Vals.get:∀ {xs:List V} {us:List Value} {i:Nat} {x:V},Vals xs us->xs[i]?=some x->∃ u,us[i]?=some u/\RelV x u
 | _,_,_,_,.nil,e=>by simp at e
 | _,_,0,_,.cons r _,e=>by simp at e;subst e;exact ⟨_,rfl,r⟩
 | _,_,i + 1,x,.cons _ t,e=>by
   obtain ⟨u,h1,h2⟩:=Vals.get (i:=i) (x:=x) t (by simpa using e)
   exact ⟨u,by simpa using h1,h2⟩
theorem Vals.set {x:V} {u:Value} (r:RelV x u):∀ {xs:List V} {us:List Value} (i:Nat),Vals xs us->Vals (xs.set i x) (us.set i u)
 | _,_,_,.nil=>.nil
 | _,_,0,.cons _ t=>.cons r t
 | _,_,i + 1,.cons q t=>.cons q (Vals.set r i t)
theorem Vals.append:∀ {xs ys:List V} {us ws:List Value},Vals xs us->Vals ys ws->Vals (xs++ys) (us++ws)
 | _,_,_,_,.nil,s=>s
 | _,_,_,_,.cons r t,s=>.cons r (Vals.append t s)
theorem Vals.take:∀ {xs:List V} {us:List Value} (n:Nat),Vals xs us->Vals (xs.take n) (us.take n)
 | _,_,0,_=>.nil
 | _,_,_ + 1,.nil=>.nil
 | _,_,n + 1,.cons r t=>.cons r (Vals.take n t)
theorem Vals.drop:∀ {xs:List V} {us:List Value} (n:Nat),Vals xs us->Vals (xs.drop n) (us.drop n)
 | _,_,0,r=>r
 | _,_,_ + 1,.nil=>.nil
 | _,_,n + 1,.cons _ t=>Vals.drop n t
def tW:Option V->Option Value->Prop
 | some v,some u=>RelV v u
 | none,none=>True
 | _,_=>False
def KV {κ:Type}:List (κ×V)->List (κ×Value)->Prop:=Paired fun (p:κ×V) (q:κ×Value)=>p.1=q.1/\RelV p.2 q.2
def kV:Key->V
 | .inl i=>.int i
 | .inr x=>.str x
inductive HO where
 | lst (xs:List V)
 | tup (xs:List V)
 | dK (aO:List (Key×V)) | dT (aO:List (List Key×V))
 | set (S:Int->Bool) (n:Nat)
 | ins (C dx:Addr) (fs:List (Str×V))
 | own (x:Addr)
 | xd (fs:List (Str×V))
 | met (f x:Addr)
 | Sx (lo hi:Int)
 | vf (o:Obj) (u:HO)
 | Ei (ps:Array Value)
 | ext (φ:Heap->Prop)
abbrev Hp:=Addr->Option HO
def upd (H:Hp) (a:Addr) (o:HO):Hp:=fun b=>if b=a then some o else H b
theorem ah {H:Hp} {a:Addr} {o:HO}:upd H a o a=some o:=by unfold upd;rw [if_pos rfl]
theorem aV {H:Hp} {a b:Addr} {o:HO} (h:b≠a):upd H a o b=H b:=by unfold upd;rw [if_neg h]
theorem Jt {H:Hp} {a b:Addr} {o u:HO} (h:H a=some o) (h':H b=some u) (d:o≠u):a≠b:=by
 intro e;subst e;rw [h] at h';exact d (Option.some.inj h')
theorem bq {H:Hp} {a b:Addr} {o:HO} (h:H a=some o) (h':H b=none):a≠b:=by
 intro e;subst e;rw [h] at h';cases h'
section
variable (P:Program) (w:World)
def dW (H:Hp) (h:Heap) (a:Addr):HO->Prop
 | .lst xs=>xs.length<=sizeLine/\∃ (its:List Value) (n:Nat),Vals xs its/\h.get? a=some { cls:=.type "list",data:=.seq its.toArray n }
 | .tup xs=>xs.length<=sizeLine/\∃ its:List Value,Vals xs its/\IsTup h a its.toArray
 | .dK aO=>aO.length<=sizeLine/\(a==sysModules)=false/\∃ vs,KV aO vs/\h.DictOf (dZ P w) a vs
 | .dT aO=>aO.length<=sizeLine/\(a==sysModules)=false/\∃ xs:List (List Key×Addr×Value),
     Paired (fun (p:List Key×V) (q:List Key×Addr×Value)=>p.1=q.1/\H q.2.1=some (.tup (p.1.map kV))/\RelV p.2 q.2.2) aO xs/\
     ∃ o es ep,h.get? a=some o/\o.ExactDict/\o.data=.dict es ep/\es.toList=xs.map (entryOfKey (tupleKind (dZ P w)))/\(xs.map (·.1)).Nodup
 | .set S n=>h.SetOf (intKind P w) a S n
 | .ins C dx fs=>H dx=some (.own a)/\fs.length<=1000/\dx≠a/\h.get? a=some (PySem.W.instObj C dx)/\
     ∃ mA,h.Ns1 dx mA/\(∀ f,tW (fs.lookup f) (mA f))/\PySem.Within mA (fs.map (·.1))
 | .own _=>∃ o,h.get? a=some o
 | .xd fs=>∃ mA,h.Ns1 a mA/\∀ f,tW (fs.lookup f) (mA f)
 | .Sx lo hi=>∃ t u v,h.get? a=some { cls:=.type "range",data:=.fields #[.int lo t,.int hi u,.int 1 v] }
 | .vf o u=>h.get? a=some o/\dW H h a u
 | .Ei ps=>h.get? a=some { cls:=.none,data:=.fields ps }
 | .met f x=>h.get? a=some (PySem.W.methodObj (.ref f) (.ref x))
 | .ext φ=>φ h/\(∃ o,h.get? a=some o)/\∀ h1 h2:Heap,φ h1->(∀ o,h1.get? a=some o->h2.get? a=some o)->φ h2
def oU (H:Hp) (h:Heap):Prop:=∀ a o,H a=some o->dW P w H h a o
end
section
variable {P:Program} {w:World} {H H':Hp} {h h':Heap} {a:Addr} {o:HO}
theorem dW.lt (x:dW P w H h a o):a < h.objs.size:=by
 cases o with
 | lst xs=>obtain ⟨_,_,_,_,e⟩:=x;exact Heap.lt_size e
 | tup xs=>obtain ⟨_,_,_,p⟩:=x;exact p.lt
 | dK aO=>obtain ⟨_,_,_,_,o,_,_,e,_⟩:=x;exact Heap.lt_size e
 | dT aO=>obtain ⟨_,_,_,_,o,_,_,e,_⟩:=x;exact Heap.lt_size e
 | set S n=>obtain ⟨o,_,_,_,e,_⟩:=x;exact Heap.lt_size e
 | ins C dx fs=>obtain ⟨_,_,_,e,_⟩:=x;exact Heap.lt_size e
 | own y=>obtain ⟨_,e⟩:=x;exact Heap.lt_size e
 | xd fs=>obtain ⟨_,⟨_,_,_,e,_⟩,_⟩:=x;exact Heap.lt_size e
 | Sx lo hi=>obtain ⟨_,_,_,e⟩:=x;exact Heap.lt_size e
 | vf ob u=>obtain ⟨e,_⟩:=x;exact Heap.lt_size e
 | Ei ps=>exact Heap.lt_size (show h.get? a=some _ from x)
 | met f y=>exact Heap.lt_size (show h.get? a=some _ from x)
 | ext φ=>obtain ⟨_,⟨_,e⟩,_⟩:=x;exact Heap.lt_size e
theorem Paired.Kg {α β:Type} {F G:α->β->Prop}:∀ {l₁:List α} {l₂:List β},Paired F l₁ l₂->(∀ a b,F a b->G a b)->Paired G l₁ l₂
 | _,_,.nil,_=>.nil
 | _,_,.cons r t,f=>.cons (f _ _ r) (Paired.Kg t f)
theorem dW.sy (x:dW P w H h a o) (k:∀ b u,(b=a∨H b=some (.own a))->h.get? b=some u->h'.get? b=some u)
   (ho:∀ b,H b=some (.own a)->H' b=some (.own a)) (ht:∀ b xs,H b=some (.tup xs)->H' b=some (.tup xs)):dW P w H' h' a o:=by
 induction o with
 | lst xs=>obtain ⟨z,its,n,r,e⟩:=x;exact ⟨z,its,n,r,k _ _ (.inl rfl) e⟩
 | tup xs=>obtain ⟨z,its,r,ob,e,c⟩:=x;exact ⟨z,its,r,ob,k _ _ (.inl rfl) e,c⟩
 | dK aO=>obtain ⟨z,y,vs,r,ob,es,ep,e,c⟩:=x;exact ⟨z,y,vs,r,ob,es,ep,k _ _ (.inl rfl) e,c⟩
 | dT aO=>
   obtain ⟨z,y,xs,r,ob,es,ep,e,c⟩:=x
   exact ⟨z,y,xs,Paired.Kg r fun p q z=>⟨z.1,ht _ _ z.2.1,z.2.2⟩,ob,es,ep,k _ _ (.inl rfl) e,c⟩
 | set S n=>obtain ⟨ob,es,ep,t,e,c⟩:=x;exact ⟨ob,es,ep,t,k _ _ (.inl rfl) e,c⟩
 | ins C dx fs=>
   obtain ⟨d,z,ne,e,mA,⟨od,es,ep,e2,c⟩,r⟩:=x
   exact ⟨ho _ d,z,ne,k _ _ (.inl rfl) e,mA,⟨od,es,ep,k _ _ (.inr d) e2,c⟩,r⟩
 | own y=>obtain ⟨ob,e⟩:=x;exact ⟨ob,k _ _ (.inl rfl) e⟩
 | xd fs=>obtain ⟨mA,⟨od,es,ep,e,c⟩,r⟩:=x;exact ⟨mA,⟨od,es,ep,k _ _ (.inl rfl) e,c⟩,r⟩
 | Sx lo hi=>obtain ⟨t,u,v,e⟩:=x;exact ⟨t,u,v,k _ _ (.inl rfl) e⟩
 | vf ob u ih=>obtain ⟨e,q⟩:=x;exact ⟨k _ _ (.inl rfl) e,ih q⟩
 | Ei ps=>
   have e:h.get? a=some { cls:=.none,data:=.fields ps }:=x
   show h'.get? a=some { cls:=.none,data:=.fields ps }
   exact k a _ (.inl rfl) e
 | met f y=>
   have e:h.get? a=some (PySem.W.methodObj (.ref f) (.ref y)):=x
   show h'.get? a=some (PySem.W.methodObj (.ref f) (.ref y))
   exact k a _ (.inl rfl) e
 | ext φ=>obtain ⟨p,⟨o,e⟩,st⟩:=x;exact ⟨st _ _ p fun o q=>k _ _ (.inl rfl) q,⟨o,k _ _ (.inl rfl) e⟩,st⟩
theorem oU.lt (x:oU P w H h) (e:H a=some o):a < h.objs.size:=(x a o e).lt
theorem oU.fresh (x:oU P w H h) (e:h.objs.size<=a):H a=none:=by
 cases q:H a with
 | none=>rfl
 | some u=>exact absurd (Nat.lt_of_lt_of_le (x.lt q) e) (Nat.lt_irrefl _)
theorem oU.kept (x:oU P w H h) (k:∀ b u,h.get? b=some u->h'.get? b=some u):oU P w H h':=fun a o e=>
 (x a o e).sy (fun b u _ q=>k b u q) (fun _ q=>q) fun _ _ q=>q
theorem oU.laid (x:oU P w H h) (k:∀ b u,h.get? b=some u->h'.get? b=some u) (hp:h.objs.size<=a) (new:dW P w (upd H a o) h' a o):oU P w (upd H a o) h':=fun b u e=>by
 have hn:=x.fresh hp
 by_cases hb:b=a
 . subst hb;rw [ah] at e;cases e;exact new
 . rw [aV hb] at e
   exact (x b u e).sy (fun c v _ q=>k c v q) (fun c q=>by rw [aV (bq q hn)];exact q) fun c xs q=>by rw [aV (bq q hn)];exact q
end
def Rd (H:Hp) (a:Addr) (u:HO):Prop:=H a=some u∨∃ o,H a=some (.vf o u)
theorem Rd.ok {P:Program} {w:World} {H:Hp} {h:Heap} {a:Addr} {u:HO} (r:Rd H a u) (x:oU P w H h):dW P w H h a u:=by
 rcases r with r | ⟨o,r⟩
 . exact x a u r
 . obtain ⟨_,q⟩:=x a _ r
   exact q
def ML:Option HO->Prop
 | some (.lst _)=>True
 | some (.dK _)=>True
 | some (.dT _)=>True
 | some (.set _ _)=>True
 | some (.ins _ _ _)=>True
 | some (.ext _)=>True
 | _=>False
section
variable {P:Program} {w:World} {H:Hp} {h h':Heap} {x e:Addr} {o':HO}
theorem oU.write (ok:oU P w H h) (mu:ML (H x)) (he:e=x∨H e=some (.own x)) (k:∀ b u,b≠e->h.get? b=some u->h'.get? b=some u) (Mf:∃ u,h'.get? e=some u)
   (new:dW P w (upd H x o') h' x o'):oU P w (upd H x o') h':=fun b u q=>by
 have MM:∀ c y,H c=some (.own y)->c≠x:=fun c y r z=>by subst z;rw [r] at mu;exact mu
 have Sy:∀ c xs,H c=some (.tup xs)->c≠x:=fun c xs r z=>by subst z;rw [r] at mu;exact mu
 by_cases hb:b=x
 . subst hb;rw [ah] at q;cases q;exact new
 . rw [aV hb] at q
   by_cases hbe:b=e
   . have q':H b=some (.own x):=by
       rcases he with z | z
       . exact absurd (hbe.trans z) hb
       . rw [hbe];exact z
     rw [q] at q';cases q'
     obtain ⟨v,hv⟩:=Mf
     exact ⟨v,by rw [hbe];exact hv⟩
   . refine (ok b u q).sy (fun c v hc r=>k c v ?_ r) (fun c r=>by rw [aV (MM c b r)];exact r) fun c xs r=>by rw [aV (Sy c xs r)];exact r
     rcases hc with rfl | hc
     . exact hbe
     . rintro rfl
       rcases he with z | z
       . exact MM c b hc z
       . rw [hc] at z;cases z;exact hb rfl
end
structure Un (fs ex:List Addr) (H H':Hp) (h h':Heap):Prop where
 keep:∀ b o,h.get? b=some o->H b=none->b∉fs->b∉ex->h'.get? b=some o
 slot:∀ b o,h.get? b=some o->H b=none->b∈fs->b∉ex->∃ sl,h'.get? b=some { o with slots:=sl }
 free:∀ b o,h.get? b=some o->H b=none->b∉ex->H' b=none
 there:∀ b o,h.get? b=some o->b∉ex->∃ o',h'.get? b=some o'
 pB:∀ b xs,H b=some (.tup xs)->H' b=some (.tup xs)
 oW:∀ b o u,H b=some (.vf o u)->H' b=some (.vf o u)
 pF:∀ b ps,H b=some (.Ei ps)->∃ more,H' b=some (.Ei (ps++more))
section
variable {fs fs' ex ex':List Addr} {H H1 H2:Hp} {h h1 h2 h':Heap} {a x e:Addr} {o:HO}
theorem Un.any (u:Un fs ex H H1 h h1) {b:Addr} {ob:Obj} (q:h.get? b=some ob) (n:H b=none) (hx:b∉ex):∃ sl,h1.get? b=some { ob with slots:=sl }:=by
 by_cases hb:b∈fs
 . exact u.slot b ob q n hb hx
 . exact ⟨ob.slots,u.keep b ob q n hb hx⟩
theorem Un.trans (a:Un fs ex H H1 h h1) (b:Un fs ex H1 H2 h1 h2):Un fs ex H H2 h h2 where
 keep:=fun c ob q n hc hx=>b.keep c ob (a.keep c ob q n hc hx) (a.free c ob q n hx) hc hx
 slot:=fun c ob q n hc hx=>by
   obtain ⟨sl,e1⟩:=a.slot c ob q n hc hx
   obtain ⟨sl',e2⟩:=b.slot c _ e1 (a.free c ob q n hx) hc hx
   exact ⟨sl',e2⟩
 free:=fun c ob q n hx=>by
   obtain ⟨o',e1⟩:=a.there c ob q hx
   exact b.free c o' e1 (a.free c ob q n hx) hx
 there:=fun c ob q hx=>by
   obtain ⟨o',e1⟩:=a.there c ob q hx
   exact b.there c o' e1 hx
 pB:=fun c xs q=>b.pB c xs (a.pB c xs q)
 oW:=fun c ob xs q=>b.oW c ob xs (a.oW c ob xs q)
 pF:=fun c ps q=>by
   obtain ⟨m1,e1⟩:=a.pF c ps q
   obtain ⟨m2,e2⟩:=b.pF c _ e1
   exact ⟨m1++m2,by rw [e2,Array.append_assoc]⟩
theorem Un.kept (k:∀ b u,h.get? b=some u->h'.get? b=some u):Un fs ex H H h h':=
 ⟨fun b ob q _ _ _=>k b ob q,fun b ob q _ _ _=>⟨ob.slots,k b ob q⟩,fun _ _ _ n _=>n,fun b ob q _=>⟨ob,k b ob q⟩,fun _ _ q=>q,fun _ _ _ q=>q,fun _ ps q=>⟨#[],by rw [q];simp⟩⟩
theorem Un.refl:Un fs ex H H h h:=Un.kept fun _ _ q=>q
theorem Un.laid (k:∀ b u,h.get? b=some u->h'.get? b=some u) (hp:h.objs.size<=a) (hn:H a=none):Un fs ex H (upd H a o) h h' where
 keep:=fun b u q _ _ _=>k b u q
 slot:=fun b u q _ _ _=>⟨u.slots,k b u q⟩
 free:=fun b u q n _=>by rw [aV (Nat.ne_of_lt (Nat.lt_of_lt_of_le (Heap.lt_size q) hp))];exact n
 there:=fun b u q _=>⟨u,k b u q⟩
 pB:=fun b xs q=>by rw [aV (bq q hn)];exact q
 oW:=fun b u xs q=>by rw [aV (bq q hn)];exact q
 pF:=fun b ps q=>⟨#[],by rw [aV (bq q hn),q];simp⟩
theorem Un.write (mu:ML (H x)) (he:e=x∨H e=some (.own x)) (k:∀ b u,b≠e->h.get? b=some u->h'.get? b=some u) (Mf:∃ u,h'.get? e=some u):Un fs ex H (upd H x o) h h':=by
 have hx:∀ b,H b=none->b≠x:=fun b n z=>by subst z;rw [n] at mu;exact mu
 have hb:∀ b,H b=none->b≠e:=fun b n z=>by
   subst z
   rcases he with r | r
   . exact hx b n r
   . rw [n] at r;cases r
 have hm:∀ b u,H b=some u->¬ ML (some u)->b≠x:=fun b u q nm z=>by subst z;rw [q] at mu;exact nm mu
 refine ⟨fun b u q n _ _=>k b u (hb b n) q,fun b u q n _ _=>⟨u.slots,k b u (hb b n) q⟩,fun b u q n _=>by rw [aV (hx b n)];exact n,fun b u q _=>?_,
   fun b xs q=>by rw [aV (hm b _ q fun z=>z)];exact q,fun b u xs q=>by rw [aV (hm b _ q fun z=>z)];exact q,fun b ps q=>⟨#[],by rw [aV (hm b _ q fun z=>z),q];simp⟩⟩
 by_cases hbe:b=e
 . subst hbe;exact Mf
 . exact ⟨u,k b u hbe q⟩
end
def P0 (h:Heap) (H:Hp):List Addr:=(List.range h.objs.size).filter fun a=>(H a).isSome
def wJ (h:Heap) (H:Hp):Heap:=PySem.W.hideAll h (P0 h H)
theorem CP (h:Heap) (H:Hp):(wJ h H).objs.size=h.objs.size:=PySem.W.hideAll_size _ _
theorem Ej {h:Heap} {H:Hp} {b:Addr} {o:Obj} (e:h.get? b=some o) (n:H b=none):(wJ h H).get? b=some o:=
 PySem.W.hideAll_get _ e fun hm=>by
   have q:(H b).isSome=true:=(List.mem_filter.mp hm).2
   rw [n] at q;simp at q
theorem Hz {h:Heap} {H:Hp} {b:Addr} {o:Obj} (e:(wJ h H).get? b=some o):h.get? b=some o/\H b=none:=by
 have e':h.get? b=some o:=PySem.W.of_hideAll (P0 h H) e
 refine ⟨e',?_⟩
 cases q:H b with
 | none=>rfl
 | some x=>
   have hm:b∈P0 h H:=List.mem_filter.mpr ⟨List.mem_range.mpr (Heap.lt_size e'),by simp [q]⟩
   have z:(wJ h H).get? b=none:=PySem.W.hideAll_none (P0 h H) hm
   rw [z] at e;cases e
end L2
namespace L2
open PySem PySem.Spec PyProof.Rows
structure Mod (K:PySem.W.Frag) (mg:Str->Option Value) (base:Heap):Prop where
 Ju:K.In base
 glob:base.Ns mainGlobals mg
 blt:∃ mb,base.Ns builtinsNs mb/\∀ x:Str,x≠"__name__"->mb x=bootBuiltins x
 nolimit:base.NoLimit
structure Cx where
 prog:Program
 w:World
 K:PySem.W.Frag
 mg:Str->Option Value
 base:Heap
 A:Around
 N:List Str
 s₀:Shared
 H₀:Hp
 env:Env
 outer:List Env
 stack:List Env
 ex:List Addr
 fn:Str->Bool
 calm:Bool
 pn:List (Addr×Obj)
 xe:Value->Shared->Prop
def oj (l:List Env):List Addr:=l.filterMap (·.frame)
abbrev Cx.fs (X:Cx):List Addr:=oj X.outer
def MN (sc:Scope) (x:Str):Prop:=sc.names.lookup x=some .local∨sc.names.lookup x=some .cell∨sc.names.lookup x=some .free
def Loc (sc:Scope) (x:Str):Prop:=sc.names.lookup x=some .local∨sc.names.lookup x=some .cell
def Look (env:Env) (h:Heap) (m:Str->Option Value) (x:Str) (u:Value):Prop:=
 (env.kindOf x=some .local/\m x=some u)∨((env.kindOf x=some .cell∨env.kindOf x=some .free)/\∃ c,env.cells.lookup x=some c/\h.IsCell c (some u))
structure Cx.Ok (X:Cx):Prop where
 mod:Mod X.K X.mg X.base
 kind:X.env.scope.kind=.function
 glob:X.env.globals=mainGlobals
 blt:X.env.builtins=builtinsNs
 above:X.s₀.heap.objs.size<=X.env.locals
 inj:∀ x y c,X.env.cells.lookup x=some c->X.env.cells.lookup y=some c->x=y
 has:∀ x,(X.env.kindOf x=some .cell∨X.env.kindOf x=some .free)->∃ c,X.env.cells.lookup x=some c
 HF:∀ x c,X.fn x=true->X.env.cells.lookup x=some c->X.s₀.heap.objs.size<=c
 hd:X.calm=true->X.A.handled=none
 frames:X.A.frames=some X.stack
 Jv:X.stack=X.outer∨(X.stack=X.env::X.outer/\X.env.frame=some X.env.locals)
 Mg:∀ b∈X.ex,b≠X.env.locals/\∀ x c,X.env.cells.lookup x=some c->c≠b
 bs:∀ b o,X.base.get? b=some o->X.s₀.heap.get? b=some o/\X.H₀ b=none
 Ec:X.base.objs.size<=X.s₀.heap.objs.size
 wK:∀ b o,X.base.get? b=some o->b∉X.ex
 ze:∀ b∈X.ex,b∉X.fs
 m5:X.s₀.heap.FunFrames X.base X.outer
 Ek:∀ b∈X.fs,X.H₀ b=none
structure Inv (X:Cx) (pins:List (Addr×Obj)) (σ:List (Option V)) (H:Hp) (s:Shared):Prop where
 ok:X.Ok
 os:s.os=X.s₀.os
 bare:AllBare s.gens
 base:Un X.fs X.ex X.H₀ H X.s₀.heap s.heap
 loc:∃ m,s.heap.Ns X.env.locals m/\∀ (i:Nat) (x:Str) (v:V),X.N[i]?=some x->σ[i]?=some (some v)->MN X.env.scope x->∃ u,RelV v u/\Look X.env s.heap m x u
 cell:∀ x c,X.env.cells.lookup x=some c->∃ v,s.heap.IsCell c v
 free:H X.env.locals=none
 jT:∀ x c,X.env.cells.lookup x=some c->H c=none
 pin:∀ p∈X.pn++pins,s.heap.get? p.1=some p.2/\H p.1=none/\p.1≠X.env.locals/\p.1∉X.fs/\∀ v,p.2.data≠.cell v
 dz:oU X.prog X.w H s.heap
 len:σ.length=X.N.length
section
variable {X:Cx} {pins:List (Addr×Obj)} {σ:List (Option V)} {H H':Hp} {s:Shared} {h':Heap}
theorem Cx.Ok.Sz (ok:X.Ok) {b:Addr} {o:Obj} (e:X.base.get? b=some o):b∉X.fs:=fun hb=>by
 have:=(ok.m5.mem hb).1
 rw [e] at this;cases this
theorem Inv.bs (I:Inv X pins σ H s):∀ b o,X.base.get? b=some o->s.heap.get? b=some o/\H b=none:=fun b o e=>
 ⟨I.base.keep b o (I.ok.bs b o e).1 (I.ok.bs b o e).2 (I.ok.Sz e) (I.ok.wK b o e),I.base.free b o (I.ok.bs b o e).1 (I.ok.bs b o e).2 (I.ok.wK b o e)⟩
theorem Inv.bk (I:Inv X pins σ H s):∀ b o,X.base.get? b=some o->s.heap.get? b=some o:=fun b o e=>(I.bs b o e).1
theorem Inv.mod (I:Inv X pins σ H s):Mod X.K X.mg X.base:=I.ok.mod
theorem Inv.sX (I:Inv X pins σ H s):X.K.In s.heap:=I.ok.mod.Ju.keeps I.bk
theorem Inv.lt (I:Inv X pins σ H s):X.env.locals < s.heap.objs.size:=let ⟨_,hn,_⟩:=I.loc;hn.lt
theorem Inv.sz (I:Inv X pins σ H s):X.s₀.heap.objs.size<=s.heap.objs.size:=Nat.le_trans I.ok.above (Nat.le_of_lt I.lt)
theorem Inv.MO (I:Inv X pins σ H s) {a:Addr} (h:s.heap.objs.size<=a):a∉X.fs:=fun hb=>by
 obtain ⟨_,o,ho,_⟩:=I.ok.m5.mem hb
 exact absurd (Nat.lt_of_lt_of_le (Heap.lt_size ho) (Nat.le_trans I.sz h)) (Nat.lt_irrefl _)
theorem Inv.Kh (I:Inv X pins σ H s):∀ x c,X.env.cells.lookup x=some c->c≠X.env.locals:=fun x c e z=>by
 obtain ⟨v,o,ho,hd⟩:=I.cell x c e
 obtain ⟨m,⟨o',es,ep,El,hd',_⟩,_⟩:=I.loc
 rw [z,El] at ho;cases ho;rw [hd'] at hd;cases hd
theorem Inv.m5 (I:Inv X pins σ H s):s.heap.FunFrames X.base X.outer:=by
 have all:∀ (l:List Env),(∀ b∈oj l,b∈X.fs)->X.s₀.heap.FunFrames X.base l->s.heap.FunFrames X.base l:=by
   intro l
   induction l with
   | nil=>intro _ _;trivial
   | cons env r ih=>
     intro hs hl
     obtain ⟨hk,⟨L,o,hf,hn,ho,hd⟩,hr⟩:=hl
     have hL:L∈X.fs:=hs L (by unfold oj;rw [List.filterMap_cons,hf];exact List.mem_cons_self)
     obtain ⟨sl,e⟩:=I.base.slot L o ho (I.ok.Ek L hL) hL fun z=>I.ok.ze L z hL
     exact ⟨hk,⟨L,_,hf,hn,e,hd⟩,ih (fun b hb=>hs b (by unfold oj;rw [List.filterMap_cons,hf];exact List.mem_cons_of_mem _ hb)) hr⟩
 exact all X.outer (fun _ hb=>hb) I.ok.m5
theorem Inv.stack (I:Inv X pins σ H s):s.heap.FunFrames X.base X.stack:=by
 rcases I.ok.Jv with e | ⟨e,hf⟩
 . rw [e];exact I.m5
 . rw [e]
   obtain ⟨m,hn,_⟩:=I.loc
   refine .cons (by rw [I.ok.kind];decide) hf hn ?_ I.m5
   exact Heap.get?_none_of_le (Nat.le_trans I.ok.Ec I.ok.above)
theorem Inv.tX (I:Inv X pins σ H s):∀ b∈oj X.stack,b∈X.env.locals::X.fs:=fun b hb=>by
 rcases I.ok.Jv with e | ⟨e,hf⟩
 . rw [e] at hb;exact List.mem_cons_of_mem _ hb
 . rw [e] at hb
   unfold oj at hb
   rw [List.filterMap_cons,hf] at hb
   exact hb
theorem Inv.sY (I:Inv X pins σ H s):∀ b∈oj X.stack,H b=none:=fun b hb=>by
 rcases List.mem_cons.mp (I.tX b hb) with e | hb
 . rw [e];exact I.free
 . obtain ⟨_,o,ho,_⟩:=I.ok.m5.mem hb
   exact I.base.free b o ho (I.ok.Ek b hb) fun z=>I.ok.ze b z hb
theorem Inv.step {g':Array GenState} {t':Nat} {d':Drawn} {ch:List Addr} (I:Inv X pins σ H s)
   (Ed:∀ b∈ch,(b∈X.ex∨X.s₀.heap.objs.size<=b)/\b≠X.env.locals/\(∀ x c,X.env.cells.lookup x=some c->c≠b)/\∀ p∈X.pn++pins,p.1≠b)
   (keep:∀ b o,b≠X.env.locals->b∉X.fs->b∉ch->s.heap.get? b=some o->H b=none->h'.get? b=some o)
   (slot:∀ b o,b≠X.env.locals->b∈X.fs->b∉ch->s.heap.get? b=some o->H b=none->∃ sl,h'.get? b=some { o with slots:=sl }) (free:∀ b o,b∉ch->s.heap.get? b=some o->H b=none->H' b=none)
   (there:∀ b o,b∉ch->s.heap.get? b=some o->∃ o',h'.get? b=some o')
   (pB:∀ b xs,H b=some (.tup xs)->H' b=some (.tup xs)) (oW:∀ b o u,H b=some (.vf o u)->H' b=some (.vf o u)) (pF:∀ b ps,H b=some (.Ei ps)->∃ more,H' b=some (.Ei (ps++more)))
   (ns:∀ m,s.heap.Ns X.env.locals m->h'.Ns X.env.locals m) (dz:oU X.prog X.w H' h') (hg:AllBare g'):
   Inv X pins σ H' { s with heap:=h',gens:=g',drawn:=d',toks:=t' }:=by
 have neL:∀ b o,X.s₀.heap.get? b=some o->b≠X.env.locals:=fun b o e=>Nat.ne_of_lt (Nat.lt_of_lt_of_le (Heap.lt_size e) I.ok.above)
 have P1:∀ b o,X.s₀.heap.get? b=some o->b∉X.ex->b∉ch:=fun b o e hx hb=>by
   rcases (Ed b hb).1 with z | z
   . exact hx z
   . exact absurd (Nat.lt_of_lt_of_le (Heap.lt_size e) z) (Nat.lt_irrefl _)
 have cellK:∀ x c,X.env.cells.lookup x=some c->∀ v,s.heap.IsCell c v->h'.IsCell c v:=fun x c e v ⟨o,ho,hd⟩=>by
   have MP:c∉ch:=fun z=>(Ed c z).2.2.1 x c e rfl
   by_cases hc:c∈X.fs
   . obtain ⟨sl,q⟩:=slot c o (I.Kh x c e) hc MP ho (I.jT x c e)
     exact ⟨_,q,hd⟩
   . exact ⟨o,keep c o (I.Kh x c e) hc MP ho (I.jT x c e),hd⟩
 refine ⟨I.ok,I.os,hg,⟨fun b o e n hb hx=>?_,fun b o e n hb hx=>?_,fun b o e n hx=>?_,fun b o e hx=>?_,fun b xs e=>pB b xs (I.base.pB b xs e),fun b o xs e=>oW b o xs (I.base.oW b o xs e),fun b ps e=>?_⟩,?_,fun x c e=>?_,?_,fun x c e=>?_,fun p hp=>?_,dz,I.len⟩
 . exact keep b o (neL b o e) hb (P1 b o e hx) (I.base.keep b o e n hb hx) (I.base.free b o e n hx)
 . obtain ⟨sl,e1⟩:=I.base.slot b o e n hb hx
   obtain ⟨sl',e2⟩:=slot b _ (neL b o e) hb (P1 b o e hx) e1 (I.base.free b o e n hx)
   exact ⟨sl',e2⟩
 . obtain ⟨o',e1⟩:=I.base.there b o e hx
   exact free b o' (P1 b o e hx) e1 (I.base.free b o e n hx)
 . obtain ⟨o',e1⟩:=I.base.there b o e hx
   exact there b o' (P1 b o e hx) e1
 . obtain ⟨m1,e1⟩:=I.base.pF b ps e
   obtain ⟨m2,e2⟩:=pF b _ e1
   exact ⟨m1++m2,by rw [e2,Array.append_assoc]⟩
 . obtain ⟨m,hn,hl⟩:=I.loc
   refine ⟨m,ns m hn,fun i x v e1 e2 e3=>?_⟩
   obtain ⟨u,r,l⟩:=hl i x v e1 e2 e3
   refine ⟨u,r,?_⟩
   rcases l with l | ⟨k,c,e,z⟩
   . exact .inl l
   . exact .inr ⟨k,c,e,cellK x c e _ z⟩
 . obtain ⟨v,z⟩:=I.cell x c e
   exact ⟨v,cellK x c e v z⟩
 . obtain ⟨m,⟨o,_,_,ho,_⟩,_⟩:=I.loc
   exact free _ o (fun z=>(Ed _ z).2.1 rfl) ho I.free
 . obtain ⟨v,o,ho,hd⟩:=I.cell x c e
   exact free c o (fun z=>(Ed c z).2.2.1 x c e rfl) ho (I.jT x c e)
 . obtain ⟨e,n,ne,nf,d⟩:=I.pin p hp
   have MP:p.1∉ch:=fun z=>(Ed p.1 z).2.2.2 p hp rfl
   exact ⟨keep p.1 p.2 ne nf MP e n,free p.1 p.2 MP e n,ne,nf,d⟩
theorem Inv.un {t':Nat} (I:Inv X pins σ H s) (u:Un X.fs [] H H' s.heap h') (dz:oU X.prog X.w H' h'):Inv X pins σ H' { s with heap:=h',toks:=t' }:=by
 obtain ⟨m,⟨o,es,ep,ho,r⟩,_⟩:=id I.loc
 obtain ⟨sl,hL⟩:=u.any ho I.free (by simp)
 exact I.step (g':=s.gens) (d':=s.drawn) (ch:=[]) (fun _ z=>nomatch z) (fun b o _ hb _ e n=>u.keep b o e n hb (by simp)) (fun b o _ hb _ e n=>u.slot b o e n hb (by simp)) (fun b o _ e n=>u.free b o e n (by simp)) (fun b o _ e=>u.there b o e (by simp)) u.pB u.oW u.pF (fun m' hm=>by
   obtain ⟨o',es',ep',El,r'⟩:=hm
   rw [ho] at El;cases El
   exact ⟨_,es',ep',hL,r'⟩) dz I.bare
theorem Inv.call {g':Array GenState} {t':Nat} {d':Drawn} {ch:List Addr} (I:Inv X pins σ H s) (u:Un (oj X.stack) ch H H' s.heap h') (dz:oU X.prog X.w H' h') (hg:AllBare g')
   (Ed:∀ b∈ch,(b∈X.ex∨X.s₀.heap.objs.size<=b)/\b≠X.env.locals/\(∀ x c,X.env.cells.lookup x=some c->c≠b)/\∀ p∈X.pn++pins,p.1≠b):
   Inv X pins σ H' { s with heap:=h',gens:=g',drawn:=d',toks:=t' }:=by
 obtain ⟨m,⟨o,es,ep,ho,r⟩,_⟩:=id I.loc
 obtain ⟨sl,hL⟩:=u.any ho I.free fun z=>(Ed _ z).2.1 rfl
 exact I.step (ch:=ch) Ed (fun b o hL hb hc e n=>u.keep b o e n (fun z=>(List.mem_cons.mp (I.tX b z)).elim hL hb) hc) (fun b o _ _ hc e n=>u.any e n hc) (fun b o hc e n=>u.free b o e n hc) (fun b o hc e=>u.there b o e hc) u.pB u.oW u.pF (fun m' hm=>by
   obtain ⟨o',es',ep',El,r'⟩:=hm
   rw [ho] at El;cases El
   exact ⟨_,es',ep',hL,r'⟩) dz hg
theorem Inv.turned {t':Nat} {it:Addr} (I:Inv X pins σ H s) (k:∀ b o,b≠it->s.heap.get? b=some o->h'.get? b=some o) (hn:H it=none) (hL:it≠X.env.locals)
   (h1:it∈X.ex∨X.s₀.heap.objs.size<=it) (h2:∀ x c,X.env.cells.lookup x=some c->c≠it) (h3:∀ p∈X.pn++pins,p.1≠it):Inv X pins σ H { s with heap:=h',toks:=t' }:=by
 have nit:∀ b u,H b=some u->b≠it:=fun b u e z=>by rw [z,hn] at e;cases e
 refine I.step (g':=s.gens) (d':=s.drawn) (ch:=[it]) (fun b hb=>?_) (fun b o _ _ hc e _=>k b o (fun z=>hc (by simp [z])) e) (fun b o _ _ hc e _=>⟨o.slots,k b o (fun z=>hc (by simp [z])) e⟩) (fun _ _ _ _ n=>n)
   (fun b o hc e=>⟨o,k b o (fun z=>hc (by simp [z])) e⟩) (fun _ _ e=>e) (fun _ _ _ e=>e) (fun b ps e=>⟨#[],by rw [e];simp⟩) (fun m hm=>?_) (fun b u e=>?_) I.bare
 . have e:b=it:=by simpa using hb
   subst e
   exact ⟨h1,hL,h2,h3⟩
 . obtain ⟨o,es,ep,ho,r⟩:=hm
   exact ⟨o,es,ep,k _ o (Ne.symm hL) ho,r⟩
 . refine (I.dz b u e).sy (fun c v hc q=>k c v ?_ q) (fun _ q=>q) fun _ _ q=>q
   rcases hc with z | z
   . rw [z];exact nit b u e
   . exact nit c _ z
theorem Inv.tok (I:Inv X pins σ H s) (t:Nat):Inv X pins σ H { s with toks:=t }:=I.un (h':=s.heap) (t':=t) Un.refl I.dz
theorem Inv.kept {t':Nat} (I:Inv X pins σ H s) (k:∀ b u,s.heap.get? b=some u->h'.get? b=some u):Inv X pins σ H { s with heap:=h',toks:=t' }:=I.un (Un.kept k) (I.dz.kept k)
theorem Inv.laid {a:Addr} {o:HO} {t':Nat} (I:Inv X pins σ H s) (k:∀ b u,s.heap.get? b=some u->h'.get? b=some u) (hp:s.heap.objs.size<=a) (new:dW X.prog X.w (upd H a o) h' a o):
   Inv X pins σ (upd H a o) { s with heap:=h',toks:=t' }:=I.un (Un.laid k hp (I.dz.fresh hp)) (I.dz.laid k hp new)
theorem Inv.write {x e:Addr} {o:HO} {t':Nat} (I:Inv X pins σ H s) (mu:ML (H x)) (he:e=x∨H e=some (.own x)) (k:∀ b u,b≠e->s.heap.get? b=some u->h'.get? b=some u) (Mf:∃ u,h'.get? e=some u)
   (new:dW X.prog X.w (upd H x o) h' x o):Inv X pins σ (upd H x o) { s with heap:=h',toks:=t' }:=I.un (Un.write mu he k Mf) (I.dz.write mu he k Mf new)
theorem Inv.wL {Jw:List (Addr×Obj)} (I:Inv X pins σ H s) (h:∀ p∈Jw,s.heap.get? p.1=some p.2/\H p.1=none/\p.1≠X.env.locals/\p.1∉X.fs/\∀ v,p.2.data≠.cell v):Inv X Jw σ H s:=
 ⟨I.ok,I.os,I.bare,I.base,I.loc,I.cell,I.free,I.jT,fun p hp=>(List.mem_append.mp hp).elim (fun z=>I.pin p (List.mem_append_left _ z)) (h p),I.dz,I.len⟩
theorem zf {N:List Str} (hN:N.Nodup) {i j:Nat} {x:Str} (a:N[i]?=some x) (b:N[j]?=some x):i=j:=by
 obtain ⟨h1,e1⟩:=List.getElem?_eq_some_iff.mp a
 obtain ⟨h2,e2⟩:=List.getElem?_eq_some_iff.mp b
 exact (List.getElem_inj hN).mp (e1.trans e2.symm)
theorem CQ {M:Model} {A:Around} {E:Value->Shared->Prop} {i:Nat} {x:Str} {v:V} {u:Value} {Q:Unit->Shared->Prop} (I:Inv X pins σ H s) (hN:X.N.Nodup) (hi:X.N[i]?=some x) (hx:Loc X.env.scope x) (r:RelV v u)
   (h:∀ s',Inv X pins (σ.set i (some v)) H s'->(∃ a,Heap.SameBut a s.heap s'.heap/\(a=X.env.locals∨X.env.cells.lookup x=some a))->Q () s') (hf:X.fn x=true∨X.env.scope.names.lookup x=some .local:=by first | exact .inl rfl | exact .inr rfl | assumption):wpAny M A (storeName X.env x u) Q E s:=by
 obtain ⟨m,hn,hl⟩:=id I.loc
 have SD:(X.env.scope.kind==.class||(X.env.scope.kind==.module&&X.env.locals !=X.env.globals))=false:=by rw [I.ok.kind];rfl
 have hiσ:i < σ.length:=by rw [I.len];exact (List.getElem?_eq_some_iff.mp hi).1
 have Kh:=I.Kh
 have tracked:∀ {a:Addr} {h':Heap},(∃ o,s.heap.get? a=some o/\H a=none)->Heap.SameBut a s.heap h'->oU X.prog X.w H h':=fun {a h'} ha hs b ob e=>by
   obtain ⟨_,_,hfree⟩:=ha
   refine (I.dz b ob e).sy (fun c w' hc q=>(hs.2 c ?_).trans q) (fun _ q=>q) fun _ _ q=>q
   rintro rfl
   rcases hc with rfl | hc
   . rw [hfree] at e;cases e
   . rw [hfree] at hc;cases hc
 rcases hx with hk | hk
 . refine wpAny_storeName_local hk hn (fun h' hn' hs=>?_) SD
   obtain ⟨oL,_,_,hoL,_⟩:=id hn
   refine h _ ⟨I.ok,I.os,I.bare,⟨fun b o e n hb hx=>?_,fun b o e n hb hx=>?_,I.base.free,fun b o e hx=>?_,I.base.pB,I.base.oW,I.base.pF⟩,⟨_,hn',fun j y v' e1 e2 e3=>?_⟩,fun y c e=>?_,I.free,I.jT,fun p hp=>?_,tracked ⟨oL,hoL,I.free⟩ hs,by simpa using I.len⟩ ⟨_,hs,.inl rfl⟩
   . exact (hs.2 b (Nat.ne_of_lt (Nat.lt_of_lt_of_le (Heap.lt_size e) I.ok.above))).trans (I.base.keep b o e n hb hx)
   . obtain ⟨sl,e1⟩:=I.base.slot b o e n hb hx
     exact ⟨sl,(hs.2 b (Nat.ne_of_lt (Nat.lt_of_lt_of_le (Heap.lt_size e) I.ok.above))).trans e1⟩
   . obtain ⟨o',e1⟩:=I.base.there b o e hx
     exact ⟨o',(hs.2 b (Nat.ne_of_lt (Nat.lt_of_lt_of_le (Heap.lt_size e) I.ok.above))).trans e1⟩
   . by_cases hj:j=i
     . subst hj
       rw [hi] at e1;cases e1
       rw [List.getElem?_set_self hiσ] at e2
       cases e2
       exact ⟨u,r,.inl ⟨hk,by simp⟩⟩
     . rw [List.getElem?_set_ne (Ne.symm hj)] at e2
       obtain ⟨u',r',q⟩:=hl j y v' e1 e2 e3
       refine ⟨u',r',?_⟩
       rcases q with ⟨k,e⟩ | ⟨k,c,e,z⟩
       . refine .inl ⟨k,?_⟩
         have:y≠x:=fun e=>hj (zf hN e1 (e ▸ hi))
         simp [this,e]
       . exact .inr ⟨k,c,e,z.sameBut hs (Kh y c e)⟩
   . obtain ⟨w',z⟩:=I.cell y c e
     exact ⟨w',z.sameBut hs (Kh y c e)⟩
   . obtain ⟨e,n,ne,nf,d⟩:=I.pin p hp
     exact ⟨(hs.2 p.1 ne).trans e,n,ne,nf,d⟩
 . have SE:X.fn x=true:=by
     rcases hf with z | z
     . exact z
     . rw [z] at hk;cases hk
   obtain ⟨c,hc⟩:=I.ok.has x (.inl hk)
   obtain ⟨w',z⟩:=I.cell x c hc
   refine wpAny_storeName_cell I.ok.kind hk hc z (fun h' vg hs=>?_)
   obtain ⟨oc,hoc,hocd⟩:=id z
   refine h { s with heap:=h' } ⟨I.ok,I.os,I.bare,⟨fun b o e n hb hx=>?_,fun b o e n hb hx=>?_,I.base.free,fun b o e hx=>?_,I.base.pB,I.base.oW,I.base.pF⟩,⟨m,hn.sameBut hs (Ne.symm (Kh x c hc)),fun j y v' e1 e2 e3=>?_⟩,fun y c' e=>?_,I.free,I.jT,fun p hp=>?_,tracked ⟨oc,hoc,I.jT x c hc⟩ hs,by simpa using I.len⟩ ⟨c,hs,.inr hc⟩
   . exact (hs.2 b (Nat.ne_of_lt (Nat.lt_of_lt_of_le (Heap.lt_size e) (I.ok.HF x c SE hc)))).trans (I.base.keep b o e n hb hx)
   . obtain ⟨sl,e1⟩:=I.base.slot b o e n hb hx
     exact ⟨sl,(hs.2 b (Nat.ne_of_lt (Nat.lt_of_lt_of_le (Heap.lt_size e) (I.ok.HF x c SE hc)))).trans e1⟩
   . obtain ⟨o',e1⟩:=I.base.there b o e hx
     exact ⟨o',(hs.2 b (Nat.ne_of_lt (Nat.lt_of_lt_of_le (Heap.lt_size e) (I.ok.HF x c SE hc)))).trans e1⟩
   . by_cases hj:j=i
     . subst hj
       rw [hi] at e1;cases e1
       rw [List.getElem?_set_self hiσ] at e2
       cases e2
       exact ⟨u,r,.inr ⟨.inl hk,c,hc,vg⟩⟩
     . rw [List.getElem?_set_ne (Ne.symm hj)] at e2
       obtain ⟨u',r',q⟩:=hl j y v' e1 e2 e3
       refine ⟨u',r',?_⟩
       rcases q with q | ⟨k,c',e,z'⟩
       . exact .inl q
       . refine .inr ⟨k,c',e,z'.sameBut hs ?_⟩
         rintro rfl
         exact hj (zf hN e1 (I.ok.inj _ _ _ e hc ▸ hi))
   . by_cases hcc:c'=c
     . subst hcc;exact ⟨_,vg⟩
     . obtain ⟨w2,z2⟩:=I.cell y c' e
       exact ⟨w2,z2.sameBut hs hcc⟩
   . obtain ⟨e,n,ne,nf,d⟩:=I.pin p hp
     refine ⟨(hs.2 p.1 ?_).trans e,n,ne,nf,d⟩
     intro q
     rw [q,hoc] at e
     have q':oc=p.2:=Option.some.inj e
     exact d w' (by rw [<- q'];exact hocd)
theorem zg {M:Model} {A:Around} {E:Value->Shared->Prop} {i:Nat} {x:Str} {v:V} {u:Value} {Q:Unit->Shared->Prop} (I:Inv X pins σ H s) (hN:X.N.Nodup) (hi:X.N[i]?=some x) (hx:Loc X.env.scope x) (r:RelV v u)
   (h:∀ s',Inv X pins (σ.set i (some v)) H s'->Q () s') (hf:X.fn x=true∨X.env.scope.names.lookup x=some .local:=by first | exact .inl rfl | exact .inr rfl | assumption):wpAny M A (storeName X.env x u) Q E s:=
 CQ I hN hi hx r (fun s' I' _=>h s' I') hf
theorem Inv.Jx {s':Shared} {ch:List Addr} (I:Inv X pins σ H s) (ho:s'.os=s.os) (u:Un (oj X.stack) ch H H' s.heap s'.heap) (dz:oU X.prog X.w H' s'.heap) (hg:AllBare s'.gens)
   (Ed:∀ b∈ch,(b∈X.ex∨X.s₀.heap.objs.size<=b)/\b≠X.env.locals/\(∀ x c,X.env.cells.lookup x=some c->c≠b)/\∀ p∈X.pn++pins,p.1≠b):Inv X pins σ H' s':=by
 obtain ⟨h',g',d',t',o'⟩:=s'
 have e:o'=s.os:=ho
 subst e
 exact I.call (g':=g') (t':=t') (d':=d') u dz hg Ed
end
abbrev XK:=Value->Option Addr->Hp->Prop
abbrev St:=List (Option V)
abbrev VK:=V->Hp->Prop
abbrev TE:=St->Hp->VK->Prop
abbrev TT:=St->Hp->(Bool->Hp->Prop)->Prop
abbrev TA:=St->Hp->(List V->Hp->Prop)->Prop
structure Ends where
 nx:St->Hp->Prop
 rt:VK
 bk:St->Hp->Prop:=fun _ _=>False
 ct:St->Hp->Prop:=fun _ _=>False
abbrev TS:=Ends->St->Hp->Prop
def EP (X:Cx) (pins:List (Addr×Obj)) (σ:St) (Q:VK) (u:Value) (s':Shared):Prop:=∃ v H',Inv X pins σ H' s'/\RelV v u/\Q v H'
def TP (X:Cx) (pins:List (Addr×Obj)) (σ:St) (Q:Bool->Hp->Prop) (b:Bool) (s':Shared):Prop:=∃ H',Inv X pins σ H' s'/\Q b H'
def AP (X:Cx) (pins:List (Addr×Obj)) (σ:St) (Q:List V->Hp->Prop) (us:List Value) (s':Shared):Prop:=∃ vs H',Inv X pins σ H' s'/\Vals vs us/\Q vs H'
def SP (X:Cx) (pins:List (Addr×Obj)) (D:Ends) (f:Flow) (s':Shared):Prop:=
 match f with
 | .next=>∃ σ' H',Inv X pins σ' H' s'/\D.nx σ' H'
 | .brk=>∃ σ' H',Inv X pins σ' H' s'/\D.bk σ' H'
 | .cont=>∃ σ' H',Inv X pins σ' H' s'/\D.ct σ' H'
 | .ret u=>∃ v σ' H',Inv X pins σ' H' s'/\RelV v u/\D.rt v H'
def PE (X:Cx) (e:Expr) (t:TE):Prop:=
 ∀ (pins:List (Addr×Obj)) (s:Shared) (σ:St) (H:Hp) (Q:VK),Inv X pins σ H s->t σ H Q->wpAny (model X.prog X.w) X.A (eval e X.env) (EP X pins σ Q) X.xe s
def PT (X:Cx) (e:Expr) (t:TT):Prop:=
 ∀ (pins:List (Addr×Obj)) (s:Shared) (σ:St) (H:Hp) (Q:Bool->Hp->Prop),Inv X pins σ H s->t σ H Q->wpAny (model X.prog X.w) X.A (isTrue e X.env (eval e X.env)) (TP X pins σ Q) X.xe s
def PW (X:Cx) (e:Expr) (t:TT):Prop:=
 ∀ (whole:Sem Value) (pins:List (Addr×Obj)) (s:Shared) (σ:St) (H:Hp) (Q:Bool->Hp->Prop),Inv X pins σ H s->t σ H Q->wpAny (model X.prog X.w) X.A (isTrue e X.env whole) (TP X pins σ Q) X.xe s
theorem PW.pt {X:Cx} {e:Expr} {t:TT} (h:PW X e t):PT X e t:=h _
def PA (X:Cx) (es:List Expr) (t:TA):Prop:=
 ∀ (pos:Pos) (pins:List (Addr×Obj)) (s:Shared) (σ:St) (H:Hp) (Q:List V->Hp->Prop),Inv X pins σ H s->t σ H Q->wpAny (model X.prog X.w) X.A (spliced (backTo pos (starEach es X.env))) (AP X pins σ Q) X.xe s
def PS (X:Cx) (st:Stmt) (t:TS):Prop:=
 ∀ (pins:List (Addr×Obj)) (s:Shared) (σ:St) (H:Hp) (D:Ends),Inv X pins σ H s->t D σ H->wpAny (model X.prog X.w) X.A (exec st X.env) (SP X pins D) X.xe s
def Av (X:Cx) (st:List Stmt) (t:TS):Prop:=
 ∀ (pins:List (Addr×Obj)) (s:Shared) (σ:St) (H:Hp) (D:Ends),Inv X pins σ H s->t D σ H->wpAny (model X.prog X.w) X.A (execs st X.env) (SP X pins D) X.xe s
theorem dX {α:Type} {t:Sem α} {Q Q':α->Shared->Prop} {M:Model} {A:Around} {E:Value->Shared->Prop} {s:Shared} (h:wpAny M A t Q E s) (hQ:∀ a s,Q a s->Q' a s):wpAny M A t Q' E s:=wpAny_mono h hQ fun _ _ x=>x
end L2
namespace L2
open PySem PySem.Spec PyProof.Rows
section
variable {X:Cx}
def Aw (i:Nat):TE:=fun σ H Q=>∃ v,σ[i]?=some (some v)/\Q v H
def tC (v:V):TE:=fun _ H Q=>Q v H
theorem Em {i:Nat} {x:Str} {pos:Pos} (hN:X.N[i]?=some x) (hv:MN X.env.scope x) (hd:(x==("__debug__":Str))=false:=by decide) (Ax:(x==("__classdict__":Str))=false:=by decide):PE X (.Name x pos) (Aw i):=by
 intro pins s σ H Q I h
 obtain ⟨v,e,h⟩:=h
 obtain ⟨m,hn,hl⟩:=I.loc
 obtain ⟨u,r,l⟩:=hl i x v hN e hv
 have fin:EP X pins σ Q u s:=⟨v,H,I,r,h⟩
 rcases l with ⟨hk,hm⟩ | ⟨hk,c,hc,hcell⟩
 . exact wpAny_Name (wpAny_loadName_local I.ok.kind hk hn hm fin) hd
 . rcases hk with hk | hk
   . exact wpAny_Name (wpAny_loadName_cell I.ok.kind hk hc hcell fin) hd
   . exact wpAny_Name (wpAny_loadName_free I.ok.kind hk hc hcell fin Ax) hd
theorem Ay {i j pos}:PE X (.Constant (.int i) j pos) (tC (.int i)):=fun _ _ _ H _ I h=>wpAny_Constant_int ⟨.int i,H,I.tok _,⟨_,rfl⟩,h⟩
theorem MQ {b j pos}:PE X (.Constant (.bool b) j pos) (tC (.bl b)):=fun _ _ _ H _ I h=>Constant_bool ⟨.bl b,H,I,rfl,h⟩
theorem Kl {j pos}:PE X (.Constant .none j pos) (tC .cQ):=fun _ _ _ H _ I h=>Constant_none ⟨.cQ,H,I,rfl,h⟩
theorem En {x j pos}:PE X (.Constant (.str x) j pos) (tC (.str x)):=fun _ _ _ H _ I h=>Calls.Constant_str ⟨.str x,H,I.tok _,⟨_,rfl⟩,h⟩
def Gl (X:Cx) (x:Str):Prop:=X.env.kindOf x=some .globalImplicit
theorem sZ {E:Value->Shared->Prop} {pins:List (Addr×Obj)} {s:Shared} {σ:St} {H:Hp} {x:Str} {u:Value} {pos:Pos} {Q:Value->Shared->Prop} (I:Inv X pins σ H s) (hg:Gl X x) (hm:X.mg x=some u) (h:Q u s)
   (hd:(x==("__debug__":Str))=false:=by decide):wpAny (model X.prog X.w) X.A (eval (.Name x pos) X.env) Q E s:=
 Calls.Name_function_global I.ok.kind hg (Calls.loadGlobal_global (by rw [I.ok.glob];exact I.mod.glob.keeps I.bk) hm h) hd
theorem pG {E:Value->Shared->Prop} {pins:List (Addr×Obj)} {s:Shared} {σ:St} {H:Hp} {x:Str} {u:Value} {pos:Pos} {Q:Value->Shared->Prop} (I:Inv X pins σ H s) (hg:Gl X x) (hm:X.mg x=none) (hv:bootBuiltins x=some u) (h:Q u s)
   (hn:x≠"__name__":=by decide) (hd:(x==("__debug__":Str))=false:=by decide):wpAny (model X.prog X.w) X.A (eval (.Name x pos) X.env) Q E s:=by
 obtain ⟨mb,h1,h2⟩:=I.mod.blt
 exact Calls.Name_function_global I.ok.kind hg (Calls.loadGlobal_builtin (by rw [I.ok.glob];exact I.mod.glob.keeps I.bk) hm (by rw [I.ok.blt];exact h1.keeps I.bk) ((h2 x hn).trans hv) h) hd
theorem HG {x:Str} {v:V} {u:Value} {pos:Pos} (hg:Gl X x) (hm:X.mg x=some u) (r:RelV v u) (hd:(x==("__debug__":Str))=false:=by decide):PE X (.Name x pos) (tC v):=
 fun _ _ _ H _ I h=>sZ I hg hm ⟨v,H,I,r,h⟩ hd
theorem HH {x:Str} {v:V} {u:Value} {pos:Pos} (hg:Gl X x) (hm:X.mg x=none) (hv:bootBuiltins x=some u) (r:RelV v u) (hn:x≠"__name__":=by decide) (hd:(x==("__debug__":Str))=false:=by decide):PE X (.Name x pos) (tC v):=
 fun _ _ _ H _ I h=>pG I hg hm hv ⟨v,H,I,r,h⟩ hn hd
variable {a b:Expr} {ta tb:TE} {pos:Pos}
def tB (t:TE):TT:=fun σ H Q=>t σ H fun x H1=>∃ c,x=.bl c/\Q c H1
theorem Km {e:Expr} {t:TE} (h:PE X e t) (he:∀ whole,isTrue e X.env whole=(do let v <- whole;standAt e.pos;holding [v] (truthy v)):=by intro _;rfl):PT X e (tB t):=by
 intro pins s σ H Q I hw
 refine isTrue_plain (dX (h pins s σ H _ I hw) fun v s1 ⟨x,H1,I1,r1,q1⟩=>?_) (he _)
 obtain ⟨d,rfl,q⟩:=q1
 cases r1
 exact wpAny_truthy_bool ⟨H1,I1,q⟩
variable {tA HJ:TT} {rest:List Expr}
def Eo (t u:TT):TT:=fun σ H Q=>t σ H fun c H1=>if c=true then u σ H1 Q else Q false H1
def MR (t u:TT):TT:=fun σ H Q=>t σ H fun c H1=>if c=true then Q true H1 else u σ H1 Q
def Ep (t:TT):TT:=fun σ H Q=>t σ H fun c H1=>Q (!c) H1
theorem pw_and1 (ha:PT X a tA):PW X (.BoolOp .And [a] pos) tA:=by
 intro wh pins s σ H Q I h
 refine isTrue_and (dX (ha pins s σ H Q I h) fun c s1 e=>?_)
 cases c with
 | true=>exact isTrue_and_nil e
 | false=>exact e
theorem pw_or1 (ha:PT X a tA):PW X (.BoolOp .Or [a] pos) tA:=by
 intro wh pins s σ H Q I h
 refine isTrue_or (dX (ha pins s σ H Q I h) fun c s1 e=>?_)
 cases c with
 | false=>exact isTrue_or_nil e
 | true=>exact e
theorem pw_and (ha:PT X a tA) (hb:PW X (.BoolOp .And (b::rest) pos) HJ):PW X (.BoolOp .And (a::b::rest) pos) (Eo tA HJ):=by
 intro wh pins s σ H Q I h
 refine isTrue_and (dX (ha pins s σ H _ I h) fun c s1 ⟨H1,I1,q1⟩=>?_)
 cases c with
 | true=>exact hb wh pins s1 σ H1 Q I1 q1
 | false=>exact ⟨H1,I1,q1⟩
theorem pw_or (ha:PT X a tA) (hb:PW X (.BoolOp .Or (b::rest) pos) HJ):PW X (.BoolOp .Or (a::b::rest) pos) (MR tA HJ):=by
 intro wh pins s σ H Q I h
 refine isTrue_or (dX (ha pins s σ H _ I h) fun c s1 ⟨H1,I1,q1⟩=>?_)
 cases c with
 | true=>exact ⟨H1,I1,q1⟩
 | false=>exact hb wh pins s1 σ H1 Q I1 q1
theorem Kn (ha:PT X a tA):PT X (.UnaryOp .Not a pos) (Ep tA):=by
 intro pins s σ H Q I h
 exact isTrue_not (ha pins s σ H (fun c H1=>Q (!c) H1) I h)
def zh (ta tb:TE):TE:=fun σ H Q=>ta σ H fun x H1=>∃ c,x=.bl c/\if c=true then tb σ H1 Q else Q (.bl false) H1
def Er (ta tb:TE):TE:=fun σ H Q=>ta σ H fun x H1=>∃ c,x=.bl c/\if c=true then Q (.bl true) H1 else tb σ H1 Q
def zj (ta:TE):TE:=fun σ H Q=>ta σ H fun x H1=>∃ c,x=.bl c/\Q (.bl (!c)) H1
theorem Ko {op} {t:TE} (h:PE X a t):PE X (.BoolOp op [a] pos) t:=fun pins s σ H Q I hw=>BoolOp_one (h pins s σ H Q I hw)
theorem Kq (ha:PE X a ta) (hb:PE X (.BoolOp .And (b::rest) pos) tb):PE X (.BoolOp .And (a::b::rest) pos) (zh ta tb):=by
 intro pins s σ H Q I h
 refine BoolOp_and (dX (ha pins s σ H _ I h) fun v s1 ⟨x,H1,I1,r1,q1⟩=>?_)
 obtain ⟨c,rfl,q1⟩:=q1
 cases r1
 refine wpAny_truthy_bool ?_
 cases c with
 | true=>exact hb pins s1 σ H1 Q I1 q1
 | false=>exact ⟨.bl false,H1,I1,rfl,q1⟩
theorem MS (ha:PE X a ta) (hb:PE X (.BoolOp .Or (b::rest) pos) tb):PE X (.BoolOp .Or (a::b::rest) pos) (Er ta tb):=by
 intro pins s σ H Q I h
 refine BoolOp_or (dX (ha pins s σ H _ I h) fun v s1 ⟨x,H1,I1,r1,q1⟩=>?_)
 obtain ⟨c,rfl,q1⟩:=q1
 cases r1
 refine wpAny_truthy_bool ?_
 cases c with
 | false=>exact hb pins s1 σ H1 Q I1 q1
 | true=>exact ⟨.bl true,H1,I1,rfl,q1⟩
theorem Kr (ha:PE X a ta):PE X (.UnaryOp .Not a pos) (zj ta):=by
 intro pins s σ H Q I h
 refine UnaryOp_ (dX (ha pins s σ H _ I h) fun v s1 ⟨x,H1,I1,r1,q1⟩=>?_)
 obtain ⟨c,rfl,q1⟩:=q1
 cases r1
 exact not_of (wpAny_truthy_bool ⟨.bl (!c),H1,I1,rfl,q1⟩)
def MT (t:TT) (ta tb:TE):TE:=fun σ H Q=>t σ H fun c H1=>if c=true then ta σ H1 Q else tb σ H1 Q
theorem Es {c:Expr} (hc:PT X c tA) (ha:PE X a ta) (hb:PE X b tb):PE X (.IfExp c a b pos) (MT tA ta tb):=by
 intro pins s σ H Q I h
 refine wpAny_IfExp (dX (hc pins s σ H _ I h) fun d s1 ⟨H1,I1,q1⟩=>?_)
 cases d with
 | true=>exact ha pins s1 σ H1 Q I1 q1
 | false=>exact hb pins s1 σ H1 Q I1 q1
end
end L2
namespace L2
open PySem PySem.Spec PyProof.Rows
def aZ (K:PySem.W.Frag) (H:Hp) (a:Addr) (xs:List V):Prop:=
 Rd H a (.lst xs)∨
   ∃ (o:Obj) (its:Array Value) (n:Nat),K.lookup a=some o/\o.cls=.type "list"/\o.dict=none/\o.data=.seq its n/\its.size<=sizeLine/\Vals xs its.toList
def om (K:PySem.W.Frag) (H:Hp) (a:Addr) (xs:List V):Prop:=
 Rd H a (.tup xs)∨
   ∃ (o:Obj) (its:Array Value) (n:Nat),K.lookup a=some o/\o.cls=.type "tuple"/\o.data=.seq its n/\its.size<=sizeLine/\Vals xs its.toList
def zk:Value->Option V
 | .none=>some .cQ
 | .bool b=>some (.bl b)
 | .int i _=>some (.int i)
 | .str x _=>some (.str x)
 | .bytes b _=>some (.CO b)
 | .float b _=>some (.Me b)
 | .ref a=>some (.ref a)
 | .type n=>some (.ty n)
 | _=>none
theorem RelV.abs {x:V} {u:Value} (r:RelV x u):zk u=some x:=by
 cases x with
 | cQ=>cases r;rfl
 | bl _=>cases r;rfl
 | int _=>obtain ⟨t,rfl⟩:=r;rfl
 | str _=>obtain ⟨t,rfl⟩:=r;rfl
 | CO _=>obtain ⟨t,rfl⟩:=r;rfl
 | Me _=>obtain ⟨t,rfl⟩:=r;rfl
 | ref _=>cases r;rfl
 | ty _=>cases r;rfl
theorem RelV.inj {x y:V} {u:Value} (r:RelV x u) (q:RelV y u):x=y:=Option.some.inj (r.abs.symm.trans q.abs)
theorem Vals.inj:∀ {xs ys:List V} {us:List Value},Vals xs us->Vals ys us->xs=ys
 | _,_,_,.nil,.nil=>rfl
 | _,_,_,.cons r t,.cons r' t'=>by rw [r.inj r',Vals.inj t t']
section
variable {X:Cx} {pins:List (Addr×Obj)} {σ:St} {H:Hp} {s:Shared} {a:Addr} {xs ys:List V}
theorem aZ.of {K:PySem.W.Frag} (h:H a=some (.lst xs)):aZ K H a xs:=.inl (.inl h)
theorem Inv.list (I:Inv X pins σ H s) (h:aZ X.K H a xs):∃ its:List Value,Vals xs its/\PlainL s.heap a its.toArray/\xs.length<=sizeLine:=by
 rcases h with h | ⟨o,its,n,hk,hc,hd,hs,hz,r⟩
 . obtain ⟨z,its,n,r,e⟩:=h.ok I.dz
   exact ⟨its,r,⟨_,n,e,rfl,rfl,rfl⟩,z⟩
 . refine ⟨its.toList,r,⟨o,n,I.sX a o hk,hc,hd,by simpa using hs⟩,?_⟩
   have e:=r.length
   simp only [Array.length_toList] at e
   omega
theorem Inv.tuple (I:Inv X pins σ H s) (h:om X.K H a xs):∃ its:List Value,Vals xs its/\IsTup s.heap a its.toArray/\xs.length<=sizeLine:=by
 rcases h with h | ⟨o,its,n,hk,hc,hs,hz,r⟩
 . obtain ⟨z,its,r,p⟩:=h.ok I.dz
   exact ⟨its,r,p,z⟩
 . refine ⟨its.toList,r,⟨o,I.sX a o hk,hc,n,by simpa using hs⟩,?_⟩
   have e:=r.length
   simp only [Array.length_toList] at e
   omega
theorem Inv.tY (I:Inv X pins σ H s) (h:aZ X.K H a xs) (h':aZ X.K H a ys):xs=ys:=by
 obtain ⟨its,r,⟨o,n,e,_,_,d⟩,_⟩:=I.list h
 obtain ⟨its',r',⟨o',n',e',_,_,d'⟩,_⟩:=I.list h'
 rw [e] at e';cases e'
 rw [d] at d'
 injection d' with d1 _
 have:its=its':=by simpa using congrArg Array.toList d1
 subst this
 exact r.inj r'
theorem Inv.qS (I:Inv X pins σ H s) (h:om X.K H a xs) (h':om X.K H a ys):xs=ys:=by
 obtain ⟨its,r,⟨o,e,_,n,d⟩,_⟩:=I.tuple h
 obtain ⟨its',r',⟨o',e',_,n',d'⟩,_⟩:=I.tuple h'
 rw [e] at e';cases e'
 rw [d] at d'
 injection d' with d1 _
 have:its=its':=by simpa using congrArg Array.toList d1
 subst this
 exact r.inj r'
end
abbrev Cx.vh (X:Cx) (E:Value->Shared->Prop):Cx:={ X with xe:=E }
abbrev Cx.Mh (X:Cx):Cx:=X.vh fun _ _=>False
theorem Cx.Ok.vh {X:Cx} (ok:X.Ok) (E:Value->Shared->Prop):(X.vh E).Ok:=
 ⟨ok.mod,ok.kind,ok.glob,ok.blt,ok.above,ok.inj,ok.has,ok.HF,ok.hd,ok.frames,ok.Jv,ok.Mg,ok.bs,ok.Ec,ok.wK,ok.ze,ok.m5,ok.Ek⟩
theorem Cx.Ok.m6 {X:Cx} {E:Value->Shared->Prop} (ok:(X.vh E).Ok):X.Ok:=
 ⟨ok.mod,ok.kind,ok.glob,ok.blt,ok.above,ok.inj,ok.has,ok.HF,ok.hd,ok.frames,ok.Jv,ok.Mg,ok.bs,ok.Ec,ok.wK,ok.ze,ok.m5,ok.Ek⟩
section
variable {X:Cx} {pins:List (Addr×Obj)} {σ:St} {H:Hp} {s:Shared} {E:Value->Shared->Prop}
theorem Inv.vh (I:Inv X pins σ H s) (E:Value->Shared->Prop):Inv (X.vh E) pins σ H s:=⟨I.ok.vh E,I.os,I.bare,I.base,I.loc,I.cell,I.free,I.jT,I.pin,I.dz,I.len⟩
theorem Inv.m6 (I:Inv (X.vh E) pins σ H s):Inv X pins σ H s:=⟨I.ok.m6,I.os,I.bare,I.base,I.loc,I.cell,I.free,I.jT,I.pin,I.dz,I.len⟩
theorem SP.m6 {D:Ends} {f:Flow} {s':Shared} (h:SP (X.vh E) pins D f s'):SP X pins D f s':=by
 cases f with
 | next=>obtain ⟨σ',H',I,q⟩:=h;exact ⟨σ',H',I.m6,q⟩
 | brk=>obtain ⟨σ',H',I,q⟩:=h;exact ⟨σ',H',I.m6,q⟩
 | cont=>obtain ⟨σ',H',I,q⟩:=h;exact ⟨σ',H',I.m6,q⟩
 | ret u=>obtain ⟨v,σ',H',I,r,q⟩:=h;exact ⟨v,σ',H',I.m6,r,q⟩
theorem Av.Mh {st:List Stmt} {t:TS} (h:Av X.Mh st t):Av X st t:=fun pins s σ H D I hw=>
 wpAny_mono (h pins s σ H D (I.vh _) hw) (fun _ _ q=>q.m6) fun _ _ z=>False.elim z
end
section
variable {X:Cx} {st:Stmt} {rest:List Stmt} {t u:TS} {e:Expr} {te:TE} {pos:Pos}
def zl:TS:=fun D σ H=>D.nx σ H
def Et (t u:TS):TS:=fun D σ H=>t { D with nx:=u D } σ H
theorem HK:Av X [] zl:=fun _ _ σ H _ I h=>wpAny_execs_nil ⟨σ,H,I,h⟩
theorem Eu (h1:PS X st t) (h2:Av X rest u):Av X (st::rest) (Et t u):=by
 intro pins s σ H D I h
 refine wpAny_execs_cons (dX (h1 pins s σ H { D with nx:=u D } I h) fun f s1 q=>?_)
 cases f with
 | next=>
   obtain ⟨σ',H',I',q⟩:=q
   exact h2 pins s1 σ' H' D I' q
 | ret v=>exact q
 | brk=>exact q
 | cont=>exact q
theorem HL (h1:PS X st t):Av X [st] t:=by
 intro pins s σ H D I h
 refine wpAny_execs_cons (dX (h1 pins s σ H D I h) fun f s1 q=>?_)
 cases f with
 | next=>exact wpAny_execs_nil q
 | ret v=>exact q
 | brk=>exact q
 | cont=>exact q
theorem Inv.quiet {pins:List (Addr×Obj)} {σ:St} {H:Hp} {s:Shared} (I:Inv X pins σ H s):interactive X.env=false:=by simp [interactive,I.ok.kind]
def zm (te:TE):TS:=fun D σ H=>te σ H fun _ H1=>D.nx σ H1
theorem HM (he:PE X e te) (hs:swapsWith e none pos.line X.env=pure false:=by rfl):PS X (.Expr e pos) (zm te):=by
 intro pins s σ H D I h
 exact wpAny_Expr_any (dX (he pins s σ H _ I h) fun v s1 ⟨x,H1,I1,r1,q1⟩=>⟨σ,H1,I1,q1⟩) I.quiet hs
def Ew (te:TE):TS:=fun D σ H=>te σ H D.rt
theorem Ks (he:PE X e te):PS X (.Return (some e) pos) (Ew te):=by
 intro pins s σ H D I h
 exact wpAny_Return_some (dX (he pins s σ H _ I h) fun v s1 ⟨x,H1,I1,r1,q1⟩=>⟨x,σ,H1,I1,r1,q1⟩)
def Ex:TS:=fun D _ H=>D.rt .cQ H
def Ey (c:TT) (t u:TS):TS:=fun D σ H=>c σ H fun b H1=>if b=true then t D σ H1 else u D σ H1
theorem MU {c:Expr} {a b:List Stmt} {tc:TT} (hc:PT X c tc) (ha:Av X a t) (hb:Av X b u):PS X (.If c a b pos) (Ey tc t u):=by
 intro pins s σ H D I h
 refine wpAny_If (dX (hc pins s σ H _ I h) fun d s1 ⟨H1,I1,q1⟩=>?_)
 cases d with
 | true=>exact ha pins s1 σ H1 D I1 q1
 | false=>exact hb pins s1 σ H1 D I1 q1
def Az:TS:=fun _ _ _=>False
end
abbrev TG:=V->St->Hp->(St->Hp->Prop)->Prop
abbrev zo:=List V->St->Hp->(St->Hp->Prop)->Prop
def PG (X:Cx) (target:Expr) (t:TG):Prop:=
 ∀ (pins:List (Addr×Obj)) (s:Shared) (σ:St) (H:Hp) (v:V) (u:Value) (Q:St->Hp->Prop),Inv X pins σ H s->RelV v u->t v σ H Q->
   wpAny (model X.prog X.w) X.A (assign target X.env u) (fun _ s'=>∃ σ' H',Inv X pins σ' H' s'/\Q σ' H') X.xe s
def MV (X:Cx) (ts:List Expr) (t:zo):Prop:=
 ∀ (pins:List (Addr×Obj)) (s:Shared) (σ:St) (H:Hp) (vs:List V) (us:List Value) (Q:St->Hp->Prop),Inv X pins σ H s->Vals vs us->t vs σ H Q->
   wpAny (model X.prog X.w) X.A (assignInOrder ((assignEach ts X.env).map (·.2)) us) (fun _ s'=>∃ σ' H',Inv X pins σ' H' s'/\Q σ' H') X.xe s
abbrev HN:=V->V->V->Hp->(Hp->Prop)->Prop
def Ku (X:Cx) (t:HN):Prop:=
 ∀ (pins:List (Addr×Obj)) (s:Shared) (σ:St) (H:Hp) (o i v:V) (ov iv u:Value) (Q:Hp->Prop),Inv X pins σ H s->RelV o ov->RelV i iv->RelV v u->t o i v H Q->
   wpAny (model X.prog X.w) X.A (setItem ov iv u) (fun _ s'=>∃ H',Inv X pins σ H' s'/\Q H') X.xe s
section
variable {X:Cx} {pos:Pos}
def fH (i:Nat):TG:=fun v σ H Q=>Q (σ.set i (some v)) H
theorem BQ {i:Nat} {x:Str} (hN:X.N.Nodup) (hi:X.N[i]?=some x) (hx:Loc X.env.scope x) (hf:X.fn x=true∨X.env.scope.names.lookup x=some .local:=by first | exact .inl rfl | exact .inr rfl | assumption):PG X (.Name x pos) (fH i):=by
 intro pins s σ H v u Q I r h
 exact wpAny_assign_Name (zg I hN hi hx r (fun s' I'=>⟨_,H,I',h⟩) hf)
def CS:zo:=fun vs σ H Q=>vs=[]/\Q σ H
def rR (t:TG) (u:zo):zo:=fun vs σ H Q=>∃ v r,vs=v::r/\t v σ H fun σ' H'=>u r σ' H' Q
theorem HP:MV X [] CS:=by
 intro pins s σ H vs us Q I r h
 obtain ⟨e,h⟩:=h
 subst e
 cases r
 exact assignInOrder_nil ⟨σ,H,I,h⟩
theorem Ez {e:Expr} {es:List Expr} {t:TG} {u:zo} (h1:PG X e t) (h2:MV X es u)
   (hs:(assignEach (e::es) X.env).map (·.2)=assign e X.env::(assignEach es X.env).map (·.2):=by rfl):MV X (e::es) (rR t u):=by
 intro pins s σ H vs us Q I r h
 obtain ⟨v,vr,e1,h⟩:=h
 subst e1
 cases r with
 | cons r rr=>
   rw [hs]
   refine assignInOrder_cons (dX (h1 pins s σ H _ _ _ I r h) fun _ s1 ⟨σ1,H1,I1,q1⟩=>?_)
   exact h2 pins s1 σ1 H1 _ _ Q I1 rr q1
def SG (K:PySem.W.Frag) (n:Nat) (t:zo):TG:=fun v σ H Q=>∃ a xs,v=.ref a/\om K H a xs/\xs.length=n/\t xs σ H Q
theorem Kv {es:List Expr} {k:Nat} {t:zo} {n:Nat} (hc:X.calm=true) (h:MV X es t)
   (hn:(assignEach es X.env).length=n:=by rfl) (tZ:(assignEach es X.env).findIdx? (·.1)=none:=by rfl):PG X (.Tuple es k pos) (SG X.K n t):=by
 intro pins s σ H v u Q I r hw
 obtain ⟨a,xs,e1,hq,hl,hw⟩:=hw
 subst e1
 cases r
 obtain ⟨its,rv,ht,hz⟩:=I.tuple hq
 refine assign_Tuple_tuple (I.ok.hd hc) ht (by simp [hn,<- hl,rv.length]) tZ fun h' hx=>?_
 have I1:Inv X pins σ H { s with heap:=h' }:=I.kept (t':=s.toks) fun b o e=>hx b o (Nat.ne_of_lt (Heap.lt_size e)) e
 exact h pins _ σ H xs _ Q I1 (by simpa using rv) hw
def EA (to ti:TE) (t:HN):TG:=fun v σ H Q=>to σ H fun o H1=>ti σ H1 fun i H2=>t o i v H2 fun H3=>Q σ H3
theorem Kw {o i:Expr} {to ti:TE} {t:HN} (ho:PE X o to) (hi:PE X i ti) (hs:Ku X t)
   (ha:∀ v,assign (.Subscript o i pos) X.env v=(do
     let ov <- holding [v] (eval o X.env)
     let iv <- holding [v,ov] (eval i X.env)
     standAt pos
     holding [v,ov,iv] (setItem ov iv v)
     release [v,ov,iv] []):=by intro _;rfl):PG X (.Subscript o i pos) (EA to ti t):=by
 intro pins s σ H v u Q I r h
 rw [ha]
 refine wpAny_bind (wpAny_holding (dX (ho pins s σ H _ I h) fun ov s1 ⟨x,H1,I1,r1,q1⟩=>?_))
 refine wpAny_bind (wpAny_holding (dX (hi pins s1 σ H1 _ I1 q1) fun iv s2 ⟨y,H2,I2,r2,q2⟩=>?_))
 refine wpAny_bind (wpAny_standAt (wpAny_bind (wpAny_holding (dX (hs pins s2 σ H2 x y v ov iv u _ I2 r1 r2 r q2) fun _ s3 ⟨H3,I3,q3⟩=>?_))))
 exact wpAny_release ⟨σ,H3,I3,q3⟩
def zp (te:TE) (g:TG):TS:=fun D σ H=>te σ H fun x H1=>g x σ H1 D.nx
theorem Ky {tg e:Expr} {te:TE} {g:TG} (he:PE X e te) (hg:PG X tg g) (hs:swapsWithSole [tg] e pos.line X.env=pure false:=by rfl) (hw:swappedStores [tg] e X.env=pure none:=by rfl)
   (h1:(assignEach [tg] X.env).map (·.2)=[assign tg X.env]:=by rfl):PS X (.Assign [tg] e pos) (zp te g):=by
 intro pins s σ H D I h
 refine wpAny_Assign_stores (dX (he pins s σ H _ I h) fun v s1 ⟨x,H1,I1,r1,q1⟩=>?_) hs hw
 rw [h1]
 exact dX (hg pins s1 σ H1 x v _ I1 r1 q1) fun _ s2 q=>q
theorem Kz {i:Nat} {x:Str} {e:Expr} {te:TE} {pos':Pos} (hN:X.N.Nodup) (hi:X.N[i]?=some x) (hx:Loc X.env.scope x) (he:PE X e te) (hs:swapsWith e (some (.Name x pos')) pos.line X.env=pure false:=by rfl) (hf:X.fn x=true∨X.env.scope.names.lookup x=some .local:=by first | exact .inl rfl | exact .inr rfl | assumption):
   PS X (.Assign [.Name x pos'] e pos) (zp te (fH i)):=by
 intro pins s σ H D I h
 refine wpAny_Assign_Name (dX (he pins s σ H _ I h) fun v s1 ⟨y,H1,I1,r1,q1⟩=>?_) hs
 exact zg I1 hN hi hx r1 (fun s2 I2=>⟨_,H1,I2,q1⟩) hf
end
section
variable {X:Cx} {pos:Pos}
def AA (c:TT) (tb:TS):TS:=fun D σ H=>∃ W:Nat->St->Hp->Prop,(∃ m,W m σ H)/\∀ m σ H,W m σ H->
 c σ H fun b H1=>if b=true then ∃ N:St->Hp->Prop,(∀ σ' H',N σ' H'->∃ m',m' < m/\W m' σ' H')/\tb { D with nx:=N,ct:=N,bk:=D.nx } σ H1 else D.nx σ H1
theorem EB {c:Expr} {body:List Stmt} {tc:TT} {tb:TS} (hp:PassesOwn (model X.prog X.w) X.A X.env X.xe) (hc:PT X c tc) (hb:Av X body tb):PS X (.While c body [] pos) (AA tc tb):=by
 intro pins s σ H D I h
 obtain ⟨W,⟨m0,w0⟩,turn⟩:=h
 refine wpAny_While (codeAny_whileLoop (fun n s'=>∃ σ' H',Inv X pins σ' H' s'/\W n σ' H') ?_ m0 ⟨σ,H,I,w0⟩)
 rintro n s1 ⟨σ1,H1,I1,w1⟩
 refine wpAny_passesOwn hp (dX (hc pins s1 σ1 H1 _ I1 (turn n σ1 H1 w1)) fun b s2 ⟨H2,I2,q2⟩=>?_)
 cases b with
 | true=>
   obtain ⟨N,hN,q2⟩:=q2
   rw [if_pos rfl]
   refine wpAny_passesOwn hp (dX (hb pins s2 σ1 H2 _ I2 q2) fun f s3 q3=>?_)
   cases f with
   | next=>
     obtain ⟨σ3,H3,I3,n3⟩:=q3
     obtain ⟨m',hm,w3⟩:=hN σ3 H3 n3
     exact ⟨m',hm,σ3,H3,I3,w3⟩
   | cont=>
     obtain ⟨σ3,H3,I3,n3⟩:=q3
     obtain ⟨m',hm,w3⟩:=hN σ3 H3 n3
     exact ⟨m',hm,σ3,H3,I3,w3⟩
   | brk=>exact q3
   | ret v=>exact q3
 | false=>
   rw [if_neg Bool.false_ne_true]
   exact wpAny_execs_nil ⟨σ1,H2,I2,q2⟩
end
structure It where
 go:Nat->Hp->Prop
 KA:Nat->Hp->V->Hp->Prop
 stop:Nat->Hp->Prop
def qT (X:Cx) (pins:List (Addr×Obj)) (H:Hp) (b:Addr):Prop:=
 H b=none/\b≠X.env.locals/\b∉X.fs/\(b∈X.ex∨X.s₀.heap.objs.size<=b)/\(∀ x c,X.env.cells.lookup x=some c->c≠b)/\∀ p∈X.pn++pins,p.1≠b
theorem Inv.CT {X:Cx} {pins:List (Addr×Obj)} {σ:St} {H H':Hp} {s:Shared} {b:Addr} (I:Inv X pins σ H s) (hb:s.heap.objs.size<=b) (hn:H' b=none):qT X pins H' b:=by
 refine ⟨hn,Nat.ne_of_gt (Nat.lt_of_lt_of_le I.lt hb),I.MO hb,.inr (Nat.le_trans I.sz hb),fun x c e z=>?_,fun p hp z=>?_⟩
 . obtain ⟨v,q⟩:=I.cell x c e
   exact absurd (Nat.lt_of_lt_of_le q.lt (by rw [z];exact hb)) (Nat.lt_irrefl _)
 . exact absurd (Nat.lt_of_lt_of_le (Heap.lt_size (I.pin p hp).1) (by rw [z];exact hb)) (Nat.lt_irrefl _)
structure Turn (P:Program) (w:World) (K:PySem.W.Frag) (tg:Expr) (J:It) (fp:List Addr) (it:Addr) (tn:Nat->Heap->Prop):Prop where
 mem:it∈fp
 obj:∀ i h,tn i h->∀ b∈fp,∃ o,h.get? b=some o/\∀ v,o.data≠.cell v
 keep:∀ i h h',tn i h->(∀ b∈fp,∀ o,h.get? b=some o->h'.get? b=some o)->tn i h'
 item:∀ (X:Cx),X.prog=P->X.w=w->X.K=K->X.calm=true->∀ (i:Nat) (pins:List (Addr×Obj)) (s:Shared) (σ:St) (H:Hp) (E:Value->Shared->Prop),Inv X pins σ H s->(∀ b∈fp,qT X pins H b)->tn i s.heap->J.go i H->
   wpAny (model P w) X.A (pyNext (.ref it)) (fun r s1=>∃ u,r=some u/\
     wpAny (model P w) X.A (letOwnedTupleGo tg (.ref it) u) (fun _ s2=>∃ x H',Inv X pins σ H' s2/\RelV x u/\J.KA i H x H'/\tn (i + 1) s2.heap/\∀ b∈fp,H' b=none) E s1) E s
 done:∀ (X:Cx),X.prog=P->X.w=w->X.K=K->X.calm=true->∀ (i:Nat) (pins:List (Addr×Obj)) (s:Shared) (σ:St) (H:Hp) (E:Value->Shared->Prop),Inv X pins σ H s->(∀ b∈fp,qT X pins H b)->tn i s.heap->J.stop i H->
   wpAny (model P w) X.A (pyNext (.ref it)) (fun r s1=>r=none/\Inv X pins σ H s1) E s
 self:∀ (A:Around) (i:Nat) (s:Shared) (Q:Value->Shared->Prop) (E:Value->Shared->Prop),tn i s.heap->Q (.ref it) s->wpAny (model P w) A (pyIter (.ref it)) Q E s
abbrev TI:=St->Hp->(It->Hp->Prop)->Prop
def PIE (X:Cx) (pins:List (Addr×Obj)) (σ:St) (tg:Expr) (R:It->Hp->Prop) (P4:Value) (s2:Shared):Prop:=
 ∃ (it:Addr) (fp:List Addr) (tn:Nat->Heap->Prop) (J:It) (H':Hp),P4=.ref it/\Inv X pins σ H' s2/\Turn X.prog X.w X.K tg J fp it tn/\tn 0 s2.heap/\(∀ b∈fp,qT X pins H' b)/\R J H'
def PI (X:Cx) (tg iter:Expr) (wi:TI):Prop:=
 ∀ (pins:List (Addr×Obj)) (s:Shared) (σ:St) (H:Hp) (R:It->Hp->Prop),Inv X pins σ H s->wi σ H R->
   wpAny (model X.prog X.w) X.A (eval iter X.env) (fun v s1=>wpAny (model X.prog X.w) X.A (pyIter v) (PIE X pins σ tg R) X.xe s1) X.xe s
theorem EC {M:Model} {A:Around} {E:Value->Shared->Prop} {s:Shared} {tg:Expr} {it:Addr} {u:Value} {o:Obj} {n:String} {vs:Array Value} {Q:Unit->Shared->Prop} (ho:s.heap.get? it=some o) (hc:o.cls=.type n) (hd:o.data=.fields vs)
   (hn:["enumerate","zip","dict_itemiterator","dict_reverseitemiterator","odict_iterator","itertools.zip_longest","itertools.pairwise"].contains n=false) (hQ:Q () s):wpAny M A (letOwnedTupleGo tg (.ref it) u) Q E s:=by
 unfold letOwnedTupleGo
 cases tg <;> first
   | exact wpAny_pure hQ
   | (cases u <;> first
       | exact wpAny_pure hQ
       | (refine wpAny_bind (wpAny_load ho ?_)
          rw [hc,hd]
          show wpAny M A (if (["enumerate","zip","dict_itemiterator","dict_reverseitemiterator","odict_iterator","itertools.zip_longest","itertools.pairwise"].contains n&&vs[0]?==some (rawInt _))=true then _ else _) Q E s
          rw [if_neg (by intro h;rw [hn,Bool.false_and] at h;cases h)]
          exact wpAny_pure hQ))
def AB (K:PySem.W.Frag) (a:Addr):It:=
 ⟨fun i H=>∃ xs x,aZ K H a xs/\xs[i]?=some x,fun i H x H'=>H'=H/\∀ xs,aZ K H a xs->xs[i]?=some x,fun i H=>∃ xs,aZ K H a xs/\xs.length<=i⟩
def Mi (K:PySem.W.Frag) (a:Addr):It:=
 ⟨fun i H=>∃ xs x,om K H a xs/\xs[i]?=some x,fun i H x H'=>H'=H/\∀ xs,om K H a xs->xs[i]?=some x,fun i H=>∃ xs,om K H a xs/\xs.length<=i⟩
def BR (lo:Int) (n:Nat):It:=⟨fun i _=>i < n,fun i H x H'=>H'=H/\x=.int (lo + i),fun i _=>n<=i⟩
theorem CU {P:Program} {w:World} {K:PySem.W.Frag} {tg:Expr} (a it:Addr):Turn P w K tg (AB K a) [it] it (fun i h=>h.IsListIter it a i) where
 mem:=by simp
 obj:=fun i h st b hb=>by
   have e:b=it:=by simpa using hb
   subst e
   obtain ⟨o,e,c,d⟩:=st
   exact ⟨o,e,fun v z=>by rw [d] at z;cases z⟩
 keep:=fun i h h' st k=>st.at fun o e=>k it (by simp) o e
 item:=by
   intro X hP hw hK hc i pins s σ H E I hf st hg
   subst hP hw hK
   obtain ⟨xs,x,hq,hx⟩:=hg
   obtain ⟨its,rv,p,hz⟩:=I.list hq
   obtain ⟨u,hu,ru⟩:=rv.get hx
   obtain ⟨f0,f1,f2,f3,f4,f5⟩:=hf it (by simp)
   refine wpAny_pyNext_list_item st p.isList (x:=u) (by simpa using hu) fun h' st' sb=>?_
   have I1:Inv X pins σ H { s with heap:=h' }:=I.turned (t':=s.toks) (fun b o hb e=>(sb.2 b hb).trans e) f0 f1 f3 f4 f5
   obtain ⟨o,e,c,d⟩:=id st'
   exact ⟨u,rfl,EC (s:={ s with heap:=h' }) e c d (by decide) ⟨x,H,I1,ru,⟨rfl,fun ys hy=>by rw [I.tY hy hq];exact hx⟩,st',fun b hb=>(hf b hb).1⟩⟩
 done:=by
   intro X hP hw hK hc i pins s σ H E I hf st hg
   subst hP hw hK
   obtain ⟨xs,hq,hx⟩:=hg
   obtain ⟨its,rv,p,hz⟩:=I.list hq
   obtain ⟨f0,f1,f2,f3,f4,f5⟩:=hf it (by simp)
   have hl:=rv.length
   exact wpAny_pyNext_list_end (I.ok.hd hc) st p.isList (by simp;omega) fun h' eb=>⟨rfl,I.turned (t':=s.toks) (fun b o hb e=>eb b o hb e) f0 f1 f3 f4 f5⟩
 self:=fun _ _ _ _ _ st h=>wpAny_pyIter_listiter st h
theorem AD {P:Program} {w:World} {K:PySem.W.Frag} {tg:Expr} (a it:Addr):Turn P w K tg (Mi K a) [it] it (fun i h=>h.IsTupleIter it a i) where
 mem:=by simp
 obj:=fun i h st b hb=>by
   have e:b=it:=by simpa using hb
   subst e
   obtain ⟨o,e,c,d⟩:=st
   exact ⟨o,e,fun v z=>by rw [d] at z;cases z⟩
 keep:=fun i h h' st k=>st.at fun o e=>k it (by simp) o e
 item:=by
   intro X hP hw hK hc i pins s σ H E I hf st hg
   subst hP hw hK
   obtain ⟨xs,x,hq,hx⟩:=hg
   obtain ⟨its,rv,p,hz⟩:=I.tuple hq
   obtain ⟨u,hu,ru⟩:=rv.get hx
   obtain ⟨f0,f1,f2,f3,f4,f5⟩:=hf it (by simp)
   refine wpAny_pyNext_tuple_item st (show s.heap.IsTuple a its.toArray from p) (x:=u) (by simpa using hu) fun h' st' sb=>?_
   have I1:Inv X pins σ H { s with heap:=h' }:=I.turned (t':=s.toks) (fun b o hb e=>(sb.2 b hb).trans e) f0 f1 f3 f4 f5
   obtain ⟨o,e,c,d⟩:=id st'
   exact ⟨u,rfl,EC (s:={ s with heap:=h' }) e c d (by decide) ⟨x,H,I1,ru,⟨rfl,fun ys hy=>by rw [I.qS hy hq];exact hx⟩,st',fun b hb=>(hf b hb).1⟩⟩
 done:=by
   intro X hP hw hK hc i pins s σ H E I hf st hg
   subst hP hw hK
   obtain ⟨xs,hq,hx⟩:=hg
   obtain ⟨its,rv,p,hz⟩:=I.tuple hq
   obtain ⟨f0,f1,f2,f3,f4,f5⟩:=hf it (by simp)
   have hl:=rv.length
   exact wpAny_pyNext_tuple_end (I.ok.hd hc) st (show s.heap.IsTuple a its.toArray from p) (by simp;omega) fun h' eb=>⟨rfl,I.turned (t':=s.toks) (fun b o hb e=>eb b o hb e) f0 f1 f3 f4 f5⟩
 self:=fun _ _ _ _ _ st h=>wpAny_pyIter_tupleiter st h
theorem AE {P:Program} {w:World} {K:PySem.W.Frag} {tg:Expr} (it:Addr) (lo:Int) (n:Nat):Turn P w K tg (BR lo n) [it] it (fun i h=>IsRangeIter h it (lo + (i:Nat) * 1) ((n:Int) - (i:Nat)) 1) where
 mem:=by simp
 obj:=fun i h st b hb=>by
   have e:b=it:=by simpa using hb
   subst e
   exact ⟨_,st,fun v z=>by
     have z':Data.fields _=Data.cell v:=z
     cases z'⟩
 keep:=fun i h h' st k=>k it (by simp) _ st
 item:=by
   intro X hP hw hK hc i pins s σ H E I hf st hg
   subst hP hw hK
   obtain ⟨f0,f1,f2,f3,f4,f5⟩:=hf it (by simp)
   have W:=Walks.range (prog:=X.prog) (w:=X.w) (I.ok.hd hc) it lo 1 n
   refine W.item i s _ _ hg st fun v h' tk hv st' kk=>?_
   obtain ⟨t,rfl⟩:=hv
   have I1:Inv X pins σ H { s with heap:=h',toks:=tk }:=I.turned (fun b o hb e=>kk b o (by simpa using hb) e) f0 f1 f3 f4 f5
   refine ⟨_,rfl,EC (s:={ s with heap:=h',toks:=tk }) (n:="range_iterator") st' rfl rfl (by decide) ⟨.int (lo + i),H,I1,⟨t,?_⟩,⟨rfl,rfl⟩,st',fun b hb=>(hf b hb).1⟩⟩
   rw [Int.mul_one]
 done:=by
   intro X hP hw hK hc i pins s σ H E I hf st hg
   subst hP hw hK
   obtain ⟨f0,f1,f2,f3,f4,f5⟩:=hf it (by simp)
   exact wpAny_pyNext_range_end (I.ok.hd hc) st (by have:n<=i:=hg;omega) fun h' eb=>⟨rfl,I.turned (t':=s.toks) (fun b o hb e=>eb b o hb e) f0 f1 f3 f4 f5⟩
 self:=fun _ _ _ _ _ st h=>wpAny_pyIter_rangeiter st h
end L2
namespace L2
open PySem PySem.Spec PyProof.Rows
section
variable {X:Cx} {tg:Expr}
def BS (K:PySem.W.Frag) (tl:TE):TI:=fun σ H R=>tl σ H fun x H1=>∃ a,x=.ref a/\(∃ xs,aZ K H1 a xs)/\R (AB K a) H1
def HQ (K:PySem.W.Frag) (tl:TE):TI:=fun σ H R=>tl σ H fun x H1=>∃ a,x=.ref a/\(∃ xs,om K H1 a xs)/\R (Mi K a) H1
theorem HR {l:Expr} {tl:TE} (hl:PE X l tl):PI X tg l (BS X.K tl):=by
 intro pins s σ H R I h
 refine dX (hl pins s σ H _ I h) fun v s1 ⟨x,H1,I1,r1,q1⟩=>?_
 obtain ⟨a,e,⟨xs,hq⟩,q⟩:=q1
 subst e
 cases r1
 obtain ⟨its,rv,p,hz⟩:=I1.list hq
 refine wpAny_pyIter_list p.isList ?_
 refine ⟨s1.heap.objs.size,[s1.heap.objs.size],_,_,H1,rfl,I1.kept (t':=s1.toks) fun b o e=>Heap.get?_push_of_some _ e,CU a _,⟨_,Heap.get?_push_size _ rfl,rfl,rfl⟩,fun b hb=>?_,q⟩
 have e:b=s1.heap.objs.size:=by simpa using hb
 subst e
 exact I1.CT (Nat.le_refl _) (I1.dz.fresh (Nat.le_refl _))
theorem KC {l:Expr} {tl:TE} (hl:PE X l tl):PI X tg l (HQ X.K tl):=by
 intro pins s σ H R I h
 refine dX (hl pins s σ H _ I h) fun v s1 ⟨x,H1,I1,r1,q1⟩=>?_
 obtain ⟨a,e,⟨xs,hq⟩,q⟩:=q1
 subst e
 cases r1
 obtain ⟨its,rv,p,hz⟩:=I1.tuple hq
 refine wpAny_pyIter_tuple (show s1.heap.IsTuple a its.toArray from p) ?_
 refine ⟨s1.heap.objs.size,[s1.heap.objs.size],_,_,H1,rfl,I1.kept (t':=s1.toks) fun b o e=>Heap.get?_push_of_some _ e,AD a _,⟨_,Heap.get?_push_size _ rfl,rfl,rfl⟩,fun b hb=>?_,q⟩
 have e:b=s1.heap.objs.size:=by simpa using hb
 subst e
 exact I1.CT (Nat.le_refl _) (I1.dz.fresh (Nat.le_refl _))
theorem zq {pins:List (Addr×Obj)} {σ:St} {H:Hp} {s:Shared} {R:It->Hp->Prop} {E:Value->Shared->Prop} {lo hi:Int} {t u v:Tok} {tk:Nat} (I:Inv X pins σ H s) (h1:-(2 ^ 62)<=lo) (h2:lo < 2 ^ 62) (h3:-(2 ^ 62)<=hi) (h4:hi < 2 ^ 62)
   (q:R (BR lo (hi - lo).toNat) H):wpAny (model X.prog X.w) X.A (pyIter (.ref s.heap.objs.size)) (PIE X pins σ tg R) E { s with heap:=s.heap.push { cls:=.type "range",data:=.fields #[.int lo t,.int hi u,.int 1 v] },toks:=tk }:=by
 refine wpAny_pyIter_range (IsRange.new ..) (small_one h1 h2 h3 h4) ?_
 have I1:Inv X pins σ H { s with heap:=s.heap.push { cls:=.type "range",data:=.fields #[.int lo t,.int hi u,.int 1 v] },toks:=tk }:=I.kept fun b o e=>Heap.get?_push_of_some _ e
 refine ⟨(s.heap.push { cls:=.type "range",data:=.fields #[.int lo t,.int hi u,.int 1 v] }).objs.size,[(s.heap.push { cls:=.type "range",data:=.fields #[.int lo t,.int hi u,.int 1 v] }).objs.size],_,_,H,rfl,
   I1.kept (t':=tk) fun b o e=>Heap.get?_push_of_some _ e,AE _ lo (hi - lo).toNat,?_,fun b hb=>?_,q⟩
 . have e1:lo + ((0:Nat):Int) * 1=lo:=by simp
   have e2:(((hi - lo).toNat:Nat):Int) - ((0:Nat):Int)=Builtin.Range.rangeSize lo hi 1:=by rw [rangeSize_one];split <;> omega
   show IsRangeIter _ _ (lo + ((0:Nat):Int) * 1) ((((hi - lo).toNat:Nat):Int) - ((0:Nat):Int)) 1
   rw [e1,e2]
   exact Heap.get?_push_size _ rfl
 . have e:b=(s.heap.push { cls:=.type "range",data:=.fields #[.int lo t,.int hi u,.int 1 v] }).objs.size:=by simpa using hb
   subst e
   exact I1.CT (Nat.le_refl _) (I1.dz.fresh (Nat.le_refl _))
def BU (ta:TA):TI:=fun σ H R=>ta σ H fun vs H1=>∃ j:Int,vs=[.int j]/\-(2 ^ 62)<=j/\j < 2 ^ 62/\R (BR 0 j.toNat) H1
def BV (ta:TA):TI:=fun σ H R=>ta σ H fun vs H1=>∃ i j:Int,vs=[.int i,.int j]/\(-(2 ^ 62)<=i/\i < 2 ^ 62/\-(2 ^ 62)<=j/\j < 2 ^ 62)/\R (BR i (j - i).toNat) H1
theorem CV {a:Expr} {ta:TA} {p pos:Pos} (hg:Gl X "range") (hm:X.mg "range"=none) (ha:PA X [a] ta) (hs:starEach [a] X.env=[(false,eval a X.env)]:=by rfl):PI X tg (.Call (.Name "range" p) [a] [] pos) (BU ta):=by
 intro pins s σ H R I h
 refine Call_ (pG I hg hm boot_range (PyProof.Rows.callWith_type1 (dX (ha pos pins s σ H _ I h) fun us s1 ⟨vs,H1,I1,r1,q1⟩=>?_) hs rfl))
 obtain ⟨j,e,q1,q2,q⟩:=q1
 subst e
 cases r1 with
 | cons r rr=>
   cases rr
   obtain ⟨t,rfl⟩:=r
   exact call_range_1 (zq I1 (by omega) (by omega) q1 q2 (by simpa using q))
theorem CW {a b:Expr} {ta:TA} {p pos:Pos} (hg:Gl X "range") (hm:X.mg "range"=none) (ha:PA X [a,b] ta) (hs:starEach [a,b] X.env=[(false,eval a X.env),(false,eval b X.env)]:=by rfl) (Mj:starEach [b] X.env=[(false,eval b X.env)]:=by rfl):
   PI X tg (.Call (.Name "range" p) [a,b] [] pos) (BV ta):=by
 intro pins s σ H R I h
 refine Call_ (pG I hg hm boot_range (PyProof.Rows.callWith_type1 (dX (ha pos pins s σ H _ I h) fun us s1 ⟨vs,H1,I1,r1,q1⟩=>?_) (by rw [hs,Mj]) (by rw [Mj];rfl)))
 obtain ⟨i,j,e,⟨q1,q2,q3,q4⟩,q⟩:=q1
 subst e
 cases r1 with
 | cons r rr=>
   cases rr with
   | cons r' rr=>
     cases rr
     obtain ⟨t,rfl⟩:=r
     obtain ⟨t',rfl⟩:=r'
     exact call_range_2 (zq I1 q1 q2 q3 q4 q)
def vj (wi:TI) (g:TG) (tb:TS):TS:=fun D σ H=>wi σ H fun J H1=>∃ W:Nat->Nat->St->Hp->Prop,(∃ m,W 0 m σ H1)/\∀ i m σ H,W i m σ H->
 (J.stop i H/\D.nx σ H)∨(J.go i H/\∃ N:St->Hp->Prop,(∀ σ' H',N σ' H'->∃ m',m' < m/\W (i + 1) m' σ' H')/\∀ x H',J.KA i H x H'->g x σ H' fun σ2 H2=>tb { D with nx:=N,ct:=N,bk:=D.nx } σ2 H2)
def t6 (fp:List Addr) (h:Heap):List (Addr×Obj):=fp.filterMap fun b=>(h.get? b).map fun o=>(b,o)
theorem lU {fp:List Addr} {h:Heap} {b:Addr} {o:Obj} (hb:b∈fp) (e:h.get? b=some o):(b,o)∈t6 fp h:=List.mem_filterMap.mpr ⟨b,hb,by rw [e];rfl⟩
theorem CY {fp:List Addr} {h:Heap} {p:Addr×Obj} (hp:p∈t6 fp h):p.1∈fp/\h.get? p.1=some p.2:=by
 obtain ⟨b,hb,e⟩:=List.mem_filterMap.mp hp
 cases q:h.get? b with
 | none=>rw [q] at e;cases e
 | some o=>
   rw [q] at e
   have e':(b,o)=p:=Option.some.inj e
   subst e'
   exact ⟨hb,q⟩
theorem Inv.pinned {pins:List (Addr×Obj)} {σ:St} {H:Hp} {s:Shared} {fp:List Addr} (I:Inv X pins σ H s) (hf:∀ b∈fp,qT X pins H b) (ho:∀ b∈fp,∃ o,s.heap.get? b=some o/\∀ v,o.data≠.cell v):Inv X (pins++t6 fp s.heap) σ H s:=
 I.wL fun p hp=>(List.mem_append.mp hp).elim (fun z=>I.pin p (List.mem_append_right _ z)) fun z=>by
   obtain ⟨hb,e⟩:=CY z
   obtain ⟨f0,f1,f2,_⟩:=hf p.1 hb
   obtain ⟨o,e',d⟩:=ho p.1 hb
   rw [e] at e';cases e'
   exact ⟨e,f0,f1,f2,d⟩
theorem Inv.m7 {pins pl:List (Addr×Obj)} {σ:St} {H:Hp} {s:Shared} (I:Inv X (pins++pl) σ H s):Inv X pins σ H s:=I.wL fun p hp=>I.pin p (List.mem_append_right _ (List.mem_append_left _ hp))
theorem KD {iter:Expr} {body:List Stmt} {wi:TI} {g:TG} {tb:TS} {pos:Pos} (hp:PassesOwn (model X.prog X.w) X.A X.env X.xe) (hc:X.calm=true) (hi:PI X tg iter wi) (hg:PG X tg g) (hb:Av X body tb)
   (hs:∀ x,foldedSetIterable iter X.env x=pure x:=by intro _;rfl):PS X (.For tg iter body [] pos) (vj wi g tb):=by
 intro pins s σ H D I h
 refine wpAny_For (dX (hi pins s σ H _ I h) fun v s1 h1=>dX h1 fun P4 s2 h2=>?_) hs
 obtain ⟨it,fp,tn,J,H2,e,I2,T,st2,f2,W,⟨m0,w0⟩,turn⟩:=h2
 subst e
 have AF:∀ {H':Hp},(∀ b∈fp,H' b=none)->∀ b∈fp,qT X pins H' b:=fun hn b hb=>⟨hn b hb,(f2 b hb).2⟩
 refine codeAny_forLoop_any (fun n s'=>∃ i σ' H',Inv X pins σ' H' s'/\tn i s'.heap/\(∀ b∈fp,H' b=none)/\W i n σ' H') ?_ m0 ⟨0,σ,H2,I2,st2,fun b hb=>(f2 b hb).1,w0⟩
 rintro n s3 ⟨i,σ3,H3,I3,st3,fr3,w3⟩
 rcases turn i n σ3 H3 w3 with ⟨stop,qn⟩ | ⟨go,N,hN,step⟩
 . refine wpAny_passesOwn hp (dX (T.done X rfl rfl rfl hc i pins s3 σ3 H3 X.xe I3 (AF fr3) st3 stop) fun r s4 ⟨hr,I4⟩=>?_)
   subst hr
   exact wpAny_execs_nil ⟨σ3,H3,I4,qn⟩
 . refine wpAny_passesOwn hp (dX (T.item X rfl rfl rfl hc i pins s3 σ3 H3 X.xe I3 (AF fr3) st3 go) fun r s4 ⟨u,hr,h4⟩=>?_)
   subst hr
   refine wpAny_passesOwn hp (dX h4 fun _ s5 ⟨x,H5,I5,r5,y5,st5,fr5⟩=>?_)
   have SH:=I5.pinned (AF fr5) (T.obj _ _ st5)
   refine wpAny_passesOwn hp (dX (hg _ s5 σ3 H5 x u _ SH r5 (step x H5 y5)) fun _ s6 ⟨σ6,H6,I6,q6⟩=>?_)
   refine wpAny_passesOwn hp (dX (hb _ s6 σ6 H6 _ I6 q6) fun f s7 q7=>?_)
   have again:∀ {σ7:St} {H7:Hp},Inv X (pins++t6 fp s5.heap) σ7 H7 s7->N σ7 H7->∃ m,m < n/\∃ i σ' H',Inv X pins σ' H' s7/\tn i s7.heap/\(∀ b∈fp,H' b=none)/\W i m σ' H':=fun {σ7 H7} I7 n7=>by
     obtain ⟨m',hm,w7⟩:=hN σ7 H7 n7
     refine ⟨m',hm,i + 1,σ7,H7,I7.m7,T.keep _ _ _ st5 fun b hb o e=>(I7.pin (b,o) (List.mem_append_right _ (List.mem_append_right _ (lU hb e)))).1,fun b hb=>?_,w7⟩
     obtain ⟨o,e,d⟩:=T.obj _ _ st5 b hb
     exact (I7.pin (b,o) (List.mem_append_right _ (List.mem_append_right _ (lU hb e)))).2.1
   cases f with
   | next=>obtain ⟨σ7,H7,I7,n7⟩:=q7;exact again I7 n7
   | cont=>obtain ⟨σ7,H7,I7,n7⟩:=q7;exact again I7 n7
   | brk=>obtain ⟨σ7,H7,I7,q7⟩:=q7;exact ⟨σ7,H7,I7.m7,q7⟩
   | ret v=>obtain ⟨x7,σ7,H7,I7,r7,q7⟩:=q7;exact ⟨x7,σ7,H7,I7.m7,r7,q7⟩
end
theorem ED {K:PySem.W.Frag} {a:Addr} {xs:List V} {g:TG} {tb:TS} {D:Ends} {σ:St} {H:Hp} (Pv:Nat->St->Hp->Prop) (h0:Pv 0 σ H) (hl:∀ i σ H,i<=xs.length->Pv i σ H->aZ K H a xs)
   (hs:∀ i x σ H,xs[i]?=some x->Pv i σ H->g x σ H fun σ2 H2=>tb { D with nx:=Pv (i + 1),ct:=Pv (i + 1),bk:=D.nx } σ2 H2) (hd:∀ σ H,Pv xs.length σ H->D.nx σ H):
   ∃ W:Nat->Nat->St->Hp->Prop,(∃ m,W 0 m σ H)/\∀ i m σ H,W i m σ H->
     ((AB K a).stop i H/\D.nx σ H)∨((AB K a).go i H/\∃ N:St->Hp->Prop,(∀ σ' H',N σ' H'->∃ m',m' < m/\W (i + 1) m' σ' H')/\∀ x H',(AB K a).KA i H x H'->g x σ H' fun σ2 H2=>tb { D with nx:=N,ct:=N,bk:=D.nx } σ2 H2):=by
 refine ⟨fun i m σ H=>m=xs.length - i/\i<=xs.length/\Pv i σ H,⟨xs.length,by simp,Nat.zero_le _,h0⟩,?_⟩
 rintro i m σ H ⟨rfl,hi,p⟩
 have q:=hl i σ H hi p
 by_cases qR:i < xs.length
 . refine .inr ⟨⟨xs,xs[i],q,by simp [qR]⟩,Pv (i + 1),fun σ' H' p'=>⟨xs.length - (i + 1),by omega,rfl,qR,p'⟩,fun x H' y=>?_⟩
   obtain ⟨e,y⟩:=y
   subst e
   exact hs i x σ _ (y xs q) p
 . have e:i=xs.length:=by omega
   subst e
   exact .inl ⟨⟨xs,q,Nat.le_refl _⟩,hd σ H p⟩
theorem CZ {lo:Int} {n:Nat} {g:TG} {tb:TS} {D:Ends} {σ:St} {H:Hp} (Pv:Nat->St->Hp->Prop) (h0:Pv 0 σ H)
   (hs:∀ i σ H,i < n->Pv i σ H->g (.int (lo + i)) σ H fun σ2 H2=>tb { D with nx:=Pv (i + 1),ct:=Pv (i + 1),bk:=D.nx } σ2 H2) (hd:∀ σ H,Pv n σ H->D.nx σ H):
   ∃ W:Nat->Nat->St->Hp->Prop,(∃ m,W 0 m σ H)/\∀ i m σ H,W i m σ H->
     ((BR lo n).stop i H/\D.nx σ H)∨((BR lo n).go i H/\∃ N:St->Hp->Prop,(∀ σ' H',N σ' H'->∃ m',m' < m/\W (i + 1) m' σ' H')/\∀ x H',(BR lo n).KA i H x H'->g x σ H' fun σ2 H2=>tb { D with nx:=N,ct:=N,bk:=D.nx } σ2 H2):=by
 refine ⟨fun i m σ H=>m=n - i/\i<=n/\Pv i σ H,⟨n,by simp,Nat.zero_le _,h0⟩,?_⟩
 rintro i m σ H ⟨rfl,hi,p⟩
 by_cases qR:i < n
 . refine .inr ⟨qR,Pv (i + 1),fun σ' H' p'=>⟨n - (i + 1),by omega,rfl,qR,p'⟩,fun x H' y=>?_⟩
   obtain ⟨e,y⟩:=y
   subst e y
   exact hs i σ _ qR p
 . have e:i=n:=by omega
   subst e
   exact .inl ⟨Nat.le_refl _,hd σ H p⟩
end L2
namespace L2
open PySem PySem.Spec PyProof.Rows
abbrev R2:=V->V->Hp->VK->Prop
def mQ (X:Cx) (f:Value->Value->Sem Value) (r:R2):Prop:=
 ∀ (pins:List (Addr×Obj)) (s:Shared) (σ:St) (H:Hp) (x y:V) (v u:Value) (Q:VK),Inv X pins σ H s->RelV x v->RelV y u->r x y H Q->
   wpAny (model X.prog X.w) X.A (f v u) (EP X pins σ Q) X.xe s
def P5 (X:Cx) (f:Value->Sem Value) (r:V->Hp->VK->Prop):Prop:=
 ∀ (pins:List (Addr×Obj)) (s:Shared) (σ:St) (H:Hp) (x:V) (v:Value) (Q:VK),Inv X pins σ H s->RelV x v->r x H Q->
   wpAny (model X.prog X.w) X.A (f v) (EP X pins σ Q) X.xe s
def gx (X:Cx) (f:Value) (r:List V->Hp->VK->Prop):Prop:=
 ∀ (pins:List (Addr×Obj)) (s:Shared) (σ:St) (H:Hp) (xs:List V) (us:List Value) (Q:VK),Inv X pins σ H s->Vals xs us->r xs H Q->
   wpAny (model X.prog X.w) X.A (call f us) (EP X pins σ Q) X.xe s
def SI (X:Cx) (r:V->Hp->(Bool->Hp->Prop)->Prop):Prop:=
 ∀ (pins:List (Addr×Obj)) (s:Shared) (σ:St) (H:Hp) (x:V) (v:Value) (Q:Bool->Hp->Prop),Inv X pins σ H s->RelV x v->r x H Q->
   wpAny (model X.prog X.w) X.A (truthy v) (TP X pins σ Q) X.xe s
def EE (r:R2) (ta tb:TE):TE:=fun σ H Q=>ta σ H fun x H1=>tb σ H1 fun y H2=>r x y H2 Q
def MW (r:V->Hp->VK->Prop) (ta:TE):TE:=fun σ H Q=>ta σ H fun x H1=>r x H1 Q
def rI (C:Int->Int->Prop) (g:Int->Int->V):R2:=fun x y H Q=>∃ i j,x=.int i/\y=.int j/\C i j/\Q (g i j) H
def EF (g:Int->Int->V):R2:=fun x y H Q=>∃ i j,x=.int i/\y=.int j/\Q (g i j) H
def rU (g:Int->V):V->Hp->VK->Prop:=fun x H Q=>∃ i,x=.int i/\Q (g i) H
section
variable {X:Cx} {a b c:Expr} {ta tb tc:TE} {pos:Pos}
theorem KG (ha:PE X a ta) (hb:PE X b tb) {pins:List (Addr×Obj)} {s:Shared} {σ:St} {H:Hp} {R:V->V->Hp->Prop} (I:Inv X pins σ H s)
   (h:ta σ H fun x H1=>tb σ H1 fun y H2=>R x y H2) {Q:Value->Shared->Prop} {f:Value->Value->Sem Value}
   (hf:∀ v u s2 x y H2,Inv X pins σ H2 s2->RelV x v->RelV y u->R x y H2->wpAny (model X.prog X.w) X.A (f v u) Q X.xe s2):
   wpAny (model X.prog X.w) X.A (eval a X.env) (fun v s₁=>wpAny (model X.prog X.w) X.A (eval b X.env) (fun u s₂=>wpAny (model X.prog X.w) X.A (f v u) Q X.xe s₂) X.xe s₁) X.xe s:=by
 refine dX (ha pins s σ H _ I h) fun v s1 ⟨x,H1,I1,r1,q1⟩=>?_
 refine dX (hb pins s1 σ H1 _ I1 q1) fun u s2 ⟨y,H2,I2,r2,q2⟩=>?_
 exact hf v u s2 x y H2 I2 r1 r2 q2
theorem Jy {op:Operator} {r:R2} (ho:mQ X (binaryOp op) r) (ha:PE X a ta) (hb:PE X b tb):PE X (.BinOp a op b pos) (EE r ta tb):=by
 intro pins s σ H Q I h
 exact wpAny_BinOp (KG ha hb I h fun v u s2 x y H2 I2 rx ry q=>ho pins s2 σ H2 x y v u Q I2 rx ry q)
theorem MX {op:UnaryOp} {r:V->Hp->VK->Prop} (ho:P5 X (unaryOp op) r) (ha:PE X a ta):PE X (.UnaryOp op a pos) (MW r ta):=by
 intro pins s σ H Q I h
 exact UnaryOp_ (dX (ha pins s σ H _ I h) fun v s1 ⟨x,H1,I1,r1,q1⟩=>ho pins s1 σ H1 x v Q I1 r1 q1)
theorem P6 {f:Value->Value->Sem Value} {C:Int->Int->Prop} {g:Int->Int->Int}
   (rule:∀ (i j:Int) (t u:Tok) (s:Shared) (Q:Value->Shared->Prop) (E:Value->Shared->Prop),C i j->Q (.int (g i j) s.toks) { s with toks:=s.toks + 1 }->wpAny (model X.prog X.w) X.A (f (.int i t) (.int j u)) Q E s):
   mQ X f (rI C fun i j=>.int (g i j)):=by
 intro pins s σ H x y v u Q I rx ry h
 obtain ⟨i,j,rfl,rfl,hc,q⟩:=h
 obtain ⟨t,rfl⟩:=rx
 obtain ⟨t',rfl⟩:=ry
 exact rule i j t t' s _ _ hc ⟨.int (g i j),H,I.tok _,⟨_,rfl⟩,q⟩
theorem MY {f:Value->Value->Sem Value} {g:Int->Int->Int}
   (rule:∀ (i j:Int) (t u:Tok) (s:Shared) (Q:Value->Shared->Prop) (E:Value->Shared->Prop),Q (.int (g i j) s.toks) { s with toks:=s.toks + 1 }->wpAny (model X.prog X.w) X.A (f (.int i t) (.int j u)) Q E s):
   mQ X f (EF fun i j=>.int (g i j)):=by
 intro pins s σ H x y v u Q I rx ry h
 obtain ⟨i,j,rfl,rfl,q⟩:=h
 obtain ⟨t,rfl⟩:=rx
 obtain ⟨t',rfl⟩:=ry
 exact rule i j t t' s _ _ ⟨.int (g i j),H,I.tok _,⟨_,rfl⟩,q⟩
theorem HS {f:Value->Value->Sem Value} {g:Int->Int->Bool}
   (rule:∀ (i j:Int) (t u:Tok) (s:Shared) (Q:Value->Shared->Prop) (E:Value->Shared->Prop),Q (.bool (g i j)) s->wpAny (model X.prog X.w) X.A (f (.int i t) (.int j u)) Q E s):
   mQ X f (EF fun i j=>.bl (g i j)):=by
 intro pins s σ H x y v u Q I rx ry h
 obtain ⟨i,j,rfl,rfl,q⟩:=h
 obtain ⟨t,rfl⟩:=rx
 obtain ⟨t',rfl⟩:=ry
 exact rule i j t t' s _ _ ⟨.bl (g i j),H,I,rfl,q⟩
def HU (i j:Int):Prop:=0<=j/\j<=1000000/\i.natAbs < 2 ^ 64
def C0 (i j:Int):Prop:=(-(2 ^ 64) < i/\i < 2 ^ 64)∨(-(2 ^ 64) < j/\j < 2 ^ 64)
theorem C0.ok {i j:Int} (h:C0 i j):IntMulOk i j:=by
 rcases h with ⟨h1,h2⟩ | ⟨h1,h2⟩
 . exact .of_left (intBits_le_64 h1 h2)
 . exact .of_right (intBits_le_64 h1 h2)
theorem dD:mQ X (binaryOp .Add) (EF fun i j=>.int (i + j)):=MY fun _ _ _ _ _ _ _ q=>add_int q
theorem iK:mQ X (binaryOp .Sub) (EF fun i j=>.int (i - j)):=MY fun _ _ _ _ _ _ _ q=>sub_int q
theorem t7:mQ X (binaryOp .Mult) (rI C0 fun i j=>.int (i * j)):=P6 fun _ _ _ _ _ _ _ hc q=>mul_int q hc.ok
theorem qU:mQ X (binaryOp .Mod) (rI (fun _ j=>0 < j) fun i j=>.int (i % j)):=P6 fun i j _ _ _ _ _ hc q=>by
 have h1:(0:Int) < j:=hc
 exact mod_int' (by omega) (by rw [Int.fmod_eq_emod_of_nonneg i (by omega)];exact q)
theorem KH:mQ X (binaryOp .Pow) (rI HU fun i j=>.int (i ^ j.toNat)):=P6 fun _ _ _ _ _ _ _ hc q=>pow_int_small hc.1 hc.2.1 hc.2.2 q
theorem unI {f:Value->Sem Value} {g:Int->Int}
   (rule:∀ (i:Int) (t:Tok) (s:Shared) (Q:Value->Shared->Prop) (E:Value->Shared->Prop),Q (.int (g i) s.toks) { s with toks:=s.toks + 1 }->wpAny (model X.prog X.w) X.A (f (.int i t)) Q E s):
   P5 X f (rU fun i=>.int (g i)):=by
 intro pins s σ H x v Q I rx h
 obtain ⟨i,rfl,q⟩:=h
 obtain ⟨t,rfl⟩:=rx
 exact rule i t s _ _ ⟨.int (g i),H,I.tok _,⟨_,rfl⟩,q⟩
theorem EG:P5 X (unaryOp .USub) (rU fun i=>.int (-i)):=unI fun _ _ _ _ _ q=>neg_int q
end
def C1:V->V->Bool
 | .cQ,.cQ=>true | .cQ,.int _=>true | .int _,.cQ=>true | .cQ,.bl _=>true | .bl _,.cQ=>true | .cQ,.str _=>true | .str _,.cQ=>true
 | .int _,.int _=>true | .bl _,.bl _=>true | .str _,.str _=>true | .CO _,.CO _=>true
 | .int _,.str _=>true | .str _,.int _=>true | .bl _,.str _=>true | .str _,.bl _=>true
 | _,_=>false
def P7:R2:=fun x y H Q=>C1 x y=true/\Q (.bl (decide (x=y))) H
def P8:R2:=fun x y H Q=>C1 x y=true/\Q (.bl (!decide (x=y))) H
theorem BW {i j:Int}:decide (V.int i=V.int j)=(i==j):=by
 rw [Bool.eq_iff_iff]
 simp
theorem EH {i j:Bool}:decide (V.bl i=V.bl j)=(i==j):=by
 rw [Bool.eq_iff_iff]
 simp
theorem BX {i j:Str}:decide (V.str i=V.str j)=(i==j):=by
 rw [Bool.eq_iff_iff]
 simp
theorem BY {i j:Array UInt8}:decide (V.CO i=V.CO j)=(i.toList==j.toList):=by
 rw [Bool.eq_iff_iff]
 cases i
 cases j
 simp
section
variable {X:Cx} {a b c:Expr} {ta tb tc:TE} {pos:Pos}
theorem bN {pins:List (Addr×Obj)} {σ:St} {H:Hp} {s:Shared} {Q:VK} {k k':Bool} (I:Inv X pins σ H s) (q:Q (.bl k) H) (e:k=k'):EP X pins σ Q (.bool k') s:=by
 subst e
 exact ⟨.bl k,H,I,rfl,q⟩
theorem cS:mQ X (compareOp .Eq) P7:=by
 intro pins s σ H x y v u Q I rx ry h
 obtain ⟨hs,q⟩:=h
 cases x with
 | cQ=>
   cases rx
   cases y with
   | cQ=>cases ry;exact PySem.EqNone.eq_none_none (bN I q (by simp))
   | bl j=>cases ry;exact PySem.EqNone.eq_none_bool (bN I q (by simp))
   | int j=>obtain ⟨t',rfl⟩:=ry;exact PySem.EqNone.eq_none_int (bN I q (by simp))
   | str j=>obtain ⟨t',rfl⟩:=ry;exact PySem.EqNone.eq_none_str (bN I q (by simp))
   | _=>exact absurd (show false=true from hs) Bool.false_ne_true
 | bl i=>
   cases rx
   cases y with
   | cQ=>cases ry;exact PySem.EqNone.eq_bool_none (bN I q (by simp))
   | bl j=>cases ry;exact eq_bool (bN I q EH)
   | str j=>obtain ⟨t',rfl⟩:=ry;exact PySem.EqMixed.eq_bool_str (bN I q (by simp))
   | _=>exact absurd (show false=true from hs) Bool.false_ne_true
 | int i=>
   obtain ⟨t,rfl⟩:=rx
   cases y with
   | cQ=>cases ry;exact PySem.EqNone.eq_int_none (bN I q (by simp))
   | int j=>obtain ⟨t',rfl⟩:=ry;exact eq_int (bN I q BW)
   | str j=>obtain ⟨t',rfl⟩:=ry;exact PySem.EqMixed.eq_int_str (bN I q (by simp))
   | _=>exact absurd (show false=true from hs) Bool.false_ne_true
 | str i=>
   obtain ⟨t,rfl⟩:=rx
   cases y with
   | cQ=>cases ry;exact PySem.EqNone.eq_str_none (bN I q (by simp))
   | bl j=>cases ry;exact PySem.EqMixed.eq_str_bool (bN I q (by simp))
   | int j=>obtain ⟨t',rfl⟩:=ry;exact PySem.EqMixed.eq_str_int (bN I q (by simp))
   | str j=>obtain ⟨t',rfl⟩:=ry;exact eq_str (bN I q BX)
   | _=>exact absurd (show false=true from hs) Bool.false_ne_true
 | CO i=>
   obtain ⟨t,rfl⟩:=rx
   cases y with
   | CO j=>obtain ⟨t',rfl⟩:=ry;exact PySem.W.eq_bytes (bN I q BY)
   | _=>exact absurd (show false=true from hs) Bool.false_ne_true
 | _=>cases y <;> exact absurd (show false=true from hs) Bool.false_ne_true
theorem mR:mQ X (compareOp .NotEq) P8:=by
 intro pins s σ H x y v u Q I rx ry h
 obtain ⟨hs,q⟩:=h
 cases x with
 | cQ=>
   cases rx
   cases y with
   | cQ=>cases ry;exact PySem.EqNone.ne_none_none (bN I q (by simp))
   | bl j=>cases ry;exact PySem.EqNone.ne_none_bool (bN I q (by simp))
   | int j=>obtain ⟨t',rfl⟩:=ry;exact PySem.EqNone.ne_none_int (bN I q (by simp))
   | str j=>obtain ⟨t',rfl⟩:=ry;exact PySem.EqNone.ne_none_str (bN I q (by simp))
   | _=>exact absurd (show false=true from hs) Bool.false_ne_true
 | bl i=>
   cases rx
   cases y with
   | cQ=>cases ry;exact PySem.EqNone.ne_bool_none (bN I q (by simp))
   | bl j=>cases ry;exact ne_bool (bN I q (congrArg not EH))
   | str j=>obtain ⟨t',rfl⟩:=ry;exact PySem.EqMixed.ne_bool_str (bN I q (by simp))
   | _=>exact absurd (show false=true from hs) Bool.false_ne_true
 | int i=>
   obtain ⟨t,rfl⟩:=rx
   cases y with
   | cQ=>cases ry;exact PySem.EqNone.ne_int_none (bN I q (by simp))
   | int j=>obtain ⟨t',rfl⟩:=ry;exact ne_int (bN I q (congrArg not BW))
   | str j=>obtain ⟨t',rfl⟩:=ry;exact PySem.EqMixed.ne_int_str (bN I q (by simp))
   | _=>exact absurd (show false=true from hs) Bool.false_ne_true
 | str i=>
   obtain ⟨t,rfl⟩:=rx
   cases y with
   | cQ=>cases ry;exact PySem.EqNone.ne_str_none (bN I q (by simp))
   | bl j=>cases ry;exact PySem.EqMixed.ne_str_bool (bN I q (by simp))
   | int j=>obtain ⟨t',rfl⟩:=ry;exact PySem.EqMixed.ne_str_int (bN I q (by simp))
   | str j=>obtain ⟨t',rfl⟩:=ry;exact ne_str (bN I q (congrArg not BX))
   | _=>exact absurd (show false=true from hs) Bool.false_ne_true
 | CO i=>
   obtain ⟨t,rfl⟩:=rx
   cases y with
   | CO j=>obtain ⟨t',rfl⟩:=ry;exact PySem.W.ne_bytes (bN I q (congrArg not BY))
   | _=>exact absurd (show false=true from hs) Bool.false_ne_true
 | _=>cases y <;> exact absurd (show false=true from hs) Bool.false_ne_true
theorem BZ:mQ X (compareOp .Lt) (EF fun i j=>.bl (decide (i < j))):=HS fun _ _ _ _ _ _ _ q=>lt_int q
theorem zu:mQ X (compareOp .LtE) (EF fun i j=>.bl (decide (i<=j))):=HS fun _ _ _ _ _ _ _ q=>le_int q
theorem MZ:mQ X (compareOp .Gt) (EF fun i j=>.bl (decide (j < i))):=HS fun _ _ _ _ _ _ _ q=>gt_int q
theorem EI:mQ X (compareOp .GtE) (EF fun i j=>.bl (decide (j<=i))):=HS fun _ _ _ _ _ _ _ q=>ge_int q
theorem m8:mQ X (compareOp .Is) (fun x y H Q=>y=.cQ/\Q (.bl (decide (x=.cQ))) H):=by
 intro pins s σ H x y v u Q I rx ry h
 obtain ⟨rfl,q⟩:=h
 cases ry
 refine is_none_gen (bN I q ?_)
 cases x <;> first
   | (cases rx;rfl)
   | (obtain ⟨t,rfl⟩:=rx;rfl)
theorem HV:mQ X (compareOp .IsNot) (fun x y H Q=>y=.cQ/\Q (.bl (!decide (x=.cQ))) H):=by
 intro pins s σ H x y v u Q I rx ry h
 obtain ⟨rfl,q⟩:=h
 cases ry
 refine isnot_none_gen (bN I q ?_)
 cases x <;> first
   | (cases rx;rfl)
   | (obtain ⟨t,rfl⟩:=rx;rfl)
theorem aI (b:Expr) {op:CmpOp} (h:op≠.In:=by decide) (h2:op≠.NotIn:=by decide):behindInMarks op b=false:=by
 have e1:(op==CmpOp.In)=false:=by cases op <;> first | rfl | exact absurd rfl h
 have e2:(op==CmpOp.NotIn)=false:=by cases op <;> first | rfl | exact absurd rfl h2
 cases b <;> simp [behindInMarks,e1,e2]
theorem HW {op:CmpOp} {r:R2} (ho:mQ X (compareOp op) r) (ha:PE X a ta) (hb:PE X b tb) (hm:behindInMarks op b=false):PE X (.Compare a [op] [b] pos) (EE r ta tb):=by
 intro pins s σ H Q I h
 exact wpAny_Compare1 (KG ha hb I h fun v u s2 x y H2 I2 rx ry q=>ho pins s2 σ H2 x y v u Q I2 rx ry q) hm
def zv (t:TE):TT:=fun σ H Q=>t σ H fun x H'=>∃ k,x=.bl k/\Q k H'
theorem HX {op:CmpOp} {r:R2} (ho:mQ X (compareOp op) r) (ha:PE X a ta) (hb:PE X b tb) (hm:behindInMarks op b=false):PT X (.Compare a [op] [b] pos) (zv (EE r ta tb)):=by
 intro pins s σ H Q I h
 refine wpAny_isTrue_Compare1 (dX (ha pins s σ H _ I h) fun v s1 ⟨x,H1,I1,r1,q1⟩=>dX (hb pins s1 σ H1 _ I1 q1) fun u s2 ⟨y,H2,I2,r2,q2⟩=>
   dX (ho pins s2 σ H2 x y v u _ I2 r1 r2 q2) fun c s3 ⟨z,H3,I3,r3,k,e,q3⟩=>?_) hm
 subst e
 cases r3
 exact wpAny_truthy_bool ⟨H3,I3,q3⟩
def t8 (r r':R2) (ta tb tc:TE):TE:=fun σ H Q=>ta σ H fun x H1=>tb σ H1 fun y H2=>r x y H2 fun z H3=>∃ k,z=.bl k/\
 (if k=true then tc σ H3 fun w' H4=>r' y w' H4 Q else Q (.bl false) H3)
theorem EJ {op KI:CmpOp} {r r':R2} (ho:mQ X (compareOp op) r) (El:mQ X (compareOp KI) r') (ha:PE X a ta) (hb:PE X b tb) (hc:PE X c tc)
   (hm:lastMarks [op,KI] [b,c]=false:=by with_unfolding_all rfl):PE X (.Compare a [op,KI] [b,c] pos) (t8 r r' ta tb tc):=by
 intro pins s σ H Q I h
 refine Compare_chain (dX (ha pins s σ H _ I h) fun v s1 ⟨x,H1,I1,r1,q1⟩=>chain_link (dX (hb pins s1 σ H1 _ I1 q1) fun u s2 ⟨y,H2,I2,r2,q2⟩=>
   dX (ho pins s2 σ H2 x y v u _ I2 r1 r2 q2) fun d s3 ⟨z,H3,I3,r3,k,e,q3⟩=>?_)) hm
 subst e
 cases r3
 refine wpAny_truthy_bool ?_
 cases k with
 | false=>exact ite_ff ⟨.bl false,H3,I3,rfl,q3⟩
 | true=>exact ite_tt (chain_last (dX (hc pins s3 σ H3 _ I3 q3) fun w' s4 ⟨z',H4,I4,r4,q4⟩=>El pins s4 σ H4 y z' u w' Q I4 r2 r4 q4))
def HY (K:PySem.W.Frag) (x:V) (H:Hp) (k:Bool):Prop:=
 match x with
 | .cQ=>k=false
 | .bl b=>k=b
 | .int i=>k=(i !=0)
 | .str y=>y.length<=sizeLine/\k=((y.length:Int) !=0)
 | .CO y=>y.size<=sizeLine/\k=((y.size:Int) !=0)
 | .ref p=>(∃ xs,aZ K H p xs/\k=!xs.isEmpty)∨(∃ xs,om K H p xs/\k=!xs.isEmpty)∨∃ aO,H p=some (.dK aO)/\k=!aO.isEmpty
 | _=>False
theorem AG {κ:Type} {aO:List (κ×V)} {vs:List (κ×Value)} (r:KV aO vs):(!vs.isEmpty)=!aO.isEmpty:=by
 cases r <;> rfl
theorem t9 {xs:List V} {its:List Value} (r:Vals xs its):(!its.toArray.isEmpty)=!xs.isEmpty:=by
 cases r <;> simp
theorem pH:(sizeLine:Nat) < 2 ^ 63:=by rw [sizeLine_eq];decide
theorem KJ:SI X (fun x H Q=>∃ k,HY X.K x H k/\Q k H):=by
 intro pins s σ H x v Q I rx h
 obtain ⟨k,e,q⟩:=h
 have hl:=pH
 have hs:sizeLine=16777216:=sizeLine_eq
 cases x with
 | cQ=>
   cases rx
   have e':k=false:=e
   subst e'
   exact truthy_none ⟨H,I,q⟩
 | bl b=>
   cases rx
   have e':k=b:=e
   subst e'
   exact wpAny_truthy_bool ⟨H,I,q⟩
 | int i=>
   obtain ⟨t,rfl⟩:=rx
   have e':k=(i !=0):=e
   subst e'
   exact PySem.P.truthy_int ⟨H,I,q⟩
 | str y=>
   obtain ⟨t,rfl⟩:=rx
   obtain ⟨hy,e'⟩:y.length<=sizeLine/\k=((y.length:Int) !=0):=e
   subst e'
   exact PySem.P.truthy_str (by omega) ⟨H,I.tok _,q⟩
 | CO y=>
   obtain ⟨t,rfl⟩:=rx
   obtain ⟨hy,e'⟩:y.size<=sizeLine/\k=((y.size:Int) !=0):=e
   subst e'
   exact PySem.W.truthy_bytes (by omega) ⟨H,I.tok _,q⟩
 | ref p=>
   cases rx
   have e':(∃ xs,aZ X.K H p xs/\k=!xs.isEmpty)∨(∃ xs,om X.K H p xs/\k=!xs.isEmpty)∨∃ aO,H p=some (.dK aO)/\k=!aO.isEmpty:=e
   rcases e' with ⟨xs,hx,e'⟩ | ⟨xs,hx,e'⟩ | ⟨aO,hx,e'⟩
   . subst e'
     obtain ⟨its,r,pl,hz⟩:=I.list hx
     have hlen:=r.length
     exact wpAny_truthy_list pl.isList (by simp only [List.size_toArray];omega) ⟨H,I.tok _,by rw [t9 r];exact q⟩
   . subst e'
     obtain ⟨its,r,pl,hz⟩:=I.tuple hx
     have hlen:=r.length
     exact truthy_tuple pl (by simp only [List.size_toArray];omega) ⟨H,I.tok _,by rw [t9 r];exact q⟩
   . subst e'
     obtain ⟨hz,hS,vs,r,m⟩:aO.length<=sizeLine/\(p==sysModules)=false/\∃ vs,KV aO vs/\s.heap.DictOf (dZ X.prog X.w) p vs:=I.dz p _ hx
     have hlen:aO.length=vs.length:=Paired.length r
     exact wpAny_truthy_dict hS m (by omega) ⟨H,I.tok _,by rw [AG r];exact q⟩
 | _=>exact (show False from e).elim
theorem EK (ha:PE X a ta) (he:∀ whole,isTrue a X.env whole=(do let v <- whole;standAt a.pos;holding [v] (truthy v))):
   PT X a (fun σ H Q=>ta σ H fun x H'=>∃ k,HY X.K x H' k/\Q k H'):=by
 intro pins s σ H Q I h
 exact isTrue_plain (dX (ha pins s σ H _ I h) fun v s1 ⟨x,H1,I1,r1,q1⟩=>KJ pins s1 σ H1 x v Q I1 r1 q1) (he _)
theorem aF:mQ X (binaryOp .Add) (fun x y H Q=>∃ i j,x=.str i/\y=.str j/\i.length + j.length<=sizeLine/\Q (.str (i++j)) H):=by
 intro pins s σ H x y v u Q I rx ry h
 obtain ⟨i,j,rfl,rfl,hz,q⟩:=h
 obtain ⟨t,rfl⟩:=rx
 obtain ⟨t',rfl⟩:=ry
 exact add_str (fun t' tk=>⟨.str (i++j),H,I.tok _,⟨_,rfl⟩,q⟩) hz
theorem vals1 {x:V} {us:List Value} (r:Vals [x] us):∃ u,us=[u]/\RelV x u:=by
 cases r with
 | cons r1 r2=>cases r2;exact ⟨_,rfl,r1⟩
theorem vals2 {x y:V} {us:List Value} (r:Vals [x,y] us):∃ u w',us=[u,w']/\RelV x u/\RelV y w':=by
 cases r with
 | cons r1 r2=>
   cases r2 with
   | cons r3 r4=>cases r4;exact ⟨_,_,rfl,r1,r3⟩
theorem C2 (hc:X.calm=true):gx X (.builtin "max") (fun xs H Q=>∃ i j,xs=[.int i,.int j]/\Q (.int (if j > i then j else i)) H):=by
 intro pins s σ H xs us Q I r h
 obtain ⟨i,j,rfl,q⟩:=h
 obtain ⟨u,w',rfl,⟨t,rfl⟩,⟨t',rfl⟩⟩:=vals2 r
 refine max_two_ints (I.ok.hd hc) fun h' tk k=>⟨_,H,I.kept k,?_,q⟩
 by_cases hj:j > i
 . rw [if_pos hj,if_pos hj];exact ⟨_,rfl⟩
 . rw [if_neg hj,if_neg hj];exact ⟨_,rfl⟩
theorem C3 (hc:X.calm=true):gx X (.builtin "min") (fun xs H Q=>∃ i j,xs=[.int i,.int j]/\Q (.int (if j < i then j else i)) H):=by
 intro pins s σ H xs us Q I r h
 obtain ⟨i,j,rfl,q⟩:=h
 obtain ⟨u,w',rfl,⟨t,rfl⟩,⟨t',rfl⟩⟩:=vals2 r
 refine min_two_ints (I.ok.hd hc) fun h' tk k=>⟨_,H,I.kept k,?_,q⟩
 by_cases hj:j < i
 . rw [if_pos hj,if_pos hj];exact ⟨_,rfl⟩
 . rw [if_neg hj,if_neg hj];exact ⟨_,rfl⟩
theorem C4:gx X (.type "int") (fun xs H Q=>(∃ i,xs=[.int i]/\Q (.int i) H)∨∃ k,xs=[.bl k]/\Q (.int (if k then 1 else 0)) H):=by
 intro pins s σ H xs us Q I r h
 rcases h with ⟨i,rfl,q⟩ | ⟨k,rfl,q⟩
 . obtain ⟨u,rfl,t,rfl⟩:=vals1 r
   exact call_int_int ⟨.int i,H,I,⟨_,rfl⟩,q⟩
 . obtain ⟨u,rfl,r1⟩:=vals1 r
   cases r1
   exact call_int_bool ⟨.int (if k then 1 else 0),H,I.tok _,⟨_,rfl⟩,q⟩
theorem bw:gx X (.type "str") (fun xs H Q=>∃ i,xs=[.int i]/\i.natAbs.log2 < 1920/\Q (.str (toString i)) H):=by
 intro pins s σ H xs us Q I r h
 obtain ⟨i,rfl,hz,q⟩:=h
 obtain ⟨u,rfl,t,rfl⟩:=vals1 r
 exact PySem.P.str_of_int hz ⟨.str _,H,I.tok _,⟨_,rfl⟩,q⟩
end
end L2
namespace L2
open PySem PySem.Spec PyProof.Rows
structure KL (h:Heap) (x dx C:Addr) (mA:Str->Option Value):Prop where
 obj:h.get? x=some (PySem.W.instObj C dx)
 ns:h.Ns1 dx mA
 ne:dx≠x
theorem C5 {h:Heap} {dx:Addr} {mA:Str->Option Value} (n:h.Ns1 dx mA):∃ od,h.get? dx=some od/\∀ name,PySem.W.lookIn name od=some (mA name):=by
 obtain ⟨o,es,ep,ho,hd,hk,_,hm⟩:=n
 refine ⟨o,ho,fun name=>?_⟩
 have e:=hm name
 unfold nsFind findBy at e
 rw [<- Array.find?_toList] at e
 unfold PySem.W.lookIn
 rw [hd]
 dsimp only
 split
 . rename_i y q
   rw [q] at e
   exact congrArg some e
 . rename_i q
   rw [q] at e
   have a:es.toList.any (·.refKey)=false:=by
     rw [List.any_eq_false]
     intro y hy
     obtain ⟨z,t,hkey⟩:=hk y (Array.mem_toList_iff.mp hy)
     simp [DictEntry.refKey,hkey]
   have a':¬ es.toList.any (·.refKey)=true:=by rw [a];exact Bool.false_ne_true
   rw [if_neg a']
   exact congrArg some e
theorem KL.look {h:Heap} {x dx C:Addr} {mA:Str->Option Value} (I:KL h x dx C mA):∃ od,PySem.W.InstAt h x (PySem.W.instObj C dx) C (some od)/\∀ name,PySem.W.lookIn name od=some (mA name):=
 let ⟨od,ho,hl⟩:=C5 I.ns
 ⟨od,⟨I.obj,rfl,rfl,ho⟩,hl⟩
section
variable {prog:Program} {w:World} {A:Around} {E:Value->Shared->Prop} {s:Shared} {K:PySem.W.Frag} {x dx C f:Addr} {mA:Str->Option Value} {name:Str} {v:Value}
end
theorem tW.some_of {v:V} {o:Option Value} (r:tW (some v) o):∃ u,o=some u/\RelV v u:=by
 cases o with
 | none=>exact (show False from r).elim
 | some u=>exact ⟨u,rfl,r⟩
section
variable {P:Program} {w:World} {H H':Hp} {h h':Heap} {a C dx:Addr} {fs fs':List (Str×V)}
theorem HZ (dz:oU P w H h) (e:H a=some (.ins C dx fs)):∃ mA,KL h a dx C mA/\(∀ f,tW (fs.lookup f) (mA f))/\PySem.Within mA (fs.map (·.1))/\fs.length<=1000/\H dx=some (.own a):=by
 obtain ⟨d,z,ne,ob,mA,n,r,q⟩:=(show dW P w H h a (.ins C dx fs) from dz a _ e)
 exact ⟨mA,⟨ob,n,ne⟩,r,q,z,d⟩
end
structure SJ (K:PySem.W.Frag) (C:Addr):Prop where
 pg:PySem.W.plainGet K C Str.empty=true
 hd:PySem.W.hasDictIn K C=true
 po:PySem.W.plainOver K C=true
 sa:PySem.W.findIn K (.ref C) "__setattr__"=some (some (.builtin "object.__setattr__"))
theorem SJ.get {K:PySem.W.Frag} {C:Addr} (c:SJ K C) (f:Str):PySem.W.plainGet K C f=true:=c.pg
section
variable {X:Cx} {pins:List (Addr×Obj)} {σ:St} {H:Hp} {s:Shared} {a C dx:Addr} {fs:List (Str×V)} {f:Str} {v:V} {A:Around} {E:Value->Shared->Prop}
end
section
variable {X:Cx} {o e value:Expr} {f:Str} {pos pos' M0:Pos} {ta tv:TE}
end
section
variable {X:Cx} {pins:List (Addr×Obj)} {σ:St} {H:Hp} {s:Shared} {A:Around} {E:Value->Shared->Prop} {Q:Value->Shared->Prop} {c:Value} {b:Bool}
inductive qV (K:PySem.W.Frag) (H:Hp):V->Value->Prop where
 | cQ:qV K H .cQ (.type "NoneType")
 | bl (x:Bool):qV K H (.bl x) (.type "bool")
 | int (i:Int):qV K H (.int i) (.type "int")
 | str (x:Str):qV K H (.str x) (.type "str")
 | Me (x:UInt64):qV K H (.Me x) (.type "float")
 | lst {a:Addr} {xs:List V} (e:H a=some (.lst xs)):qV K H (.ref a) (.type "list")
 | vf {a:Addr} {o:Obj} {xs:List V} (e:H a=some (.vf o (.lst xs))):qV K H (.ref a) (.type "list")
 | tup {a:Addr} {xs:List V} (e:H a=some (.tup xs)):qV K H (.ref a) (.type "tuple")
 | dK {a:Addr} {aO:List (Key×V)} (e:H a=some (.dK aO)):qV K H (.ref a) (.type "dict")
 | dT {a:Addr} {aO:List (List Key×V)} (e:H a=some (.dT aO)):qV K H (.ref a) (.type "dict")
 | ins {a C dx:Addr} {fs:List (Str×V)} (e:H a=some (.ins C dx fs)) (cl:SJ K C) (ha:PySem.W.findIn K (.ref C) "__class__"=some (some (.builtin "object.__class__")))
     (hn:PySem.W.specialIn K (.builtin "object.__class__") "__get__"=some (some (.builtin "getset_descriptor.__get__"))) (htk:PySem.W.takesIn K (.builtin "object.__class__")=some true)
     (hm:PySem.W.mroIn K C (.type "object")=some true):qV K H (.ref a) (.ref C)
theorem C6 {x:V} {u t:Value} (I:Inv X pins σ H s) (rx:RelV x u) (ty:qV X.K H x t) (e:PySem.W.kitOne X.K t c=some b) (h:∀ tk,Q (.bool b) { s with toks:=tk }):
   wpAny (model X.prog X.w) A (call (.builtin "isinstance") [u,c]) Q E s:=by
 cases ty with
 | cQ=>cases (show u=Value.none from rx);exact PySem.W.kia_one PySem.W.kitx_none I.sX True.intro e (fun z=>nomatch z) h
 | bl y=>cases (show u=Value.bool y from rx);exact PySem.W.kia_one PySem.W.kitx_bool I.sX True.intro e (fun z=>nomatch z) h
 | int i=>obtain ⟨t,q⟩:=(show ∃ t,u=Value.int i t from rx);cases q;exact PySem.W.kia_one PySem.W.kitx_int I.sX True.intro e (fun z=>nomatch z) h
 | str y=>obtain ⟨t,q⟩:=(show ∃ t,u=Value.str y t from rx);cases q;exact PySem.W.kia_one PySem.W.kitx_str I.sX True.intro e (fun z=>nomatch z) h
 | Me y=>obtain ⟨t,q⟩:=(show ∃ t,u=Value.float y t from rx);cases q;exact PySem.W.kia_one PySem.W.kitx_float I.sX True.intro e (fun z=>nomatch z) h
 | @lst a xs ea=>
   cases (show u=Value.ref a from rx)
   obtain ⟨_,_,n,_,h1⟩:=(show dW X.prog X.w H s.heap a (.lst xs) from I.dz a _ ea)
   exact PySem.W.kia_one PySem.W.kitx_list I.sX ⟨_,h1,rfl⟩ e (fun z=>nomatch z) h
 | @vf a ob xs ea=>
   cases (show u=Value.ref a from rx)
   obtain ⟨_,_,_,n,_,h1⟩:=(show dW X.prog X.w H s.heap a (.vf ob (.lst xs)) from I.dz a _ ea)
   exact PySem.W.kia_one PySem.W.kitx_list I.sX ⟨_,h1,rfl⟩ e (fun z=>nomatch z) h
 | @tup a xs ea=>
   cases (show u=Value.ref a from rx)
   obtain ⟨_,_,_,p⟩:=(show dW X.prog X.w H s.heap a (.tup xs) from I.dz a _ ea)
   obtain ⟨o,h1,h2,_⟩:=p
   exact PySem.W.kia_one PySem.W.kitx_tuple I.sX ⟨o,h1,h2⟩ e (fun z=>nomatch z) h
 | @dK a aO ea=>
   cases (show u=Value.ref a from rx)
   obtain ⟨_,_,vs,_,p⟩:=(show dW X.prog X.w H s.heap a (.dK aO) from I.dz a _ ea)
   obtain ⟨o,es,ep,h1,h2,_⟩:=p
   exact PySem.W.kia_one PySem.W.kitx_dict I.sX ⟨o,h1,h2.1⟩ e (fun z=>nomatch z) h
 | @dT a aO ea=>
   cases (show u=Value.ref a from rx)
   obtain ⟨_,_,xs,_,o,es,ep,h1,h2,_⟩:=(show dW X.prog X.w H s.heap a (.dT aO) from I.dz a _ ea)
   exact PySem.W.kia_one PySem.W.kitx_dict I.sX ⟨o,h1,h2.1⟩ e (fun z=>nomatch z) h
 | @ins a C dx fs ea cl ha hn htk hm=>
   cases (show u=Value.ref a from rx)
   obtain ⟨mA,O,_⟩:=HZ I.dz ea
   obtain ⟨od,J,_⟩:=O.look
   exact PySem.W.kia_one (PySem.W.kitx_own (cl.get _) cl.hd ha hn htk hm) I.sX J e (fun z=>nomatch z) h
end
end L2
namespace L2
open PySem PySem.Spec PyProof.Rows
structure jB (k:Nat) (A:Around):Prop where
 hd:A.handled=none
 dp:A.depth + 3 * k + 5 < recursionLimit
 un:A.units + 16 * k + 200 < cLine
 gd:A.guards=some []
theorem jB.mono {j k:Nat} {A:Around} (r:jB k A) (h:j<=k):jB j A:=⟨r.hd,by have:=r.dp;omega,by have:=r.un;omega,r.gd⟩
theorem jB.deeper {k:Nat} {A:Around} (r:jB (k + 1) A) (env:Env):jB k (A.deeper env):=
 ⟨r.hd,by have:=r.dp;show A.depth + 1 + 3 * k + 5 < _;omega,by have:=r.un;show A.units + 3 + 16 * k + 200 < _;omega,r.gd⟩
theorem jB.depth {k:Nat} {A:Around} (r:jB k A):A.depth < recursionLimit:=by have:=r.dp;omega
theorem jB.units {k:Nat} {A:Around} (r:jB k A):A.units + 64 < cLine:=by have:=r.un;omega
def EL:TA:=fun _ H Q=>Q [] H
def zw (ta:TE) (tr:TA):TA:=fun σ H Q=>ta σ H fun x H1=>tr σ H1 fun xs H2=>Q (x::xs) H2
section
variable {X:Cx} {e:Expr} {es:List Expr} {te:TE} {t:TA} {pos:Pos}
theorem EM:PA X [] EL:=fun _ _ _ _ H Q I h=>Calls.spliced_nil ⟨[],H,I,.nil,h⟩
theorem B0 (ha:PE X e te) (hr:PA X es t) (hs:starEach (e::es) X.env=(false,eval e X.env)::starEach es X.env:=by rfl):PA X (e::es) (zw te t):=by
 intro pos pins s σ H Q I h
 rw [hs]
 show wpAny _ _ (spliced ((false,eval e X.env)::backTo pos (starEach es X.env))) _ _ s
 refine Calls.spliced_cons (dX (ha pins s σ H _ I h) fun u s1 ⟨x,H1,I1,r1,q1⟩=>?_)
 exact dX (hr pos pins s1 σ H1 _ I1 q1) fun us s2 ⟨xs,H2,I2,r2,q2⟩=>⟨x::xs,H2,I2,.cons r1 r2,q2⟩
def KN (t:TA):TE:=fun σ H Q=>t σ H fun xs H1=>xs.length<=sizeLine/\∀ p,H1 p=none->Q (.ref p) (upd H1 p (.tup xs))
def KO (t:TA):TE:=fun σ H Q=>t σ H fun xs H1=>xs.length<=sizeLine/\∀ p,H1 p=none->Q (.ref p) (upd H1 p (.lst xs))
end
abbrev Sp:=List V->Hp->VK->XK->Prop
abbrev vO:=List Env->Hp->Shared->XK->Value->Shared->Prop
structure Ia (P:Program) (w:World) (K:PySem.W.Frag) (mg:Str->Option Value) (base:Heap) (A:Around) (outer:List Env) (s:Shared) (H:Hp):Prop where
 frames:A.frames=some outer
 mod:Mod K mg base
 bs:∀ b o,base.get? b=some o->s.heap.get? b=some o/\H b=none
 Ec:base.objs.size<=s.heap.objs.size
 m5:s.heap.FunFrames base outer
 Ek:∀ b∈oj outer,H b=none
 dz:oU P w H s.heap
 bare:AllBare s.gens
def CE (outer:List Env) (P:Program) (w:World) (H:Hp) (s:Shared) (Q:VK) (u:Value) (s':Shared):Prop:=
 ∃ v H',s'.os=s.os/\AllBare s'.gens/\Un (oj outer) [] H H' s.heap s'.heap/\oU P w H' s'.heap/\RelV v u/\Q v H'
def CR (CX:vO) (outer:List Env) (P:Program) (w:World) (H:Hp) (s:Shared) (Q:VK) (E:XK) (r:Result) (s':Shared):Prop:=
 match r with
 | .ok (.ret u)=>CE outer P w H s Q u s'
 | .ok _=>False
 | .error e=>CX outer H s E e s'
structure bf (P:Program) (w:World) (K:PySem.W.Frag) (mg:Str->Option Value) (base:Heap) (CX:vO) (k:Nat) (f:Addr) (fd:FuncData) (ps:List Str) (sp:Sp):Prop where
 len:∀ vs H Q E,sp vs H Q E->vs.length=ps.length
 run:∀ (A:Around) (outer:List Env) (s:Shared) (H:Hp) (args:Args) (us:List Value) (vs:List V) (Q:VK) (E:XK),jB k A->Ia P w K mg base A outer s H->BindsTo s fd args (ps.zip us)->Vals vs us->sp vs H Q E->
   codeAny (model P w) A (.call (.ref f) args) (CR CX outer P w H s Q E) s
theorem bf.imp {P:Program} {w:World} {K:PySem.W.Frag} {mg:Str->Option Value} {base:Heap} {CX:vO} {k:Nat} {f:Addr} {fd:FuncData} {ps:List Str} {sp C7:Sp} (F:bf P w K mg base CX k f fd ps sp)
   (h:∀ vs H Q E,C7 vs H Q E->sp vs H Q E):bf P w K mg base CX k f fd ps C7:=
 ⟨fun vs H Q E q=>F.len vs H Q E (h _ _ _ _ q),fun A outer s H args us vs Q E hr he hb hv hs=>F.run A outer s H args us vs Q E hr he hb hv (h _ _ _ _ hs)⟩
section
variable {X:Cx} {pins:List (Addr×Obj)} {σ:St} {H:Hp} {s s':Shared}
theorem Inv.M1 (I:Inv X pins σ H s):Ia X.prog X.w X.K X.mg X.base X.A X.stack s H:=
 ⟨I.ok.frames,I.ok.mod,I.bs,Nat.le_trans I.ok.Ec I.sz,I.stack,I.sY,I.dz,I.bare⟩
theorem Inv.after {Q:VK} {u:Value} (I:Inv X pins σ H s) (h:CE X.stack X.prog X.w H s Q u s'):EP X pins σ Q u s':=by
 obtain ⟨v,H',os,bare,un,dz,r,q⟩:=h
 obtain ⟨hh,g,d,t,Ib⟩:=s'
 obtain rfl:Ib=s.os:=os
 exact ⟨v,H',I.call (h':=hh) (g':=g) (d':=d) (t':=t) (ch:=[]) un dz bare (fun b z=>absurd z (by simp)),r,q⟩
end
def rS (sp:Sp) (za:List V) (E:XK) (t:TA):TE:=fun σ H Q=>t σ H fun vs H1=>sp (vs++za) H1 Q E
def Binds (K:PySem.W.Frag) (fd:FuncData) (ps:List Str) (ds:List Value):Prop:=
 ∀ (s:Shared) (us:List Value),K.In s.heap->(us++ds).length=ps.length->BindsTo s fd ⟨us,[]⟩ (ps.zip (us++ds))
theorem Binds.all {K:PySem.W.Frag} {fd:FuncData} {ps:List Str} (h:∀ us:List Value,us.length=ps.length->bindArgs fd ⟨us,[]⟩=pure (ps.zip us)):Binds K fd ps []:=fun s us _ hl=>by
 rw [List.append_nil] at hl ⊢
 exact .of_eq (h us hl)
def Passes (CX:vO) (X:Cx) (E:XK):Prop:=∀ (pins:List (Addr×Obj)) (σ:St) (H:Hp) (s:Shared) (e:Value) (s':Shared),Inv X pins σ H s->CX X.stack H s E e s'->X.xe e s'
section
variable {X:Cx} {CX:vO} {k:Nat} {f C:Addr} {fd:FuncData} {ps:List Str} {sp:Sp} {za:List V} {ds:List Value} {E:XK} {x m:Str} {p pos apos:Pos} {e o:Expr} {es:List Expr} {ta:TE} {t:TA}
theorem EN {pins:List (Addr×Obj)} {σ:St} {H:Hp} {s:Shared} {Q:VK} {us:List Value} {vs:List V} (F:bf X.prog X.w X.K X.mg X.base CX k f fd ps sp) (hr:jB k X.A) (hb:Binds X.K fd ps ds) (hd:Vals za ds) (hx:Passes CX X E)
   (I:Inv X pins σ H s) (r:Vals vs us) (h:sp (vs++za) H Q E):wpAny (model X.prog X.w) X.A (call (.ref f) us) (EP X pins σ Q) X.xe s:=by
 have r2:Vals (vs++za) (us++ds):=r.append hd
 have hl:(us++ds).length=ps.length:=by rw [<- r2.length];exact F.len _ _ _ _ h
 refine wpAny_call (codeAny_mono (F.run X.A X.stack s H ⟨us,[]⟩ (us++ds) (vs++za) Q E hr I.M1 (hb s us I.sX hl) r2 h) fun r s' hq=>?_)
 cases r with
 | error e=>exact hx pins σ H s e s' I hq
 | ok fl=>
   cases fl with
   | ret u=>exact I.after hq
   | next=>exact False.elim hq
   | brk=>exact False.elim hq
   | cont=>exact False.elim hq
theorem Ic (F:bf X.prog X.w X.K X.mg X.base CX k f fd ps sp) (hr:jB k X.A) (hg:Gl X x) (hm:X.mg x=some (.ref f)) (hk:PySem.W.keepIn X.K (.ref f)=true) (hb:Binds X.K fd ps ds) (hd:Vals za ds) (hx:Passes CX X E)
   (ha:PA X (e::es) t) (vP:(x==("__debug__":Str))=false:=by decide) (he:starEach (e::es) X.env=(false,eval e X.env)::starEach es X.env:=by rfl) (vn:(backTo pos (starEach es X.env)).any (·.1)=false:=by rfl):
   PE X (.Call (.Name x p) (e::es) [] pos) (rS sp za E t):=by
 intro pins s σ H Q I h
 refine wpAny_Call_Name_kw (sZ I hg hm ?_ vP)
 refine PySem.W.callWith_K (h₀:=X.base) I.ok.mod.Ju hk (dX (ha pos pins s σ H _ I h) fun us s1 ⟨vs,H1,I1,r,q⟩=>⟨I1.sX,?_⟩) he vn
 exact EN F hr hb hd hx I1 r q
end
section
variable {X:Cx} {CX:vO} {k:Nat} {f C:Addr} {fd:FuncData} {ps ks:List Str} {sp:Sp} {E:XK} {x m:Str} {p pos apos SK:Pos} {e o:Expr} {es:List Expr} {kws:List Keyword} {te ta:TE} {t tk:TA} {nm:Option Str}
def KP (sp:Sp) (gV:List V->List V->List V) (E:XK) (t tk:TA):TE:=fun σ H Q=>t σ H fun vs H1=>tk σ H1 fun zs H2=>sp (gV vs zs) H2 Q E
variable {g:List Value->List Value->List Value} {gV:List V->List V->List V}
end
structure aD (N P:List Str) (sc:Scope):Prop where
 kind:sc.kind=.function
 co:sc.isCoroutine=false
 gen:sc.isGenerator=false
 nd:N.Nodup
 pre:N.take P.length=P
 par:∀ x∈P,sc.names.lookup x=some .local∨sc.names.lookup x=some .cell
 KQ:∀ y∈sc.names,y.2≠.free
theorem vQ {kindOf:Str->Option NameKind} {x:Str}:∀ {binds:List (Str×Value)} {m:Str->Option Value},(∀ v,(x,v)∉binds)->bindL kindOf binds m x=m x
 | [],_,_=>rfl
 | (n,v)::r,m,h=>by
   unfold bindL
   rw [vQ fun w hw=>h w (List.mem_cons_of_mem _ hw)]
   split
   . have:x≠n:=by rintro rfl;exact h v List.mem_cons_self
     simp [this]
   . rfl
theorem vR {kindOf:Str->Option NameKind} {x:Str}:∀ {binds:List (Str×Value)} {m:Str->Option Value},(∀ v,(x,v)∉binds)->bindC kindOf binds m x=m x
 | [],_,_=>rfl
 | (n,v)::r,m,h=>by
   unfold bindC
   rw [vR fun w hw=>h w (List.mem_cons_of_mem _ hw)]
   split
   . rfl
   . have:x≠n:=by rintro rfl;exact h v List.mem_cons_self
     simp [this]
theorem vS {kindOf:Str->Option NameKind} {x:Str} {v:Value}:∀ {P:List Str} {vs:List Value} {i:Nat} {m:Str->Option Value},P.Nodup->P[i]?=some x->vs[i]?=some v->kindOf x=some .local->
   bindL kindOf (P.zip vs) m x=some v
 | [],_,_,_,_,h,_,_=>by simp at h
 | _::_,[],_,_,_,_,h,_=>by simp at h
 | p::P,w::vs,0,m,nd,h1,h2,hk=>by
   simp at h1 h2;subst h1;subst h2
   show bindL kindOf ((p,w)::P.zip vs) m p=_
   unfold bindL
   rw [vQ fun v hv=>(List.nodup_cons.mp nd).1 (List.of_mem_zip hv).1,if_pos hk]
   simp
 | p::P,w::vs,i + 1,m,nd,h1,h2,hk=>by
   show bindL kindOf ((p,w)::P.zip vs) m x=_
   unfold bindL
   exact vS (i:=i) (List.nodup_cons.mp nd).2 (by simpa using h1) (by simpa using h2) hk
theorem vU {kindOf:Str->Option NameKind} {x:Str} {v:Value}:∀ {P:List Str} {vs:List Value} {i:Nat} {m:Str->Option Value},P.Nodup->P[i]?=some x->vs[i]?=some v->kindOf x≠some .local->
   bindC kindOf (P.zip vs) m x=some v
 | [],_,_,_,_,h,_,_=>by simp at h
 | _::_,[],_,_,_,_,h,_=>by simp at h
 | p::P,w::vs,0,m,nd,h1,h2,hk=>by
   simp at h1 h2;subst h1;subst h2
   show bindC kindOf ((p,w)::P.zip vs) m p=_
   unfold bindC
   rw [vR fun v hv=>(List.nodup_cons.mp nd).1 (List.of_mem_zip hv).1,if_neg hk]
   simp
 | p::P,w::vs,i + 1,m,nd,h1,h2,hk=>by
   show bindC kindOf ((p,w)::P.zip vs) m x=_
   unfold bindC
   exact vU (i:=i) (List.nodup_cons.mp nd).2 (by simpa using h1) (by simpa using h2) hk
def start (N:List Str) (vs:List V):St:=vs.map some++List.replicate (N.length - vs.length) none
def ng (CX:vO) (P:Program) (w:World) (K:PySem.W.Frag) (mg:Str->Option Value) (base:Heap) (N:List Str) (qual:Str) (scope:Scope) (f:Addr) (cd:Value) (A:Around) (outer:List Env) (s:Shared) (H:Hp) (E:XK):Cx where
 prog:=P
 w:=w
 K:=K
 mg:=mg
 base:=base
 A:=A.deeper (envOfC qual scope s.heap.objs.size f cd)
 N:=N
 s₀:=s
 H₀:=H
 env:=envOfC qual scope s.heap.objs.size f cd
 outer:=outer
 stack:=envOfC qual scope s.heap.objs.size f cd::outer
 ex:=[]
 calm:=true
 fn:=fun _=>true
 pn:=[]
 xe:=fun e s'=>wpAny (model P w) (A.deeper (envOfC qual scope s.heap.objs.size f cd)) (leaving (envOfC qual scope s.heap.objs.size f cd) e) (fun _ s''=>CX outer H s E e s'') (fun e' s''=>CX outer H s E e' s'') s'
theorem zx {sc:Scope} {n:Nat} {x:Str} (h:sc.names.lookup x=some .cell):∃ c,(cellsFrom n sc.names []).lookup x=some c:=by
 have q:=PySem.W.cellsFrom_some sc.names n [] (.inl h)
 exact Option.isSome_iff_exists.mp q
theorem C8 {CX:vO} {P:Program} {w:World} {K:PySem.W.Frag} {mg:Str->Option Value} {base:Heap} {N ps:List Str} {qual:Str} {scope:Scope} {f:Addr} {cd:Value} {A:Around} {outer:List Env} {s s1:Shared} {H:Hp} {E:XK} {us:List Value} {vs:List V}
   (S:aD N ps scope) (hd:A.handled=none) (e0:Ia P w K mg base A outer s H) (hl:vs.length=ps.length) (r:Vals vs us)
   (x:InCallC s s.heap.objs.size (bindL (envOfC qual scope s.heap.objs.size f cd).kindOf (ps.zip us) fun _=>none) (cellsFrom (s.heap.objs.size + 1) scope.names []) (bindC (envOfC qual scope s.heap.objs.size f cd).kindOf (ps.zip us) fun _=>none) s1):
   Inv (ng CX P w K mg base N qual scope f cd A outer s H E) [] (start N vs) H s1:=by
 have vn:ps.length<=N.length:=by have:=congrArg List.length S.pre;rw [List.length_take] at this;omega
 obtain ⟨h1,tk,rfl,hk⟩:=x.done
 have M3:∀ b:Addr,b∉(ng CX P w K mg base N qual scope f cd A outer s H E).ex:=fun b z=>absurd (show b∈([]:List Addr) from z) (by simp)
 refine ⟨⟨e0.mod,S.kind,rfl,rfl,Nat.le_refl _,fun y z c h1 h2=>?_,fun y hy=>?_,fun y c _ h=>?_,fun _=>hd,Around.frames_deeper e0.frames,.inr ⟨rfl,rfl⟩,fun b z=>absurd z (M3 b),e0.bs,e0.Ec,fun b _ _=>M3 b,fun b z=>absurd z (M3 b),e0.m5,e0.Ek⟩,
   rfl,e0.bare,Un.kept hk,⟨_,x.toInCall.ns,fun i y v h1 h2 h3=>?_⟩,fun y c h=>⟨_,x.cell y c h⟩,e0.dz.fresh (Nat.le_refl _),fun y c h=>?_,fun p hp=>absurd (show p∈([]:List (Addr×Obj)) from hp) (by simp),e0.dz.kept hk,?_⟩
 . exact name_of_addr x.apart (PySem.mem_of_lookup h1) (PySem.mem_of_lookup h2)
 . have hy:scope.names.lookup y=some .cell∨scope.names.lookup y=some .free:=hy
   rcases hy with hy | hy
   . exact zx hy
   . exact absurd rfl (S.KQ _ (PySem.mem_of_lookup hy))
 . exact Nat.le_of_lt (x.above y c (PySem.mem_of_lookup h))
 . have hi:i < vs.length:=by
     unfold start at h2
     by_cases hi:i < vs.length
     . exact hi
     . rw [List.getElem?_append_right (by simpa using hi)] at h2
       rw [List.getElem?_replicate] at h2
       split at h2 <;> cases h2
   have ha:vs[i]?=some v:=by
     unfold start at h2
     rw [List.getElem?_append_left (by simpa using hi),List.getElem?_map] at h2
     cases e:vs[i]? with
     | none=>rw [e] at h2;cases h2
     | some a=>rw [e] at h2;cases h2;rfl
   obtain ⟨u,hu,rv⟩:=r.get ha
   have hp:ps[i]?=some y:=by
     rw [<- S.pre,List.getElem?_take_of_lt (by omega)];exact h1
   have ndP:ps.Nodup:=by rw [<- S.pre];exact S.nd.sublist (List.take_sublist _ _)
   refine ⟨u,rv,?_⟩
   rcases S.par y (List.mem_of_getElem? hp) with k | k
   . exact .inl ⟨k,vS ndP hp hu k⟩
   . obtain ⟨c,e⟩:=zx (n:=s.heap.objs.size + 1) k
     refine .inr ⟨.inl k,c,e,?_⟩
     have q:=x.cell y c e
     rw [vU ndP hp hu (by show scope.names.lookup y≠_;rw [k];decide)] at q
     exact q
 . exact e0.dz.fresh (Nat.le_of_lt (x.above y c (PySem.mem_of_lookup h)))
 . unfold start
   show _=N.length
   rw [List.length_append,List.length_map,List.length_replicate]
   omega
theorem Jz {CX:vO} {P:Program} {w:World} {K:PySem.W.Frag} {mg:Str->Option Value} {base:Heap} {k:Nat} {f:Addr} {name qual:Str} {params:Arguments} {body:List Stmt} {scope:Scope} {dV kV doc pm cG ct oc:Value} {an od:Option Addr}
   {Ie:Array (Option Value)} {N ps:List Str} {sp:Sp} (lk:K.lookup f=some ⟨oc,od,.func (PySem.W.fnOf name qual params body scope dV kV doc pm an cG ct),Ie⟩) (Ax:PySem.W.codeIn K cG qual=true) (S:aD N ps scope)
   (len:∀ vs H Q E,sp vs H Q E->vs.length=ps.length)
   (qa:∀ (A:Around) (outer:List Env) (s:Shared) (H:Hp) (vs:List V) (Q:VK) (E:XK),jB k (A.deeper (envOfC qual scope s.heap.objs.size f cG))->sp vs H Q E->
     ∃ t,Av (ng CX P w K mg base N qual scope f cG A outer s H E) body t/\t { nx:=fun _ H'=>Q .cQ H',rt:=Q } (start N vs) H):
   bf P w K mg base CX (k + 1) f (PySem.W.fnOf name qual params body scope dV kV doc pm an cG ct) ps sp:=by
 refine ⟨len,fun A outer s H args us vs Q E hr e0 hb r Hr=>?_⟩
 have hl:=len _ _ _ _ Hr
 have KX:K.In s.heap:=e0.mod.Ju.keeps fun b o e=>(e0.bs b o e).1
 have lim:s.heap.NoLimit:=e0.mod.nolimit.keeps fun b o e=>(e0.bs b o e).1
 have M4:∀ y∈ps.zip us,scope.names.lookup y.1=some .local∨(scope.names.lookup y.1=some .cell/\((cellsFrom (s.heap.objs.size + 1) scope.names []).lookup y.1).isSome=true):=fun ⟨n,v⟩ hy=>by
   rcases S.par n (List.of_mem_zip hy).1 with q | q
   . exact .inl q
   . exact .inr ⟨q,PySem.W.cellsFrom_some _ _ _ (.inl q)⟩
 refine codeAny_call_function hr.depth (KX _ _ lk) rfl S.co S.gen rfl (PySem.W.codeRec_of KX Ax) (hb _ _ _ _ ?_)
 refine wpAny_newFunctionEnv_cells S.kind M4 fun env he s1 x=>?_
 subst he
 refine ⟨lim.keeps x.toInCall.keep,codeAny_func ?_⟩
 obtain ⟨t,ht,hq⟩:=qa A outer s H vs Q E (hr.deeper _) Hr
 have I:Inv (ng CX P w K mg base N qual scope f cG A outer s H E) [] (start N vs) H s1:=C8 S hr.hd e0 hl r x
 refine wpAny_mono (ht [] s1 (start N vs) H _ I hq) (fun fl s' hs=>?_) fun e s' hs=>hs
 have fin:∀ {σ':St} {H':Hp} {v:V} {u:Value},Inv (ng CX P w K mg base N qual scope f cG A outer s H E) [] σ' H' s'->RelV v u->Q v H'->CE outer P w H s Q u s':=
   fun {σ' H' v u} J rv q=>⟨v,H',J.os,J.bare,J.base,J.dz,rv,q⟩
 cases fl with
 | ret u=>
   obtain ⟨v,σ',H',J,rv,q⟩:=hs
   exact fin J rv q
 | next=>
   obtain ⟨σ',H',J,q⟩:=hs
   exact fin (v:=V.cQ) (u:=Value.none) J rfl q
 | brk=>
   obtain ⟨_,_,_,q⟩:=hs
   exact False.elim q
 | cont=>
   obtain ⟨_,_,_,q⟩:=hs
   exact False.elim q
end L2
namespace L2
open PySem PySem.Spec PyProof.Rows
section
variable {X:Cx} {x:Str} {p pos:Pos} {e:Expr} {es:List Expr} {t:TA} {id T:String} {r:List V->Hp->VK->Prop}
def KR (r:List V->Hp->VK->Prop) (t:TA):TE:=fun σ H Q=>t σ H fun vs H1=>r vs H1 Q
theorem EO (hc:gx X (.builtin id) r) (hg:Gl X x) (hm:X.mg x=none) (hv:bootBuiltins x=some (.builtin id)) (ha:PA X (e::es) t) (hn:x≠"__name__":=by decide) (vP:(x==("__debug__":Str))=false:=by decide)
   (he:starEach (e::es) X.env=(false,eval e X.env)::starEach es X.env:=by rfl) (vn:(backTo pos (starEach es X.env)).any (·.1)=false:=by rfl):PE X (.Call (.Name x p) (e::es) [] pos) (KR r t):=by
 intro pins s σ H Q I h
 refine wpAny_Call_Name_kw (pG I hg hm hv ?_ hn vP)
 exact PyProof.Rows.callWith_builtin1 (dX (ha pos pins s σ H _ I h) fun us s1 ⟨vs,H1,I1,r1,q1⟩=>hc pins s1 σ H1 vs us Q I1 r1 q1) he vn
theorem C9 (hc:gx X (.type T) r) (hg:Gl X x) (hm:X.mg x=none) (hv:bootBuiltins x=some (.type T)) (ha:PA X (e::es) t) (hn:x≠"__name__":=by decide) (vP:(x==("__debug__":Str))=false:=by decide)
   (he:starEach (e::es) X.env=(false,eval e X.env)::starEach es X.env:=by rfl) (vn:(backTo pos (starEach es X.env)).any (·.1)=false:=by rfl):PE X (.Call (.Name x p) (e::es) [] pos) (KR r t):=by
 intro pins s σ H Q I h
 refine wpAny_Call_Name_kw (pG I hg hm hv ?_ hn vP)
 exact PyProof.Rows.callWith_type1 (dX (ha pos pins s σ H _ I h) fun us s1 ⟨vs,H1,I1,r1,q1⟩=>hc pins s1 σ H1 vs us Q I1 r1 q1) he vn
end
end L2
namespace HT
open PySem PyProof.Rows
section
open PySem.SeqAt
open PySem.AutoSeq1 (wpAny_loadPart')
open PySem.MeetsSeq PySem.MeetsSeq2 PySem.MeetsSeq3
end
section
variable {prog:Program} {w:World} {A:Around} {E:Value->Shared->Prop} {s:Shared}
def zy (n d:Nat):Option Int->Nat
 | none=>d
 | some v=>if v < 0 then (v + (n:Int)).toNat else min v.toNat n
theorem ua (n d:Nat):zy n d none=d:=rfl
theorem B3 (n d k:Nat):zy n d (some (k:Int))=min k n:=by
 show (if (k:Int) < 0 then ((k:Int) + (n:Int)).toNat else min (k:Int).toNat n)=min k n
 rw [if_neg (by omega),Int.toNat_natCast]
end
end HT
namespace L2
open PySem PySem.Spec PyProof.Rows
abbrev TO:=St->Hp->(Option Int->Hp->Prop)->Prop
def PO (X:Cx) (e:Option Expr) (t:TO):Prop:=
 ∀ (pins:List (Addr×Obj)) (s:Shared) (σ:St) (H:Hp) (Q:Option Int->Hp->Prop),Inv X pins σ H s->t σ H Q->
   wpAny (model X.prog X.w) X.A (evalPart e X.env) (fun u s'=>∃ o H',Inv X pins σ H' s'/\IsPart u o/\Q o H') X.xe s
def qb:TO:=fun _ H Q=>Q none H
def zz (t:TE):TO:=fun σ H Q=>t σ H fun x H1=>∃ i,x=.int i/\Q (some i) H1
section
variable {X:Cx} {e:Expr} {te:TE} {lo hi:Option Expr} {tl th:TO} {pos p2:Pos}
theorem Ig:PO X none qb:=by
 intro pins s σ H Q I h
 rw [evalPart_none]
 exact wpAny_pure ⟨none,H,I,.none,h⟩
theorem Ih (h:PE X e te):PO X (some e) (zz te):=by
 intro pins s σ H Q I hw
 rw [evalPart_some]
 refine dX (h pins s σ H _ I hw) fun u s1 ⟨x,H1,I1,r1,q1⟩=>?_
 obtain ⟨i,rfl,q⟩:=q1
 obtain ⟨t,rfl⟩:=r1
 exact ⟨some i,H1,I1,.int i t,q⟩
def P9 (X:Cx) (r:V->Option Int->Option Int->Hp->VK->Prop):Prop:=
 ∀ (pins:List (Addr×Obj)) (s:Shared) (σ:St) (H:Hp) (x:V) (v vl vu:Value) (lo hi:Option Int) (sl:Addr) (Q:VK),Inv X pins σ H s->RelV x v->s.heap.IsSliceOf sl vl vu .none->IsPart vl lo->IsPart vu hi->r x lo hi H Q->
   ∃ T id,typeLookup (.type T) "__getitem__"=pure (some (.builtin id))/\s.TypeIs v T/\wpAny (model X.prog X.w) X.A (getItem v (.ref sl)) (EP X pins σ Q) X.xe s
def M5 (r:V->Option Int->Option Int->Hp->VK->Prop) (te:TE) (tl th:TO):TE:=fun σ H Q=>te σ H fun x H1=>tl σ H1 fun l H2=>th σ H2 fun u H3=>r x l u H3 Q
theorem ER {r:V->Option Int->Option Int->Hp->VK->Prop} (hr:P9 X r) (he:PE X e te) (hl:PO X lo tl) (hu:PO X hi th):PE X (.Subscript e (.Slice lo hi none p2) pos) (M5 r te tl th):=by
 intro pins s σ H Q I h
 refine Subscript_ (dX (he pins s σ H _ I h) fun v s1 ⟨x,H1,I1,r1,q1⟩=>?_)
 refine wpAny_Slice (dX (hl pins s1 σ H1 _ I1 q1) fun vl s2 ⟨l,H2,I2,pl,q2⟩=>dX (hu pins s2 σ H2 _ I2 q2) fun vu s3 ⟨u,H3,I3,pu,q3⟩=>?_)
 rw [evalPart_none]
 refine wpAny_pure ?_
 have I4:Inv X pins σ H3 { s3 with heap:=s3.heap.push { cls:=.type "slice",data:=.fields #[vl,vu,.none] } }:=I3.kept (t':=s3.toks) fun b ob q=>Heap.get?_push_of_some _ q
 obtain ⟨T,id,hT,ht,hg⟩:=hr pins { s3 with heap:=s3.heap.push { cls:=.type "slice",data:=.fields #[vl,vu,.none] } } σ H3 x v vl vu l u s3.heap.objs.size Q I4 r1 (Heap.IsSliceOf.new ..) pl pu q3
 show wpAny (model X.prog X.w) X.A (subscriptTail e (.Slice lo hi none p2) v (.ref s3.heap.objs.size)) (EP X pins σ Q) X.xe { s3 with heap:=s3.heap.push { cls:=.type "slice",data:=.fields #[vl,vu,.none] } }
 exact tail_any (ops:=[.ref s3.heap.objs.size,v]) ht hT hg (by with_unfolding_all rfl)
def iL (xs:List V) (lo hi:Option Int):List V:=(xs.drop (HT.zy xs.length 0 lo)).take (HT.zy xs.length xs.length hi - HT.zy xs.length 0 lo)
theorem ni (xs:List V) (lo hi:Option Int):(iL xs lo hi).length<=xs.length:=by
 unfold iL
 rw [List.length_take,List.length_drop]
 omega
end
end L2
namespace L2
open PySem PySem.Spec PyProof.Rows
def B4 (n:Nat) (i:Int):Option Nat:=if 0<=i then (if i < n then some i.toNat else none) else if -(n:Int)<=i then some (i + n).toNat else none
def uc {α:Type} (xs:List α) (i:Int):Option α:=(B4 xs.length i).bind fun j=>xs[j]?
theorem B5 {n:Nat} {i:Int} {j:Nat} (h:B4 n i=some j):seqIndex? i n=some j/\j < n/\-(n:Int)<=i/\i < n:=by
 unfold B4 at h
 by_cases h0:0<=i
 . rw [if_pos h0] at h
   by_cases h1:i < n
   . rw [if_pos h1] at h
     have e:i.toNat=j:=Option.some.inj h
     exact ⟨by rw [seqIndex_of h0 h1,e],by omega,by omega,h1⟩
   . rw [if_neg h1] at h;cases h
 . rw [if_neg h0] at h
   by_cases h1:-(n:Int)<=i
   . rw [if_pos h1] at h
     have e:(i + n).toNat=j:=Option.some.inj h
     exact ⟨by rw [seqIndex_neg (by omega) h1,e],by omega,h1,by omega⟩
   . rw [if_neg h1] at h;cases h
theorem wM {α:Type} {xs:List α} {i:Int} {v:α} (h:uc xs i=some v):∃ j,seqIndex? i xs.length=some j/\xs[j]?=some v/\j < xs.length/\-(xs.length:Int)<=i/\i < xs.length:=by
 unfold uc at h
 cases e:B4 xs.length i with
 | none=>rw [e] at h;cases h
 | some j=>
   rw [e] at h
   obtain ⟨h1,h2,h3,h4⟩:=B5 e
   exact ⟨j,h1,h,h2,h3,h4⟩
theorem qc {α:Type} {xs:List α} {j:Nat} {v:α} (h:xs[j]?=some v):uc xs (j:Int)=some v:=by
 have hj:j < xs.length:=(List.getElem?_eq_some_iff.mp h).1
 have e:B4 xs.length (j:Int)=some j:=by
   unfold B4
   rw [if_pos (by omega),if_pos (by omega)];simp
 unfold uc;rw [e];exact h
def B6 (b:Expr):Prop:=∀ o i,subscripted b false o i=operate [o,i] (getItem o i)
def Mk (X:Cx) (r:R2):Prop:=
 ∀ (value slice:Expr) (pins:List (Addr×Obj)) (s:Shared) (σ:St) (H:Hp) (x y:V) (v u:Value) (Q:VK),Inv X pins σ H s->RelV x v->RelV y u->r x y H Q->
   subscripted slice false v u=operate [v,u] (getItem v u)->wpAny (model X.prog X.w) X.A (subscriptTail value slice v u) (EP X pins σ Q) X.xe s
def ES (X:Cx) (id:String) (r:V->List V->Hp->VK->Prop):Prop:=
 ∀ (pins:List (Addr×Obj)) (s:Shared) (σ:St) (H:Hp) (x:V) (xs:List V) (v:Value) (us:List Value) (Q:VK),Inv X pins σ H s->RelV x v->Vals xs us->r x xs H Q->
   wpAny (model X.prog X.w) X.A (call (.builtin id) (v::us)) (EP X pins σ Q) X.xe s
section
variable {X:Cx} {a b:Expr} {ta tb:TE} {pos:Pos}
theorem M6 {r:R2} (hr:Mk X r) (ha:PE X a ta) (hb:PE X b tb) (hs:B6 b):PE X (.Subscript a b pos) (EE r ta tb):=by
 intro pins s σ H Q I h
 exact Subscript_ (KG ha hb I h fun v u s2 x y H2 I2 rx ry q=>hr a b pins s2 σ H2 x y v u Q I2 rx ry q (hs _ _))
def M7 (K:PySem.W.Frag):R2:=fun x y H Q=>∃ p xs i v,x=.ref p/\y=.int i/\aZ K H p xs/\uc xs i=some v/\Q v H
def SN (K:PySem.W.Frag):R2:=fun x y H Q=>∃ p xs i v,x=.ref p/\y=.int i/\om K H p xs/\uc xs i=some v/\Q v H
def Ii:R2:=fun x y H Q=>∃ z i c,x=.str z/\y=.int i/\z.length<=sizeLine/\uc z.cps.toList i=some c/\Q (.str ⟨#[c]⟩) H
theorem B7:Mk X (M7 X.K):=by
 intro value slice pins s σ H x y v u Q I rx ry h hs
 obtain ⟨p,xs,i,z,rfl,rfl,hq,he,q⟩:=h
 cases rx
 obtain ⟨t,rfl⟩:=ry
 obtain ⟨its,r,pl,hz⟩:=I.list hq
 obtain ⟨j,h1,h2,h3,h4,h5⟩:=wM he
 obtain ⟨w,ew,rw'⟩:=r.get h2
 have hl:=r.length
 have hn:=pH
 have fin:EP X pins σ Q w s:=⟨z,H,I,rw',q⟩
 by_cases h0:0<=i
 . have hj:i.toNat=j:=by
     rw [seqIndex_of h0 h5] at h1
     exact Option.some.inj h1
   exact item_listR pl.isList h0 (by omega) (by rw [hj];simpa using ew) fin hs
 . have hj:(i + (its.toArray.size:Int)).toNat=j:=by
     rw [seqIndex_neg (by omega) h4] at h1
     rw [List.size_toArray,<- hl]
     exact Option.some.inj h1
   exact subscriptTail_builtinR (x:=w) pl.isList.typeIs slot_list_getitem.lookup
     (wpAny_getItem_list_neg (Q:=fun r s'=>r=w/\EP X pins σ Q r s') pl.isList (by omega) (by rw [List.size_toArray] <;> omega) (by omega) (by rw [hj];simpa using ew) ⟨rfl,fin⟩) hs
theorem KS:Mk X (SN X.K):=by
 intro value slice pins s σ H x y v u Q I rx ry h hs
 obtain ⟨p,xs,i,z,rfl,rfl,hq,he,q⟩:=h
 cases rx
 obtain ⟨t,rfl⟩:=ry
 obtain ⟨its,r,pl,hz⟩:=I.tuple hq
 obtain ⟨j,h1,h2,h3,h4,h5⟩:=wM he
 obtain ⟨w,ew,rw'⟩:=r.get h2
 have hl:=r.length
 have hn:=pH
 have fin:EP X pins σ Q w s:=⟨z,H,I,rw',q⟩
 exact subscriptTail_builtinR (x:=w) pl.typeIs slot_tuple_getitem.lookup
   (getItem_tuple (j:=j) (Q:=fun r s'=>r=w/\EP X pins σ Q r s') pl (by omega) (by omega) (by rw [List.size_toArray,<- hl];exact h1) (by simpa using ew) ⟨rfl,fin⟩) hs
theorem wN:Mk X Ii:=by
 intro value slice pins s σ H x y v u Q I rx ry h hs
 obtain ⟨z,i,c,rfl,rfl,hz,he,q⟩:=h
 obtain ⟨t,rfl⟩:=rx
 obtain ⟨t',rfl⟩:=ry
 obtain ⟨j,h1,h2,h3,h4,h5⟩:=wM he
 have hl:z.cps.toList.length=z.length:=by simp [Str.length]
 rw [hl] at h1 h4 h5
 have hn:=pH
 exact tail_any (typeIs_str s z t) slot_str_getitem.lookup (getItem_str (c:=c) (by
   have e1:decide (i < -(2 ^ 63:Int))=false:=decide_eq_false (by omega)
   have e2:decide (i≥2 ^ 63)=false:=decide_eq_false (by omega)
   rw [e1,e2,Bool.or_false]) (by rw [h1];simpa using h2) ⟨.str ⟨#[c]⟩,H,I.tok _,⟨_,rfl⟩,q⟩) hs
theorem AH (its:List Value) (n j:Nat) (u:Value):Obj.mapSeq (·.setIfInBounds j u) { cls:=.type "list",data:=.seq its.toArray n }={ cls:=.type "list",data:=.seq (its.set j u).toArray n }:=by
 simp [Obj.mapSeq]
theorem Inv.lst {pins:List (Addr×Obj)} {σ:St} {H:Hp} {s:Shared} {p:Addr} {xs:List V} (I:Inv X pins σ H s) (h:H p=some (.lst xs)):
   ∃ (its:List Value) (n:Nat),Vals xs its/\s.heap.get? p=some { cls:=.type "list",data:=.seq its.toArray n }/\xs.length<=sizeLine:=by
 obtain ⟨z,its,n,r,e⟩:=I.dz p _ h
 exact ⟨its,n,r,e,z⟩
theorem Inv.KU {pins:List (Addr×Obj)} {σ:St} {H:Hp} {s:Shared} {p:Addr} {xs ys:List V} {its its':List Value} {n n':Nat} {f:Obj->Obj} (I:Inv X pins σ H s) (h:H p=some (.lst xs))
   (ho:s.heap.get? p=some { cls:=.type "list",data:=.seq its.toArray n }) (hf:f { cls:=.type "list",data:=.seq its.toArray n }={ cls:=.type "list",data:=.seq its'.toArray n' }) (r:Vals ys its') (hz:ys.length<=sizeLine) (t:Nat):
   Inv X pins σ (upd H p (.lst ys)) { s with heap:=s.heap.update p f,toks:=t }:=by
 have e:(s.heap.update p f).get? p=some { cls:=.type "list",data:=.seq its'.toArray n' }:=by
   rw [Heap.get?_update_self f ho (by rw [hf] <;> rfl),hf]
 refine I.write (x:=p) (e:=p) (by rw [h];trivial) (.inl rfl) (fun b u hb q=>(Heap.get?_update_other _ _ (Ne.symm hb)).trans q) ⟨_,e⟩ ?_
 exact ⟨hz,its',n',r,e⟩
def B8:V->V->V->Hp->(Hp->Prop)->Prop:=fun o i v H Q=>∃ p xs k j,o=.ref p/\i=.int k/\H p=some (.lst xs)/\B4 xs.length k=some j/\Q (upd H p (.lst (xs.set j v)))
theorem set_list:Ku X B8:=by
 intro pins s σ H o i v ov iv u Q I ro ri rv h
 obtain ⟨p,xs,k,j,rfl,rfl,hp,hj,q⟩:=h
 cases ro
 obtain ⟨t,rfl⟩:=ri
 obtain ⟨its,n,r,ho,hz⟩:=I.lst hp
 obtain ⟨h1,h2,h3,h4⟩:=B5 hj
 have hl:=r.length
 have hn:=pH
 have I':Inv X pins σ (upd H p (.lst (xs.set j v))) { s with heap:=s.heap.update p (Obj.mapSeq (·.setIfInBounds j u)) }:=
   I.KU hp ho (AH its n j u) (r.set rv j) (by rw [List.length_set];exact hz) s.toks
 by_cases h0:0<=k
 . have hk:k.toNat=j:=by
     rw [seqIndex_of h0 h4] at h1
     exact Option.some.inj h1
   exact PySem.W.ki_setAt ho h0 (by omega) (by rw [List.size_toArray,<- hl];exact h4) (by rw [hk];exact ⟨_,I',q⟩)
 . have hk:(k + (its.toArray.size:Int)).toNat=j:=by
     rw [seqIndex_neg (by omega) h3] at h1
     rw [List.size_toArray,<- hl]
     exact Option.some.inj h1
   exact PySem.W.ki_setBack ho (by omega) (by rw [List.size_toArray,<- hl];exact h3) (by omega) (by rw [hk];exact ⟨_,I',q⟩)
theorem wQ (lo hi:Option Int) (n:Nat):(sliceBounds lo hi none n).1=((HT.zy n 0 lo:Nat):Int)/\(sliceBounds lo hi none n).2.1=((HT.zy n n hi:Nat):Int)/\(sliceBounds lo hi none n).2.2=1:=by
 refine ⟨?_,?_,rfl⟩
 . cases lo with
   | none=>simp [sliceBounds,HT.zy]
   | some i=>
     simp only [sliceBounds,HT.zy,Option.getD_none,show (1:Int) > 0 by decide,if_true]
     by_cases h:i < 0
     . simp only [h,if_true] <;> omega
     . simp only [h,if_false] <;> omega
 . cases hi with
   | none=>simp [sliceBounds,HT.zy]
   | some i=>
     simp only [sliceBounds,HT.zy,Option.getD_none,show (1:Int) > 0 by decide,if_true]
     by_cases h:i < 0
     . simp only [h,if_true] <;> omega
     . simp only [h,if_false] <;> omega
theorem vo (its:List Value) (lo hi:Option Int):slicePick its.toArray lo hi none=((its.drop (HT.zy its.length 0 lo)).take (HT.zy its.length its.length hi - HT.zy its.length 0 lo)).toArray:=by
 obtain ⟨h1,h2,h3⟩:=wQ lo hi its.toArray.size
 unfold slicePick
 rw [h1,h2,h3]
 simp only [sliceRange_one,pick_run,List.size_toArray] <;> rfl
def nj:V->Bool
 | .cQ=>true
 | .bl _=>true
 | .int _=>true
 | .str _=>true
 | _=>false
def Hs:V->V->Bool
 | .cQ,.cQ=>true
 | .bl a,.bl b=>a==b
 | .bl a,.int b=>(if a then 1 else 0)==b
 | .int a,.bl b=>a==(if b then 1 else 0)
 | .int a,.int b=>a==b
 | .str a,.str b=>a==b
 | _,_=>false
theorem KW {A:Around} {s:Shared} {y x:V} {u v:Value} (ry:RelV y u) (rx:RelV x v) (fy:nj y=true) (fx:nj x=true):SeqAt.EqAt A s u v (Hs y x):=by
 cases y with
 | cQ=>
   cases ry
   cases x with
   | cQ=>cases rx;exact SeqAt.EqAt.same _
   | bl b=>cases rx;exact SeqAt.EqAt.none_bool b
   | int b=>obtain ⟨t,rfl⟩:=rx;exact SeqAt.EqAt.none_int b t
   | str b=>obtain ⟨t,rfl⟩:=rx;exact SeqAt.EqAt.none_str b t
   | _=>exact absurd (show false=true from fx) Bool.false_ne_true
 | bl a=>
   cases ry
   cases x with
   | cQ=>cases rx;exact SeqAt.EqAt.bool_none a
   | bl b=>cases rx;exact SeqAt.EqAt.bool_bool a b
   | int b=>obtain ⟨t,rfl⟩:=rx;exact SeqAt.EqAt.bool_int a b t
   | str b=>obtain ⟨t,rfl⟩:=rx;exact SeqAt.EqAt.bool_str a b t
   | _=>exact absurd (show false=true from fx) Bool.false_ne_true
 | int a=>
   obtain ⟨t',rfl⟩:=ry
   cases x with
   | cQ=>cases rx;exact SeqAt.EqAt.int_none a t'
   | bl b=>cases rx;exact SeqAt.EqAt.int_bool a t' b
   | int b=>obtain ⟨t,rfl⟩:=rx;exact SeqAt.EqAt.int_int a t' b t
   | str b=>obtain ⟨t,rfl⟩:=rx;exact SeqAt.EqAt.int_str a t' b t
   | _=>exact absurd (show false=true from fx) Bool.false_ne_true
 | str a=>
   obtain ⟨t',rfl⟩:=ry
   cases x with
   | cQ=>cases rx;exact SeqAt.EqAt.str_none a t'
   | bl b=>cases rx;exact SeqAt.EqAt.str_bool a t' b
   | int b=>obtain ⟨t,rfl⟩:=rx;exact SeqAt.EqAt.str_int a t' b t
   | str b=>obtain ⟨t,rfl⟩:=rx;exact SeqAt.EqAt.str_str a t' b t
   | _=>exact absurd (show false=true from fx) Bool.false_ne_true
 | _=>exact absurd (show false=true from fy) Bool.false_ne_true
def AI (x:V) (u:Value):Bool:=match u with
 | .none=>Hs .cQ x
 | .bool b=>Hs (.bl b) x
 | .int i _=>Hs (.int i) x
 | .str z _=>Hs (.str z) x
 | _=>false
theorem ET {x y:V} {u:Value} (r:RelV y u) (f:nj y=true):AI x u=Hs y x:=by
 cases y with
 | cQ=>cases r;rfl
 | bl b=>cases r;rfl
 | int i=>obtain ⟨t,rfl⟩:=r;rfl
 | str z=>obtain ⟨t,rfl⟩:=r;rfl
 | _=>exact absurd (show false=true from f) Bool.false_ne_true
theorem qd {x:V}:∀ {xs:List V} {us:List Value},Vals xs us->xs.all nj=true->us.any (AI x)=xs.any fun y=>Hs y x
 | _,_,.nil,_=>rfl
 | y::xs,u::us,.cons r t,f=>by
   rw [List.all_cons,Bool.and_eq_true] at f
   rw [List.any_cons,List.any_cons,ET r f.1,qd t f.2]
theorem nk {A:Around} {s:Shared} {x:V} {v:Value} (rx:RelV x v) (fx:nj x=true):∀ {xs:List V} {us:List Value},Vals xs us->xs.all nj=true->∀ u∈us,SeqAt.EqAt A s u v (AI x u)
 | _,_,.nil,_=>fun u hu=>by cases hu
 | y::xs,u::us,.cons r t,f=>fun u' hu=>by
   rw [List.all_cons,Bool.and_eq_true] at f
   rcases List.mem_cons.mp hu with rfl | hu
   . rw [ET r f.1];exact KW r rx f.1 fx
   . exact nk rx fx t f.2 u' hu
def Ht (x:V) (xs:List V):Bool:=xs.any fun y=>Hs y x
def rIn (K:PySem.W.Frag) (neg:Bool):R2:=fun x y H Q=>∃ p xs,y=.ref p/\(aZ K H p xs∨om K H p xs)/\nj x=true/\xs.all nj=true/\Q (.bl (if neg then !Ht x xs else Ht x xs)) H
theorem Dc:mQ X (compareOp .In) (rIn X.K false):=by
 intro pins s σ H x y v u Q I rx ry h
 obtain ⟨p,xs,rfl,hq,fx,fs,q⟩:=h
 cases ry
 rcases hq with hq | hq
 . obtain ⟨its,r,pl,hz⟩:=I.list hq
   refine SeqAt.in_listAt (AI x) pl.isList (fun w hw=>nk rx fx r fs w (by simpa using hw)) ⟨.bl _,H,I,rfl,?_⟩
   rw [show its.toArray.any (AI x)=its.any (AI x) by simp,qd r fs]
   exact q
 . obtain ⟨its,r,pl,hz⟩:=I.tuple hq
   refine SeqAt.in_tupleAt (AI x) pl (fun w hw=>nk rx fx r fs w (by simpa using hw)) ⟨.bl _,H,I,rfl,?_⟩
   rw [show its.toArray.any (AI x)=its.any (AI x) by simp,qd r fs]
   exact q
theorem wR:mQ X (compareOp .NotIn) (rIn X.K true):=by
 intro pins s σ H x y v u Q I rx ry h
 obtain ⟨p,xs,rfl,hq,fx,fs,q⟩:=h
 cases ry
 rcases hq with hq | hq
 . obtain ⟨its,r,pl,hz⟩:=I.list hq
   refine SeqAt.notIn_listAt (AI x) pl.isList (fun w hw=>nk rx fx r fs w (by simpa using hw)) ⟨.bl _,H,I,rfl,?_⟩
   rw [show its.toArray.any (AI x)=its.any (AI x) by simp,qd r fs]
   exact q
 . obtain ⟨its,r,pl,hz⟩:=I.tuple hq
   refine SeqAt.notIn_tupleAt (AI x) pl (fun w hw=>nk rx fx r fs w (by simpa using hw)) ⟨.bl _,H,I,rfl,?_⟩
   rw [show its.toArray.any (AI x)=its.any (AI x) by simp,qd r fs]
   exact q
theorem lV:gx X (.builtin "len") (fun xs H Q=>∃ p ys,xs=[.ref p]/\(aZ X.K H p ys∨om X.K H p ys)/\Q (.int ys.length) H):=by
 intro pins s σ H xs us Q I r h
 obtain ⟨p,ys,rfl,hq,q⟩:=h
 obtain ⟨u,rfl,rx⟩:=vals1 r
 cases rx
 have hn:=pH
 rcases hq with hq | hq
 . obtain ⟨its,r',pl,hz⟩:=I.list hq
   have hlen:=r'.length
   exact Calls.call_len_list pl.isList (by simp only [List.size_toArray] <;> omega) ⟨.int ys.length,H,I.tok _,⟨s.toks + 1,by rw [List.size_toArray,hlen]⟩,q⟩
 . obtain ⟨its,r',pl,hz⟩:=I.tuple hq
   have hlen:=r'.length
   exact len_tuple pl (by simp only [List.size_toArray] <;> omega) ⟨.int ys.length,H,I.tok _,⟨s.toks + 1,by rw [List.size_toArray,hlen]⟩,q⟩
theorem qe:gx X (.builtin "len") (fun xs H Q=>∃ z,xs=[.str z]/\z.length<=sizeLine/\Q (.int z.length) H):=by
 intro pins s σ H xs us Q I r h
 obtain ⟨z,rfl,hz,q⟩:=h
 obtain ⟨u,rfl,t,rfl⟩:=vals1 r
 have hn:=pH
 exact len_str (by omega) ⟨.int z.length,H,I.tok _,⟨_,rfl⟩,q⟩
theorem vp:gx X (.type "tuple") (fun xs H Q=>∃ p ys,xs=[.ref p]/\((aZ X.K H p ys/\∀ l,H l=none->Q (.ref l) (upd H l (.tup ys)))∨(om X.K H p ys/\Q (.ref p) H))):=by
 intro pins s σ H xs us Q I r h
 obtain ⟨p,ys,rfl,h⟩:=h
 obtain ⟨u,rfl,rx⟩:=vals1 r
 cases rx
 rcases h with ⟨hq,q⟩ | ⟨hq,q⟩
 . obtain ⟨its,r',pl,hz⟩:=I.list hq
   have hlen:=r'.length
   refine call_tuple_list pl.isList (fun h' kp=>?_) (by simp only [List.size_toArray] <;> omega)
   have I1:Inv X pins σ H { s with heap:=h' }:=I.kept (t':=s.toks) kp
   have I2:Inv X pins σ (upd H h'.objs.size (.tup ys)) { s with heap:=h'.push { cls:=.type "tuple",data:=.seq its.toArray } }:=
     I1.laid (t':=s.toks) (fun b o e=>Heap.get?_push_of_some _ e) (Nat.le_refl _) (show dW X.prog X.w _ _ _ (.tup ys) from ⟨hz,its,r',IsTup.new _ _⟩)
   exact ⟨.ref h'.objs.size,_,I2,rfl,q _ (I1.dz.fresh (Nat.le_refl _))⟩
 . obtain ⟨its,r',pl,hz⟩:=I.tuple hq
   exact call_tuple_same pl ⟨.ref p,H,I,rfl,q⟩
def Ml (K:PySem.W.Frag) (T:String) (x:V) (H:Hp):Prop:=match x with
 | .str _=>T="str"
 | .int _=>T="int"
 | .ref p=>(T="list"/\∃ xs,aZ K H p xs)∨(T="tuple"/\∃ o,K.lookup p=some o/\o.cls=.type "tuple"/\o.dict=none)∨
     (T="dict"/\((∃ aO,H p=some (.dK aO))∨∃ aO,H p=some (.dT aO)))∨(T="set"/\∃ S n,H p=some (.set S n))
 | _=>False
theorem EU {pins:List (Addr×Obj)} {σ:St} {H:Hp} {s:Shared} {T:String} {x:V} {v:Value} (I:Inv X pins σ H s) (r:RelV x v) (ty:Ml X.K T x H):
   s.TypeIs v T/\∀ a,v=.ref a->∃ ob,s.heap.get? a=some ob/\ob.dict=none:=by
 cases x with
 | str z=>
   obtain ⟨t,rfl⟩:=r
   cases (show T="str" from ty)
   exact ⟨typeIs_str s z t,fun _ e=>nomatch e⟩
 | int i=>
   obtain ⟨t,rfl⟩:=r
   cases (show T="int" from ty)
   exact ⟨typeIs_int s i t,fun _ e=>nomatch e⟩
 | ref p=>
   cases r
   rcases ty with ⟨rfl,xs,hq⟩ | ⟨rfl,o,hk,hc,hd⟩ | ⟨rfl,hk⟩ | ⟨rfl,S,n,hk⟩
   . obtain ⟨its,_,pl,_⟩:=I.list hq
     refine ⟨pl.isList.typeIs,fun a e=>?_⟩
     cases e
     obtain ⟨o,n,e,c,hd,_⟩:=pl
     exact ⟨o,e,hd⟩
   . refine ⟨⟨o,I.sX p o hk,hc⟩,fun a e=>?_⟩
     cases e
     exact ⟨o,I.sX _ o hk,hd⟩
   . have z:∃ o,s.heap.get? p=some o/\o.ExactDict:=by
       rcases hk with ⟨aO,hk⟩ | ⟨aO,hk⟩
       . obtain ⟨_,_,_,_,o,_,_,e,ex,_⟩:=I.dz p _ hk
         exact ⟨o,e,ex⟩
       . obtain ⟨_,_,_,_,o,_,_,e,ex,_⟩:=I.dz p _ hk
         exact ⟨o,e,ex⟩
     obtain ⟨o,e,ex⟩:=z
     refine ⟨⟨o,e,ex.1⟩,fun a e2=>?_⟩
     cases e2
     exact ⟨o,e,ex.2.1⟩
   . obtain ⟨o,_,_,_,e,ex,_⟩:=I.dz p _ hk
     refine ⟨⟨o,e,ex.1⟩,fun a e2=>?_⟩
     cases e2
     exact ⟨o,e,ex.2.1⟩
 | _=>exact False.elim ty
def EV (K:PySem.W.Frag) (T:String) (r:V->List V->Hp->VK->Prop) (to:TE):TE:=fun σ H Q=>to σ H fun x H1=>Ml K T x H1/\r x [] H1 Q
def M8 (K:PySem.W.Frag) (T:String) (r:V->List V->Hp->VK->Prop) (to:TE) (t:TA):TE:=fun σ H Q=>to σ H fun x H1=>Ml K T x H1/\t σ H1 fun xs H2=>r x xs H2 Q
variable {o e:Expr} {es:List Expr} {to:TE} {t:TA} {name:Str} {apos j6:Pos} {T id:String} {r:V->List V->Hp->VK->Prop}
theorem KY (pa:PlainAttrs T) (slot:Slot T name id) (KZ:typeOf (.builtin id)=pure (.type "method_descriptor")) (hm:ES X id r) (ho:PE X o to)
   (ud:attributeBase o name X.env (eval o X.env)=eval o X.env:=by rfl) (ue:(apos.endLine==j6.line)=true:=by rfl):PE X (.Call (.Attribute o name apos) [] [] j6) (EV X.K T r to):=by
 intro pins s σ H Q I h
 refine wpAny_Call_method0_late ud ue (dX (ho pins s σ H _ I h) fun v s1 ⟨x,H1,I1,r1,ty,q1⟩=>?_)
 obtain ⟨h1,h2⟩:=EU I1 r1 ty
 exact ⟨T,id,pa,slot,KZ,h1,h2,Calls.callWith_builtin rfl (PySem.evalArgs_none (hm pins s1 σ H1 x [] v [] Q I1 r1 .nil q1))⟩
theorem M9 (pa:PlainAttrs T) (slot:Slot T name id) (KZ:typeOf (.builtin id)=pure (.type "method_descriptor")) (hm:ES X id r) (ho:PE X o to) (ha:PA X (e::es) t)
   (ud:attributeBase o name X.env (eval o X.env)=eval o X.env:=by rfl)
   (K0:((backTo j6 (starEach (e::es) X.env)).all (fun x=>!x.1)&&(backToKw j6 (keywordEach [] X.env)).all (fun x=>x.1.isSome)
     &&decide ((e::es).length + ([]:List Keyword).length + (if ([]:List Keyword).isEmpty then 0 else 1) < 30))=true:=by rfl)
   (ue:(apos.endLine==j6.line)=true:=by rfl) (hs:starEach (e::es) X.env=(false,eval e X.env)::starEach es X.env:=by rfl) (AJ:(backTo j6 (starEach es X.env)).any (·.1)=false:=by rfl):
   PE X (.Call (.Attribute o name apos) (e::es) [] j6) (M8 X.K T r to t):=by
 intro pins s σ H Q I h
 refine wpAny_Call_method_late ud K0 ue rfl (dX (ho pins s σ H _ I h) fun v s1 ⟨x,H1,I1,r1,ty,q1⟩=>?_)
 obtain ⟨h1,h2⟩:=EU I1 r1 ty
 refine ⟨T,id,pa,slot,KZ,h1,h2,?_⟩
 have hA:=ha j6 pins s1 σ H1 _ I1 q1
 rw [hs] at hA ⊢
 refine Calls.callWith_builtin (by show (false||(backTo j6 (starEach es X.env)).any (·.1))=false;rw [AJ] <;> rfl) (Calls.evalArgs_plain ?_)
 exact dX hA fun us s2 ⟨vs,H2,I2,r2,q2⟩=>hm pins s2 σ H2 x vs v us Q I2 r1 r2 q2
end
end L2
namespace L2
open PySem PySem.Spec PyProof.Rows
def MtM (X:Cx) (id:String) (r:V->List V->Hp->VK->Prop):Prop:=
 ∀ (pins:List (Addr×Obj)) (s:Shared) (σ:St) (H:Hp) (x:V) (xs:List V) (v:Value) (us:List Value) (Q:VK),Inv X pins σ H s->RelV x v->Vals xs us->r x xs H Q->
   wpAny (model X.prog X.w) X.A (call (.builtin id) (v::us)) (EP X pins σ Q) X.xe s
theorem Vals.one:∀ {x:V} {us:List Value},Vals [x] us->∃ u,us=[u]/\RelV x u
 | _,_,.cons r .nil=>⟨_,rfl,r⟩
section
variable {X:Cx} {pins:List (Addr×Obj)} {σ:St} {H:Hp} {s:Shared} {l b:Addr} {xs ys zs:List V}
theorem Inv.Na {its its':List Value} {n:Nat} {f:Array Value->Array Value} {t':Nat} (I:Inv X pins σ H s) (hH:H l=some (.lst xs))
   (e:s.heap.get? l=some { cls:=.type "list",data:=.seq its.toArray n }) (hf:f its.toArray=its'.toArray) (hv:Vals ys its') (hz:ys.length<=sizeLine):
   Inv X pins σ (upd H l (.lst ys)) { s with heap:=s.heap.update l (Obj.mapSeq f),toks:=t' }:=by
 have q:=PySem.IsL.update e f
 rw [hf] at q
 refine I.write (x:=l) (e:=l) (by rw [hH];exact trivial) (.inl rfl) (fun b' u hb hu=>(Heap.get?_update_other s.heap (Obj.mapSeq f) (Ne.symm hb)).trans hu) ⟨_,q⟩ ?_
 exact ⟨hz,its',_,hv,q⟩
theorem Inv.Nb {its:List Value} {t':Nat} (I:Inv X pins σ H s) (hv:Vals ys its) (hz:ys.length<=sizeLine):
   Inv X pins σ (upd H s.heap.objs.size (.lst ys)) { s with heap:=s.heap.push { cls:=.type "list",data:=.seq its.toArray },toks:=t' }:=
 I.laid (fun _ _ q=>Heap.get?_push_of_some _ q) (Nat.le_refl _) ⟨hz,its,0,hv,Heap.get?_push_size _ rfl⟩
theorem Inv.EW (I:Inv X pins σ H s) (hH:H l=some (.lst xs)):xs.length<=sizeLine/\∃ (its:List Value) (n:Nat),Vals xs its/\xs.length=its.length/\s.heap.get? l=some { cls:=.type "list",data:=.seq its.toArray n }:=by
 obtain ⟨z,its,n,r,e⟩:=I.dz l _ hH
 exact ⟨z,its,n,r,r.length,e⟩
theorem EX {n:Nat} (h:n<=sizeLine):Builtin.List.listTooLong n=false:=by
 unfold Builtin.List.listTooLong
 exact decide_eq_false (by omega)
end
section
variable {X:Cx}
def tD:V->List V->Hp->VK->Prop:=fun x vs H Q=>∃ l xs y,x=.ref l/\vs=[y]/\H l=some (.lst xs)/\xs.length < sizeLine/\Q .cQ (upd H l (.lst (xs++[y])))
theorem bX:MtM X "list.append" tD:=by
 intro pins s σ H x vs v us Q I rx rv h
 obtain ⟨l,xs,y,rfl,rfl,hH,hz,q⟩:=h
 cases rx
 obtain ⟨u,rfl,ru⟩:=rv.one
 obtain ⟨z,its,n,r,hl,e⟩:=I.EW hH
 refine call_meets F.slot_list_append ⟨_,e,rfl⟩ F.entry_list_append (F.args_list_append_2 _ _) (PySem.list_append l its.toArray n u (by rw [List.size_toArray];omega)) ⟨e,?_⟩
 refine ⟨.cQ,_,I.Na (its':=its++[u]) hH e (by simp) (r.append (.cons ru .nil)) ?_,rfl,q⟩
 rw [List.length_append,List.length_singleton]
 omega
def tH:V->List V->Hp->VK->Prop:=fun x vs H Q=>∃ l b xs zs,x=.ref l/\vs=[.ref b]/\H l=some (.lst xs)/\H b=some (.lst zs)/\xs.length + zs.length<=sizeLine/\Q .cQ (upd H l (.lst (xs++zs)))
theorem Dd:MtM X "list.extend" tH:=by
 intro pins s σ H x vs v us Q I rx rv h
 obtain ⟨l,b,xs,zs,rfl,rfl,hH,hB,hz,q⟩:=h
 cases rx
 obtain ⟨u,rfl,ru⟩:=rv.one
 cases ru
 obtain ⟨z,its,n,r,hl,e⟩:=I.EW hH
 obtain ⟨z2,its2,n2,r2,K1,e2⟩:=I.EW hB
 have hsz:its.toArray.size + its2.toArray.size<=sizeLine:=by rw [List.size_toArray,List.size_toArray];omega
 have Nc:¬ (!its.toArray.isEmpty&&Builtin.List.listTooLong (its.toArray.size + its2.toArray.size))=true:=by
   rw [EX hsz,Bool.and_false]
   exact Bool.false_ne_true
 refine call_meets F.slot_list_extend ⟨_,e,rfl⟩ F.entry_list_extend (F.args_list_extend_2 _ _)
   (AutoSeq1.list_extend_list_list_0 l its.toArray n b its2.toArray n2 Nc (by rw [List.size_toArray];omega) (by omega)) ⟨e,e2,?_⟩
 refine ⟨.cQ,_,I.Na (its':=its++its2) hH e (by simp) (r.append r2) ?_,rfl,q⟩
 rw [List.length_append]
 omega
def AK:V->List V->Hp->VK->Prop:=fun x vs H Q=>∃ l xs,x=.ref l/\vs=[]/\H l=some (.lst xs)/\Q .cQ (upd H l (.lst []))
end
section
variable {prog:Program} {w:World} {A:Around} {E:Value->Shared->Prop} {s:Shared}
end
section
variable {X:Cx}
end
end L2
namespace L2
open PySem PySem.Spec PyProof.Rows
section
variable {κ:Type} [DecidableEq κ]
def gM (aO:List (κ×V)) (k:κ):Option V:=(aO.find? fun kv=>decide (kv.1=k)).map (·.2)
def putK (aO:List (κ×V)) (k:κ) (v:V):List (κ×V):=
 if (aO.any fun kv=>decide (kv.1=k))=true then aO.map (fun kv=>if kv.1=k then (kv.1,v) else kv) else aO++[(k,v)]
theorem fq {p:κ×V} {r:List (κ×V)} {k:κ} (e:p.1=k):gM (p::r) k=some p.2:=by simp [gM,List.find?_cons,e]
theorem fz {p:κ×V} {r:List (κ×V)} {k:κ} (e:¬ p.1=k):gM (p::r) k=gM r k:=by simp [gM,List.find?_cons,e]
theorem nq (k:κ):∀ aO:List (κ×V),(aO.any fun kv=>decide (kv.1=k))=(gM aO k).isSome
 | []=>rfl
 | p::r=>by
   rw [List.any_cons]
   by_cases e:p.1=k
   . simp only [fq e,decide_eq_true e,Bool.true_or,Option.isSome_some]
   . rw [fz e,decide_eq_false e,Bool.false_or];exact nq k r
theorem zA (k j:κ) (y:V):∀ aO:List (κ×V),gM (aO.map fun kv=>if kv.1=k then (kv.1,y) else kv) j=(gM aO j).map fun x=>if j=k then y else x
 | []=>rfl
 | p::r=>by
   have ih:=zA k j y r
   rw [List.map_cons]
   by_cases h:p.1=k
   . rw [if_pos h]
     by_cases e:p.1=j
     . rw [fq (p:=(p.1,y)) e,fq e,Option.map_some,if_pos (e.symm.trans h)]
     . rw [fz (p:=(p.1,y)) e,fz e,ih]
   . rw [if_neg h]
     by_cases e:p.1=j
     . rw [fq (p:=p) e,fq e,Option.map_some,if_neg (fun z=>h (e.trans z))]
     . rw [fz (p:=p) e,fz e,ih]
theorem vV (k j:κ) (y:V):∀ aO:List (κ×V),gM aO k=none->gM (aO++[(k,y)]) j=if j=k then some y else gM aO j
 | [],_=>by
   by_cases e:k=j
   . rw [if_pos e.symm];exact fq (p:=(k,y)) e
   . rw [if_neg (fun z=>e z.symm)];exact fz (p:=(k,y)) e
 | p::r,hn=>by
   rw [List.cons_append]
   have hk:¬ p.1=k:=fun z=>by rw [fq z] at hn;cases hn
   rw [fz hk] at hn
   have ih:=vV k j y r hn
   by_cases e:p.1=j
   . rw [fq e,fq e,if_neg (fun z=>hk (e.trans z))]
   . rw [fz e,fz e,ih]
theorem qf (aO:List (κ×V)) (k j:κ) (y:V):gM (putK aO k y) j=if j=k then some y else gM aO j:=by
 unfold putK
 by_cases a:(aO.any fun kv=>decide (kv.1=k))=true
 . rw [if_pos a,zA]
   rw [nq] at a
   by_cases e:j=k
   . obtain ⟨x,hx⟩:=Option.isSome_iff_exists.mp a
     rw [if_pos e,e,hx,Option.map_some,if_pos rfl]
   . rw [if_neg e]
     cases gM aO j with
     | none=>rfl
     | some x=>rw [Option.map_some,if_neg e]
 . rw [if_neg a]
   refine vV k j y aO ?_
   rw [nq] at a
   cases q:gM aO k with
   | none=>rfl
   | some x=>rw [q] at a;exact (a rfl).elim
theorem nu (aO:List (κ×V)) (k:κ) (v:V):(putK aO k v).length<=aO.length + 1:=by
 unfold putK
 split
 . rw [List.length_map];omega
 . rw [List.length_append,List.length_cons,List.length_nil];omega
theorem tW.De {o:Option V} {u:Option Value} (r:tW o u):o.isSome=u.isSome:=by
 cases o with
 | none=>cases u with
   | none=>rfl
   | some _=>exact (show False from r).elim
 | some _=>cases u with
   | none=>exact (show False from r).elim
   | some _=>rfl
theorem KV.val {aO:List (κ×V)} {vs:List (κ×Value)} (r:KV aO vs) (k:κ):tW (gM aO k) (valueAt vs k):=by
 unfold KV at r
 induction r with
 | nil=>exact True.intro
 | @cons p q ps qs h t ih=>
   obtain ⟨h1,h2⟩:=h
   by_cases e:p.1=k
   . have e':q.1=k:=h1.symm.trans e
     have b:valueAt (q::qs) k=some q.2:=by simp [valueAt,List.find?_cons,e']
     rw [fq e,b];exact h2
   . have e':¬ q.1=k:=fun z=>e (h1.trans z)
     have b:valueAt (q::qs) k=valueAt qs k:=by simp [valueAt,List.find?_cons,e']
     rw [fz e,b];exact ih
theorem KV.any {aO:List (κ×V)} {vs:List (κ×Value)} (r:KV aO vs) (k:κ):(aO.any fun kv=>decide (kv.1=k))=vs.any fun kv=>decide (kv.1=k):=by
 unfold KV at r
 induction r with
 | nil=>rfl
 | cons h t ih=>rw [List.any_cons,List.any_cons,ih,h.1]
theorem KV.K2 {aO:List (κ×V)} {vs:List (κ×Value)} (r:KV aO vs) (k:κ) {y:V} {u:Value} (ry:RelV y u):
   KV (aO.map fun kv=>if kv.1=k then (kv.1,y) else kv) (vs.map fun kv=>if kv.1=k then (kv.1,u) else kv):=by
 unfold KV at r ⊢
 induction r with
 | nil=>exact .nil
 | @cons p q ps qs h t ih=>
   rw [List.map_cons,List.map_cons]
   refine .cons ?_ ih
   obtain ⟨h1,h2⟩:=h
   by_cases e:p.1=k
   . rw [if_pos e,if_pos (h1.symm.trans e)];exact ⟨h1,ry⟩
   . rw [if_neg e,if_neg (fun z=>e (h1.trans z))];exact ⟨h1,h2⟩
theorem KV.put {aO:List (κ×V)} {vs:List (κ×Value)} (r:KV aO vs) (k:κ) {y:V} {u:Value} (ry:RelV y u):KV (putK aO k y) (stored vs k u):=by
 unfold putK stored
 rw [r.any k]
 by_cases e:(vs.any fun kv=>decide (kv.1=k))=true
 . rw [if_pos e,if_pos e];exact r.K2 k ry
 . rw [if_neg e,if_neg e];exact Paired.snoc r ⟨rfl,ry⟩
theorem KV.length {aO:List (κ×V)} {vs:List (κ×Value)} (r:KV aO vs):aO.length=vs.length:=Paired.length r
end
theorem B9 {P:Program} {w:World} {k:Key} {u:Value} (r:RelV (kV k) u):(dZ P w).is k u=true:=by
 cases k with
 | inl i=>obtain ⟨t,e⟩:=(show ∃ t,u=Value.int i t from r);subst e;exact zc P w i t
 | inr x=>obtain ⟨t,e⟩:=(show ∃ t,u=Value.str x t from r);subst e;exact zd P w x t
theorem vW {P:Program} {w:World}:∀ {ks:List Key} {us:List Value},Vals (ks.map kV) us->ItemsAre (dZ P w) ks us
 | [],_,r=>by rw [List.map_nil] at r;cases r;exact .nil
 | k::ks,_,r=>by
   rw [List.map_cons] at r
   cases r with
   | cons h t=>exact .cons (B9 h) (vW t)
abbrev KT (H:Hp):List (List Key×V)->List (List Key×Addr×Value)->Prop:=Paired fun p q=>p.1=q.1/\H q.2.1=some (.tup (p.1.map kV))/\RelV p.2 q.2.2
theorem KT.val {H:Hp} {aO:List (List Key×V)} {xs:List (List Key×Addr×Value)} (r:KT H aO xs) (k:List Key):tW (gM aO k) ((atKey xs k).map (·.2)):=by
 induction r with
 | nil=>exact True.intro
 | @cons p q ps qs h t ih=>
   obtain ⟨h1,_,h2⟩:=h
   by_cases e:p.1=k
   . have e':q.1=k:=h1.symm.trans e
     have b:atKey (q::qs) k=some q.2:=by simp [atKey,List.find?_cons,e']
     rw [fq e,b];exact h2
   . have e':¬ q.1=k:=fun z=>e (h1.trans z)
     have b:atKey (q::qs) k=atKey qs k:=by simp [atKey,List.find?_cons,e']
     rw [fz e,b];exact ih
theorem KT.K2 {H:Hp} {aO:List (List Key×V)} {xs:List (List Key×Addr×Value)} (r:KT H aO xs) (k:List Key) {y:V} {u:Value} (ry:RelV y u):
   KT H (aO.map fun kv=>if kv.1=k then (kv.1,y) else kv) (xs.map (putAt k u)):=by
 induction r with
 | nil=>exact .nil
 | @cons p q ps qs h t ih=>
   rw [List.map_cons,List.map_cons]
   refine .cons ?_ ih
   obtain ⟨h1,h2,h3⟩:=h
   unfold putAt
   by_cases e:p.1=k
   . rw [if_pos e,if_pos (h1.symm.trans e)];exact ⟨h1,h2,ry⟩
   . rw [if_neg e,if_neg (fun z=>e (h1.trans z))];exact ⟨h1,h2,h3⟩
theorem KT.put {H:Hp} {aO:List (List Key×V)} {xs:List (List Key×Addr×Value)} (r:KT H aO xs) (k:List Key) {b:Addr} {y:V} {u:Value} (hb:H b=some (.tup (k.map kV))) (ry:RelV y u):
   KT H (putK aO k y) (storedH xs k b u):=by
 have e:(aO.any fun kv=>decide (kv.1=k))=(atKey xs k).isSome:=by
   rw [nq,(r.val k).De,Option.isSome_map]
 unfold putK storedH
 rw [e]
 by_cases q:(atKey xs k).isSome=true
 . rw [if_pos q,if_pos q];exact r.K2 k ry
 . rw [if_neg q,if_neg q];exact Paired.snoc r ⟨rfl,hb,ry⟩
theorem KT.keeps {H H':Hp} {aO:List (List Key×V)} {xs:List (List Key×Addr×Value)} (r:KT H aO xs) (ht:∀ b ys,H b=some (.tup ys)->H' b=some (.tup ys)):KT H' aO xs:=
 Paired.Kg r fun _ _ z=>⟨z.1,ht _ _ z.2.1,z.2.2⟩
section
variable {P:Program} {w:World} {H:Hp} {h:Heap} {a:Addr}
theorem JC {u:HO} (ok:oU P w H h) (e:Rd H a u):dW P w H h a u:=e.ok ok
theorem Ca {aO:List (Key×V)} (ok:oU P w H h) (e:Rd H a (.dK aO)):aO.length<=sizeLine/\(a==sysModules)=false/\∃ vs,KV aO vs/\h.DictOf (dZ P w) a vs:=
 show dW P w H h a (.dK aO) from JC ok e
theorem Nd {aO:List (Key×V)} (ok:oU P w H h) (e:H a=some (.dK aO)):aO.length<=sizeLine/\(a==sysModules)=false/\∃ vs,KV aO vs/\h.DictOf (dZ P w) a vs:=Ca ok (.inl e)
theorem AL {ks:List Key} (ok:oU P w H h) (e:H a=some (.tup (ks.map kV))):(tupleKind (dZ P w)).is h ks a:=by
 obtain ⟨_,its,r,o,h1,h2,n,h3⟩:=(show dW P w H h a (.tup (ks.map kV)) from ok a _ e)
 exact ⟨o,its.toArray,n,h1,h2,h3,by simpa using vW r⟩
theorem EY {aO:List (List Key×V)} (ok:oU P w H h) (e:Rd H a (.dT aO)):aO.length<=sizeLine/\(a==sysModules)=false/\
   ∃ xs,KT H aO xs/\h.DictOfH (tupleKind (dZ P w)) a xs:=by
 obtain ⟨z,y,xs,r,o,es,ep,h1,h2,h3,h4,h5⟩:=(show dW P w H h a (.dT aO) from JC ok e)
 refine ⟨z,y,xs,r,o,es,ep,h1,h2,h3,h4,fun x hx=>?_,h5⟩
 have all:∀ {l:List (List Key×V)} {m:List (List Key×Addr×Value)},KT H l m->∀ x∈m,(tupleKind (dZ P w)).is h x.1 x.2.1:=by
   intro l m q
   induction q with
   | nil=>intro x hx;exact nomatch hx
   | @cons p q ps qs hq t ih=>
     intro x hx
     rcases List.mem_cons.mp hx with e | hx
     . subst e
       exact AL ok (by rw [<- hq.1];exact hq.2.1)
     . exact ih x hx
 exact all r x hx
theorem Nf {aO:List (List Key×V)} (ok:oU P w H h) (e:H a=some (.dT aO)):aO.length<=sizeLine/\(a==sysModules)=false/\
   ∃ xs,KT H aO xs/\h.DictOfH (tupleKind (dZ P w)) a xs:=EY ok (.inl e)
end
def vq (H:Hp) (a:Addr) (y:V) (r:Option V):Prop:=
 (∃ aO k,Rd H a (.dK aO)/\y=kV k/\r=gM aO k)∨∃ aO k b,Rd H a (.dT aO)/\y=.ref b/\H b=some (.tup (k.map kV))/\r=gM aO k
def AM (H:Hp) (a:Addr) (y v:V) (H':Hp):Prop:=
 (∃ aO k,H a=some (.dK aO)/\y=kV k/\aO.length < sizeLine/\H'=upd H a (.dK (putK aO k v)))∨
 ∃ aO k b,H a=some (.dT aO)/\y=.ref b/\H b=some (.tup (k.map kV))/\aO.length < sizeLine/\H'=upd H a (.dT (putK aO k v))
theorem vq.k {H:Hp} {a:Addr} {aO:List (Key×V)} {k:Key} (e:H a=some (.dK aO)):vq H a (kV k) (gM aO k):=.inl ⟨aO,k,.inl e,rfl,rfl⟩
theorem vq.t {H:Hp} {a b:Addr} {aO:List (List Key×V)} {k:List Key} (e:H a=some (.dT aO)) (eb:H b=some (.tup (k.map kV))):vq H a (.ref b) (gM aO k):=.inr ⟨aO,k,b,.inl e,rfl,eb,rfl⟩
theorem AM.k {H:Hp} {a:Addr} {aO:List (Key×V)} {k:Key} {v:V} (e:H a=some (.dK aO)) (hl:aO.length < sizeLine):AM H a (kV k) v (upd H a (.dK (putK aO k v))):=.inl ⟨aO,k,e,rfl,hl,rfl⟩
theorem AM.t {H:Hp} {a b:Addr} {aO:List (List Key×V)} {k:List Key} {v:V} (e:H a=some (.dT aO)) (eb:H b=some (.tup (k.map kV))) (hl:aO.length < sizeLine):
   AM H a (.ref b) v (upd H a (.dT (putK aO k v))):=.inr ⟨aO,k,b,e,rfl,eb,hl,rfl⟩
section
variable {X:Cx} {pins:List (Addr×Obj)} {σ:St} {H:Hp} {s:Shared} {a:Addr} {y v:V} {u r:Value} {o:Option V} {A:Around} {E:Value->Shared->Prop}
theorem Inv.big (I:Inv X pins σ H s):sysModules < s.heap.objs.size:=by
 have h:mainGlobals < s.heap.objs.size:=(I.mod.glob.keeps I.bk).lt
 exact Nat.lt_trans (by decide) h
theorem Df {Q:Value->Shared->Prop} (hu:A.units + 1 < cLine) (I:Inv X pins σ H s) (g:vq H a y (some v)) (ry:RelV y u) (h:∀ w' s',Inv X pins σ H s'->RelV v w'->Q w' s'):
   wpAny (model X.prog X.w) A (getItem (.ref a) u) Q E s:=by
 rcases g with ⟨aO,k,e,ey,l⟩ | ⟨aO,k,b,e,ey,eb,l⟩
 . subst ey
   obtain ⟨z,hd,vs,rel,dd⟩:=Ca I.dz e
   obtain ⟨w',hw,rw'⟩:=tW.some_of (v:=v) (o:=valueAt vs k) (by rw [l];exact rel.val k)
   exact wpAny_getItem_of (B9 ry) dd.mapOf hw (h w' _ (I.tok _) rw')
 . subst ey
   cases (show u=Value.ref b from ry)
   obtain ⟨z,hd,xs,rel,dd⟩:=EY I.dz e
   obtain ⟨w',hw,rw'⟩:=tW.some_of (v:=v) (o:=(atKey xs k).map (·.2)) (by rw [l];exact rel.val k)
   obtain ⟨p,hp,j7⟩:=Option.map_eq_some_iff.mp hw
   refine wpAny_getItem_heap (tupleKind_room_in1 hu) (AL I.dz eb) dd hp ?_
   rw [j7]
   exact h w' _ (I.tok _) rw'
theorem Cb {h':Heap} {t':Nat} {ob:HO} (I:Inv X pins σ H s) (mu:ML (H a)) (hs:Heap.SameBut a s.heap h') (he:∃ q,h'.get? a=some q) (new:dW X.prog X.w (upd H a ob) h' a ob):
   Inv X pins σ (upd H a ob) { s with heap:=h',toks:=t' }:=
 I.write (x:=a) (e:=a) mu (.inl rfl) (fun b q hb z=>(hs.2 b hb).trans z) he new
theorem EZ {P:Program} {w:World} {H':Hp} {h':Heap} {aO:List (Key×V)} {vs:List (Key×Value)} (z:aO.length<=sizeLine) (hd:(a==sysModules)=false) (rel:KV aO vs) (dd:h'.DictOf (dZ P w) a vs):
   dW P w H' h' a (.dK aO):=⟨z,hd,vs,rel,dd⟩
theorem Dg {H':Hp} {Q:Unit->Shared->Prop} (hu:A.units + 1 < cLine) (I:Inv X pins σ H s) (g:AM H a y v H') (ry:RelV y u) (rv:RelV v r) (h:∀ s',Inv X pins σ H' s'->Q () s'):
   wpAny (model X.prog X.w) A (setItem (.ref a) u r) Q E s:=by
 rcases g with ⟨aO,k,e,ey,l,eH⟩ | ⟨aO,k,b,e,ey,eb,l,eH⟩
 . subst ey eH
   obtain ⟨z,hd,vs,rel,dd⟩:=Nd I.dz e
   have hz:vs.length<=sizeLine:=by rw [<- rel.length];exact z
   have hl:(putK aO k v).length<=sizeLine:=by have:=nu aO k v;omega
   refine wpAny_setItem_pairs (hsz:=hz) (B9 ry) dd fun h' dd' hs=>h _ ?_
   have he:∃ q,h'.get? a=some q:=let ⟨q,_,_,hq,_⟩:=dd';⟨q,hq⟩
   exact Cb I (by rw [e];exact True.intro) hs he (EZ hl hd (rel.put k rv) dd')
 . subst ey eH
   cases (show u=Value.ref b from ry)
   obtain ⟨z,hd,xs,rel,dd⟩:=Nf I.dz e
   have hz:xs.length<=sizeLine:=by rw [<- Paired.length rel];exact z
   have hl:(putK aO k v).length<=sizeLine:=by have:=nu aO k v;omega
   refine wpAny_setItem_heap (hsz:=hz) (tupleKind_room_in1 hu) (AL I.dz eb) dd fun h' dd' hs=>h _ ?_
   obtain ⟨q,es,ep,hq,h2,h3,h4,_,h5⟩:=dd'
   refine Cb I (by rw [e];exact True.intro) hs ⟨q,hq⟩ ⟨hl,hd,_,(rel.put k eb rv).keeps fun c ys ec=>?_,q,es,ep,hq,h2,h3,h4,h5⟩
   rw [aV (Jt ec e (fun z=>nomatch z))]
   exact ec
end
section
variable {X:Cx} {pins:List (Addr×Obj)} {σ:St} {H:Hp} {s:Shared} {a:Addr} {aO:List (Key×V)} {k:Key} {u:Value} {A:Around} {E:Value->Shared->Prop}
theorem Ng {Q:Value->Shared->Prop} (I:Inv X pins σ H s) (e:Rd H a (.dK aO)) (h:∀ t s',Inv X pins σ H s'->Q (.int aO.length t) s'):wpAny (model X.prog X.w) A (call (.builtin "len") [.ref a]) Q E s:=by
 obtain ⟨z,hd,vs,rel,dd⟩:=Ca I.dz e
 refine call_len_dict hd dd (by rw [<- rel.length];rw [sizeLine_eq] at z;omega) ?_
 rw [<- rel.length]
 exact h _ _ (I.tok _)
end
def K3 (i:Expr):Prop:=∀ ov iv,subscripted i false ov iv=operate [ov,iv] (getItem ov iv)
theorem Ij {prog:Program} {w:World} {A:Around} {E:Value->Shared->Prop} {s:Shared} {env:Env} {value slice:Expr} {pos:Pos} {T id:String} {Q:Value->Shared->Prop}
   (hl:typeLookup (.type T) "__getitem__"=pure (some (.builtin id))) (hs:K3 slice)
   (h:wpAny (model prog w) A (eval value env) (fun o s₁=>wpAny (model prog w) A (eval slice env) (fun i s₂=>s₂.TypeIs o T/\wpAny (model prog w) A (getItem o i) Q E s₂) E s₁) E s):
   wpAny (model prog w) A (eval (.Subscript value slice pos) env) Q E s:=by
 refine Subscript_ (wpAny_mono h (fun o s₁ h₁=>wpAny_mono h₁ (fun i s₂ h₂=>?_) fun _ _ x=>x) fun _ _ x=>x)
 obtain ⟨hT,h₂⟩:=h₂
 unfold subscriptTail
 refine wpAny_bind ?_
 rw [getitemInPython_of_ne hT.not_modules]
 refine wpAny_bind (wpAny_specialOf hT hl ?_)
 have fin:wpAny (model prog w) A (subscripted slice false o i) (fun r s₃=>wpAny (model prog w) A (letTemporaryGo value o r >>=fun _=>pure r) Q E s₃) E s₂:=by
   rw [hs o i]
   exact wpAny_operating (wpAny_mono h₂ (fun r s₃ h₃=>wpAny_bind (wpAny_letTemporaryGo (wpAny_pure h₃))) fun _ _ x=>x)
 first
   | exact wpAny_pure (wpAny_bind fin)
   | exact wpAny_bind (wpAny_pure (wpAny_bind fin))
   | exact wpAny_bind fin
theorem zB {X:Cx} {pins:List (Addr×Obj)} {σ:St} {H:Hp} {s:Shared} {a:Addr} {y:V} {o:Option V} (I:Inv X pins σ H s) (g:vq H a y o):s.TypeIs (.ref a) "dict":=by
 rcases g with ⟨aO,k,e,_,_⟩ | ⟨aO,k,b,e,_,_,_⟩
 . obtain ⟨_,_,vs,_,dd⟩:=Ca I.dz e
   exact dd.typeIs
 . obtain ⟨_,_,xs,_,dd⟩:=EY I.dz e
   exact dd.typeIs
def zC (td ty:TE):TE:=fun σ H Q=>td σ H fun x H1=>ty σ H1 fun y H2=>∃ a v,x=.ref a/\vq H2 a y (some v)/\Q v H2
def zD (td ty tv:TE):TS:=fun D σ H=>tv σ H fun v H1=>td σ H1 fun x H2=>ty σ H2 fun y H3=>∃ a H4,x=.ref a/\AM H3 a y v H4/\D.nx σ H4
section
variable {X:Cx} {o i e value:Expr} {pos pos' M0:Pos} {td ty tv:TE}
theorem Ik (hu:X.A.units + 1 < cLine) (ho:PE X o td) (hi:PE X i ty) (hs:K3 i):PE X (.Subscript o i pos) (zC td ty):=by
 intro pins s σ H Q I h
 refine Ij PySem.F.slot_dict_getitem.lookup hs (dX (ho pins s σ H _ I h) fun u s1 ⟨x,H1,I1,rx,q1⟩=>dX (hi pins s1 σ H1 _ I1 q1) fun iv s2 ⟨y,H2,I2,ry,a,v,ex,g,q2⟩=>?_)
 subst ex
 obtain rfl:u=Value.ref a:=rx
 exact ⟨zB I2 g,Df hu I2 g ry fun w' s3 I3 rw'=>⟨v,H2,I3,rw',q2⟩⟩
theorem Il (hu:X.A.units + 1 < cLine) (ho:PE X o td) (hi:PE X i ty) (hv:PE X value tv) (hs:swapsWith value (some (.Subscript o i pos')) pos.line X.env=pure false):
   PS X (.Assign [.Subscript o i pos'] value pos) (zD td ty tv):=by
 intro pins s σ H D I h
 refine wpAny_Assign_Subscript (dX (hv pins s σ H _ I h) fun r s1 ⟨v,H1,I1,rv,q1⟩=>dX (ho pins s1 σ H1 _ I1 q1) fun u s2 ⟨x,H2,I2,rx,q2⟩=>dX (hi pins s2 σ H2 _ I2 q2) fun iv s3 ⟨y,H3,I3,ry,a,H4,ex,g,q3⟩=>?_) hs
 subst ex
 obtain rfl:u=Value.ref a:=rx
 exact Dg hu I3 g ry rv fun s4 I4=>⟨σ,H4,I4,q3⟩
end
theorem E2 {P:Program} {w:World} {H:Hp} (h:Heap) (hb:sysModules < h.objs.size):dW P w H (h.push { cls:=.type "dict",data:=.dict #[] }) h.objs.size (.dK []):=
 ⟨Nat.zero_le _,beq_eq_false_iff_ne.mpr (Ne.symm (Nat.ne_of_lt hb)),[],.nil,Heap.DictOf.new h⟩
section
variable {X:Cx} {pos:Pos}
end
section
variable {X:Cx} {pins:List (Addr×Obj)} {σ:St} {H:Hp} {s:Shared} {a:Addr} {y d:V} {u r:Value} {o:Option V} {A:Around} {E:Value->Shared->Prop}
end
section
variable {X:Cx} {o e f:Expr} {apos j6:Pos} {td ty tx:TE}
end
section
variable {X:Cx} {pins:List (Addr×Obj)} {σ:St} {H:Hp} {s:Shared} {a:Addr} {aO:List (Key×V)} {A:Around} {E:Value->Shared->Prop}
end
section
variable {X:Cx} {pins:List (Addr×Obj)} {σ:St} {H:Hp} {s:Shared} {a:Addr} {y:V} {u:Value} {A:Around} {E:Value->Shared->Prop}
end
end L2
namespace Att
open PySem PySem.W PySem.Calls PyProof.Rows
theorem sA {P:Params} {h:Heap}:∀ (ns:List Int) (vs:List Value),WellAll P h vs (ns.map WData.int)->IntsAre vs ns:=by
 intro ns
 induction ns with
 | nil=>
   intro vs w
   rw [List.map_nil] at w
   cases w
   exact .nil
 | cons n ns ih=>
   intro vs w
   rw [List.map_cons] at w
   cases w with
   | cons a b=>
     cases a
     exact .cons _ _ (ih _ b)
theorem Dh {l:OpenLaw} {n:Nat} (hn:l.most=some n) {P:Params} {h:Heap} {args:List WData} {vals:List Value}
   (Im:l.row.toRowW.claim.pre args=true) (SO:WellAll P h vals args):
   ∃ a vs ns,vals=[Value.ref a]/\args=[WData.list (ns.map WData.int)]/\h.get? a=some { cls:=.type "list",data:=.seq vs.toArray }/\IntsAre vs ns/\ns.length<=n:=by
 have hsh:WShape.hasAll [] args [.list .int]=true:=(pre_splitW Im).1
 have hc:l.pre.holds [] { args:=args }=true:=(pre_splitW Im).2
 obtain ⟨d,r,rfl,h1,h2⟩:=hasAllW_cons hsh
 obtain rfl:=hasAllW_nil h2
 obtain ⟨xs,rfl,h3⟩:=hasW_list h1
 obtain ⟨ns,rfl⟩:=items_int h3
 have hlen:ns.length<=n:=by
   unfold OpenLaw.pre at hc
   have h4:(WTm.not (.lt (.lit (.int (n:Int))) (.len (.arg 0)))).holds [] { args:=[.list (ns.map .int)] }=true:=by
     have h4:=(holds_andW hc).1
     rw [hn] at h4
     exact h4
   have h5:=condW_of h4 (w_not (w_lt w_lit (w_len_list (w_arg rfl))))
   rw [List.length_map] at h5
   refine Nat.le_of_not_lt fun q=>?_
   have q':(n:Int) < ((ns.length:Nat):Int):=by omega
   first
     | (rw [decide_eq_true q'] at h5;exact absurd h5 (by decide))
     | (simp at h5;omega)
 cases SO with
 | cons w1 w2=>
   cases w2
   cases w1 with
   | list ho K4=>exact ⟨_,_,ns,rfl,rfl,ho,sA ns _ K4,hlen⟩
theorem Di (l:OpenLaw) (args:List WData):l.row.toRowW.claim.post args (.bool true) args=true:=
 postW_of (r:=l.row.toRowW) (X:=(true==true))
   (show WShape.has [] (.bool true) .bool=true by first | rfl | decide | simp [WShape.has,WShape.arms,WShape.armsAll])
   (show (WTm.eq .res (.lit (.bool true))).value [] { args:=args,res:=some (.bool true),after:=args }=some (.bool (true==true)) from w_eq_bool (w_res rfl) w_lit) rfl
theorem zE {l:OpenLaw} {n:Nat} {q:Program} {loose:List Str} {XP:(Str->Option Value)->Heap->Prop} {YP:World->Heap->Prop} {d:DefRec}
   (hn:l.most=some n) (JD:d.params.defaults=[])
   (call:∀ (w:World) (s₀ s₁:Shared) (mg mb:Str->Option Value) (fa:Addr) (o:Obj) (pm cd doc:Value) (a:Addr) (vs:List Value) (ns:List Int),
     Ground q loose [] XP w s₀ mg mb s₁.heap->YP w s₁.heap->
     s₁.heap.get? fa=some o->o.data=.func (docDef d.name d.params d.body d.scope pm cd doc)->s₁.heap.CodeRec cd d.name->mg d.name=some (.ref fa)->
     s₁.heap.get? a=some { cls:=.type "list",data:=.seq vs.toArray }->IntsAre vs ns->ns.length<=n->s₁.gens=#[]->
     codeAny (model l.prog w) callerA (.call (.ref fa) ⟨[.ref a],[]⟩) (fun r s'=>r=.ok (.ret (.bool true))/\OldK s₁.heap s'.heap/\s'.os=s₁.os/\AllBare s'.gens) s₁):
   WalkO q loose XP YP l.row.toRowW d [] (fun f vs=>PySem.call f vs):=by
 intro w s₀ s₁ mg mb G Y fa o pm cd doc dV kV ho hd Ax hD hmg hg args vals as Im hlay hrd SO hlo
 obtain rfl:dV=.none:=Dflts.none hD JD
 obtain rfl:kV=.none:=Dflts.noKw hD
 obtain ⟨a,vs,ns,rfl,rfl,hobj,hints,hlen⟩:=Dh hn Im SO
 refine enter_call (codeAny_mono (call w s₀ s₁ mg mb fa o pm cd doc a vs ns G Y ho (fd_plain hd) Ax hmg hobj hints hlen hg) fun r s' hq=>?_)
 obtain ⟨rfl,h2,h3,h4⟩:=hq
 exact ⟨.inl ⟨.bool true,.bool true,[],rfl,fun _=>rfl,.bool true,Di l _,fun _=>⟨List.Pairwise.nil,fun _ hm=>(nomatch hm)⟩⟩,h2,h3,h4⟩
section
variable {prog:Program} {w:World} {A:Around} {E:Value->Shared->Prop} {s:Shared} {K:Frag}
end
end Att
namespace L2
open PySem PySem.Spec PyProof.Rows
theorem vX:∀ {vs:List Value} {ns:List Int},IntsAre vs ns->Vals (ns.map V.int) vs
 | _,_,.nil=>.nil
 | _,_,.cons n t h=>.cons ⟨t,rfl⟩ (vX h)
def Io (H:Hp):Prop:=∀ b,H b=none∨∃ o xs,H b=some (.vf o (.lst xs))
theorem E3 {P:Program} {w:World} {K:PySem.W.Frag} {mg mb:Str->Option Value} {CX:vO} {k:Nat} {fa a:Addr} {fd:FuncData} {x:Str} {sp:Sp} {s₁:Shared} {vs:List Value} {ns:List Int}
   (KX:K.In s₁.heap) (Qa:s₁.heap.Ns mainGlobals mg) (hb:s₁.heap.Ns builtinsNs mb) (hbb:∀ x:Str,x≠"__name__"->mb x=bootBuiltins x) (SQ:s₁.heap.NoLimit) (hg:s₁.gens=#[])
   (ha:s₁.heap.get? a=some { cls:=.type "list",data:=.seq vs.toArray }) (hi:IntsAre vs ns) (hl:ns.length<=sizeLine) (hr:jB k callerA)
   (F:∀ base:Heap,K.In base->base.Ns mainGlobals mg->bf P w K mg base CX k fa fd [x] sp) (Nh:∀ (s:Shared) (u:Value),BindsTo s fd ⟨[u],[]⟩ [(x,u)])
   (Hr:∀ H:Hp,Io H->aZ K H a (ns.map V.int)->sp [.ref a] H (fun v _=>v=.bl true) fun _ _ _=>False)
   (SR:∀ H e s',CX [] H s₁ (fun _ _ _=>False) e s'->False):
   codeAny (model P w) callerA (.call (.ref fa) ⟨[.ref a],[]⟩) (fun r s'=>r=.ok (.ret (.bool true))/\OldK s₁.heap s'.heap/\s'.os=s₁.os/\AllBare s'.gens) s₁:=by
 have rv:=vX hi
 have SS:=hi.length
 have core:∀ H:Hp,Io H->aZ K H a (ns.map V.int)->oU P w H s₁.heap->(∀ b,H b≠none->b=a)->(H a≠none->K.lookup a=none)->
     codeAny (model P w) callerA (.call (.ref fa) ⟨[.ref a],[]⟩) (fun r s'=>r=.ok (.ret (.bool true))/\OldK s₁.heap s'.heap/\s'.os=s₁.os/\AllBare s'.gens) s₁:=by
   intro H hO hS dz hA hK
   have Cc:∀ {b:Addr} {o:Obj},s₁.heap.get? b=some o->H b=none->(wJ s₁.heap H).get? b=some o:=fun e n=>Ej e n
   have M3:∀ {b:Addr} {o:Obj} {es:Array DictEntry} {ep:Nat},s₁.heap.get? b=some o->o.data=.dict es ep->H b=none:=fun {b o es ep} e d=>by
     cases q:H b with
     | none=>rfl
     | some u=>
       have e':b=a:=hA b (by rw [q];simp)
       subst e'
       rw [ha] at e;cases e
       have d':Data.seq vs.toArray _=Data.dict es ep:=d
       cases d'
   have Qc:∀ {b:Addr} {m:Str->Option Value},s₁.heap.Ns b m->(wJ s₁.heap H).Ns b m:=fun {b m} ⟨o,es,ep,e,d,r⟩=>⟨o,es,ep,Cc e (M3 e d),d,r⟩
   have hKb:K.In (wJ s₁.heap H):=fun b o e=>Cc (KX b o e) (by
     cases q:H b with
     | none=>rfl
     | some u=>
       have e':b=a:=hA b (by rw [q];simp)
       subst e'
       rw [hK (by rw [q];simp)] at e;cases e)
   have hM:Mod K mg (wJ s₁.heap H):=⟨hKb,Qc Qa,⟨mb,Qc hb,hbb⟩,let ⟨mc,h1,h2⟩:=SQ;⟨mc,Qc h1,h2⟩⟩
   have e0:Ia P w K mg (wJ s₁.heap H) callerA [] s₁ H:=⟨rfl,hM,fun b o e=>Hz e,Nat.le_of_eq (CP _ _),trivial,fun b hb=>absurd (show b∈([]:List Addr) from hb) (by simp),dz,.of_eq hg⟩
   refine codeAny_mono ((F _ hKb (Qc Qa)).run callerA [] s₁ H ⟨[.ref a],[]⟩ [.ref a] [.ref a] _ _ hr e0 (Nh s₁ (.ref a)) (.cons rfl .nil) (Hr H hO hS)) fun r s' h=>?_
   cases r with
   | error e=>exact (SR H e s' h).elim
   | ok fl=>
     cases fl with
     | next=>exact False.elim h
     | brk=>exact False.elim h
     | cont=>exact False.elim h
     | ret u=>
       obtain ⟨v,H',os,bare,un,hok',r',q⟩:=h
       have q':v=.bl true:=q
       subst q'
       obtain rfl:u=Value.bool true:=r'
       refine ⟨rfl,OldK.of_keep fun b o e=>?_,os,bare⟩
       cases q:H b with
       | none=>exact un.keep b o e q (by intro z;exact absurd (show b∈([]:List Addr) from z) (by simp)) (by simp)
       | some u=>
         rcases hO b with z | ⟨ob,xs,z⟩
         . rw [q] at z;cases z
         . have z2:=un.oW b ob _ z
           obtain ⟨e1,_⟩:=dz b _ z
           obtain ⟨e2,_⟩:=hok' b _ z2
           rw [e] at e1;cases e1
           exact e2
 cases hk:K.lookup a with
 | some o=>
   have e:=KX a o hk
   rw [ha] at e
   cases e
   refine core (fun _=>none) (fun _=>.inl rfl) (.inr ⟨_,vs.toArray,_,hk,rfl,rfl,rfl,by rw [List.size_toArray,SS];exact hl,by simpa using rv⟩) (fun b u z=>by have z':(none:Option HO)=some u:=z;cases z') (fun b z=>absurd rfl z) fun z=>absurd rfl z
 | none=>
   refine core (fun b=>if b=a then some (.vf { cls:=.type "list",data:=.seq vs.toArray } (.lst (ns.map V.int))) else none) (fun b=>?_) (.inl (.inr ⟨{ cls:=.type "list",data:=.seq vs.toArray },if_pos rfl⟩)) (fun b u z=>?_) (fun b z=>?_) fun _=>hk
   . by_cases hb:b=a
     . exact .inr ⟨_,_,if_pos hb⟩
     . exact .inl (if_neg hb)
   . by_cases hb:b=a
     . have z':=(if_pos hb).symm.trans z
       cases z'
       subst hb
       exact ⟨ha,by rw [List.length_map];exact hl,vs,_,rv,ha⟩
     . have z':=(if_neg hb).symm.trans z
       cases z'
   . by_cases hb:b=a
     . exact hb
     . exact absurd (if_neg hb) z
end L2
namespace L2
open PySem PySem.Spec PyProof.Rows
theorem Ip {l:PySem.W.OpenLaw} {n k:Nat} {q:Program} {loose:List Str} {XP:(Str->Option Value)->Heap->Prop} {YP:World->Heap->Prop} {d:DefRec} {K:Params->PySem.W.Frag} {CX:World->vO} {sp:World->Sp} {x:Str}
   (hn:l.most=some n) (hn2:n<=sizeLine) (JD:d.params.defaults=[]) (hr:jB k callerA)
   (hY:∀ (w:World) (h:Heap),YP w h->(K w.params).In h)
   (F:∀ (w:World) (mg:Str->Option Value) (fa:Addr) (h:Heap),(K w.params).In h->h.Ns mainGlobals mg->mg d.name=some (.ref fa)->
     ∃ fd:FuncData,(∀ (s:Shared) (u:Value),BindsTo s fd ⟨[u],[]⟩ [(x,u)])/\
       ∀ base:Heap,(K w.params).In base->base.Ns mainGlobals mg->bf l.prog w (K w.params) mg base (CX w) k fa fd [x] (sp w))
   (Hr:∀ (w:World) (H:Hp) (a:Addr) (ns:List Int),ns.length<=n->Io H->aZ (K w.params) H a (ns.map V.int)->sp w [.ref a] H (fun v _=>v=.bl true) fun _ _ _=>False)
   (SR:∀ (w:World) (H:Hp) (s:Shared) (e:Value) (s':Shared),CX w [] H s (fun _ _ _=>False) e s'->False):
   PySem.W.WalkO q loose XP YP l.row.toRowW d [] (fun f vs=>PySem.call f vs):=by
 refine Att.zE hn JD fun w s₀ s₁ mg mb fa o pm cd doc a vs ns G Y ho hd Ax hmg hobj hints hlen hg=>?_
 have KX:=hY w _ Y
 obtain ⟨fd,hb,hF⟩:=F w mg fa _ KX G.T.g hmg
 exact E3 KX G.T.g G.T.b G.T.builtins G.T.nolimit hg hobj hints (Nat.le_trans hlen hn2) hr hF hb (fun H hO hS=>Hr w H a ns hlen hO hS) fun H e s'=>SR w H s₁ e s'
end L2
namespace L2
open PySem PySem.Spec PyProof.Rows
def aB (s:Stmt):Arguments:=match s with
 | .FunctionDef _ a _ _ _ _ _ _ _ _=>a
 | _=>{ posonlyargs:=[],args:=[],vararg:=none,kwonlyargs:=[],kw_defaults:=[],kwarg:=none,defaults:=[] }
def aq (s:Stmt):List Stmt:=match s with
 | .FunctionDef _ _ b _ _ _ _ _ _ _=>b
 | _=>[]
def af (s:Stmt):Scope:=match s with
 | .FunctionDef _ _ _ _ _ _ sc _ _ _=>sc
 | _=>{ kind:=.function,names:=[],isGenerator:=false,isCoroutine:=false }
abbrev eZ:vO:=fun _ _ _ _ _ _=>False
abbrev E0:XK:=fun _ _ _=>False
theorem JH {X:Cx}:Passes eZ X E0:=fun _ _ _ _ _ _ _ h=>h.elim
structure fh (K:PySem.W.Frag) (x qual:Str) (st:Stmt) (f:Addr) (fd:FuncData):Prop where
 ex:∃ (oc:Value) (od:Option Addr) (kV doc pm:Value) (an:Option Addr) (cG ct:Value) (Ie:Array (Option Value)),
   fd=PySem.W.fnOf x qual (aB st) (aq st) (af st) .none kV doc pm an cG ct/\K.lookup f=some ⟨oc,od,.func fd,Ie⟩/\PySem.W.codeIn K cG qual=true
 kp:PySem.W.keepIn K (.ref f)=true
section
variable {P:Program} {w:World} {K:PySem.W.Frag} {mg:Str->Option Value} {base:Heap}
theorem fh.ok {x qual:Str} {st:Stmt} {f:Addr} {fd:FuncData} {N ps:List Str} {k:Nat} {sp:Sp} (F:fh K x qual st f fd) (S:aD N ps (af st)) (len:∀ vs H Q E,sp vs H Q E->vs.length=ps.length)
   (qa:∀ (cG:Value) (A:Around) (outer:List Env) (s:Shared) (H:Hp) (vs:List V) (Q:VK) (E:XK),jB k (A.deeper (envOfC qual (af st) s.heap.objs.size f cG))->sp vs H Q E->
     ∃ t,Av (ng eZ P w K mg base N qual (af st) f cG A outer s H E).Mh (aq st) t/\t { nx:=fun _ H'=>Q .cQ H',rt:=Q } (start N vs) H):bf P w K mg base eZ (k + 1) f fd ps sp:=by
 obtain ⟨oc,od,kV,doc,pm,an,cG,ct,Ie,rfl,lk,Ax⟩:=F.ex
 refine Jz lk Ax S len fun A outer s H vs Q E hr Hr=>?_
 obtain ⟨t,h,q⟩:=qa cG A outer s H vs Q E hr Hr
 exact ⟨t,h.Mh,q⟩
theorem fh.binds {x qual:Str} {st:Stmt} {f:Addr} {fd:FuncData} {ps:List Str} (F:fh K x qual st f fd)
   (h:∀ (kV doc pm:Value) (an:Option Addr) (cG ct:Value) (us:List Value),us.length=ps.length->bindArgs (PySem.W.fnOf x qual (aB st) (aq st) (af st) .none kV doc pm an cG ct) ⟨us,[]⟩=pure (ps.zip us)):Binds K fd ps []:=by
 obtain ⟨oc,od,kV,doc,pm,an,cG,ct,Ie,rfl,lk,Ax⟩:=F.ex
 exact .all (h kV doc pm an cG ct)
theorem aJ {x qual:Str} {st:Stmt} {f:Addr} {oc:Value} {od an:Option Addr} {Ie:Array (Option Value)} {kV doc pm cG ct:Value} (l:K.lookup f=some ⟨oc,od,.func (PySem.W.fnOf x qual (aB st) (aq st) (af st) .none kV doc pm an cG ct),Ie⟩)
   (c:PySem.W.codeIn K cG qual=true) (k:PySem.W.keepIn K (.ref f)=true):fh K x qual st f (PySem.W.fnOf x qual (aB st) (aq st) (af st) .none kV doc pm an cG ct):=⟨⟨oc,od,kV,doc,pm,an,cG,ct,Ie,rfl,l,c⟩,k⟩
end
theorem Dj {n:Nat} (h:n<=1000):n < sizeLine:=Nat.lt_of_le_of_lt h (by decide)
section
variable {X:Cx}
theorem pv (i:Nat) {x:Str} {pos:Pos} (hN:X.N[i]?=some x:=by rfl) (hv:MN X.env.scope x:=by first | exact Or.inl rfl | exact Or.inr (Or.inl rfl) | exact Or.inr (Or.inr rfl)) (hd:(x==("__debug__":Str))=false:=by decide)
   (Ax:(x==("__classdict__":Str))=false:=by decide):PE X (.Name x pos) (Aw i):=Em hN hv hd Ax
end
theorem AN {A B:Prop} (h:A):if true=true then A else B:=by
 rw [if_pos rfl]
 exact h
theorem gO {c A B:Prop} [Decidable c] (h1:c->A) (h2:¬ c->B):if c then A else B:=by
 by_cases h:c
 . rw [if_pos h]
   exact h1 h
 . rw [if_neg h]
   exact h2 h
def qg (H H':Hp):Prop:=∀ b o,H b=some o->H' b=some o
theorem qg.refl (H:Hp):qg H H:=fun _ _ h=>h
theorem qg.trans {H H1 H2:Hp} (a:qg H H1) (b:qg H1 H2):qg H H2:=fun c o h=>b c o (a c o h)
theorem qg.free {H H':Hp} (e:qg H H') {l:Addr} (h:H' l=Option.none):H l=Option.none:=by
 cases q:H l with
 | none=>rfl
 | some o=>
   rw [e l o q] at h
   cases h
theorem qg.seq {K:PySem.W.Frag} {H H':Hp} {a:Addr} {xs:List V} (e:qg H H') (h:aZ K H a xs):aZ K H' a xs:=by
 rcases h with (h | ⟨o,h⟩) | h
 . exact .inl (.inl (e _ _ h))
 . exact .inl (.inr ⟨o,e _ _ h⟩)
 . exact .inr h
section
variable {X:Cx}
theorem Dk:gx X (.builtin "len") (fun xs H Q=>∃ a aO,xs=[V.ref a]/\H a=some (.dK aO)/\Q (.int aO.length) H):=by
 intro pins s σ H xs us Q I r h
 obtain ⟨a,aO,rfl,ha,q⟩:=h
 obtain ⟨u,rfl,ru⟩:=vals1 r
 cases ru
 exact Ng I (.inl ha) fun t s' I'=>⟨.int aO.length,H,I',⟨t,rfl⟩,q⟩
end
section
variable {κ:Type} [DecidableEq κ]
end
end L2
set_option Elab.async false
set_option linter.all false
set_option maxRecDepth 100000
namespace L2
open PySem PySem.Spec PyProof.Rows
section
variable {X:Cx}
def Qd (_ j:Int):Prop:=0 < j/\j < 10 ^ 100
theorem qh:mQ X (binaryOp .FloorDiv) (rI Qd fun i j=>.int (i / j)):=P6 fun i j _ _ _ _ _ hc q=>by
 have h0:0 < j:=hc.1
 have h1:j < 10 ^ 100:=hc.2
 refine floordiv_int (by omega) ?_ (.inl (PyProof.noPylong_of_log2 ?_))
 . rw [Int.fdiv_eq_ediv_of_nonneg _ (by omega)]
   exact q
 . have h2:j.natAbs < 10 ^ 100:=by omega
   have h3:(10:Nat) ^ 100<=2 ^ 9000:=by decide +kernel
   exact (Nat.log2_lt (by omega)).mpr (Nat.lt_of_lt_of_le h2 h3)
end
structure Callee (P:Program) (w:World) (K:PySem.W.Frag) (mg:Str->Option Value) (base:Heap) (x:Str) (k:Nat) (ps:List Str) (sp:Sp):Prop where
 ex:∃ (f:Addr) (fd:FuncData),bf P w K mg base eZ k f fd ps sp/\Binds K fd ps []/\PySem.W.keepIn K (.ref f)=true/\mg x=some (.ref f)
section
variable {X:Cx} {x:Str} {k:Nat} {ps:List Str} {sp:Sp} {e:Expr} {es:List Expr} {t:TA} {p pos:Pos}
theorem E4 (C:Callee X.prog X.w X.K X.mg X.base x k ps sp) (hr:jB k X.A) (hg:Gl X x) (ha:PA X (e::es) t)
   (vP:(x==("__debug__":Str))=false:=by decide) (he:starEach (e::es) X.env=(false,eval e X.env)::starEach es X.env:=by rfl) (vn:(backTo pos (starEach es X.env)).any (·.1)=false:=by rfl):
   PE X (.Call (.Name x p) (e::es) [] pos) (rS sp [] E0 t):=by
 intro pins s σ H Q I h
 obtain ⟨f,fd,F,b,kp,m⟩:=C.ex
 have G:bf X.prog X.w X.K X.mg X.base (fun _ _ _ _ _ _=>False) k f fd ps sp:=F
 exact Ic F hr hg m kp b .nil JH ha vP he vn pins s σ H Q I h
end
end L2
namespace L2
open PySem PySem.Spec PyProof.Rows
def Ni (t u:TS):TS:=fun D σ H=>∃ J:St->Hp->Prop,t { D with nx:=J } σ H/\∀ σ1 H1,J σ1 H1->u D σ1 H1
section
variable {X:Cx} {st:Stmt} {rest:List Stmt} {t u:TS}
theorem Iq (h1:PS X st t) (h2:Av X rest u):Av X (st::rest) (Ni t u):=by
 intro pins s σ H D I h
 obtain ⟨J,h,hJ⟩:=h
 refine wpAny_execs_cons (dX (h1 pins s σ H { D with nx:=J } I h) fun f s1 q=>?_)
 cases f with
 | next=>
   obtain ⟨σ',H',I',q⟩:=q
   exact h2 pins s1 σ' H' D I' (hJ _ _ q)
 | ret v=>exact q
 | brk=>exact q
 | cont=>exact q
end
section
variable {α:Type} {a b c d:α} {r:List α}
theorem uf:uc (a::r) 0=some a:=qc (j:=0) rfl
theorem E5:uc (a::b::r) 1=some b:=qc (j:=1) rfl
theorem E6:uc (a::b::c::r) 2=some c:=qc (j:=2) rfl
theorem E7:uc (a::b::c::d::r) 3=some d:=qc (j:=3) rfl
end
def ug (H:Hp) (p:Addr):Option (List V):=match H p with
 | some (.lst xs)=>some xs
 | some (.tup xs)=>some xs
 | some (.vf _ (.lst xs))=>some xs
 | _=>none
theorem Dl {H:Hp} {p:Addr} {xs:List V} (h:H p=some (.lst xs)):ug H p=some xs:=by unfold ug;rw [h]
theorem Dm {H:Hp} {p:Addr} {xs:List V} (h:H p=some (.tup xs)):ug H p=some xs:=by unfold ug;rw [h]
section
variable {X:Cx}
def K5:R2:=fun x y H Q=>∃ p i xs v,x=.ref p/\y=.int i/\ug H p=some xs/\uc xs i=some v/\Q v H
theorem oq:gx X (.type "int") (fun xs H Q=>∃ k,xs=[.bl k]/\Q (.int (if k=true then 1 else 0)) H):=by
 intro pins s σ H xs us Q I r h
 obtain ⟨k,rfl,q⟩:=h
 exact C4 pins s σ H _ us Q I r (.inr ⟨k,rfl,q⟩)
end
end L2
namespace L2
open PySem PySem.Spec PyProof.Rows
theorem dg:bootBuiltins "len"=some (.builtin "len"):=by decide +kernel
theorem aR:bootBuiltins "isinstance"=some (.builtin "isinstance"):=by decide +kernel
theorem K6:bootBuiltins "max"=some (.builtin "max"):=by decide +kernel
theorem K7:bootBuiltins "min"=some (.builtin "min"):=by decide +kernel
theorem nv:bootBuiltins "all"=some (.builtin "all"):=by decide +kernel
theorem qW:bootBuiltins "int"=some (.type "int"):=by decide +kernel
theorem Ir:bootBuiltins "bool"=some (.type "bool"):=by decide +kernel
theorem dh:bootBuiltins "str"=some (.type "str"):=by decide +kernel
theorem tK:bootBuiltins "list"=some (.type "list"):=by decide +kernel
theorem iM:bootBuiltins "tuple"=some (.type "tuple"):=by decide +kernel
theorem Iu:bootBuiltins "dict"=some (.type "dict"):=by decide +kernel
theorem wU:bootBuiltins "enumerate"=some (.type "enumerate"):=by decide +kernel
theorem K8:bootBuiltins "zip"=some (.type "zip"):=by decide +kernel
end L2
namespace L2
open PySem PySem.Spec PyProof.Rows
theorem SV {CX:vO} {P:Program} {w:World} {K:PySem.W.Frag} {mg:Str->Option Value} {base:Heap} {N:List Str} {qual:Str} {scope:Scope} {f:Addr} {cd:Value} {A:Around} {outer:List Env} {s:Shared} {H:Hp} {E:XK}:
   (ng CX P w K mg base N qual scope f cd A outer s H E).K=K:=rfl
end L2
namespace L2
open PySem PySem.Spec PyProof.Rows
theorem AO:B4 1 0=some 0:=rfl
theorem AQ:B4 2 0=some 0:=rfl
theorem AR:B4 2 1=some 1:=rfl
theorem AS:B4 3 0=some 0:=rfl
theorem AU:B4 3 1=some 1:=rfl
theorem AV:B4 3 2=some 2:=rfl
theorem pI {H:Hp} {p:Addr} {xs:List V}:ug (upd H p (.lst xs)) p=some xs:=Dl ah
theorem pJ {H:Hp} {p:Addr} {xs:List V}:ug (upd H p (.tup xs)) p=some xs:=Dm ah
theorem AW {α:Type} {xs:List α} {k:Int} (h0:0<=k) (h1:k < (xs.length:Int)):∃ v,uc xs k=some v/\v∈xs:=by
 have hk:k.toNat < xs.length:=by omega
 have e:k=((k.toNat:Nat):Int):=by omega
 have q:uc xs ((k.toNat:Nat):Int)=some xs[k.toNat]:=qc (List.getElem?_eq_getElem hk)
 rw [<- e] at q
 exact ⟨_,q,List.getElem_mem hk⟩
theorem E8 {n:Nat} (h:n<=1000):n<=sizeLine:=Nat.le_of_lt (Dj h)
end L2
namespace L2
open PySem PySem.Spec PyProof.Rows
structure SW (Q:VK):Type where
 n:Nat
def Cal (sp:Sp) (vs:List V) (H:Hp) (Q:VK) (_:SW Q) (E:XK):Prop:=sp vs H Q E
theorem AX {sp:Sp} {za:List V} {E:XK} {t:TA} {σ:St} {H:Hp} {Q:VK}:rS sp za E t σ H Q=t σ H (fun vs H1=>Cal sp (vs++za) H1 Q ⟨0⟩ E):=rfl
section
variable {X:Cx} {pos p1 p2:Pos} {j1 j2:Nat}
theorem Iv {a b:Int} (v:Int) (h:decide (0<=b/\b<=1000000/\a.natAbs < 2 ^ 64/\a ^ b.toNat=v)=true:=by decide +kernel):PE X (.BinOp (.Constant (.int a) j1 p1) .Pow (.Constant (.int b) j2 p2) pos) (tC (.int v)):=by
 intro pins s σ H Q I q
 obtain ⟨h1,h2,h3,h4⟩:=of_decide_eq_true h
 refine Jy KH Ay Ay pins s σ H Q I ⟨a,b,rfl,rfl,⟨h1,h2,h3⟩,?_⟩
 show Q (V.int (a ^ b.toNat)) H
 rw [h4]
 exact q
end
end L2
namespace L2
open PySem PySem.Spec PyProof.Rows
theorem qi {H:Hp} {a b:Addr} {o:HO}:upd H a o b=none↔b≠a/\H b=none:=by
 unfold upd
 by_cases h:b=a
 . simp [h]
 . simp [h]
end L2
namespace L2
open PySem PySem.Spec PyProof.Rows
def Loop (J:It) (g:TG) (tb:TS) (D:Ends) (σ:St) (H:Hp):Prop:=∃ W:Nat->Nat->St->Hp->Prop,(∃ m,W 0 m σ H)/\∀ i m σ H,W i m σ H->
 (J.stop i H/\D.nx σ H)∨(J.go i H/\∃ N:St->Hp->Prop,(∀ σ' H',N σ' H'->∃ m',m' < m/\W (i + 1) m' σ' H')/\∀ x H',J.KA i H x H'->g x σ H' fun σ2 H2=>tb { D with nx:=N,ct:=N,bk:=D.nx } σ2 H2)
section
variable {K:PySem.W.Frag} {ta:TA} {tl:TE} {g:TG} {tb:TS} {D:Ends} {σ:St} {H:Hp} {a:Addr} {xs:List V} {lo:Int} {n:Nat}
theorem qX:vj (BU ta) g tb D σ H=ta σ H (fun vs H1=>∃ j:Int,vs=[.int j]/\-(2 ^ 62)<=j/\j < 2 ^ 62/\Loop (BR 0 j.toNat) g tb D σ H1):=rfl
theorem qY:vj (BV ta) g tb D σ H=ta σ H (fun vs H1=>∃ i j:Int,vs=[.int i,.int j]/\(-(2 ^ 62)<=i/\i < 2 ^ 62/\-(2 ^ 62)<=j/\j < 2 ^ 62)/\Loop (BR i (j - i).toNat) g tb D σ H1):=rfl
theorem qZ:vj (BS K tl) g tb D σ H=tl σ H (fun x H1=>∃ a,x=.ref a/\(∃ xs,aZ K H1 a xs)/\Loop (AB K a) g tb D σ H1):=rfl
theorem uh:vj (HQ K tl) g tb D σ H=tl σ H (fun x H1=>∃ a,x=.ref a/\(∃ xs,om K H1 a xs)/\Loop (Mi K a) g tb D σ H1):=rfl
theorem lW (Pv:Nat->St->Hp->Prop) (h0:Pv 0 σ H)
   (hs:∀ i σ H,i < n->Pv i σ H->g (.int (lo + i)) σ H fun σ2 H2=>tb { D with nx:=Pv (i + 1),ct:=Pv (i + 1),bk:=D.nx } σ2 H2) (hd:∀ σ H,Pv n σ H->D.nx σ H):Loop (BR lo n) g tb D σ H:=CZ Pv h0 hs hd
theorem jN (Pv:Nat->St->Hp->Prop) (h0:Pv 0 σ H) (hl:∀ i σ H,i<=xs.length->Pv i σ H->aZ K H a xs)
   (hs:∀ i x σ H,xs[i]?=some x->Pv i σ H->g x σ H fun σ2 H2=>tb { D with nx:=Pv (i + 1),ct:=Pv (i + 1),bk:=D.nx } σ2 H2) (hd:∀ σ H,Pv xs.length σ H->D.nx σ H):Loop (AB K a) g tb D σ H:=ED Pv h0 hl hs hd
end
end L2
set_option Elab.async false
set_option linter.all false
set_option maxRecDepth 100000
namespace L2
open PySem PySem.Spec PyProof.Rows
structure JE (X:Cx) (e:Expr) (t:TE):Prop where h:PE X e t
structure JT (X:Cx) (e:Expr) (t:TT):Prop where h:PT X e t
structure JW (X:Cx) (e:Expr) (t:TT):Prop where h:PW X e t
structure JA (X:Cx) (es:List Expr) (t:TA):Prop where h:PA X es t
structure JS (X:Cx) (st:Stmt) (t:TS):Prop where h:PS X st t
structure JB (X:Cx) (st:List Stmt) (t:TS):Prop where h:Av X st t
structure JG (X:Cx) (e:Expr) (t:TG):Prop where h:PG X e t
structure Iw (X:Cx) (es:List Expr) (t:zo):Prop where h:MV X es t
structure JI (X:Cx) (tg e:Expr) (t:TI):Prop where h:PI X tg e t
structure JO (X:Cx) (e:Option Expr) (t:TO):Prop where h:PO X e t
section
variable {X:Cx} {a b c e o:Expr} {es rest:List Expr} {ta tb tc te to:TE} {t tl:TA} {tA HJ:TT} {pos p p':Pos} {st:Stmt} {Hu Nj:List Stmt} {u v:TS}
theorem ev (i:Nat) {x:Str} (hN:X.N[i]?=some x:=by rfl) (hv:MN X.env.scope x:=by first | exact Or.inl rfl | exact Or.inr (Or.inl rfl) | exact Or.inr (Or.inr rfl)) (hd:(x==("__debug__":Str))=false:=by decide)
   (Ax:(x==("__classdict__":Str))=false:=by decide):JE X (.Name x pos) (Aw i):=⟨Em hN hv hd Ax⟩
theorem ei {i j}:JE X (.Constant (.int i) j pos) (tC (.int i)):=⟨Ay⟩
theorem vY {b j}:JE X (.Constant (.bool b) j pos) (tC (.bl b)):=⟨MQ⟩
theorem i8 {j}:JE X (.Constant .none j pos) (tC .cQ):=⟨Kl⟩
theorem aS {x j}:JE X (.Constant (.str x) j pos) (tC (.str x)):=⟨En⟩
theorem jt {x:Str} {v:V} {u:Value} (hg:Gl X x) (hm:X.mg x=some u) (r:RelV v u) (hd:(x==("__debug__":Str))=false:=by decide):JE X (.Name x pos) (tC v):=⟨HG hg hm r hd⟩
theorem lX {x:Str} {n:String} (hg:Gl X x) (hm:X.mg x=none) (hv:bootBuiltins x=some (.type n)) (hn:x≠"__name__":=by decide) (hd:(x==("__debug__":Str))=false:=by decide):JE X (.Name x pos) (tC (.ty n)):=⟨HH hg hm hv rfl hn hd⟩
theorem cT {op:Operator} {r:R2} (ho:mQ X (binaryOp op) r) (ha:JE X a ta) (hb:JE X b tb):JE X (.BinOp a op b pos) (EE r ta tb):=⟨Jy ho ha.h hb.h⟩
theorem ja {a b:Int} {j1 j2:Nat} {p1 p2:Pos} (v:Int) (h:decide (0<=b/\b<=1000000/\a.natAbs < 2 ^ 64/\a ^ b.toNat=v)=true:=by decide +kernel):JE X (.BinOp (.Constant (.int a) j1 p1) .Pow (.Constant (.int b) j2 p2) pos) (tC (.int v)):=⟨Iv v h⟩
theorem eun {op:UnaryOp} {r:V->Hp->VK->Prop} (ho:P5 X (unaryOp op) r) (ha:JE X a ta):JE X (.UnaryOp op a pos) (MW r ta):=⟨MX ho ha.h⟩
theorem SX (ha:JE X a ta):JE X (.UnaryOp .Not a pos) (zj ta):=⟨Kr ha.h⟩
theorem lu {op} (h:JE X a ta):JE X (.BoolOp op [a] pos) ta:=⟨Ko h.h⟩
theorem ju (ha:JE X a ta) (hb:JE X (.BoolOp .And (b::rest) pos) tb):JE X (.BoolOp .And (a::b::rest) pos) (zh ta tb):=⟨Kq ha.h hb.h⟩
theorem eor (ha:JE X a ta) (hb:JE X (.BoolOp .Or (b::rest) pos) tb):JE X (.BoolOp .Or (a::b::rest) pos) (Er ta tb):=⟨MS ha.h hb.h⟩
theorem Hv (hc:JT X c tA) (ha:JE X a ta) (hb:JE X b tb):JE X (.IfExp c a b pos) (MT tA ta tb):=⟨Es hc.h ha.h hb.h⟩
theorem kW {op:CmpOp} {r:R2} (ho:mQ X (compareOp op) r) (ha:JE X a ta) (hb:JE X b tb) (hm:behindInMarks op b=false):JE X (.Compare a [op] [b] pos) (EE r ta tb):=⟨HW ho ha.h hb.h hm⟩
theorem K9 {op KI:CmpOp} {r r':R2} (ho:mQ X (compareOp op) r) (El:mQ X (compareOp KI) r') (ha:JE X a ta) (hb:JE X b tb) (hc:JE X c tc)
   (hm:lastMarks [op,KI] [b,c]=false:=by with_unfolding_all rfl):JE X (.Compare a [op,KI] [b,c] pos) (t8 r r' ta tb tc):=⟨EJ ho El ha.h hb.h hc.h hm⟩
theorem iJ {r:R2} (hr:Mk X r) (ha:JE X a ta) (hb:JE X b tb) (hs:B6 b):JE X (.Subscript a b pos) (EE r ta tb):=⟨M6 hr ha.h hb.h hs⟩
theorem gw {r:V->Option Int->Option Int->Hp->VK->Prop} {lo hi:Option Expr} {tl th:TO} (hr:P9 X r) (he:JE X e te) (hl:JO X lo tl) (hu:JO X hi th):JE X (.Subscript e (.Slice lo hi none p) pos) (M5 r te tl th):=⟨ER hr he.h hl.h hu.h⟩
theorem au {x:Str} {k:Nat} {ps:List Str} {sp:Sp} (C:Callee X.prog X.w X.K X.mg X.base x k ps sp) (hr:jB k X.A) (hg:Gl X x) (ha:JA X (e::es) t)
   (vP:(x==("__debug__":Str))=false:=by decide) (he:starEach (e::es) X.env=(false,eval e X.env)::starEach es X.env:=by rfl) (vn:(backTo pos (starEach es X.env)).any (·.1)=false:=by rfl):
   JE X (.Call (.Name x p) (e::es) [] pos) (rS sp [] E0 t):=⟨E4 C hr hg ha.h vP he vn⟩
theorem aU {x:Str} {id:String} {r:List V->Hp->VK->Prop} (hc:gx X (.builtin id) r) (hg:Gl X x) (hm:X.mg x=none) (hv:bootBuiltins x=some (.builtin id)) (ha:JA X (e::es) t) (hn:x≠"__name__":=by decide) (vP:(x==("__debug__":Str))=false:=by decide)
   (he:starEach (e::es) X.env=(false,eval e X.env)::starEach es X.env:=by rfl) (vn:(backTo pos (starEach es X.env)).any (·.1)=false:=by rfl):JE X (.Call (.Name x p) (e::es) [] pos) (KR r t):=⟨EO hc hg hm hv ha.h hn vP he vn⟩
theorem bR {x:Str} {T:String} {r:List V->Hp->VK->Prop} (hc:gx X (.type T) r) (hg:Gl X x) (hm:X.mg x=none) (hv:bootBuiltins x=some (.type T)) (ha:JA X (e::es) t) (hn:x≠"__name__":=by decide) (vP:(x==("__debug__":Str))=false:=by decide)
   (he:starEach (e::es) X.env=(false,eval e X.env)::starEach es X.env:=by rfl) (vn:(backTo pos (starEach es X.env)).any (·.1)=false:=by rfl):JE X (.Call (.Name x p) (e::es) [] pos) (KR r t):=⟨C9 hc hg hm hv ha.h hn vP he vn⟩
theorem La {T id:String} {name:Str} {r:V->List V->Hp->VK->Prop} {apos j6:Pos} (pa:PlainAttrs T) (slot:Slot T name id) (KZ:typeOf (.builtin id)=pure (.type "method_descriptor")) (hm:ES X id r) (ho:JE X o to)
   (ud:attributeBase o name X.env (eval o X.env)=eval o X.env:=by rfl) (ue:(apos.endLine==j6.line)=true:=by rfl):JE X (.Call (.Attribute o name apos) [] [] j6) (EV X.K T r to):=⟨KY pa slot KZ hm ho.h ud ue⟩
theorem lA {T id:String} {name:Str} {r:V->List V->Hp->VK->Prop} {apos j6:Pos} (pa:PlainAttrs T) (slot:Slot T name id) (KZ:typeOf (.builtin id)=pure (.type "method_descriptor")) (hm:ES X id r) (ho:JE X o to) (ha:JA X (e::es) t)
   (ud:attributeBase o name X.env (eval o X.env)=eval o X.env:=by rfl)
   (K0:((backTo j6 (starEach (e::es) X.env)).all (fun x=>!x.1)&&(backToKw j6 (keywordEach [] X.env)).all (fun x=>x.1.isSome)
     &&decide ((e::es).length + ([]:List Keyword).length + (if ([]:List Keyword).isEmpty then 0 else 1) < 30))=true:=by rfl)
   (ue:(apos.endLine==j6.line)=true:=by rfl) (hs:starEach (e::es) X.env=(false,eval e X.env)::starEach es X.env:=by rfl) (AJ:(backTo j6 (starEach es X.env)).any (·.1)=false:=by rfl):
   JE X (.Call (.Attribute o name apos) (e::es) [] j6) (M8 X.K T r to t):=⟨M9 pa slot KZ hm ho.h ha.h ud K0 ue hs AJ⟩
theorem ai:JA X [] EL:=⟨EM⟩
theorem aa (ha:JE X e te) (hr:JA X es t) (hs:starEach (e::es) X.env=(false,eval e X.env)::starEach es X.env:=by rfl):JA X (e::es) (zw te t):=⟨B0 ha.h hr.h hs⟩
theorem cj {op:CmpOp} {r:R2} (ho:mQ X (compareOp op) r) (ha:JE X a ta) (hb:JE X b tb) (hm:behindInMarks op b=false):JT X (.Compare a [op] [b] pos) (zv (EE r ta tb)):=⟨HX ho ha.h hb.h hm⟩
theorem gy (h:JE X e te) (he:∀ whole,isTrue e X.env whole=(do let v <- whole;standAt e.pos;holding [v] (truthy v)):=by intro _;rfl):JT X e (tB te):=⟨Km h.h he⟩
theorem Lb (ha:JE X a ta) (he:∀ whole,isTrue a X.env whole=(do let v <- whole;standAt a.pos;holding [v] (truthy v))):
   JT X a (fun σ H Q=>ta σ H fun x H'=>∃ k,HY X.K x H' k/\Q k H'):=⟨EK ha.h he⟩
theorem jd (ha:JT X a tA):JT X (.UnaryOp .Not a pos) (Ep tA):=⟨Kn ha.h⟩
theorem tw (h:JW X e tA):JT X e tA:=⟨PW.pt h.h⟩
theorem qj (ha:JT X a tA):JW X (.BoolOp .And [a] pos) tA:=⟨pw_and1 ha.h⟩
theorem pK (ha:JT X a tA):JW X (.BoolOp .Or [a] pos) tA:=⟨pw_or1 ha.h⟩
theorem wV (ha:JT X a tA) (hb:JW X (.BoolOp .And (b::rest) pos) HJ):JW X (.BoolOp .And (a::b::rest) pos) (Eo tA HJ):=⟨pw_and ha.h hb.h⟩
theorem wW (ha:JT X a tA) (hb:JW X (.BoolOp .Or (b::rest) pos) HJ):JW X (.BoolOp .Or (a::b::rest) pos) (MR tA HJ):=⟨pw_or ha.h hb.h⟩
theorem cY:JB X [] zl:=⟨HK⟩
theorem av (h1:JS X st u) (h2:JB X Hu v):JB X (st::Hu) (Et u v):=⟨Eu h1.h h2.h⟩
theorem aK (h1:JS X st u):JB X [st] u:=⟨HL h1.h⟩
theorem wX (h1:JS X st u) (h2:JB X Hu v):JB X (st::Hu) (Ni u v):=⟨Iq h1.h h2.h⟩
theorem jc (he:JE X e te) (hs:swapsWith e none pos.line X.env=pure false:=by rfl):JS X (.Expr e pos) (zm te):=⟨HM he.h hs⟩
theorem aW (he:JE X e te):JS X (.Return (some e) pos) (Ew te):=⟨Ks he.h⟩
theorem jD (hc:JT X c tA) (ha:JB X Hu u) (hb:JB X Nj v):JS X (.If c Hu Nj pos) (Ey tA u v):=⟨MU hc.h ha.h hb.h⟩
theorem sset {i:Nat} {x:Str} (hN:X.N.Nodup) (hi:X.N[i]?=some x) (hx:Loc X.env.scope x) (he:JE X e te) (hs:swapsWith e (some (.Name x p)) pos.line X.env=pure false:=by rfl) (hf:X.fn x=true∨X.env.scope.names.lookup x=some .local:=by first | exact .inl rfl | exact .inr rfl | assumption):
   JS X (.Assign [.Name x p] e pos) (zp te (fH i)):=⟨Kz hN hi hx he.h hs hf⟩
theorem i9 {tg:Expr} {g:TG} (he:JE X e te) (hg:JG X tg g) (hs:swapsWithSole [tg] e pos.line X.env=pure false:=by rfl) (hw:swappedStores [tg] e X.env=pure none:=by rfl)
   (h1:(assignEach [tg] X.env).map (·.2)=[assign tg X.env]:=by rfl):JS X (.Assign [tg] e pos) (zp te g):=⟨Ky he.h hg.h hs hw h1⟩
theorem um {tg iter:Expr} {wi:TI} {g:TG} (hp:PassesOwn (model X.prog X.w) X.A X.env X.xe) (hc:X.calm=true) (hi:JI X tg iter wi) (hg:JG X tg g) (hb:JB X Hu u)
   (hs:∀ x,foldedSetIterable iter X.env x=pure x:=by intro _;rfl):JS X (.For tg iter Hu [] pos) (vj wi g u):=⟨KD hp hc hi.h hg.h hb.h hs⟩
theorem Lc (hp:PassesOwn (model X.prog X.w) X.A X.env X.xe) (hc:JT X c tA) (hb:JB X Hu u):JS X (.While c Hu [] pos) (AA tA u):=⟨EB hp hc.h hb.h⟩
theorem aA {i:Nat} {x:Str} (hN:X.N.Nodup) (hi:X.N[i]?=some x) (hx:Loc X.env.scope x) (hf:X.fn x=true∨X.env.scope.names.lookup x=some .local:=by first | exact .inl rfl | exact .inr rfl | assumption):JG X (.Name x pos) (fH i):=⟨BQ hN hi hx hf⟩
theorem Ld {i:Expr} {ti:TE} {t:HN} (ho:JE X o to) (hi:JE X i ti) (hs:Ku X t)
   (ha:∀ v,assign (.Subscript o i pos) X.env v=(do
     let ov <- holding [v] (eval o X.env)
     let iv <- holding [v,ov] (eval i X.env)
     standAt pos
     holding [v,ov,iv] (setItem ov iv v)
     release [v,ov,iv] []):=by intro _;rfl):JG X (.Subscript o i pos) (EA to ti t):=⟨Kw ho.h hi.h hs ha⟩
theorem gA:Iw X [] CS:=⟨HP⟩
theorem aH {t:TG} {u:zo} (h1:JG X e t) (h2:Iw X es u) (hs:(assignEach (e::es) X.env).map (·.2)=assign e X.env::(assignEach es X.env).map (·.2):=by rfl):Iw X (e::es) (rR t u):=⟨Ez h1.h h2.h hs⟩
theorem qk {tg:Expr} (hg:Gl X "range") (hm:X.mg "range"=none) (ha:JA X [a] t) (hs:starEach [a] X.env=[(false,eval a X.env)]:=by rfl):JI X tg (.Call (.Name "range" p) [a] [] pos) (BU t):=⟨CV hg hm ha.h hs⟩
theorem Iz {tg:Expr} (hg:Gl X "range") (hm:X.mg "range"=none) (ha:JA X [a,b] t) (hs:starEach [a,b] X.env=[(false,eval a X.env),(false,eval b X.env)]:=by rfl) (Mj:starEach [b] X.env=[(false,eval b X.env)]:=by rfl):
   JI X tg (.Call (.Name "range" p) [a,b] [] pos) (BV t):=⟨CW hg hm ha.h hs Mj⟩
theorem cI {tg l:Expr} (hl:JE X l te):JI X tg l (BS X.K te):=⟨HR hl.h⟩
theorem Nk {tg l:Expr} (hl:JE X l te):JI X tg l (HQ X.K te):=⟨KC hl.h⟩
theorem jE:JO X none qb:=⟨Ig⟩
theorem jF (h:JE X e te):JO X (some e) (zz te):=⟨Ih h.h⟩
end
section
variable {P:Program} {w:World} {K:PySem.W.Frag} {mg:Str->Option Value} {base:Heap}
theorem fh.gP {x qual:Str} {st:Stmt} {f:Addr} {fd:FuncData} {N ps:List Str} {k:Nat} {sp:Sp} (F:fh K x qual st f fd) (S:aD N ps (af st)) (len:∀ vs H Q E,sp vs H Q E->vs.length=ps.length)
   (qa:∀ (cG:Value) (A:Around) (outer:List Env) (s:Shared) (H:Hp) (vs:List V) (Q:VK) (E:XK),jB k (A.deeper (envOfC qual (af st) s.heap.objs.size f cG))->sp vs H Q E->
     ∃ t,JB (ng eZ P w K mg base N qual (af st) f cG A outer s H E).Mh (aq st) t/\t { nx:=fun _ H'=>Q .cQ H',rt:=Q } (start N vs) H):bf P w K mg base eZ (k + 1) f fd ps sp:=
 F.ok S len fun cG A outer s H vs Q E hr h=>let ⟨t,a,b⟩:=qa cG A outer s H vs Q E hr h;⟨t,a.h,b⟩
end
end L2
set_option Elab.async false
set_option linter.all false
set_option maxRecDepth 100000
namespace L2
open PySem PySem.Spec PyProof.Rows
mutual
def Is (K:PySem.W.Frag) (H:Hp):PyData->V->Prop
 | .none,v=>v=.cQ
 | .bool b,v=>v=.bl b
 | .int i,v=>v=.int i
 | .str x,v=>v=.str x
 | .list ds,v=>∃ a vs,v=.ref a/\aZ K H a vs/\cy K H ds vs
 | .tuple ds,v=>∃ a vs,v=.ref a/\om K H a vs/\cy K H ds vs
 | .dict _,_=>False
def cy (K:PySem.W.Frag) (H:Hp):List PyData->List V->Prop
 | [],vs=>vs=[]
 | d::ds,vs=>∃ v r,vs=v::r/\Is K H d v/\cy K H ds r
end
section
variable {X:Cx} {pins:List (Addr×Obj)} {σ:St} {H:Hp} {s:Shared}
mutual
theorem Is.reads (I:Inv X pins σ H s):∀ {d:PyData} {v:V} {u:Value},Is X.K H d v->RelV v u->∃ as,Reads s.heap u d as
 | .none,v,u,h,r=>by unfold Is at h;subst h;cases r;exact ⟨_,.none⟩
 | .bool b,v,u,h,r=>by unfold Is at h;subst h;cases r;exact ⟨_,.bool b⟩
 | .int i,v,u,h,r=>by unfold Is at h;subst h;obtain ⟨t,rfl⟩:=r;exact ⟨_,.int i t⟩
 | .str x,v,u,h,r=>by unfold Is at h;subst h;obtain ⟨t,rfl⟩:=r;exact ⟨_,.str x t⟩
 | .list ds,v,u,h,r=>by
   unfold Is at h
   obtain ⟨a,vs,rfl,hs,ha⟩:=h
   cases r
   obtain ⟨its,rv,⟨o,n,e,hc,_,hd⟩,_⟩:=I.list hs
   obtain ⟨as,q⟩:=cy.reads I ha rv
   exact ⟨_,.list e hc hd (by simpa using q)⟩
 | .tuple ds,v,u,h,r=>by
   unfold Is at h
   obtain ⟨a,vs,rfl,hs,ha⟩:=h
   cases r
   obtain ⟨its,rv,⟨o,e,hc,n,hd⟩,_⟩:=I.tuple hs
   obtain ⟨as,q⟩:=cy.reads I ha rv
   exact ⟨_,.tuple e hc hd (by simpa using q)⟩
 | .dict _,v,u,h,r=>by unfold Is at h;exact h.elim
theorem cy.reads (I:Inv X pins σ H s):∀ {ds:List PyData} {vs:List V} {us:List Value},cy X.K H ds vs->Vals vs us->∃ as,ReadsAll s.heap us ds as
 | [],vs,us,h,r=>by unfold cy at h;subst h;cases r;exact ⟨_,.nil⟩
 | d::ds,vs,us,h,r=>by
   unfold cy at h
   obtain ⟨v,rs,rfl,h1,h2⟩:=h
   cases r with
   | cons r1 r2=>
     obtain ⟨as,q1⟩:=Is.reads I h1 r1
     obtain ⟨bs,q2⟩:=cy.reads I h2 r2
     exact ⟨_,.cons q1 q2⟩
end
end
section
variable {X:Cx}
def IA (K:PySem.W.Frag) (neg:Bool):R2:=fun x y H Q=>∃ d e,Is K H d x/\Is K H e y/\SeqAt.shaped d=true/\SeqAt.shaped e=true/\Q (.bl (if neg=true then !PyData.eqv d e else PyData.eqv d e)) H
theorem AY (hu:X.A.units + 64 < cLine):mQ X (compareOp .Eq) (IA X.K false):=by
 intro pins s σ H x y v u Q I rx ry h
 obtain ⟨d,e,hd,he,sd,se,q⟩:=h
 obtain ⟨as,ra⟩:=hd.reads I rx
 obtain ⟨bs,rb⟩:=he.reads I ry
 exact SeqAt.compareEq_shaped ra rb sd se hu ⟨.bl _,H,I,rfl,q⟩
end
mutual
theorem Is.same {K:PySem.W.Frag} {H H':Hp} (h:qg H H'):∀ {d:PyData} {v:V},Is K H d v->Is K H' d v
 | .none,v,q=>by unfold Is at q ⊢;exact q
 | .bool b,v,q=>by unfold Is at q ⊢;exact q
 | .int i,v,q=>by unfold Is at q ⊢;exact q
 | .str x,v,q=>by unfold Is at q ⊢;exact q
 | .list ds,v,q=>by
   unfold Is at q ⊢
   obtain ⟨a,vs,e,hs,ha⟩:=q
   exact ⟨a,vs,e,h.seq hs,cy.same h ha⟩
 | .tuple ds,v,q=>by
   unfold Is at q ⊢
   obtain ⟨a,vs,e,hs,ha⟩:=q
   refine ⟨a,vs,e,?_,cy.same h ha⟩
   rcases hs with (hs | ⟨o,hs⟩) | hs
   . exact .inl (.inl (h _ _ hs))
   . exact .inl (.inr ⟨o,h _ _ hs⟩)
   . exact .inr hs
 | .dict _,v,q=>by unfold Is at q;exact q.elim
theorem cy.same {K:PySem.W.Frag} {H H':Hp} (h:qg H H'):∀ {ds:List PyData} {vs:List V},cy K H ds vs->cy K H' ds vs
 | [],vs,q=>by unfold cy at q ⊢;exact q
 | d::ds,vs,q=>by
   unfold cy at q ⊢
   obtain ⟨v,r,e,h1,h2⟩:=q
   exact ⟨v,r,e,Is.same h h1,cy.same h h2⟩
end
end L2
set_option Elab.async false
set_option linter.all false
set_option maxRecDepth 100000
namespace L2
open PySem PySem.Spec PyProof.Rows
theorem E9:∀ {u:Value} {x:V},zk u=some x->RelV x u:=by
 intro u x h
 cases u <;> simp only [zk,Option.some.injEq] at h <;> first | (subst h;first | rfl | exact ⟨_,rfl⟩) | cases h
theorem Fb:∀ {us:List Value} {xs:List V},us.mapM zk=some xs->Vals xs us:=by
 intro us
 induction us with
 | nil=>intro xs h;simp at h;subst h;exact .nil
 | cons u us ih=>
   intro xs h
   rw [List.mapM_cons] at h
   cases e1:zk u with
   | none=>rw [e1] at h;simp at h
   | some x=>
     cases e2:us.mapM zk with
     | none=>rw [e1,e2] at h;simp at h
     | some ys=>
       rw [e1,e2] at h
       simp at h
       subst h
       exact .cons (E9 e1) (ih e2)
def lB (K:PySem.W.Frag) (a:Addr):Option (List V):=match K.lookup a with
 | some ⟨.type n,_,.seq its _,_⟩=>if n="tuple" then (if its.size<=sizeLine then its.toList.mapM zk else none) else none
 | _=>none
theorem Cd {K:PySem.W.Frag} {H:Hp} {a:Addr} {xs:List V} (h:lB K a=some xs):om K H a xs:=by
 unfold lB at h
 split at h
 . next n dd its k sl e=>
   by_cases h1:n="tuple"
   . rw [if_pos h1] at h
     by_cases h2:its.size<=sizeLine
     . rw [if_pos h2] at h
       subst h1
       exact .inr ⟨_,its,k,e,rfl,rfl,h2,Fb h⟩
     . rw [if_neg h2] at h;cases h
   . rw [if_neg h1] at h;cases h
 . cases h
def tupQ (K:PySem.W.Frag) (H:Hp) (a:Addr):Option (List V):=match H a with
 | some (.tup xs)=>some xs
 | some _=>none
 | none=>lB K a
def ql (K:PySem.W.Frag) (H:Hp) (a:Addr):Option (List V):=match H a with
 | some (.lst xs)=>some xs
 | some (.tup xs)=>some xs
 | some (.vf _ (.lst xs))=>some xs
 | some _=>none
 | none=>lB K a
section
variable {K:PySem.W.Frag} {H H':Hp} {a b:Addr} {xs:List V} {o:HO}
theorem gD (h:tupQ K H a=some xs):om K H a xs:=by
 unfold tupQ at h
 split at h
 . next e=>cases h;exact .inl (.inl e)
 . cases h
 . exact Cd h
theorem tL (h:ql K H a=some xs):aZ K H a xs∨om K H a xs:=by
 unfold ql at h
 split at h
 . next e=>cases h;exact .inl (.inl (.inl e))
 . next e=>cases h;exact .inr (.inl (.inl e))
 . next e=>cases h;exact .inl (.inl (.inr ⟨_,e⟩))
 . cases h
 . exact .inr (Cd h)
theorem br (h:tupQ K H a=some xs):ql K H a=some xs:=by
 unfold tupQ at h
 unfold ql
 split at h
 . next e=>rw [e];exact h
 . cases h
 . next e=>rw [e];exact h
theorem bC (h:H a=some (.lst xs)):ql K H a=some xs:=by unfold ql;rw [h]
theorem Fc (h:H a=some (.tup xs)):ql K H a=some xs:=by unfold ql;rw [h]
theorem zF (h:H a=some (.tup xs)):tupQ K H a=some xs:=by unfold tupQ;rw [h]
theorem rj:ql K (upd H a (.lst xs)) a=some xs:=bC ah
theorem rm:ql K (upd H a (.tup xs)) a=some xs:=Fc ah
theorem aN:tupQ K (upd H a (.tup xs)) a=some xs:=zF ah
theorem IB (h:b≠a):tupQ K (upd H a o) b=tupQ K H b:=by unfold tupQ;rw [aV h]
structure Ext (K:PySem.W.Frag) (H H':Hp):Prop where
 same:qg H H'
 mod:∀ a xs,H a=none->lB K a=some xs->H' a=none
theorem Ext.refl:Ext K H H:=⟨qg.refl H,fun _ _ h _=>h⟩
theorem Ext.trans {H1 H2:Hp} (x:Ext K H H1) (y:Ext K H1 H2):Ext K H H2:=⟨x.same.trans y.same,fun a xs h k=>y.mod a xs (x.mod a xs h k) k⟩
theorem Ext.tup (x:Ext K H H') (h:tupQ K H a=some xs):tupQ K H' a=some xs:=by
 unfold tupQ at h ⊢
 split at h
 . next e=>rw [x.same _ _ e];exact h
 . cases h
 . next e=>rw [x.mod a xs e h];exact h
end
section
variable {X:Cx}
def IC (K:PySem.W.Frag):R2:=fun x y H Q=>∃ p i xs v,x=.ref p/\y=.int i/\ql K H p=some xs/\uc xs i=some v/\Q v H
theorem ck:Mk X (IC X.K):=by
 intro value slice pins s σ H x y v u Q I rx ry h hs
 obtain ⟨p,i,xs,z,rfl,rfl,hq,he,q⟩:=h
 rcases tL (K:=X.K) hq with h1 | h1
 . exact B7 value slice pins s σ H _ _ v u Q I rx ry ⟨p,xs,i,z,rfl,rfl,h1,he,q⟩ hs
 . exact KS value slice pins s σ H _ _ v u Q I rx ry ⟨p,xs,i,z,rfl,rfl,h1,he,q⟩ hs
theorem bH:gx X (.builtin "len") (fun xs H Q=>∃ p ys,xs=[.ref p]/\ql X.K H p=some ys/\Q (.int ys.length) H):=by
 intro pins s σ H xs us Q I r h
 obtain ⟨p,ys,rfl,hq,q⟩:=h
 exact lV pins s σ H _ us Q I r ⟨p,ys,rfl,tL hq,q⟩
end
end L2
namespace L2
open PySem PySem.Spec PyProof.Rows
def new (K:PySem.W.Frag) (H:Hp) (p:Addr):Prop:=H p=none/\lB K p=none
theorem qo {K:PySem.W.Frag} {H:Hp} {a p:Addr} {o:HO}:new K (upd H a o) p↔p≠a/\new K H p:=by
 unfold new
 rw [qi,and_assoc]
theorem vZ {K:PySem.W.Frag} {a:Addr} (h:K.lookup a=none):lB K a=none:=by unfold lB;rw [h]
section
variable {X:Cx} {es:List Expr} {t:TA} {pos:Pos} {pins:List (Addr×Obj)} {σ:St} {H:Hp} {s:Shared}
theorem Inv.new (I:Inv X pins σ H s):L2.new X.K H s.heap.objs.size:=by
 refine ⟨I.dz.fresh (Nat.le_refl _),vZ ?_⟩
 cases e:X.K.lookup s.heap.objs.size with
 | none=>rfl
 | some o=>exact absurd (Heap.lt_size (I.sX _ o e)) (Nat.lt_irrefl _)
def zG (K:PySem.W.Frag) (t:TA):TE:=fun σ H Q=>t σ H fun xs H1=>xs.length<=sizeLine/\∀ p,L2.new K H1 p->Q (.ref p) (upd H1 p (.tup xs))
def Ce (K:PySem.W.Frag) (t:TA):TE:=fun σ H Q=>t σ H fun xs H1=>xs.length<=sizeLine/\∀ p,L2.new K H1 p->Q (.ref p) (upd H1 p (.lst xs))
theorem dN {k} (h:JA X es t):JE X (.Tuple es k pos) (zG X.K t):=⟨by
 intro pins s σ H Q I hq
 refine wpAny_Tuple_spliced (dX (h.h pos pins s σ H _ I hq) fun us s1 ⟨xs,H1,I1,r,z,q⟩=>⟨by rw [<- r.length];exact z,?_⟩)
 refine ⟨.ref s1.heap.objs.size,upd H1 s1.heap.objs.size (.tup xs),I1.laid (t':=s1.toks) (fun b u e=>Heap.get?_push_of_some _ e) (Nat.le_refl _) ?_,rfl,q _ I1.new⟩
 exact ⟨z,us,r,⟨_,Heap.get?_push_size _ rfl,rfl,_,rfl⟩⟩⟩
theorem bO (h:JA X es t):JE X (.List es pos) (Ce X.K t):=⟨by
 intro pins s σ H Q I hq
 refine wpAny_List_spliced (dX (h.h pos pins s σ H _ I hq) fun us s1 ⟨xs,H1,I1,r,z,q⟩=>⟨by rw [<- r.length];exact z,?_⟩)
 refine ⟨.ref s1.heap.objs.size,upd H1 s1.heap.objs.size (.lst xs),I1.laid (t':=s1.toks) (fun b u e=>Heap.get?_push_of_some _ e) (Nat.le_refl _) ?_,rfl,q _ I1.new⟩
 exact ⟨z,us,0,r,Heap.get?_push_size _ rfl⟩⟩
def Cf (K:PySem.W.Frag):R2:=fun x y H Q=>∃ l b xs zs,x=.ref l/\y=.ref b/\H l=some (.lst xs)/\H b=some (.lst zs)/\xs.length + zs.length<=sizeLine/\∀ p,L2.new K H p->Q (.ref p) (upd H p (.lst (xs++zs)))
theorem fU:mQ X (binaryOp .Add) (Cf X.K):=by
 intro pins s σ H x y v u Q I rx ry h
 obtain ⟨l,b,xs,zs,rfl,rfl,hH,hB,hz,q⟩:=h
 cases rx
 cases ry
 obtain ⟨z,its,n,r,hl,e⟩:=I.EW hH
 obtain ⟨z2,its2,n2,r2,K1,e2⟩:=I.EW hB
 refine PySem.P.add_list e e2 ?_ (by rw [List.size_toArray,List.size_toArray];omega)
 have ea:its.toArray++its2.toArray=(its++its2).toArray:=by simp
 rw [ea]
 exact ⟨.ref _,_,I.Nb (t':=s.toks) (r.append r2) (by rw [List.length_append];omega),rfl,q _ I.new⟩
end
structure Kp (K:PySem.W.Frag) (p:Addr) (H H':Hp):Prop where
 keep:∀ q o,H q=some o->q≠p->H' q=some o
 mod:∀ a xs,H a=none->lB K a=some xs->H' a=none
section
variable {K:PySem.W.Frag} {p a:Addr} {H H' H1 H2:Hp} {xs ys:List V} {o:HO}
theorem Kp.refl:Kp K p H H:=⟨fun _ _ h _=>h,fun _ _ h _=>h⟩
theorem Kp.trans (x:Kp K p H H1) (y:Kp K p H1 H2):Kp K p H H2:=⟨fun q o h n=>y.keep q o (x.keep q o h n) n,fun a xs h k=>y.mod a xs (x.mod a xs h k) k⟩
theorem Kp.upd (h:H p=some (.lst xs)):Kp K p H (upd H p o):=⟨fun q u e n=>by rw [aV n];exact e,fun b ys e _=>by rw [aV (fun z=>by rw [z,h] at e;cases e)];exact e⟩
theorem Kp.new {q:Addr} (h:L2.new K H q):Kp K p H (L2.upd H q o):=⟨fun r u e _=>by rw [aV (bq e h.1)];exact e,fun b ys e k=>by rw [aV (fun z=>by rw [z,h.2] at k;cases k)];exact e⟩
theorem Kp.tup (x:Kp K p H H') (hp:H p=some (.lst ys)) (h:tupQ K H a=some xs):tupQ K H' a=some xs:=by
 unfold tupQ at h ⊢
 split at h
 . next e=>rw [x.keep _ _ e (Jt e hp (by intro z;cases z))];exact h
 . cases h
 . next e=>rw [x.mod a xs e h];exact h
theorem Ext.new {q:Addr} (h:L2.new K H q):Ext K H (L2.upd H q o):=⟨fun b u e=>by rw [aV (bq e h.1)];exact e,fun b ys e k=>by rw [aV (fun z=>by rw [z,h.2] at k;cases k)];exact e⟩
theorem Kp.ext (x:Kp K p (L2.upd H p o) H') (h:L2.new K H p):Ext K H H':=by
 refine ⟨fun b u e=>?_,fun b ys e k=>?_⟩
 . have n:b≠p:=bq e h.1
   exact x.keep b u (by rw [aV n];exact e) n
 . exact x.mod b ys (by rw [aV (fun z=>by rw [z,h.2] at k;cases k)];exact e) k
theorem Ext.kp (x:Ext K H H'):Kp K p H H':=⟨fun q o e _=>x.same q o e,x.mod⟩
end
end L2
namespace L2
open PySem PySem.Spec PyProof.Rows
section
variable {K:PySem.W.Frag} {p a:Addr} {H H':Hp} {xs:List V}
end
end L2
namespace L2
open PySem PySem.Spec PyProof.Rows
def Nl (K:PySem.W.Frag) (H:Hp) (x:V) (t:Value):Prop:=qV K H x t∨∃ a xs,x=.ref a/\tupQ K H a=some xs/\t=.type "tuple"
theorem Nl.tup {K:PySem.W.Frag} {H:Hp} {a:Addr} {xs:List V} (h:tupQ K H a=some xs):Nl K H (.ref a) (.type "tuple"):=.inr ⟨a,xs,rfl,h,rfl⟩
section
variable {X:Cx}
theorem aX:gx X (.builtin "isinstance") (fun xs H Q=>∃ x n t b,xs=[x,.ty n]/\Nl X.K H x t/\PySem.W.kitOne X.K t (.type n)=some b/\Q (.bl b) H):=by
 intro pins s σ H xs us Q I r h
 obtain ⟨x,n,t,b,rfl,ty,e,q⟩:=h
 obtain ⟨u,w',rfl,ru,rw'⟩:=vals2 r
 cases rw'
 rcases ty with ty | ⟨a,ys,rfl,hq,rfl⟩
 . exact C6 I ru ty e fun tk=>⟨.bl b,H,I.tok tk,rfl,q⟩
 . cases (show u=Value.ref a from ru)
   obtain ⟨its,_,⟨o,h1,h2,_⟩,_⟩:=I.tuple (gD hq)
   exact PySem.W.kia_one PySem.W.kitx_tuple I.sX ⟨o,h1,h2⟩ e (fun z=>nomatch z) fun tk=>⟨.bl b,H,I.tok tk,rfl,q⟩
end
end L2
namespace L2
open PySem PySem.Spec PyProof.Rows
section
variable {X:Cx}
def Fd (K:PySem.W.Frag) (neg:Bool):R2:=fun x y H Q=>∃ p xs,y=.ref p/\ql K H p=some xs/\nj x=true/\xs.all nj=true/\Q (.bl (if neg=true then !Ht x xs else Ht x xs)) H
theorem Fe:mQ X (compareOp .In) (Fd X.K false):=by
 intro pins s σ H x y v u Q I rx ry h
 obtain ⟨p,xs,rfl,hq,fx,fs,q⟩:=h
 exact Dc pins s σ H x _ v u Q I rx ry ⟨p,xs,rfl,tL hq,fx,fs,q⟩
theorem Dn:mQ X (compareOp .NotIn) (Fd X.K true):=by
 intro pins s σ H x y v u Q I rx ry h
 obtain ⟨p,xs,rfl,hq,fx,fs,q⟩:=h
 exact wR pins s σ H x _ v u Q I rx ry ⟨p,xs,rfl,tL hq,fx,fs,q⟩
end
end L2
namespace L2
open PySem PySem.Spec PyProof.Rows
def lY (K:PySem.W.Frag) (H:Hp):Prop:=∀ b xs,lB K b=some xs->H b=none
theorem v8 {K:PySem.W.Frag} {a:Addr} {xs:List V} (h:lB K a=some xs):∃ o,K.lookup a=some o:=by
 cases e:K.lookup a with
 | none=>rw [vZ e] at h;cases h
 | some o=>exact ⟨o,rfl⟩
theorem bf.mod {P:Program} {w:World} {K:PySem.W.Frag} {mg:Str->Option Value} {base:Heap} {CX:vO} {k:Nat} {f:Addr} {fd:FuncData} {ps:List Str} {sp:Sp} (len:∀ vs H Q E,sp vs H Q E->vs.length=ps.length)
   (F:bf P w K mg base CX k f fd ps (fun vs H Q E=>sp vs H Q E/\lY K H)):bf P w K mg base CX k f fd ps sp:=
 ⟨len,fun A outer s H args us vs Q E hr e0 hb r h=>F.run A outer s H args us vs Q E hr e0 hb r ⟨h,fun b xs hk=>by
   obtain ⟨o,e⟩:=v8 hk
   exact (e0.bs b o (e0.mod.Ju b o e)).2⟩⟩
section
variable {P:Program} {w:World} {K:PySem.W.Frag} {mg:Str->Option Value} {base:Heap}
theorem fh.Qe {x qual:Str} {st:Stmt} {f:Addr} {fd:FuncData} {N ps:List Str} {k:Nat} {sp:Sp} (F:fh K x qual st f fd) (S:aD N ps (af st)) (len:∀ vs H Q E,sp vs H Q E->vs.length=ps.length)
   (qa:∀ (cG:Value) (A:Around) (outer:List Env) (s:Shared) (H:Hp) (vs:List V) (Q:VK) (E:XK),jB k (A.deeper (envOfC qual (af st) s.heap.objs.size f cG))->lY K H->sp vs H Q E->
     ∃ t,JB (ng eZ P w K mg base N qual (af st) f cG A outer s H E).Mh (aq st) t/\t { nx:=fun _ H'=>Q .cQ H',rt:=Q } (start N vs) H):bf P w K mg base eZ (k + 1) f fd ps sp:=
 bf.mod len (F.gP S (fun vs H Q E h=>len vs H Q E h.1) fun cG A outer s H vs Q E hr h=>qa cG A outer s H vs Q E hr h.2 h.1)
end
theorem lY.tup {K:PySem.W.Frag} {H:Hp} {a:Addr} {xs:List V} (m:lY K H) (h:lB K a=some xs):tupQ K H a=some xs:=by
 unfold tupQ
 rw [m a xs h]
 exact h
theorem lY.ext {K:PySem.W.Frag} {H H':Hp} (m:lY K H) (x:Ext K H H'):lY K H':=fun b xs h=>x.mod b xs (m b xs h) h
end L2
namespace L2
open PySem PySem.Spec PyProof.Rows
def Nm (lo st:Int) (n:Nat):It:=⟨fun i _=>i < n,fun i H x H'=>H'=H/\x=.int (lo + i * st),fun i _=>n<=i⟩
section
variable {X:Cx} {tg:Expr}
def Np (ta:TA):TI:=fun σ H R=>ta σ H fun vs H1=>∃ (i j c:Int) (n:Nat),vs=[.int i,.int j,.int c]/\c≠0/\c.natAbs < 1073741824/\Builtin.Range.small i j c=true/\Builtin.Range.rangeSize i j c=(n:Int)/\R (Nm i c n) H1
end
section
variable {K:PySem.W.Frag} {ta:TA} {g:TG} {tb:TS} {D:Ends} {σ:St} {H:Hp} {lo stp:Int} {n:Nat}
theorem rq:vj (Np ta) g tb D σ H=ta σ H (fun vs H1=>∃ (i j c:Int) (n:Nat),vs=[.int i,.int j,.int c]/\c≠0/\c.natAbs < 1073741824/\Builtin.Range.small i j c=true/\Builtin.Range.rangeSize i j c=(n:Int)/\Loop (Nm i c n) g tb D σ H1):=rfl
end
end L2
namespace L2
open PySem PySem.Spec PyProof.Rows
section
variable {X:Cx}
def ID (K:PySem.W.Frag):V->Option Int->Option Int->Hp->VK->Prop:=fun x lo hi H Q=>∃ a xs,x=.ref a/\aZ K H a xs/\∀ p,L2.new K H p->Q (.ref p) (upd H p (.lst (iL xs lo hi)))
theorem iN:P9 X (ID X.K):=by
 intro pins s σ H x v vl vu lo hi sl Q I rx hs pl pu h
 obtain ⟨a,xs,rfl,hx,q⟩:=h
 cases rx
 obtain ⟨its,r,ht,hz⟩:=I.list hx
 have hlen:=r.length
 refine ⟨"list",_,slot_list_getitem.lookup,ht.isList.typeIs,?_⟩
 refine wpAny_getItem_list_slice ht.isList hs pl pu .none (by simp) ?_ (by rw [List.size_toArray] <;> omega)
 rw [vo,<- hlen]
 refine ⟨.ref s.heap.objs.size,_,I.laid (t':=s.toks) (o:=.lst (iL xs lo hi)) (fun b ob q=>Heap.get?_push_of_some _ q) (Nat.le_refl _) ?_,rfl,q _ I.new⟩
 exact ⟨Nat.le_trans (ni xs lo hi) hz,_,0,(r.drop (HT.zy xs.length 0 lo)).take (HT.zy xs.length xs.length hi - HT.zy xs.length 0 lo),Heap.get?_push_size _ rfl⟩
end
end L2
set_option Elab.async false
set_option linter.all false
set_option maxRecDepth 100000
namespace L2
open PySem PySem.Spec PyProof.Rows
section
variable {X:Cx} {es:List Expr} {pos:Pos}
def v9 (K:PySem.W.Frag) (n:Nat) (t:zo):TG:=fun v σ H Q=>∃ a xs,v=.ref a/\tupQ K H a=some xs/\xs.length=n/\t xs σ H Q
theorem fM {k:Nat} {t:zo} {n:Nat} (hc:X.calm=true) (h:Iw X es t) (hn:(assignEach es X.env).length=n:=by rfl) (tZ:(assignEach es X.env).findIdx? (·.1)=none:=by rfl):JG X (.Tuple es k pos) (v9 X.K n t):=
 ⟨fun pins s σ H v u Q I r ⟨a,xs,e,h1,h2,h3⟩=>Kv hc h.h hn tZ pins s σ H v u Q I r ⟨a,xs,e,gD h1,h2,h3⟩⟩
end
theorem aQ {c:Prop} [Decidable c] {a b:Prop} (h:c) (x:a):if c then a else b:=by rw [if_pos h];exact x
theorem aL {c:Prop} [Decidable c] {a b:Prop} (h:¬ c) (x:b):if c then a else b:=by rw [if_neg h];exact x
theorem Cg {K:PySem.W.Frag} {a:Addr} {d:Option Addr} {its:Array Value} {k:Nat} {sl:Array (Option Value)} {xs:List V} (h:K.lookup a=some ⟨.type "tuple",d,.seq its k,sl⟩) (hz:its.size<=1000) (e:its.toList.mapM zk=some xs):lB K a=some xs:=by
 unfold lB
 rw [h]
 simp only [if_true]
 rw [if_pos (E8 hz)]
 exact e
end L2
namespace L2
open PySem PySem.Spec PyProof.Rows
theorem tM (xs:List V) (k:Nat):iL xs none (some (k:Int))=xs.take k:=by
 unfold iL
 rw [HT.ua,HT.B3,List.drop_zero,Nat.sub_zero]
 by_cases h:k<=xs.length
 . rw [Nat.min_eq_left h]
 . rw [Nat.min_eq_right (by omega),List.take_of_length_le (Nat.le_refl _),List.take_of_length_le (by omega)]
theorem ou (xs:List V) (k:Nat):iL xs (some (k:Int)) none=xs.drop k:=by
 unfold iL
 rw [HT.ua,HT.B3]
 by_cases h:k<=xs.length
 . rw [Nat.min_eq_left h,List.take_of_length_le (by rw [List.length_drop];exact Nat.le_refl _)]
 . rw [Nat.min_eq_right (by omega),List.drop_of_length_le (Nat.le_refl _),List.drop_of_length_le (by omega)];simp
end L2
namespace L2
open PySem PySem.Spec PyProof.Rows
theorem Ext.at {K:PySem.W.Frag} {H H':Hp} {a:Addr} {o:HO} (x:Ext K H H') (h:H a=some o):H' a=some o:=x.same _ _ h
end L2
namespace L2
open PySem PySem.Spec PyProof.Rows
structure j5 (K:PySem.W.Frag) (p q:Addr) (H H':Hp):Prop where
 keep:∀ r o,H r=some o->r≠p->r≠q->H' r=some o
 mod:∀ a xs,H a=none->lB K a=some xs->H' a=none
section
variable {K:PySem.W.Frag} {p q:Addr} {H H' H1 H2:Hp} {o o':HO}
theorem Kp.l (x:Kp K p H H'):j5 K p q H H':=⟨fun r o h n _=>x.keep r o h n,x.mod⟩
theorem Kp.r (x:Kp K q H H'):j5 K p q H H':=⟨fun r o h _ n=>x.keep r o h n,x.mod⟩
theorem Ext.Mm (x:Ext K H H'):j5 K p q H H':=⟨fun r o h _ _=>x.same r o h,x.mod⟩
theorem j5.trans (x:j5 K p q H H1) (y:j5 K p q H1 H2):j5 K p q H H2:=⟨fun r o h n m=>y.keep r o (x.keep r o h n m) n m,fun a xs h k=>y.mod a xs (x.mod a xs h k) k⟩
theorem j5.ext (x:j5 K p q (L2.upd (L2.upd H p o) q o') H') (hp:L2.new K H p) (hq:L2.new K (L2.upd H p o) q):Ext K H H':=by
 have y:Ext K H (L2.upd (L2.upd H p o) q o'):=(Ext.new hp).trans (Ext.new hq)
 refine ⟨fun b u e=>?_,fun b ys e k=>x.mod b ys (y.mod b ys e k) k⟩
 have n:b≠p:=bq e hp.1
 have m:b≠q:=bq ((Ext.new hp).at e) hq.1
 exact x.keep b u (y.at e) n m
end
end L2
set_option Elab.async false
set_option linter.all false
set_option maxRecDepth 100000
namespace L2
open PySem PySem.Spec PyProof.Rows
def jU (env:Env):List (Str×NameKind)->List (Str×Addr)->List (Str×Addr)
 | [],cs=>cs
 | (n,k)::r,cs=>jU env r (if (k==NameKind.free)=true then (match env.cells.lookup n with | some a=>(n,a)::cs | none=>cs) else cs)
theorem oZ {scope:Scope} {env:Env} (h:∀ x∈scope.names,x.2=.free->∃ c,env.cells.lookup x.1=some c):closureFor scope env=pure (jU env scope.names []):=by
 unfold closureFor
 generalize scope.names=names at h ⊢
 generalize ([]:List (Str×Addr))=cs
 induction names generalizing cs with
 | nil=>rfl
 | cons x r ih=>
   obtain ⟨n,k⟩:=x
   have ih':=fun cs=>ih (cs:=cs) fun x hx=>h x (List.mem_cons_of_mem _ hx)
   simp only [List.forIn_cons]
   cases hk:(k==NameKind.free) with
   | false=>
     simp only [jU,hk]
     exact ih' cs
   | true=>
     obtain ⟨c,hc⟩:=h (n,k) (List.mem_cons_self) (by simpa using hk)
     simp only [jU,hk,hc,cellOf]
     exact ih' _
theorem wc {env:Env}:∀ {names:List (Str×NameKind)} {cs:List (Str×Addr)} {n:Str} {c:Addr},(n,c)∈jU env names cs->(n,c)∈cs∨env.cells.lookup n=some c
 | [],cs,n,c,h=>.inl h
 | (m,k)::r,cs,n,c,h=>by
   rw [jU] at h
   rcases wc h with h | h
   . split at h
     . split at h
       . next a e=>
         rcases List.mem_cons.mp h with z | z
         . cases z;exact .inr e
         . exact .inl z
       . exact .inl h
     . exact .inl h
   . exact .inr h
theorem we {env:Env}:∀ {names:List (Str×NameKind)} {cs:List (Str×Addr)} {p:Str×Addr},p∈cs->p∈jU env names cs
 | [],cs,p,h=>h
 | (m,k)::r,cs,p,h=>by
   rw [jU]
   refine we ?_
   split
   . split
     . exact List.mem_cons_of_mem _ h
     . exact h
   . exact h
theorem wg {env:Env}:∀ {names:List (Str×NameKind)} {cs:List (Str×Addr)} {n:Str} {c:Addr},(n,NameKind.free)∈names->env.cells.lookup n=some c->(n,c)∈jU env names cs
 | (m,k)::r,cs,n,c,h,e=>by
   rw [jU]
   rcases List.mem_cons.mp h with z | z
   . cases z
     rw [if_pos (by decide),e]
     exact we List.mem_cons_self
   . exact wg z e
theorem lookup_mem {α:Type}:∀ {l:List (Str×α)} {n:Str} {c:α},l.lookup n=some c->(n,c)∈l
 | (m,d)::r,n,c,h=>by
   rw [List.lookup_cons] at h
   cases e:n==m with
   | true=>
     rw [e] at h
     cases h
     rw [eq_of_beq e]
     exact List.mem_cons_self
   | false=>
     rw [e] at h
     exact List.mem_cons_of_mem _ (lookup_mem h)
theorem mem_lookup {α:Type}:∀ {l:List (Str×α)} {n:Str} {c:α},(n,c)∈l->∃ d,l.lookup n=some d
 | (m,d)::r,n,c,h=>by
   rw [List.lookup_cons]
   cases e:n==m with
   | true=>exact ⟨d,rfl⟩
   | false=>
     rcases List.mem_cons.mp h with z | z
     . cases z
       rw [beq_self_eq_true] at e;cases e
     . exact mem_lookup z
theorem gU {env:Env} {names:List (Str×NameKind)} {n:Str} {c:Addr} (h:(jU env names []).lookup n=some c):env.cells.lookup n=some c:=by
 rcases wc (lookup_mem h) with z | z
 . cases z
 . exact z
theorem zH {env:Env} {names:List (Str×NameKind)} {n:Str} {c:Addr} (h:(n,NameKind.free)∈names) (e:env.cells.lookup n=some c):(jU env names []).lookup n=some c:=by
 obtain ⟨d,hd⟩:=mem_lookup (wg (cs:=[]) h e)
 rw [hd]
 exact (gU hd).symm.trans e ▸ rfl
theorem qp {env:Env}:∀ {names:List (Str×NameKind)} {x:Str},names.lookup x=some .free->
   (names.map fun (n,k)=>if (k==NameKind.free&&env.scope.kind==.function&&env.kindOf n==some .cell) then (n,NameKind.cell) else (n,k)).lookup x=some .cell∨
   (names.map fun (n,k)=>if (k==NameKind.free&&env.scope.kind==.function&&env.kindOf n==some .cell) then (n,NameKind.cell) else (n,k)).lookup x=some .free
 | [],_,h=>by simp at h
 | (n,k)::r,x,h=>by
   have ih:=@qp env r x
   show List.lookup x ((if (k==NameKind.free&&env.scope.kind==.function&&env.kindOf n==some .cell)=true then (n,NameKind.cell) else (n,k))::_)=_∨List.lookup x ((if (k==NameKind.free&&env.scope.kind==.function&&env.kindOf n==some .cell)=true then (n,NameKind.cell) else (n,k))::_)=_
   cases hx:x==n with
   | true=>
     simp only [List.lookup_cons,hx] at h
     cases h
     split
     . simp [List.lookup_cons,hx]
     . simp [List.lookup_cons,hx]
   | false=>
     simp only [List.lookup_cons,hx] at h
     split
     . simp only [List.lookup_cons,hx];exact ih h
     . simp only [List.lookup_cons,hx];exact ih h
theorem ny {env:Env}:∀ {names:List (Str×NameKind)} {x:Str} {kk:NameKind},(∀ y∈names,y.2≠.cell)->
   (names.map fun (n,k)=>if (k==NameKind.free&&env.scope.kind==.function&&env.kindOf n==some .cell) then (n,NameKind.cell) else (n,k)).lookup x=some kk->kk=.cell∨kk=.free->(x,NameKind.free)∈names
 | [],_,_,_,h,_=>by simp at h
 | (n,k)::r,x,kk,hc,h,hk=>by
   have ih:=@ny env r x kk fun y hy=>hc y (List.mem_cons_of_mem _ hy)
   change List.lookup x ((if (k==NameKind.free&&env.scope.kind==.function&&env.kindOf n==some .cell)=true then (n,NameKind.cell) else (n,k))::_)=_ at h
   cases hx:x==n with
   | true=>
     have e:=eq_of_beq hx
     subst e
     split at h
     . next q=>
       simp only [Bool.and_eq_true,beq_iff_eq] at q
       rw [q.1.1]
       exact List.mem_cons_self
     . simp only [List.lookup_cons,hx] at h
       cases h
       rcases hk with z | z
       . exact absurd z (hc _ List.mem_cons_self)
       . rw [z];exact List.mem_cons_self
   | false=>
     refine List.mem_cons_of_mem _ (ih ?_ hk)
     split at h
     . simp only [List.lookup_cons,hx] at h;exact h
     . simp only [List.lookup_cons,hx] at h;exact h
def Cx.comp (X:Cx) (N:List Str) (scope:Scope) (C:Addr) (s:Shared) (H:Hp) (fp:List Addr):Cx:=
 { X with N:=N,s₀:=s,H₀:=H,env:=compEnvC scope (jU X.env scope.names []) C X.env,outer:=X.stack,ex:=fp,fn:=fun _=>false,pn:=[],xe:=fun _ _=>False }
def pick (σ:St) (src:List (Option Nat)):St:=src.map fun o=>match o with | none=>none | some j=>(σ[j]?).join
def wj (NX:List Str) (Qf sc:Scope) (N:List Str) (src:List (Option Nat)):Bool:=
 sc.names.all (fun x=>x.2 !=.cell)&&sc.names.all (fun x=>x.2 !=.local||sc.names.lookup x.1==some .local)&&
 sc.names.all (fun x=>x.2 !=.free||(Qf.names.lookup x.1==some .cell||Qf.names.lookup x.1==some .free))&&N.length==src.length&&
 (N.zip src).all (fun p=>match p.2 with | none=>true | some j=>NX[j]?==some p.1&&(Qf.names.lookup p.1==some .cell||Qf.names.lookup p.1==some .free)&&sc.names.lookup p.1==some .free)
structure jO (X:Cx) (sc:Scope) (N:List Str) (src:List (Option Nat)):Prop where
 kind:sc.kind=.function
 ok:wj X.N X.env.scope sc N src=true
section
variable {X:Cx} {sc:Scope} {N:List Str} {src:List (Option Nat)}
theorem jO.cell (c:jO X sc N src):∀ y∈sc.names,y.2≠.cell:=fun y hy=>by
 have h:=c.ok
 simp only [wj,Bool.and_eq_true,List.all_eq_true] at h
 simpa using h.1.1.1.1 y hy
theorem jO.names (c:jO X sc N src):∀ y∈sc.names,y.2=.local->sc.names.lookup y.1=some .local:=fun y hy e=>by
 have h:=c.ok
 simp only [wj,Bool.and_eq_true,List.all_eq_true] at h
 have q:=h.1.1.1.2 y hy
 rw [e] at q
 simpa using q
theorem jO.free (c:jO X sc N src) {x:Str} (hx:(x,NameKind.free)∈sc.names):X.env.kindOf x=some .cell∨X.env.kindOf x=some .free:=by
 have h:=c.ok
 simp only [wj,Bool.and_eq_true,List.all_eq_true] at h
 have q:=h.1.1.2 _ hx
 simpa [Env.kindOf] using q
theorem jO.len (c:jO X sc N src):N.length=src.length:=by
 have h:=c.ok
 simp only [wj,Bool.and_eq_true,List.all_eq_true] at h
 simpa using h.1.2
theorem jO.at_ (c:jO X sc N src) {i j:Nat} {x:Str} (h1:N[i]?=some x) (h2:src[i]?=some (some j)):X.N[j]?=some x/\(X.env.kindOf x=some .cell∨X.env.kindOf x=some .free)/\sc.names.lookup x=some .free:=by
 have h:=c.ok
 simp only [wj,Bool.and_eq_true,List.all_eq_true] at h
 have m:(x,some j)∈N.zip src:=by
   refine List.mem_of_getElem? (i:=i) ?_
   rw [List.getElem?_zip_eq_some]
   exact ⟨h1,h2⟩
 have q:=h.2 _ m
 simp only [Bool.and_eq_true,Bool.or_eq_true,beq_iff_eq] at q
 exact ⟨q.1.1,q.1.2,q.2⟩
theorem Dp {σ:St} {i:Nat} {v:V} (h:(pick σ src)[i]?=some (some v)):∃ j,src[i]?=some (some j)/\σ[j]?=some (some v):=by
 unfold pick at h
 rw [List.getElem?_map] at h
 cases e:src[i]? with
 | none=>rw [e] at h;cases h
 | some o=>
   rw [e] at h
   cases o with
   | none=>simp at h
   | some j=>
     refine ⟨j,rfl,?_⟩
     simp only [Option.map_some,Option.some.injEq] at h
     cases e2:σ[j]? with
     | none=>rw [e2] at h;cases h
     | some w=>
       rw [e2] at h
       simp only [Option.join] at h
       exact congrArg some h
theorem Cx.Ok.comp {pins:List (Addr×Obj)} {σ:St} {H:Hp} {s:Shared} {fp:List Addr} {C:Addr} (I:Inv X pins σ H s) (c:jO X sc N src) (hf:∀ b∈fp,qT X pins H b) (ho:∀ b∈fp,∃ o,s.heap.get? b=some o) (hC:s.heap.objs.size<=C):(X.comp N sc C s H fp).Ok where
 mod:=I.ok.mod
 kind:=c.kind
 glob:=I.ok.glob
 blt:=I.ok.blt
 above:=hC
 inj:=fun x y a h h'=>I.ok.inj x y a (gU h) (gU h')
 has:=fun x h=>by
   have m:(x,NameKind.free)∈sc.names:=by
     rcases h with h | h
     . exact ny c.cell h (.inl rfl)
     . exact ny c.cell h (.inr rfl)
   obtain ⟨a,ha⟩:=I.ok.has x (c.free m)
   exact ⟨a,zH m ha⟩
 HF:=fun _ _ h=>nomatch h
 hd:=I.ok.hd
 frames:=I.ok.frames
 Jv:=.inl rfl
 Mg:=fun b hb=>by
   obtain ⟨o,e⟩:=ho b hb
   exact ⟨Nat.ne_of_lt (Nat.lt_of_lt_of_le (Heap.lt_size e) hC),fun x a h=>(hf b hb).2.2.2.2.1 x a (gU h)⟩
 bs:=I.bs
 Ec:=Nat.le_trans I.ok.Ec I.sz
 wK:=fun b o e hb=>by
   rcases (hf b hb).2.2.2.1 with z | z
   . exact I.ok.wK b o e z
   . exact absurd (Nat.lt_of_lt_of_le (Heap.lt_size e) (Nat.le_trans I.ok.Ec z)) (Nat.lt_irrefl _)
 ze:=fun b hb z=>by
   rcases List.mem_cons.mp (I.tX b z) with q | q
   . exact (hf b hb).2.1 q
   . exact (hf b hb).2.2.1 q
 m5:=I.stack
 Ek:=I.sY
theorem Inv.block {pins:List (Addr×Obj)} {σ:St} {H:Hp} {s:Shared} {fp:List Addr} {C D:Addr} {h1:Heap} {t':Nat} (I:Inv X pins σ H s) (c:jO X sc N src) (hf:∀ b∈fp,qT X pins H b) (ho:∀ b∈fp,∃ o,s.heap.get? b=some o)
   (hD:s.heap.objs.size<=D) (hC:s.heap.objs.size<=C) (Qg:D≠C) (k:∀ b u,s.heap.get? b=some u->h1.get? b=some u) (hn:h1.Ns C fun _=>none) (new:dW X.prog X.w (upd H D (.lst [])) h1 D (.lst [])):
   Inv (X.comp N sc C s H fp) [] (pick σ src) (upd H D (.lst [])) { s with heap:=h1,toks:=t' } where
 ok:=Cx.Ok.comp I c hf ho hC
 os:=rfl
 bare:=I.bare
 base:=Un.laid k hD (I.dz.fresh hD)
 loc:=by
   refine ⟨_,hn,fun i x v e1 e2 e3=>?_⟩
   obtain ⟨j,ej,es⟩:=Dp e2
   obtain ⟨n1,n2,n3⟩:=c.at_ e1 ej
   obtain ⟨m,_,hl⟩:=I.loc
   have vis:MN X.env.scope x:=n2.elim (fun z=>.inr (.inl z)) fun z=>.inr (.inr z)
   obtain ⟨u,r,q⟩:=hl j x v n1 es vis
   refine ⟨u,r,.inr ⟨qp n3,?_⟩⟩
   rcases q with ⟨z,_⟩ | ⟨_,a,ha,z⟩
   . rcases n2 with n2 | n2 <;> rw [n2] at z <;> cases z
   . obtain ⟨o,e,d⟩:=z
     exact ⟨a,zH (lookup_mem n3) ha,o,k _ _ e,d⟩
 cell:=fun x a e=>by
   obtain ⟨v,o,e,d⟩:=I.cell x a (gU e)
   exact ⟨v,o,k _ _ e,d⟩
 free:=by
   show upd H D (.lst []) C=none
   rw [aV Qg.symm]
   exact I.dz.fresh hC
 jT:=fun x a e=>by
   obtain ⟨v,o,e',d⟩:=I.cell x a (gU e)
   rw [aV (Nat.ne_of_lt (Nat.lt_of_lt_of_le (Heap.lt_size e') hD))]
   exact I.jT x a (gU e)
 pin:=fun p hp=>nomatch hp
 dz:=I.dz.laid k hD new
 len:=by
   show (pick σ src).length=N.length
   rw [c.len,pick,List.length_map]
theorem Inv.Ci {pins:List (Addr×Obj)} {σ σ':St} {H H':Hp} {s s':Shared} {fp:List Addr} {C:Addr} {h':Heap} (I:Inv X pins σ H s) (hf:∀ b∈fp,qT X pins H b) (hC:s.heap.objs.size<=C)
   (J:Inv (X.comp N sc C s H fp) [] σ' H' s') (hs:∀ b,b≠C->h'.get? b=s'.heap.get? b):Inv X pins σ H' { s' with heap:=h' }:=by
 have ne:∀ b o,s.heap.get? b=some o->b≠C:=fun b o e=>Nat.ne_of_lt (Nat.lt_of_lt_of_le (Heap.lt_size e) hC)
 have u:Un (oj X.stack) fp H H' s.heap s'.heap:=J.base
 have u':Un (oj X.stack) fp H H' s.heap h':=⟨fun b o e n a x=>(hs b (ne b o e)).trans (u.keep b o e n a x),fun b o e n a x=>by
     obtain ⟨sl,q⟩:=u.slot b o e n a x
     exact ⟨sl,(hs b (ne b o e)).trans q⟩,u.free,fun b o e x=>by
     obtain ⟨o',q⟩:=u.there b o e x
     exact ⟨o',(hs b (ne b o e)).trans q⟩,u.pB,u.oW,u.pF⟩
 refine I.Jx (s':={ s' with heap:=h' }) J.os u' (fun b ob e=>?_) J.bare fun b hb=>⟨(hf b hb).2.2.2.1,(hf b hb).2.1,(hf b hb).2.2.2.2.1,(hf b hb).2.2.2.2.2⟩
 have fr:H' C=none:=J.free
 refine (J.dz b ob e).sy (fun a w' ha q=>(hs a ?_).trans q) (fun _ q=>q) fun _ _ q=>q
 rintro rfl
 rcases ha with rfl | ha
 . rw [fr] at e;cases e
 . rw [fr] at ha;cases ha
end
abbrev F0:Value->Shared->Prop:=fun _ _=>False
section
variable {prog:Program} {w:World} {A:Around} {R:Result->Shared->Prop} {s:Shared}
theorem wY {elt target iter:Expr} {ifs:List Expr} {scope:Scope} {pos:Pos} {it acc:Value} {env:Env} (I:Nat->Shared->Prop)
   (turn:∀ n s,I n s->wpAny (model prog w) A (pyNext it) (fun r s₁=>match r with
     | none=>R (.ok .next) s₁
     | some v=>wpAny (model prog w) A (letOwnedTupleGo target it v) (fun _ s₁'=>wpAny (model prog w) A (assign target env v) (fun _ s₂=>
         wpAny (model prog w) A (forIn ifs true fun c r=>if r=true then do let ok <- isTrue c env (eval c env);pure (ForInStep.yield ok) else pure (ForInStep.yield r)) (fun ok s₃=>
           if ok=true then wpAny (model prog w) A (eval elt env) (fun x s₄=>
             wpAny (model prog w) A (call (.builtin "list.append") [acc,x]) (fun _ s₅=>∃ m,m < n/\I m s₅) F0 s₄) F0 s₃
           else ∃ m,m < n/\I m s₃) F0 s₂) F0 s₁') F0 s₁) F0 s)
   (n:Nat) (h:I n s):
   codeAny (model prog w) A (.compLoop (.ListComp elt [⟨target,iter,ifs,0⟩] scope pos) 0 it acc env) R s:=by
 refine codeAny_loop rfl I (fun n s hI=>?_) n h
 show wpAny _ A ((compTurn (.ListComp elt [⟨target,iter,ifs,0⟩] scope pos) 0 it acc env).onRaise (fun x=>do noteFrame x env;theTreesLotGoes x)) _ _ s
 refine wpAny_noted ?_
 rw [compTurn_list]
 refine wpAny_bind (wpAny_standAt (wpAny_bind (wpAny_mono (turn n s hI) (fun r s₁ h₁=>?_) fun _ _ h'=>h'.elim)))
 cases r with
 | none=>exact wpAny_pure h₁
 | some v=>
   refine wpAny_bind (wpAny_mono h₁ (fun _ s₁' h₁'=>?_) fun _ _ h'=>h'.elim)
   refine wpAny_bind (wpAny_mono h₁' (fun _ s₂ h₂=>wpAny_bind (wpAny_mono h₂ (fun ok s₃ h₃=>?_) fun _ _ h'=>h'.elim)) fun _ _ h'=>h'.elim)
   cases ok with
   | false=>exact wpAny_pure ⟨rfl,h₃⟩
   | true=>
     exact wpAny_bind (wpAny_bind (wpAny_mono h₃ (fun x s₄ h₄=>wpAny_bind (wpAny_mono h₄ (fun _ s₅ h₅=>wpAny_pure (wpAny_pure ⟨rfl,h₅⟩)) fun _ _ h'=>h'.elim)) fun _ _ h'=>h'.elim))
end
def PF (X:Cx) (ifs:List Expr) (t:TT):Prop:=
 ∀ (pins:List (Addr×Obj)) (s:Shared) (σ:St) (H:Hp) (Q:Bool->Hp->Prop),Inv X pins σ H s->t σ H Q->
   wpAny (model X.prog X.w) X.A (forIn ifs true fun c r=>if r=true then do let ok <- isTrue c X.env (eval c X.env);pure (ForInStep.yield ok) else pure (ForInStep.yield r)) (TP X pins σ Q) X.xe s
structure JF (X:Cx) (ifs:List Expr) (t:TT):Prop where h:PF X ifs t
def lZ:TT:=fun _ H Q=>Q true H
theorem cU {X:Cx}:JF X [] lZ:=⟨fun _ _ _ H _ I h=>wpAny_tests_nil ⟨H,I,h⟩⟩
def dj (J:It) (g:TG) (tt:TT) (te:TE) (D:Addr) (Q:Hp->Prop) (σ:St) (H:Hp):Prop:=∃ W:Nat->Nat->List V->St->Hp->Prop,(∃ m,W 0 m [] σ H)/\∀ i m acc σ H,W i m acc σ H->
 (J.stop i H/\Q H)∨(J.go i H/\∃ N:List V->St->Hp->Prop,(∀ acc' σ' H',N acc' σ' H'->∃ m',m' < m/\W (i + 1) m' acc' σ' H')/\∀ x H',J.KA i H x H'->g x σ H' fun σ2 H2=>tt σ2 H2 fun b H3=>
   if b=true then te σ2 H3 fun v H4=>H4 D=some (.lst acc)/\acc.length < sizeLine/\N (acc++[v]) σ2 (upd H4 D (.lst (acc++[v])))
   else N acc σ2 H3)
def JJ (K:PySem.W.Frag) (wi:TI) (src:List (Option Nat)) (g:TG) (tt:TT) (te:TE):TE:=fun σ H Q=>wi σ H fun J H1=>∀ D,L2.new K H1 D->dj J g tt te D (fun H'=>Q (.ref D) H') (pick σ src) (upd H1 D (.lst []))
section
variable {X:Cx} {sc:Scope} {N:List Str} {src:List (Option Nat)} {tg iter elt:Expr} {ifs:List Expr} {wi:TI} {g:TG} {tt:TT} {te:TE} {pos:Pos}
theorem zI {R:Value->Addr->Result->Shared->Prop} {E:Value->Shared->Prop} (c:jO X sc N src) (hc:X.calm=true)
   (hg:∀ C s H fp,JG (X.comp N sc C s H fp) tg g) (ht:∀ C s H fp,JF (X.comp N sc C s H fp) ifs tt) (he:∀ C s H fp,JE (X.comp N sc C s H fp) elt te)
   {pins:List (Addr×Obj)} {σ:St} {H:Hp} {s:Shared} {it:Addr} {fp:List Addr} {tn:Nat->Heap->Prop} {J:It} {Q:V->Hp->Prop} (I:Inv X pins σ H s) (T:Turn X.prog X.w X.K tg J fp it tn) (st:tn 0 s.heap) (hf:∀ b∈fp,qT X pins H b)
   (h:∀ D,L2.new X.K H D->dj J g tt te D (fun H'=>Q (.ref D) H') (pick σ src) (upd H D (.lst [])))
   (hR:∀ D C s' σ' H',s.heap.objs.size<=C->Inv (X.comp N sc C s H fp) [] σ' H' s'->Q (.ref D) H'->R (.ref D) C (.ok .next) s'):
   wpAny (model X.prog X.w) X.A (newList []) (fun acc s₃=>wpAny (model X.prog X.w) X.A (newFunctionEnv sc X.env.globals (jU X.env sc.names []) [] X.env.qual none .none (some X.env)) (fun cenv s₄=>
     codeAny (model X.prog X.w) X.A (.compStart (.ListComp elt [⟨tg,iter,ifs,0⟩] sc pos) 0 (.ref it) acc { cenv with scope:=relabel sc X.env }) (R acc cenv.locals) s₄) E s₃) E s:=by
 refine wpAny_newObj_type (wpAny_newFunctionEnv c.cell (by intro y hy;simp at hy) (fun h₁ hns₁ hsb₁=>?_) c.kind)
 dsimp only at hns₁ hsb₁ ⊢
 generalize hH2:s.heap.push { cls:=.type "list",dict:=none,data:=.seq ([]:List Value).toArray }=H2 at hns₁ hsb₁ ⊢
 have hC:H2.objs.size=s.heap.objs.size + 1:=by rw [<- hH2,Heap.size_push]
 have Qg:s.heap.objs.size≠H2.objs.size:=by rw [hC];exact Nat.ne_of_lt (Nat.lt_succ_self _)
 have Nq:s.heap.objs.size<=H2.objs.size:=by rw [hC];exact Nat.le_succ _
 have below:∀ b,b < s.heap.objs.size->b≠H2.objs.size:=fun b hb=>by rw [hC];exact Nat.ne_of_lt (Nat.lt_succ_of_lt hb)
 have old:∀ b o,s.heap.get? b=some o->h₁.get? b=some o:=fun b o e=>hsb₁.extBut b o (below b (Heap.lt_size e)) (Heap.get?_push_of_some _ (hH2 ▸ Heap.get?_push_of_some _ e))
 have SY:h₁.get? s.heap.objs.size=some { cls:=.type "list",dict:=none,data:=.seq ([]:List Value).toArray }:=hsb₁.extBut _ _ Qg (Heap.get?_push_of_some _ (hH2 ▸ Heap.get?_push_size _ rfl))
 have ho:∀ b∈fp,∃ o,s.heap.get? b=some o:=fun b hb=>let ⟨o,e,_⟩:=T.obj _ _ st b hb;⟨o,e⟩
 have I0:=I.block (t':=s.toks + ([]:List (Str×Value)).length) c hf ho (Nat.le_refl _) Nq Qg old hns₁ ⟨Nat.zero_le _,[],0,.nil,SY⟩
 have st0:tn 0 h₁:=T.keep _ _ _ st fun b hb o e=>old b o e
 obtain ⟨W,⟨m0,w0⟩,turn⟩:=h _ I.new
 have AF:∀ {H':Hp},(∀ b∈fp,H' b=none)->∀ b∈fp,qT (X.comp N sc H2.objs.size s H fp) [] H' b:=fun hn b hb=>by
   obtain ⟨f0,f1,f2,f3,f4,f5⟩:=hf b hb
   obtain ⟨o,e⟩:=ho b hb
   refine ⟨hn b hb,below b (Heap.lt_size e),fun z=>?_,.inl hb,fun x a q=>f4 x a (gU q),fun p hp=>nomatch hp⟩
   rcases List.mem_cons.mp (I.tX b z) with q | q
   . exact f1 q
   . exact f2 q
 have fr0:∀ b∈fp,(upd H s.heap.objs.size (.lst [])) b=none:=fun b hb=>by
   obtain ⟨o,e⟩:=ho b hb
   rw [aV (Nat.ne_of_lt (Heap.lt_size e))]
   exact (hf b hb).1
 have loop:∀ s₃:Shared,s₃={ s with heap:=h₁,toks:=s.toks + ([]:List (Str×Value)).length }->
     codeAny (model X.prog X.w) X.A (.compLoop (.ListComp elt [⟨tg,iter,ifs,0⟩] sc pos) 0 (.ref it) (.ref s.heap.objs.size) (compEnvC sc (jU X.env sc.names []) H2.objs.size X.env)) (R (.ref s.heap.objs.size) H2.objs.size) s₃:=by
   rintro s₃ rfl
   refine wY (fun n s'=>∃ i acc σ' H',Inv (X.comp N sc H2.objs.size s H fp) [] σ' H' s'/\tn i s'.heap/\(∀ b∈fp,H' b=none)/\W i n acc σ' H') ?_ m0 ⟨0,_,_,_,I0,st0,fr0,w0⟩
   rintro n s3 ⟨i,acc,σ3,H3,I3,st3,fr3,w3⟩
   rcases turn i n acc σ3 H3 w3 with ⟨stop,qn⟩ | ⟨go,NN,hNN,step⟩
   . refine dX (T.done (X.comp N sc H2.objs.size s H fp) rfl rfl rfl hc i [] s3 σ3 H3 F0 I3 (AF fr3) st3 stop) fun r s4 ⟨hr,I4⟩=>?_
     subst hr
     exact hR _ _ _ _ _ Nq I4 qn
   . refine dX (T.item (X.comp N sc H2.objs.size s H fp) rfl rfl rfl hc i [] s3 σ3 H3 F0 I3 (AF fr3) st3 go) fun r s4 ⟨u,hr,h4⟩=>?_
     subst hr
     refine dX h4 fun _ s5 ⟨x,H5,I5,r5,y5,st5,fr5⟩=>?_
     have SH:=I5.pinned (AF fr5) (T.obj _ _ st5)
     refine dX ((hg _ _ _ _).h _ s5 σ3 H5 x u _ SH r5 (step x H5 y5)) fun _ s6 ⟨σ6,H6,I6,q6⟩=>?_
     refine dX ((ht _ _ _ _).h _ s6 σ6 H6 _ I6 q6) fun b s7 ⟨H7,I7,q7⟩=>?_
     have again:∀ {Le:List V} {s8:Shared} {H8:Hp},Inv (X.comp N sc H2.objs.size s H fp) ([]++t6 fp s5.heap) σ6 H8 s8->NN Le σ6 H8->∃ m,m < n/\∃ i acc σ' H',Inv (X.comp N sc H2.objs.size s H fp) [] σ' H' s8/\tn i s8.heap/\(∀ b∈fp,H' b=none)/\W i m acc σ' H':=fun {Le s8 H8} I8 w=>by
       obtain ⟨m',hm,w8⟩:=hNN _ _ _ w
       refine ⟨m',hm,i + 1,Le,σ6,H8,I8.m7,T.keep _ _ _ st5 fun b hb o e=>(I8.pin (b,o) (List.mem_append_right _ (List.mem_append_right _ (lU hb e)))).1,fun b hb=>?_,w8⟩
       obtain ⟨o,e,d⟩:=T.obj _ _ st5 b hb
       exact (I8.pin (b,o) (List.mem_append_right _ (List.mem_append_right _ (lU hb e)))).2.1
     cases b with
     | false=>exact again I7 q7
     | true=>
       refine dX ((he _ _ _ _).h _ s7 σ6 H7 _ I7 q7) fun y s8 ⟨v,H8,I8,r8,q8⟩=>?_
       obtain ⟨hx,hz,w8⟩:=q8
       refine dX (bX (X:=X.comp N sc H2.objs.size s H fp) _ s8 σ6 H8 (.ref s.heap.objs.size) [v] (.ref s.heap.objs.size) [y] (fun _ H9=>H9=upd H8 s.heap.objs.size (.lst (acc++[v]))) I8 rfl (.cons r8 .nil) ⟨_,acc,v,rfl,rfl,hx,hz,rfl⟩) fun _ s9 ⟨_,H9,I9,_,q9⟩=>?_
       subst q9
       exact again I9 w8
 exact codeAny_compStart_list (loop _ rfl) (T.self _ 0 _ _ _ st0 (loop _ rfl))
theorem rz (c:jO X sc N src) (hc:X.calm=true) (hi:JI X tg iter wi)
   (hg:∀ C s H fp,JG (X.comp N sc C s H fp) tg g) (ht:∀ C s H fp,JF (X.comp N sc C s H fp) ifs tt) (he:∀ C s H fp,JE (X.comp N sc C s H fp) elt te)
   (hs:∀ x,foldedSetIterable iter X.env x=pure x:=by intro _;rfl):JE X (.ListComp elt [⟨tg,iter,ifs,0⟩] sc pos) (JJ X.K wi src g tt te):=⟨by
 intro pins s σ H Q I h
 rw [eval_ListComp]
 refine wpAny_comprehension_free (use:=none) rfl hs (oZ fun x hx hk=>?_) c.kind c.names ?_
 . obtain ⟨n,k⟩:=x
   cases hk
   exact I.ok.has _ (c.free hx)
 refine dX (hi.h pins s σ H _ I h) fun v s1 h1=>dX h1 fun P4 s2 h2=>?_
 obtain ⟨it,fp,tn,J,H2,e,I2,T,st2,f2,h2⟩:=h2
 subst e
 refine zI (R:=fun acc C=>compPost (model X.prog X.w) X.A X.xe none (EP X pins σ Q) acc C) (Q:=Q) c hc hg ht he I2 T st2 f2 h2 fun D C s' σ' H' hC I' q=>?_
 obtain ⟨m,hn,_⟩:=id I'.loc
 refine ⟨m,hn,fun h' sb=>?_⟩
 exact ⟨.ref D,H',I2.Ci f2 hC I' fun b hb=>sb.2 b hb,rfl,q⟩⟩
theorem Mn {i:Nat} {y:Str} {py Nr:Pos} (hN:X.N.Nodup) (hy:X.N[i]?=some y) (hx:Loc X.env.scope y) (c:jO X sc N src) (hc:X.calm=true) (hi:JI X tg iter wi)
   (hg:∀ C s H fp,JG (X.comp N sc C s H fp) tg g) (ht:∀ C s H fp,JF (X.comp N sc C s H fp) ifs tt) (he:∀ C s H fp,JE (X.comp N sc C s H fp) elt te)
   (hsw:swapsWith (.ListComp elt [⟨tg,iter,ifs,0⟩] sc pos) (some (.Name y py)) Nr.line X.env=pure true:=by rfl)
   (hf:X.fn y=true∨X.env.scope.names.lookup y=some .local:=by first | exact .inl rfl | exact .inr rfl | assumption)
   (hs:∀ x,foldedSetIterable iter X.env x=pure x:=by intro _;rfl):JS X (.Assign [.Name y py] (.ListComp elt [⟨tg,iter,ifs,0⟩] sc pos) Nr) (zp (JJ X.K wi src g tt te) (fH i)):=⟨by
 intro pins s σ H D I h
 rw [exec_Assign_Name_used _ _ _ _ hsw]
 refine wpAny_bind (wpAny_standAt (wpAny_bind ?_))
 show wpAny _ X.A (do let _ <- comprehension (.ListComp elt [⟨tg,iter,ifs,0⟩] sc pos) sc X.env _ (newList []) false (eval iter X.env) (some (assign (.Name y py) X.env))) _ _ s
 refine wpAny_bind (wpAny_mono (wpAny_comprehension_free (use:=some (assign (.Name y py) X.env)) (Q:=fun _ s'=>SP X pins D .next s') rfl hs (oZ fun x hx hk=>?_) c.kind c.names ?_) (fun _ s' hq=>wpAny_pure (wpAny_pure hq)) fun _ _ e=>e)
 . obtain ⟨n,k⟩:=x
   cases hk
   exact I.ok.has _ (c.free hx)
 refine dX (hi.h pins s σ H _ I h) fun v s1 h1=>dX h1 fun P4 s2 h2=>?_
 obtain ⟨it,fp,tn,J,H2,e,I2,T,st2,f2,h2⟩:=h2
 subst e
 refine zI (R:=fun acc C=>compPost (model X.prog X.w) X.A X.xe (some (assign (.Name y py) X.env)) (fun _ s'=>SP X pins D .next s') acc C) (Q:=fun v H'=>D.nx (σ.set i (some v)) H') c hc hg ht he I2 T st2 f2 h2 fun L C s' σ' H' hC I' q=>?_
 obtain ⟨m,hn,_⟩:=id I'.loc
 obtain ⟨o,es,ep,ho,r⟩:=id hn
 have I3:Inv X pins σ H' s':=I2.Ci (h':=s'.heap) f2 hC I' fun _ _=>rfl
 have cL:C≠X.env.locals:=Nat.ne_of_gt (Nat.lt_of_lt_of_le I2.lt hC)
 have cC:∀ x a,X.env.cells.lookup x=some a->a≠C:=fun x a e=>by
   obtain ⟨v,o,e',_⟩:=I2.cell x a e
   exact Nat.ne_of_lt (Nat.lt_of_lt_of_le (Heap.lt_size e') hC)
 have cP:∀ p∈X.pn++pins,p.1≠C:=fun p hp=>Nat.ne_of_lt (Nat.lt_of_lt_of_le (Heap.lt_size (I2.pin p hp).1) hC)
 have fr:H' C=none:=I'.free
 have I4:Inv X (pins++[(C,o)]) σ H' s':=I3.wL fun p hp=>(List.mem_append.mp hp).elim (fun z=>I3.pin p (List.mem_append_right _ z)) fun z=>by
   have e:p=(C,o):=by simpa using z
   subst e
   exact ⟨ho,fr,cL,I2.MO hC,fun v z=>by
     have r1:=r
     simp_all⟩
 show wpAny (model X.prog X.w) X.A (assign (.Name y py) X.env (.ref L)) _ _ s'
 refine dX (BQ (pos:=py) hN hy hx hf _ s' σ H' (.ref L) (.ref L) (fun σ1 H1=>D.nx σ1 H1/\H1=H') I4 rfl ⟨q,rfl⟩) fun _ s5 ⟨σ5,H5,I5,q5,e5⟩=>?_
 subst e5
 have pC:=(I5.pin (C,o) (List.mem_append_right _ (List.mem_append_right _ (by simp)))).1
 refine ⟨m,⟨o,es,ep,pC,r⟩,fun h' sb=>?_⟩
 exact ⟨σ5,H5,I5.m7.turned (t':=s5.toks) (fun b u hb e=>(sb.2 b hb).trans e) fr cL (.inr (Nat.le_trans I2.sz hC)) cC cP,q5⟩⟩
end
end L2
namespace L2
open PySem PySem.Spec PyProof.Rows
theorem uo {σ:St}:pick σ []=[]:=rfl
theorem uq {σ:St} {r:List (Option Nat)}:pick σ (none::r)=none::pick σ r:=rfl
theorem ur {σ:St} {j:Nat} {r:List (Option Nat)}:pick σ (some j::r)=(σ[j]?).join::pick σ r:=rfl
theorem join_some {α:Type} {o:Option α}:(some o).join=o:=rfl
section
variable {K:PySem.W.Frag} {g:TG} {tt:TT} {te:TE} {D a:Addr} {Q:Hp->Prop} {σ:St} {H:Hp} {xs:List V} {lo:Int} {n:Nat}
theorem wZ {J:It} (Pv:Nat->List V->St->Hp->Prop) (h0:Pv 0 [] σ H) (hgo:∀ i acc σ H,i < n->Pv i acc σ H->J.go i H) (tZ:∀ acc σ H,Pv n acc σ H->J.stop n H)
   (hs:∀ i acc σ H x H',i < n->Pv i acc σ H->J.KA i H x H'->g x σ H' fun σ2 H2=>tt σ2 H2 fun b H3=>if b=true then te σ2 H3 fun v H4=>H4 D=some (.lst acc)/\acc.length < sizeLine/\Pv (i + 1) (acc++[v]) σ2 (upd H4 D (.lst (acc++[v]))) else Pv (i + 1) acc σ2 H3)
   (hd:∀ acc σ H,Pv n acc σ H->Q H):dj J g tt te D Q σ H:=by
 refine ⟨fun i m acc σ H=>Pv i acc σ H/\i<=n/\m=n - i,⟨n,h0,Nat.zero_le _,by omega⟩,fun i m acc σ H ⟨h,hi,hm⟩=>?_⟩
 by_cases c:i < n
 . right
   exact ⟨hgo i acc σ H c h,Pv (i + 1),fun acc' σ' H' q=>⟨n - (i + 1),by omega,q,by omega,rfl⟩,fun x H' hy=>hs i acc σ H x H' c h hy⟩
 . left
   have e:i=n:=by omega
   subst e
   exact ⟨tZ acc σ H h,hd acc σ H h⟩
theorem Ff (Pv:Nat->List V->St->Hp->Prop) (h0:Pv 0 [] σ H)
   (hs:∀ i acc σ H,i < n->Pv i acc σ H->g (.int (lo + i)) σ H fun σ2 H2=>tt σ2 H2 fun b H3=>if b=true then te σ2 H3 fun v H4=>H4 D=some (.lst acc)/\acc.length < sizeLine/\Pv (i + 1) (acc++[v]) σ2 (upd H4 D (.lst (acc++[v]))) else Pv (i + 1) acc σ2 H3)
   (hd:∀ acc σ H,Pv n acc σ H->Q H):dj (BR lo n) g tt te D Q σ H:=by
 refine wZ (n:=n) Pv h0 (fun i _ _ _ h _=>h) (fun _ _ _ _=>Nat.le_refl _) (fun i acc σ H x H' hi h hy=>?_) hd
 obtain ⟨rfl,rfl⟩:=hy
 exact hs i acc σ _ hi h
theorem ow (Pv:Nat->List V->St->Hp->Prop) (h0:Pv 0 [] σ H) (hl:∀ i acc σ H,i<=xs.length->Pv i acc σ H->aZ K H a xs)
   (hs:∀ i x acc σ H,xs[i]?=some x->Pv i acc σ H->g x σ H fun σ2 H2=>tt σ2 H2 fun b H3=>if b=true then te σ2 H3 fun v H4=>H4 D=some (.lst acc)/\acc.length < sizeLine/\Pv (i + 1) (acc++[v]) σ2 (upd H4 D (.lst (acc++[v]))) else Pv (i + 1) acc σ2 H3)
   (hd:∀ acc σ H,Pv xs.length acc σ H->Q H):dj (AB K a) g tt te D Q σ H:=by
 refine wZ (n:=xs.length) Pv h0 (fun i acc σ H hi h=>⟨xs,_,hl i acc σ H (Nat.le_of_lt hi) h,List.getElem?_eq_getElem hi⟩) (fun acc σ H h=>⟨xs,hl _ acc σ H (Nat.le_refl _) h,Nat.le_refl _⟩) (fun i acc σ H x H' hi h hy=>?_) hd
 obtain ⟨rfl,hy⟩:=hy
 exact hs i x acc σ _ (hy xs (hl i acc σ _ (Nat.le_of_lt hi) h)) h
theorem Lf (Pv:Nat->List V->St->Hp->Prop) (h0:Pv 0 [] σ H) (hl:∀ i acc σ H,i<=xs.length->Pv i acc σ H->om K H a xs)
   (hs:∀ i x acc σ H,xs[i]?=some x->Pv i acc σ H->g x σ H fun σ2 H2=>tt σ2 H2 fun b H3=>if b=true then te σ2 H3 fun v H4=>H4 D=some (.lst acc)/\acc.length < sizeLine/\Pv (i + 1) (acc++[v]) σ2 (upd H4 D (.lst (acc++[v]))) else Pv (i + 1) acc σ2 H3)
   (hd:∀ acc σ H,Pv xs.length acc σ H->Q H):dj (Mi K a) g tt te D Q σ H:=by
 refine wZ (n:=xs.length) Pv h0 (fun i acc σ H hi h=>⟨xs,_,hl i acc σ H (Nat.le_of_lt hi) h,List.getElem?_eq_getElem hi⟩) (fun acc σ H h=>⟨xs,hl _ acc σ H (Nat.le_refl _) h,Nat.le_refl _⟩) (fun i acc σ H x H' hi h hy=>?_) hd
 obtain ⟨rfl,hy⟩:=hy
 exact hs i x acc σ _ (hy xs (hl i acc σ _ (Nat.le_of_lt hi) h)) h
theorem uu {ta:TA} {src:List (Option Nat)} {Q:VK}:JJ K (BU ta) src g tt te σ H Q=ta σ H (fun vs H1=>∃ j:Int,vs=[.int j]/\-(2 ^ 62)<=j/\j < 2 ^ 62/\∀ D,L2.new K H1 D->dj (BR 0 j.toNat) g tt te D (fun H'=>Q (.ref D) H') (pick σ src) (upd H1 D (.lst []))):=rfl
theorem uv {ta:TA} {src:List (Option Nat)} {Q:VK}:JJ K (BV ta) src g tt te σ H Q=ta σ H (fun vs H1=>∃ i j:Int,vs=[.int i,.int j]/\(-(2 ^ 62)<=i/\i < 2 ^ 62/\-(2 ^ 62)<=j/\j < 2 ^ 62)/\∀ D,L2.new K H1 D->dj (BR i (j - i).toNat) g tt te D (fun H'=>Q (.ref D) H') (pick σ src) (upd H1 D (.lst []))):=rfl
theorem uw {tl:TE} {src:List (Option Nat)} {Q:VK}:JJ K (BS K tl) src g tt te σ H Q=tl σ H (fun x H1=>∃ a,x=.ref a/\(∃ xs,aZ K H1 a xs)/\∀ D,L2.new K H1 D->dj (AB K a) g tt te D (fun H'=>Q (.ref D) H') (pick σ src) (upd H1 D (.lst []))):=rfl
theorem w9 {tl:TE} {src:List (Option Nat)} {Q:VK}:JJ K (HQ K tl) src g tt te σ H Q=tl σ H (fun x H1=>∃ a,x=.ref a/\(∃ xs,om K H1 a xs)/\∀ D,L2.new K H1 D->dj (Mi K a) g tt te D (fun H'=>Q (.ref D) H') (pick σ src) (upd H1 D (.lst []))):=rfl
end
end L2
namespace L2
open PySem PySem.Spec PyProof.Rows
section
variable {X:Cx} {es:List Expr} {t:TA} {pos:Pos} (K:PySem.W.Frag)
theorem Lg {k} (h:JA X es t) (hk:X.K=K:=by rfl):JE X (.Tuple es k pos) (zG K t):=by subst hk;exact dN h
theorem xg {k:Nat} {t:zo} {n:Nat} (hc:X.calm=true) (h:Iw X es t) (hn:(assignEach es X.env).length=n:=by rfl) (tZ:(assignEach es X.env).findIdx? (·.1)=none:=by rfl) (hk:X.K=K:=by rfl):JG X (.Tuple es k pos) (v9 K n t):=by subst hk;exact fM hc h hn tZ
end
end L2
namespace L2
open PySem PySem.Spec PyProof.Rows
section
variable {X:Cx} {pins:List (Addr×Obj)} {σ:St} {H:Hp} {s:Shared}
theorem Inv.nA (I:Inv X pins σ H s) {a:Addr} {o:HO} (h:H a=some o):lB X.K a=none:=by
 cases e:lB X.K a with
 | none=>rfl
 | some xs=>
   obtain ⟨ob,q⟩:=v8 e
   rw [(I.bs a ob (I.ok.mod.Ju a ob q)).2] at h
   cases h
end
theorem j5.kp {K:PySem.W.Frag} {p D:Addr} {H H':Hp} {o:HO} (k:j5 K p D (upd H D o) H') (n:L2.new K H D):Kp K p H H':=by
 refine ⟨fun q u e m=>?_,fun b ys e m=>k.mod b ys ((Ext.new n).mod b ys e m) m⟩
 have d:q≠D:=bq e n.1
 exact k.keep q u (by rw [aV d];exact e) m d
theorem j5.refl {K:PySem.W.Frag} {p D:Addr} {H:Hp}:j5 K p D H H:=⟨fun _ _ h _ _=>h,fun _ _ h _=>h⟩
end L2
set_option Elab.async false
set_option linter.all false
set_option maxRecDepth 100000
namespace L2
open PySem PySem.Spec PyProof.Rows
def gk {α:Type} (n m:Nat) (us ws:List α):List α:=if us.length=n/\ws.length=m then us++ws else []
theorem Fg {α:Type} {a b:α}:gk 1 1 [a] [b]=[a,b]:=rfl
theorem Fi {α:Type} {a b c d:α}:gk 3 1 [a,b,c] [d]=[a,b,c,d]:=rfl
section
variable {X:Cx} {x:Str} {k n m:Nat} {ps ks:List Str} {za:List V} {sp:Sp} {e:Expr} {es:List Expr} {kws:List Keyword} {t tk:TA} {te:TE} {p pos SK:Pos} {nm:Option Str}
theorem xh {gV:List V->List V->List V} {E:XK} {σ:St} {H:Hp} {Q:VK}:KP sp gV E t tk σ H Q=t σ H (fun vs H1=>tk σ H1 fun zs H2=>Cal sp (gV vs zs) H2 Q ⟨0⟩ E):=rfl
end
end L2
namespace L2
open PySem PySem.Spec PyProof.Rows
end L2
namespace L2
open PySem PySem.Spec PyProof.Rows
section
variable {K:PySem.W.Frag} {s:Shared} {fd:FuncData} {args:Args} {binds:List (Str×Value)} {d:Addr} {name:Str} {v cls:Value} {es:Array DictEntry} {ep:Nat} {od:Option Addr} {sl:Array (Option Value)} {α β:Type}
end
end L2
set_option Elab.async false
set_option linter.all false
set_option maxRecDepth 100000
namespace L2
open PySem PySem.Spec PyProof.Rows
section
variable {X:Cx} {o lo hi e:Expr} {to tl th te:TE} {p pos:Pos}
theorem zJ:∀ {xs:List V} {us:List Value},Vals xs us->Vals xs.reverse us.reverse
 | _,_,.nil=>.nil
 | _,_,.cons r rr=>by rw [List.reverse_cons,List.reverse_cons];exact (zJ rr).append (.cons r .nil)
def IE (K:PySem.W.Frag) (te:TE):TE:=fun σ H Q=>te σ H fun x H1=>∃ a xs,x=.ref a/\aZ K H1 a xs/\∀ p,L2.new K H1 p->Q (.ref p) (upd H1 p (.lst xs.reverse))
theorem S1 {j1:Nat} {p1 p2 p3:Pos} (he:JE X e te):JE X (.Subscript e (.Slice none none (some (.UnaryOp .USub (.Constant (.int 1) j1 p1) p2)) p3) pos) (IE X.K te):=⟨by
 intro pins s σ H Q I h
 refine Subscript_ (dX (he.h pins s σ H _ I h) fun v s1 ⟨x,H1,I1,r1,q1⟩=>?_)
 refine wpAny_Slice ?_
 rw [evalPart_none]
 refine wpAny_pure (wpAny_pure ?_)
 rw [evalPart_some]
 refine dX ((eun (pos:=p2) EG (ei (X:=X) (i:=1) (j:=j1) (pos:=p1))).h pins s1 σ H1 (fun y H2=>y=.int (-1)/\H2=H1) I1 ⟨1,rfl,rfl,rfl⟩) fun vs s2 ⟨y,H2,I2,r2,q2,q3⟩=>?_
 subst q2 q3
 obtain ⟨tk,rfl⟩:=r2
 obtain ⟨a,xs,rfl,hx,q⟩:=q1
 cases r1
 have I4:Inv X pins σ H2 { s2 with heap:=s2.heap.push { cls:=.type "slice",data:=.fields #[.none,.none,.int (-1) tk] } }:=I2.kept (t':=s2.toks) fun b ob q=>Heap.get?_push_of_some _ q
 obtain ⟨its,r,ht,hz⟩:=I4.list hx
 have hlen:=r.length
 show wpAny (model X.prog X.w) X.A (subscriptTail e (.Slice none none (some (.UnaryOp .USub (.Constant (.int 1) j1 p1) p2)) p3) (.ref a) (.ref s2.heap.objs.size)) (EP X pins σ Q) X.xe { s2 with heap:=s2.heap.push { cls:=.type "slice",data:=.fields #[.none,.none,.int (-1) tk] } }
 refine tail_any (ops:=[.ref a,.ref s2.heap.objs.size]) ht.isList.typeIs slot_list_getitem.lookup ?_ (by with_unfolding_all rfl)
 refine wpAny_getItem_list_slice ht.isList (Heap.IsSliceOf.new ..) .none .none (.int _ _) (by decide) ?_ (by rw [List.size_toArray] <;> omega)
 rw [PySem.W.krv_pick]
 exact ⟨.ref _,_,I4.Nb (t':=s2.toks) (zJ r) (by rw [List.length_reverse];exact hz),rfl,q _ I4.new⟩⟩
end
end L2
namespace L2
open PySem PySem.Spec PyProof.Rows
section
variable {X:Cx}
end
end L2
set_option Elab.async false
set_option linter.all false
set_option maxRecDepth 100000
namespace L2
open PySem PySem.Spec PyProof.Rows
section
variable {elt tg iter tg1 JK:Expr} {ifs Nu:List Expr} {scope:Scope} {pos:Pos} {it acc:Value} {env:Env}
variable {prog:Program} {w:World} {A:Around} {R:Result->Shared->Prop} {s:Shared}
end
section
variable {Y:Cx} {elt tg iter tg1 JK:Expr} {ifs Nu:List Expr} {scope:Scope} {pos:Pos} {g:TG} {tt:TT} {te:TE}
end
section
variable {X:Cx} {sc:Scope} {N:List Str} {src:List (Option Nat)} {tg iter tg1 JK elt:Expr} {ifs Nu:List Expr} {wi wi1:TI} {g g1:TG} {tt tt1:TT} {te:TE} {pos:Pos}
end
section
variable {K:PySem.W.Frag} {g:TG} {tt:TT} {body:TBd} {a:Addr} {ahA:List V} {F:List V->St->Hp->Prop} {σ:St} {H:Hp} {xs:List V} {n:Nat}
end
end L2
set_option Elab.async false
set_option linter.all false
set_option maxRecDepth 100000
namespace L2
open PySem PySem.Spec PyProof.Rows
theorem IF {xs:List V} {us:List Value} (h:Vals xs us):∀ {i:Nat} {u:Value},us[i]?=some u->∃ x,xs[i]?=some x/\RelV x u:=by
 induction h with
 | nil=>intro i u e;simp at e
 | cons r rr ih=>
   intro i u e
   cases i with
   | zero=>simp only [List.getElem?_cons_zero,Option.some.injEq] at e ⊢;exact ⟨_,rfl,e ▸ r⟩
   | succ i=>simp only [List.getElem?_cons_succ] at e ⊢;exact ih e
section
variable {X:Cx}
theorem range_all {bs:List Bool}:(List.range bs.length).all (fun i=>bs.getD i true)=bs.all id:=by
 induction bs with
 | nil=>rfl
 | cons b bs ih=>
   rw [List.length_cons,List.range_succ_eq_map,List.all_cons,List.all_map,List.all_cons]
   have e:((fun i=>(b::bs).getD i true) ∘ Nat.succ)=fun i=>bs.getD i true:=by funext i;simp
   rw [e,ih]
   rfl
theorem zK {P:Program} {w:World} {A:Around} {bs:List Bool} {us:List Value} (r:Vals (bs.map V.bl) us):TruthOf P w A (fun i v=>us.toArray[i]?=some v) (fun i=>bs.getD i true):=by
 intro i v s Q E hv hQ
 rw [List.getElem?_toArray] at hv
 obtain ⟨x,hx,rx⟩:=IF r hv
 rw [List.getElem?_map] at hx
 obtain ⟨b,hb,rfl⟩:=Option.map_eq_some_iff.mp hx
 cases rx
 have e:bs.getD i true=b:=by rw [List.getD_eq_getElem?_getD,hb];rfl
 dsimp only at hQ
 rw [e] at hQ
 exact wpAny_truthy_bool hQ
theorem kept_iter {s:Shared} {l:Addr} {h':Heap} (hk:∀ b o,b∉[s.heap.objs.size]->(s.heap.push { cls:=.type "list_iterator",data:=.fields #[.ref l,.int 0 0] }).get? b=some o->h'.get? b=some o):∀ b o,s.heap.get? b=some o->h'.get? b=some o:=fun b o e=>by
 refine hk b o (fun m=>?_) (Heap.get?_push_of_some _ e)
 have q:b=s.heap.objs.size:=by simpa using m
 exact Nat.lt_irrefl _ (q ▸ Heap.lt_size e)
theorem gW (hc:X.calm=true):gx X (.builtin "all") (fun xs H Q=>∃ (p:Addr) (bs:List Bool),xs=[.ref p]/\aZ X.K H p (bs.map V.bl)/\Q (.bl (bs.all id)) H):=by
 intro pins s σ H xs us Q I r h
 obtain ⟨p,bs,rfl,hx,q⟩:=h
 obtain ⟨u,rfl,ru⟩:=vals1 r
 cases ru
 obtain ⟨its,rv,ht,hz⟩:=I.list hx
 have hl:s.heap.IsList p its.toArray:=ht.isList
 have qR:p < s.heap.objs.size:=by obtain ⟨_,e,_⟩:=hl;exact Heap.lt_size e
 refine call_all_walk (wpAny_pyIter_list hl ?_)
 refine ⟨_,_,_,_,_,_,fun i=>bs.getD i true,rfl,Walks.list (A:=X.A.in1) (I.ok.hd hc) _ p (Nat.ne_of_lt qR) its.toArray,⟨⟨_,Heap.get?_push_size _ rfl,rfl,rfl⟩,hl.push _⟩,zK rv,fun h' tk hk=>?_⟩
 have el:its.toArray.size=bs.length:=by rw [List.size_toArray,<- rv.length,List.length_map]
 rw [el,range_all]
 exact ⟨.bl _,H,I.kept (kept_iter hk),rfl,q⟩
end
section
variable {P:Program} {w:World} {A:Around} {E:Value->Shared->Prop} {s:Shared} {b0:Array Keyed}
end
section
variable {X:Cx}
def rA (K:PySem.W.Frag) (t:TA):TE:=fun σ H Q=>t σ H fun vs H1=>∃ (p:Addr) (ns:List Int),vs=[.ref p]/\aZ K H1 p (ns.map V.int)/\ns.Pairwise (·≥·)/\∀ D,L2.new K H1 D->Q (.ref D) (upd H1 D (.lst (ns.map V.int)))
end
end L2
set_option Elab.async false
set_option linter.all false
set_option maxRecDepth 100000
namespace L2
open PySem PySem.Spec PyProof.Rows
def S2 (xs:Array Nat):Prop:=xs.toList.Pairwise (· < ·)
structure Fj (t:SetTable):Prop where
 bare:t.dummies=#[]
 rise:S2 t.place
section
variable {xs:Array Nat} {j:Nat}
end
theorem Fj.slot {t:SetTable} (h:Fj t) {j:Nat} (e:t.slot j=.empty):t.place[SetTable.below t.place j]?≠some j:=by
 intro c
 unfold SetTable.slot at e
 simp only [c,beq_self_eq_true,if_true] at e
 cases e
def Nv (es:Array (Int×Value)):List Int:=es.toList.map fun e=>numOf e.2
structure Nx (P:Program) (w:World) (h:Heap) (a:Addr) (L:Bool) (M:Int->Prop) (n:Nat) (es:Array (Int×Value)) (ep:Nat) (t:SetTable):Prop where
 at_:∃ o,h.get? a=some o/\o.ExactSet/\o.data=.set es ep t
 elems:ElemsOf (intKind P w) es.toList
 nd:(Nv es).Nodup
 mem:∀ k,k∈Nv es↔M k
 len:es.size<=n
 fits:t.fits es.size=true
 tab:Fj t
 led:t.led=L
def Lh (P:Program) (w:World) (h:Heap) (a:Addr) (L:Bool) (M:Int->Prop) (n:Nat):Prop:=∃ es ep t,Nx P w h a L M n es ep t
section
variable {P:Program} {w:World} {A:Around} {E:Value->Shared->Prop} {s:Shared}
theorem Lh.keep {h h':Heap} {a:Addr} {L:Bool} {M:Int->Prop} {n:Nat} (q:Lh P w h a L M n) (k:∀ o,h.get? a=some o->h'.get? a=some o):Lh P w h' a L M n:=by
 obtain ⟨es,ep,t,x⟩:=q
 obtain ⟨o,h1,h2⟩:=x.at_
 exact ⟨es,ep,t,⟨⟨o,k o h1,h2⟩,x.elems,x.nd,x.mem,x.len,x.fits,x.tab,x.led⟩⟩
end
section
variable {P:Program} {w:World} {A:Around} {R:Result->Shared->Prop} {I S:Addr} {fp wr:List Addr} {G:Array GenState->Array GenState->Prop} {n:Nat} {Pv:Nat->Value->Prop} {St:Nat->Shared->Prop} {L:Bool}
end
section
variable {P:Program} {w:World} {A:Around} {E:Value->Shared->Prop} {s:Shared}
end
end L2
set_option Elab.async false
set_option linter.all false
set_option maxRecDepth 100000
namespace L2
open PySem PySem.Spec PyProof.Rows
def Li (h:Heap) (S:Addr) (es:Array (Int×Value)) (ep:Nat) (t:SetTable):Prop:=∃ o,h.get? S=some o/\o.data=.set es ep t
section
variable {P:Program} {w:World} {A:Around} {E:Value->Shared->Prop} {s:Shared} {it S:Addr} {es:Array (Int×Value)} {ep i n:Nat} {t:SetTable} {R:Option Value->Shared->Prop}
end
section
variable {P:Program} {w:World} {A:Around} {it S T:Addr} {es:Array (Int×Value)} {ep:Nat} {t:SetTable}
theorem Li.keep {h h':Heap} (x:Li h S es ep t) (k:∀ o,h.get? S=some o->h'.get? S=some o):Li h' S es ep t:=by
 obtain ⟨o,g,d⟩:=x
 exact ⟨o,k o g,d⟩
end
section
variable {P:Program} {w:World} {A:Around} {E:Value->Shared->Prop} {s:Shared} {S:Addr} {L:Bool} {M:Int->Prop} {n:Nat} {es:Array (Int×Value)} {ep:Nat} {t:SetTable}
end
end L2
set_option Elab.async false
set_option linter.all false
set_option maxRecDepth 100000
namespace L2
open PySem PySem.Spec PyProof.Rows
section
variable {P:Program} {w:World} {A:Around} {E:Value->Shared->Prop} {s:Shared} {S:Addr} {M:Int->Prop} {n:Nat}
end
section
variable {X:Cx} {pins:List (Addr×Obj)} {σ:St} {H:Hp} {s:Shared}
end
end L2
set_option Elab.async false
set_option linter.all false
set_option maxRecDepth 100000
namespace L2
open PySem PySem.Spec PyProof.Rows
theorem Inv.xj {X:Cx} {pins:List (Addr×Obj)} {σ:St} {H:Hp} {s:Shared} {h':Heap} {ch:List Addr} {T:Addr} {o:HO} {t':Nat} (I:Inv X pins σ H s) (k:∀ b u,b∉ch->s.heap.get? b=some u->h'.get? b=some u) (hf:∀ b∈ch,qT X pins H b)
   (hp:s.heap.objs.size<=T) (new:dW X.prog X.w (upd H T o) h' T o):Inv X pins σ (upd H T o) { s with heap:=h',toks:=t' }:=by
 have fr:=I.dz.fresh hp
 have out:∀ b u,H b=some u->b∉ch:=fun b u e z=>by rw [(hf b z).1] at e;cases e
 refine I.step (g':=s.gens) (d':=s.drawn) (ch:=ch) (fun b hb=>⟨(hf b hb).2.2.2.1,(hf b hb).2.1,(hf b hb).2.2.2.2.1,(hf b hb).2.2.2.2.2⟩) (fun b u _ _ hc e _=>k b u hc e) (fun b u _ _ hc e _=>⟨u.slots,k b u hc e⟩)
   (fun b u _ e z=>by rw [aV (Nat.ne_of_lt (Nat.lt_of_lt_of_le (Heap.lt_size e) hp))];exact z) (fun b u hc e=>⟨u,k b u hc e⟩) (fun b xs e=>by rw [aV (bq e fr)];exact e) (fun b u v e=>by rw [aV (bq e fr)];exact e)
   (fun b ps e=>⟨#[],by rw [aV (bq e fr),e];simp⟩) (fun m hm=>?_) (fun b u e=>?_) I.bare
 . obtain ⟨ob,es,ep,ho,r⟩:=hm
   exact ⟨ob,es,ep,k _ ob (fun z=>(hf _ z).2.1 rfl) ho,r⟩
 . by_cases hb:b=T
   . subst hb
     rw [ah] at e
     cases e
     exact new
   . rw [aV hb] at e
     refine (I.dz b u e).sy (fun c v hc q=>k c v ?_ q) (fun c q=>by rw [aV (bq q fr)];exact q) fun c xs q=>by rw [aV (bq q fr)];exact q
     rcases hc with z | z
     . rw [z];exact out b u e
     . exact out c _ z
section
variable {X:Cx}
theorem nB:gx X (.type "tuple") (fun xs H Q=>∃ (p:Addr) (ys:List V),xs=[.ref p]/\H p=some (.lst ys)/\∀ l,L2.new X.K H l->Q (.ref l) (upd H l (.tup ys))):=by
 intro pins s σ H xs us Q I r h
 obtain ⟨p,ys,e,hq,q⟩:=h
 refine dX (vp pins s σ H xs us (fun v H'=>∃ l,H l=none/\v=.ref l/\H'=upd H l (.tup ys)) I r ⟨p,ys,e,.inl ⟨aZ.of hq,fun l hl=>⟨l,hl,rfl,rfl⟩⟩⟩) fun u s' ⟨v,H',I',rv,l,hl,e1,e2⟩=>?_
 subst e1 e2
 exact ⟨_,_,I',rv,q l ⟨hl,I'.nA ah⟩⟩
end
section
variable {K:PySem.W.Frag} {g:TG} {tt:TT} {te:TE} {D a:Addr} {Q:Hp->Prop} {σ:St} {H:Hp} {xs:List V}
end
section
variable {X:Cx}
end
end L2
set_option Elab.async false
set_option linter.all false
set_option maxRecDepth 100000
namespace L2
open PySem PySem.Spec PyProof.Rows
theorem Inv.Cj {X:Cx} {pins:List (Addr×Obj)} {σ:St} {H:Hp} {s:Shared} {h':Heap} {ch:List Addr} {t':Nat} (I:Inv X pins σ H s) (k:∀ b u,b∉ch->s.heap.get? b=some u->h'.get? b=some u) (hf:∀ b∈ch,qT X pins H b):
   Inv X pins σ H { s with heap:=h',toks:=t' }:=by
 have out:∀ b u,H b=some u->b∉ch:=fun b u e z=>by rw [(hf b z).1] at e;cases e
 refine I.step (g':=s.gens) (d':=s.drawn) (ch:=ch) (fun b hb=>⟨(hf b hb).2.2.2.1,(hf b hb).2.1,(hf b hb).2.2.2.2.1,(hf b hb).2.2.2.2.2⟩) (fun b u _ _ hc e _=>k b u hc e) (fun b u _ _ hc e _=>⟨u.slots,k b u hc e⟩)
   (fun _ _ _ _ z=>z) (fun b u hc e=>⟨u,k b u hc e⟩) (fun _ _ e=>e) (fun _ _ _ e=>e)
   (fun b ps e=>⟨#[],by rw [e];simp⟩) (fun m hm=>?_) (fun b u e=>?_) I.bare
 . obtain ⟨ob,es,ep,ho,r⟩:=hm
   exact ⟨ob,es,ep,k _ ob (fun z=>(hf _ z).2.1 rfl) ho,r⟩
 . refine (I.dz b u e).sy (fun c v hc q=>k c v ?_ q) (fun _ q=>q) fun _ _ q=>q
   rcases hc with z | z
   . rw [z];exact out b u e
   . exact out c _ z
def Mp (K:PySem.W.Frag) (a b:Addr):It:=⟨fun i H=>∃ xs ys x y,aZ K H a xs/\aZ K H b ys/\xs[i]?=some x/\ys[i]?=some y,fun i H x H'=>∃ T v u,L2.new K H T/\(∀ xs,aZ K H a xs->xs[i]?=some v)/\(∀ ys,aZ K H b ys->ys[i]?=some u)/\x=.ref T/\H'=upd H T (.tup [v,u]),fun i H=>∃ xs ys,aZ K H a xs/\aZ K H b ys/\(xs.length<=i∨ys.length<=i)⟩
theorem Fl {P:Program} {w:World} {K:PySem.W.Frag} {es:List Expr} {k:Nat} {tp:Pos} (a b z TI TO i1 i2:Addr) (D:ZipApart z TI TO i1 i2 a b):Turn P w K (.Tuple es k tp) (Mp K a b) [z,TI,TO,i1,i2] z
   (fun i h=>IsZip h z TI TO .none/\IsPair h TI (.ref i1) (.ref i2)/\(∃ p q,IsPair h TO p q)/\h.IsListIter i1 a i/\h.IsListIter i2 b i) where
 mem:=by simp
 obj:=fun i h st c hc=>by
   obtain ⟨g1,g2,⟨p,q,g3⟩,⟨o4,g4,c4,d4⟩,⟨o5,g5,c5,d5⟩⟩:=st
   simp only [List.mem_cons,List.not_mem_nil,or_false] at hc
   rcases hc with rfl | rfl | rfl | rfl | rfl
   . exact ⟨_,g1,fun v z=>by cases z⟩
   . exact ⟨_,g2,fun v z=>by cases z⟩
   . exact ⟨_,g3,fun v z=>by cases z⟩
   . exact ⟨o4,g4,fun v z=>by rw [d4] at z;cases z⟩
   . exact ⟨o5,g5,fun v z=>by rw [d5] at z;cases z⟩
 keep:=fun i h h' st kk=>by
   obtain ⟨g1,g2,⟨p,q,g3⟩,g4,g5⟩:=st
   exact ⟨kk z (by simp) _ g1,kk TI (by simp) _ g2,⟨p,q,kk TO (by simp) _ g3⟩,g4.at fun o g=>kk i1 (by simp) o g,g5.at fun o g=>kk i2 (by simp) o g⟩
 item:=by
   intro X hP hw hK hc i pins s σ H E I hf st hg
   subst hP hw hK
   obtain ⟨xs,ys,x,y,hq,hq',hx,hy⟩:=hg
   obtain ⟨its,rv,p,hz⟩:=I.list hq
   obtain ⟨its',rv',p',hz'⟩:=I.list hq'
   obtain ⟨u,hu,ru⟩:=rv.get hx
   obtain ⟨u',hu',ru'⟩:=rv'.get hy
   obtain ⟨g1,g2,⟨a',b',g3⟩,g4,g5⟩:=st
   refine wpAny_pyNext_zip_item D g1 g2 g3 g4 g5 p.isList p'.isList (x:=u) (y:=u') (by simpa using hu) (by simpa using hu') fun h1 hz1 hTO1 hi1 hi2 gT sz kp=>?_
   refine ⟨_,rfl,wpAny_letOwnedTupleGo_zip hz1 fun h2 hz2 sb=>?_⟩
   have ltZ:z < s.heap.objs.size:=Heap.lt_size g1
   have Ny:h2.get? s.heap.objs.size=some { cls:=.type "tuple",data:=.seq #[u,u'] }:=(sb.2 _ (Nat.ne_of_gt ltZ)).trans gT
   have I1:Inv X pins σ (upd H s.heap.objs.size (.tup [x,y])) { s with heap:=h2,toks:=s.toks }:=by
     refine I.xj (ch:=[z,TI,TO,i1,i2]) (fun b o hb g=>?_) hf (Nat.le_refl _) ⟨(show 2<=sizeLine by decide),[u,u'],.cons ru (.cons ru' .nil),_,Ny,rfl,_,rfl⟩
     simp only [List.mem_cons,List.not_mem_nil,or_false,not_or] at hb
     exact (sb.2 b hb.1).trans (kp b o hb.1 hb.2.2.1 hb.2.2.2.1 hb.2.2.2.2 g)
   have kT:∀ c o,c≠z->h1.get? c=some o->h2.get? c=some o:=fun c o n g=>(sb.2 c n).trans g
   refine ⟨.ref s.heap.objs.size,_,I1,rfl,⟨_,x,y,⟨I.dz.fresh (Nat.le_refl _),I1.nA ah⟩,fun ys hy=>by rw [I.tY hy hq];exact hx,fun zs hy'=>by rw [I.tY hy' hq'];exact hy,rfl,rfl⟩,
     ⟨hz2,kT _ _ D.TIz (kp _ _ D.TIz D.TITO D.TIi1 D.TIi2 g2),⟨_,_,kT _ _ D.TOz hTO1⟩,hi1.at fun o g=>kT _ o D.i1z g,hi2.at fun o g=>kT _ o D.i2z g⟩,fun c hc=>?_⟩
   have S3:c < s.heap.objs.size:=by
     obtain ⟨o4,e4,_⟩:=g4
     obtain ⟨o5,e5,_⟩:=g5
     simp only [List.mem_cons,List.not_mem_nil,or_false] at hc
     rcases hc with rfl | rfl | rfl | rfl | rfl
     . exact ltZ
     . exact Heap.lt_size g2
     . exact Heap.lt_size g3
     . exact Heap.lt_size e4
     . exact Heap.lt_size e5
   rw [aV (Nat.ne_of_lt S3)]
   exact (hf c hc).1
 done:=by
   intro X hP hw hK hc i pins s σ H E I hf st hg
   subst hP hw hK
   obtain ⟨xs,ys,hq,hq',hx⟩:=hg
   obtain ⟨its,rv,p,hz⟩:=I.list hq
   obtain ⟨its',rv',p',hz'⟩:=I.list hq'
   obtain ⟨g1,g2,⟨a',b',g3⟩,g4,g5⟩:=st
   have hl:=rv.length
   have hl':=rv'.length
   refine wpAny_pyNext_zip_end (I.ok.hd hc) D g1 g2 g3 g4 g5 p.isList p'.isList ?_ fun h' kp=>⟨rfl,I.Cj (t':=s.toks) (ch:=[z,TI,TO,i1,i2]) (fun b o hb g=>?_) hf⟩
   . rcases hx with e | e
     . exact .inl (by simp;omega)
     . exact .inr (by simp;omega)
   . simp only [List.mem_cons,List.not_mem_nil,or_false,not_or] at hb
     exact kp b o hb.1 hb.2.2.1 hb.2.2.2.1 hb.2.2.2.2 g
 self:=fun _ _ _ _ _ st h=>wpAny_pyIter_zip st.1 h
section
variable {X:Cx}
end
section
variable {K:PySem.W.Frag} {ta:TA} {g:TG} {tb:TS} {D:Ends} {σ:St} {H:Hp} {a b:Addr} {xs ys:List V}
theorem Nz {c:TT} (Pv:Nat->St->Hp->Prop) (h0:∃ m,Pv m σ H)
   (hs:∀ m σ H,Pv m σ H->c σ H fun b H1=>if b=true then ∃ N:St->Hp->Prop,(∀ σ' H',N σ' H'->∃ m',m' < m/\Pv m' σ' H')/\tb { D with nx:=N,ct:=N,bk:=D.nx } σ H1 else D.nx σ H1):AA c tb D σ H:=⟨Pv,h0,hs⟩
end
section
variable {X:Cx}
end
mutual
def bare:PyData->Bool
 | .none=>true
 | .int i=>decide (i.natAbs.log2 < 1920)
 | .list ds=>xm ds
 | .tuple ds=>xm ds
 | _=>false
def xm:List PyData->Bool
 | []=>true
 | d::ds=>bare d&&xm ds
end
section
variable {X:Cx}
end
end L2
set_option Elab.async false
set_option linter.all false
set_option maxRecDepth 100000
namespace PySem
open Sem (wp)
theorem ux:typeLookup (.type "list") "keys"=pure none:=am_miss_of_fast (by decide +kernel)
theorem pM {prog:Program} {w:World} {A:Around} {E:Value->Shared->Prop} {s:Shared} {a:Addr} {o:Obj} {xs:Array Value} {k:Nat} {name:Str} {Q:Option Value->Shared->Prop}
   (hx:s.heap.get? a=some o) (hc:o.cls=.type "list") (NB:o.data=.seq xs k) (hd:o.dict=none) (NC:typeLookup (.type "list") name=pure none) (ND:(["__module__","__name__","__qualname__","__doc__","__annotations__"]:List Str).contains name=false) (hA:A.handled=none)
   (h:∀ h' tk e,Heap.NewExcOf s.heap h' e "AttributeError"->Q none { s with heap:=h',toks:=tk }) (hsz:name.length + 100<=sizeLine:=by size_fits):
   wpAny (model prog w) A (getAttr? (.ref a) name) Q E s:=by
 obtain ⟨c,dct,dat,sl⟩:=o
 simp only at hc NB hd
 subst hc NB hd
 obtain ⟨hp,g,d,tk,os⟩:=s
 have hT:∀ tk',(⟨hp,g,d,tk',os⟩:Shared).TypeIs (.ref a) "list":=fun _=>⟨_,hx,rfl⟩
 have f1:=sub_AttributeError
 have f3:=F.slot_list_getattribute.lookup
 have f4:=F.slot_list_getattribute.bind (.ref a)
 have f5:=am_list_getattr_none
 unfold getAttr? getAttrBy? getAttrBy
 repeat (any_goals (first | assumption | exact hT _ | ((with_reducible show wpAny _ _ (call (Value.builtin "list.__getattribute__") _ _) _ _ _);refine call_meets F.slot_list_getattribute (hT _) am_entry_list_getattribute (F.args_list_getattribute_2 _ _) (meets_getattribute_miss_list a xs k sl name _ NC ND hsz) ⟨hx,hA,fun h' tk' e hx'=>?_⟩) | wp_step))
 obtain ⟨t',u',he⟩:=hx'.there
 show wpAny _ _ (getattributeRaised _ _ _ _ _ _ _) _ _ _
 unfold getattributeRaised
 repeat (any_goals (first | assumption | wp_step))
 exact h _ _ _ hx'.of
end PySem
namespace PySem
namespace F
theorem iO:entryFor table "dict.update.loop"=some Builtin.«dict.update.loop»:=entryFor_of_tree (by kernel_rfl)
theorem cV:plainId "dict.update.loop"=true:=by decide +kernel
end F
section
variable {prog:Program} {w:World} {A:Around} {E:Value->Shared->Prop} {s:Shared}
theorem sC {t:Addr} {k v:Value} {Q:List Value->Shared->Prop} (h:∃ o,s.heap.get? t=some o/\o.cls=.type "tuple"/\∃ n,o.data=.seq #[k,v] n) (q:Q [k,v] s):wpAny (model prog w) A (Builtin.Dict.pairItems (.ref t)) Q E s:=by
 obtain ⟨o,ho,hc,n,hd⟩:=h
 obtain ⟨c,dct,dat,sl⟩:=o
 simp only at hc hd
 subst hc hd
 obtain ⟨hp,g,d,tk,os⟩:=s
 have hT:(⟨hp,g,d,tk,os⟩:Shared).TypeIs (.ref t) "tuple":=⟨_,ho,rfl⟩
 unfold Builtin.Dict.pairItems
 refine wpAny_bind (wpAny_typeOf hT ?_)
 rw [if_pos (by decide)]
 refine wpAny_bind (wpAny_seqItems ho rfl ?_)
 exact wpAny_pure q
end
section
variable {prog:Program} {w:World} {A:Around} {R:Result->Shared->Prop} {I:Addr} {fp wr:List Addr} {G:Array GenState->Array GenState->Prop} {n:Nat} {P:Nat->Value->Prop} {St:Nat->Shared->Prop} {K:Type} [DecidableEq K] {knd:KeyKind prog w K}
end
end PySem
namespace PySem
section
variable {prog:Program} {w:World} {K:Type} [DecidableEq K] {knd:KeyKind prog w K} {A:Around} {E:Value->Shared->Prop} {s:Shared}
end
end PySem
namespace L2
open PySem PySem.Spec PyProof.Rows
section
variable {X:Cx}
theorem Fo {o i:Expr} {td ty:TE} {pos:Pos} (hu:X.A.units + 64 < cLine) (ho:JE X o td) (hi:JE X i ty) (hs:K3 i):JE X (.Subscript o i pos) (zC td ty):=⟨Ik (by omega) ho.h hi.h hs⟩
end
end L2
set_option Elab.async false
set_option linter.all false
set_option maxRecDepth 100000
namespace L2
open PySem PySem.Spec PyProof.Rows
section
variable {X:Cx} {pins:List (Addr×Obj)} {σ:St} {H:Hp} {s:Shared}
end
def Itd (d:Addr) (od:Obj) (aO:List (Key×V)):It:=
 ⟨fun i H=>H d=some (.vf od (.dK aO))/\i < aO.length,fun i H x H'=>H'=H/\∃ p,aO[i]?=some p/\x=kV p.1,fun i H=>H d=some (.vf od (.dK aO))/\aO.length<=i⟩
def Lj (K:PySem.W.Frag) (td:TE) (src:List (Option Nat)) (g:TG) (tt:TT) (te:TE):TE:=fun σ H Q=>td σ H fun x H1=>∃ a aO,x=.ref a/\H1 a=some (.dK aO)/\∀ od D,L2.new K (upd H1 a (.vf od (.dK aO))) D->
 dj (Itd a od aO) g tt te D (fun H'=>H' a=some (.vf od (.dK aO))/\Q (.ref D) (upd H' a (.dK aO))) (pick σ src) (upd (upd H1 a (.vf od (.dK aO))) D (.lst []))
section
variable {X:Cx} {sc:Scope} {N:List Str} {src:List (Option Nat)} {tg iter elt:Expr} {ifs:List Expr} {td:TE} {g:TG} {tt:TT} {te:TE} {pos:Pos}
end
section
variable {prog:Program} {w:World} {A:Around} {R:Result->Shared->Prop} {s:Shared}
end
section
variable {X:Cx} {sc:Scope} {N:List Str} {src:List (Option Nat)} {tg iter kx vx:Expr} {ifs:List Expr} {wi:TI} {g:TG} {tt:TT} {tk tv:TE} {pos:Pos}
end
end L2
set_option Elab.async false
set_option linter.all false
set_option maxRecDepth 100000
set_option maxHeartbeats 4000000
namespace L2
open PySem PySem.Spec PyProof.Rows
section
variable {P:Program} {w:World} {A:Around} {E:Value->Shared->Prop} {s:Shared} {S:Addr} {vs:List (Key×Value)} {ep:Nat}
end
section
variable {X:Cx}
theorem NF {o i value:Expr} {td ty tv:TE} {pos pos':Pos} (hu:X.A.units + 64 < cLine) (ho:JE X o td) (hi:JE X i ty) (hv:JE X value tv) (hs:swapsWith value (some (.Subscript o i pos')) pos.line X.env=pure false:=by rfl):JS X (.Assign [.Subscript o i pos'] value pos) (zD td ty tv):=⟨Il (by omega) ho.h hi.h hv.h hs⟩
end
end L2
set_option Elab.async false
set_option linter.all false
set_option maxRecDepth 100000
set_option maxHeartbeats 4000000
namespace L2
open PySem PySem.Spec PyProof.Rows
section
variable {X:Cx}
def Ck (K:PySem.W.Frag):V->List V->Hp->VK->Prop:=fun x vs H Q=>∃ a b,x=.str a/\vs=[.str b]/\(b.length==0)=false/\a.length<=sizeLine/\∀ D,L2.new K H D->Q (.ref D) (upd H D (.tup [.str (Txt.partition a b).1,.str (Txt.partition a b).2.1,.str (Txt.partition a b).2.2]))
theorem mh:ES X "str.partition" (Ck X.K):=by
 intro pins s σ H x vs v us Q I rx rv h
 obtain ⟨a,b,rfl,rfl,hb,ha,q⟩:=h
 obtain ⟨t,rfl⟩:=rx
 obtain ⟨u,rfl,ru⟩:=vals1 rv
 obtain ⟨t2,rfl⟩:=ru
 refine call_meets PySem.F.slot_str_partition (typeIs_str _ _ _) PySem.F.entry_str_partition (PySem.F.args_str_partition_2 _ _) (meets_str_partition a b t t2 hb ha) ?_
 have fin:∀ {p1 p2 p3:Str} {u1 u2 u3:Tok} {k:Nat},(Txt.partition a b).1=p1->(Txt.partition a b).2.1=p2->(Txt.partition a b).2.2=p3->EP X pins σ Q (.ref s.heap.objs.size) { s with toks:=k,heap:=s.heap.push { cls:=.type "tuple",data:=.seq [.str p1 u1,.str p2 u2,.str p3 u3].toArray } }:=fun {p1 p2 p3 u1 u2 u3 k} e1 e2 e3=>by
   subst e1 e2 e3
   have I2:Inv X pins σ (upd H s.heap.objs.size (.tup [.str (Txt.partition a b).1,.str (Txt.partition a b).2.1,.str (Txt.partition a b).2.2])) { s with toks:=k,heap:=s.heap.push { cls:=.type "tuple",data:=.seq [.str (Txt.partition a b).1 u1,.str (Txt.partition a b).2.1 u2,.str (Txt.partition a b).2.2 u3].toArray } }:=
     I.laid (t':=k) (fun b ob q=>Heap.get?_push_of_some _ q) (Nat.le_refl _) ⟨by show 3<=sizeLine;decide,_,.cons ⟨u1,rfl⟩ (.cons ⟨u2,rfl⟩ (.cons ⟨u3,rfl⟩ .nil)),IsTup.new _ _⟩
   exact ⟨.ref s.heap.objs.size,_,I2,rfl,q _ ⟨I.dz.fresh (Nat.le_refl _),I2.nA ah⟩⟩
 cases e:Builtin.Str.occurrences a b 0 a.length 1 with
 | nil=>exact fin (by simp only [Txt.partition,e]) (by simp only [Txt.partition,e]) (by simp only [Txt.partition,e])
 | cons i r=>exact fin (by simp only [Txt.partition,e]) (by simp only [Txt.partition,e]) (by simp only [Txt.partition,e])
def IG:V->Option Int->Option Int->Hp->VK->Prop:=fun x lo hi H Q=>∃ a,x=.str a/\a.length<=sizeLine/\Q (.str (Txt.slice a lo hi)) H
theorem pN:P9 X IG:=by
 intro pins s σ H x v vl vu lo hi sl Q I rx hs pl pu h
 obtain ⟨a,rfl,ha,q⟩:=h
 obtain ⟨t,rfl⟩:=rx
 refine ⟨"str",_,PySem.F.slot_str_getitem.lookup,typeIs_str _ _ _,?_⟩
 have fin:∀ t' k,EP X pins σ Q (.str (Txt.slice a lo hi) t') { s with toks:=k }:=fun t' k=>⟨.str _,H,I.tok k,⟨t',rfl⟩,q⟩
 have le:=Nat.le_trans (Txt.slice_le a lo hi) ha
 cases pl with
 | none=>
   cases pu with
   | none=>exact wpAny_getItem_str_slice (l:=none) (u:=none) (st:=none) hs rfl (post_val_or_str ⟨le,fun t' k=>fin t' k⟩)
   | int j uj=>exact wpAny_getItem_str_slice (l:=none) (u:=some (j,uj)) (st:=none) hs rfl (post_val_or_str ⟨le,fun t' k=>fin t' k⟩)
 | int i ui=>
   cases pu with
   | none=>exact wpAny_getItem_str_slice (l:=some (i,ui)) (u:=none) (st:=none) hs rfl (post_val_or_str ⟨le,fun t' k=>fin t' k⟩)
   | int j uj=>exact wpAny_getItem_str_slice (l:=some (i,ui)) (u:=some (j,uj)) (st:=none) hs rfl (post_val_or_str ⟨le,fun t' k=>fin t' k⟩)
theorem AZ:mQ X (binaryOp .Mult) (fun x y H Q=>∃ a n,x=.str a/\y=.int n/\MulOk a n/\Q (.str (Txt.mul a n)) H):=by
 intro pins s σ H x y v u Q I rx ry h
 obtain ⟨a,n,rfl,rfl,ok,q⟩:=h
 obtain ⟨t,rfl⟩:=rx
 obtain ⟨t2,rfl⟩:=ry
 exact SB.mul ok fun t' k=>⟨.str _,H,I.tok k,⟨t',rfl⟩,q⟩
theorem Cm:∀ {ts:List Str} {its:List Value},Vals (ts.map V.str) its->∃ l:List (Str×Tok),its=strValues l/\l.map (·.1)=ts
 | [],_,r=>by rw [List.map_nil] at r;cases r;exact ⟨[],rfl,rfl⟩
 | t::ts,_,r=>by
   rw [List.map_cons] at r
   cases r with
   | cons h hr=>
     obtain ⟨u,rfl⟩:=h
     obtain ⟨l,rfl,e⟩:=Cm hr
     exact ⟨(t,u)::l,rfl,by rw [List.map_cons,e]⟩
def pO (sep:Str) (ts:List Str):Nat:=ts.foldl (fun n x=>n + x.length + sep.length) 0
def rJoin (K:PySem.W.Frag):V->List V->Hp->VK->Prop:=fun x vs H Q=>∃ (sep:Str) (p:Addr) (ts:List Str),x=.str sep/\vs=[.ref p]/\aZ K H p (ts.map V.str)/\pO sep ts<=sizeLine/\(Str.join sep ts).length<=sizeLine/\Q (.str (Str.join sep ts)) H
theorem fj:ES X "str.join" (rJoin X.K):=by
 intro pins s σ H x vs v us Q I rx rv h
 obtain ⟨sep,p,ts,rfl,rfl,hx,hl,hj,q⟩:=h
 obtain ⟨t,rfl⟩:=rx
 obtain ⟨u,rfl,ru⟩:=vals1 rv
 cases ru
 obtain ⟨its,r,pl,hz⟩:=I.list hx
 obtain ⟨l,rfl,el⟩:=Cm r
 refine call_meets PySem.F.slot_str_join (typeIs_str _ _ _) PySem.F.entry_str_join (PySem.F.args_str_join_2 _ _) (meets_str_join_list sep t p l ?_) ⟨pl.isList,?_⟩
 . rw [el]
   unfold Builtin.Str.tooLong
   rw [List.foldl_toArray]
   simpa [pO] using hl
 . have fin:∀ t' k,EP X pins σ Q (.str (Str.join sep ts) t') { s with toks:=k }:=fun t' k=>⟨.str _,H,I.tok k,⟨t',rfl⟩,q⟩
   have eg:∀ l':List (Str×Tok),Builtin.Str.glued sep (l'.map (·.1))=Str.join sep (l'.map (·.1)):=fun l'=>StrLaws.glued_eq_join sep _
   match l,el with
   | [],el=>
     have e:=eg []
     rw [el] at e
     show _/\_
     rw [el,e]
     exact ⟨hj,fin _ _⟩
   | [pp],el=>
     have e:pp.1=Str.join sep ts:=by rw [<- el];rfl
     show wants (EP X pins σ Q) X.xe (Except.ok (Flow.ret (Value.str pp.1 pp.2))) s
     rw [e]
     exact fin _ _
   | a::b::r,el=>
     show _/\_
     rw [show Builtin.Str.glued sep ((a::b::r).map (·.1))=Str.join sep ts from by rw [<- el];exact eg _]
     exact ⟨hj,fin _ _⟩
def xq (K:PySem.W.Frag) (t:TA):TE:=fun σ H Q=>t σ H fun vs H1=>∃ j:Int,vs=[.int j]/\0<=j/\j < 100000/\∀ D,L2.new K H1 D->Q (.ref D) (upd H1 D (.lst ((List.range j.toNat).map fun i:Nat=>V.int (i:Int))))
end
end L2
set_option Elab.async false
set_option linter.all false
set_option maxRecDepth 100000
set_option maxHeartbeats 4000000
namespace L2
open PySem PySem.Spec PyProof.Rows
def Fp:Str:=Str.ofString " "
theorem Dq:Fp=⟨#[32]⟩:=by decide +kernel
theorem str_len (a:Str):a.length=a.cps.toList.length:=by simp [Str.length]
theorem dQ (a b:Str):(a++b).cps.toList=a.cps.toList++b.cps.toList:=by rw [Str.cps_append,Array.toList_append]
theorem rT {c:Nat}:∀ {a a' b b':List Nat},c∉a->c∉a'->a++c::b=a'++c::b'->a=a'/\b=b'
 | [],[],_,_,_,_,h=>by injection h with _ h;exact ⟨rfl,h⟩
 | [],y::a',_,_,_,h2,h=>by
   injection h with h _
   exact absurd (h ▸ List.mem_cons_self) h2
 | x::a,[],_,_,h1,_,h=>by
   injection h with h _
   exact absurd (h ▸ List.mem_cons_self) h1
 | x::a,y::a',b,b',h1,h2,h=>by
   rw [List.cons_append,List.cons_append] at h
   injection h with h h'
   obtain ⟨e1,e2⟩:=rT (fun m=>h1 (List.mem_cons_of_mem _ m)) (fun m=>h2 (List.mem_cons_of_mem _ m)) h'
   exact ⟨by rw [h,e1],e2⟩
theorem Fq {x:Str} {n:Nat} (h:n<=x.length):(Txt.slice x none (some (n:Int))).cps.toList=x.cps.toList.take n:=by
 have e:Txt.slice x none (some (n:Int))=StrLaws.sliceText x none (some (n:Int)):=rfl
 rw [e,StrLaws.sliceText_to ⟨by omega,by rw [str_len] at h;omega⟩]
 simp
theorem oz:Fp.length=1:=by rw [Dq];rfl
section
variable {X:Cx}
def A0 (K:PySem.W.Frag) (tk tv:TE):TE:=fun σ H Q=>∀ p,L2.new K H p->tk σ (upd H p (.dK [])) fun x H1=>tv σ H1 fun y H2=>H2 p=some (.dK [])/\∃ kv:Key×V,[(x,y)]=[(kV kv.1,kv.2)]/\Q (.ref p) (upd H2 p (.dK [kv]))
end
end L2
set_option Elab.async false
set_option linter.all false
set_option maxRecDepth 100000
set_option maxHeartbeats 4000000
namespace L2
open PySem PySem.Spec PyProof.Rows
section
variable {X:Cx}
def xr:V->List V->Hp->VK->Prop:=fun x vs H Q=>∃ (a:Addr) (aO:List (Key×V)),x=.ref a/\vs=[]/\H a=some (.dK aO)/\Q .cQ (upd H a (.dK []))
theorem Dr:gx X (.type "str") (fun xs H Q=>(∃ i,xs=[.int i]/\i.natAbs.log2 < 1920/\Q (.str (toString i)) H)∨(xs=[.cQ]/\Q (.str "None") H)):=by
 intro pins s σ H xs us Q I r h
 rcases h with h | ⟨rfl,q⟩
 . exact bw pins s σ H xs us Q I r h
 . obtain ⟨u,rfl,r1⟩:=vals1 r
   cases r1
   exact PySem.P.str_of_none ⟨.str _,H,I.tok _,⟨_,rfl⟩,q⟩
end
end L2
set_option Elab.async false
set_option linter.all false
set_option maxRecDepth 100000
set_option maxHeartbeats 4000000
namespace L2
open PySem PySem.Spec PyProof.Rows
def xu (K:PySem.W.Frag):TE:=fun _ H Q=>∀ p,L2.new K H p->Q (.ref p) (upd H p (.dK []))
theorem xy {X:Cx} {pos:Pos}:JE X (.Dict [] [] pos) (xu X.K):=⟨fun pins s σ H Q I h=>
 wpAny_Dict_empty ⟨.ref s.heap.objs.size,_,I.laid (a:=s.heap.objs.size) (o:=.dK []) (t':=s.toks) (fun _ _ q=>Heap.get?_push_of_some _ q) (Nat.le_refl _) (E2 s.heap I.big),rfl,h _ I.new⟩⟩
end L2
namespace L2
open PySem PySem.Spec PyProof.Rows
section
variable {prog:Program} {w:World} {A:Around} {E:Value->Shared->Prop} {s:Shared}
theorem nextT {it t:Addr} {k:Nat} {xs:Array Value} {x:Value} {Q:Value->Shared->Prop} (hi:IsTupIter s.heap it t k) (ht:IsTup s.heap t xs) (hx:xs[k]?=some x)
   (q:∀ g,IsTupIter g it t (k + 1)->Heap.SameBut it s.heap g->Q x { s with heap:=g }):wpAny (model prog w) A (Builtin.SmallTypes.nextOf (.ref it)) Q E s:=by
 have ty:=hi.typeIs
 obtain ⟨o1,g1,c1,d1⟩:=hi
 obtain ⟨o2,g2,_,n2,d2⟩:=ht
 unfold Builtin.SmallTypes.nextOf
 refine wpAny_bind (wpAny_callSpecial?_slot (name:=Str.ofString "__next__") ty slot_tupleiter_next (wpAny_call_entry slot_tupleiter_next ty entry_tupleiter_next ?_ (args_tupleiter_next _)))
 show wpAny (model prog w) _ (field (.ref it) 0 >>=_) _ _ s
 refine wpAny_bind (wpAny_field g1 d1 (x:=Value.ref t) rfl ?_)
 show wpAny (model prog w) _ (if (Value.ref t==Value.none)=true then _ else _) _ _ s
 rw [if_neg (fun h=>by cases h)]
 show wpAny (model prog w) _ (field (.ref it) 1 >>=_) _ _ s
 refine wpAny_bind (wpAny_field g1 d1 (x:=Value.int k 0) rfl ?_)
 show wpAny (model prog w) _ (seqItems? (.ref t) >>=_) _ _ s
 refine wpAny_bind (wpAny_seqItems g2 d2 ?_)
 simp only [hx,Int.toNat_natCast]
 refine wpAny_bind (wpAny_setField g1 d1 (by simp) (wpAny_pure ⟨x,rfl,wpAny_pure (q _ ⟨_,Heap.get?_update_self _ g1 (Obj.isFreed_of_fields (Obj.data_mapFields d1 _)),(Obj.cls_mapFields ..).trans c1,?_⟩ (Heap.SameBut.update ..))⟩))
 rw [Obj.data_mapFields d1]
 simp [rawInt]
theorem Ds {it t:Addr} {k:Nat} {xs:Array Value} {Q:Value->Shared->Prop} (calm:A.handled=none) (hi:IsTupIter s.heap it t k) (ht:IsTup s.heap t xs) (hx:xs[k]?=none)
   (q:∀ g e,Heap.ExtBut it s.heap g->(∃ o,g.get? e=some o/\o.cls=.type "StopIteration")->E (.ref e) { s with heap:=g }):wpAny (model prog w) A (Builtin.SmallTypes.nextOf (.ref it)) Q E s:=by
 have ty:=hi.typeIs
 obtain ⟨o1,g1,c1,d1⟩:=hi
 obtain ⟨o2,g2,_,n2,d2⟩:=ht
 unfold Builtin.SmallTypes.nextOf
 refine wpAny_bind (wpAny_callSpecial?_slot (name:=Str.ofString "__next__") ty slot_tupleiter_next (wpAny_call_entry slot_tupleiter_next ty entry_tupleiter_next ?_ (args_tupleiter_next _)))
 show wpAny (model prog w) _ (field (.ref it) 0 >>=_) _ _ s
 refine wpAny_bind (wpAny_field g1 d1 (x:=Value.ref t) rfl ?_)
 show wpAny (model prog w) _ (if (Value.ref t==Value.none)=true then _ else _) _ _ s
 rw [if_neg (fun h=>by cases h)]
 show wpAny (model prog w) _ (field (.ref it) 1 >>=_) _ _ s
 refine wpAny_bind (wpAny_field g1 d1 (x:=Value.int k 0) rfl ?_)
 show wpAny (model prog w) _ (seqItems? (.ref t) >>=_) _ _ s
 refine wpAny_bind (wpAny_seqItems g2 d2 ?_)
 simp only [hx,Int.toNat_natCast]
 refine wpAny_bind (wpAny_rule (wpAny_bind (wpAny_setField g1 d1 (by simp) ?_)))
 show wpAny (model prog w) _ (newExc (.type "StopIteration") [] >>=_) _ _ _
 refine wpAny_bind ?_
 simp only [newTuple,newExc]
 refine wpAny_bind (wpAny_newObj_type (wpAny_bind (m:=firstArgMember _ _) (wpAny_of_eq (a:=Value.none) (by first | rfl | (simp only [firstArgMember];rfl)) (wpAny_newObj_type ?_ (by size_fits)))) (by size_fits))
 simp only [raiseNew]
 refine wpAny_bind (wpAny_handled ?_)
 rw [show A.in1.handled=none from calm]
 exact wpAny_bind (wpAny_pure (wpAny_throw (q _ _ (((Heap.SameBut.update ..).extBut.push _).push _) ⟨_,Heap.get?_push_size _ rfl,rfl⟩)))
structure ZT (g:Heap) (z ti to p1 p2 t1 t2:Addr) (out:Value) (k1 k2:Nat):Prop where
 zip:IsZip g z ti to out
 its:IsPair g ti (.ref p1) (.ref p2)
 fst:IsTupIter g p1 t1 k1
 snd:IsTupIter g p2 t2 k2
theorem Dt {z ti to p1 p2 t1 t2:Addr} {k1 k2:Nat} {xs ys:Array Value} {x y u v:Value} {Q:Option Value->Shared->Prop} (D:ZipApart z ti to p1 p2 t1 t2) (Z:ZT s.heap z ti to p1 p2 t1 t2 .none k1 k2) (ho:IsPair s.heap to u v)
   (h1:IsTup s.heap t1 xs) (h2:IsTup s.heap t2 ys) (hx:xs[k1]?=some x) (hy:ys[k2]?=some y)
   (q:∀ g,ZT g z ti to p1 p2 t1 t2 (rawInt s.heap.objs.size) (k1 + 1) (k2 + 1)->IsPair g to x y->IsPair g s.heap.objs.size x y->g.objs.size=s.heap.objs.size + 1->
     (∀ c o,c≠z->c≠to->c≠p1->c≠p2->s.heap.get? c=some o->g.get? c=some o)->Q (some (.ref s.heap.objs.size)) { s with heap:=g }):
   wpAny (model prog w) A (pyNext (.ref z)) Q E s:=by
 have ty:s.TypeIs (.ref z) "zip":=⟨_,Z.zip,rfl⟩
 unfold pyNext
 refine wpAny_bind (wpAny_attempt (wpAny_callSpecial?_slot (name:=Str.ofString "__next__") ty F.slot_zip_next (wpAny_call_entry F.slot_zip_next ty F.entry_zip_next ?_ (F.args_zip_next_1 _))))
 show wpAny (model prog w) _ (field (.ref z) 2 >>=_) _ _ _
 refine wpAny_bind (wpAny_field Z.zip rfl (x:=Value.bool false) rfl ?_)
 show wpAny (model prog w) _ (field (.ref z) 3 >>=_) _ _ _
 refine wpAny_bind (wpAny_field Z.zip rfl (x:=Value.ref ti) rfl (wpAny_bind (wpAny_seqItems Z.its rfl ?_)))
 show wpAny (model prog w) _ (Builtin.SmallTypes.ownedTupleIsFree (.ref z) >>=_) _ _ _
 refine wpAny_bind ?_
 unfold Builtin.SmallTypes.ownedTupleIsFree
 refine wpAny_bind (wpAny_field Z.zip rfl (x:=Value.none) rfl (wpAny_pure ?_))
 rw [if_pos rfl]
 refine wpAny_bind (wpAny_rule (wpAny_bind (wpAny_field Z.zip rfl (x:=Value.ref to) rfl (wpAny_bind (wpAny_setField_rec Z.zip (by simp) fun a1 az as=>?_)))))
 replace az:IsZip a1 z ti to .ellipsis:=az
 refine wpAny_bind ?_
 simp only [List.forIn_nil,List.forIn_cons,List.zipIdx_nil,List.zipIdx_cons]
 refine wpAny_bind (wpAny_bind (wpAny_onRaise ?_))
 show wpAny (model prog w) _ (Builtin.SmallTypes.nextOf (.ref p1) >>=_) _ _ _
 refine wpAny_bind (nextT (Z.fst.extBut as.extBut D.i1z) (h1.extBut as.extBut D.l1z) hx fun a2 bi bs=>wpAny_pure ?_)
 have bo:IsPair a2 to u v:=bs.extBut _ _ D.TOi1 (as.extBut _ _ D.TOz ho)
 refine wpAny_bind (wpAny_seqItems bo rfl (wpAny_bind (wpAny_updateSeq_pair bo fun a3 co cs=>?_)))
 replace co:IsPair a3 to x v:=co
 refine wpAny_bind (wpAny_letGo (wpAny_pure (wpAny_bind (wpAny_bind (wpAny_onRaise ?_)))))
 show wpAny (model prog w) _ (Builtin.SmallTypes.nextOf (.ref p2) >>=_) _ _ _
 refine wpAny_bind (nextT (((Z.snd.extBut as.extBut D.i2z).extBut bs.extBut D.i12.symm).extBut cs.extBut D.TOi2.symm) (((h2.extBut as.extBut D.l2z).extBut bs.extBut D.l2i1).extBut cs.extBut D.l2TO) hy fun a4 di ds=>wpAny_pure ?_)
 have dO:IsPair a4 to x v:=ds.extBut _ _ D.TOi2 co
 refine wpAny_bind (wpAny_seqItems dO rfl (wpAny_bind (wpAny_updateSeq_pair dO fun a5 eo es=>?_)))
 replace eo:IsPair a5 to x y:=eo
 refine wpAny_bind (wpAny_letGo (wpAny_pure (wpAny_pure (wpAny_bind (wpAny_seqItems eo rfl (wpAny_bind (wpAny_newTuple ?_)))))))
 have n5:a5.objs.size=s.heap.objs.size:=by rw [es.1,ds.1,cs.1,bs.1,as.1]
 have ez:IsZip a5 z ti to .ellipsis:=es.extBut _ _ D.TOz.symm (ds.extBut _ _ D.i2z.symm (cs.extBut _ _ D.TOz.symm (bs.extBut _ _ D.i1z.symm az)))
 have JL:∀ c o,c≠z->c≠to->c≠p1->c≠p2->s.heap.get? c=some o->a5.get? c=some o:=fun c o e1 e2 e3 e4 e=>
   es.extBut _ _ e2 (ds.extBut _ _ e4 (cs.extBut _ _ e2 (bs.extBut _ _ e3 (as.extBut _ _ e1 e))))
 have f5:IsTupIter a5 p1 t1 (k1 + 1):=((bi.extBut cs.extBut D.TOi1.symm).extBut ds.extBut D.i12).extBut es.extBut D.TOi1.symm
 have s5:IsTupIter a5 p2 t2 (k2 + 1):=di.extBut es.extBut D.TOi2.symm
 have lz:z < a5.objs.size:=Heap.lt_size ez
 show wpAny (model prog w) _ (Builtin.SmallTypes.ownedTupleHandOut (.ref z) (.ref a5.objs.size) >>=_) _ _ _
 refine wpAny_bind ?_
 unfold Builtin.SmallTypes.ownedTupleHandOut
 refine wpAny_bind (wpAny_setField_rec (show IsZip (a5.push { cls:=.type "tuple",data:=.seq #[x,y] }) z ti to .ellipsis from Heap.get?_push_of_some _ ez) (by simp) fun a7 gz gs=>?_)
 replace gz:IsZip a7 z ti to (rawInt a5.objs.size):=gz
 refine wpAny_setField_rec gz (by simp) fun a8 iz js=>?_
 replace iz:IsZip a8 z ti to (rawInt a5.objs.size):=iz
 have on:∀ c o,c≠z->a5.get? c=some o->a8.get? c=some o:=fun c o ne e=>js.extBut _ _ ne (gs.extBut _ _ ne (Heap.get?_push_of_some _ e))
 have T8:IsPair a8 a5.objs.size x y:=js.extBut _ _ (Nat.ne_of_gt lz) (gs.extBut _ _ (Nat.ne_of_gt lz) (Heap.get?_push_size _ rfl))
 have n8:a8.objs.size=a5.objs.size + 1:=by rw [js.1,gs.1,Heap.size_push]
 rw [n5] at iz T8 n8
 refine wpAny_pure ⟨_,rfl,wpAny_pure ?_⟩
 show Q (some (.ref a5.objs.size)) _
 rw [n5]
 have at_:∀ {p t:Addr} {k:Nat},p≠z->IsTupIter a5 p t k->IsTupIter a8 p t k:=fun ne h=>let ⟨o,e,r⟩:=h;⟨o,on _ o ne e,r⟩
 exact q a8 ⟨iz,on _ _ D.TIz (JL _ _ D.TIz D.TITO D.TIi1 D.TIi2 Z.its),at_ D.i1z f5,at_ D.i2z s5⟩ (on _ _ D.TOz eo) T8 n8 fun c o e1 e2 e3 e4 e=>on c o e1 (JL c o e1 e2 e3 e4 e)
theorem Ft {z ti to p1 p2 t1 t2:Addr} {k1 k2:Nat} {xs:Array Value} {u v:Value} {Q:Option Value->Shared->Prop} (calm:A.handled=none) (D:ZipApart z ti to p1 p2 t1 t2) (Z:ZT s.heap z ti to p1 p2 t1 t2 .none k1 k2) (ho:IsPair s.heap to u v)
   (h1:IsTup s.heap t1 xs) (hx:xs[k1]?=none) (q:∀ g,(∀ c o,c≠z->c≠p1->s.heap.get? c=some o->g.get? c=some o)->Q none { s with heap:=g }):wpAny (model prog w) A (pyNext (.ref z)) Q E s:=by
 have ty:s.TypeIs (.ref z) "zip":=⟨_,Z.zip,rfl⟩
 unfold pyNext
 refine wpAny_bind (wpAny_attempt (wpAny_callSpecial?_slot (name:=Str.ofString "__next__") ty F.slot_zip_next (wpAny_call_entry F.slot_zip_next ty F.entry_zip_next ?_ (F.args_zip_next_1 _))))
 show wpAny (model prog w) _ (field (.ref z) 2 >>=_) _ _ _
 refine wpAny_bind (wpAny_field Z.zip rfl (x:=Value.bool false) rfl ?_)
 show wpAny (model prog w) _ (field (.ref z) 3 >>=_) _ _ _
 refine wpAny_bind (wpAny_field Z.zip rfl (x:=Value.ref ti) rfl (wpAny_bind (wpAny_seqItems Z.its rfl ?_)))
 show wpAny (model prog w) _ (Builtin.SmallTypes.ownedTupleIsFree (.ref z) >>=_) _ _ _
 refine wpAny_bind ?_
 unfold Builtin.SmallTypes.ownedTupleIsFree
 refine wpAny_bind (wpAny_field Z.zip rfl (x:=Value.none) rfl (wpAny_pure ?_))
 rw [if_pos rfl]
 refine wpAny_bind (wpAny_rule (wpAny_bind (wpAny_field Z.zip rfl (x:=Value.ref to) rfl (wpAny_bind (wpAny_setField_rec Z.zip (by simp) fun a1 az as=>?_)))))
 replace az:IsZip a1 z ti to .ellipsis:=az
 refine wpAny_bind ?_
 simp only [List.forIn_nil,List.forIn_cons,List.zipIdx_nil,List.zipIdx_cons]
 refine wpAny_bind (wpAny_bind (wpAny_onRaise ?_))
 show wpAny (model prog w) _ (Builtin.SmallTypes.nextOf (.ref p1) >>=_) _ _ _
 refine wpAny_bind (Ds calm (Z.fst.extBut as.extBut D.i1z) (h1.extBut as.extBut D.l1z) hx fun a2 e bs he=>?_)
 obtain ⟨oe,ge,ce⟩:=he
 have bz:IsZip a2 z ti to .ellipsis:=bs _ _ D.i1z.symm az
 have ez:e≠z:=fun z'=>by subst z';rw [bz] at ge;cases ge;simp at ce
 refine wpAny_setField_rec bz (by simp) fun a3 _ cs=>wpAny_bind (wpAny_isInstance (T:="StopIteration") (b:=true) ⟨oe,cs.extBut _ _ ez ge,ce⟩ isSubtype_stop (wpAny_pure (q a3 fun c o e1 e2 e=>cs.extBut _ _ e1 (bs _ _ e2 (as.extBut _ _ e1 e)))))
abbrev zL (t:Addr):Obj:={ cls:=.type "tuple_iterator",data:=.fields #[.ref t,.int 0 0] }
abbrev Qh (h:Heap) (t1 t2:Addr):Heap:=(h.push (zL t1)).push (zL t2)
abbrev Qi (h:Heap) (t1 t2:Addr):Heap:=(Qh h t1 t2).push { cls:=.type "tuple",data:=.seq #[.ref h.objs.size,.ref (h.push (zL t1)).objs.size] }
abbrev Qj (h:Heap) (t1 t2:Addr):Heap:=(Qi h t1 t2).push { cls:=.type "tuple",data:=.seq #[.none,.none] }
abbrev Mq (h:Heap) (t1 t2:Addr):Heap:=(Qj h t1 t2).push { cls:=.type "zip",data:=.fields #[.none,.bool false,.bool false,.ref (Qh h t1 t2).objs.size,.ref (Qi h t1 t2).objs.size] }
theorem Fv (t1 t2:Addr) (xs ys:Array Value):Meets (Builtin.«zip.__new__» ⟨[.type "zip",.ref t1,.ref t2],[]⟩) (fun _ R s=>IsTup s.heap t1 xs/\IsTup s.heap t2 ys/\R (.ok (.ret (.ref (Qj s.heap t1 t2).objs.size))) { s with heap:=Mq s.heap t1 t2 }):=
 .of_wp fun prog w A R s h=>by
   obtain ⟨h0,gn,dr,tk,os⟩:=s
   obtain ⟨e1,e2,h⟩:=h
   have sub:=sub_zip
   have f1:IsTup (Shared.heap ⟨h0,gn,dr,tk,os⟩) t1 xs:=e1
   have f2:IsTup (Shared.heap ⟨h0.push (zL t1),gn,dr,tk,os⟩) t2 ys:=e2.push _
   wp_walk using iter_tuple f1,iter_tuple f2
   exact ⟨_,rfl,h⟩
theorem Du {t1 t2:Addr} {xs ys:Array Value} {Q:Value->Shared->Prop} (h1:IsTup s.heap t1 xs) (h2:IsTup s.heap t2 ys)
   (q:∀ g,ZT g (s.heap.objs.size + 4) (s.heap.objs.size + 2) (s.heap.objs.size + 3) s.heap.objs.size (s.heap.objs.size + 1) t1 t2 .none 0 0->IsPair g (s.heap.objs.size + 3) .none .none->(∀ c o,s.heap.get? c=some o->g.get? c=some o)->Q (.ref (s.heap.objs.size + 4)) { s with heap:=g }):
   wpAny (model prog w) A (call (.type "zip") [.ref t1,.ref t2]) Q E s:=by
 refine callType_new F.called_zip (by decide) (F.typeCall_zip_2 _ _) (F.newCall_zip_2 _ _) (fun o=>F.args_object_init_3 o _ _) F.entry_zip_new (Fv t1 t2 xs ys) ⟨h1,h2,?_⟩
 have z1:(s.heap.push (zL t1)).objs.size=s.heap.objs.size + 1:=Heap.size_push ..
 have z2:(Qh s.heap t1 t2).objs.size=s.heap.objs.size + 2:=by rw [Heap.size_push,Heap.size_push]
 have z3:(Qi s.heap t1 t2).objs.size=s.heap.objs.size + 3:=by rw [Heap.size_push,z2]
 have z4:(Qj s.heap t1 t2).objs.size=s.heap.objs.size + 4:=by rw [Heap.size_push,z3]
 have e5:(Mq s.heap t1 t2).get? (Qj s.heap t1 t2).objs.size=some _:=Heap.get?_push_size _ rfl
 have e4:(Mq s.heap t1 t2).get? (Qi s.heap t1 t2).objs.size=some _:=Heap.get?_push_of_some _ (Heap.get?_push_size _ rfl)
 have e3:(Mq s.heap t1 t2).get? (Qh s.heap t1 t2).objs.size=some _:=Heap.get?_push_of_some _ (Heap.get?_push_of_some _ (Heap.get?_push_size _ rfl))
 have e2:(Mq s.heap t1 t2).get? (s.heap.push (zL t1)).objs.size=some (zL t2):=Heap.get?_push_of_some _ (Heap.get?_push_of_some _ (Heap.get?_push_of_some _ (Heap.get?_push_size _ rfl)))
 have e1:(Mq s.heap t1 t2).get? s.heap.objs.size=some (zL t1):=Heap.get?_push_of_some _ (Heap.get?_push_of_some _ (Heap.get?_push_of_some _ (Heap.get?_push_of_some _ (Heap.get?_push_size _ rfl))))
 rw [z2,z3,z4] at e5
 rw [z1,z2] at e3
 rw [z3] at e4
 rw [z1] at e2
 show _/\_
 rw [z4]
 exact ⟨⟨_,e5,rfl⟩,q _ ⟨e5,e3,⟨_,e1,rfl,rfl⟩,⟨_,e2,rfl,rfl⟩⟩ e4 fun c o x=>Heap.get?_push_of_some _ (Heap.get?_push_of_some _ (Heap.get?_push_of_some _ (Heap.get?_push_of_some _ (Heap.get?_push_of_some _ x))))⟩
end
def Fw (K:PySem.W.Frag) (a b:Addr):It:=⟨fun i H=>∃ xs ys x y,om K H a xs/\om K H b ys/\xs[i]?=some x/\ys[i]?=some y,fun i H x H'=>∃ T v u,L2.new K H T/\(∀ xs,om K H a xs->xs[i]?=some v)/\(∀ ys,om K H b ys->ys[i]?=some u)/\x=.ref T/\H'=upd H T (.tup [v,u]),fun i H=>∃ xs,om K H a xs/\xs.length<=i⟩
theorem Dv {P:Program} {w:World} {K:PySem.W.Frag} {es:List Expr} {k:Nat} {tp:Pos} (a b z ti to p1 p2:Addr) (D:ZipApart z ti to p1 p2 a b):Turn P w K (.Tuple es k tp) (Fw K a b) [z,ti,to,p1,p2] z
   (fun i h=>ZT h z ti to p1 p2 a b .none i i/\∃ p q,IsPair h to p q) where
 mem:=by simp
 obj:=fun i h st c hc=>by
   obtain ⟨⟨g1,g2,⟨o4,g4,c4,d4⟩,⟨o5,g5,c5,d5⟩⟩,p,q,g3⟩:=st
   simp only [List.mem_cons,List.not_mem_nil,or_false] at hc
   rcases hc with rfl | rfl | rfl | rfl | rfl
   . exact ⟨_,g1,fun v z=>by cases z⟩
   . exact ⟨_,g2,fun v z=>by cases z⟩
   . exact ⟨_,g3,fun v z=>by cases z⟩
   . exact ⟨o4,g4,fun v z=>by rw [d4] at z;cases z⟩
   . exact ⟨o5,g5,fun v z=>by rw [d5] at z;cases z⟩
 keep:=fun i h h' st kk=>by
   obtain ⟨⟨g1,g2,⟨o4,g4,r4⟩,⟨o5,g5,r5⟩⟩,p,q,g3⟩:=st
   exact ⟨⟨kk z (by simp) _ g1,kk ti (by simp) _ g2,⟨o4,kk p1 (by simp) _ g4,r4⟩,⟨o5,kk p2 (by simp) _ g5,r5⟩⟩,p,q,kk to (by simp) _ g3⟩
 item:=by
   intro X hP hw hK hc i pins s σ H E I hf st hg
   subst hP hw hK
   obtain ⟨xs,ys,x,y,hq,hq',hx,hy⟩:=hg
   obtain ⟨its,rv,p,hz⟩:=I.tuple hq
   obtain ⟨its',rv',p',hz'⟩:=I.tuple hq'
   obtain ⟨u,hu,ru⟩:=rv.get hx
   obtain ⟨u',hu',ru'⟩:=rv'.get hy
   obtain ⟨Z,a',b',g3⟩:=st
   refine Dt D Z g3 p p' (x:=u) (y:=u') (by simpa using hu) (by simpa using hu') fun h1 Z1 hO gT sz kp=>?_
   refine ⟨_,rfl,wpAny_letOwnedTupleGo_zip Z1.zip fun h2 hz2 sb=>?_⟩
   have ltZ:z < s.heap.objs.size:=Heap.lt_size Z.zip
   have Ny:h2.get? s.heap.objs.size=some { cls:=.type "tuple",data:=.seq #[u,u'] }:=(sb.2 _ (Nat.ne_of_gt ltZ)).trans gT
   have I1:Inv X pins σ (upd H s.heap.objs.size (.tup [x,y])) { s with heap:=h2,toks:=s.toks }:=by
     refine I.xj (ch:=[z,ti,to,p1,p2]) (fun b o hb g=>?_) hf (Nat.le_refl _) ⟨(show 2<=sizeLine by decide),[u,u'],.cons ru (.cons ru' .nil),_,Ny,rfl,_,rfl⟩
     simp only [List.mem_cons,List.not_mem_nil,or_false,not_or] at hb
     exact (sb.2 b hb.1).trans (kp b o hb.1 hb.2.2.1 hb.2.2.2.1 hb.2.2.2.2 g)
   have kT:∀ c o,c≠z->h1.get? c=some o->h2.get? c=some o:=fun c o n g=>(sb.2 c n).trans g
   have itT:∀ {p t:Addr} {k:Nat},p≠z->IsTupIter h1 p t k->IsTupIter h2 p t k:=fun ne h=>let ⟨o,e,r⟩:=h;⟨o,kT _ o ne e,r⟩
   refine ⟨.ref s.heap.objs.size,_,I1,rfl,⟨_,x,y,⟨I.dz.fresh (Nat.le_refl _),I1.nA ah⟩,fun ys hy=>by rw [I.qS hy hq];exact hx,fun zs hy'=>by rw [I.qS hy' hq'];exact hy,rfl,rfl⟩,
     ⟨⟨hz2,kT _ _ D.TIz Z1.its,itT D.i1z Z1.fst,itT D.i2z Z1.snd⟩,_,_,kT _ _ D.TOz hO⟩,fun c hc=>?_⟩
   have S3:c < s.heap.objs.size:=by
     obtain ⟨_,g2,⟨o4,e4,_⟩,⟨o5,e5,_⟩⟩:=Z
     simp only [List.mem_cons,List.not_mem_nil,or_false] at hc
     rcases hc with rfl | rfl | rfl | rfl | rfl
     . exact ltZ
     . exact Heap.lt_size g2
     . exact Heap.lt_size g3
     . exact Heap.lt_size e4
     . exact Heap.lt_size e5
   rw [aV (Nat.ne_of_lt S3)]
   exact (hf c hc).1
 done:=by
   intro X hP hw hK hc i pins s σ H E I hf st hg
   subst hP hw hK
   obtain ⟨xs,hq,hx⟩:=hg
   obtain ⟨its,rv,p,hz⟩:=I.tuple hq
   obtain ⟨Z,a',b',g3⟩:=st
   have hl:=rv.length
   refine Ft (I.ok.hd hc) D Z g3 p (by simp;omega) fun h' kp=>⟨rfl,I.Cj (t':=s.toks) (ch:=[z,ti,to,p1,p2]) (fun b o hb g=>?_) hf⟩
   simp only [List.mem_cons,List.not_mem_nil,or_false,not_or] at hb
   exact kp b o hb.1 hb.2.2.2.1 g
 self:=fun _ _ _ _ _ st h=>wpAny_pyIter_zip st.1.zip h
section
variable {X:Cx}
def Fx (K:PySem.W.Frag) (tl:TA):TI:=fun σ H R=>tl σ H fun vs H1=>∃ a b,vs=[.ref a,.ref b]/\(((∃ xs,aZ K H1 a xs)/\(∃ ys,aZ K H1 b ys)/\R (Mp K a b) H1)∨((∃ xs,om K H1 a xs)/\(∃ ys,om K H1 b ys)/\R (Fw K a b) H1))
theorem NG {K:PySem.W.Frag} {l l':Expr} {t:TA} {es:List Expr} {k:Nat} {p pos tp:Pos} (hg:Gl X "zip") (hm:X.mg "zip"=none) (ha:JA X [l,l'] t) (hs:starEach [l,l'] X.env=(false,eval l X.env)::starEach [l'] X.env:=by rfl) (Mj:(backTo pos (starEach [l'] X.env)).any (·.1)=false:=by rfl) (hk:X.K=K:=by rfl):
   JI X (.Tuple es k tp) (.Call (.Name "zip" p) [l,l'] [] pos) (Fx K t):=⟨by
 subst hk
 intro pins s σ H R I h
 refine Call_ (pG I hg hm K8 (PyProof.Rows.callWith_type1 (dX (ha.h pos pins s σ H _ I h) fun us s1 ⟨vs,H1,I1,r1,q1⟩=>?_) hs Mj))
 have Qk:∀ b,b∈[s1.heap.objs.size + 4,s1.heap.objs.size + 2,s1.heap.objs.size + 3,s1.heap.objs.size,s1.heap.objs.size + 1]->s1.heap.objs.size<=b:=by
   intro b hb
   simp only [List.mem_cons,List.not_mem_nil,or_false] at hb
   omega
 obtain ⟨a,b,rfl,⟨⟨xs,hx⟩,⟨ys,hy⟩,q⟩ | ⟨⟨xs,hx⟩,⟨ys,hy⟩,q⟩⟩:=q1
 . obtain ⟨u,u',rfl,ru,ru'⟩:=vals2 r1
   cases ru
   cases ru'
   obtain ⟨its,rv,ht,hz⟩:=I1.list hx
   obtain ⟨its',rv',ht',hz'⟩:=I1.list hy
   have la:a < s1.heap.objs.size:=by obtain ⟨_,e,_⟩:=ht.isList;exact Heap.lt_size e
   have lb:b < s1.heap.objs.size:=by obtain ⟨_,e,_⟩:=ht'.isList;exact Heap.lt_size e
   refine call_zip_2 ht.isList ht'.isList fun h2 g1 g2 g3 g4 g5 sz kp=>?_
   exact wpAny_pyIter_zip g1 ⟨_,[s1.heap.objs.size + 4,s1.heap.objs.size + 2,s1.heap.objs.size + 3,s1.heap.objs.size,s1.heap.objs.size + 1],_,Mp X.K a b,H1,rfl,I1.kept (t':=s1.toks) kp,Fl a b _ _ _ _ _ (zipApart_new la lb),⟨g1,g2,⟨_,_,g3⟩,g4,g5⟩,fun b hb=>I1.CT (Qk b hb) (I1.dz.fresh (Qk b hb)),q⟩
 . obtain ⟨u,u',rfl,ru,ru'⟩:=vals2 r1
   cases ru
   cases ru'
   obtain ⟨its,rv,ht,hz⟩:=I1.tuple hx
   obtain ⟨its',rv',ht',hz'⟩:=I1.tuple hy
   refine Du ht ht' fun h2 Z g3 kp=>?_
   exact wpAny_pyIter_zip Z.zip ⟨_,[s1.heap.objs.size + 4,s1.heap.objs.size + 2,s1.heap.objs.size + 3,s1.heap.objs.size,s1.heap.objs.size + 1],_,Fw X.K a b,H1,rfl,I1.kept (t':=s1.toks) kp,Dv a b _ _ _ _ _ (zipApart_new ht.lt ht'.lt),⟨Z,_,_,g3⟩,fun b hb=>I1.CT (Qk b hb) (I1.dz.fresh (Qk b hb)),q⟩⟩
end
section
variable {K:PySem.W.Frag} {g:TG} {tt:TT} {te:TE} {D:Addr} {σ:St} {H:Hp} {Q:Hp->Prop} {a b:Addr} {xs ys:List V}
theorem uy {ta:TA} {src:List (Option Nat)} {Q:VK}:JJ K (Fx K ta) src g tt te σ H Q=ta σ H (fun vs H1=>∃ a b,vs=[.ref a,.ref b]/\(((∃ xs,aZ K H1 a xs)/\(∃ ys,aZ K H1 b ys)/\∀ D,L2.new K H1 D->dj (Mp K a b) g tt te D (fun H'=>Q (.ref D) H') (pick σ src) (upd H1 D (.lst [])))∨
   ((∃ xs,om K H1 a xs)/\(∃ ys,om K H1 b ys)/\∀ D,L2.new K H1 D->dj (Fw K a b) g tt te D (fun H'=>Q (.ref D) H') (pick σ src) (upd H1 D (.lst []))))):=rfl
end
section
variable {X:Cx}
theorem Dy:gx X (.builtin "len") (fun xs H Q=>(∃ p ys,xs=[.ref p]/\ql X.K H p=some ys/\Q (.int ys.length) H)∨∃ a aO,xs=[V.ref a]/\H a=some (.dK aO)/\Q (.int aO.length) H):=by
 intro pins s σ H xs us Q I r h
 rcases h with h | h
 . exact bH pins s σ H xs us Q I r h
 . exact Dk pins s σ H xs us Q I r h
end
end L2
set_option Elab.async false
set_option linter.all false
set_option maxRecDepth 100000
set_option maxHeartbeats 4000000
namespace L2
open PySem PySem.Spec PyProof.Rows
def A1 (P:Program) (w:World):vO:=fun outer H s E e s'=>∃ (a:Addr) (cls a0:Value) (B:Heap) (H':Hp),e=.ref a/\s'.os=s.os/\AllBare s'.gens/\Heap.FlyingW B outer a cls a0 s'.heap/\Un (oj outer) [] H H' s.heap s'.heap/\
 (∀ b o,s.heap.get? b=some o->H b=none->b∉oj outer->B.get? b=some o)/\(∀ b o,s.heap.get? b=some o->b∉oj outer->∃ o',B.get? b=some o')/\oU P w H' B/\s.heap.get? a=none/\E cls none H'
section
variable {X:Cx} {E:XK}
theorem II {pins:List (Addr×Obj)} {σ:St} {H H':Hp} {s:Shared} {h1 h2 B:Heap} {a:Addr} {cls a0:Value} {os:OsState} {g:Array GenState} {d:Drawn} {t:Nat} (tZ:X.stack=X.env::X.outer) (hex:X.ex=[])
   (I:Inv X pins σ H s) (ho:os=s.os) (hg:AllBare g) (fl:Heap.FlyingW B X.outer a cls a0 h2) (up:h1.UpToSlots h2)
   (un:Un (oj X.stack) [] H H' s.heap h1) (kb:∀ b o,s.heap.get? b=some o->H b=none->b∉oj X.stack->B.get? b=some o)
   (tb:∀ b o,s.heap.get? b=some o->b∉oj X.stack->∃ o',B.get? b=some o') (dz:oU X.prog X.w H' B) (na:s.heap.get? a=none) (hE:E cls none H'):
   A1 X.prog X.w X.outer X.H₀ X.s₀ E (.ref a) ⟨h2,g,d,t,os⟩:=by
 have nx:∀ b:Addr,b∉X.ex:=fun b=>by rw [hex];simp
 have ne:∀ b o,X.s₀.heap.get? b=some o->b∉oj X.outer->b∉oj X.stack:=fun b o e n z=>by
   rcases List.mem_cons.mp (I.tX b z) with q | q
   . have h1:=I.ok.above
     rw [<- q] at h1
     exact absurd (Nat.lt_of_lt_of_le (Heap.lt_size e) h1) (Nat.lt_irrefl _)
   . exact n q
 have inS:∀ b,b∈oj X.outer->b∈oj X.stack:=fun b hb=>by
   rw [tZ]
   unfold oj at hb ⊢
   rw [List.filterMap_cons]
   split
   . exact hb
   . exact List.mem_cons_of_mem _ hb
 refine ⟨a,cls,a0,B,H',rfl,ho.trans I.os,hg,fl,⟨fun b o e n hb _=>?_,fun b o e n hb _=>?_,fun b o e n _=>?_,fun b o e _=>?_,fun b xs e=>un.pB b xs (I.base.pB b xs e),fun b o xs e=>un.oW b o xs (I.base.oW b o xs e),fun b ps e=>?_⟩,
   fun b o e n hb=>kb b o (I.base.keep b o e n hb (nx b)) (I.base.free b o e n (nx b)) (ne b o e hb),fun b o e hb=>?_,dz,?_,hE⟩
 . exact fl.1 b o (kb b o (I.base.keep b o e n hb (nx b)) (I.base.free b o e n (nx b)) (ne b o e hb))
 . obtain ⟨sl,e1⟩:=I.base.slot b o e n hb (nx b)
   obtain ⟨sl',e2⟩:=un.slot b _ e1 (I.base.free b o e n (nx b)) (inS b hb) (by simp)
   obtain ⟨_,o',e3,nf⟩:=I.m5.mem hb
   rw [e1] at e3
   cases e3
   obtain ⟨sl'',e4⟩:=up b _ e2 nf
   exact ⟨sl'',e4⟩
 . obtain ⟨o',e1⟩:=I.base.there b o e (nx b)
   exact un.free b o' e1 (I.base.free b o e n (nx b)) (by simp)
 . by_cases hb:b∈oj X.outer
   . have n:X.H₀ b=none:=I.ok.Ek b hb
     obtain ⟨sl,e1⟩:=I.base.slot b o e n hb (nx b)
     obtain ⟨sl',e2⟩:=un.slot b _ e1 (I.base.free b o e n (nx b)) (inS b hb) (by simp)
     obtain ⟨_,o',e3,nf⟩:=I.m5.mem hb
     rw [e1] at e3
     cases e3
     obtain ⟨sl'',e4⟩:=up b _ e2 nf
     exact ⟨_,e4⟩
   . obtain ⟨o1,e1⟩:=I.base.there b o e (nx b)
     obtain ⟨o2,e2⟩:=tb b o1 e1 (ne b o e hb)
     exact ⟨o2,fl.1 b o2 e2⟩
 . obtain ⟨m1,e1⟩:=I.base.pF b ps e
   obtain ⟨m2,e2⟩:=un.pF b _ e1
   exact ⟨m1++m2,by rw [e2,Array.append_assoc]⟩
 . obtain ⟨o1,e1⟩:=I.base.there b o e (nx b)
   exact tb b o1 e1 (ne b o e hb)
 . cases q:X.s₀.heap.get? a with
   | none=>rfl
   | some o=>
     obtain ⟨o1,e1⟩:=I.base.there a o q (nx a)
     rw [na] at e1
     cases e1
end
section
variable {P:Program} {w:World} {K:PySem.W.Frag} {mg:Str->Option Value} {base:Heap} {N:List Str} {qual:Str} {scope:Scope} {f:Addr} {cd:Value} {A:Around} {outer:List Env} {s0:Shared} {H0:Hp} {E:XK} {CX:vO}
def xB (E:XK) (c:Value):TS:=fun _ _ H=>E c none H
structure Exc (K:PySem.W.Frag) (C:Addr):Prop where
 is:PySem.W.excIn K C [.type "ValueError",.type "Exception",.type "BaseException",.type "object"] "ValueError.__new__"=true
theorem Exc.obj {h:Heap} {C:Addr} (X:K.In h) (e:Exc K C):∃ bm Nn nm q bs hdct sn sub ab col dd k0 k1 k2 k3 k5 mN,h.get? C=some (excClassObj nm q C Nn bs bm hdct sn sub ab col dd k0 k1 k2 k3 k5 "ValueError.__new__")/\h.Ns Nn mN/\mN "__init__"=none/\OwnTail h [.type "ValueError",.type "Exception",.type "BaseException",.type "object"] bm:=by
 have q:=e.is
 unfold PySem.W.excIn at q
 split at q
 . rename_i dd cd sl ho
   split at q
   . rename_i C' bm k0 k1 k2 k3 n k5 hm hs
     simp only [Bool.and_eq_true,beq_iff_eq,Bool.not_eq_true'] at q
     obtain ⟨⟨⟨⟨⟨rfl,rfl⟩,hdel⟩,ht⟩,dz⟩,hni⟩:=q
     obtain ⟨nm,bs,mro,ns,qn,hd,sn,sub,ab,col,del⟩:=cd
     have e1:mro=.ref C'::bm:=hm
     have e2:del=false:=hdel
     subst e1 e2
     obtain ⟨l⟩:=sl
     have e3:l=[k0,k1,k2,k3,some (.builtin "ValueError.__new__"),k5]:=hs
     subst e3
     exact ⟨bm,ns,nm,qn,bs,hd,sn,sub,ab,col,dd,k0,k1,k2,k3,k5,_,X _ _ ho,.of_isNs (PySem.W.isNs_of_in X dz),PySem.W.nsMap_none_of_in X dz hni,PySem.W.tail_of_in X ht⟩
   . cases q
 . cases q
theorem uz {C:Addr} {x y:Str} {np j6 pos sp:Pos} {j:Nat} (hC:Exc K C) (hm:mg x=some (.ref C)) (hd:A.handled=none) (hg:Gl (ng (A1 P w) P w K mg base N qual scope f cd A outer s0 H0 E) x) (vP:(x==("__debug__":Str))=false:=by decide):
   JS (ng (A1 P w) P w K mg base N qual scope f cd A outer s0 H0 E) (.Raise (some (.Call (.Name x np) [.Constant (.str y) j sp] [] j6)) none pos) (xB E (.ref C)):=⟨by
 intro pins s σ H D I h
 obtain ⟨bm,Nn,nm,q,bs,hdct,sn,sub,ab,col,dd,k0,k1,k2,k3,k5,mN,hCo,hN,hni,T⟩:=hC.obj I.mod.Ju
 refine wpAny_Raise_call_subT (C:=C) (nm:=nm) (q:=q) (N:=Nn) (bs:=bs) (bm:=bm) (hdct:=hdct) (sn:=sn) (sub:=sub) (ab:=ab) (col:=col) (dd:=dd) (k0:=k0) (k1:=k1) (k2:=k2) (k3:=k3) (k5:=k5) PySem.F.excBase_ValueError (mN:=mN) (T.hasType PySem.F.excBase_ValueError.hasBase) hd rfl hni (sZ I hg hm ⟨rfl,?_⟩ vP)
 have pa:=B0 (X:=ng (A1 P w) P w K mg base N qual scope f cd A outer s0 H0 E) (En (x:=y) (j:=j) (pos:=sp)) EM
 refine Calls.evalArgs_plain (wpAny_mono (pa j6 pins s σ H (fun vs H2=>vs.length=1/\H2=H) I ⟨rfl,rfl⟩) (fun us s2 z=>?_) fun _ _ z=>z)
 obtain ⟨vs,H2,I2,r2,l2,rfl⟩:=z
 refine ⟨rfl,?_,I2.bk _ _ hCo,hN.keeps I2.bk,T.keeps I2.bk,fun h' e hx=>?_⟩
 . show us.length<=_
   rw [<- r2.length,l2]
   decide
 have nf:∀ b u,H2 b=some u->b∉oj (ng (A1 P w) P w K mg base N qual scope f cd A outer s0 H0 E).stack:=fun b u e z=>by
   rw [I2.sY b z] at e
   cases e
 refine wpAny_leaves_madeW (base:=PySem.W.hideAll s2.heap (oj (ng (A1 P w) P w K mg base N qual scope f cd A outer s0 H0 E).stack)) (h:=s2.heap) I2.ok.frames rfl (fun b o q=>PySem.W.of_hideAll _ q) (PySem.W.funFrames_hide I2.stack fun env he b hb=>List.mem_filterMap.mpr ⟨env,he,hb⟩) hx fun h2 t fl _ _ up=>?_
 refine II (X:=ng (A1 P w) P w K mg base N qual scope f cd A outer s0 H0 E) (H':=H2) (h1:=h') (s:=s2) rfl rfl I2 rfl I2.bare fl up (Un.kept hx.keeps) (fun b o e _ n=>PySem.W.hideAll_get _ e n) (fun b o e n=>⟨o,PySem.W.hideAll_get _ e n⟩) (fun b o e=>(I2.dz b o e).sy (fun c u hc q=>PySem.W.hideAll_get _ q ?_) (fun _ q=>q) fun _ _ q=>q) hx.new h
 rcases hc with z | z
 . subst z
   exact nf _ _ e
 . exact nf _ _ z⟩
end
end L2
namespace L2
open PySem PySem.Spec PyProof.Rows PySem.W PySem.Calls PySem.Builtin PySem.Builtin.ObjectAttr PySem.Builtin.Getset_descriptor
structure Fy (K:PySem.W.Frag) (C:Addr):Prop where
 ga:findIn K (.ref C) "__getattribute__"=some (some (.builtin "BaseException.__getattribute__"))
 gh:findIn K (.ref C) "__getattr__"=some none
 cl:findIn K (.ref C) "__class__"=some (some (.builtin "object.__class__"))
 mo:mroIn K C (.type "object")=some true
 mb:mroIn K C (.type "BaseException")=some true
 gt:specialIn K (.builtin "object.__class__") "__get__"=some (some (.builtin "getset_descriptor.__get__"))
 tk:takesIn K (.builtin "object.__class__")=some true
 is:(clsIn K C).isSome=true
def Mr (a C:Addr) (h:Heap):Prop:=∃ o,h.get? a=some o/\o.cls=.ref C
section
variable {K:PySem.W.Frag} {prog:Program} {w:World} {A:Around} {E:Value->Shared->Prop} {s:Shared} {a C:Addr}
theorem Mr.ty {M:Model} {h:Heap} (x:Mr a C h):Looks M h (typeOf (.ref a)) (.ref C):=by
 obtain ⟨o,e,c⟩:=x
 exact c ▸ (Looks.ld e).andThen .now
end
end L2
set_option Elab.async false
set_option linter.all false
set_option maxRecDepth 100000
set_option maxHeartbeats 4000000
namespace L2
open PySem PySem.Spec PyProof.Rows
def Cx.wk (X:Cx) (xe:Value->Shared->Prop) (pn:List (Addr×Obj)):Cx:={ X with xe:=xe,pn:=pn }
def Cx.uA (X:Cx) (a:Addr) (xe:Value->Shared->Prop) (pn:List (Addr×Obj)):Cx:={ X with A:=X.A.mark (some (.ref a)),calm:=false,xe:=xe,pn:=pn }
section
variable {X:Cx} {pins Fz:List (Addr×Obj)} {σ:St} {H H':Hp} {s:Shared} {xe:Value->Shared->Prop}
theorem Inv.wk (I:Inv X pins σ H s):Inv (X.wk xe (X.pn++pins)) [] σ H s:=
 ⟨⟨I.ok.mod,I.ok.kind,I.ok.glob,I.ok.blt,I.ok.above,I.ok.inj,I.ok.has,I.ok.HF,I.ok.hd,I.ok.frames,I.ok.Jv,I.ok.Mg,I.ok.bs,I.ok.Ec,I.ok.wK,I.ok.ze,I.ok.m5,I.ok.Ek⟩,I.os,I.bare,I.base,I.loc,I.cell,I.free,I.jT,fun p hp=>I.pin p (by rw [List.append_nil] at hp;exact hp),I.dz,I.len⟩
theorem Inv.qt (I:Inv (X.wk xe (X.pn++pins)) Fz σ H s):Inv X pins σ H s:=
 ⟨⟨I.ok.mod,I.ok.kind,I.ok.glob,I.ok.blt,I.ok.above,I.ok.inj,I.ok.has,I.ok.HF,I.ok.hd,I.ok.frames,I.ok.Jv,I.ok.Mg,I.ok.bs,I.ok.Ec,I.ok.wK,I.ok.ze,I.ok.m5,I.ok.Ek⟩,I.os,I.bare,I.base,I.loc,I.cell,I.free,I.jT,fun p hp=>I.pin p (List.mem_append_left _ hp),I.dz,I.len⟩
theorem Inv.uA {a:Addr} (I:Inv X pins σ H s):Inv (X.uA a xe (X.pn++pins)) [] σ H s:=
 ⟨⟨I.ok.mod,I.ok.kind,I.ok.glob,I.ok.blt,I.ok.above,I.ok.inj,I.ok.has,I.ok.HF,(fun z=>nomatch z),I.ok.frames,I.ok.Jv,I.ok.Mg,I.ok.bs,I.ok.Ec,I.ok.wK,I.ok.ze,I.ok.m5,I.ok.Ek⟩,I.os,I.bare,I.base,I.loc,I.cell,I.free,I.jT,fun p hp=>I.pin p (by rw [List.append_nil] at hp;exact hp),I.dz,I.len⟩
theorem Inv.uncaught {a:Addr} (ok:X.Ok) (I:Inv (X.uA a xe (X.pn++pins)) Fz σ H s):Inv X pins σ H s:=
 ⟨ok,I.os,I.bare,I.base,I.loc,I.cell,I.free,I.jT,fun p hp=>I.pin p (List.mem_append_left _ hp),I.dz,I.len⟩
end
theorem NH {st:List Env} {base h h1 h2 B:Heap} {H H':Hp} (ff:h.FunFrames base st) (fr:∀ b∈oj st,H b=none) (un:Un (oj st) [] H H' h h1) (kb:∀ b o,h.get? b=some o->H b=none->b∉oj st->B.get? b=some o)
   (tb:∀ b o,h.get? b=some o->b∉oj st->∃ o',B.get? b=some o') (ks:B.StaysIn h2) (up:h1.UpToSlots h2):Un (oj st) [] H H' h h2:=by
 have sl:∀ b o,h.get? b=some o->H b=none->b∈oj st->∃ sl,h2.get? b=some { o with slots:=sl }:=fun b o e n hb=>by
   obtain ⟨s1,e1⟩:=un.slot b o e n hb (by simp)
   obtain ⟨_,o',e3,nf⟩:=ff.mem hb
   rw [e] at e3
   cases e3
   obtain ⟨s2,e2⟩:=up b _ e1 nf
   exact ⟨s2,e2⟩
 refine ⟨fun b o e n hb _=>ks b o (kb b o e n hb),fun b o e n hb _=>sl b o e n hb,un.free,fun b o e _=>?_,un.pB,un.oW,un.pF⟩
 by_cases hb:b∈oj st
 . obtain ⟨_,e1⟩:=sl b o e (fr b hb) hb
   exact ⟨_,e1⟩
 . obtain ⟨o',e1⟩:=tb b o e hb
   exact ⟨o',ks b o' e1⟩
def Ends.gone (D:Ends) (i:Nat):Ends:={ nx:=fun σ H=>D.nx (σ.set i none) H,rt:=D.rt,bk:=fun σ H=>D.bk (σ.set i none) H,ct:=fun σ H=>D.ct (σ.set i none) H }
section
variable {X:Cx}
def Lk (K:PySem.W.Frag) (CF:Addr) (len i:Nat) (tb:XK->TS) (ts:TS):TS:=fun D σ H=>
 tb (fun cls _ H'=>∃ C,cls=.ref C/\Fy K C/\PySem.W.exmOne K (.ref C) (.ref CF)=some true/\∀ a,L2.new K H' a->ts (D.gone i) ((List.replicate len none).set i (some (.ref a))) (upd H' a (.ext (Mr a C)))) D σ H
end
end L2
set_option Elab.async false
set_option linter.all false
set_option maxRecDepth 100000
set_option maxHeartbeats 4000000
namespace L2
open PySem PySem.Spec PyProof.Rows
section
variable {P:Program} {w:World} {K:PySem.W.Frag} {mg:Str->Option Value} {base:Heap} {N:List Str} {name qual:Str} {scope:Scope} {f c':Addr} {A:Around} {outer:List Env} {s:Shared} {H:Hp} {E:XK} {cl:List (Str×Addr)} {params:Arguments} {body:Expr} {pm ctv:Value} {σ:St} {Q:VK} {k:Nat} {te:TE}
end
section
variable {X:Cx} {N:List Str} {name qual:Str} {scope:Scope} {f c':Addr} {E:XK} {cl:List (Str×Addr)} {params:Arguments} {body:Expr} {pm ctv:Value} {σl:St} {k i:Nat} {te:TE} {x:Str} {p pos:Pos}
end
end L2
set_option Elab.async false
set_option linter.all false
set_option maxRecDepth 100000
set_option maxHeartbeats 4000000
namespace L2
open PySem PySem.Spec PyProof.Rows
def IJ (H:Hp) (ps:Array Value) (qual:Str):Prop:=TriplesOk ps.toList/\∀ q v,codeAmong q ps.toList=some v->∃ c',v=.ref c'/\H c'=some (.ext fun h=>h.CodeRec (.ref c') qual)
section
variable {X:Cx} {pins:List (Addr×Obj)} {σ:St} {H:Hp} {s:Shared} {c P:Addr} {ps:Array Value} {params:Arguments} {body:Expr} {scope:Scope} {pos:Pos} {A:Around} {E:Value->Shared->Prop} {Q:Value->Shared->Prop}
end
section
variable {X:Cx} {pins:List (Addr×Obj)} {σ:St} {H H':Hp} {s':Shared} {P f c':Addr} {qual:Str} {params:Arguments} {body:Expr} {scope:Scope} {pm ctv:Value} {N:List Str} {src:List (Option Nat)}
end
section
variable {P:Program} {w:World} {K:PySem.W.Frag} {mg:Str->Option Value} {base:Heap} {x qual:Str} {st:Stmt} {f:Addr} {fd:FuncData} {N ps:List Str} {k:Nat}
theorem fh.okX {sp:Sp} (F:fh K x qual st f fd) (S:aD N ps (af st)) (len:∀ vs H Q E,sp vs H Q E->vs.length=ps.length)
   (qa:∀ (cG:Value) (A:Around) (outer:List Env) (s:Shared) (H:Hp) (vs:List V) (Q:VK) (E:XK),jB k (A.deeper (envOfC qual (af st) s.heap.objs.size f cG))->sp vs H Q E->
     ∃ t,JB (ng (A1 P w) P w K mg base N qual (af st) f cG A outer s H E) (aq st) t/\t { nx:=fun _ H'=>Q .cQ H',rt:=Q } (start N vs) H):bf P w K mg base (A1 P w) (k + 1) f fd ps sp:=by
 obtain ⟨oc,od,kV,doc,pm,an,cG,ct,Ie,rfl,lk,Ax⟩:=F.ex
 refine Jz lk Ax S len fun A outer s H vs Q E hr Hr=>?_
 obtain ⟨t,h,q⟩:=qa cG A outer s H vs Q E hr Hr
 exact ⟨t,h.h,q⟩
structure mw (P:Program) (w:World) (K:PySem.W.Frag) (mg:Str->Option Value) (base:Heap) (x:Str) (k:Nat) (ps:List Str) (sp:Sp):Prop where
 ex:∃ (f:Addr) (fd:FuncData),bf P w K mg base (A1 P w) k f fd ps sp/\Binds K fd ps []/\PySem.W.keepIn K (.ref f)=true/\mg x=some (.ref f)
end
end L2
set_option Elab.async false
set_option linter.all false
set_option maxRecDepth 100000
set_option maxHeartbeats 4000000
namespace L2
open PySem PySem.Spec PyProof.Rows
section
variable {X:Cx}
end
end L2
set_option Elab.async false
set_option linter.all false
set_option maxRecDepth 100000
set_option maxHeartbeats 4000000
namespace L2
open PySem PySem.Spec PyProof.Rows
end L2
set_option Elab.async false
set_option linter.all false
set_option maxRecDepth 100000
set_option maxHeartbeats 4000000
namespace L2
open PySem PySem.Spec PyProof.Rows HT
section
variable {prog:Program} {w:World} {A:Around} {E:Value->Shared->Prop} {s:Shared}
end
theorem bE {X:Cx} {all rest:List Stmt} {t2:TS} {G:TS->Prop} (h2:JB X rest t2) (k:∀ r,JB X rest r->r=t2->∃ t,JB X all t/\G t):∃ t,JB X all t/\G t:=k t2 h2 rfl
theorem S4 {CX:vO} {P:Program} {w:World} {K:PySem.W.Frag} {mg:Str->Option Value} {base:Heap} {N:List Str} {qual:Str} {scope:Scope} {f:Addr} {cd:Value} {A:Around} {outer:List Env} {s:Shared} {H:Hp} {E:XK}:(ng CX P w K mg base N qual scope f cd A outer s H E).N=N:=rfl
section
variable {X:Cx}
def FA (K:PySem.W.Frag):V->Option Int->Option Int->Hp->VK->Prop:=fun x lo hi H Q=>∃ a xs,x=.ref a/\tupQ K H a=some xs/\∀ q H',tupQ K H' q=some (iL xs lo hi)->Ext K H H'->Q (.ref q) H'
def A2 (K:PySem.W.Frag):R2:=fun x y H Q=>∃ a b xs ys,x=.ref a/\y=.ref b/\tupQ K H a=some xs/\tupQ K H b=some ys/\xs≠[]/\xs.length + ys.length<=sizeLine/\∀ q H',tupQ K H' q=some (xs++ys)->Ext K H H'->Q (.ref q) H'
end
structure XT (K:PySem.W.Frag) (T:Addr) (q:Str) (H H':Hp):Prop where
 S6:∃ ps,H T=some (.Ei ps)
 tab:∃ ps,H' T=some (.Ei ps)/\IJ H' ps q
 keep:∀ b o,H b=some o->b≠T->H' b=some o
 mod:∀ b xs,H b=none->lB K b=some xs->H' b=none
section
variable {K:PySem.W.Frag} {T:Addr} {q:Str} {H H1 H2:Hp}
theorem IJ.ext {ps:Array Value} (h:IJ H ps q) (x:∀ b o,H b=some o->(∀ ps,o≠.Ei ps)->H1 b=some o):IJ H1 ps q:=⟨h.1,fun p v e=>by
 obtain ⟨c,rfl,hc⟩:=h.2 p v e
 exact ⟨c,rfl,x _ _ hc nofun⟩⟩
theorem XT.trans (x:XT K T q H H1) (y:XT K T q H1 H2):XT K T q H H2:=⟨x.S6,y.tab,fun b o e n=>y.keep b o (x.keep b o e n) n,fun b xs e k=>y.mod b xs (x.mod b xs e k) k⟩
theorem XT.ext (x:XT K T q H H1) (y:Ext K H1 H2):XT K T q H H2:=by
 obtain ⟨ps,e,c⟩:=x.tab
 exact ⟨x.S6,⟨ps,y.same _ _ e,c.ext fun b o h _=>y.same b o h⟩,fun b o e n=>y.same _ _ (x.keep b o e n),fun b xs e k=>y.mod b xs (x.mod b xs e k) k⟩
theorem XT.at (x:XT K T q H H1) {b:Addr} {o:HO} (h:H b=some o) (n:∀ ps,o≠.Ei ps):H1 b=some o:=x.keep b o h fun z=>by
 obtain ⟨ps,e⟩:=x.S6
 rw [z,e] at h
 cases h
 exact n _ rfl
theorem XT.tup (x:XT K T q H H1) {a:Addr} {vs:List V} (h:tupQ K H a=some vs):tupQ K H1 a=some vs:=by
 unfold tupQ at h ⊢
 split at h
 . next e=>rw [x.at e nofun];exact h
 . cases h
 . next e=>rw [x.mod a vs e h];exact h
end
end L2
set_option Elab.async false
set_option linter.all false
set_option maxRecDepth 100000
set_option maxHeartbeats 4000000
namespace L2
open PySem PySem.Spec PyProof.Rows
section
variable {X:Cx}
end
section
variable {X:Cx}
def xC (K:PySem.W.Frag):R2:=fun x y H Q=>∃ a b xs ys,x=.ref a/\y=.ref b/\tupQ K H a=some xs/\tupQ K H b=some ys/\xs.length + ys.length<=sizeLine/\∀ q H',tupQ K H' q=some (xs++ys)->Ext K H H'->Q (.ref q) H'
end
end L2
set_option Elab.async false
set_option linter.all false
set_option maxRecDepth 100000
set_option maxHeartbeats 4000000
namespace L2
open PySem PySem.Spec PyProof.Rows
section
variable {X:Cx} {o e value:Expr} {f:Str} {pos pos' M0 p:Pos} {ta tv te:TE}
end
section
variable {P:Program} {w:World} {K:PySem.W.Frag} {mg:Str->Option Value} {base:Heap} {x qual:Str} {st:Stmt} {f:Addr} {fd:FuncData} {N ps:List Str} {k:Nat} {sp:Sp}
end
section
variable {X:Cx} {CX:vO} {k:Nat} {f C:Addr} {fd:FuncData} {ps:List Str} {sp:Sp} {za:List V} {ds:List Value} {E:XK} {y:Str} {p pos:Pos} {e:Expr} {es:List Expr} {t:TA}
end
section
variable {X:Cx} {a:Addr} {vs:List (Key×Value)} {o i:Expr} {to ti:TE} {pos:Pos}
end
section
variable {X:Cx}
end
section
variable {X:Cx}
end
end L2
set_option Elab.async false
set_option linter.all false
set_option maxRecDepth 100000
set_option maxHeartbeats 4000000
namespace HT
open PySem PySem.Spec PyProof.Rows
section
variable {prog:Program} {w:World} {A:Around} {E:Value->Shared->Prop} {s:Shared}
end
end HT
namespace L2
open PySem PySem.Spec PyProof.Rows
section
variable {X:Cx} {e:Expr} {te:TE} {pos:Pos}
end
end L2
set_option Elab.async false
set_option linter.all false
set_option maxRecDepth 100000
set_option maxHeartbeats 4000000
namespace L2
open PySem PySem.Spec PyProof.Rows
section
variable {X:Cx} {k:Nat} {C:Addr} {ps:List Str} {sp:Sp} {za:List V} {E:XK} {m y:Str} {apos pos p:Pos} {o e value:Expr} {es:List Expr} {t:TA} {ta tv:TE} {pl:Sem Bool}
end
section
variable {P:Program} {w:World} {K:PySem.W.Frag} {mg:Str->Option Value} {base:Heap} {x qual:Str} {st:Stmt} {f:Addr} {fd:FuncData} {N ps:List Str} {k:Nat} {sp:Sp}
end
section
variable {X:Cx}
end
end L2
set_option Elab.async false
set_option linter.all false
set_option maxRecDepth 100000
set_option maxHeartbeats 4000000
namespace L2
open PySem PySem.Spec PyProof.Rows
section
variable {X:Cx}
def Ll (K:PySem.W.Frag):R2:=fun x y H Q=>∃ l b xs,x=.ref l/\y=.ref b/\aZ K H l xs/\aZ K H b []/\Q (.bl (!xs.isEmpty)) H
end
section
variable {P:Program} {w:World} {A:Around} {E:Value->Shared->Prop} {s:Shared} {S:Addr} {vs:List (Key×Value)} {ep:Nat}
end
section
variable {X:Cx}
end
end L2
set_option Elab.async false
set_option linter.all false
set_option maxRecDepth 100000
set_option maxHeartbeats 4000000
namespace L2
open PySem PySem.Spec PyProof.Rows
section
variable {X:Cx}
end
end L2
set_option Elab.async false
set_option linter.all false
set_option maxRecDepth 100000
set_option maxHeartbeats 4000000
namespace L2
open PySem PySem.Spec PyProof.Rows
section
variable {X:Cx}
def qu:V->List V->Hp->VK->Prop:=fun x vs H Q=>∃ a,x=.str a/\vs=[]/\Q (.bl (Txt.isascii a)) H
theorem A3:ES X "str.isascii" qu:=by
 intro pins s σ H x vs v us Q I rx rv h
 obtain ⟨a,rfl,rfl,q⟩:=h
 obtain ⟨t,rfl⟩:=rx
 cases rv
 exact call_meets PySem.F.slot_str_isascii (typeIs_str _ _ _) PySem.F.entry_str_isascii (PySem.F.args_str_isascii_1 _) (gives_str_isascii a t).meets (show (Made.val _).post _ s from ⟨.bl _,H,I,rfl,q⟩)
def qv:V->List V->Hp->VK->Prop:=fun x vs H Q=>∃ a,x=.str a/\vs=[]/\Q (.bl (Txt.isdigit a)) H
theorem A4:ES X "str.isdigit" qv:=by
 intro pins s σ H x vs v us Q I rx rv h
 obtain ⟨a,rfl,rfl,q⟩:=h
 obtain ⟨t,rfl⟩:=rx
 cases rv
 exact call_meets PySem.F.slot_str_isdigit (typeIs_str _ _ _) PySem.F.entry_str_isdigit (PySem.F.args_str_isdigit_1 _) (gives_str_isdigit a t).meets (show (Made.val _).post _ s from ⟨.bl _,H,I,rfl,q⟩)
def tN:V->List V->Hp->VK->Prop:=fun x vs H Q=>∃ a b,x=.str a/\vs=[.str b]/\a.length<=sizeLine/\Q (.str (Txt.removeprefix a b)) H
theorem sD:ES X "str.removeprefix" tN:=by
 intro pins s σ H x vs v us Q I rx rv h
 obtain ⟨a,b,rfl,rfl,ha,q⟩:=h
 obtain ⟨t,rfl⟩:=rx
 obtain ⟨u,rfl,ru⟩:=vals1 rv
 obtain ⟨t2,rfl⟩:=ru
 exact call_meets PySem.F.slot_str_removeprefix (typeIs_str _ _ _) PySem.F.entry_str_removeprefix (PySem.F.args_str_removeprefix_2 _ _) (gives_str_removeprefix a b t t2).meets (post_affix ha _ fun t' k=>⟨.str _,H,I.tok k,⟨t',rfl⟩,q⟩)
theorem wm:∀ (ts:List Str) (k:Nat),Vals (ts.map V.str) (strsFrom k ts)
 | [],_=>.nil
 | t::ts,k=>.cons ⟨_,rfl⟩ (wm ts (k + 1))
def xE (K:PySem.W.Frag):V->List V->Hp->VK->Prop:=fun x vs H Q=>∃ a b,x=.str a/\vs=[.str b]/\(b.length==0)=false/\a.length<=sizeLine/\(Txt.split a b).length<=sizeLine/\∀ D,L2.new K H D->Q (.ref D) (upd H D (.lst ((Txt.split a b).map V.str)))
theorem lD:ES X "str.split" (xE X.K):=by
 intro pins s σ H x vs v us Q I rx rv h
 obtain ⟨a,b,rfl,rfl,hb,ha,hn,q⟩:=h
 obtain ⟨t,rfl⟩:=rx
 obtain ⟨u,rfl,ru⟩:=vals1 rv
 obtain ⟨t2,rfl⟩:=ru
 have fin:∀ {its:List Value} {k:Nat},Vals ((Txt.split a b).map V.str) its->EP X pins σ Q (.ref s.heap.objs.size) { s with toks:=k,heap:=s.heap.push { cls:=.type "list",data:=.seq its.toArray } }:=fun {its k} vv=>by
   have I2:Inv X pins σ (upd H s.heap.objs.size (.lst ((Txt.split a b).map V.str))) { s with toks:=k,heap:=s.heap.push { cls:=.type "list",data:=.seq its.toArray } }:=
     I.laid (t':=k) (fun b ob q=>Heap.get?_push_of_some _ q) (Nat.le_refl _) ⟨by rw [List.length_map];exact hn,its,0,vv,Heap.get?_push_size _ rfl⟩
   exact ⟨.ref s.heap.objs.size,_,I2,rfl,q _ ⟨I.dz.fresh (Nat.le_refl _),I2.nA ah⟩⟩
 have e1:∀ {ts:List Str},Txt.split a b=ts->∀ {its:List Value} {k:Nat},Vals (ts.map V.str) its->EP X pins σ Q (.ref s.heap.objs.size) { s with toks:=k,heap:=s.heap.push { cls:=.type "list",data:=.seq its.toArray } }:=fun {ts} e {its k} vv=>fin (by rw [e];exact vv)
 have one:Vals ([a].map V.str) [.str a t]:=.cons ⟨t,rfl⟩ .nil
 cases h1:(decide (a.length < b.length)||decide (Builtin.Str.strKind a < Builtin.Str.strKind b)) with
 | true=>exact call_meets PySem.F.slot_str_split (typeIs_str _ _ _) PySem.F.entry_str_split (PySem.F.args_str_split_2 _ _) (meets_str_split_cannot_occur a b t t2 h1) (e1 (by unfold Txt.split;rw [if_pos h1]) (its:=[.str a t]) (k:=s.toks) one)
 | false=>
   cases h2:(Builtin.Str.occurrences a b 0 a.length (a.length + 1)).isEmpty with
   | true=>exact call_meets PySem.F.slot_str_split (typeIs_str _ _ _) PySem.F.entry_str_split (PySem.F.args_str_split_2 _ _) (meets_str_split_not_found a b t t2 h1 hb h2) (e1 (by unfold Txt.split;rw [h1,h2,if_neg (by decide),if_pos rfl]) (its:=[.str a t]) (k:=s.toks) one)
   | false=>
     have e2:Txt.split a b=Builtin.Str.partsBetween a (Builtin.Str.occurrences a b 0 a.length (a.length + 1)) b.length:=by unfold Txt.split;rw [h1,h2,if_neg (by decide),if_neg (by decide)]
     exact call_meets PySem.F.slot_str_split (typeIs_str _ _ _) PySem.F.entry_str_split (PySem.F.args_str_split_2 _ _) (meets_str_split_sep a b t t2 h1 hb h2 ha (e2 ▸ hn)) (e1 e2 (wm _ _))
theorem Dz:gx X (.type "int") (fun xs H Q=>∃ a n,xs=[.str a]/\PySem.intText? a=some n/\a.length<=640/\Q (.int n) H):=by
 intro pins s σ H xs us Q I r h
 obtain ⟨a,n,rfl,hn,hl,q⟩:=h
 obtain ⟨u,rfl,ru⟩:=vals1 r
 obtain ⟨t,rfl⟩:=ru
 exact PySem.W.KIN.call_text hn hl ⟨.int n,H,I.tok _,⟨_,rfl⟩,q⟩
end
end L2
set_option Elab.async false
set_option linter.all false
set_option maxRecDepth 100000
set_option maxHeartbeats 4000000
namespace L2
open PySem PySem.Spec PyProof.Rows PySem.W
section
variable {prog:Program} {w:World} {A:Around} {E:Value->Shared->Prop} {s:Shared}
theorem DA {l:Addr} {items:Array Value} {n i:Nat} {Q:List Value->Shared->Prop} (hl:s.heap.IsList l items) (hh:A.handled=none) (hi:i < n) (hn:n<=items.size + 1) (hz:items.size<=sizeLine)
   (h:∀ h₂ tk,Heap.ExtBut s.heap.objs.size s.heap h₂->Q (items.toList.take i++[.ref h₂.objs.size]++(items.toList.drop i).drop (items.size + 1 - n))
     { s with heap:=h₂.push { cls:=.type "list",data:=.seq ((items.toList.drop i).take (items.size + 1 - n)).toArray },toks:=tk }):wpAny (model prog w) A (unpackItems (.ref l) n (some i)) Q E s:=by
 have qR:l≠s.heap.objs.size:=by obtain ⟨o,ho,_⟩:=hl;exact Nat.ne_of_lt (Heap.lt_size ho)
 have hll:l < s.heap.objs.size:=by obtain ⟨o,ho,_⟩:=hl;exact Heap.lt_size ho
 unfold unpackItems
 refine wpAny_bind ?_
 unfold notIterableAtAll
 refine wpAny_bind (wpAny_specialOf hl.typeIs slot_list_iter.lookup ?_)
 refine wpAny_pure ?_
 simp only [Bool.false_eq_true,if_false]
 refine wpAny_bind (wpAny_holding (wpAny_pyIter_list hl ?_))
 refine wpAny_bind (wpAny_holding (kun_draw qR i 0 _ _ ⟨_,Heap.get?_push_size _ rfl,rfl,rfl⟩ (hl.push _) (by omega) fun h₁ hit₁ hs₁=>?_))
 have hl₁:h₁.IsList l items:=(hl.push _).extBut hs₁.extBut qR
 rw [Nat.zero_add] at hit₁
 have hit₁':=hit₁
 obtain ⟨oi,hoi,_⟩:=hit₁'
 have hl₁':=hl₁
 obtain ⟨ol,hol,_⟩:=hl₁'
 rw [List.drop_zero]
 have hfl:(items.toList.take i).length=i:=by rw [List.length_take,Array.length_toList];omega
 rw [if_neg (show ¬ ((items.toList.take i).length < i) by rw [hfl];omega)]
 refine wpAny_bind (wpAny_holding (kun_collect (s:={ s with heap:=h₁ }) (T:="list_iterator") (.inr (.inr (.inl rfl))) (Walks.list (A:=A.in1) hh s.heap.objs.size l qR items) (fun j u st=>st.1.typeIs) (k:=i) (by omega) ⟨hit₁,hl₁⟩ (Heap.lt_size hoi) (Heap.lt_size hol) (fun h₂ tk hk=>?_) hz))
 have S7:(items.toList.drop i).length=items.size - i:=by rw [List.length_drop,Array.length_toList]
 have S8:(items.toList.drop i).length - (n - 1 - i)=items.size + 1 - n:=by rw [S7];omega
 show wpAny _ _ (if (items.toList.drop i).length < n - 1 - i then _ else _) _ _ _
 rw [if_neg (by rw [S7];omega)]
 show wpAny _ _ (newList ((items.toList.drop i).take ((items.toList.drop i).length - (n - 1 - i))) >>=fun d=>pure (items.toList.take i++[d]++(items.toList.drop i).drop ((items.toList.drop i).length - (n - 1 - i)))) _ _ _
 rw [S8]
 have he:Heap.ExtBut s.heap.objs.size s.heap h₂:=fun b o hb e=>hk b o hb (hs₁.extBut b o hb (Heap.get?_push_of_some _ e))
 exact wpAny_bind (wpAny_newList (s:={ s with heap:=h₂,toks:=tk }) (wpAny_pure (h h₂ tk he)) (by rw [List.length_take,S7];omega))
end
section
variable {X:Cx} {es:List Expr} {pos:Pos} {e:Expr}
theorem wo {vs:List V} {us:List Value} (h:Vals vs us):∀ n:Nat,Vals (vs.take n) (us.take n):=by
 induction h with
 | nil=>intro n;simp;exact .nil
 | cons a b ih=>intro n;cases n with
   | zero=>exact .nil
   | succ n=>exact .cons a (ih n)
theorem rB {vs:List V} {us:List Value} (h:Vals vs us):∀ n:Nat,Vals (vs.drop n) (us.drop n):=by
 induction h with
 | nil=>intro n;simp;exact .nil
 | cons a b ih=>intro n;cases n with
   | zero=>exact .cons a b
   | succ n=>exact ih n
theorem FD {vs ws:List V} {us xs:List Value} (h:Vals vs us) (h2:Vals ws xs):Vals (vs++ws) (us++xs):=by
 induction h with
 | nil=>exact h2
 | cons a b ih=>exact .cons a ih
def xF (K:PySem.W.Frag) (n i:Nat) (t:zo):TG:=fun v σ H Q=>∃ a xs,v=.ref a/\aZ K H a xs/\n<=xs.length + 1/\
 ∀ D,L2.new K H D->t (xs.take i++.ref D::(xs.drop i).drop (xs.length + 1 - n)) σ (upd H D (.lst ((xs.drop i).take (xs.length + 1 - n)))) Q
theorem FE {k:Nat} {t:zo} {n i:Nat} (hc:X.calm=true) (h:Iw X es t) (hi:i < n:=by decide) (hn:(assignEach es X.env).length=n:=by rfl) (tZ:(assignEach es X.env).findIdx? (·.1)=some i:=by rfl):JG X (.Tuple es k pos) (xF X.K n i t):=⟨by
 intro pins s σ H v u Q I r hw
 obtain ⟨a,xs,e1,hq,hl,hw⟩:=hw
 subst e1
 cases r
 obtain ⟨its,rv,ht,hz⟩:=I.list hq
 have ln:xs.length=its.length:=rv.length
 rw [assign_Tuple]
 refine wpAny_bind (wpAny_standAt ?_)
 unfold unpack
 rw [hn,tZ]
 refine wpAny_bind (wpAny_holding (DA ht.isList (I.ok.hd hc) hi (by simpa [<- ln] using hl) (by simpa [<- ln] using hz) fun h₂ tk hx=>?_))
 have I0:Inv X pins σ H { s with heap:=h₂,toks:=tk }:=I.kept (t':=tk) fun b o e=>hx b o (Nat.ne_of_lt (Heap.lt_size e)) e
 have I1:Inv X pins σ (upd H h₂.objs.size (.lst ((xs.drop i).take (xs.length + 1 - n)))) { s with heap:=h₂.push { cls:=.type "list",data:=.seq ((its.drop i).take (xs.length + 1 - n)).toArray },toks:=tk }:=
   I0.laid (t':=tk) (fun b ob q=>Heap.get?_push_of_some _ q) (Nat.le_refl _) ⟨by rw [List.length_take,List.length_drop];omega,_,0,wo (rB rv i) _,Heap.get?_push_size _ rfl⟩
 have:=h.h pins _ σ _ _ (its.take i++[.ref h₂.objs.size]++(its.drop i).drop (xs.length + 1 - n)) Q I1 (by
   rw [List.append_assoc]
   exact FD (wo rv i) (.cons rfl (rB (rB rv i) _))) (hw _ ⟨I0.dz.fresh (Nat.le_refl _),I1.nA ah⟩)
 simpa [<- ln] using this⟩
theorem FF {t:TG} {u:zo} (h1:JG X e t) (h2:Iw X es u) {p:Pos} (hs:(assignEach (.Starred e p::es) X.env).map (·.2)=assign e X.env::(assignEach es X.env).map (·.2):=by rfl):Iw X (.Starred e p::es) (rR t u):=⟨by
 intro pins s σ H vs us Q I r h
 obtain ⟨v,vr,e1,h⟩:=h
 subst e1
 cases r with
 | cons r rr=>
   rw [hs]
   refine assignInOrder_cons (dX (h1.h pins s σ H _ _ _ I r h) fun _ s1 ⟨σ1,H1,I1,q1⟩=>?_)
   exact h2.h pins s1 σ1 H1 _ _ Q I1 rr q1⟩
end
end L2
set_option Elab.async false
set_option linter.all false
set_option maxRecDepth 100000
set_option maxHeartbeats 4000000
namespace L2
open PySem PySem.Spec PyProof.Rows
def d9:List Nat->List Nat
 | 45::cs=>cs
 | l=>l
def bF (c:Nat):Bool:=decide (48<=c)&&decide (c<=57)
def qw (l:List Nat):Bool:=!(d9 l).isEmpty&&(d9 l).all bF&&decide ((d9 l).length<=60)&&!(decide ((d9 l).head?=some 48)&&decide (l≠[48]))
def DB (l:List Nat):Int:=match l with
 | 45::cs=>-((NumText.digitsVal cs:Nat):Int)
 | l=>((NumText.digitsVal l:Nat):Int)
def ak (t:Str):Option Int:=if qw t.cps.toList=true then some (DB t.cps.toList) else none
theorem nE {l:List Nat} (h:l.head?≠some 45):d9 l=l:=by
 unfold d9
 split
 . exact absurd rfl h
 . rfl
theorem Cn {l:List Nat} (h:l.head?≠some 45):DB l=((NumText.digitsVal l:Nat):Int):=by
 unfold DB
 split
 . exact absurd rfl h
 . rfl
theorem DC:(Str.ofString "-").cps.toList=[45]:=by decide +kernel
theorem uB (t:Str):(Txt.removeprefix t "-").cps.toList=d9 t.cps.toList:=by
 rw [StrLaws.removeprefix_eq t "-",StrLaws.subAt_eq,DC,show (Str.ofString "-").length=1 from by decide +kernel]
 have hl:t.length=t.cps.toList.length:=by simp [Str.length]
 rw [hl]
 cases e:t.cps.toList with
 | nil=>simp [d9,e]
 | cons c r=>
   by_cases z:c=45
   . subst z
     simp [d9]
   . rw [nE (by simp [z])]
     simp [z,e]
theorem digit_ascii:∀ c,c < 128->Unicode.isDigit c=bF c:=by decide +kernel
theorem IK (b:Str):(Txt.isascii b&&Txt.isdigit b)=(!(b.cps.toList).isEmpty&&b.cps.toList.all bF):=by
 unfold Txt.isascii Txt.isdigit
 have hl:b.length=b.cps.toList.length:=by simp [Str.length]
 rw [hl,<- Array.all_toList,<- Array.all_toList]
 generalize b.cps.toList=l
 rw [Bool.eq_iff_iff]
 simp only [Bool.and_eq_true,List.all_eq_true,decide_eq_true_eq,Bool.not_eq_true',List.isEmpty_eq_false_iff,ne_eq]
 constructor
 . rintro ⟨h1,h2,h3⟩
   refine ⟨fun e=>by subst e;simp at h2,fun c hc=>?_⟩
   rw [<- digit_ascii c (h1 c hc)]
   exact h3 c hc
 . rintro ⟨h1,h2⟩
   have lt:∀ c∈l,c < 128:=fun c hc=>by
     have:=h2 c hc
     simp only [bF,Bool.and_eq_true,decide_eq_true_eq] at this
     omega
   refine ⟨lt,List.length_pos_iff.mpr h1,fun c hc=>?_⟩
   rw [digit_ascii c (lt c hc)]
   exact h2 c hc
theorem DE {cs:List Nat} (h:cs.all bF=true):NumText.AllDigits cs:=by
 intro c hc
 have:=List.all_eq_true.mp h c hc
 unfold bF at this
 simpa using this
theorem xH {l:List Nat} (h:qw l=true):d9 l≠[]/\NumText.AllDigits (d9 l)/\(d9 l).length<=60/\((d9 l).head?=some 48->l=[48]):=by
 simp only [qw,Bool.and_eq_true,Bool.not_eq_true',List.isEmpty_eq_false_iff,decide_eq_true_eq,Bool.and_eq_false_imp,decide_eq_false_iff_not,ne_eq,Classical.not_not] at h
 exact ⟨h.1.1.1,DE h.1.1.2,h.1.2,h.2⟩
theorem Co {t:Str} (h:qw t.cps.toList=true):t.length<=61:=by
 obtain ⟨h1,h2,h3,h4⟩:=xH h
 have hl:t.length=t.cps.toList.length:=by simp [Str.length]
 rw [hl]
 cases e:t.cps.toList with
 | nil=>simp
 | cons c r=>
   by_cases z:c=45
   . subst z
     rw [e] at h3
     simp only [d9] at h3
     rw [List.length_cons];omega
   . rw [e,nE (by simp [z])] at h3
     omega
theorem IL {t:Str} (h:qw t.cps.toList=true):PySem.intText? t=some (DB t.cps.toList):=by
 have hlen:=Co h
 obtain ⟨h1,h2,h3,h4⟩:=xH h
 cases e:t.cps.toList with
 | nil=>rw [e] at h1;exact absurd rfl h1
 | cons c r=>
   by_cases z:c=45
   . subst z
     rw [e] at h1 h2
     exact PySem.intText_neg e h2 h1 (by omega)
   . have NI:(c::r).head?≠some 45:=by simp [z]
     rw [Cn NI,<- e]
     rw [e,nE NI,<- e] at h2
     exact PySem.intText_digits h2 (by rw [e];simp) (by omega)
end L2
set_option Elab.async false
set_option linter.all false
set_option maxRecDepth 100000
set_option maxHeartbeats 4000000
namespace L2
open PySem PySem.Spec PyProof.Rows
end L2
set_option Elab.async false
set_option linter.all false
set_option maxRecDepth 100000
set_option maxHeartbeats 4000000
namespace L2
open PySem PySem.Spec PyProof.Rows PySem.W PySem.AutoSeq1 PySem.MeetsSeq
section
variable {P:Program} {w:World} {A:Around} {E:Value->Shared->Prop} {s:Shared} {K:PySem.W.Frag} {x C:Addr} {ox:Obj} {od:Option Obj}
end
section
variable {X:Cx} {pins:List (Addr×Obj)} {σ:St} {H:Hp} {s:Shared} {A:Around} {E:Value->Shared->Prop} {x C dx:Addr} {fs:List (Str×V)}
end
section
variable {X:Cx}
end
end L2
set_option Elab.async false
set_option linter.all false
set_option maxRecDepth 100000
set_option maxHeartbeats 4000000
namespace L2
open PySem PySem.Spec PyProof.Rows
def S9 (x:Str):It:=⟨fun i _=>i < x.cps.size,fun i H v H'=>H'=H/\∃ c,x.cps[i]?=some c/\v=.str ⟨#[c]⟩,fun i _=>x.cps.size<=i⟩
section
variable {X:Cx}
def JM (tl:TE):TI:=fun σ H R=>tl σ H fun v H1=>∃ x:Str,v=.str x/\R (S9 x) H1
theorem FG:mQ X (compareOp .In) (fun x y H Q=>∃ a b,x=.str a/\y=.str b/\Q (.bl (Txt.contains b a)) H):=by
 intro pins s σ H x y v u Q I rx ry h
 obtain ⟨a,b,rfl,rfl,q⟩:=h
 obtain ⟨t,rfl⟩:=rx
 obtain ⟨t2,rfl⟩:=ry
 exact SB.contains ⟨.bl _,H,I,rfl,q⟩
theorem DF:mQ X (compareOp .NotIn) (fun x y H Q=>∃ a b,x=.str a/\y=.str b/\Q (.bl (!Txt.contains b a)) H):=by
 intro pins s σ H x y v u Q I rx ry h
 obtain ⟨a,b,rfl,rfl,q⟩:=h
 obtain ⟨t,rfl⟩:=rx
 obtain ⟨t2,rfl⟩:=ry
 exact SB.notContains ⟨.bl _,H,I,rfl,q⟩
def xJ:V->List V->Hp->VK->Prop:=fun x vs H Q=>∃ a,x=.str a/\vs=[]/\a.length<=5592405/\Q (.str (Txt.upper a)) H
theorem FH:ES X "str.upper" xJ:=by
 intro pins s σ H x vs v us Q I rx rv h
 obtain ⟨a,rfl,rfl,ha,q⟩:=h
 obtain ⟨t,rfl⟩:=rx
 cases rv
 exact call_gives PySem.F.slot_str_upper (typeIs_str _ _ _) PySem.F.entry_str_upper (PySem.F.args_str_upper_1 _) (gives_str_upper a t (fit_upper ha)) ⟨fit_le (fit_upper ha),⟨.str _,H,I.tok _,⟨_,rfl⟩,q⟩⟩
end
section
variable {K:PySem.W.Frag} {g:TG} {tt:TT} {te:TE} {D:Addr} {Q:Hp->Prop} {σ:St} {H:Hp} {x:Str} {tb:TS} {DD:Ends}
theorem uC {tl:TE} {src:List (Option Nat)} {Q:VK}:JJ K (JM tl) src g tt te σ H Q=tl σ H (fun v H1=>∃ x:Str,v=.str x/\∀ D,L2.new K H1 D->dj (S9 x) g tt te D (fun H'=>Q (.ref D) H') (pick σ src) (upd H1 D (.lst []))):=rfl
theorem rC {tl:TE}:vj (JM tl) g tb DD σ H=tl σ H (fun v H1=>∃ x:Str,v=.str x/\Loop (S9 x) g tb DD σ H1):=rfl
end
theorem bf.quiet {P:Program} {w:World} {K:PySem.W.Frag} {mg:Str->Option Value} {base:Heap} {k:Nat} {f:Addr} {fd:FuncData} {ps:List Str} {sp C7:Sp} (F:bf P w K mg base (A1 P w) k f fd ps sp)
   (h:∀ vs H Q E,C7 vs H Q E->sp vs H Q fun _ _ _=>False):bf P w K mg base eZ k f fd ps C7:=
 ⟨fun vs H Q E q=>F.len vs H Q _ (h _ _ _ _ q),fun A outer s H args us vs Q E hr he hb hv hs=>codeAny_mono (F.run A outer s H args us vs Q _ hr he hb hv (h _ _ _ _ hs)) fun r s' z=>by
   cases r with
   | ok fl=>cases fl <;> exact z
   | error e=>
     obtain ⟨_,_,_,_,_,_,_,_,_,_,_,_,_,_,q⟩:=z
     exact q⟩
theorem mw.quiet {P:Program} {w:World} {K:PySem.W.Frag} {mg:Str->Option Value} {base:Heap} {x:Str} {k:Nat} {ps:List Str} {sp C7:Sp} (C:mw P w K mg base x k ps sp)
   (h:∀ vs H Q E,C7 vs H Q E->sp vs H Q fun _ _ _=>False):Callee P w K mg base x k ps C7:=by
 obtain ⟨f,fd,F,b,kp,m⟩:=C.ex
 exact ⟨f,fd,F.quiet h,b,kp,m⟩
end L2
set_option Elab.async false
set_option linter.all false
set_option maxRecDepth 100000
set_option maxHeartbeats 4000000
namespace L2
open PySem PySem.Spec PyProof.Rows
structure FnAt (P:Program) (w:World) (K:PySem.W.Frag) (mg:Str->Option Value) (base:Heap) (k:Nat) (ps:List Str) (sp:Sp) (f:Addr):Prop where
 ex:∃ fd:FuncData,bf P w K mg base eZ k f fd ps sp/\Binds K fd ps []/\PySem.W.keepIn K (.ref f)=true
def xK (f:Addr) (sp:Sp) (te:TE) (t:TA):TE:=fun σ H Q=>te σ H fun v H1=>v=.ref f/\t σ H1 fun vs H2=>sp vs H2 Q E0
section
variable {X:Cx}
theorem Lm {y:Str} {k:Nat} {ps:List Str} {sp:Sp} {f:Addr} {e:Expr} {es:List Expr} {te:TE} {t:TA} {p pos:Pos} (C:FnAt X.prog X.w X.K X.mg X.base k ps sp f) (hr:jB k X.A) (hn:JE X (.Name y p) te) (ha:JA X (e::es) t)
   (he:starEach (e::es) X.env=(false,eval e X.env)::starEach es X.env:=by rfl) (vn:(backTo pos (starEach es X.env)).any (·.1)=false:=by rfl):
   JE X (.Call (.Name y p) (e::es) [] pos) (xK f sp te t):=⟨by
 intro pins s σ H Q I h
 obtain ⟨fd,F,hb,hk⟩:=C.ex
 refine wpAny_Call_Name_kw (dX (hn.h pins s σ H _ I h) fun u s1 ⟨v,H1,I1,r,e1,q⟩=>?_)
 subst e1
 cases r
 refine PySem.W.callWith_K (h₀:=X.base) I1.ok.mod.Ju hk (dX (ha.h pos pins s1 σ H1 _ I1 q) fun us s2 ⟨vs,H2,I2,r,q⟩=>⟨I2.sX,?_⟩) he vn
 exact EN F hr hb .nil JH I2 r (by simpa using q)⟩
def xM:V->List V->Hp->VK->Prop:=fun x vs H Q=>∃ a b,x=.str a/\vs=[.str b]/\Q (.bl (Txt.startswith a b)) H
end
def FI (K:PySem.W.Frag) (x:Str):It:=⟨fun i _=>i < x.cps.size,fun i H v H'=>∃ T c,L2.new K H T/\x.cps[i]?=some c/\v=.ref T/\H'=upd H T (.tup [.int i,.str ⟨#[c]⟩]),fun i _=>i=x.cps.size⟩
theorem A5 {P:Program} {w:World} {K:PySem.W.Frag} {es:List Expr} {k:Nat} {tp:Pos} (x:Str) (t:Tok) (e it:Addr) (ne:e≠it):Turn P w K (.Tuple es k tp) (FI K x) [e,it] e (fun i h=>(∃ old,IsEnum h e it ((i:Nat):Int) old)/\h.IsStrIter it (strIterType x) x t i) where
 mem:=by simp
 obj:=fun i h st b hb=>by
   simp only [List.mem_cons,List.not_mem_nil,or_false] at hb
   rcases hb with rfl | rfl
   . obtain ⟨⟨old,g⟩,_⟩:=st
     exact ⟨_,g,fun v z=>by cases z⟩
   . obtain ⟨_,o,g,c,d⟩:=st
     exact ⟨o,g,fun v z=>by rw [d] at z;cases z⟩
 keep:=fun i h h' st kk=>⟨let ⟨old,g⟩:=st.1;⟨old,kk e (by simp) _ g⟩,let ⟨o,g,r⟩:=st.2;⟨o,kk it (by simp) o g,r⟩⟩
 item:=by
   intro X hP hw hK hc i pins s σ H E I hf st hg
   subst hP hw hK
   obtain ⟨⟨old,he⟩,hit⟩:=st
   have D:Draws X.prog X.w X.A.in1 it [it] x.cps.size (fun i v=>∃ c u,x.cps[i]?=some c/\v=.str ⟨#[c]⟩ u) (fun i h=>h.IsStrIter it (strIterType x) x t i):=by
     unfold strIterType
     split
     . exact Draws.strAscii (show X.A.in1.handled=none from I.ok.hd hc) it x t
     . exact Draws.strWide (show X.A.in1.handled=none from I.ok.hd hc) it x t
   refine wpAny_pyNext_enum_itemD D he hit hg ne (by simpa using ne) fun u h1 tk hu he1 hit1 gT sz kp=>?_
   obtain ⟨c,tu,vg,rfl⟩:=hu
   refine ⟨_,rfl,wpAny_letOwnedTupleGo_enum he1 fun h2 he2 sb=>?_⟩
   have ltE:e < s.heap.objs.size:=Heap.lt_size he
   have Ny:h2.get? s.heap.objs.size=some { cls:=.type "tuple",data:=.seq #[.int i tk,.str ⟨#[c]⟩ tu] }:=(sb.2 _ (Nat.ne_of_gt ltE)).trans gT
   have I1:Inv X pins σ (upd H s.heap.objs.size (.tup [.int i,.str ⟨#[c]⟩])) { s with heap:=h2,toks:=tk + 1 }:=by
     refine I.xj (ch:=[e,it]) (fun b o hb g=>?_) hf (Nat.le_refl _) ⟨(show 2<=sizeLine by decide),[.int i tk,.str ⟨#[c]⟩ tu],.cons ⟨_,rfl⟩ (.cons ⟨_,rfl⟩ .nil),_,Ny,rfl,_,rfl⟩
     simp only [List.mem_cons,List.not_mem_nil,or_false,not_or] at hb
     exact (sb.2 b hb.1).trans (kp b o hb.1 hb.2 g)
   refine ⟨.ref s.heap.objs.size,_,I1,rfl,⟨_,c,⟨I.dz.fresh (Nat.le_refl _),I1.nA ah⟩,vg,rfl,rfl⟩,⟨⟨_,by simpa using he2⟩,let ⟨o,g,r⟩:=hit1;⟨o,(sb.2 it (Ne.symm ne)).trans g,r⟩⟩,fun b hb=>?_⟩
   have ltb:b < s.heap.objs.size:=by
     simp only [List.mem_cons,List.not_mem_nil,or_false] at hb
     rcases hb with rfl | rfl
     . exact ltE
     . obtain ⟨o,g,_⟩:=hit
       exact Heap.lt_size g
   rw [aV (Nat.ne_of_lt ltb)]
   exact (hf b hb).1
 done:=by
   intro X hP hw hK hc i pins s σ H E I hf st hg
   subst hP hw hK
   obtain ⟨⟨old,he⟩,hit⟩:=st
   obtain ⟨f0,f1,f2,f3,f4,f5⟩:=hf it (by simp)
   have D:Draws X.prog X.w X.A.in1 it [it] x.cps.size (fun i v=>∃ c u,x.cps[i]?=some c/\v=.str ⟨#[c]⟩ u) (fun i h=>h.IsStrIter it (strIterType x) x t i):=by
     unfold strIterType
     split
     . exact Draws.strAscii (show X.A.in1.handled=none from I.ok.hd hc) it x t
     . exact Draws.strWide (show X.A.in1.handled=none from I.ok.hd hc) it x t
   obtain rfl:i=x.cps.size:=hg
   exact wpAny_pyNext_enum_endD D he hit fun h' eb=>⟨rfl,I.turned (t':=s.toks) (fun b o hb g=>eb b o hb g) f0 f1 f3 f4 f5⟩
 self:=fun _ _ _ _ _ st h=>let ⟨_,g⟩:=st.1;wpAny_pyIter_enum g h
section
variable {X:Cx}
def FJ (K:PySem.W.Frag) (tl:TA):TI:=fun σ H R=>tl σ H fun vs H1=>∃ x:Str,vs=[.str x]/\R (FI K x) H1
theorem Ln {l:Expr} {t:TA} {es:List Expr} {k:Nat} {p pos tp:Pos} (hg:Gl X "enumerate") (hm:X.mg "enumerate"=none) (ha:JA X [l] t) (hs:starEach [l] X.env=(false,eval l X.env)::starEach [] X.env:=by rfl):
   JI X (.Tuple es k tp) (.Call (.Name "enumerate" p) [l] [] pos) (FJ X.K t):=⟨by
 intro pins s σ H R I h
 refine Call_ (pG I hg hm wU (PyProof.Rows.callWith_type1 (dX (ha.h pos pins s σ H _ I h) fun us s1 ⟨vs,H1,I1,r1,q1⟩=>?_) hs rfl))
 obtain ⟨x,rfl,q⟩:=q1
 obtain ⟨u,rfl,ru⟩:=vals1 r1
 obtain ⟨tk,rfl⟩:=ru
 refine call_enumerate_str fun h2 he hit sz kp=>?_
 have I2:Inv X pins σ H1 { s1 with heap:=h2 }:=I1.kept (t':=s1.toks) kp
 refine wpAny_pyIter_enum he ⟨_,[s1.heap.objs.size + 1,s1.heap.objs.size],_,FI X.K x,H1,rfl,I2,A5 x tk _ _ (Nat.succ_ne_self _),⟨⟨_,he⟩,hit⟩,fun b hb=>?_,q⟩
 simp only [List.mem_cons,List.not_mem_nil,or_false] at hb
 have le:s1.heap.objs.size<=b:=by
   rcases hb with rfl | rfl
   . exact Nat.le_succ _
   . exact Nat.le_refl _
 exact I1.CT le (I1.dz.fresh le)⟩
end
section
variable {K:PySem.W.Frag} {g:TG} {tb:TS} {DD:Ends} {σ:St} {H:Hp} {x:Str}
theorem pP {ta:TA}:vj (FJ K ta) g tb DD σ H=ta σ H (fun vs H1=>∃ x:Str,vs=[.str x]/\Loop (FI K x) g tb DD σ H1):=rfl
end
section
variable {prog:Program} {w:World} {A:Around} {E:Value->Shared->Prop} {s:Shared}
theorem zM {l:Addr} {items:Array Value} {Q:List Value->Shared->Prop} (hh:A.handled=none) (hl:s.heap.IsList l items)
   (hQ:∀ h',Heap.ExtBut s.heap.objs.size s.heap h'->Q items.toList { s with heap:=h' }):wpAny (model prog w) A (unpackItems (.ref l) items.size none) Q E s:=by
 have qR:l≠s.heap.objs.size:=by obtain ⟨o,ho,_⟩:=hl;exact Nat.ne_of_lt (Heap.lt_size ho)
 unfold unpackItems
 refine wpAny_bind ?_
 unfold notIterableAtAll
 refine wpAny_bind (wpAny_specialOf hl.typeIs slot_list_iter.lookup ?_)
 refine wpAny_pure ?_
 simp only [Bool.false_eq_true,if_false]
 refine wpAny_bind (wpAny_holding (wpAny_pyIter_list hl ?_))
 refine wpAny_bind (wpAny_holding (PySem.W.kun_draw qR items.size 0 _ _ ⟨_,Heap.get?_push_size _ rfl,rfl,rfl⟩ (hl.push _) (by omega) fun h₁ hit₁ hs₁=>?_))
 have K4:List.take items.size (List.drop 0 items.toList)=items.toList:=by
   rw [List.drop_zero];exact List.take_of_length_le (by simp)
 rw [K4,if_neg (by simp)]
 have hl₁:h₁.IsList l items:=(hl.push _).extBut hs₁.extBut qR
 refine wpAny_bind (wpAny_holding (wpAny_pyNext_list_end hh hit₁ hl₁ (by simp) fun h₂ he₂=>?_))
 simp only [Option.isSome_none,Bool.false_eq_true,if_false]
 exact wpAny_pure (hQ h₂ fun b o hb e=>he₂ b o hb (hs₁.extBut b o hb (Heap.get?_push_of_some _ e)))
end
section
variable {X:Cx} {es:List Expr} {pos:Pos}
def Cp (K:PySem.W.Frag) (n:Nat) (t:zo):TG:=fun v σ H Q=>∃ a xs,v=.ref a/\aZ K H a xs/\xs.length=n/\t xs σ H Q
theorem Cq {k:Nat} {t:zo} {n:Nat} (hc:X.calm=true) (h:Iw X es t)
   (hn:(assignEach es X.env).length=n:=by rfl) (tZ:(assignEach es X.env).findIdx? (·.1)=none:=by rfl):JG X (.Tuple es k pos) (Cp X.K n t):=⟨by
 intro pins s σ H v u Q I r hw
 obtain ⟨a,xs,e1,hq,hl,hw⟩:=hw
 subst e1
 cases r
 obtain ⟨its,rv,ht,hz⟩:=I.list hq
 rw [assign_Tuple]
 refine wpAny_bind (wpAny_standAt ?_)
 unfold unpack
 rw [tZ,show (assignEach es X.env).length=its.toArray.size from by simp [hn,<- hl,rv.length]]
 refine wpAny_bind (wpAny_holding (zM (I.ok.hd hc) ht.isList fun h' hx=>?_))
 have I1:Inv X pins σ H { s with heap:=h' }:=I.kept (t':=s.toks) fun b o e=>hx b o (Nat.ne_of_lt (Heap.lt_size e)) e
 exact h.h pins _ σ H xs _ Q I1 (by simpa using rv) hw⟩
end
section
variable {K:PySem.W.Frag} {ta:TA} {g:TG} {tb:TS} {DD:Ends} {σ:St} {H:Hp} {a b D:Addr} {xs ys:List V} {tt:TT} {te:TE} {Q:Hp->Prop} {n:Nat}
theorem rD:vj (Fx K ta) g tb DD σ H=ta σ H (fun vs H1=>∃ a b,vs=[.ref a,.ref b]/\(((∃ xs,aZ K H1 a xs)/\(∃ ys,aZ K H1 b ys)/\Loop (Mp K a b) g tb DD σ H1)∨((∃ xs,om K H1 a xs)/\(∃ ys,om K H1 b ys)/\Loop (Fw K a b) g tb DD σ H1))):=rfl
theorem IM (Pv:Nat->List V->St->Hp->Prop) (e1:n<=xs.length) (e2:n<=ys.length) (e3:xs.length<=n∨ys.length<=n) (h0:Pv 0 [] σ H) (hl:∀ i acc σ H,i<=n->Pv i acc σ H->aZ K H a xs/\aZ K H b ys)
   (hs:∀ i x y acc σ H T,xs[i]?=some x->ys[i]?=some y->Pv i acc σ H->L2.new K H T->g (.ref T) σ (upd H T (.tup [x,y])) fun σ2 H2=>tt σ2 H2 fun b H3=>if b=true then te σ2 H3 fun v H4=>H4 D=some (.lst acc)/\acc.length < sizeLine/\Pv (i + 1) (acc++[v]) σ2 (upd H4 D (.lst (acc++[v]))) else Pv (i + 1) acc σ2 H3)
   (hd:∀ acc σ H,Pv n acc σ H->Q H):dj (Mp K a b) g tt te D Q σ H:=by
 refine wZ (n:=n) Pv h0 (fun i acc σ H hi h=>?_) (fun acc σ H h=>?_) (fun i acc σ H x H' hi h hy=>?_) hd
 . obtain ⟨q1,q2⟩:=hl i acc σ H (Nat.le_of_lt hi) h
   exact ⟨xs,ys,xs[i],ys[i]'(by omega),q1,q2,List.getElem?_eq_getElem _,List.getElem?_eq_getElem _⟩
 . obtain ⟨q1,q2⟩:=hl _ acc σ H (Nat.le_refl _) h
   exact ⟨xs,ys,q1,q2,e3⟩
 . obtain ⟨q1,q2⟩:=hl i acc σ H (Nat.le_of_lt hi) h
   obtain ⟨T,v,u,nT,hv,hu,rfl,rfl⟩:=hy
   exact hs i v u acc σ H T (hv xs q1) (hu ys q2) h nT
end
section
variable {K:PySem.W.Frag} {g:TG} {tb:TS} {DD:Ends} {σ:St} {H:Hp} {x:Str}
theorem A6 (Pv:Nat->St->Hp->Prop) (h0:Pv 0 σ H)
   (hs:∀ i c σ H T,x.cps.toList[i]?=some c->Pv i σ H->L2.new K H T->g (.ref T) σ (upd H T (.tup [.int i,.str ⟨#[c]⟩])) fun σ2 H2=>tb { DD with nx:=Pv (i + 1),ct:=Pv (i + 1),bk:=DD.nx } σ2 H2) (hd:∀ σ H,Pv x.cps.toList.length σ H->DD.nx σ H):Loop (FI K x) g tb DD σ H:=by
 refine ⟨fun i m σ H=>m=x.cps.toList.length - i/\i<=x.cps.toList.length/\Pv i σ H,⟨x.cps.toList.length,by simp,Nat.zero_le _,h0⟩,?_⟩
 rintro i m σ H ⟨rfl,hi,p⟩
 by_cases qR:i < x.cps.toList.length
 . refine .inr ⟨by show i < x.cps.size;simpa using qR,Pv (i + 1),fun σ' H' p'=>⟨x.cps.toList.length - (i + 1),by omega,rfl,qR,p'⟩,fun v H' y=>?_⟩
   obtain ⟨T,c,nT,hc,rfl,rfl⟩:=y
   exact hs i c σ _ T (by rw [Array.getElem?_toList];exact hc) p nT
 . have e:i=x.cps.toList.length:=by omega
   subst e
   exact .inl ⟨by show x.cps.toList.length=x.cps.size;simp,hd σ H p⟩
end
end L2
set_option Elab.async false
set_option linter.all false
set_option maxRecDepth 100000
set_option maxHeartbeats 4000000
namespace L2
open PySem PySem.Spec PyProof PyProof.Rows
def uD (CX:vO) (X:Cx) (E:XK) (σ:St):Prop:=∀ (pins:List (Addr×Obj)) (H:Hp) (s:Shared) (e:Value) (s':Shared),Inv X pins σ H s->CX X.stack H s E e s'->X.xe e s'
def NJ (K:PySem.W.Frag) (C:Addr) (D:Ends) (σ:St) (H:Hp):List (Addr×Nat×TS)->Prop
 | []=>False
 | (CF,i,ts)::r=>(PySem.W.exmOne K (.ref C) (.ref CF)=some true/\∀ a,L2.new K H a->ts (D.gone i) (σ.set i (some (.ref a))) (upd H a (.ext (Mr a C))))∨(PySem.W.exmOne K (.ref C) (.ref CF)=some false/\NJ K C D σ H r)
section
variable {X:Cx}
def FL (K:PySem.W.Frag) (hs:List (Addr×Nat×TS)) (tb:St->XK->TS):TS:=fun D σ H=>
 tb σ (fun cls _ H'=>∃ C,cls=.ref C/\Fy K C/\NJ K C D σ H' hs) D σ H
def tAt (σ0:St) (te:TE):TE:=fun σ H Q=>σ=σ0/\te σ H Q
theorem rE {CX:vO} {k:Nat} {f:Addr} {fd:FuncData} {ps:List Str} {sp:Sp} {za:List V} {ds:List Value} {E:XK} {pins:List (Addr×Obj)} {σ:St} {H:Hp} {s:Shared} {Q:VK} {us:List Value} {vs:List V} (F:bf X.prog X.w X.K X.mg X.base CX k f fd ps sp)
   (hr:jB k X.A) (hb:Binds X.K fd ps ds) (hd:Vals za ds) (hx:uD CX X E σ) (I:Inv X pins σ H s) (r:Vals vs us) (h:sp (vs++za) H Q E):wpAny (model X.prog X.w) X.A (call (.ref f) us) (EP X pins σ Q) X.xe s:=by
 have r2:=r.append hd
 have hl:(us++ds).length=ps.length:=r2.length ▸ F.len _ _ _ _ h
 refine wpAny_call (codeAny_mono (F.run _ _ s H ⟨us,[]⟩ _ _ Q E hr I.M1 (hb s us I.sX hl) r2 h) fun r s' hq=>?_)
 match r,hq with
 | .error e,hq=>exact hx pins H s e s' I hq
 | .ok (.ret u),hq=>exact I.after hq
theorem Cr {E:XK} {sp:Sp} {k:Nat} {ps:List Str} {σ0:St} {e:Expr} {es:List Expr} {t:TA} {p pos:Pos} {y:Str} (C:mw X.prog X.w X.K X.mg X.base y k ps sp) (hx:uD (A1 X.prog X.w) X E σ0) (hr:jB k X.A) (hg:Gl X y) (ha:JA X (e::es) t)
   (vP:(y==("__debug__":Str))=false:=by decide) (he:starEach (e::es) X.env=(false,eval e X.env)::starEach es X.env:=by rfl) (vn:(backTo pos (starEach es X.env)).any (·.1)=false:=by rfl):
   JE X (.Call (.Name y p) (e::es) [] pos) (tAt σ0 (rS sp [] E t)):=⟨by
 obtain ⟨f,fd,F,b,kp,m⟩:=C.ex
 rintro pins s σ H Q I ⟨rfl,h⟩
 refine wpAny_Call_Name_kw (sZ I hg m ?_ vP)
 refine PySem.W.callWith_K (h₀:=X.base) I.ok.mod.Ju kp (dX (ha.h pos pins s σ H _ I h) fun us s1 ⟨vs,H1,I1,r,q⟩=>⟨I1.sX,?_⟩) he vn
 exact rE F hr b .nil hx I1 r q⟩
end
end L2
set_option Elab.async false
set_option linter.all false
set_option maxRecDepth 100000
set_option maxHeartbeats 4000000
namespace L2
open PySem PySem.Spec PyProof.Rows
section
variable {X:Cx}
end
section
variable {X:Cx}
end
section
variable {K:PySem.W.Frag} {g:TG} {tb:TS} {D:Ends} {σ:St} {H:Hp} {a:Addr} {xs:List V}
end
end L2
set_option Elab.async false
set_option linter.all false
set_option maxRecDepth 100000
set_option maxHeartbeats 4000000
namespace L2
open PySem PySem.Spec PyProof.Rows
section
variable {X:Cx}
end
section
variable {X:Cx} {k:Nat} {f C:Addr} {fd:FuncData} {ps ks:List Str} {is:List Nat} {sp:Sp} {za:List V} {ds:List Value} {E:XK}
end
end L2
set_option Elab.async false
set_option linter.all false
set_option maxRecDepth 100000
set_option maxHeartbeats 4000000
namespace PySem
section
variable {K:Type} [DecidableEq K]
def o8 (key:Nat->K) (val:Nat->Value) (i:Nat):List (K×Value):=(List.range i).foldl (fun d j=>stored d (key j) (val j)) []
theorem pQ (key:Nat->K) (val:Nat->Value) (i:Nat):o8 key val (i + 1)=stored (o8 key val i) (key i) (val i):=by
 unfold o8
 rw [List.range_succ,List.foldl_append]
 rfl
theorem wu (key:Nat->K) (val:Nat->Value):∀ i,(o8 key val i).length<=i
 | 0=>Nat.le_refl _
 | i + 1=>by
   rw [pQ]
   have:=stored_length_le (o8 key val i) (key i) (val i)
   have:=wu key val i
   omega
end
section
variable {prog:Program} {w:World} {A:Around} {R:Result->Shared->Prop} {I:Addr} {fp wr:List Addr} {G:Array GenState->Array GenState->Prop} {n:Nat} {P:Nat->Value->Prop} {St:Nat->Shared->Prop} {K:Type} [DecidableEq K] {knd:KeyKind prog w K}
theorem rF (W:WalksS prog w A.in1 I fp wr G n P St) (d:Addr) (JD:d∉fp) (key:Nat->K) (val:Nat->Value) (tp:Nat->Addr) (hP:∀ i v,i < n->P i v->v=.ref (tp i)) (ht:∀ i,i < n->tp i∉d::wr) (hn:n<=16000000):
   ∀ (k i:Nat) (s:Shared) (c:Int) (u:Tok),n - i=k->i<=n->St i s->s.heap.DictOf knd d (o8 key val i)->
     (∀ j,j < n->∃ kv,(∃ o,s.heap.get? (tp j)=some o/\o.cls=.type "tuple"/\∃ n,o.data=.seq #[kv,val j] n)/\knd.is (key j) kv=true)->
     (∀ s',Moved (d::wr) G s s'->s'.heap.DictOf knd d (o8 key val n)->R (.ok (.ret .none)) s')->
     codeAny (model prog w) A (.builtin "dict.update.loop" ⟨[.ref d,.ref I,.int c u,.none],[]⟩) R s:=by
 have hdw:d∉wr:=fun h=>JD (W.sub _ h)
 have Lo:∀ b∈wr,b∈d::wr:=fun b hb=>List.mem_cons_of_mem _ hb
 intro k
 induction k with
 | zero=>
   intro i s c u hk hi tZ hD _ hR
   have hin:i=n:=by omega
   subst hin
   refine codeAny_builtin F.iO ?_
   rw [Around.under_plainId F.cV _]
   show wpAny _ A.in1 (pyNext (.ref I) >>=_) _ _ s
   refine wpAny_bind (W.done s _ _ tZ fun s' hm=>?_)
   show wpAny _ A.in1 (Builtin.Dict.addKeywords d [] >>=_) _ _ s'
   refine wpAny_bind (wpAny_pure ?_)
   show wpAny _ A.in1 (ret Value.none) _ _ s'
   exact wpAny_pure (hR s' (hm.mono Lo) (by
     obtain ⟨o,es,ep,ho,rest⟩:=hD
     exact ⟨o,es,ep,hm.heap d _ hdw ho,rest⟩))
 | succ k ih=>
   intro i s c u hk hi tZ hD hT hR
   have qR:i < n:=by omega
   refine codeAny_builtin F.iO ?_
   rw [Around.under_plainId F.cV _]
   show wpAny _ A.in1 (pyNext (.ref I) >>=_) _ _ s
   refine wpAny_bind (W.item i s _ _ qR tZ fun v s' hPv hst' hm=>?_)
   obtain rfl:=hP i v qR hPv
   have IP:s'.heap.DictOf knd d (o8 key val i):=by
     obtain ⟨o,es,ep,ho,rest⟩:=hD
     exact ⟨o,es,ep,hm.heap d _ hdw ho,rest⟩
   have NK:∀ j,j < n->∃ kv,(∃ o,s'.heap.get? (tp j)=some o/\o.cls=.type "tuple"/\∃ n,o.data=.seq #[kv,val j] n)/\knd.is (key j) kv=true:=fun j hj=>by
     obtain ⟨kv,⟨o,ho,r⟩,q⟩:=hT j hj
     exact ⟨kv,⟨o,hm.heap _ _ (fun z=>ht j hj (Lo _ z)) ho,r⟩,q⟩
   obtain ⟨kv,ho,hkv⟩:=NK i qR
   show wpAny _ A.in1 (holding [Value.ref (tp i)] _ >>=_) _ _ s'
   refine wpAny_bind (wpAny_holding ?_)
   refine wpAny_bind (wpAny_tryCatch (sC ho ?_))
   show wpAny _ A.in1 (holding [kv,val i] (dictSet d kv (val i))) _ _ s'
   refine wpAny_holding (wpAny_dictSet_pairs hkv IP (fun h' hd' hsb=>?_) (by have:=wu key val i;simp only [sizeLine_eq];omega))
   rw [<- pQ] at hd'
   refine wpAny_pure ⟨plainId_quiet F.cV _,ih (i + 1) _ _ _ (by omega) qR (W.frame _ s' _ _ hst' (Nat.le_succ _) fun b hb o e=>?_) hd' (fun j hj=>?_) fun s'' hm'' hD''=>?_⟩
   . rw [hsb.2 b (fun h:b=d=>JD (by rw [<- h];exact hb))];exact e
   . obtain ⟨kv,⟨o,ho,r⟩,q⟩:=NK j hj
     exact ⟨kv,⟨o,(hsb.2 _ (fun z=>ht j hj (by rw [z];exact List.mem_cons_self))).trans ho,r⟩,q⟩
   . refine hR s'' (Moved.trans W.gtrans ((hm.mono Lo).then_heap (Nat.le_succ _) fun b o hb e=>?_) hm'') hD''
     rw [hsb.2 b (fun h:b=d=>hb (by rw [h];exact List.mem_cons_self))];exact e
end
section
variable {prog:Program} {w:World} {K:Type} [DecidableEq K] {knd:KeyKind prog w K} {A:Around} {E:Value->Shared->Prop} {s:Shared}
theorem vt {l:Addr} {o:Obj} {items:Array Value} {m:Nat} {Q:Value->Shared->Prop} (hA:A.handled=none) (hl:s.heap.get? l=some o) (hc:o.cls=.type "list") (Ql:o.dict=none) (hd:o.data=.seq items m)
   (key:Nat->K) (val:Nat->Value) (tp:Nat->Addr) (hit:∀ i,i < items.size->items[i]?=some (.ref (tp i))) (hn:items.size<=16000000)
   (hT:∀ j,j < items.size->∃ kv,(∃ o,s.heap.get? (tp j)=some o/\o.cls=.type "tuple"/\∃ n,o.data=.seq #[kv,val j] n)/\knd.is (key j) kv=true)
   (h:∀ h' tk,h'.DictOf knd s.heap.objs.size (o8 key val items.size)->(∀ b o,s.heap.get? b=some o->h'.get? b=some o)->Q (.ref s.heap.objs.size) { s with heap:=h',toks:=tk }):
   wpAny (model prog w) A (call (.type "dict") [.ref l]) Q E s:=by
 refine callType_codes (Q₁:=fun obj s₁=>obj=.ref s.heap.objs.size/\s₁={ s with heap:=s.heap.push { cls:=.type "dict",data:=.dict #[] } }) F.kt_called_dict (F.kt_typeCall_dict_1 _) F.entry_dict_init (kt_code_dict_new _ ⟨rfl,rfl⟩) ?_
 rintro obj s₁ ⟨rfl,rfl⟩
 have Lp:(s.heap.push { cls:=.type "dict",data:=.dict #[] }).DictOf knd s.heap.objs.size []:=Heap.DictOf.new s.heap
 have IQ:(s.heap.push { cls:=.type "dict",data:=.dict #[] }).get? l=some o:=Heap.get?_push_of_some _ hl
 refine ⟨Lp.typeIs,F.args_dict_init_2 _ _,?_⟩
 unfold Builtin.«dict.__init__»
 refine wpAny_bind ?_
 unfold Builtin.Dict.selfAndRest
 refine wpAny_bind (wpAny_notOrdered_dict Lp.typeIs ?_)
 show wpAny _ _ (pure (s.heap.objs.size,[Value.ref l])) _ _ _
 refine wpAny_pure ?_
 show wpAny _ _ (Builtin.Dict.updateFrom "dict.__init__" s.heap.objs.size (.ref l) [] .none) _ _ _
 unfold Builtin.Dict.updateFrom
 refine wpAny_bind (wpAny_typeOf (T:="list") ⟨o,IQ,hc⟩ ?_)
 rw [if_pos (by decide)]
 refine wpAny_bind ?_
 refine pM (A:=A.in1.in1) IQ hc hd Ql ux (by decide +kernel) (by simpa using hA) fun h1 tk1 e hx=>?_
 rw [if_pos (by rfl)]
 refine wpAny_bind (wpAny_rule ?_)
 have kp1:∀ b o,s.heap.get? b=some o->h1.get? b=some o:=fun b o e=>hx.keeps b o (Heap.get?_push_of_some _ e)
 have hL1:h1.IsList l items:=⟨o,hx.keeps _ _ IQ,hc,m,hd⟩
 refine wpAny_bind (wpAny_pyIter_list hL1 ?_)
 have qR:l < s.heap.objs.size:=Heap.lt_size hl
 have Ef:h1.DictOf knd s.heap.objs.size []:=by
   obtain ⟨o,es,ep,ho,rest⟩:=Lp
   exact ⟨o,es,ep,hx.keeps _ _ ho,rest⟩
 have Qm:s.heap.objs.size < h1.objs.size:=by
   obtain ⟨o,es,ep,ho,rest⟩:=Ef
   exact Heap.lt_size ho
 have Qn:l≠h1.objs.size:=Nat.ne_of_lt (Nat.lt_trans qR Qm)
 refine wpAny_pure ⟨plainId_quiet F.cV _,?_⟩
 refine rF (knd:=knd) (A:=A.in1) ((Walks.list (A:=A.in1.in1) (by simpa using hA) h1.objs.size l Qn items).toS) s.heap.objs.size ?_ key val tp (fun i v hi hv=>by rw [hit i hi] at hv;cases hv;rfl) (fun i hi=>?_) hn items.size 0 _ _ _ (by omega) (Nat.zero_le _) ⟨⟨_,Heap.get?_push_size _ rfl,rfl,rfl⟩,hL1.push _⟩ ?_ (fun j hj=>?_) fun s' hm IP=>?_
 . simp only [List.mem_cons,List.not_mem_nil,or_false,not_or]
   exact ⟨Nat.ne_of_lt Qm,Nat.ne_of_gt qR⟩
 . obtain ⟨kv,⟨o,ho,_⟩,_⟩:=hT i hi
   have lt:=Heap.lt_size ho
   simp only [List.mem_cons,List.not_mem_nil,or_false,not_or]
   exact ⟨Nat.ne_of_lt lt,Nat.ne_of_lt (Nat.lt_trans lt Qm)⟩
 . exact Ef.push _
 . obtain ⟨kv,⟨o,ho,r⟩,q⟩:=hT j hj
   exact ⟨kv,⟨o,Heap.get?_push_of_some _ (kp1 _ _ ho),r⟩,q⟩
 . obtain ⟨h',g',d',tk',Ib⟩:=s'
   have eg:g'=s.gens:=hm.gens
   have ed:d'=s.drawn:=hm.drawn
   have eo:Ib=s.os:=hm.os
   subst eg ed eo
   refine ⟨rfl,h h' tk' IP fun b o e=>hm.heap b o ?_ (Heap.get?_push_of_some _ (kp1 b o e))⟩
   have lt:=Heap.lt_size e
   simp only [List.mem_cons,List.not_mem_nil,or_false,not_or]
   exact ⟨Nat.ne_of_lt lt,Nat.ne_of_lt (Nat.lt_trans lt Qm)⟩
end
end PySem
namespace L2
open PySem PySem.Spec PyProof.Rows
def kX (L:List (Int×V)):List (Key×V):=L.foldl (fun d q=>putK d (.inl q.1) q.2) []
theorem rG (L:List (Int×V)) (q:Int×V):kX (L++[q])=putK (kX L) (.inl q.1) q.2:=by
 unfold kX
 rw [List.foldl_append]
 rfl
theorem FN (aO:List (Key×V)) (k:Key) (v:V):(putK aO k v).length<=aO.length + 1:=by
 unfold putK
 split
 . simp
 . simp
theorem zN (L:List (Int×V)):(kX L).length<=L.length:=by
 have key:∀ (L:List (Int×V)) (d:List (Key×V)),(L.foldl (fun d q=>putK d (.inl q.1) q.2) d).length<=d.length + L.length:=by
   intro L
   induction L with
   | nil=>intro d;simp
   | cons q L ih=>
     intro d
     rw [List.foldl_cons,List.length_cons]
     have:=ih (putK d (.inl q.1) q.2)
     have:=FN d (.inl q.1) q.2
     omega
 have:=key L []
 simpa [kX] using this
theorem FO {L:List (Int×V)} {key:Nat->Key} {val:Nat->Value} (h:∀ i (hi:i < L.length),key i=.inl L[i].1/\RelV L[i].2 (val i)):∀ i,i<=L.length->KV (kX (L.take i)) (o8 key val i)
 | 0,_=>by
   rw [List.take_zero]
   exact .nil
 | i + 1,hi=>by
   have ih:=FO h i (by omega)
   obtain ⟨h1,h2⟩:=h i (by omega)
   rw [List.take_add_one,List.getElem?_eq_getElem (by omega),Option.toList_some,rG,pQ,h1]
   exact ih.put _ h2
section
variable {X:Cx}
theorem A7 (hc:X.calm=true):gx X (.type "dict") (fun xs H Q=>∃ (p:Addr) (L:List (V×Int×V)),xs=[.ref p]/\aZ X.K H p (L.map (·.1))/\(∀ q∈L,∃ t,q.1=.ref t/\tupQ X.K H t=some [.int q.2.1,q.2.2])/\L.length<=16000000/\
   ∀ D,L2.new X.K H D->Q (.ref D) (upd H D (.dK (kX (L.map (·.2)))))):=by
 intro pins s σ H xs us Q I r h
 obtain ⟨p,L,rfl,hx,hT,hl,q⟩:=h
 obtain ⟨u,rfl,ru⟩:=vals1 r
 cases ru
 obtain ⟨its,rv,⟨o,n,e,hcl,Ql,hd⟩,_⟩:=I.list hx
 have li:its.length=L.length:=by rw [<- rv.length,List.length_map]
 obtain ⟨f,hf⟩:∃ f:Nat->Addr×Value×Value,∀ i,i < L.length->its[i]?=some (.ref (f i).1)/\(∃ o,s.heap.get? (f i).1=some o/\o.cls=.type "tuple"/\∃ n,o.data=.seq #[(f i).2.1,(f i).2.2] n)/\∃ q,L[i]?=some q/\RelV (.int q.2.1) (f i).2.1/\RelV q.2.2 (f i).2.2:=by
   have P:∀ i,∃ x:Addr×Value×Value,i < L.length->its[i]?=some (.ref x.1)/\(∃ o,s.heap.get? x.1=some o/\o.cls=.type "tuple"/\∃ n,o.data=.seq #[x.2.1,x.2.2] n)/\∃ q,L[i]?=some q/\RelV (.int q.2.1) x.2.1/\RelV q.2.2 x.2.2:=fun i=>by
     by_cases hi:i < L.length
     . have ei:L[i]?=some L[i]:=List.getElem?_eq_getElem hi
       obtain ⟨t,e1,e2⟩:=hT L[i] (List.getElem_mem hi)
       have e3:(L.map (·.1))[i]?=some (.ref t):=by rw [List.getElem?_map,ei,<- e1];rfl
       obtain ⟨u,hu,ru⟩:=rv.get e3
       cases ru
       obtain ⟨its2,rv2,⟨o2,g2,c2,n2,d2⟩,_⟩:=I.tuple (gD e2)
       obtain ⟨kv,vv,rfl,rk,rvv⟩:=vals2 rv2
       exact ⟨(t,kv,vv),fun _=>⟨hu,⟨o2,g2,c2,n2,d2⟩,L[i],ei,rk,rvv⟩⟩
     . exact ⟨(0,.none,.none),fun z=>absurd z hi⟩
   exact ⟨fun i=>(P i).choose,fun i=>(P i).choose_spec⟩
 have ks:∀ i,i < L.length->(dZ X.prog X.w).is ((.inl ((L[i]?).elim 0 (·.2.1)):Key)) (f i).2.1=true:=fun i hi=>by
   obtain ⟨_,_,q,eq,rk,_⟩:=hf i hi
   rw [eq]
   exact B9 (k:=.inl q.2.1) rk
 refine vt (knd:=dZ X.prog X.w) (I.ok.hd hc) e hcl Ql hd (fun i=>.inl ((L[i]?).elim 0 (·.2.1))) (fun i=>(f i).2.2) (fun i=>(f i).1) (fun i hi=>?_) (by simp;omega) (fun j hj=>?_) fun h' tk hD hk=>?_
 . have hi:i < L.length:=by simp at hi;omega
   simpa using (hf i hi).1
 . have hj:j < L.length:=by simp at hj;omega
   exact ⟨_,(hf j hj).2.1,ks j hj⟩
 . have sz:its.toArray.size=L.length:=by simp [li]
   rw [sz] at hD
   have rel:=FO (L:=L.map (·.2)) (key:=fun j=>((.inl ((L[j]?).elim 0 (·.2.1)):Key))) (val:=fun j=>(f j).2.2) (fun i hi=>by
     have hi:i < L.length:=by simpa using hi
     obtain ⟨_,_,q,eq,rk,rvv⟩:=hf i hi
     have:L[i]=q:=(List.getElem?_eq_some_iff.mp eq).2
     rw [List.getElem_map,this]
     show (Sum.inl ((L[i]?).elim 0 (·.2.1)):Key)=.inl q.2.1/\RelV q.2.2 (f i).2.2
     rw [eq]
     exact ⟨rfl,rvv⟩) L.length (by simp)
   rw [List.take_of_length_le (by simp)] at rel
   have ln:=zN (L.map (·.2))
   rw [List.length_map] at ln
   have I2:Inv X pins σ (upd H s.heap.objs.size (.dK (kX (L.map (·.2))))) { s with heap:=h',toks:=tk }:=
     I.laid (t':=tk) hk (Nat.le_refl _) (EZ (by rw [sizeLine_eq];omega) (beq_eq_false_iff_ne.mpr (Ne.symm (Nat.ne_of_lt I.big))) rel hD)
   exact ⟨.ref s.heap.objs.size,_,I2,rfl,q _ ⟨I.dz.fresh (Nat.le_refl _),I2.nA ah⟩⟩
def iP:PyData->Bool
 | .none=>true
 | _=>false
def oA:Value->Bool
 | .none=>true
 | _=>false
def IS (K:PySem.W.Frag):R2:=fun x y H Q=>∃ (p:Addr) (xs:List V) (ds:List PyData),x=.cQ/\y=.ref p/\(aZ K H p xs∨om K H p xs)/\cy K H ds xs/\Q (.bl (ds.any iP)) H
theorem Is.uE {X:Cx} {pins:List (Addr×Obj)} {σ:St} {H:Hp} {s:Shared} {A:Around} (hu:A.units < cLine) (I:Inv X pins σ H s) {d:PyData} {v:V} {u:Value} (h:Is X.K H d v) (r:RelV v u):SeqAt.EqAt A s u .none (oA u)/\oA u=iP d:=by
 obtain ⟨as,q⟩:=h.reads I r
 cases q with
 | none=>exact ⟨SeqAt.EqAt.same _,rfl⟩
 | bool b=>exact ⟨SeqAt.EqAt.bool_none b,rfl⟩
 | int i t=>exact ⟨SeqAt.EqAt.int_none i t,rfl⟩
 | str x t=>exact ⟨SeqAt.EqAt.str_none x t,rfl⟩
 | list k1 k2 k3 k4=>exact ⟨SeqAt.EqAt.list_none ⟨_,k1,k2,_,k3⟩ hu,rfl⟩
 | tuple k1 k2 k3 k4=>exact ⟨SeqAt.EqAt.tuple_none ⟨_,k1,k2,_,k3⟩ hu,rfl⟩
 | dict=>exact absurd h (by unfold Is;exact id)
theorem cy.uE {X:Cx} {pins:List (Addr×Obj)} {σ:St} {H:Hp} {s:Shared} {A:Around} (hu:A.units < cLine) (I:Inv X pins σ H s):∀ {ds:List PyData} {vs:List V} {us:List Value},cy X.K H ds vs->Vals vs us->(∀ u∈us,SeqAt.EqAt A s u .none (oA u))/\us.any oA=ds.any iP
 | [],vs,us,h,r=>by
   unfold cy at h
   subst h
   cases r
   exact ⟨fun _ h=>(nomatch h),rfl⟩
 | d::ds,vs,us,h,r=>by
   unfold cy at h
   obtain ⟨v,rs,rfl,h1,h2⟩:=h
   cases r with
   | cons r1 r2=>
     obtain ⟨a1,a2⟩:=Is.uE hu I h1 r1
     obtain ⟨b1,b2⟩:=cy.uE hu I h2 r2
     refine ⟨fun u hu'=>?_,by rw [List.any_cons,List.any_cons,a2,b2]⟩
     rcases List.mem_cons.mp hu' with rfl | hu'
     . exact a1
     . exact b1 u hu'
theorem A8 (hu:X.A.units + 64 < cLine):mQ X (compareOp .In) (IS X.K):=by
 intro pins s σ H x y v u Q I rx ry h
 obtain ⟨p,xs,ds,rfl,rfl,hp,hd,q⟩:=h
 cases ry
 cases (show v=Value.none from rx)
 have hu1:X.A.in1.units < cLine:=by show X.A.units + 1 < cLine;omega
 rcases hp with hp | hp
 . obtain ⟨its,rv,⟨o,n,e,hcl,Ql,hdd⟩,_⟩:=I.list hp
   obtain ⟨a,b⟩:=cy.uE hu1 I hd rv
   refine SeqAt.in_listAt oA ⟨o,e,hcl,n,hdd⟩ (fun w hw=>a w (List.mem_toArray.mp hw)) ⟨.bl _,H,I,rfl,?_⟩
   rw [List.any_toArray,b]
   exact q
 . obtain ⟨its,rv,⟨o,e,hcl,n,hdd⟩,_⟩:=I.tuple hp
   obtain ⟨a,b⟩:=cy.uE hu1 I hd rv
   refine SeqAt.in_tupleAt oA ⟨o,e,hcl,n,hdd⟩ (fun w hw=>a w (List.mem_toArray.mp hw)) ⟨.bl _,H,I,rfl,?_⟩
   rw [List.any_toArray,b]
   exact q
end
end L2
set_option Elab.async false
set_option linter.all false
set_option maxRecDepth 100000
set_option maxHeartbeats 4000000
namespace L2
open PySem PySem.Spec PyProof PyProof.Rows
def wz (K:PySem.W.Frag) (C:Addr) (D:Ends) (σ:St) (H:Hp):List (Addr×TS)->Prop
 | []=>False
 | (CF,ts)::r=>(PySem.W.exmOne K (.ref C) (.ref CF)=some true/\ts D σ H)∨(PySem.W.exmOne K (.ref C) (.ref CF)=some false/\wz K C D σ H r)
inductive Lq (X:Cx):List ExceptHandler->List (Addr×TS)->Prop
 | nil:Lq X [] []
 | cons {x:Str} {CF:Addr} {np hp:Pos} {FP:List Stmt} {b0:Stmt} {ts:TS} {r:List ExceptHandler} {rs:List (Addr×TS)} (hg:Gl X x) (hm:X.mg x=some (.ref CF))
     (hs:∀ (a:Addr) (xe:Value->Shared->Prop) (pn:List (Addr×Obj)),JB (X.uA a xe pn) (b0::FP) ts) (hr:Lq X r rs) (vP:(x==("__debug__":Str))=false:=by decide):Lq X (.ExceptHandler (some (.Name x np)) none (b0::FP) hp::r) ((CF,ts)::rs)
section
variable {X:Cx}
def Cs (K:PySem.W.Frag) (hs:List (Addr×TS)) (tb:St->XK->TS):TS:=fun D σ H=>
 tb σ (fun cls _ H'=>∃ C,cls=.ref C/\Fy K C/\wz K C D σ H' hs) D σ H
theorem zO {pins:List (Addr×Obj)} {σ:St} {H1 H':Hp} {s1:Shared} {h':Heap} {B:Heap} {a C:Addr} {a0:Value} {D:Ends} (hN:X.N.Nodup) (tZ:X.stack=X.env::X.outer/\X.env.frame=some X.env.locals) (hex:X.ex=[])
   {g':_} {d':_} {t':_} {Ib:_} (J:Inv X pins σ H1 s1) (na:s1.heap.get? a=none) (dz:oU X.prog X.w H' B) (F:Fy X.K C)
   (mk:∀ {h6:Heap},Heap.FlyingW B (X.env::X.outer) a (.ref C) a0 h6->h'.UpToSlots h6->Inv X pins σ H' ⟨h6,g',d',t',Ib⟩):
   ∀ {Lr:List ExceptHandler} {hs:List (Addr×TS)},Lq X Lr hs->wz X.K C D σ H' hs->∀ {h5:Heap},Heap.FlyingW B (X.env::X.outer) a (.ref C) a0 h5->h'.UpToSlots h5->wpAny (model X.prog X.w) X.A (handleBy (.ref a) X.env Lr) (SP X pins D) X.xe ⟨h5,g',d',t',Ib⟩:=by
 intro Lr hs hh
 induction hh with
 | nil=>intro k;exact k.elim
 | @cons x CF np hp FP b0 ts r rs hg hm hsu hr vP ih=>
   intro k h5 fl5 up5
   have J5:=mk fl5 up5
   refine wpAny_handleBy_cons (codeAny_handlers_test (Calls.Name_function_global J5.ok.kind hg (Calls.loadGlobal_global (by rw [J5.ok.glob];exact J5.mod.glob.keeps J5.bk) hm ?_) vP)) (by intro q;cases q)
   rcases k with ⟨hx,k⟩ | ⟨hx,k⟩
   . refine (PySem.W.exm_one J5.sX (show Mr a C h5 from fl5.there).ty hx).at ?_
     show codeAny _ _ _ _ _
     refine codeAny_handlers_suite ?_
     refine lands_againW fl5 fun h6 fl6 up6=>?_
     have J6:=mk fl6 (up5.trans up6)
     refine wpAny_mono ((hsu a _ (X.pn++pins)).h [] _ _ _ D (J6.uA (a:=a)) k) (fun f s8 q=>?_) fun _ _ z=>z
     cases f with
     | next=>
       obtain ⟨σ',H2,JA,q⟩:=q
       exact ⟨_,_,JA.uncaught J.ok,q⟩
     | brk=>
       obtain ⟨σ',H2,JA,q⟩:=q
       exact ⟨_,_,JA.uncaught J.ok,q⟩
     | cont=>
       obtain ⟨σ',H2,JA,q⟩:=q
       exact ⟨_,_,JA.uncaught J.ok,q⟩
     | ret u=>
       obtain ⟨v,σ',H2,JA,r,q⟩:=q
       exact ⟨_,_,_,JA.uncaught J.ok,r,q⟩
   . refine (PySem.W.exm_one J5.sX (show Mr a C h5 from fl5.there).ty hx).at ?_
     show wpAny _ _ _ _ _ _
     exact ih k fl5 up5
theorem NL {pos:Pos} {body:List Stmt} {h0:ExceptHandler} {Lr:List ExceptHandler} {hs:List (Addr×TS)} {tb:St->XK->TS} (hN:X.N.Nodup) (tZ:X.stack=X.env::X.outer/\X.env.frame=some X.env.locals) (hex:X.ex=[])
   (hb:∀ (σ:St) (E1:XK) (xe:Value->Shared->Prop) (pn:List (Addr×Obj)),uD (A1 X.prog X.w) (X.wk xe pn) E1 σ->JB (X.wk xe pn) body (tb σ E1)) (hh:Lq X (h0::Lr) hs):
   JS X (.Try body (h0::Lr) [] [] pos) (Cs X.K hs tb):=⟨by
 intro pins s σ H D I h
 refine wpAny_Try_except (wpAny_mono ((hb σ _ (fun e s₁=>wpAny (model X.prog X.w) X.A (noteFrame e X.env) (fun _ s₂=>wpAny (model X.prog X.w) X.A (setFlight e none) (fun _ s₃=>wpAny (model X.prog X.w) X.A (handleBy e X.env (h0::Lr)) (SP X pins D) X.xe s₃) X.xe s₂) X.xe s₁) (X.pn++pins) ?_).h [] s σ H D (I.wk (pins:=pins)) h) (fun f s1 q=>?_) fun _ _ z=>z)
 . rintro Fz H1 s1 e ⟨h',g',d',t',Ib⟩ J ⟨a,cls,a0,B,H',rfl,os,bare,fl,un,kb,tb,dz,na,C,rfl,F,k⟩
   have J:=J.qt
   have fr:X.A.frames=some (X.env::X.outer):=by rw [<- tZ.1];exact J.ok.frames
   have fl:Heap.FlyingW B (X.env::X.outer) a (.ref C) a0 h':=by rw [<- tZ.1];exact fl
   refine wpAny_looks_onW fr tZ.2 fl fun h4 held4 up4=>wpAny_landsW held4 fun h5 fl5 up5=>?_
   have Tc:=up4.trans up5
   have mk:∀ {h6:Heap},Heap.FlyingW B (X.env::X.outer) a (.ref C) a0 h6->h'.UpToSlots h6->Inv X pins σ H' ⟨h6,g',d',t',Ib⟩:=fun {h6} fl6 up6=>
     J.Jx (s':=⟨h6,g',d',t',Ib⟩) (ch:=[]) os (NH J.stack J.sY un kb tb fl6.1 up6) (dz.kept fl6.1) bare (fun b z=>absurd z (by simp))
   exact zO hN tZ hex J na dz F mk hh k fl5 Tc
 . cases f with
   | next=>
     obtain ⟨σ',H',J,q⟩:=q
     exact wpAny_execs_nil ⟨σ',H',J.qt,q⟩
   | brk=>
     obtain ⟨σ',H',J,q⟩:=q
     exact ⟨σ',H',J.qt,q⟩
   | cont=>
     obtain ⟨σ',H',J,q⟩:=q
     exact ⟨σ',H',J.qt,q⟩
   | ret u=>
     obtain ⟨v,σ',H',J,r,q⟩:=q
     exact ⟨v,σ',H',J.qt,r,q⟩⟩
end
end L2
set_option Elab.async false
set_option linter.all false
set_option maxRecDepth 100000
set_option maxHeartbeats 4000000
namespace su
open PySem L2
local macro_rules | `(tactic| walk_at "rd")=>`(tactic| simp only [Et,zl,Ey,zp,fH,EA,Ew,Ex,zm,Aw,tC,EE,MW,EF,rI,rU,zv,tB,zh,Er,zj,Eo,MR,Ep,MT,t8,KR,zw,EL,KO,KN,AX,List.getElem?_cons_zero,List.getElem?_cons_succ,List.set_cons_zero,List.set_cons_succ,Option.some.injEq,V.int.injEq,V.bl.injEq,V.ref.injEq,V.ty.injEq,V.str.injEq,List.cons.injEq,exists_eq_left',exists_eq_left,exists_and_left,and_true,true_and,and_assoc,SV,K5,B8,P7,P8,C1,HO.lst.injEq,HO.tup.injEq,qi,AO,AQ,AR,AS,AU,AV,ah,pI,pJ,uf,E5,E6,E7,decide_eq_true_eq,L2.start,List.map_cons,List.map_nil,List.length_cons,List.length_nil,Nat.reduceAdd,Nat.reduceSub,List.replicate_succ,List.replicate_zero,List.cons_append,List.nil_append,List.append_nil,qX,qY,qZ,uh,Qd,C0,HU,sizeLine_eq,Int.reduceLE,Int.reduceLT,Int.reducePow,Int.reduceToNat,Int.reduceAdd,Int.reduceSub,Int.reduceMul,Int.reduceNeg,Nat.reduceLeDiff,Nat.reducePow,Nat.reduceLT,Int.reduceEq,true_or,or_true,ite_true,ite_false,if_true,if_false,Bool.not_true,Bool.not_false,Bool.false_eq_true,decide_true,decide_false,IC,rj,rm,aN,M5,qb,zz,ID,Cf,zG,Ce,qo,Az,IA,Fd,v9,rR,CS,M8,EV,tD,AK,tH,Ck,IG,rJoin,Ii,xq,A0,Ml,zC,xr,IE,rq,uu,uv,uw,w9,uo,uq,ur,join_some,lZ,xh,Fg,Fi,rA,xu,zD,uy,Lj,FA,A2,xC,S4,rS,xB,Lk,Ends.gone,uC,Ll,qu,qv,tN,xE,xM,xF,Cp,xK,pP,rC,rD,IS,FL,xJ,Cs,wz])
local macro_rules | `(tactic| walk_at "rn")=>`(tactic| simp only [Et,zl,Ey,zp,fH,EA,Ew,Ex,zm,Aw,tC,EE,MW,EF,rI,rU,zv,tB,zh,Er,zj,Eo,MR,Ep,MT,t8,KR,zw,EL,KO,KN,AX,List.getElem?_cons_zero,List.getElem?_cons_succ,List.set_cons_zero,List.set_cons_succ,Option.some.injEq,V.int.injEq,V.bl.injEq,V.ref.injEq,V.ty.injEq,V.str.injEq,List.cons.injEq,exists_eq_left',exists_eq_left,exists_and_left,and_true,true_and,and_assoc,SV,K5,B8,P7,P8,C1,HO.lst.injEq,HO.tup.injEq,qi,AO,AQ,AR,AS,AU,AV,ah,pI,pJ,uf,E5,E6,E7,decide_eq_true_eq,L2.start,List.map_cons,List.map_nil,List.length_cons,List.length_nil,Nat.reduceAdd,Nat.reduceSub,List.replicate_succ,List.replicate_zero,List.cons_append,List.nil_append,List.append_nil,qX,qY,qZ,uh,Qd,C0,HU,sizeLine_eq,Int.reduceLE,Int.reduceLT,Int.reducePow,Int.reduceToNat,Int.reduceAdd,Int.reduceSub,Int.reduceMul,Int.reduceNeg,Nat.reduceLeDiff,Nat.reducePow,Nat.reduceLT,Int.reduceEq,true_or,or_true,ite_true,ite_false,if_true,if_false,Bool.not_true,Bool.not_false,Bool.false_eq_true,decide_true,decide_false,IC,rj,rm,aN,M5,qb,zz,ID,Cf,zG,Ce,Az,IA,Fd,v9,rR,CS,M8,EV,tD,AK,tH,Ck,IG,rJoin,Ii,xq,A0,Ml,zC,xr,IE,rq,uu,uv,uw,w9,uo,uq,ur,join_some,lZ,xh,Fg,Fi,rA,xu,zD,uy,Lj,FA,A2,xC,S4,rS,xB,Lk,Ends.gone,uC,Ll,qu,qv,tN,xE,xM,xF,Cp,xK,pP,rC,rD,IS,FL,xJ,Cs,wz])
local macro_rules | `(tactic| simp_arith [$hs,*])=>`(tactic| simp only [Et,zl,Ey,zp,fH,EA,Ew,Ex,zm,Aw,tC,EE,MW,EF,rI,rU,zv,tB,zh,Er,zj,Eo,MR,Ep,MT,t8,KR,zw,EL,KO,KN,AX,List.getElem?_cons_zero,List.getElem?_cons_succ,List.set_cons_zero,List.set_cons_succ,Option.some.injEq,V.int.injEq,V.bl.injEq,V.ref.injEq,V.ty.injEq,V.str.injEq,List.cons.injEq,exists_eq_left',exists_eq_left,exists_and_left,and_true,true_and,and_assoc,SV,K5,B8,P7,P8,C1,HO.lst.injEq,HO.tup.injEq,qi,AO,AQ,AR,AS,AU,AV,ah,pI,pJ,uf,E5,E6,E7,decide_eq_true_eq,L2.start,List.map_cons,List.map_nil,List.length_cons,List.length_nil,Nat.reduceAdd,Nat.reduceSub,List.replicate_succ,List.replicate_zero,List.cons_append,List.nil_append,List.append_nil,qX,qY,qZ,uh,Qd,C0,HU,sizeLine_eq,Int.reduceLE,Int.reduceLT,Int.reducePow,Int.reduceToNat,Int.reduceAdd,Int.reduceSub,Int.reduceMul,Int.reduceNeg,Nat.reduceLeDiff,Nat.reducePow,Nat.reduceLT,Int.reduceEq,true_or,or_true,ite_true,ite_false,if_true,if_false,Bool.not_true,Bool.not_false,Bool.false_eq_true,decide_true,decide_false,IC,rj,rm,aN,M5,qb,zz,ID,Cf,zG,Ce,Az,IA,Fd,v9,rR,CS,M8,EV,tD,AK,tH,Ck,IG,rJoin,Ii,xq,A0,Ml,zC,xr,IE,rq,uu,uv,uw,w9,uo,uq,ur,join_some,lZ,xh,Fg,Fi,rA,xu,zD,uy,Lj,FA,A2,xC,S4,rS,xB,Lk,Ends.gone,uC,Ll,qu,qv,tN,xE,xM,xF,Cp,xK,pP,rC,rD,IS,FL,xJ,Cs,wz,$hs,*])
def top (i:Nat):Stmt:=PySem.Challenge.pw_notefall_k75_texts_that_are_no_body.main.body.getD i (.Pass ⟨0,0,0,0⟩)
abbrev gX:Stmt:=top 10
abbrev je:Stmt:=top 11
abbrev dF:Stmt:=top 12
abbrev lE:Stmt:=top 13
abbrev fV:Stmt:=top 14
abbrev jP:Stmt:=top 15
abbrev jQ:Stmt:=top 16
abbrev jR:Stmt:=top 19
abbrev gY:Stmt:=top 20
abbrev fX:Stmt:=top 23
abbrev fB:Stmt:=top 24
abbrev ee:Stmt:=top 25
abbrev jS:Stmt:=top 27
abbrev gZ:Stmt:=top 29
abbrev fY:Stmt:=top 30
abbrev cJ:Stmt:=top 31
abbrev fZ:Stmt:=top 32
abbrev eB:Stmt:=top 33
abbrev lF:Stmt:=top 34
abbrev jf:Stmt:=top 35
abbrev g6:Stmt:=top 36
abbrev jg:Stmt:=top 37
abbrev eE:Stmt:=top 38
abbrev dH:Stmt:=top 39
abbrev g7:Stmt:=top 41
abbrev eN:Stmt:=top 42
abbrev eO:Stmt:=top 43
abbrev jh:Stmt:=top 44
abbrev g8:Stmt:=top 45
abbrev g9:Stmt:=top 46
abbrev ia:Stmt:=top 47
abbrev ic:Stmt:=top 48
abbrev ie:Stmt:=top 49
abbrev ig:Stmt:=top 50
abbrev eT:Stmt:=top 51
abbrev eU:Stmt:=top 52
abbrev ji:Stmt:=top 53
abbrev ir:Stmt:=top 54
abbrev iu:Stmt:=top 55
abbrev iw:Stmt:=top 56
abbrev iy:Stmt:=top 57
abbrev gb:Stmt:=top 58
abbrev bY:Stmt:=top 59
abbrev iA:Stmt:=top 60
abbrev iB:Stmt:=top 61
abbrev bZ:Stmt:=top 62
abbrev eV:Stmt:=top 64
abbrev gc:Stmt:=top 65
abbrev fC:Stmt:=top 66
abbrev gf:Stmt:=top 67
abbrev fD:Stmt:=top 68
abbrev iC:Stmt:=top 69
abbrev dI:Stmt:=top 70
abbrev iD:Stmt:=top 71
abbrev iE:Stmt:=top 72
abbrev iF:Stmt:=top 73
abbrev iG:Stmt:=top 74
abbrev iH:Stmt:=top 75
abbrev dJ:Stmt:=top 76
abbrev cZ:Stmt:=top 77
abbrev bI:Stmt:=top 78
abbrev fE:Stmt:=top 79
abbrev bu:Stmt:=top 80
abbrev cK:Stmt:=top 81
abbrev dS:Stmt:=top 82
abbrev eW:Stmt:=top 83
abbrev bB:Stmt:=top 84
abbrev qx:Stmt:=top 85
theorem _root_.L2.Callee.imp {P:Program} {w:World} {K:PySem.W.Frag} {mg:Str->Option Value} {base:Heap} {x:Str} {k:Nat} {ps:List Str} {sp C7:Sp} (C:Callee P w K mg base x k ps sp) (h:∀ vs H Q E,C7 vs H Q E->sp vs H Q E):Callee P w K mg base x k ps C7:=by
 obtain ⟨f,fd,F,b,kp,m⟩:=C.ex
 exact ⟨f,fd,F.imp h,b,kp,m⟩
structure XC (K:PySem.W.Frag) (C cF cR:Addr):Prop where
 x:Exc K C
 i:Fy K C
 k0:PySem.W.kitOne K (.ref C) (.ref C)=some true
 k1:PySem.W.kitOne K (.ref C) (.type "ValueError")=some true
structure B (K:PySem.W.Frag) (mg:Str->Option Value) (aG aP cF cR cN:Addr) (tE tF t1 t2 t3 t4:Tok):Prop where
 len:mg "len"=none
 isinstance:mg "isinstance"=none
 int:mg "int"=none
 bool:mg "bool"=none
 tuple:mg "tuple"=none
 str:mg "str"=none
 list:mg "list"=none
 all:mg "all"=none
 zip:mg "zip"=none
 enumerate:mg "enumerate"=none
 range:mg "range"=none
 dict:mg "dict"=none
 max:mg "max"=none
 min:mg "min"=none
 ValueError:mg "ValueError"=none
 Ls:mg "GONE"=some (.ref aG)
 Td:mg "END"=some (.int 1000000000000 tE)
 xO:mg "MOST_FIGURES"=some (.int 60 tF)
 Ms:mg "FallError"=some (.ref cF)
 rH:mg "NoPage"=some (.ref cN)
 DG:mg "MOST_TRAY"=some (.int 64 t1)
 DH:mg "LEAST_FAN"=some (.int 3 t2)
 FQ:mg "MOST_FAN"=some (.int 16 t3)
 DI:mg "MOST_ROWS"=some (.int 64 t4)
 NO:mg "PLANS"=some (.ref aP)
 kP:lB K aP=some [.str "fullest",.str "eldest"]
 kG:lB K aG=some [.str "gone"]
 xN:XC K cN cF cR
section
variable {K:PySem.W.Frag} {mg:Str->Option Value} {aG aP cF cR cN:Addr} {tE tF t1 t2 t3 t4:Tok}
theorem B.xQ (_:B K mg aG aP cF cR cN tE tF t1 t2 t3 t4):RelV (.ref aG) (.ref aG):=rfl
theorem B.A9 (_:B K mg aG aP cF cR cN tE tF t1 t2 t3 t4):RelV (.int 1000000000000) (.int 1000000000000 tE):=⟨tE,rfl⟩
theorem B.sE (_:B K mg aG aP cF cR cN tE tF t1 t2 t3 t4):RelV (.int 60) (.int 60 tF):=⟨tF,rfl⟩
theorem B.xU (_:B K mg aG aP cF cR cN tE tF t1 t2 t3 t4):RelV (.int 64) (.int 64 t1):=⟨t1,rfl⟩
theorem B.xV (_:B K mg aG aP cF cR cN tE tF t1 t2 t3 t4):RelV (.int 3) (.int 3 t2):=⟨t2,rfl⟩
theorem B.zP (_:B K mg aG aP cF cR cN tE tF t1 t2 t3 t4):RelV (.int 16) (.int 16 t3):=⟨t3,rfl⟩
theorem B.xW (_:B K mg aG aP cF cR cN tE tF t1 t2 t3 t4):RelV (.int 64) (.int 64 t4):=⟨t4,rfl⟩
theorem B.FT (_:B K mg aG aP cF cR cN tE tF t1 t2 t3 t4):RelV (.ref aP) (.ref aP):=rfl
theorem B.nF (b:B K mg aG aP cF cR cN tE tF t1 t2 t3 t4):Exc K cN:=b.xN.x
end
def on:Option Int->V
 | none=>.cQ
 | some i=>.int i
def wO (lo hi:Int):Option Int->Bool
 | some i=>decide (lo<=i/\i<=hi)
 | none=>false
def fO (lo:Int):Option Int->Bool
 | some i=>decide (lo<=i)
 | none=>false
section
variable {P:Program} {w:World} {K:PySem.W.Frag} {mg:Str->Option Value} {base:Heap}
def mz:Sp:=fun vs H Q _=>∃ o,vs=[on o]/\Q (.bl o.isSome) H
def nH:Sp:=fun vs H Q _=>∃ o lo hi,vs=[on o,.int lo,.int hi]/\Q (.bl (wO lo hi o)) H
def qy:Sp:=fun vs H Q _=>∃ o lo,vs=[on o,.int lo]/\Q (.bl (fO lo o)) H
theorem xX:aD ["thing"] ["thing"] (af gX):=⟨rfl,rfl,rfl,by decide +kernel,rfl,by decide +kernel,by decide +kernel⟩
theorem xY {f:Addr} {fd:FuncData} (F:fh K "is_number" "is_number" gX f fd) {aG aP cF cR cN:Addr} {tE tF t1 t2 t3 t4:Tok} (B:B K mg aG aP cF cR cN tE tF t1 t2 t3 t4):bf P w K mg base eZ 1 f fd ["thing"] mz:=by
 refine F.gP xX (fun vs H Q E h=>?_) (fun cG A outer s H vs Q E hr h=>?_)
 . obtain ⟨o,rfl,_⟩:=h
   rfl
 obtain ⟨o,rfl,q⟩:=h
 refine ⟨_,(aK (aW (ju (aU aX rfl B.isinstance aR (aa (ev 0) (aa (lX rfl B.int qW) ai))) (lu (SX (aU aX rfl B.isinstance aR (aa (ev 0) (aa (lX rfl B.bool Ir) ai)))))))),?_⟩
 try walk_at "rn"
 cases o with
 | none=>exact ⟨_,.inl .cQ,false,rfl,q⟩
 | some i=>exact ⟨_,.inl (.int i),true,rfl,_,.inl (.int i),false,rfl,q⟩
theorem zQ:aD ["thing","low","high"] ["thing","low","high"] (af je):=⟨rfl,rfl,rfl,by decide +kernel,rfl,by decide +kernel,by decide +kernel⟩
theorem zR {f:Addr} {fd:FuncData} (F:fh K "is_whole" "is_whole" je f fd) {aG aP cF cR cN:Addr} {tE tF t1 t2 t3 t4:Tok} (B:B K mg aG aP cF cR cN tE tF t1 t2 t3 t4) (aM:Callee P w K mg base "is_number" 1 ["thing"] mz):bf P w K mg base eZ 2 f fd ["thing","low","high"] nH:=by
 refine F.gP zQ (fun vs H Q E h=>?_) (fun cG A outer s H vs Q E hr h=>?_)
 . obtain ⟨o,lo,hi,rfl,_⟩:=h
   rfl
 obtain ⟨o,lo,hi,rfl,q⟩:=h
 refine ⟨_,(aK (aW (ju (au aM (hr.mono (by decide)) rfl (aa (ev 0) ai)) (lu (K9 zu zu (ev 1) (ev 0) (ev 2)))))),?_⟩
 try walk_at "rn"
 refine ⟨o,rfl,_,rfl,?_⟩
 cases o with
 | none=>exact aL (by decide) q
 | some i=>
   refine aQ rfl ⟨_,rfl,?_⟩
   simp only [wO] at q
   split
   . rename_i c
     simp only [c,true_and] at q
     exact ⟨_,rfl,q⟩
   . rename_i c
     simp only [c,false_and,decide_false] at q
     exact q
theorem rJ:aD ["thing","low"] ["thing","low"] (af dF):=⟨rfl,rfl,rfl,by decide +kernel,rfl,by decide +kernel,by decide +kernel⟩
theorem rK {f:Addr} {fd:FuncData} (F:fh K "is_whole_from" "is_whole_from" dF f fd) {aG aP cF cR cN:Addr} {tE tF t1 t2 t3 t4:Tok} (B:B K mg aG aP cF cR cN tE tF t1 t2 t3 t4) (aM:Callee P w K mg base "is_number" 1 ["thing"] mz):bf P w K mg base eZ 2 f fd ["thing","low"] qy:=by
 refine F.gP rJ (fun vs H Q E h=>?_) (fun cG A outer s H vs Q E hr h=>?_)
 . obtain ⟨o,lo,rfl,_⟩:=h
   rfl
 obtain ⟨o,lo,rfl,q⟩:=h
 refine ⟨_,(aK (aW (ju (au aM (hr.mono (by decide)) rfl (aa (ev 0) ai)) (lu (kW zu (ev 1) (ev 0) (aI _)))))),?_⟩
 try walk_at "rn"
 refine ⟨o,rfl,_,rfl,?_⟩
 cases o with
 | none=>exact aL (by decide) q
 | some i=>exact aQ rfl ⟨_,rfl,q⟩
end
theorem zS {α:Type} {K:PySem.W.Frag} {c D:Addr} {L:List α} {f g:α->V} {te:TE} {v0:Option V} {rest:St} {H:Hp} {Q:Hp->Prop} (hk:tupQ K H c=some (L.map f)) (nD:new K H D) (hz:L.length<=1000)
   (elt:∀ q∈L,∀ H' (Q:VK),Ext K H H'->(∀ kY,Ext K H' kY->Q (g q) kY)->te (some (f q)::rest) H' Q)
   (fin:∀ H',H' D=some (.lst (L.map g))->Ext K H H'->Q H'):dj (Mi K c) (fH 0) lZ te D Q (v0::rest) (upd H D (.lst [])):=by
 refine Lf (xs:=L.map f) (fun i acc σ' H'=>∃ (v0:Option V),σ'=v0::rest/\H' D=some (.lst acc)/\acc=(L.take i).map g/\Kp K D (upd H D (.lst [])) H') ?_ ?_ ?_ ?_
 . exact ⟨_,rfl,ah,rfl,Kp.refl⟩
 . rintro i acc σ' H' _ ⟨v0,rfl,hD,rfl,k⟩
   exact gD ((k.ext nD).tup hk)
 . rintro i x acc σ' H' hx ⟨v0,rfl,hD,rfl,k⟩
   rw [List.getElem?_map] at hx
   obtain ⟨q,ek,rfl⟩:=Option.map_eq_some_iff.mp hx
   have hlen:((L.take i).map g).length<=1000:=by rw [List.length_map,List.length_take];omega
   unfold fH lZ
   refine AN ?_
   refine elt q (List.mem_of_getElem? ek) H' _ (k.ext nD) fun kY x''=>⟨x''.at hD,Nat.lt_of_le_of_lt hlen (by decide),_,rfl,ah,?_,k.trans (x''.kp.trans (Kp.upd (x''.at hD)))⟩
   rw [List.take_add_one,ek,Option.toList_some,List.map_append]
   rfl
 . rintro acc σ' H' ⟨v0,rfl,hD,rfl,k⟩
   rw [List.length_map,List.take_length] at hD
   exact fin H' hD (k.ext nD)
def aC (i:Int):Str:=Str.ofString (toString i)
theorem aE {i:Int} (h:i.natAbs < 10 ^ 100):(aC i).length<=101:=by
 unfold aC
 rw [PySem.ofString_length]
 exact int_text_length_le10 (by decide) h
theorem cM {i:Int} (h:i.natAbs < 10 ^ 100):i.natAbs.log2 < 1920:=by
 by_cases e:i.natAbs=0
 . rw [e];decide
 . exact Nat.lt_trans ((Nat.log2_lt (k:=400) e).2 (Nat.lt_trans h (by decide))) (by decide)
theorem eX {sep:Str} {m:Nat} (ts:List Str) (h:∀ t∈ts,t.length<=m):pO sep ts<=ts.length * (m + sep.length):=by
 have e:∀ (ts:List Str) (k:Nat),(∀ t∈ts,t.length<=m)->ts.foldl (fun n x=>n + x.length + sep.length) k<=k + ts.length * (m + sep.length):=by
   intro ts
   induction ts with
   | nil=>intro k _;simp
   | cons x r ih=>
     intro k h
     rw [List.foldl_cons,List.length_cons,Nat.add_mul]
     have h1:=ih (k + x.length + sep.length) fun t m=>h t (List.mem_cons_of_mem _ m)
     have h2:=h x List.mem_cons_self
     omega
 have:=e ts 0 h
 unfold pO
 omega
theorem join_le {sep:Str} {m:Nat}:∀ (ts:List Str),(∀ t∈ts,t.length<=m)->(Str.join sep ts).length<=ts.length * (m + sep.length)
 | [],_=>by simp [Str.join,Str.empty,Str.length]
 | [x],h=>by
   have:=h x List.mem_cons_self
   show x.length<=1 * (m + sep.length)
   omega
 | x::y::r,h=>by
   have e:=join_le (sep:=sep) (y::r) fun t m=>h t (List.mem_cons_of_mem _ m)
   have h2:=h x List.mem_cons_self
   show (x++sep++Str.join sep (y::r)).length<=_
   rw [Str.length_append,Str.length_append,List.length_cons (a:=x),Nat.add_mul]
   omega
theorem zT {c:Nat}:∀ {p q A B:List Nat},c∉p->c∉q->p++c::A=q++c::B->p=q/\A=B
 | [],[],A,B,_,_,h=>by simpa using h
 | [],y::q,A,B,_,hq,h=>by
   have:=(List.cons.inj h).1
   exact absurd (by rw [this];exact List.mem_cons_self) hq
 | x::p,[],A,B,hp,_,h=>by
   have:=(List.cons.inj h).1
   exact absurd (by rw [<- this];exact List.mem_cons_self) hp
 | x::p,y::q,A,B,hp,hq,h=>by
   obtain ⟨h1,h2⟩:=List.cons.inj h
   obtain ⟨e1,e2⟩:=zT (fun m=>hp (List.mem_cons_of_mem _ m)) (fun m=>hq (List.mem_cons_of_mem _ m)) h2
   exact ⟨by rw [h1,e1],e2⟩
theorem iQ {x y:Str} (h:x.cps.toList=y.cps.toList):x=y:=by
 cases x;cases y
 simp only at h
 rw [Array.toList_inj.mp h]
theorem fN (c:Nat) (x y:Str) (r:List Str):(Str.join ⟨#[c]⟩ (x::y::r)).cps.toList=x.cps.toList++c::(Str.join ⟨#[c]⟩ (y::r)).cps.toList:=by
 show (x++⟨#[c]⟩++Str.join ⟨#[c]⟩ (y::r)).cps.toList=_
 rw [dQ,dQ]
 simp
theorem zU {c:Nat}:∀ {ps qs:List Str},ps≠[]->qs≠[]->(∀ p∈ps,c∉p.cps.toList)->(∀ p∈qs,c∉p.cps.toList)->Str.join ⟨#[c]⟩ ps=Str.join ⟨#[c]⟩ qs->ps=qs
 | [],_,h,_,_,_,_=>absurd rfl h
 | _::_,[],_,h,_,_,_=>absurd rfl h
 | [x],[y],_,_,_,_,h=>by
   have:x=y:=h
   rw [this]
 | [x],y::z::r,_,_,hp,_,h=>by
   have h:=congrArg (fun s=>s.cps.toList) h
   rw [fN] at h
   have:c∈x.cps.toList:=by
     show c∈(Str.join ⟨#[c]⟩ [x]).cps.toList
     rw [h];simp
   exact absurd this (hp x List.mem_cons_self)
 | x::z::r,[y],_,_,_,hq,h=>by
   have h:=congrArg (fun s=>s.cps.toList) h
   rw [fN] at h
   have:c∈y.cps.toList:=by
     show c∈(Str.join ⟨#[c]⟩ [y]).cps.toList
     rw [<- h];simp
   exact absurd this (hq y List.mem_cons_self)
 | x::x2::r,y::y2::s,_,_,hp,hq,h=>by
   have h:=congrArg (fun s=>s.cps.toList) h
   rw [fN,fN] at h
   obtain ⟨e1,e2⟩:=zT (hp x List.mem_cons_self) (hq y List.mem_cons_self) h
   rw [iQ e1,zU (by simp) (by simp) (fun p m=>hp p (List.mem_cons_of_mem _ m)) (fun p m=>hq p (List.mem_cons_of_mem _ m)) (iQ e2)]
theorem jV (x:Str) (c:Nat):Txt.split x ⟨#[c]⟩≠[]:=by
 unfold Txt.split
 split
 . simp
 . split
   . simp
   . rw [StrLaws.partsBetween_eq]
     cases Builtin.Str.occurrences x ⟨#[c]⟩ 0 x.length (x.length + 1) <;> simp [StrLaws.partsFrom]
theorem dU {c:Nat} {ps:List Str} (h0:ps≠[]) (h:∀ p∈ps,c∉p.cps.toList):Txt.split (Str.join ⟨#[c]⟩ ps) ⟨#[c]⟩=ps:=
 zU (jV _ _) h0 (StrLaws.split_free _ _) h (StrLaws.join_split _ _)
theorem dm:Str.ofString " "=⟨#[32]⟩:=by decide +kernel
theorem vz:∀ m:Nat,0 < m->(Nat.toDigits 10 m).head?≠some '0':=by
 intro m
 induction m using Nat.strongRecOn with
 | _ m ih=>
   intro hm
   by_cases h:m < 10
   . rw [Nat.toDigits_of_lt_base h]
     have:∀ d,d < 10->0 < d->([Nat.digitChar d]:List Char).head?≠some '0':=by decide
     exact this m h hm
   . have e:=Nat.toDigits_append_toDigits (b:=10) (n:=m / 10) (d:=m % 10) (by decide) (by omega) (by omega)
     rw [show 10 * (m / 10) + m % 10=m by omega] at e
     rw [<- e]
     have:=ih (m / 10) (by omega) (by omega)
     cases q:Nat.toDigits 10 (m / 10) with
     | nil=>have:=PySem.toDigits_len_ge 10 (m / 10);rw [q] at this;simp at this
     | cons a r=>rw [q] at this;simpa using this
theorem wA (m:Nat) (h:m < 10 ^ 60):let l:=(Nat.toDigits 10 m).map Char.toNat;l≠[]/\l.all bF=true/\l.length<=60/\(l.head?=some 48->l=[48])/\NumText.digitsVal l=m:=by
 refine ⟨?_,?_,?_,?_,PySem.W.KIN.val_back m⟩
 . intro e
   have:=PySem.toDigits_len_ge 10 m
   rw [List.map_eq_nil_iff.mp e] at this
   simp at this
 . rw [List.all_eq_true]
   intro c hc
   obtain ⟨ch,Ed,e⟩:=List.mem_map.mp hc
   have r:=PyProof.Rows.digit_range (Nat.isDigit_of_mem_toDigits (by decide) (by decide) Ed)
   rw [<- e]
   simp only [bF,Bool.and_eq_true,decide_eq_true_eq]
   exact r
 . rw [List.length_map]
   have:=PySem.digitsCore_len_pow 10 (by decide) 60 (m + 1) m [] (by decide) h
   simpa [Nat.toDigits] using this
 . intro e
   by_cases z:m=0
   . subst z;decide
   . exfalso
     have:=vz m (by omega)
     cases q:Nat.toDigits 10 m with
     | nil=>rw [q] at e;simp at e
     | cons a r=>
       rw [q] at e this
       simp only [List.map_cons,List.head?_cons,Option.some.injEq] at e this
       exact this (congrArg some (Char.toNat_inj.mp (e.trans (by decide))))
theorem Ct (i:Int):(aC i).cps.toList=if i < 0 then 45::(Nat.toDigits 10 i.natAbs).map Char.toNat else (Nat.toDigits 10 i.natAbs).map Char.toNat:=by
 unfold aC
 cases i with
 | ofNat m=>
   rw [if_neg (by simp)]
   exact PySem.W.KIN.signs_num m
 | negSucc m=>
   rw [if_pos (by omega),PyProof.Rows.signs_ofString]
   show ("-"++Nat.repr (m + 1)).toList.map Char.toNat=_
   rw [String.toList_append,List.map_append,Nat.toList_repr]
   rfl
theorem IT {i:Int} (h:i.natAbs < 10 ^ 60):qw (aC i).cps.toList=true/\DB (aC i).cps.toList=i:=by
 obtain ⟨h1,h2,h3,h4,h5⟩:=wA i.natAbs h
 rw [Ct]
 split
 . rename_i neg
   refine ⟨?_,?_⟩
   . simp only [qw,d9,Bool.and_eq_true,Bool.not_eq_true',List.isEmpty_eq_false_iff,decide_eq_true_eq,Bool.and_eq_false_imp,decide_eq_false_iff_not,ne_eq,Classical.not_not]
     refine ⟨⟨⟨h1,h2⟩,h3⟩,fun e=>?_⟩
     have:=h4 e
     rw [this] at h5
     have:i.natAbs=0:=by rw [<- h5];decide
     omega
   . simp only [DB]
     rw [h5]
     omega
 . rename_i neg
   have NI:((Nat.toDigits 10 i.natAbs).map Char.toNat).head?≠some 45:=fun e=>by
     have:=List.all_eq_true.mp h2 45 (List.mem_of_head? e)
     exact absurd this (by decide)
   rw [Cn NI]
   refine ⟨?_,by rw [h5];omega⟩
   simp only [qw,nE NI,Bool.and_eq_true,Bool.not_eq_true',List.isEmpty_eq_false_iff,decide_eq_true_eq,Bool.and_eq_false_imp,decide_eq_false_iff_not,ne_eq,Classical.not_not]
   exact ⟨⟨⟨h1,h2⟩,h3⟩,h4⟩
theorem zV {c:Nat}:∀ {ps:List Str},ps.length<=(Str.join ⟨#[c]⟩ ps).length + 1/\∀ p∈ps,p.length<=(Str.join ⟨#[c]⟩ ps).length
 | []=>by simp
 | [x]=>by
   refine ⟨by simp,fun p hp=>?_⟩
   rw [List.mem_singleton.mp hp]
   exact Nat.le_refl _
 | x::y::r=>by
   obtain ⟨h1,h2⟩:=zV (c:=c) (ps:=y::r)
   have e:(Str.join ⟨#[c]⟩ (x::y::r)).length=x.length + 1 + (Str.join ⟨#[c]⟩ (y::r)).length:=by
     show (x++⟨#[c]⟩++Str.join ⟨#[c]⟩ (y::r)).length=_
     rw [Str.length_append,Str.length_append]
     rfl
   rw [e,List.length_cons]
   refine ⟨by omega,fun p hp=>?_⟩
   rcases List.mem_cons.mp hp with rfl | hp
   . omega
   . have:=h2 p hp
     omega
theorem gE {α:Type} {K:PySem.W.Frag} {c D:Addr} {L:List α} {f g:α->V} {te:TE} {v0:Option V} {rest:St} {H:Hp} {Q:Hp->Prop} (hk:aZ K H c (L.map f)) (nD:new K H D) (hz:L.length<=16000000)
   (elt:∀ q∈L,∀ H' (Q:VK),Ext K H H'->(∀ kY,Ext K H' kY->Q (g q) kY)->te (some (f q)::rest) H' Q)
   (fin:∀ H',H' D=some (.lst (L.map g))->Ext K H H'->Q H'):dj (AB K c) (fH 0) lZ te D Q (v0::rest) (upd H D (.lst [])):=by
 refine ow (xs:=L.map f) (fun i acc σ' H'=>∃ (v0:Option V),σ'=v0::rest/\H' D=some (.lst acc)/\acc=(L.take i).map g/\Kp K D (upd H D (.lst [])) H') ?_ ?_ ?_ ?_
 . exact ⟨_,rfl,ah,rfl,Kp.refl⟩
 . rintro i acc σ' H' _ ⟨v0,rfl,hD,rfl,k⟩
   exact (k.ext nD).same.seq hk
 . rintro i x acc σ' H' hx ⟨v0,rfl,hD,rfl,k⟩
   rw [List.getElem?_map] at hx
   obtain ⟨q,ek,rfl⟩:=Option.map_eq_some_iff.mp hx
   have hlen:((L.take i).map g).length<=16000000:=by rw [List.length_map,List.length_take];omega
   unfold fH lZ
   refine AN ?_
   refine elt q (List.mem_of_getElem? ek) H' _ (k.ext nD) fun kY x''=>⟨x''.at hD,Nat.lt_of_le_of_lt hlen (by decide),_,rfl,ah,?_,k.trans (x''.kp.trans (Kp.upd (x''.at hD)))⟩
   rw [List.take_add_one,ek,Option.toList_some,List.map_append]
   rfl
 . rintro acc σ' H' ⟨v0,rfl,hD,rfl,k⟩
   rw [List.length_map,List.take_length] at hD
   exact fin H' hD (k.ext nD)
theorem bG:Str.ofString ","=⟨#[44]⟩:=by decide +kernel
theorem fk (t:Str) (c:Nat):(Txt.split t ⟨#[c]⟩).length<=t.length + 1/\∀ p∈Txt.split t ⟨#[c]⟩,p.length<=t.length:=by
 have:=zV (c:=c) (ps:=Txt.split t ⟨#[c]⟩)
 rw [StrLaws.join_split] at this
 exact this
section
variable {P:Program} {w:World} {K:PySem.W.Frag} {mg:Str->Option Value} {base:Heap}
def FU:Sp:=fun vs H Q _=>∃ t:Str,vs=[.str t]/\t.length<=16777216/\Q (.bl (Txt.isascii t&&Txt.isdigit t&&decide (t.length<=60))) H
def qz:Sp:=fun vs H Q _=>∃ t:Str,vs=[.str t]/\t.length<=16777216/\Q (on (ak t)) H
theorem uF:aD ["text"] ["text"] (af fB):=⟨rfl,rfl,rfl,by decide +kernel,rfl,by decide +kernel,by decide +kernel⟩
theorem uG {f:Addr} {fd:FuncData} (F:fh K "are_figures" "are_figures" fB f fd) {aG aP cF cR cN:Addr} {tE tF t1 t2 t3 t4:Tok} (B:B K mg aG aP cF cR cN tE tF t1 t2 t3 t4):bf P w K mg base eZ 1 f fd ["text"] FU:=by
 refine F.gP uF (fun vs H Q E h=>?_) (fun cG A outer s H vs Q E hr h=>?_)
 . obtain ⟨t,rfl,_⟩:=h
   rfl
 obtain ⟨t,rfl,hl,q⟩:=h
 refine ⟨_,(aK (aW (ju (La PySem.F.plainAttrs_str PySem.F.slot_str_isascii PySem.F.type_str_isascii A3 (ev 0)) (ju (La PySem.F.plainAttrs_str PySem.F.slot_str_isdigit PySem.F.type_str_isdigit A4 (ev 0)) (lu (kW zu (aU qe rfl B.len dg (aa (ev 0) ai)) (jt rfl B.xO B.sE) (aI _))))))),?_⟩
 try walk_at "rn"
 cases h1:Txt.isascii t
 . rw [h1] at q
   exact aL (by decide) q
 cases h2:Txt.isdigit t
 . rw [h1,h2] at q
   exact aQ rfl (aL (by decide) q)
 . rw [h1,h2] at q
   refine aQ rfl (aQ rfl ⟨hl,?_⟩)
   rw [show decide ((t.length:Int)<=60)=(true&&true&&decide (t.length<=60)) from by simp only [Bool.true_and];exact decide_eq_decide.mpr (by omega)]
   exact q
theorem zW (t:Str):(Txt.removeprefix t (Str.ofString "-")).length=(d9 t.cps.toList).length:=by rw [<- uB];simp [Str.length]
theorem FW:∀ l:List Nat,(d9 l).length<=l.length:=by
 intro l
 unfold d9
 split
 . simp
 . exact Nat.le_refl _
theorem Lu (t:Str):(Txt.isascii (Txt.removeprefix t (Str.ofString "-"))&&Txt.isdigit (Txt.removeprefix t (Str.ofString "-"))&&decide ((Txt.removeprefix t (Str.ofString "-")).length<=60))=(!(d9 t.cps.toList).isEmpty&&(d9 t.cps.toList).all bF&&decide ((d9 t.cps.toList).length<=60)):=by
 rw [IK,uB,zW]
theorem Cu {c:Nat}:(⟨#[c]⟩:Str)=Str.ofString "0"↔c=48:=by
 constructor
 . intro h
   have:=congrArg (fun s:Str=>s.cps.toList) h
   have h0:(Str.ofString "0").cps.toList=[48]:=by decide +kernel
   simp only [h0] at this
   simpa using this
 . intro h
   subst h
   exact iQ (by decide +kernel)
theorem Cv {t:Str}:t.cps.toList=[48]↔t=Str.ofString "0":=by
 constructor
 . intro h
   exact iQ (by rw [h];decide +kernel)
 . intro h
   subst h
   decide +kernel
theorem mS:aD ["text","bare"] ["text"] (af ee):=⟨rfl,rfl,rfl,by decide +kernel,rfl,by decide +kernel,by decide +kernel⟩
theorem mU {f:Addr} {fd:FuncData} (F:fh K "read_figures" "read_figures" ee f fd) {aG aP cF cR cN:Addr} {tE tF t1 t2 t3 t4:Tok} (B:B K mg aG aP cF cR cN tE tF t1 t2 t3 t4) (fF:Callee P w K mg base "are_figures" 1 ["text"] FU):bf P w K mg base eZ 2 f fd ["text"] qz:=by
 refine F.gP mS (fun vs H Q E h=>?_) (fun cG A outer s H vs Q E hr h=>?_)
 . obtain ⟨t,rfl,_⟩:=h
   rfl
 obtain ⟨t,rfl,ht,q⟩:=h
 have hbl:=zW t
 have hle:=FW t.cps.toList
 have hl:t.length=t.cps.toList.length:=by simp [Str.length]
 refine ⟨_,(av (jD (jd (gy (aU aX rfl B.isinstance aR (aa (ev 0) (aa (lX rfl B.str dh) ai))))) (aK (aW i8)) cY)
     (av (sset (i:=1) mS.nd rfl (Or.inl rfl) (lA PySem.F.plainAttrs_str PySem.F.slot_str_removeprefix PySem.F.type_str_removeprefix sD (ev 0) (aa aS ai)))
     (av (jD (jd (gy (au fF (hr.mono (by decide)) rfl (aa (ev 1) ai)))) (aK (aW i8)) cY)
     (av (jD (tw (wV (cj cS (iJ wN (ev 1) ei (fun _ _=>rfl)) aS (aI _)) (qj (cj mR (ev 0) aS (aI _))))) (aK (aW i8)) cY)
     (aK (aW (bR Dz rfl B.int qW (aa (ev 0) ai)))))))),?_⟩
 try walk_at "rn"
 refine ⟨_,.inl (.str _),true,rfl,aL (by decide) ⟨by omega,_,rfl,by omega,_,rfl,?_⟩⟩
 rw [Lu]
 unfold ak at q
 cases ca:(!(d9 t.cps.toList).isEmpty&&(d9 t.cps.toList).all bF&&decide ((d9 t.cps.toList).length<=60))
 . refine aQ (by decide) ?_
   rw [if_neg (by unfold qw;rw [ca];simp)] at q
   exact q
 refine aL (by decide) ?_
 have ne:d9 t.cps.toList≠[]:=by
   simp only [Bool.and_eq_true,Bool.not_eq_true',List.isEmpty_eq_false_iff] at ca
   exact ca.1.1
 have fin:qw t.cps.toList=true->∃ x,intText? t=some x/\t.length<=640/\Q (V.int x) H:=fun hf=>by
   rw [if_pos hf] at q
   exact ⟨_,IL hf,by have:=Co hf;omega,q⟩
 refine ⟨by omega,?_⟩
 rw [uB]
 cases e:d9 t.cps.toList with
 | nil=>exact absurd e ne
 | cons c r=>
   refine ⟨c,uf,?_⟩
   by_cases hc:c=48
   . rw [if_pos (Cu.mpr hc)]
     by_cases hz:t=Str.ofString "0"
     . rw [decide_eq_true hz]
       exact aL (by decide) (fin (by unfold qw;rw [ca,Cv.mpr hz];decide))
     . rw [decide_eq_false hz]
       refine aQ (by decide) ?_
       rw [if_neg (by unfold qw;rw [ca,e,hc];simp [show t.cps.toList≠[48] from fun z=>hz (Cv.mp z)])] at q
       exact q
   . rw [if_neg (fun z=>hc (Cu.mp z))]
     exact fin (by unfold qw;rw [ca,e];simp [hc])
end
def bx (sep:Str) (ts:List Str):Str:=if ts=[] then Str.ofString "-" else Str.join sep ts
theorem eY {sep:Str} {m:Nat} (ts:List Str) (h:∀ t∈ts,t.length<=m):(bx sep ts).length<=ts.length * (m + sep.length) + 1:=by
 unfold bx
 split
 . rename_i e
   rw [e]
   show (Str.ofString "-").length<=_
   have:(Str.ofString "-").length=1:=by decide +kernel
   omega
 . exact Nat.le_succ_of_le (join_le ts h)
theorem oB {α:Type} {K:PySem.W.Frag} {c D:Addr} {L:List α} {f g:α->V} {te:TE} {v0:Option V} {rest:St} {H:Hp} {Q:Hp->Prop} (hk:H c=some (.lst (L.map f))) (nD:new K H D) (hz:L.length<=1000)
   (elt:∀ q∈L,∀ H' (Q:VK),Ext K H H'->Q (g q) H'->te (some (f q)::rest) H' Q)
   (fin:∀ H',H' D=some (.lst (L.map g))->Ext K H H'->Q H'):dj (AB K c) (fH 0) lZ te D Q (v0::rest) (upd H D (.lst [])):=by
 refine ow (xs:=L.map f) (fun i acc σ' H'=>∃ (v0:Option V),σ'=v0::rest/\H' D=some (.lst acc)/\acc=(L.take i).map g/\Kp K D (upd H D (.lst [])) H') ?_ ?_ ?_ ?_
 . exact ⟨_,rfl,ah,rfl,Kp.refl⟩
 . rintro i acc σ' H' _ ⟨v0,rfl,hD,rfl,k⟩
   exact aZ.of ((k.ext nD).at hk)
 . rintro i x acc σ' H' hx ⟨v0,rfl,hD,rfl,k⟩
   rw [List.getElem?_map] at hx
   obtain ⟨q,ek,rfl⟩:=Option.map_eq_some_iff.mp hx
   have hlen:((L.take i).map g).length<=1000:=by rw [List.length_map,List.length_take];omega
   unfold fH lZ
   refine AN ?_
   refine elt q (List.mem_of_getElem? ek) H' _ (k.ext nD) ⟨hD,Nat.lt_of_le_of_lt hlen (by decide),_,rfl,ah,?_,k.trans (Kp.upd hD)⟩
   rw [List.take_add_one,ek,Option.toList_some,List.map_append]
   rfl
 . rintro acc σ' H' ⟨v0,rfl,hD,rfl,k⟩
   rw [List.length_map,List.take_length] at hD
   exact fin H' hD (k.ext nD)
theorem tO {α:Type} {K:PySem.W.Frag} {c D:Addr} {L:List α} {f g:α->V} {te:TE} {v0:Option V} {rest:St} {H:Hp} {Q:Hp->Prop} (hk:H c=some (.lst (L.map f))) (nD:new K H D) (hz:L.length<=1000)
   (elt:∀ q∈L,∀ H' (Q:VK),Ext K H H'->(∀ kY,Ext K H' kY->Q (g q) kY)->te (some (f q)::rest) H' Q)
   (fin:∀ H',H' D=some (.lst (L.map g))->Ext K H H'->Q H'):dj (AB K c) (fH 0) lZ te D Q (v0::rest) (upd H D (.lst [])):=by
 refine ow (xs:=L.map f) (fun i acc σ' H'=>∃ (v0:Option V),σ'=v0::rest/\H' D=some (.lst acc)/\acc=(L.take i).map g/\Kp K D (upd H D (.lst [])) H') ?_ ?_ ?_ ?_
 . exact ⟨_,rfl,ah,rfl,Kp.refl⟩
 . rintro i acc σ' H' _ ⟨v0,rfl,hD,rfl,k⟩
   exact aZ.of ((k.ext nD).at hk)
 . rintro i x acc σ' H' hx ⟨v0,rfl,hD,rfl,k⟩
   rw [List.getElem?_map] at hx
   obtain ⟨q,ek,rfl⟩:=Option.map_eq_some_iff.mp hx
   have hlen:((L.take i).map g).length<=1000:=by rw [List.length_map,List.length_take];omega
   unfold fH lZ
   refine AN ?_
   refine elt q (List.mem_of_getElem? ek) H' _ (k.ext nD) fun kY x''=>⟨x''.at hD,Nat.lt_of_le_of_lt hlen (by decide),_,rfl,ah,?_,k.trans (x''.kp.trans (Kp.upd (x''.at hD)))⟩
   rw [List.take_add_one,ek,Option.toList_some,List.map_append]
   rfl
 . rintro acc σ' H' ⟨v0,rfl,hD,rfl,k⟩
   rw [List.length_map,List.take_length] at hD
   exact fin H' hD (k.ext nD)
section
variable {P:Program} {w:World} {K:PySem.W.Frag} {mg:Str->Option Value} {base:Heap}
def FY:Option Int->Str
 | none=>Str.ofString "x"
 | some i=>aC i
def iR (p:Int×Option Int):Str:=aC p.1++Str.ofString ":"++FY p.2
def oV:Option Int->V
 | some i=>.int i
 | none=>.cQ
def okO (o:Option Int):Prop:=∀ i,o=some i->i.natAbs < 10 ^ 100
def lG (K:PySem.W.Frag) (H:Hp) (u:V) (p:Int×Option Int):Prop:=∃ t,u=.ref t/\tupQ K H t=some [.int p.1,oV p.2]
def rV (p:Int×Option Int):Prop:=p.1.natAbs < 10 ^ 100/\okO p.2
theorem uH {o:Option Int} (h:okO o):(FY o).length<=101:=by
 cases o with
 | none=>exact (by decide +kernel:(Str.ofString "x").length<=101)
 | some i=>exact aE (h i rfl)
theorem uI {p:Int×Option Int} (h:rV p):(iR p).length<=203:=by
 unfold iR
 have h1:=aE h.1
 have h2:=uH h.2
 have h3:(Str.ofString ":").length=1:=by decide +kernel
 rw [Str.length_append,Str.length_append]
 omega
structure Row where
 k:Int
 a:Addr
 vs:List (V×(Int×Option Int))
def gQ (k:Int) (ws:List (Int×Option Int)):Str:=aC k++Str.ofString "="++bx (Str.ofString ",") (ws.map iR)
def qA (K:PySem.W.Frag) (H:Hp) (u:V) (r:Row):Prop:=∃ t,u=.ref t/\tupQ K H t=some [.int r.k,.ref r.a]/\H r.a=some (.lst (r.vs.map (·.1)))/\∀ q∈r.vs,lG K H q.1 q.2
def wB (r:Row):Prop:=r.k.natAbs < 10 ^ 100/\(∀ q∈r.vs,rV q.2)/\r.vs.length<=8
theorem uJ {r:Row} (ok:wB r):(gQ r.k (r.vs.map (·.2))).length<=1800:=by
 have h1:=aE ok.1
 have h3:(Str.ofString "=").length=1:=by decide +kernel
 have hl:∀ t∈(r.vs.map (·.2)).map iR,t.length<=203:=by
   intro t ht
   obtain ⟨p,hp,rfl⟩:=List.mem_map.1 ht
   obtain ⟨q0,hq,rfl⟩:=List.mem_map.1 hp
   exact uI (ok.2.1 q0 hq)
 have h4:=eY (sep:=Str.ofString ",") _ hl
 have h5:(Str.ofString ",").length=1:=by decide +kernel
 have h6:=ok.2.2
 rw [List.length_map,List.length_map,h5] at h4
 unfold gQ
 rw [Str.length_append,Str.length_append]
 omega
inductive bJ where
 | plus (n:Int) | is (n:Int) | gone
def bJ.v:bJ->List V
 | .plus n=>[.str "plus",.int n]
 | .is n=>[.str "is",.int n]
 | .gone=>[.str "gone"]
def bJ.t:bJ->Str
 | .plus n=>Str.ofString "+"++aC n
 | .is n=>Str.ofString "="++aC n
 | .gone=>Str.ofString "x"
def bJ.ok:bJ->Prop
 | .plus n=>n.natAbs < 10 ^ 100
 | .is n=>n.natAbs < 10 ^ 100
 | .gone=>True
theorem bJ.len {h:bJ} (ok:h.ok):h.t.length<=102:=by
 cases h with
 | plus n=>
   have h1:=aE (i:=n) ok
   have h3:(Str.ofString "+").length=1:=by decide +kernel
   show (Str.ofString "+"++aC n).length<=_
   rw [Str.length_append];omega
 | is n=>
   have h1:=aE (i:=n) ok
   have h3:(Str.ofString "=").length=1:=by decide +kernel
   show (Str.ofString "="++aC n).length<=_
   rw [Str.length_append];omega
 | gone=>exact (by decide +kernel:(Str.ofString "x").length<=102)
theorem s5:¬ (("inner":Str)="leaf"):=by decide +kernel
theorem s3:¬ (("is":Str)="plus"):=by decide +kernel
def bJ.hd:bJ->PyData
 | .plus n=>.tuple [.str "plus",.int n]
 | .is n=>.tuple [.str "is",.int n]
 | .gone=>.tuple [.str "gone"]
theorem bJ.Cw {K:PySem.W.Frag} {H:Hp} {r:Addr} {h:bJ} (e:tupQ K H r=some h.v):Is K H h.hd (.ref r):=by
 cases h with
 | plus n=>simp only [bJ.hd,Is,cy];exact ⟨r,_,rfl,gD e,_,_,rfl,rfl,_,_,rfl,rfl,rfl⟩
 | is n=>simp only [bJ.hd,Is,cy];exact ⟨r,_,rfl,gD e,_,_,rfl,rfl,_,_,rfl,rfl,rfl⟩
 | gone=>simp only [bJ.hd,Is,cy];exact ⟨r,_,rfl,gD e,_,_,rfl,rfl,rfl⟩
theorem bJ.shaped (h:bJ):SeqAt.shaped h.hd=true:=by
 cases h <;> simp only [SeqAt.shaped,bJ.hd,PyData.canLay0,PyData.canLayAll0,PyData.depth,PyData.depthAll] <;> decide +kernel
theorem bJ.zX (h:bJ):PyData.eqv h.hd bJ.gone.hd=(match h with | .gone=>true | _=>false):=by
 cases h <;> rfl
def FZ (K:PySem.W.Frag) (H:Hp) (u:V) (h:bJ):Prop:=∃ t,u=.ref t/\tupQ K H t=some h.v
structure Nt where
 n:Int
 lo:Int
 hi:Int
 t:bJ
 m:bJ
def Nt.ok (e:Nt):Prop:=e.n.natAbs < 10 ^ 100/\e.lo.natAbs < 10 ^ 100/\e.hi.natAbs < 10 ^ 100/\e.t.ok/\e.m.ok
def Nt.x (e:Nt):Str:=Str.join (Str.ofString ".") [aC e.n,aC e.lo,aC e.hi,e.t.t,e.m.t]
def mC (K:PySem.W.Frag) (H:Hp) (v:V) (e:Nt):Prop:=∃ a w r s,v=.ref a/\tupQ K H a=some [.int e.n,.int e.lo,.int e.hi,.ref w]/\tupQ K H w=some [.ref r,.ref s]/\tupQ K H r=some e.t.v/\tupQ K H s=some e.m.v
theorem Nt.le {e:Nt} (ok:e.ok):∀ t∈[aC e.n,aC e.lo,aC e.hi,e.t.t,e.m.t],t.length<=102:=by
 have h1:=aE ok.1
 have h2:=aE ok.2.1
 have h3:=aE ok.2.2.1
 have h4:=bJ.len ok.2.2.2.1
 have h5:=bJ.len ok.2.2.2.2
 intro t ht
 simp only [List.mem_cons,List.not_mem_nil,or_false] at ht
 rcases ht with rfl | rfl | rfl | rfl | rfl <;> omega
theorem Nt.len {e:Nt} (ok:e.ok):e.x.length<=600:=by
 have l2:=join_le (sep:=Str.ofString ".") _ (Nt.le ok)
 have h5:(Str.ofString ".").length=1:=by decide +kernel
 rw [h5] at l2
 simp only [List.length_cons,List.length_nil] at l2
 unfold Nt.x
 omega
theorem mC.ext {H H':Hp} {v:V} {e:Nt} (h:mC K H v e) (x:Ext K H H'):mC K H' v e:=by
 obtain ⟨a,w,r,s,rfl,h1,h2,h3,h4⟩:=h
 exact ⟨a,w,r,s,rfl,x.tup h1,x.tup h2,x.tup h3,x.tup h4⟩
theorem qA.ext {H H':Hp} {v:V} {r:Row} (h:qA K H v r) (x:Ext K H H'):qA K H' v r:=by
 obtain ⟨t,rfl,h1,h2,h3⟩:=h
 exact ⟨t,rfl,x.tup h1,x.at h2,fun q hq=>let ⟨t,e,h⟩:=h3 q hq;⟨t,e,x.tup h⟩⟩
inductive Rm where
 | leaf (n:Int) (ra:Addr) (rows:List (V×Row))
 | inner (n:Int) (pa:Addr) (lq:List Int) (ca:Addr) (ch:List Int) (ta:Addr) (dB:List (V×Nt))
def dY (pl:Int->Int) (c:Int):Str:=aC c++Str.ofString "@"++aC (pl c)
def Rm.x (pl:Int->Int):Rm->Str
 | .leaf n _ rows=>Str.join (Str.ofString " ") [Str.ofString "leaf",aC n,bx (Str.ofString ";") (rows.map fun q=>gQ q.2.k (q.2.vs.map (·.2)))]
 | .inner n _ lq _ ch _ dB=>Str.join (Str.ofString " ") [Str.ofString "inner",aC n,bx (Str.ofString ",") (lq.map aC),bx (Str.ofString ",") (ch.map (dY pl)),bx (Str.ofString ";") (dB.map fun q=>q.2.x)]
def Rm.at (K:PySem.W.Frag) (H:Hp) (a:Addr):Rm->Prop
 | .leaf n ra rows=>tupQ K H a=some [.str "leaf",.int n,.ref ra]/\H ra=some (.lst (rows.map (·.1)))/\∀ q∈rows,qA K H q.1 q.2
 | .inner n pa lq ca ch ta dB=>tupQ K H a=some [.str "inner",.int n,.ref pa,.ref ca,.ref ta]/\H pa=some (.lst (lq.map V.int))/\H ca=some (.lst (ch.map V.int))/\H ta=some (.lst (dB.map (·.1)))/\∀ q∈dB,mC K H q.1 q.2
def Rm.ok (pl:Int->Int):Rm->Prop
 | .leaf n _ rows=>n.natAbs < 10 ^ 100/\(∀ q∈rows,wB q.2)/\rows.length<=26
 | .inner n _ lq _ ch _ dB=>n.natAbs < 10 ^ 100/\(∀ i∈lq,i.natAbs < 10 ^ 100)/\lq.length<=26/\(∀ c∈ch,c.natAbs < 10 ^ 100/\(pl c).natAbs < 10 ^ 100)/\ch.length<=26/\(∀ q∈dB,q.2.ok)/\dB.length<=26
def Rm.ch:Rm->List Int
 | .leaf _ _ _=>[]
 | .inner _ _ _ _ ch _ _=>ch
def Lv (H:Hp) (d:Addr) (pl:Int->Int) (ch:List Int):Prop:=∃ aO,H d=some (.dK aO)/\∀ c∈ch,gM aO (.inl c)=some (.int (pl c))
end
section
variable {P:Program} {w:World} {K:PySem.W.Frag} {mg:Str->Option Value} {base:Heap}
def L3 (x y z:Int):HO:=.lst [.int x,.int y,.int z]
def Wl (H:Hp) (p:Addr):Prop:=(∃ x,H p=some (.lst [.int x]))∨∃ x y z,H p=some (L3 x y z)
theorem Wl.ext {K:PySem.W.Frag} {H H':Hp} {p:Addr} (h:Wl H p) (x:Ext K H H'):Wl H' p:=by
 rcases h with ⟨u,h⟩ | ⟨u,v,z,h⟩
 . exact .inl ⟨u,x.at h⟩
 . exact .inr ⟨u,v,z,x.at h⟩
theorem Wl.ne {K:PySem.W.Frag} {H:Hp} {p b:Addr} (h:Wl H p) (n:new K H b):b≠p:=by
 rcases h with ⟨u,h⟩ | ⟨u,v,z,h⟩
 . exact (bq h n.1).symm
 . exact (bq h n.1).symm
theorem Wl.upd {H:Hp} {p b:Addr} {o:HO} (h:Wl H p) (n:p≠b):Wl (upd H b o) p:=by
 rcases h with ⟨u,h⟩ | ⟨u,v,z,h⟩
 . exact .inl ⟨u,by rw [aV n];exact h⟩
 . exact .inr ⟨u,v,z,by rw [aV n];exact h⟩
def Ba (K:PySem.W.Frag):Sp:=fun vs H Q _=>∃ (a:Addr) (ns:List Int) (k:Int),vs=[.ref a,.int k]/\aZ K H a (ns.map V.int)/\0<=k/\∀ n,Q (.int n) H
theorem sF:aD ["_law_script","_law_k"] ["_law_script","_law_k"] (af eV):=⟨rfl,rfl,rfl,by decide +kernel,rfl,by decide +kernel,by decide +kernel⟩
theorem sG {f:Addr} {fd:FuncData} (F:fh K "_law_cell_at" "_law_cell_at" eV f fd) {aG aP cF cR cN:Addr} {tE tF t1 t2 t3 t4:Tok} (B:B K mg aG aP cF cR cN tE tF t1 t2 t3 t4):bf P w K mg base eZ 1 f fd ["_law_script","_law_k"] (Ba K):=by
 refine F.gP sF (fun vs H Q E h=>?_) (fun cG A outer s H vs Q E hr h=>?_)
 . obtain ⟨a,ns,k,rfl,_⟩:=h
   rfl
 obtain ⟨a,ns,k,rfl,hs,h0,q⟩:=h
 refine ⟨_,(av (jD (cj BZ (ev 1) (aU lV rfl B.len dg (aa (ev 0) ai)) (aI _)) (aK (aW (iJ B7 (ev 0) (ev 1) (fun _ _=>rfl)))) cY)
     (aK (aW ei))),?_⟩
 simp_arith [M7]
 refine ⟨_,.inl hs,?_⟩
 refine gO (fun c=>?_) (fun c=>q 0)
 obtain ⟨v,e,m⟩:=AW h0 c
 obtain ⟨n,_,rfl⟩:=List.mem_map.mp m
 exact ⟨_,hs,_,e,q n⟩
def gF (K:PySem.W.Frag):Sp:=fun vs H Q _=>∃ p m,vs=[.ref p,.int m]/\Wl H p/\0 < m/\m < 10 ^ 100/\
 ∀ (r:Int) (H':Hp),0<=r->r < m->Wl H' p->Kp K p H H'->Q (.int r) H'
theorem gB:aD ["_law_state","_law_base","_law_cell","_law_found","_law_number_here"] ["_law_state","_law_base"] (af gc):=⟨rfl,rfl,rfl,by decide +kernel,rfl,by decide +kernel,by decide +kernel⟩
theorem vA {f:Addr} {fd:FuncData} (F:fh K "_law_digit" "_law_digit" gc f fd) {aG aP cF cR cN:Addr} {tE tF t1 t2 t3 t4:Tok} (B:B K mg aG aP cF cR cN tE tF t1 t2 t3 t4):bf P w K mg base eZ 1 f fd ["_law_state","_law_base"] (gF K):=by
 refine F.gP gB (fun vs H Q E h=>?_) (fun cG A outer s H vs Q E hr h=>?_)
 . obtain ⟨p,m,rfl,_⟩:=h
   rfl
 obtain ⟨p,m,rfl,hp,h0,h1,q⟩:=h
 refine ⟨_,(wX (jD (cj cS (aU bH rfl B.len dg (aa (ev 0) ai)) ei (aI _)) (av (sset (i:=2) gB.nd rfl (Or.inl rfl) (iJ ck (ev 0) ei (fun _ _=>rfl)))
     (av (i9 (iJ ck (bO (aa ei (aa (ev 2) ai))) (bR oq rfl B.int qW (aa (kW EI (ev 2) (ja 1000000000000000000) (aI _)) ai)) (fun _ _=>rfl)) (Ld (ev 0) ei set_list))
     (aK (jc (lA PySem.F.plainAttrs_list PySem.F.slot_list_extend PySem.F.type_list_extend Dd (ev 0) (aa (bO (aa (cT qU (ev 2) ei) (aa ei ai))) ai)))))) cY)
     (av (jD (cj MZ (iJ ck (ev 0) ei (fun _ _=>rfl)) ei (aI _)) (av (sset (i:=3) gB.nd rfl (Or.inl rfl) (cT qU (iJ ck (ev 0) ei (fun _ _=>rfl)) (ev 1)))
     (av (i9 (cT qh (iJ ck (ev 0) ei (fun _ _=>rfl)) (ev 1)) (Ld (ev 0) ei set_list))
     (aK (aW (ev 3))))) cY)
     (av (i9 (cT dD (iJ ck (ev 0) ei (fun _ _=>rfl)) ei) (Ld (ev 0) ei set_list))
     (av (sset (i:=4) gB.nd rfl (Or.inl rfl) (cT qU (cT t7 (cT dD (cT dD (iJ ck (ev 0) ei (fun _ _=>rfl)) (cT t7 ei (iJ ck (ev 0) ei (fun _ _=>rfl)))) ei) ei) ei))
     (av (sset (i:=4) gB.nd rfl (Or.inl rfl) (cT qU (cT t7 (ev 4) (cT dD (cT qh (ev 4) ei) ei)) ei))
     (aK (aW (cT qU (cT qU (cT t7 (ev 4) (cT dD (cT qh (ev 4) ei) ei)) ei) (ev 1))))))))),?_⟩
 obtain ⟨J,eJ⟩:∃ J:St->Hp->Prop,J=fun σ1 G1=>∃ (v2:Option V) (x y z:Int),σ1=[some (.ref p),some (.int m),v2,none,none]/\G1 p=some (L3 x y z)/\Kp K p H G1:=⟨_,rfl⟩
 refine ⟨J,?_,?_⟩
 . rcases hp with ⟨x,hp⟩ | ⟨x,y,z,hp⟩
   . simp_arith [hp,bC hp,qo]
     refine gO (fun _=>?_) (fun c=>absurd rfl c)
     intro b nb
     have ne:b≠p:=(bq hp nb.1).symm
     obtain ⟨v,ev⟩:∃ v:Int,uc [V.int 0,V.int x] (if 1000000000000000000<=x then 1 else 0)=some (.int v):=by split <;> exact ⟨_,rfl⟩
     have x1:=Ext.new (K:=K) (o:=.lst [.int 0,.int x]) nb
     have oX:=x1.at hp
     refine ⟨_,ev,_,oX,0,rfl,.inl ⟨_,aZ.of ah⟩,fun b2 nb2=>⟨_,by rw [aV nb2.1.symm];exact ah,by show 1<=16777214;decide,?_⟩⟩
     rw [eJ]
     have k2:Kp K p _ (upd (upd H b (.lst [.int 0,.int x])) p (.lst [.int v])):=Kp.upd oX
     have n2:new K (upd (upd H b (.lst [.int 0,.int x])) p (.lst [.int v])) b2:=⟨by rw [aV nb2.1,aV nb2.2.1];exact nb2.2.2.1,nb2.2.2.2⟩
     have x3:=Ext.new (K:=K) (o:=.lst [.int (x % 2147483647),.int 0]) n2
     exact ⟨_,v,_,_,rfl,ah,x1.kp.trans (k2.trans (x3.kp.trans (Kp.upd (x3.at ah))))⟩
   . unfold L3 at hp
     simp_arith [hp,bC hp,qo]
     refine gO (fun c=>absurd c (by decide)) (fun _=>?_)
     rw [eJ]
     exact ⟨_,_,_,_,rfl,hp,Kp.refl⟩
 intro σ1 G1 h
 rw [eJ] at h
 clear eJ
 obtain ⟨v2,x,y,z,rfl,hp,k⟩:=h
 unfold L3 at hp
 simp_arith [hp,bC hp,qo]
 have g:∀ (u v z:Int),Kp K p H (upd G1 p (L3 u v z)):=fun u v z=>k.trans (Kp.upd hp)
 refine gO (fun c=>⟨h0,h0,by omega,?_⟩) (fun c=>?_)
 . exact q _ _ (Int.emod_nonneg _ (by omega)) (Int.emod_lt_of_pos _ h0) (.inr ⟨_,_,_,ah⟩) (g _ _ _)
 . refine ⟨?_,?_,h0,q _ _ (Int.emod_nonneg _ (by omega)) (Int.emod_lt_of_pos _ h0) (.inr ⟨_,_,_,ah⟩) (g _ _ _)⟩
   all_goals omega
theorem Wl.lst {H:Hp} {p:Addr} (h:Wl H p):∃ xs,H p=some (.lst xs):=by
 rcases h with ⟨u,h⟩ | ⟨u,v,z,h⟩
 . exact ⟨_,h⟩
 . exact ⟨_,h⟩
theorem Wl.back {K:PySem.W.Frag} {H H':Hp} {p r:Addr} (h:Wl H' p) (k:Kp K p H H') (n:H' r=none):H r=none:=by
 by_cases e:H r=none
 . exact e
 . obtain ⟨o,ho⟩:=Option.ne_none_iff_exists'.1 e
   have ne:r≠p:=fun e=>by
     obtain ⟨xs,hx⟩:=h.lst
     rw [<- e,n] at hx
     cases hx
   have:=k.keep r o ho ne
   rw [n] at this
   cases this
theorem lG.kp {K:PySem.W.Frag} {H H':Hp} {u:V} {q:Int×Option Int} {p:Addr} {xs:List V} (h:lG K H u q) (k:Kp K p H H') (hp:H p=some (.lst xs)):lG K H' u q:=by
 obtain ⟨t,e,ht⟩:=h
 exact ⟨t,e,k.tup hp ht⟩
theorem lG.ext {K:PySem.W.Frag} {H H':Hp} {u:V} {q:Int×Option Int} (h:lG K H u q) (x:Ext K H H'):lG K H' u q:=by
 obtain ⟨t,e,ht⟩:=h
 exact ⟨t,e,x.tup ht⟩
theorem o9 (ns:List Int) {i:Int} (h0:0<=i) (h1:i < ns.length):∃ n,n∈ns/\uc (ns.map V.int) i=some (.int n):=by
 obtain ⟨v,ev,mv⟩:=AW (xs:=ns.map V.int) h0 (by rw [List.length_map];exact h1)
 obtain ⟨n,hn,rfl⟩:=List.mem_map.1 mv
 exact ⟨n,hn,ev⟩
def nI (K:PySem.W.Frag):Sp:=fun vs H Q _=>∃ p,vs=[.ref p]/\Wl H p/\∀ (i:Int) (H':Hp),i.natAbs < 10 ^ 60->Wl H' p->Kp K p H H'->Q (.int i) H'
theorem fP:aD ["_law_state","_law_way","_law_found"] ["_law_state"] (af fC):=⟨rfl,rfl,rfl,by decide +kernel,rfl,by decide +kernel,by decide +kernel⟩
theorem uK {f:Addr} {fd:FuncData} (F:fh K "_law_number" "_law_number" fC f fd) {aG aP cF cR cN:Addr} {tE tF t1 t2 t3 t4:Tok} (B:B K mg aG aP cF cR cN tE tF t1 t2 t3 t4) (aj:Callee P w K mg base "_law_digit" 1 ["_law_state","_law_base"] (gF K)):bf P w K mg base eZ 2 f fd ["_law_state"] (nI K):=by
 refine F.gP fP (fun vs H Q E h=>?_) (fun cG A outer s H vs Q E hr h=>?_)
 . obtain ⟨p,rfl,_⟩:=h
   rfl
 obtain ⟨p,rfl,hp,q⟩:=h
 refine ⟨_,(av (sset (i:=1) fP.nd rfl (Or.inl rfl) (au aj (hr.mono (by decide)) rfl (aa (ev 0) (aa ei ai))))
     (av (sset (i:=2) fP.nd rfl (Or.inl rfl) (au aj (hr.mono (by decide)) rfl (aa (ev 0) (aa (iJ ck (bO (aa ei (aa ei (aa (ja 1000000000) (aa (ja 1000000000000000000000000000000) (aa (ja 1000000000000000000000000000000000000000000000000000000000000) (aa (ja 1000000000) ai))))))) (ev 1) (fun _ _=>rfl)) ai))))
     (wX (jD (cj cS (ev 1) ei (aI _)) (aK (sset (i:=2) fP.nd rfl (Or.inl rfl) (cT iK (cT iK (ja 1000000000000000000000000000000000000000000000000000000000000) ei) (ev 2)))) cY)
     (wX (jD (cj cS (au aj (hr.mono (by decide)) rfl (aa (ev 0) (aa ei ai))) ei (aI _)) (aK (sset (i:=2) fP.nd rfl (Or.inl rfl) (cT iK ei (ev 2)))) cY)
     (aK (aW (ev 2))))))),?_⟩
 try walk_at "rn"
 refine ⟨p,6,rfl,hp,by decide,by decide,fun w H1 w0 w1 oX k1=>?_⟩
 try walk_at "rn"
 intro D nD
 obtain ⟨n,hn,en⟩:=o9 [1,10,10 ^ 9,10 ^ 30,10 ^ 60,10 ^ 9] (i:=w) w0 w1
 have bn:0 < n/\n<=10 ^ 60:=by
   simp only [List.mem_cons,List.not_mem_nil,or_false] at hn
   rcases hn with rfl | rfl | rfl | rfl | rfl | rfl <;> exact ⟨by decide,by decide⟩
 have x1:=Ext.new (K:=K) (o:=.lst [V.int 1,V.int 10,V.int 1000000000,V.int 1000000000000000000000000000000,V.int 1000000000000000000000000000000000000000000000000000000000000,V.int 1000000000]) nD
 refine ⟨_,en,p,n,rfl,oX.ext x1,bn.1,by omega,fun j H2 j0 j1 j7 k2=>?_⟩
 have NP:=k1.trans (x1.kp.trans k2)
 obtain ⟨J,eJ⟩:∃ J:St->Hp->Prop,J=fun σ1 G1=>∃ j:Int,σ1=[some (.ref p),some (.int w),some (.int j)]/\j.natAbs < 10 ^ 60/\Wl G1 p/\Kp K p H G1:=⟨_,rfl⟩
 refine ⟨J,?_,?_⟩
 . try walk_at "rn"
   refine gO (fun c=>?_) (fun c=>?_)
   . rw [eJ]
     subst c
     have:n=10 ^ 9:=by
       have e:uc ([1,10,10 ^ 9,10 ^ 30,10 ^ 60,10 ^ 9].map V.int) 5=some (.int (10 ^ 9)):=rfl
       rw [e] at en
       injection en with en
       injection en with en
       exact en.symm
     exact ⟨_,rfl,by omega,j7,NP⟩
   . rw [eJ]
     exact ⟨j,rfl,by omega,j7,NP⟩
 intro σ1 G1 h
 rw [eJ] at h
 clear eJ
 obtain ⟨j,rfl,jb,hp3,k3⟩:=h
 obtain ⟨J,eJ⟩:∃ J:St->Hp->Prop,J=fun σ1 G1=>∃ j:Int,σ1=[some (.ref p),some (.int w),some (.int j)]/\j.natAbs < 10 ^ 60/\Wl G1 p/\Kp K p H G1:=⟨_,rfl⟩
 refine ⟨J,?_,?_⟩
 . try walk_at "rn"
   refine ⟨p,2,rfl,hp3,by decide,by decide,fun r H4 r0 r1 rW k4=>?_⟩
   try walk_at "rn"
   refine gO (fun c=>?_) (fun c=>?_)
   . rw [eJ]
     exact ⟨_,rfl,by omega,rW,k3.trans k4⟩
   . rw [eJ]
     exact ⟨_,rfl,jb,rW,k3.trans k4⟩
 intro σ1 G1 h
 rw [eJ] at h
 clear eJ
 obtain ⟨j,rfl,jb,hp3,k3⟩:=h
 try walk_at "rn"
 exact q _ _ jb hp3 k3
def oE (K:PySem.W.Frag):Sp:=fun vs H Q _=>∃ p,vs=[.ref p]/\Wl H p/\∀ (i:Int) (H':Hp),0<=i->i < 10 ^ 59->Wl H' p->Kp K p H H'->Q (.int i) H'
theorem vB:aD ["_law_state"] ["_law_state"] (af gf):=⟨rfl,rfl,rfl,by decide +kernel,rfl,by decide +kernel,by decide +kernel⟩
theorem vC {f:Addr} {fd:FuncData} (F:fh K "_law_first" "_law_first" gf f fd) {aG aP cF cR cN:Addr} {tE tF t1 t2 t3 t4:Tok} (B:B K mg aG aP cF cR cN tE tF t1 t2 t3 t4) (aj:Callee P w K mg base "_law_digit" 1 ["_law_state","_law_base"] (gF K)):bf P w K mg base eZ 2 f fd ["_law_state"] (oE K):=by
 refine F.gP vB (fun vs H Q E h=>?_) (fun cG A outer s H vs Q E hr h=>?_)
 . obtain ⟨p,rfl,_⟩:=h
   rfl
 obtain ⟨p,rfl,hp,q⟩:=h
 refine ⟨_,(aK (aW (au aj (hr.mono (by decide)) rfl (aa (ev 0) (aa (iJ ck (bO (aa ei (aa ei (aa (ja 1000000000000) (aa (ja 100000000000000000000000000000000000000000000000000000000000) ai))))) (au aj (hr.mono (by decide)) rfl (aa (ev 0) (aa ei ai))) (fun _ _=>rfl)) ai))))),?_⟩
 try walk_at "rn"
 intro D nD
 have x1:=Ext.new (K:=K) (o:=.lst [V.int 1,V.int 10,V.int 1000000000000,V.int 100000000000000000000000000000000000000000000000000000000000]) nD
 refine ⟨p,4,rfl,hp.ext x1,by decide,by decide,fun d H2 d0 d1 j7 k2=>?_⟩
 simp_arith [bC (k2.keep D _ ah (hp.ne nD))]
 obtain ⟨n,hn,en⟩:=o9 [1,10,10 ^ 12,10 ^ 59] (i:=d) d0 d1
 have bn:0 < n/\n<=10 ^ 59:=by
   simp only [List.mem_cons,List.not_mem_nil,or_false] at hn
   rcases hn with rfl | rfl | rfl | rfl <;> exact ⟨by decide,by decide⟩
 exact ⟨_,en,p,n,rfl,j7,bn.1,by omega,fun j H3 j0 j1 hp3 k3=>q _ _ j0 (by omega) hp3 (x1.kp.trans (k2.trans k3))⟩
def lH (K:PySem.W.Frag):Sp:=fun vs H Q _=>∃ (p:Addr) (n:Nat) (i:Int),vs=[.ref p,.int n,.int i]/\Wl H p/\n<=60/\0<=i/\i<=10 ^ 59/\
 ∀ (r:Addr) (ns:List Int) (H':Hp),H' r=some (.lst (ns.map V.int))->ns.length=n->(∀ j∈ns,i<=j/\j < i + 10 ^ 11)->ns.Pairwise (· < ·)->H r=none->Wl H' p->Kp K p H H'->Q (.ref r) H'
theorem fQ:aD ["_law_state","_law_many","_law_first_here","_law_step","_law_found","_law_k"] ["_law_state","_law_many","_law_first_here"] (af fD):=⟨rfl,rfl,rfl,by decide +kernel,rfl,by decide +kernel,by decide +kernel⟩
theorem uL {f:Addr} {fd:FuncData} (F:fh K "_law_rising" "_law_rising" fD f fd) {aG aP cF cR cN:Addr} {tE tF t1 t2 t3 t4:Tok} (B:B K mg aG aP cF cR cN tE tF t1 t2 t3 t4) (aj:Callee P w K mg base "_law_digit" 1 ["_law_state","_law_base"] (gF K)):bf P w K mg base eZ 2 f fd ["_law_state","_law_many","_law_first_here"] (lH K):=by
 refine F.gP fQ (fun vs H Q E h=>?_) (fun cG A outer s H vs Q E hr h=>?_)
 . obtain ⟨p,n,i,rfl,_⟩:=h
   rfl
 obtain ⟨p,n,i,rfl,hp,n60,i0,i1,q⟩:=h
 refine ⟨_,(av (sset (i:=3) fQ.nd rfl (Or.inl rfl) (iJ ck (bO (aa ei (aa ei (aa (ja 1000000000) ai)))) (au aj (hr.mono (by decide)) rfl (aa (ev 0) (aa ei ai))) (fun _ _=>rfl)))
     (av (sset (i:=4) fQ.nd rfl (Or.inl rfl) (bO ai))
     (av (um PassesOwn.never rfl (qk rfl B.range (aa (ev 1) ai)) (aA (i:=5) fQ.nd rfl (Or.inl rfl))
       (av (jc (lA PySem.F.plainAttrs_list PySem.F.slot_list_append PySem.F.type_list_append bX (ev 4) (aa (ev 2) ai)))
     (aK (sset (i:=2) fQ.nd rfl (Or.inl rfl) (cT dD (cT dD (ev 2) ei) (au aj (hr.mono (by decide)) rfl (aa (ev 0) (aa (ev 3) ai))))))))
     (aK (aW (ev 4)))))),?_⟩
 try walk_at "rn"
 intro D nD
 have x1:=Ext.new (K:=K) (o:=.lst [V.int 1,V.int 7,V.int 1000000000]) nD
 refine ⟨p,3,rfl,hp.ext x1,by decide,by decide,fun d H2 d0 d1 j7 k2=>?_⟩
 simp_arith [bC (k2.keep D _ ah (hp.ne nD))]
 obtain ⟨m,hm,em⟩:=o9 [1,7,10 ^ 9] (i:=d) d0 d1
 have bm:0 < m/\m<=10 ^ 9:=by
   simp only [List.mem_cons,List.not_mem_nil,or_false] at hm
   rcases hm with rfl | rfl | rfl <;> exact ⟨by decide,by decide⟩
 refine ⟨_,em,fun R nR=>⟨by omega,by omega,?_⟩⟩
 have Cy:R≠p:=j7.ne nR
 have NP:=x1.kp.trans k2
 refine lW (fun k σ H'=>∃ (v5:Option V) (i':Int) (ns:List Int),σ=[some (.ref p),some (.int n),some (.int i'),some (.int m),some (.ref R),v5]/\H' R=some (.lst (ns.map V.int))/\ns.length=k/\(∀ j∈ns,i<=j/\j < i')/\ns.Pairwise (· < ·)/\i<=i'/\i'<=i + k * (10 ^ 9 + 1)/\Wl H' p/\j5 K p R (upd H2 R (.lst [])) H') ⟨_,i,[],rfl,ah,rfl,(fun _ h=>by cases h),.nil,by omega,by omega,j7.upd Cy.symm,j5.refl⟩ ?_ ?_
 . rintro k σ H3 hk ⟨v5,i',ns,rfl,hR,ln,hb,pw,i3,i4,hp3,k3⟩
   try walk_at "rn"
   have Mt:k < n:=by simpa using hk
   refine ⟨.inl ⟨_,aZ.of hR⟩,_,hR,by rw [List.length_map];omega,?_⟩
   have hR4:(upd H3 R (.lst (ns.map V.int++[.int i']))) R=some (.lst ((ns++[i']).map V.int)):=by rw [ah,List.map_append];rfl
   refine ⟨p,m,rfl,hp3.upd Cy.symm,bm.1,by omega,fun d H5 d0 d1 uM k5=>?_⟩
   try walk_at "rn"
   refine ⟨ns++[i'],k5.keep R _ hR4 Cy,by rw [List.length_append,ln];rfl,?_,?_,by omega,?_,uM,k3.trans ((Kp.r (Kp.upd hR)).trans k5.l)⟩
   . intro j hj
     rcases List.mem_append.1 hj with h | h
     . have:=hb j h
       omega
     . rw [List.mem_singleton] at h
       omega
   . rw [List.pairwise_append]
     refine ⟨pw,List.pairwise_singleton _ _,fun a ha b hb'=>?_⟩
     rw [List.mem_singleton] at hb'
     have:=hb a ha
     omega
   . rw [Int.natCast_add]
     omega
 . rintro σ H3 ⟨v5,i',ns,rfl,hR,ln,hb,pw,i3,i4,hp3,k3⟩
   try walk_at "rn"
   have e:(n:Int).toNat=n:=rfl
   refine q R ns H3 hR ?_ ?_ pw ?_ hp3 (NP.trans (k3.kp nR))
   . simpa using ln
   . intro j hj
     have h1:=hb j hj
     rw [e] at i4
     have h2:(n:Int) * (10 ^ 9 + 1)<=60 * (10 ^ 9 + 1):=by omega
     omega
   . by_cases h:H R=none
     . exact h
     . obtain ⟨o,ho⟩:=Option.ne_none_iff_exists'.1 h
       have:=NP.keep R o ho Cy
       rw [nR.1] at this
       cases this
def Bb (K:PySem.W.Frag):Sp:=fun vs H Q _=>∃ (p:Addr) (n:Nat),vs=[.ref p,.int n]/\Wl H p/\n<=60/\
 ∀ (r:Addr) (ns:List Int) (H':Hp),H' r=some (.lst (ns.map V.int))->ns.length=n->(∀ j∈ns,0<=j/\j < 10 ^ 12)->ns.Pairwise (· < ·)->H r=none->Wl H' p->Kp K p H H'->Q (.ref r) H'
theorem jH:aD ["_law_state","_law_many","_law_way","_law_first_here","_law_keys_here"] ["_law_state","_law_many"] (af iC):=⟨rfl,rfl,rfl,by decide +kernel,rfl,by decide +kernel,by decide +kernel⟩
theorem xZ {f:Addr} {fd:FuncData} (F:fh K "_law_keys" "_law_keys" iC f fd) {aG aP cF cR cN:Addr} {tE tF t1 t2 t3 t4:Tok} (B:B K mg aG aP cF cR cN tE tF t1 t2 t3 t4) (aj:Callee P w K mg base "_law_digit" 1 ["_law_state","_law_base"] (gF K)) (bg:Callee P w K mg base "_law_rising" 2 ["_law_state","_law_many","_law_first_here"] (lH K)):bf P w K mg base eZ 3 f fd ["_law_state","_law_many"] (Bb K):=by
 refine F.gP jH (fun vs H Q E h=>?_) (fun cG A outer s H vs Q E hr h=>?_)
 . obtain ⟨p,n,rfl,_⟩:=h
   rfl
 obtain ⟨p,n,rfl,hp,n60,q⟩:=h
 refine ⟨_,(av (sset (i:=2) jH.nd rfl (Or.inl rfl) (au aj (hr.mono (by decide)) rfl (aa (ev 0) (aa ei ai))))
     (av (sset (i:=3) jH.nd rfl (Or.inl rfl) (au aj (hr.mono (by decide)) rfl (aa (ev 0) (aa (iJ ck (bO (aa ei (aa (ja 1000000) (aa (cT t7 ei (ja 100000000000)) (aa ei ai))))) (ev 2) (fun _ _=>rfl)) ai))))
     (av (sset (i:=4) jH.nd rfl (Or.inl rfl) (au bg (hr.mono (by decide)) rfl (aa (ev 0) (aa (ev 1) (aa (ev 3) ai)))))
     (av (jD (cj cS (au aj (hr.mono (by decide)) rfl (aa (ev 0) (aa ei ai))) ei (aI _)) (aK (aW (rz (jO.mk (N:=["_law_key"]) (src:=[none]) rfl rfl) rfl (cI (S1 (ev 4))) (fun _ _ _ _=>(aA (i:=0) (show (["_law_key"]:List Str).Nodup from by decide +kernel) rfl (Or.inl rfl))) (fun _ _ _ _=>cU) (fun _ _ _ _=>(cT iK (cT iK (ja 1000000000000) ei) (ev 0)))))) cY)
     (aK (aW (ev 4))))))),?_⟩
 try walk_at "rn"
 refine ⟨p,4,rfl,hp,by decide,by decide,fun w H1 w0 w1 oX k1=>?_⟩
 try walk_at "rn"
 intro D nD
 have x1:=Ext.new (K:=K) (o:=.lst [V.int 1,V.int 1000000,V.int 900000000000,V.int 10]) nD
 obtain ⟨m,hm,em⟩:=o9 [1,10 ^ 6,9 * 10 ^ 11,10] (i:=w) w0 w1
 have bm:0 < m/\m<=9 * 10 ^ 11:=by
   simp only [List.mem_cons,List.not_mem_nil,or_false] at hm
   rcases hm with rfl | rfl | rfl | rfl <;> exact ⟨by decide,by decide⟩
 refine ⟨_,em,p,m,rfl,oX.ext x1,bm.1,by omega,fun d H2 d0 d1 j7 k2=>?_⟩
 try walk_at "rn"
 refine ⟨p,n,d,rfl,j7,n60,d0,by omega,fun r ns H3 hr3 ln hb pw nr hp3 k3=>?_⟩
 have JN:=k1.trans (x1.kp.trans (k2.trans k3))
 have nrH:H r=none:=j7.back (k1.trans (x1.kp.trans k2)) nr
 have ner:r≠p:=fun e=>by
   subst e
   rcases j7 with ⟨_,h⟩ | ⟨_,_,_,h⟩ <;> rw [nr] at h <;> cases h
 try walk_at "rn"
 refine ⟨p,3,rfl,hp3,by decide,by decide,fun c H4 c0 c1 rW k4=>?_⟩
 have NQ:=k4.keep r _ hr3 ner
 try walk_at "rn"
 refine gO (fun e=>?_) (fun e=>?_)
 . try walk_at "rn"
   refine ⟨_,aZ.of NQ,fun b nb=>⟨⟨_,aZ.of ah⟩,fun D2 nD2=>?_⟩⟩
   have xb:=Ext.new (K:=K) (o:=.lst (ns.map V.int).reverse) nb
   have eb:(upd H4 b (.lst (ns.map V.int).reverse)) b=some (.lst (ns.reverse.map V.int)):=by rw [ah,List.map_reverse]
   have uM:=rW.ext xb
   have Hw:=JN.trans (k4.trans xb.kp)
   refine oB (L:=ns.reverse) (f:=V.int) (g:=fun k=>V.int (1000000000000 - 1 - k)) eb nD2 (by rw [List.length_reverse];omega) (fun k hk H' Q' xx qq=>?_) (fun H6 hD x6=>?_)
   . try walk_at "rn"
     exact qq
   have e2:(ns.reverse.map fun k=>V.int (1000000000000 - 1 - k))=(ns.reverse.map fun k=>1000000000000 - 1 - k).map V.int:=by rw [List.map_map];rfl
   rw [e2] at hD
   refine q D2 _ H6 hD (by rw [List.length_map,List.length_reverse];exact ln) ?_ ?_ (uM.back Hw nD2.1) (uM.ext x6) (Hw.trans x6.kp)
   . intro j hj
     obtain ⟨k,hk,rfl⟩:=List.mem_map.1 hj
     have:=hb k (List.mem_reverse.1 hk)
     omega
   . rw [List.pairwise_map,List.pairwise_reverse]
     exact pw.imp fun h=>by omega
 . exact q r ns H4 NQ ln (fun j hj=>by have:=hb j hj;omega) pw nrH rW (JN.trans k4)
def Bc (K:PySem.W.Frag):Sp:=fun vs H Q _=>∃ (p:Addr) (m:Int),vs=[.ref p,.int m]/\Wl H p/\0 < m/\m<=26/\∀ (i:Int) (H':Hp),0<=i->i < 26->Wl H' p->Kp K p H H'->Q (.int i) H'
theorem ya:aD ["_law_state","_law_most"] ["_law_state","_law_most"] (af iD):=⟨rfl,rfl,rfl,by decide +kernel,rfl,by decide +kernel,by decide +kernel⟩
theorem yb {f:Addr} {fd:FuncData} (F:fh K "_law_some" "_law_some" iD f fd) {aG aP cF cR cN:Addr} {tE tF t1 t2 t3 t4:Tok} (B:B K mg aG aP cF cR cN tE tF t1 t2 t3 t4) (aj:Callee P w K mg base "_law_digit" 1 ["_law_state","_law_base"] (gF K)):bf P w K mg base eZ 2 f fd ["_law_state","_law_most"] (Bc K):=by
 refine F.gP ya (fun vs H Q E h=>?_) (fun cG A outer s H vs Q E hr h=>?_)
 . obtain ⟨p,m,rfl,_⟩:=h
   rfl
 obtain ⟨p,m,rfl,hp,m0,m1,q⟩:=h
 refine ⟨_,(aK (aW (au aj (hr.mono (by decide)) rfl (aa (ev 0) (aa (iJ ck (bO (aa ei (aa ei (aa ei (aa ei (aa ei (aa ei (aa ei (aa (ev 1) ai))))))))) (au aj (hr.mono (by decide)) rfl (aa (ev 0) (aa ei ai))) (fun _ _=>rfl)) ai))))),?_⟩
 try walk_at "rn"
 intro D nD
 have x1:=Ext.new (K:=K) (o:=.lst [V.int 1,V.int 4,V.int 4,V.int 4,V.int 4,V.int 4,V.int 7,V.int m]) nD
 refine ⟨p,8,rfl,hp.ext x1,by decide,by decide,fun d H2 d0 d1 j7 k2=>?_⟩
 simp_arith [bC (k2.keep D _ ah (hp.ne nD))]
 obtain ⟨n,hn,en⟩:=o9 [1,4,4,4,4,4,7,m] (i:=d) d0 d1
 have bn:0 < n/\n<=26:=by
   simp only [List.mem_cons,List.not_mem_nil,or_false] at hn
   rcases hn with rfl | rfl | rfl | rfl | rfl | rfl | rfl | rfl <;> omega
 exact ⟨_,en,p,n,rfl,j7,bn.1,by omega,fun j H3 j0 j1 hp3 k3=>q _ _ j0 (by omega) hp3 (x1.kp.trans (k2.trans k3))⟩
theorem zY {H5 H7:Hp} {p R t:Addr} {L:List (V×(Int×Option Int))} {i:Int} {o:Option Int} (Lw:H7 R=some (.lst (L.map (·.1)))) (nt:new K H7 t) (hL:∀ q∈L,lG K H7 q.1 q.2/\rV q.2) (ok:rV (i,o)) (Eg:Wl H7 p) (Cy:R≠p) (k7:j5 K p R H5 H7):
   (∀ q∈L++[(V.ref t,(i,o))],lG K (upd (upd H7 t (.tup [.int i,oV o])) R (.lst (L.map (·.1)++[.ref t]))) q.1 q.2/\rV q.2)/\Wl (upd (upd H7 t (.tup [.int i,oV o])) R (.lst (L.map (·.1)++[.ref t]))) p/\j5 K p R H5 (upd (upd H7 t (.tup [.int i,oV o])) R (.lst (L.map (·.1)++[.ref t]))):=by
 have xt:=Ext.new (K:=K) (o:=.tup [.int i,oV o]) nt
 have Mu:=xt.at Lw
 have kR:Kp K R _ (upd (upd H7 t (.tup [.int i,oV o])) R (.lst (L.map (·.1)++[.ref t]))):=Kp.upd Mu
 refine ⟨fun q hq=>?_,(Eg.ext xt).upd Cy.symm,k7.trans ((xt.kp (p:=p)).l.trans (Kp.r kR))⟩
 rcases List.mem_append.1 hq with h | h
 . exact ⟨((hL q h).1.ext xt).kp kR Mu,(hL q h).2⟩
 . rw [List.mem_singleton] at h
   subst h
   exact ⟨⟨t,rfl,kR.tup Mu aN⟩,ok⟩
def Lx (q:Int×Option Int):Prop:=q.1.natAbs < 10 ^ 60/\∀ i,q.2=some i->i.natAbs < 10 ^ 60
theorem Cz {L:List (V×(Int×Option Int))} {x:V×(Int×Option Int)} (h:∀ q∈L,Lx q.2) (g:Lx x.2):∀ q∈L++[x],Lx q.2:=fun q m=>by
 rcases List.mem_append.1 m with m | m
 . exact h q m
 . rw [List.mem_singleton] at m
   rw [m]
   exact g
def pR (K:PySem.W.Frag):Sp:=fun vs H Q _=>∃ (p:Addr) (m:Int),vs=[.ref p,.int m]/\Wl H p/\3<=m/\m<=26/\
 ∀ (a:Addr) (L:List (V×(Int×Option Int))) (H':Hp),H' a=some (.lst (L.map (·.1)))->(∀ q∈L,lG K H' q.1 q.2/\rV q.2)->(∀ q∈L,0<=q.2.1/\Lx q.2)->(L.map fun q=>q.2.1).Pairwise (· < ·)->0 < L.length->L.length<=8->Wl H' p->Kp K p H H'->H a=none->Q (.ref a) H'
theorem gi:aD ["_law_state","_law_most","_law_found","_law_many","_law_number_here"] ["_law_state","_law_most"] (af dI):=⟨rfl,rfl,rfl,by decide +kernel,rfl,by decide +kernel,by decide +kernel⟩
theorem rL {f:Addr} {fd:FuncData} (F:fh K "_law_versions" "_law_versions" dI f fd) {aG aP cF cR cN:Addr} {tE tF t1 t2 t3 t4:Tok} (B:B K mg aG aP cF cR cN tE tF t1 t2 t3 t4) (aj:Callee P w K mg base "_law_digit" 1 ["_law_state","_law_base"] (gF K)) (bg:Callee P w K mg base "_law_rising" 2 ["_law_state","_law_many","_law_first_here"] (lH K)) (aY:Callee P w K mg base "_law_first" 2 ["_law_state"] (oE K)) (bD:Callee P w K mg base "_law_number" 2 ["_law_state"] (nI K)):bf P w K mg base eZ 3 f fd ["_law_state","_law_most"] (pR K):=by
 refine F.gP gi (fun vs H Q E h=>?_) (fun cG A outer s H vs Q E hr h=>?_)
 . obtain ⟨p,m,rfl,_⟩:=h
   rfl
 obtain ⟨p,m,rfl,hp,m0,m1,q⟩:=h
 refine ⟨_,(av (sset (i:=2) gi.nd rfl (Or.inl rfl) (bO ai))
     (av (sset (i:=3) gi.nd rfl (Or.inl rfl) (cT dD ei (au aj (hr.mono (by decide)) rfl (aa (ev 0) (aa (iJ ck (bO (aa ei (aa ei (aa ei (aa (cT qh (ev 1) ei) ai))))) (au aj (hr.mono (by decide)) rfl (aa (ev 0) (aa ei ai))) (fun _ _=>rfl)) ai)))))
     (av (um PassesOwn.never rfl (cI (au bg (hr.mono (by decide)) rfl (aa (ev 0) (aa (ev 3) (aa (au aY (hr.mono (by decide)) rfl (aa (ev 0) ai)) ai))))) (aA (i:=4) gi.nd rfl (Or.inl rfl))
       (aK (jD (cj cS (au aj (hr.mono (by decide)) rfl (aa (ev 0) (aa ei ai))) ei (aI _)) (aK (jc (lA PySem.F.plainAttrs_list PySem.F.slot_list_append PySem.F.type_list_append bX (ev 2) (aa (dN (aa (ev 4) (aa i8 ai))) ai)))) (aK (jc (lA PySem.F.plainAttrs_list PySem.F.slot_list_append PySem.F.type_list_append bX (ev 2) (aa (dN (aa (ev 4) (aa (au bD (hr.mono (by decide)) rfl (aa (ev 0) ai)) ai))) ai)))))))
     (aK (aW (ev 2)))))),?_⟩
 try walk_at "rn"
 intro R nR D nD
 have xR:=Ext.new (K:=K) (o:=.lst []) nR
 have x1:=Ext.new (K:=K) (o:=.lst [V.int 1,V.int 2,V.int 3,V.int (m / 3)]) nD
 have hpR:=hp.ext xR
 have Cy:R≠p:=hp.ne nR
 refine ⟨p,4,rfl,hpR.ext x1,by decide,by decide,fun d H2 d0 d1 j7 k2=>?_⟩
 simp_arith [bC (k2.keep D _ ah (hpR.ne nD))]
 obtain ⟨c,hc,ec⟩:=o9 [1,2,3,m / 3] (i:=d) d0 d1
 have bc:0 < c/\c<=8:=by
   simp only [List.mem_cons,List.not_mem_nil,or_false] at hc
   rcases hc with rfl | rfl | rfl | rfl <;> omega
 refine ⟨_,ec,p,c,rfl,j7,bc.1,by omega,fun j H3 j0 j1 hp3 k3=>?_⟩
 try walk_at "rn"
 refine ⟨p,rfl,hp3,fun i H4 i0 i1 rW k4=>?_⟩
 obtain ⟨n,en⟩:=Int.eq_ofNat_of_zero_le (a:=1 + j) (by omega)
 refine ⟨p,n,i,by rw [en],rW,by omega,i0,Int.le_of_lt i1,fun a ns H5 ha ln hb pw na uM k5=>?_⟩
 have Ly:=x1.kp.trans (k2.trans (k3.trans (k4.trans k5)))
 have hR5:H5 R=some (.lst []):=Ly.keep R _ ah Cy
 try walk_at "rn"
 refine ⟨⟨_,aZ.of ha⟩,?_⟩
 have Te:a≠R:=fun e=>by
   subst e
   have:=(k2.trans (k3.trans k4)).keep a _ (x1.at ah) Cy
   rw [na] at this
   cases this
 have Tf:a≠p:=fun e=>by
   subst e
   obtain ⟨xs,hx⟩:=rW.lst
   rw [na] at hx
   cases hx
 refine jN (xs:=ns.map V.int) (fun k σ H'=>∃ (v4:Option V) (L:List (V×(Int×Option Int))),σ=[some (.ref p),some (.int m),some (.ref R),some (.int (1 + j)),v4]/\H' R=some (.lst (L.map (·.1)))/\L.length=k/\(∀ q∈L,lG K H' q.1 q.2/\rV q.2)/\(∀ q∈L,Lx q.2)/\(L.map fun q=>q.2.1)=ns.take k/\Wl H' p/\j5 K p R H5 H') ⟨_,[],rfl,hR5,rfl,(fun _ h=>by cases h),(fun _ h=>by cases h),rfl,uM,j5.refl⟩ ?_ ?_ ?_
 . rintro k σ H' _ ⟨_,_,_,_,_,_,_,_,_,kk⟩
   exact aZ.of (kk.keep a _ ha Tf Te)
 . rintro k x σ H' hx ⟨v4,L,rfl,hR,lL,hL,hS,hT,hp6,k6⟩
   rw [List.getElem?_map] at hx
   obtain ⟨i',Mv,rfl⟩:=Option.map_eq_some_iff.mp hx
   have hk:k < ns.length:=(List.getElem?_eq_some_iff.1 Mv).1
   have bi:=hb i' (List.mem_of_getElem? Mv)
   have NK:∀ (v:V) (o:Option Int),((L++[(v,(i',o))]).map fun q=>q.2.1)=ns.take (k + 1):=fun v o=>by
     rw [List.map_append,hT,List.take_add_one,Mv]
     rfl
   try walk_at "rn"
   refine ⟨p,3,rfl,hp6,by decide,by decide,fun c H7 c0 c1 Eg k7=>?_⟩
   have Lw:=k7.keep R _ hR Cy
   obtain ⟨xs6,hx6⟩:=hp6.lst
   try walk_at "rn"
   refine gO (fun _=>?_) (fun _=>?_)
   . refine ⟨.inl ⟨_,aZ.of Lw⟩,fun t nt=>?_⟩
     have xt:=Ext.new (K:=K) (o:=.tup [.int i',.cQ]) nt
     obtain ⟨a1,a2,a3⟩:=zY (K:=K) (i:=i') (o:=none) Lw nt (fun q hq=>⟨(hL q hq).1.kp k7 hx6,(hL q hq).2⟩) ⟨by show i'.natAbs < _;omega,fun _ h=>by cases h⟩ Eg Cy (k6.trans k7.l)
     exact ⟨_,xt.at Lw,by rw [List.length_map];omega,L++[(V.ref t,(i',none))],by rw [List.map_append];rfl,by rw [List.length_append,lL];rfl,a1,Cz hS ⟨by show i'.natAbs < _;omega,fun _ h=>by cases h⟩,NK _ _,a2,a3⟩
   . refine ⟨.inl ⟨_,aZ.of Lw⟩,p,rfl,Eg,fun j8 H8 b8 hp8 k8 t nt=>?_⟩
     have Mu:=k8.keep R _ Lw Cy
     obtain ⟨xs7,hx7⟩:=Eg.lst
     have xt:=Ext.new (K:=K) (o:=.tup [.int i',.int j8]) nt
     obtain ⟨a1,a2,a3⟩:=zY (K:=K) (i:=i') (o:=some j8) Mu nt (fun q hq=>⟨((hL q hq).1.kp k7 hx6).kp k8 hx7,(hL q hq).2⟩) ⟨by show i'.natAbs < _;omega,fun i h=>by injection h with h;omega⟩ hp8 Cy ((k6.trans k7.l).trans k8.l)
     exact ⟨_,xt.at Mu,by rw [List.length_map];omega,L++[(V.ref t,(i',some j8))],by rw [List.map_append];rfl,by rw [List.length_append,lL];rfl,a1,Cz hS ⟨by show i'.natAbs < _;omega,fun i h=>by injection h with h;omega⟩,NK _ _,a2,a3⟩
 . rintro σ H' ⟨v4,L,rfl,hR,lL,hL,hS,hT,hp6,k6⟩
   try walk_at "rn"
   rw [List.length_map] at lL
   rw [List.length_map,List.take_length] at hT
   exact q R L H' hR hL (fun x hx=>⟨by have h1:=hb x.2.1 (hT ▸ List.mem_map_of_mem (f:=fun q=>q.2.1) hx);omega,hS x hx⟩) (by rw [hT];exact pw) (by omega) (by omega) hp6 ((Ly.l.trans k6).kp nR) nR.1
end
section
variable {P:Program} {w:World} {K:PySem.W.Frag} {mg:Str->Option Value} {base:Heap}
def bJ.sm:bJ->Prop
 | .plus n=>n.natAbs < 10 ^ 60
 | .is n=>n.natAbs < 10 ^ 60
 | .gone=>True
structure Qo (e:Nt):Prop where
 n:1<=e.n/\e.n.natAbs < 10 ^ 60
 s:0<=e.lo/\e.lo < e.hi/\e.hi<=10 ^ 12
 t:e.t.sm
 m:e.m=.gone∨∃ i,e.m=.is i/\i.natAbs < 10 ^ 60/\e.hi - e.lo=1
def yc (K:PySem.W.Frag):Sp:=fun vs H Q _=>∃ p,vs=[.ref p]/\Wl H p/\∀ (v:V) (e:Nt) (H':Hp),mC K H' v e->e.ok->Qo e->Wl H' p->Kp K p H H'->Q v H'
theorem cz:aD ["_law_state","_law_low","_law_way","_law_high","_law_word","_law_there","_law_none"] ["_law_state"] (af iE):=⟨rfl,rfl,rfl,by decide +kernel,rfl,by decide +kernel,by decide +kernel⟩
theorem yd {f:Addr} {fd:FuncData} (F:fh K "_law_note" "_law_note" iE f fd) {aG aP cF cR cN:Addr} {tE tF t1 t2 t3 t4:Tok} (B:B K mg aG aP cF cR cN tE tF t1 t2 t3 t4) (aj:Callee P w K mg base "_law_digit" 1 ["_law_state","_law_base"] (gF K)) (aY:Callee P w K mg base "_law_first" 2 ["_law_state"] (oE K)) (bD:Callee P w K mg base "_law_number" 2 ["_law_state"] (nI K)):bf P w K mg base eZ 3 f fd ["_law_state"] (yc K):=by
 refine F.gP cz (fun vs H Q E h=>?_) (fun cG A outer s H vs Q E hr h=>?_)
 . obtain ⟨p,rfl,_⟩:=h
   rfl
 obtain ⟨p,rfl,hp,q⟩:=h
 refine ⟨_,(av (sset (i:=1) cz.nd rfl (Or.inl rfl) (au aj (hr.mono (by decide)) rfl (aa (ev 0) (aa (iJ ck (bO (aa ei (aa ei (aa (ja 1000000000000) ai)))) (au aj (hr.mono (by decide)) rfl (aa (ev 0) (aa ei ai))) (fun _ _=>rfl)) ai))))
     (wX (jD (cj cS (au aj (hr.mono (by decide)) rfl (aa (ev 0) (aa ei ai))) ei (aI _)) (aK (sset (i:=1) cz.nd rfl (Or.inl rfl) (cT iK (cT iK (ja 1000000000000) ei) (ev 1)))) cY)
     (av (sset (i:=2) cz.nd rfl (Or.inl rfl) (au aj (hr.mono (by decide)) rfl (aa (ev 0) (aa ei ai))))
     (av (sset (i:=3) cz.nd rfl (Or.inl rfl) (iJ ck (bO (aa (cT dD (ev 1) ei) (aa (ja 1000000000000) (aa (cT dD (ev 1) ei) ai)))) (ev 2) (fun _ _=>rfl)))
     (wX (jD (cj cS (ev 2) ei (aI _)) (aK (sset (i:=3) cz.nd rfl (Or.inl rfl) (cT dD (ev 3) (au aj (hr.mono (by decide)) rfl (aa (ev 0) (aa (cT iK (ja 1000000000000) (ev 1)) ai)))))) cY)
     (av (sset (i:=4) cz.nd rfl (Or.inl rfl) (iJ ck (bO (aa aS (aa aS (aa aS ai)))) (au aj (hr.mono (by decide)) rfl (aa (ev 0) (aa ei ai))) (fun _ _=>rfl)))
     (av (sset (i:=5) cz.nd rfl (Or.inl rfl) (iJ ck (bO (aa (dN (aa (ev 4) (aa (au bD (hr.mono (by decide)) rfl (aa (ev 0) ai)) ai))) (aa (dN (aa aS ai)) ai))) (bR oq rfl B.int qW (aa (kW cS (ev 4) aS (aI _)) ai)) (fun _ _=>rfl)))
     (av (sset (i:=6) cz.nd rfl (Or.inl rfl) (dN (aa aS ai)))
     (wX (jD (tw (wV (cj cS (cT iK (ev 3) (ev 1)) ei (aI _)) (qj (cj cS (au aj (hr.mono (by decide)) rfl (aa (ev 0) (aa ei ai))) ei (aI _))))) (aK (sset (i:=6) cz.nd rfl (Or.inl rfl) (dN (aa aS (aa (au bD (hr.mono (by decide)) rfl (aa (ev 0) ai)) ai))))) cY)
     (aK (aW (dN (aa (cT dD ei (au aY (hr.mono (by decide)) rfl (aa (ev 0) ai))) (aa (ev 1) (aa (ev 3) (aa (dN (aa (ev 5) (aa (ev 6) ai))) ai)))))))))))))))),?_⟩
 try walk_at "rn"
 intro D nD
 have x1:=Ext.new (K:=K) (o:=.lst [V.int 1,V.int 10,V.int 1000000000000]) nD
 refine ⟨p,3,rfl,hp.ext x1,by decide,by decide,fun d H2 d0 d1 j7 k2=>?_⟩
 simp_arith [bC (k2.keep D _ ah (hp.ne nD))]
 obtain ⟨c,hc,ec⟩:=o9 [1,10,10 ^ 12] (i:=d) d0 d1
 have bc:0 < c/\c<=10 ^ 12:=by
   simp only [List.mem_cons,List.not_mem_nil,or_false] at hc
   rcases hc with rfl | rfl | rfl <;> exact ⟨by decide,by decide⟩
 refine ⟨_,ec,p,c,rfl,j7,bc.1,by omega,fun lo H3 l0 l1 hp3 k3=>?_⟩
 have JN:=x1.kp.trans (k2.trans k3)
 obtain ⟨J,eJ⟩:∃ J:St->Hp->Prop,J=fun σ1 G1=>∃ lo:Int,σ1=[some (.ref p),some (.int lo),none,none,none,none,none]/\0<=lo/\lo < 10 ^ 12/\Wl G1 p/\Kp K p H G1:=⟨_,rfl⟩
 refine ⟨J,?_,?_⟩
 . try walk_at "rn"
   refine ⟨p,2,rfl,hp3,by decide,by decide,fun r H4 r0 r1 rW k4=>?_⟩
   try walk_at "rn"
   refine gO (fun c=>?_) (fun c=>?_)
   . rw [eJ]
     exact ⟨_,rfl,by omega,by omega,rW,JN.trans k4⟩
   . rw [eJ]
     exact ⟨_,rfl,by omega,by omega,rW,JN.trans k4⟩
 clear JN l0 l1 hp3 k3
 intro σ1 G1 h
 rw [eJ] at h
 clear eJ
 obtain ⟨lo,rfl,l0,l1,hp3,JN⟩:=h
 try walk_at "rn"
 refine ⟨p,3,rfl,hp3,by decide,by decide,fun way H4 w0 w1 rW k4=>?_⟩
 try walk_at "rn"
 intro D2 nD2
 have x5:=Ext.new (K:=K) (o:=.lst [V.int (lo + 1),V.int 1000000000000,V.int (lo + 1)]) nD2
 obtain ⟨hi,hh,eh⟩:=o9 [lo + 1,10 ^ 12,lo + 1] (i:=way) w0 w1
 have bh:lo < hi/\hi<=10 ^ 12/\(way=2->hi=lo + 1):=by
   refine ⟨?_,?_,fun c=>?_⟩
   . simp only [List.mem_cons,List.not_mem_nil,or_false] at hh
     rcases hh with rfl | rfl | rfl <;> omega
   . simp only [List.mem_cons,List.not_mem_nil,or_false] at hh
     rcases hh with rfl | rfl | rfl <;> omega
   . subst c
     have e:uc ([lo + 1,10 ^ 12,lo + 1].map V.int) 2=some (.int (lo + 1)):=rfl
     rw [e] at eh
     injection eh with eh
     injection eh with eh
     exact eh.symm
 refine ⟨_,eh,?_⟩
 have uM:=rW.ext x5
 have Hw:=JN.trans (k4.trans x5.kp)
 obtain ⟨J,eJ⟩:∃ J:St->Hp->Prop,J=fun σ1 G1=>∃ hi:Int,σ1=[some (.ref p),some (.int lo),some (.int way),some (.int hi),none,none,none]/\lo < hi/\hi<=10 ^ 12/\Wl G1 p/\Kp K p H G1:=⟨_,rfl⟩
 refine ⟨J,?_,?_⟩
 . try walk_at "rn"
   refine gO (fun c=>?_) (fun c=>?_)
   . refine ⟨p,_,rfl,uM,by omega,by omega,fun r H6 r0 r1 hp6 k6=>?_⟩
     try walk_at "rn"
     rw [eJ]
     have:=bh.2.2 (by omega)
     exact ⟨_,rfl,by omega,by omega,hp6,Hw.trans k6⟩
   . rw [eJ]
     exact ⟨_,rfl,by omega,by omega,uM,Hw⟩
 clear bh hh eh
 intro σ1 G1 h
 rw [eJ] at h
 clear eJ
 obtain ⟨hi,rfl,h0,h1,hp6,k06⟩:=h
 try walk_at "rn"
 intro Dw nDw
 have xw:=Ext.new (K:=K) (o:=.lst [V.str (Str.ofString "plus"),V.str (Str.ofString "is"),V.str (Str.ofString "gone")]) nDw
 refine ⟨p,3,rfl,hp6.ext xw,by decide,by decide,fun r H7 r0 r1 Eg k7=>?_⟩
 simp_arith [bC (k7.keep Dw _ ah (hp6.ne nDw))]
 obtain ⟨v,ev,mv⟩:=AW (xs:=[V.str (Str.ofString "plus"),V.str (Str.ofString "is"),V.str (Str.ofString "gone")]) r0 r1
 refine ⟨_,ev,p,rfl,Eg,fun n H8 nb hp8 k8 b1 n1 b2 n2 b3 n3=>?_⟩
 have y1:=Ext.new (K:=K) (o:=.tup [v,.int n]) n1
 have y2:=Ext.new (K:=K) (o:=.tup [V.str (Str.ofString "gone")]) n2
 have y3:=Ext.new (K:=K) (o:=.lst [V.ref b1,V.ref b2]) n3
 have t1:tupQ K (upd (upd (upd H8 b1 (.tup [v,.int n])) b2 (.tup [V.str (Str.ofString "gone")])) b3 (.lst [V.ref b1,V.ref b2])) b1=some [v,.int n]:=(y2.trans y3).tup aN
 have t2:tupQ K (upd (upd (upd H8 b1 (.tup [v,.int n])) b2 (.tup [V.str (Str.ofString "gone")])) b3 (.lst [V.ref b1,V.ref b2])) b2=some [V.str (Str.ofString "gone")]:=y3.tup aN
 have Lz:=hp8.ext (y1.trans (y2.trans y3))
 have Mw:=k06.trans (xw.kp.trans (k7.trans (k8.trans (y1.trans (y2.trans y3)).kp)))
 have g1:¬ (V.str (Str.ofString "plus")=V.str (Str.ofString "gone")):=by decide +kernel
 have g2:¬ (V.str (Str.ofString "is")=V.str (Str.ofString "gone")):=by decide +kernel
 obtain ⟨u,th,e1,e2,e3,e4,e4'⟩:∃ (u:Addr) (th:bJ),C1 v (V.str (Str.ofString "gone"))=true/\uc [V.ref b1,V.ref b2] (if v=V.str (Str.ofString "gone") then 1 else 0)=some (.ref u)/\tupQ K (upd (upd (upd H8 b1 (.tup [v,.int n])) b2 (.tup [V.str (Str.ofString "gone")])) b3 (.lst [V.ref b1,V.ref b2])) u=some th.v/\th.ok/\th.sm:=by
   simp only [List.mem_cons,List.not_mem_nil,or_false] at mv
   rcases mv with rfl | rfl | rfl
   . exact ⟨b1,.plus n,rfl,by rw [if_neg g1];rfl,t1,by show n.natAbs < _;omega,nb⟩
   . exact ⟨b1,.is n,rfl,by rw [if_neg g2];rfl,t1,by show n.natAbs < _;omega,nb⟩
   . exact ⟨b2,.gone,rfl,by rw [if_pos rfl];rfl,t2,trivial,trivial⟩
 generalize upd (upd (upd H8 b1 (.tup [v,.int n])) b2 (.tup [V.str (Str.ofString "gone")])) b3 (.lst [V.ref b1,V.ref b2])=H9 at Lz Mw e3 ⊢
 clear t1 t2 y1 y2 y3 n1 n2 n3
 refine ⟨e1,_,e2,fun b5 n5=>?_⟩
 have y5:=Ext.new (K:=K) (o:=.tup [V.str (Str.ofString "gone")]) n5
 have Qp:=Lz.ext y5
 have Mx:=Mw.trans y5.kp
 have e5:=y5.tup e3
 have e6:tupQ K (upd H9 b5 (.tup [V.str (Str.ofString "gone")])) b5=some [V.str (Str.ofString "gone")]:=aN
 generalize upd H9 b5 (.tup [V.str (Str.ofString "gone")])=HA at Qp Mx e5 e6 ⊢
 obtain ⟨J,eJ⟩:∃ J:St->Hp->Prop,J=fun σ1 G1=>∃ (s:Addr) (m:bJ),σ1=[some (.ref p),some (.int lo),some (.int way),some (.int hi),some v,some (.ref u),some (.ref s)]/\tupQ K G1 u=some th.v/\tupQ K G1 s=some m.v/\m.ok/\(m=.gone∨∃ i,m=.is i/\i.natAbs < 10 ^ 60/\hi - lo=1)/\Wl G1 p/\Kp K p H G1:=⟨_,rfl⟩
 refine ⟨J,?_,?_⟩
 . try walk_at "rn"
   obtain ⟨xsA,hxA⟩:=Qp.lst
   refine gO (fun gap=>?_) (fun c=>?_)
   . refine ⟨p,2,rfl,Qp,by decide,by decide,fun r HB r0 r1 hpB kB=>?_⟩
     try walk_at "rn"
     obtain ⟨xsB,hxB⟩:=hpB.lst
     refine gO (fun c=>?_) (fun c=>?_)
     . refine ⟨p,rfl,hpB,fun i HC ib hpC kC b nb=>?_⟩
       have xb:=Ext.new (K:=K) (o:=.tup [V.str (Str.ofString "is"),.int i]) nb
       rw [eJ]
       exact ⟨b,.is i,rfl,xb.tup (kC.tup hxB (kB.tup hxA e5)),aN,by show i.natAbs < _;omega,.inr ⟨i,rfl,ib,by simpa using gap⟩,hpC.ext xb,Mx.trans (kB.trans (kC.trans xb.kp))⟩
     . rw [eJ]
       exact ⟨b5,.gone,rfl,kB.tup hxA e5,kB.tup hxA e6,trivial,.inl rfl,hpB,Mx.trans kB⟩
   . rw [eJ]
     exact ⟨b5,.gone,rfl,e5,e6,trivial,.inl rfl,Qp,Mx⟩
 intro σ1 G1 h
 rw [eJ] at h
 clear eJ
 obtain ⟨s',m,rfl,f1,f2,f3,f4,hpB,k0B⟩:=h
 try walk_at "rn"
 refine ⟨p,rfl,hpB,fun i HC i0 i1 hpC kC=>?_⟩
 try walk_at "rn"
 intro b nb b' nb'
 obtain ⟨xsB,hxB⟩:=hpB.lst
 have z1:=Ext.new (K:=K) (o:=.tup [V.ref u,V.ref s']) nb
 have z2:=Ext.new (K:=K) (o:=.tup [V.int (1 + i),V.int lo,V.int hi,V.ref b]) nb'
 refine q _ ⟨1 + i,lo,hi,th,m⟩ _ ⟨b',b,u,s',rfl,aN,z2.tup aN,(z1.trans z2).tup (kC.tup hxB f1),(z1.trans z2).tup (kC.tup hxB f2)⟩ ⟨?_,?_,?_,e4,f3⟩ ⟨⟨?_,?_⟩,⟨l0,h0,h1⟩,e4',f4⟩ (hpC.ext (z1.trans z2)) (k0B.trans (kC.trans (z1.trans z2).kp))
 . show (1 + i).natAbs < _
   omega
 . show lo.natAbs < _
   omega
 . show hi.natAbs < _
   omega
 . show 1<=1 + i
   omega
 . show (1 + i).natAbs < _
   omega
theorem s6:¬ (("plus":Str)="gone"):=by decide +kernel
theorem s7:¬ (("is":Str)="gone"):=by decide +kernel
theorem s8:¬ (V.str (Str.ofString "is")=V.str (Str.ofString "plus")):=by decide +kernel
theorem zZ {K:PySem.W.Frag} {H:Hp}:∀ (ts:List Str),cy K H (ts.map PyData.str) (ts.map V.str)
 | []=>by simp only [List.map_nil,cy]
 | k::ks=>by simp only [List.map_cons,cy];exact ⟨_,_,rfl,by simp only [Is],zZ ks⟩
theorem IU {K:PySem.W.Frag} {H:Hp} {r:Addr} {ts:List Str} (h:H r=some (.lst (ts.map V.str))):Is K H (.list (ts.map PyData.str)) (.ref r):=by
 simp only [Is]
 exact ⟨r,_,rfl,aZ.of h,zZ ts⟩
def vD (t:Str):Prop:=PyData.strOk t=true
theorem kZ (s:String):vD (Str.ofString s):=by
 unfold vD PyData.strOk
 rw [Str.ofString_eq_toList]
 simp only [List.all_toArray,List.all_map,List.all_eq_true,Function.comp,decide_eq_true_eq]
 intro c _
 have:=c.valid
 rcases this with h | ⟨_,h⟩
 . exact Nat.lt_trans h (by decide)
 . exact h
theorem j9 {a b:Str} (ha:vD a) (hb:vD b):vD (a++b):=by
 unfold vD PyData.strOk at *
 rw [Str.cps_append,Array.all_append,ha,hb]
 rfl
theorem uN {sep:Str} (h0:vD sep):∀ (ts:List Str),(∀ t∈ts,vD t)->vD (Str.join sep ts)
 | [],_=>by unfold vD Str.join;decide +kernel
 | [x],h=>h x List.mem_cons_self
 | x::y::r,h=>j9 (j9 (h x List.mem_cons_self) h0) (uN h0 (y::r) fun t m=>h t (List.mem_cons_of_mem _ m))
theorem Ga {sep:Str} (h0:vD sep) (ts:List Str) (h:∀ t∈ts,vD t):vD (bx sep ts):=by
 unfold bx
 split
 . exact kZ _
 . exact uN h0 ts h
theorem jo (i:Int):vD (aC i):=kZ _
theorem z0:∀ (ts:List Str),(∀ t∈ts,vD t)->PyData.canLayAll0 (ts.map PyData.str)=true/\PyData.depthAll (ts.map PyData.str)<=2
 | [],_=>by simp [PyData.canLayAll0,PyData.depthAll]
 | k::ks,h=>by
   have ih:=z0 ks fun t m=>h t (List.mem_cons_of_mem _ m)
   simp only [List.map_cons,PyData.canLayAll0,PyData.depthAll,ih.1,PyData.canLay0,PyData.depth,Bool.and_true]
   exact ⟨h k List.mem_cons_self,Nat.max_le.mpr ⟨by decide,ih.2⟩⟩
theorem rX (ts:List Str) (ok:∀ t∈ts,vD t):SeqAt.shaped (.list (ts.map PyData.str))=true:=by
 have h:=z0 ts ok
 have e:(PyData.list (ts.map PyData.str)).depth=PyData.depthAll (ts.map PyData.str) + 1:=by simp only [PyData.depth]
 simp only [SeqAt.shaped,PyData.canLay0,h.1,Bool.true_and,decide_eq_true_eq]
 rw [e]
 omega
theorem DJ (ts:List Str):PyData.eqv (.list (ts.map PyData.str)) (.list [])=decide (ts=[]):=by
 cases ts with
 | nil=>rfl
 | cons p ws=>simp [PyData.eqv,PyData.eqvAll]
theorem Gb {K:PySem.W.Frag} {H:Hp} {r:Addr} (h:H r=some (.lst [])):Is K H (.list []) (.ref r):=by
 simp only [Is,cy]
 exact ⟨r,_,rfl,aZ.of h,rfl⟩
def ye (K:PySem.W.Frag):Sp:=fun vs H Q _=>∃ u h,vs=[u]/\FZ K H u h/\h.ok/\∀ H',Ext K H H'->Q (.str h.t) H'
def tP (K:PySem.W.Frag):Sp:=fun vs H Q _=>∃ (p:Addr) (sep:Str) (ts:List Str) (m:Nat),vs=[.ref p,.str sep]/\H p=some (.lst (ts.map V.str))/\sep.length=1/\(∀ t∈ts,t.length<=m)/\(∀ t∈ts,vD t)/\ts.length * (m + 1)<=1000000/\∀ H',Ext K H H'->Q (.str (bx sep ts)) H'
theorem yf:aD ["_law_half_here"] ["_law_half_here"] (af iG):=⟨rfl,rfl,rfl,by decide +kernel,rfl,by decide +kernel,by decide +kernel⟩
theorem yg {f:Addr} {fd:FuncData} (F:fh K "_law_half" "_law_half" iG f fd) {aG aP cF cR cN:Addr} {tE tF t1 t2 t3 t4:Tok} (B:B K mg aG aP cF cR cN tE tF t1 t2 t3 t4):bf P w K mg base eZ 1 f fd ["_law_half_here"] (ye K):=by
 refine F.gP yf (fun vs H Q E h=>?_) (fun cG A outer s H vs Q E hr h=>?_)
 . obtain ⟨u,h,rfl,_⟩:=h
   rfl
 obtain ⟨u,h,rfl,⟨t,rfl,ht⟩,ok,q⟩:=h
 refine ⟨_,(av (jD (cj cS (iJ ck (ev 0) ei (fun _ _=>rfl)) aS (aI _)) (aK (aW aS)) cY)
     (aK (aW (cT aF (iJ ck (bO (aa aS (aa aS ai))) (bR oq rfl B.int qW (aa (kW cS (iJ ck (ev 0) ei (fun _ _=>rfl)) aS (aI _)) ai)) (fun _ _=>rfl)) (bR bw rfl B.str dh (aa (iJ ck (ev 0) ei (fun _ _=>rfl)) ai)))))),?_⟩
 cases h with
 | plus n=>
   simp_arith [br ht,bJ.v]
   refine gO (fun c=>absurd c s6) (fun _ b nb=>?_)
   have xb:=Ext.new (K:=K) (o:=.lst [V.str (Str.ofString "="),V.str (Str.ofString "+")]) nb
   have e:=br (xb.tup ht)
   have h1:=aE (i:=n) ok
   have h3:(Str.ofString "+").length=1:=by decide +kernel
   exact ⟨_,e,_,rfl,rfl,_,by rw [if_pos rfl];rfl,_,e,_,rfl,n,rfl,cM ok,_,rfl,by show _ + (aC n).length<=_;omega,q _ xb⟩
 | is n=>
   simp_arith [br ht,bJ.v]
   refine gO (fun c=>absurd c s7) (fun _ b nb=>?_)
   have xb:=Ext.new (K:=K) (o:=.lst [V.str (Str.ofString "="),V.str (Str.ofString "+")]) nb
   have e:=br (xb.tup ht)
   have h1:=aE (i:=n) ok
   have h3:(Str.ofString "=").length=1:=by decide +kernel
   exact ⟨_,e,_,rfl,rfl,_,by rw [if_neg s8];rfl,_,e,_,rfl,n,rfl,cM ok,_,rfl,by show _ + (aC n).length<=_;omega,q _ xb⟩
 | gone=>
   simp_arith [br ht,bJ.v]
   exact q _ Ext.refl
theorem yh:aD ["_law_parts","_law_sign"] ["_law_parts","_law_sign"] (af iH):=⟨rfl,rfl,rfl,by decide +kernel,rfl,by decide +kernel,by decide +kernel⟩
theorem yi {f:Addr} {fd:FuncData} (F:fh K "_law_line" "_law_line" iH f fd) {aG aP cF cR cN:Addr} {tE tF t1 t2 t3 t4:Tok} (B:B K mg aG aP cF cR cN tE tF t1 t2 t3 t4):bf P w K mg base eZ 1 f fd ["_law_parts","_law_sign"] (tP K):=by
 refine F.gP yh (fun vs H Q E h=>?_) (fun cG A outer s H vs Q E hr h=>?_)
 . obtain ⟨p,sep,ts,m,rfl,_⟩:=h
   rfl
 obtain ⟨p,sep,ts,m,rfl,hs,h1,hm,ho,hz,q⟩:=h
 refine ⟨_,(av (jD (cj (AY hr.units) (ev 0) (bO ai) (aI _)) (aK (aW aS)) cY)
     (aK (aW (lA PySem.F.plainAttrs_str PySem.F.slot_str_join PySem.F.type_str_join fj (ev 1) (aa (ev 0) ai))))),?_⟩
 try walk_at "rn"
 intro b nb
 have xb:=Ext.new (K:=K) (o:=.lst []) nb
 have l1:=eX (sep:=sep) ts hm
 have l2:=join_le (sep:=sep) ts hm
 rw [h1] at l1 l2
 have qq:=q _ xb
 unfold bx at qq
 refine ⟨_,IU (xb.at hs),_,Gb ah,rX ts ho,rX [] (fun _ h=>by cases h),?_⟩
 rw [DJ]
 refine gO (fun c=>?_) (fun c=>?_)
 . rw [if_pos (of_decide_eq_true c)] at qq
   exact qq
 . rw [if_neg (fun e=>c (decide_eq_true e))] at qq
   exact ⟨ts,aZ.of (xb.at hs),by omega,by omega,qq⟩
end
section
variable {P:Program} {w:World} {K:PySem.W.Frag} {mg:Str->Option Value} {base:Heap}
def Bd (K:PySem.W.Frag):Sp:=fun vs H Q _=>∃ u r,vs=[u]/\qA K H u r/\wB r/\0 < r.vs.length/\∀ H',Ext K H H'->Q (.str (gQ r.k (r.vs.map (·.2)))) H'
theorem gj:aD ["_law_row","_law_parts","_law_number_here","_law_value"] ["_law_row"] (af dJ):=⟨rfl,rfl,rfl,by decide +kernel,rfl,by decide +kernel,by decide +kernel⟩
theorem rM {f:Addr} {fd:FuncData} (F:fh K "_law_row_text" "_law_row_text" dJ f fd) {aG aP cF cR cN:Addr} {tE tF t1 t2 t3 t4:Tok} (B:B K mg aG aP cF cR cN tE tF t1 t2 t3 t4):bf P w K mg base eZ 1 f fd ["_law_row"] (Bd K):=by
 refine F.gP gj (fun vs H Q E h=>?_) (fun cG A outer s H vs Q E hr h=>?_)
 . obtain ⟨u,r,rfl,_⟩:=h
   rfl
 obtain ⟨u,r,rfl,⟨t,rfl,ht,ha,hv⟩,ok,l0,q⟩:=h
 refine ⟨_,(av (sset (i:=1) gj.nd rfl (Or.inl rfl) (bO ai))
     (av (um PassesOwn.never rfl (cI (iJ ck (ev 0) ei (fun _ _=>rfl))) (fM (n:=2) rfl (aH (aA (i:=2) gj.nd rfl (Or.inl rfl)) (aH (aA (i:=3) gj.nd rfl (Or.inl rfl)) gA)))
       (aK (jc (lA PySem.F.plainAttrs_list PySem.F.slot_list_append PySem.F.type_list_append bX (ev 1) (aa (cT aF (cT aF (bR bw rfl B.str dh (aa (ev 2) ai)) aS) (iJ ck (bO (aa aS (aa (bR Dr rfl B.str dh (aa (ev 3) ai)) ai))) (bR oq rfl B.int qW (aa (kW HV (ev 3) i8 (aI _)) ai)) (fun _ _=>rfl))) ai)))))
     (aK (aW (cT aF (cT aF (bR bw rfl B.str dh (aa (iJ ck (ev 0) ei (fun _ _=>rfl)) ai)) aS) (lA PySem.F.plainAttrs_str PySem.F.slot_str_join PySem.F.type_str_join fj aS (aa (ev 1) ai))))))),?_⟩
 try walk_at "rn"
 intro R nR
 have xR:=Ext.new (K:=K) (o:=.lst []) nR
 simp_arith [br (xR.tup ht)]
 refine ⟨⟨_,aZ.of (xR.at ha)⟩,?_⟩
 have Cy:r.a≠R:=bq ha nR.1
 refine jN (xs:=r.vs.map (·.1)) (fun k σ H'=>∃ (v2 v3:Option V),σ=[some (.ref t),some (.ref R),v2,v3]/\H' R=some (.lst (((r.vs.take k).map fun q=>iR q.2).map V.str))/\Kp K R (upd H R (.lst [])) H') ⟨_,_,rfl,ah,Kp.refl⟩ ?_ ?_ ?_
 . rintro k σ H' _ ⟨_,_,_,_,kk⟩
   exact aZ.of ((kk.ext nR).at ha)
 . rintro k x σ H' hx ⟨v2,v3,rfl,hR,kk⟩
   rw [List.getElem?_map] at hx
   obtain ⟨q0,hq,rfl⟩:=Option.map_eq_some_iff.mp hx
   have mq:=List.mem_of_getElem? hq
   have hk:k < r.vs.length:=(List.getElem?_eq_some_iff.1 hq).1
   have l4:=ok.2.2
   obtain ⟨t',e',ht'⟩:=hv q0 mq
   have Tg:=(kk.ext nR).tup ht'
   have LA:=ok.2.1 q0 mq
   obtain ⟨u0,n,o⟩:=q0
   dsimp only at e' Tg LA
   subst e'
   have h1:=aE (i:=n) LA.1
   have h2:=uH (o:=o) LA.2
   have h3:(Str.ofString ":").length=1:=by decide +kernel
   have et:((r.vs.take k).map fun q=>iR q.2).map V.str++[V.str (iR (n,o))]=((r.vs.take (k + 1)).map fun q=>iR q.2).map V.str:=by
     rw [List.take_add_one,hq,Option.toList_some,List.map_append,List.map_append]
     rfl
   have hz:(((r.vs.take k).map fun q=>iR q.2).map V.str).length < 16777216:=by
     rw [List.length_map,List.length_map,List.length_take]
     omega
   cases o with
   | none=>
     simp_arith [Tg,oV]
     have h4:(Str.ofString "x").length=1:=by decide +kernel
     refine ⟨.inl ⟨_,aZ.of hR⟩,cM LA.1,(by show (aC n).length + _<=_;omega),.inr fun b nb=>?_⟩
     have xb:=Ext.new (K:=K) (o:=.lst [V.str (Str.ofString "x"),V.str (Str.ofString "None")]) nb
     exact ⟨by show (aC n++Str.ofString ":").length + _<=_;rw [Str.length_append];omega,_,xb.at hR,hz,et,kk.trans (xb.kp.trans (Kp.upd (xb.at hR)))⟩
   | some i=>
     simp_arith [Tg,oV]
     have h4:=aE (LA.2 i rfl)
     refine ⟨.inl ⟨_,aZ.of hR⟩,cM LA.1,(by show (aC n).length + _<=_;omega),.inl ⟨cM (LA.2 i rfl),fun b nb=>?_⟩⟩
     have xb:=Ext.new (K:=K) (o:=.lst [V.str (Str.ofString "x"),V.str (Str.ofString (toString i))]) nb
     exact ⟨_,by rw [if_pos (by simp)];rfl,aC i,rfl,by show (aC n++Str.ofString ":").length + _<=_;rw [Str.length_append];omega,_,xb.at hR,hz,et,kk.trans (xb.kp.trans (Kp.upd (xb.at hR)))⟩
 rintro σ H' ⟨v2,v3,rfl,hR,kk⟩
 simp_arith [br ((kk.ext nR).tup ht)]
 rw [List.length_map,List.take_length] at hR
 have h1:=aE ok.1
 have h3:(Str.ofString "=").length=1:=by decide +kernel
 have h5:(Str.ofString ",").length=1:=by decide +kernel
 have l4:=ok.2.2
 have hl:∀ t∈r.vs.map fun q=>iR q.2,t.length<=203:=by
   intro t ht
   obtain ⟨q0,hq,rfl⟩:=List.mem_map.1 ht
   exact uI (ok.2.1 q0 hq)
 have m1:=eX (sep:=Str.ofString ",") _ hl
 have m2:=join_le (sep:=Str.ofString ",") _ hl
 rw [h5,List.length_map] at m1 m2
 refine ⟨cM ok.1,by show (aC r.k).length + _<=_;omega,_,aZ.of hR,by omega,by omega,by show (aC r.k++Str.ofString "=").length + _<=_;rw [Str.length_append];omega,?_⟩
 have qq:=q _ (kk.ext nR)
 unfold gQ bx at qq
 have e2:(r.vs.map (·.2)).map iR=r.vs.map fun q=>iR q.2:=by rw [List.map_map];rfl
 rw [e2,if_neg (fun e=>by rw [List.map_eq_nil_iff] at e;rw [e] at l0;exact absurd l0 (by decide))] at qq
 exact qq
def uO (K:PySem.W.Frag):Sp:=fun vs H Q _=>∃ u e,vs=[u]/\mC K H u e/\e.ok/\∀ H',Ext K H H'->Q (.str e.x) H'
theorem kc:aD ["_law_note_here","_law_parts"] ["_law_note_here"] (af cZ):=⟨rfl,rfl,rfl,by decide +kernel,rfl,by decide +kernel,by decide +kernel⟩
theorem qB {f:Addr} {fd:FuncData} (F:fh K "_law_note_text" "_law_note_text" cZ f fd) {aG aP cF cR cN:Addr} {tE tF t1 t2 t3 t4:Tok} (B:B K mg aG aP cF cR cN tE tF t1 t2 t3 t4) (kg:Callee P w K mg base "_law_half" 1 ["_law_half_here"] (ye K)):bf P w K mg base eZ 2 f fd ["_law_note_here"] (uO K):=by
 refine F.gP kc (fun vs H Q E h=>?_) (fun cG A outer s H vs Q E hr h=>?_)
 . obtain ⟨u,e,rfl,_⟩:=h
   rfl
 obtain ⟨u,e,rfl,⟨a,w,r,s',rfl,h1,h2,h3,h4⟩,ok,q⟩:=h
 refine ⟨_,(av (sset (i:=1) kc.nd rfl (Or.inl rfl) (bO (aa (bR bw rfl B.str dh (aa (iJ ck (ev 0) ei (fun _ _=>rfl)) ai)) (aa (bR bw rfl B.str dh (aa (iJ ck (ev 0) ei (fun _ _=>rfl)) ai)) (aa (bR bw rfl B.str dh (aa (iJ ck (ev 0) ei (fun _ _=>rfl)) ai)) ai)))))
     (aK (aW (lA PySem.F.plainAttrs_str PySem.F.slot_str_join PySem.F.type_str_join fj aS (aa (cT fU (ev 1) (rz (jO.mk (N:=["_law_half_here"]) (src:=[none]) rfl rfl) rfl (Nk (iJ ck (ev 0) ei (fun _ _=>rfl))) (fun _ _ _ _=>(aA (i:=0) (show (["_law_half_here"]:List Str).Nodup from by decide +kernel) rfl (Or.inl rfl))) (fun _ _ _ _=>cU) (fun _ _ _ _=>(au kg (hr.mono (by decide)) rfl (aa (ev 0) ai))))) ai))))),?_⟩
 simp_arith [br h1]
 refine ⟨cM ok.1,cM ok.2.1,cM ok.2.2.1,fun b nb=>?_⟩
 have xb:=Ext.new (K:=K) (o:=.lst [V.str (Str.ofString (toString e.n)),V.str (Str.ofString (toString e.lo)),V.str (Str.ofString (toString e.hi))]) nb
 have hb:(upd H b (.lst [V.str (Str.ofString (toString e.n)),V.str (Str.ofString (toString e.lo)),V.str (Str.ofString (toString e.hi))])) b=some (.lst [V.str (Str.ofString (toString e.n)),V.str (Str.ofString (toString e.lo)),V.str (Str.ofString (toString e.hi))]):=ah
 generalize upd H b (.lst [V.str (Str.ofString (toString e.n)),V.str (Str.ofString (toString e.lo)),V.str (Str.ofString (toString e.hi))])=H1 at xb hb ⊢
 refine ⟨_,br (xb.tup h1),_,rfl,w,rfl,⟨_,gD (xb.tup h2)⟩,fun D nD=>?_⟩
 refine zS (L:=[(r,e.t),(s',e.m)]) (f:=fun q=>V.ref q.1) (g:=fun q=>V.str q.2.t) (xb.tup h2) nD (by show 2<=1000;decide) (fun q0 hq H' Q' xx qq=>?_) (fun H2 hD x2=>?_)
 . try walk_at "rn"
   simp only [List.mem_cons,List.not_mem_nil,or_false] at hq
   rcases hq with rfl | rfl
   . exact ⟨_,e.t,rfl,⟨r,rfl,(xb.trans xx).tup h3⟩,ok.2.2.2.1,qq⟩
   . exact ⟨_,e.m,rfl,⟨s',rfl,(xb.trans xx).tup h4⟩,ok.2.2.2.2,qq⟩
 refine ⟨_,x2.at hb,_,hD,by show 3 + 2<=16777216;decide,fun p np=>?_⟩
 have l1:=eX (sep:=Str.ofString ".") _ (Nt.le ok)
 have l2:=join_le (sep:=Str.ofString ".") _ (Nt.le ok)
 have h5:(Str.ofString ".").length=1:=by decide +kernel
 rw [h5] at l1 l2
 simp only [List.length_cons,List.length_nil] at l1 l2
 exact ⟨[aC e.n,aC e.lo,aC e.hi,e.t.t,e.m.t],aZ.of ah,by omega,by omega,q _ (xb.trans (x2.trans (Ext.new np)))⟩
theorem IV (p:Int×Option Int):vD (iR p):=by
 unfold iR
 refine j9 (j9 (jo _) (kZ _)) ?_
 cases p.2 with
 | none=>exact kZ _
 | some i=>exact jo i
theorem IW (k:Int) (ws:List (Int×Option Int)):vD (gQ k ws):=by
 unfold gQ
 refine j9 (j9 (jo _) (kZ _)) (Ga (kZ _) _ fun t ht=>?_)
 obtain ⟨p,_,rfl⟩:=List.mem_map.1 ht
 exact IV p
theorem z6 (h:bJ):vD h.t:=by
 cases h with
 | plus n=>exact j9 (kZ _) (jo n)
 | is n=>exact j9 (kZ _) (jo n)
 | gone=>exact kZ _
theorem Gd (e:Nt):vD e.x:=by
 refine uN (kZ _) _ fun t ht=>?_
 simp only [List.mem_cons,List.not_mem_nil,or_false] at ht
 rcases ht with rfl | rfl | rfl | rfl | rfl
 . exact jo _
 . exact jo _
 . exact jo _
 . exact z6 _
 . exact z6 _
def Rm.full:Rm->Prop
 | .leaf _ _ rows=>∀ q∈rows,0 < q.2.vs.length
 | .inner _ _ _ _ ch _ _=>0 < ch.length
def yj (K:PySem.W.Frag):Sp:=fun vs H Q _=>∃ (a d:Addr) (r:Rm) (pl:Int->Int),vs=[.ref a,.ref d]/\r.at K H a/\Lv H d pl r.ch/\r.ok pl/\r.full/\∀ H',Ext K H H'->Q (.str (r.x pl)) H'
theorem fJ:aD ["_law_room_here","_law_places","_law_head","_law_children","_law_pivots"] ["_law_room_here","_law_places"] (af bI):=⟨rfl,rfl,rfl,by decide +kernel,rfl,by decide +kernel,by decide +kernel⟩
theorem qC {f:Addr} {fd:FuncData} (F:fh K "_law_room_text" "_law_room_text" bI f fd) {aG aP cF cR cN:Addr} {tE tF t1 t2 t3 t4:Tok} (B:B K mg aG aP cF cR cN tE tF t1 t2 t3 t4) (cX:Callee P w K mg base "_law_line" 1 ["_law_parts","_law_sign"] (tP K)) (gG:Callee P w K mg base "_law_row_text" 1 ["_law_row"] (Bd K)) (gm:Callee P w K mg base "_law_note_text" 2 ["_law_note_here"] (uO K)):bf P w K mg base eZ 3 f fd ["_law_room_here","_law_places"] (yj K):=by
 refine F.gP fJ (fun vs H Q E h=>?_) (fun cG A outer s H vs Q E hr h=>?_)
 . obtain ⟨a,d,r,pl,rfl,_⟩:=h
   rfl
 obtain ⟨a,d,r,pl,rfl,hr',hp,ok,fu,q⟩:=h
 refine bE (rest:=(aq bI).drop 4) (aK (aW (cT aF (cT aF (cT aF (cT aF (cT aF (ev 2) (ev 4)) aS) (ev 3)) aS) (au cX (hr.mono (by decide)) rfl (aa (rz (jO.mk (N:=["_law_note_here"]) (src:=[none]) rfl rfl) rfl (cI (iJ ck (ev 0) ei (fun _ _=>rfl))) (fun _ _ _ _=>(aA (i:=0) (show (["_law_note_here"]:List Str).Nodup from by decide +kernel) rfl (Or.inl rfl))) (fun _ _ _ _=>cU) (fun _ _ _ _=>(au gm (hr.mono (by decide)) rfl (aa (ev 0) ai)))) (aa aS ai)))))) fun r4 J4 e4=>?_
 refine bE (rest:=(aq bI).drop 3) (av (sset (i:=4) fJ.nd rfl (Or.inl rfl) (au cX (hr.mono (by decide)) rfl (aa (rz (jO.mk (N:=["_law_pivot"]) (src:=[none]) rfl rfl) rfl (cI (iJ ck (ev 0) ei (fun _ _=>rfl))) (fun _ _ _ _=>(aA (i:=0) (show (["_law_pivot"]:List Str).Nodup from by decide +kernel) rfl (Or.inl rfl))) (fun _ _ _ _=>cU) (fun _ _ _ _=>(bR bw rfl B.str dh (aa (ev 0) ai)))) (aa aS ai))))
     J4) fun r3 J3 e3=>?_
 refine bE (rest:=(aq bI).drop 2) (av (sset (i:=3) fJ.nd rfl (Or.inl rfl) (lA PySem.F.plainAttrs_str PySem.F.slot_str_join PySem.F.type_str_join fj aS (aa (rz (jO.mk (N:=["_law_child","_law_places"]) (src:=[none,some 1]) rfl rfl) rfl (cI (iJ ck (ev 0) ei (fun _ _=>rfl))) (fun _ _ _ _=>(aA (i:=0) (show (["_law_child","_law_places"]:List Str).Nodup from by decide +kernel) rfl (Or.inl rfl))) (fun _ _ _ _=>cU) (fun _ _ _ _=>(cT aF (cT aF (bR bw rfl B.str dh (aa (ev 0) ai)) aS) (bR bw rfl B.str dh (aa (Fo hr.units (ev 1) (ev 0) (fun _ _=>rfl)) ai))))) ai)))
     J3) fun r2 J2 e2=>?_
 refine ⟨_,(av (sset (i:=2) fJ.nd rfl (Or.inl rfl) (cT aF (cT aF (cT aF (iJ ck (ev 0) ei (fun _ _=>rfl)) aS) (bR bw rfl B.str dh (aa (iJ ck (ev 0) ei (fun _ _=>rfl)) ai))) aS))
     (av (jD (cj cS (iJ ck (ev 0) ei (fun _ _=>rfl)) aS (aI _)) (aK (aW (cT aF (ev 2) (au cX (hr.mono (by decide)) rfl (aa (rz (jO.mk (N:=["_law_row"]) (src:=[none]) rfl rfl) rfl (cI (iJ ck (ev 0) ei (fun _ _=>rfl))) (fun _ _ _ _=>(aA (i:=0) (show (["_law_row"]:List Str).Nodup from by decide +kernel) rfl (Or.inl rfl))) (fun _ _ _ _=>cU) (fun _ _ _ _=>(au gG (hr.mono (by decide)) rfl (aa (ev 0) ai)))) (aa aS ai)))))) cY)
     J2)),?_⟩
 cases r with
 | leaf n ra rows=>
   obtain ⟨h1,h2,h3⟩:=hr'
   simp_arith [br h1,h1]
   have n1:=aE ok.1
   have b1:(Str.ofString "leaf").length=4:=by decide +kernel
   have b2:(Str.ofString " ").length=1:=oz
   refine ⟨by omega,cM ok.1,by show _ + (aC n).length<=_;rw [Str.length_append];omega,by show (_++aC n).length + _<=_;rw [Str.length_append,Str.length_append];omega,⟨_,aZ.of h2⟩,fun D nD=>?_⟩
   refine tO (L:=rows) (f:=fun q=>q.1) (g:=fun q=>V.str (gQ q.2.k (q.2.vs.map (·.2)))) h2 nD (Nat.le_trans ok.2.2 (by decide)) (fun q0 hq H' Q' xx qq=>?_) (fun H1 hD x1=>?_)
   . try walk_at "rn"
     exact ⟨_,q0.2,rfl,(h3 q0 hq).ext xx,ok.2.1 q0 hq,fu q0 hq,qq⟩
   have e:(rows.map fun q=>V.str (gQ q.2.k (q.2.vs.map (·.2))))=(rows.map fun q=>gQ q.2.k (q.2.vs.map (·.2))).map V.str:=by rw [List.map_map];rfl
   rw [e] at hD
   have hl:∀ t∈rows.map fun q=>gQ q.2.k (q.2.vs.map (·.2)),t.length<=1800:=by
     intro t ht
     obtain ⟨q0,hq,rfl⟩:=List.mem_map.1 ht
     exact uJ (ok.2.1 q0 hq)
   have l4:=eY (sep:=Str.ofString ";") _ hl
   have l5:(Str.ofString ";").length=1:=by decide +kernel
   have l6:=ok.2.2
   rw [List.length_map,l5] at l4
   refine ⟨D,_,_,1800,rfl,hD,l5,hl,?_,by rw [List.length_map];omega,fun H2 x2=>?_⟩
   . intro t ht
     obtain ⟨q0,hq,rfl⟩:=List.mem_map.1 ht
     exact IW _ _
   refine ⟨_,rfl,?_,?_⟩
   . show (_++aC n++_).length + _<=_
     rw [Str.length_append,Str.length_append,Str.length_append]
     omega
   have qq:=q _ (x1.trans x2)
   have e2:(Rm.leaf n ra rows).x pl=Str.ofString "leaf"++Str.ofString " "++aC n++Str.ofString " "++bx (Str.ofString ";") (rows.map fun q=>gQ q.2.k (q.2.vs.map (·.2))):=by
     show Str.ofString "leaf"++Str.ofString " "++(aC n++Str.ofString " "++bx (Str.ofString ";") (rows.map fun q=>gQ q.2.k (q.2.vs.map (·.2))))=_
     simp only [Str.append_assoc]
   rw [e2] at qq
   exact qq
 | inner n pa lq ca ch ta dB=>
   obtain ⟨h1,h2,h3,h4,h5⟩:=hr'
   simp_arith [br h1,h1,s5]
   obtain ⟨okn,okp,lp,okc,lc,okt,lt⟩:=ok
   obtain ⟨aO,hd,hk⟩:=hp
   have n1:=aE okn
   have b1:(Str.ofString "inner").length=5:=by decide +kernel
   have b2:(Str.ofString " ").length=1:=oz
   have c1:(Str.ofString ",").length=1:=by decide +kernel
   have c2:(Str.ofString ";").length=1:=by decide +kernel
   have c3:(Str.ofString "@").length=1:=by decide +kernel
   have IQ:∀ t∈ch.map (dY pl),t.length<=203:=by
     intro t ht
     obtain ⟨c,hc,rfl⟩:=List.mem_map.1 ht
     have n1:=aE (okc c hc).1
     have n2:=aE (okc c hc).2
     unfold dY
     rw [Str.length_append,Str.length_append]
     omega
   have j1:=join_le (sep:=Str.ofString ",") _ IQ
   have j2:=eX (sep:=Str.ofString ",") _ IQ
   rw [List.length_map,c1] at j1 j2
   have K1:∀ t∈dB.map fun q=>q.2.x,t.length<=600:=by
     intro t ht
     obtain ⟨q0,hq,rfl⟩:=List.mem_map.1 ht
     exact Nt.len (okt q0 hq)
   have l2:=eY (sep:=Str.ofString ";") _ K1
   rw [List.length_map,c2] at l2
   have Qq:∀ t∈lq.map aC,t.length<=101:=by
     intro t ht
     obtain ⟨i,hi,rfl⟩:=List.mem_map.1 ht
     exact aE (okp i hi)
   have l3:=eY (sep:=Str.ofString ",") _ Qq
   rw [List.length_map,c1] at l3
   refine ⟨by omega,cM okn,by show _ + (aC n).length<=_;rw [Str.length_append];omega,by show (_++aC n).length + _<=_;rw [Str.length_append,Str.length_append];omega,?_⟩
   rw [e2]
   simp_arith [br h1,h1]
   refine ⟨⟨_,aZ.of h3⟩,fun D nD=>?_⟩
   refine oB (L:=ch) (f:=V.int) (g:=fun c=>V.str (dY pl c)) h3 nD (by omega) (fun c hc H' Q' xx qq=>?_) (fun H1 hD x1=>?_)
   . have n1:=aE (okc c hc).1
     have n2:=aE (okc c hc).2
     try walk_at "rn"
     refine ⟨cM (okc c hc).1,by show (aC c).length + _<=_;omega,.int (pl c),?_,_,rfl,cM (okc c hc).2,by show (aC c++_).length + (aC (pl c)).length<=_;rw [Str.length_append];omega,qq⟩
     rw [<- hk c hc]
     exact vq.k (k:=.inl c) (xx.at hd)
   have e:(ch.map fun c=>V.str (dY pl c))=(ch.map (dY pl)).map V.str:=by rw [List.map_map];rfl
   rw [e] at hD
   refine ⟨_,aZ.of hD,by omega,by omega,?_⟩
   rw [e3]
   simp_arith [br (x1.tup h1)]
   refine ⟨⟨_,aZ.of (x1.at h2)⟩,fun D2 nD2=>?_⟩
   refine oB (L:=lq) (f:=V.int) (g:=fun i=>V.str (aC i)) (x1.at h2) nD2 (by omega) (fun i hi H' Q' xx qq=>?_) (fun H2 rY x2=>?_)
   . try walk_at "rn"
     exact ⟨cM (okp i hi),qq⟩
   have e:(lq.map fun i=>V.str (aC i))=(lq.map aC).map V.str:=by rw [List.map_map];rfl
   rw [e] at rY
   refine ⟨D2,_,_,101,rfl,rY,c1,Qq,?_,by rw [List.length_map];omega,fun H3 x3=>?_⟩
   . intro t ht
     obtain ⟨i,hi,rfl⟩:=List.mem_map.1 ht
     exact jo i
   rw [e4]
   simp_arith [br ((x1.trans (x2.trans x3)).tup h1)]
   have en:Str.ofString (toString n)=aC n:=rfl
   rw [en]
   have Qs:=x1.trans (x2.trans x3)
   refine ⟨?_,?_,?_,?_,_,rfl,ta,rfl,⟨_,aZ.of (Qs.at h4)⟩,fun D3 nD3=>?_⟩
   iterate 4
     . simp only [Str.length_append]
       omega
   refine tO (L:=dB) (f:=fun q=>q.1) (g:=fun q=>V.str q.2.x) (Qs.at h4) nD3 (by omega) (fun q0 hq H' Q' xx qq=>?_) (fun H4 hD4 x4=>?_)
   . try walk_at "rn"
     exact ⟨_,q0.2,rfl,(h5 q0 hq).ext (Qs.trans xx),okt q0 hq,qq⟩
   have e:(dB.map fun q=>V.str q.2.x)=(dB.map fun q=>q.2.x).map V.str:=by rw [List.map_map];rfl
   rw [e] at hD4
   refine ⟨D3,_,_,600,rfl,hD4,c2,K1,?_,by rw [List.length_map];omega,fun H5 x5=>?_⟩
   . intro t ht
     obtain ⟨q0,hq,rfl⟩:=List.mem_map.1 ht
     exact Gd _
   refine ⟨_,rfl,?_,?_⟩
   . simp only [Str.length_append]
     omega
   have qq:=q _ (Qs.trans (x4.trans x5))
   have ec:bx (Str.ofString ",") (ch.map (dY pl))=Str.join (Str.ofString ",") (ch.map (dY pl)):=by
     unfold bx
     rw [if_neg]
     intro e
     rw [List.map_eq_nil_iff] at e
     have:0 < ch.length:=fu
     rw [e] at this
     exact absurd this (by decide)
   have e2:(Rm.inner n pa lq ca ch ta dB).x pl=Str.ofString "inner"++Str.ofString " "++aC n++Str.ofString " "++bx (Str.ofString ",") (lq.map aC)++Str.ofString " "++Str.join (Str.ofString ",") (ch.map (dY pl))++Str.ofString " "++bx (Str.ofString ";") (dB.map fun q=>q.2.x):=by
     rw [<- ec]
     show Str.ofString "inner"++Str.ofString " "++(aC n++Str.ofString " "++(bx (Str.ofString ",") (lq.map aC)++Str.ofString " "++(bx (Str.ofString ",") (ch.map (dY pl))++Str.ofString " "++bx (Str.ofString ";") (dB.map fun q=>q.2.x))))=_
     simp only [Str.append_assoc]
   rw [e2] at qq
   exact qq
end
section
variable {P:Program} {w:World} {K:PySem.W.Frag} {mg:Str->Option Value} {base:Heap}
theorem uP {α:Type} {R:V->α->Prop}:∀ vs:List V,(∀ v∈vs,∃ a,R v a)->∃ L:List (V×α),L.map (·.1)=vs/\∀ q∈L,R q.1 q.2
 | [],_=>⟨[],rfl,fun _ h=>by cases h⟩
 | v::vs,h=>by
   obtain ⟨L,e,hL⟩:=uP vs fun x m=>h x (List.mem_cons_of_mem _ m)
   obtain ⟨a,ha⟩:=h v List.mem_cons_self
   refine ⟨(v,a)::L,by rw [List.map_cons,e],fun q m=>?_⟩
   rcases List.mem_cons.1 m with rfl | m
   . exact ha
   . exact hL q m
theorem Ge {S:V->Hp->Prop} {p D:Addr} {H0 H' kY:Hp} {acc:List V} {v:V} (pD:p≠D) (hD:H' D=some (.lst acc))
   (yk:∀ v H1 H2,S v H1->Wl H1 p->(∃ xs,H1 D=some (.lst xs))->j5 K p D H1 H2->S v H2)
   (hS:∀ v∈acc,S v H') (hp:Wl H' p) (k:j5 K p D H0 H') (hv:S v kY) (j7:Wl kY p) (k2:Kp K p H' kY):
   kY D=some (.lst acc)/\(∀ u∈acc++[v],S u (upd kY D (.lst (acc++[v]))))/\Wl (upd kY D (.lst (acc++[v]))) p/\j5 K p D H0 (upd kY D (.lst (acc++[v]))):=by
 have rY:=k2.keep D _ hD pD.symm
 have k3:j5 K p D kY (upd kY D (.lst (acc++[v]))):=Kp.r (Kp.upd rY)
 refine ⟨rY,fun u hu=>?_,j7.upd pD,k.trans (k2.l.trans k3)⟩
 rcases List.mem_append.1 hu with h | h
 . exact yk u _ _ (yk u _ _ (hS u h) hp ⟨_,hD⟩ k2.l) j7 ⟨_,rY⟩ k3
 . rw [List.mem_singleton] at h
   subst h
   exact yk u _ _ hv j7 ⟨_,rY⟩ k3
theorem DK {α:Type} {p c D:Addr} {L:List α} {f:α->V} {te:TE} {v0:Option V} {rest:St} {H:Hp} {Q:Hp->Prop} (S:α->V->Hp->Prop) (hk:H c=some (.lst (L.map f))) (nD:new K H D) (hp:Wl H p) (cp:c≠p) (hz:L.length<=1000)
   (yk:∀ a v H1 H2,S a v H1->Wl H1 p->(∃ xs,H1 D=some (.lst xs))->j5 K p D H1 H2->S a v H2)
   (elt:∀ q∈L,∀ H' (Q:VK),Wl H' p->(∃ xs,H' D=some (.lst xs))->(∀ v kY,S q v kY->Wl kY p->Kp K p H' kY->Q v kY)->te (some (f q)::rest) H' Q)
   (fin:∀ (ps:List (V×α)) H',H' D=some (.lst (ps.map (·.1)))->ps.map (·.2)=L->(∀ q∈ps,S q.2 q.1 H')->Wl H' p->j5 K p D (upd H D (.lst [])) H'->Q H'):dj (AB K c) (fH 0) lZ te D Q (v0::rest) (upd H D (.lst [])):=by
 have pD:p≠D:=(hp.ne nD).symm
 refine ow (xs:=L.map f) (fun i acc σ' H'=>∃ (v0:Option V) (ps:List (V×α)),σ'=v0::rest/\acc=ps.map (·.1)/\H' D=some (.lst (ps.map (·.1)))/\ps.length=i/\ps.map (·.2)=L.take i/\(∀ q∈ps,S q.2 q.1 H')/\Wl H' p/\j5 K p D (upd H D (.lst [])) H') ?_ ?_ ?_ ?_
 . exact ⟨_,[],rfl,rfl,ah,rfl,rfl,(fun _ h=>by cases h),hp.upd pD,j5.refl⟩
 . rintro i acc σ' H' _ ⟨v0,ps,rfl,rfl,hD,rfl,_,_,_,k⟩
   have cD:c≠D:=bq hk nD.1
   exact aZ.of (k.keep c _ (by rw [aV cD];exact hk) cp cD)
 . rintro i x acc σ' H' hx ⟨v0,ps,rfl,rfl,hD,rfl,hT,hS,oX,k⟩
   have hi:ps.length < L.length:=by
     have:=(List.getElem?_eq_some_iff.1 hx).1
     rwa [List.length_map] at this
   rw [List.getElem?_map] at hx
   obtain ⟨q,ek,rfl⟩:=Option.map_eq_some_iff.mp hx
   unfold fH lZ
   refine AN ?_
   refine elt q (List.mem_of_getElem? ek) H' _ oX ⟨_,hD⟩ fun v kY hv j7 k2=>?_
   have rY:=k2.keep D _ hD pD.symm
   have k3:j5 K p D kY (upd kY D (.lst (ps.map (·.1)++[v]))):=Kp.r (Kp.upd rY)
   have em:(ps++[(v,q)]).map (·.1)=ps.map (·.1)++[v]:=by rw [List.map_append];rfl
   refine ⟨rY,by rw [List.length_map];exact Nat.lt_of_lt_of_le hi (Nat.le_trans hz (by decide)),_,ps++[(v,q)],rfl,em.symm,by rw [em];exact ah,by rw [List.length_append];rfl,?_,fun u hu=>?_,j7.upd pD,k.trans (k2.l.trans k3)⟩
   . rw [List.map_append,hT,List.take_add_one,ek]
     rfl
   rcases List.mem_append.1 hu with h | h
   . exact yk _ _ _ _ (yk _ _ _ _ (hS u h) oX ⟨_,hD⟩ k2.l) j7 ⟨_,rY⟩ k3
   . rw [List.mem_singleton] at h
     subst h
     exact yk _ _ _ _ hv j7 ⟨_,rY⟩ k3
 . rintro acc σ' H' ⟨v0,ps,rfl,rfl,hD,e,hT,hS,oX,k⟩
   rw [List.length_map,List.take_length] at hT
   exact fin ps H' hD hT hS oX k
theorem uQ {α β:Type} {R:β->V->α->Prop}:∀ ps:List (V×β),(∀ q∈ps,∃ a,R q.2 q.1 a)->∃ L:List (V×α),L.map (·.1)=ps.map (·.1)/\(∀ g:α->β,(∀ b v a,R b v a->g a=b)->L.map (fun q=>g q.2)=ps.map (·.2))/\∀ q∈L,∃ b,R b q.1 q.2
 | [],_=>⟨[],rfl,fun _ _=>rfl,fun _ h=>by cases h⟩
 | v::vs,h=>by
   obtain ⟨L,e,eg,hL⟩:=uQ vs fun x m=>h x (List.mem_cons_of_mem _ m)
   obtain ⟨a,ha⟩:=h v List.mem_cons_self
   refine ⟨(v.1,a)::L,by rw [List.map_cons,List.map_cons,e],fun g hg=>by rw [List.map_cons,List.map_cons,eg g hg,hg _ _ _ ha],fun q m=>?_⟩
   rcases List.mem_cons.1 m with rfl | m
   . exact ⟨_,ha⟩
   . exact hL q m
theorem wC {p D:Addr} {n:Nat} {te:TE} {v0:Option V} {rest:St} {H:Hp} {Q:Hp->Prop} (S:V->Hp->Prop) (nD:new K H D) (hp:Wl H p) (hz:n<=1000)
   (yk:∀ v H1 H2,S v H1->Wl H1 p->(∃ xs,H1 D=some (.lst xs))->j5 K p D H1 H2->S v H2)
   (elt:∀ (x:V) H' (Q:VK),Wl H' p->(∃ xs,H' D=some (.lst xs))->(∀ v kY,S v kY->Wl kY p->Kp K p H' kY->Q v kY)->te (some x::rest) H' Q)
   (fin:∀ vs H',H' D=some (.lst vs)->vs.length=n->(∀ v∈vs,S v H')->Wl H' p->j5 K p D (upd H D (.lst [])) H'->Q H'):dj (BR 0 n) (fH 0) lZ te D Q (v0::rest) (upd H D (.lst [])):=by
 have pD:p≠D:=(hp.ne nD).symm
 refine Ff (fun i acc σ' H'=>∃ (v0:Option V),σ'=v0::rest/\H' D=some (.lst acc)/\acc.length=i/\(∀ v∈acc,S v H')/\Wl H' p/\j5 K p D (upd H D (.lst [])) H') ?_ ?_ ?_
 . exact ⟨_,rfl,ah,rfl,(fun _ h=>by cases h),hp.upd pD,j5.refl⟩
 . rintro i acc σ' H' hi ⟨v0,rfl,hD,rfl,hS,oX,k⟩
   unfold fH lZ
   refine AN ?_
   refine elt _ H' _ oX ⟨_,hD⟩ fun v kY hv j7 k2=>?_
   obtain ⟨a1,a2,a3,a4⟩:=Ge pD hD yk hS oX k hv j7 k2
   exact ⟨a1,Nat.lt_of_lt_of_le hi (Nat.le_trans hz (by decide)),_,rfl,ah,by rw [List.length_append];rfl,a2,a3,a4⟩
 . rintro acc σ' H' ⟨v0,rfl,hD,e,hS,oX,k⟩
   exact fin acc H' hD e hS oX k
theorem j5.tup {p D a:Addr} {H H':Hp} {xs ys zs:List V} (k:j5 K p D H H') (hp:H p=some (.lst ys)) (hD:H D=some (.lst zs)) (h:tupQ K H a=some xs):tupQ K H' a=some xs:=by
 unfold tupQ at h ⊢
 cases e:H a with
 | none=>
   rw [e] at h
   rw [k.mod a xs e h]
   exact h
 | some o=>
   rw [k.keep a o e (fun z=>by rw [z,hp] at e;cases e;rw [z,hp] at h;cases h) (fun z=>by rw [z,hD] at e;cases e;rw [z,hD] at h;cases h)]
   rw [e] at h
   exact h
theorem Kp.Th {p:Addr} {H:Hp} {u o:HO} (h:H p=some u):Kp K p H (upd H p o):=⟨fun q u e n=>by rw [aV n];exact e,fun b ys e _=>by rw [aV (fun z=>by rw [z,h] at e;cases e)];exact e⟩
theorem Gf {aO:List (Key×V)} {k:Key} {v:V} {q:Key×V} (h:q∈putK aO k v):q=(k,v)∨(q∈aO/\q.1≠k):=by
 unfold putK at h
 split at h
 . obtain ⟨r,hr,rfl⟩:=List.mem_map.1 h
   by_cases e:r.1=k
   . rw [if_pos e,e]
     exact .inl rfl
   . rw [if_neg e]
     exact .inr ⟨hr,e⟩
 . rename_i c
   rcases List.mem_append.1 h with h | h
   . refine .inr ⟨h,fun e=>c ?_⟩
     rw [List.any_eq_true]
     exact ⟨q,h,decide_eq_true e⟩
   . rw [List.mem_singleton] at h
     exact .inl h
def PK (aO:List (Key×V)):Prop:=∀ q∈aO,∃ k i,q=(.inl k,.int i)/\gM aO (.inl k)=some (.int i)/\0<=i/\i.natAbs < 10 ^ 60
theorem PK.put {aO:List (Key×V)} (h:PK aO) {k i:Int} (hi:0<=i/\i.natAbs < 10 ^ 60):PK (putK aO (.inl k) (.int i)):=by
 intro q hq
 rcases Gf hq with rfl | ⟨m,ne⟩
 . exact ⟨k,i,rfl,by rw [qf,if_pos rfl],hi⟩
 . obtain ⟨k',i',rfl,e,b⟩:=h q m
   exact ⟨k',i',rfl,by rw [qf,if_neg ne];exact e,b⟩
def Gg (aO:List (Key×V)) (c:Int):Int:=match gM aO (.inl c) with
 | some (.int i)=>i
 | _=>0
structure DAt (H:Hp) (d:Addr) (aO:List (Key×V)):Prop where
 at_:H d=some (.dK aO)
 whole:∀ q∈aO,∃ k i,q=(.inl k,.int i)/\gM aO (.inl k)=some (.int i)
 Ti:aO.length<=60
structure Tj (r:Row):Prop where
 k:0<=r.k/\r.k < 10 ^ 12
 v:∀ q∈r.vs,0<=q.2.1/\Lx q.2
 up:(r.vs.map fun q=>q.2.1).Pairwise (· < ·)
def Rm.sm (pl:Int->Int):Rm->Prop
 | .leaf n _ rows=>(0<=n/\n.natAbs < 10 ^ 60)/\(∀ q∈rows,Tj q.2)/\(rows.map fun q=>q.2.k).Pairwise (· < ·)
 | .inner n _ lq _ ch _ dB=>(0<=n/\n.natAbs < 10 ^ 60)/\(∀ i∈lq,i.natAbs < 10 ^ 60)/\(∀ c∈ch,(0<=c/\c.natAbs < 10 ^ 60)/\(0<=pl c/\(pl c).natAbs < 10 ^ 60))/\ch.Nodup/\ch.length=lq.length + 1/\∀ q∈dB,Qo q.2
def yl (K:PySem.W.Frag):Sp:=fun vs H Q _=>∃ (p:Addr) (m:Int),vs=[.ref p,.int m]/\Wl H p/\3<=m/\m<=26/\
 ∀ (t a d:Addr) (r:Rm) (pl:Int->Int) (aO:List (Key×V)) (H':Hp),tupQ K H' t=some [.ref a,.ref d]->r.at K H' a->DAt H' d aO->(∀ c∈r.ch,gM aO (.inl c)=some (.int (pl c)))->r.ok pl->r.full->r.sm pl->Wl H' p->Kp K p H H'->Q (.ref t) H'
theorem cA:aD ["_law_state","_law_most","_law_keys_here","_law_many","_law_children","_law_turn","_law_places","_law_child","_law_pivots","_law_tray"] ["_law_state","_law_most"] (af iF):=⟨rfl,rfl,rfl,by decide +kernel,rfl,by decide +kernel,by decide +kernel⟩
theorem ym {f:Addr} {fd:FuncData} (F:fh K "_law_room" "_law_room" iF f fd) {aG aP cF cR cN:Addr} {tE tF t1 t2 t3 t4:Tok} (B:B K mg aG aP cF cR cN tE tF t1 t2 t3 t4) (aj:Callee P w K mg base "_law_digit" 1 ["_law_state","_law_base"] (gF K)) (bg:Callee P w K mg base "_law_rising" 2 ["_law_state","_law_many","_law_first_here"] (lH K)) (aY:Callee P w K mg base "_law_first" 2 ["_law_state"] (oE K)) (bD:Callee P w K mg base "_law_number" 2 ["_law_state"] (nI K)) (ki:Callee P w K mg base "_law_note" 3 ["_law_state"] (yc K)) (gH:Callee P w K mg base "_law_versions" 3 ["_law_state","_law_most"] (pR K)) (kj:Callee P w K mg base "_law_keys" 3 ["_law_state","_law_many"] (Bb K)) (jv:Callee P w K mg base "_law_some" 2 ["_law_state","_law_most"] (Bc K)):bf P w K mg base eZ 4 f fd ["_law_state","_law_most"] (yl K):=by
 refine F.gP cA (fun vs H Q E h=>?_) (fun cG A outer s H vs Q E hr h=>?_)
 . obtain ⟨p,m,rfl,_⟩:=h
   rfl
 obtain ⟨p,m,rfl,hp,m0,m1,q⟩:=h
 refine ⟨_,(av (jD (cj cS (au aj (hr.mono (by decide)) rfl (aa (ev 0) (aa ei ai))) ei (aI _)) (av (sset (i:=2) cA.nd rfl (Or.inl rfl) (au kj (hr.mono (by decide)) rfl (aa (ev 0) (aa (au jv (hr.mono (by decide)) rfl (aa (ev 0) (aa (ev 1) ai))) ai))))
     (aK (aW (dN (aa (dN (aa aS (aa (au aY (hr.mono (by decide)) rfl (aa (ev 0) ai)) (aa (rz (jO.mk (N:=["_law_key","_law_state","_law_most"]) (src:=[none,some 0,some 1]) rfl rfl) rfl (cI (ev 2)) (fun _ _ _ _=>(aA (i:=0) (show (["_law_key","_law_state","_law_most"]:List Str).Nodup from by decide +kernel) rfl (Or.inl rfl))) (fun _ _ _ _=>cU) (fun _ _ _ _=>(Lg K (aa (ev 0) (aa (au gH (hr.mono (by decide)) rfl (aa (ev 1) (aa (ev 2) ai))) ai))))) ai)))) (aa xy ai)))))) cY)
     (av (sset (i:=3) cA.nd rfl (Or.inl rfl) (cT dD ei (au aj (hr.mono (by decide)) rfl (aa (ev 0) (aa (iJ ck (bO (aa ei (aa ei (aa ei (aa ei (aa (ev 1) ai)))))) (au aj (hr.mono (by decide)) rfl (aa (ev 0) (aa ei ai))) (fun _ _=>rfl)) ai)))))
     (av (sset (i:=4) cA.nd rfl (Or.inl rfl) (au bg (hr.mono (by decide)) rfl (aa (ev 0) (aa (ev 3) (aa (au aY (hr.mono (by decide)) rfl (aa (ev 0) ai)) ai)))))
     (av (sset (i:=5) cA.nd rfl (Or.inl rfl) (au aj (hr.mono (by decide)) rfl (aa (ev 0) (aa (ev 3) ai))))
     (av (sset (i:=4) cA.nd rfl (Or.inl rfl) (cT fU (gw iN (ev 4) (jF (ev 5)) jE) (gw iN (ev 4) jE (jF (ev 5)))))
     (av (sset (i:=6) cA.nd rfl (Or.inl rfl) xy)
     (av (um PassesOwn.never rfl (cI (ev 4)) (aA (i:=7) cA.nd rfl (Or.inl rfl))
       (aK (NF hr.units (ev 6) (ev 7) (au aj (hr.mono (by decide)) rfl (aa (ev 0) (aa (iJ ck (bO (aa ei (aa ei (aa (ja 1000000) (aa (ja 1000000000000000000000000000000000000000000000000000000000000) ai))))) (au aj (hr.mono (by decide)) rfl (aa (ev 0) (aa ei ai))) (fun _ _=>rfl)) ai))))))
     (av (Mn (i:=8) cA.nd rfl (Or.inl rfl) (jO.mk (N:=["_law_k","_law_state"]) (src:=[none,some 0]) rfl rfl) rfl (qk rfl B.range (aa (cT iK (ev 3) ei) ai)) (fun _ _ _ _=>(aA (i:=0) (show (["_law_k","_law_state"]:List Str).Nodup from by decide +kernel) rfl (Or.inl rfl))) (fun _ _ _ _=>cU) (fun _ _ _ _=>(au bD (hr.mono (by decide)) rfl (aa (ev 1) ai))))
     (av (Mn (i:=9) cA.nd rfl (Or.inl rfl) (jO.mk (N:=["_law_k","_law_state"]) (src:=[none,some 0]) rfl rfl) rfl (qk rfl B.range (aa (au jv (hr.mono (by decide)) rfl (aa (ev 0) (aa (ev 1) ai))) ai)) (fun _ _ _ _=>(aA (i:=0) (show (["_law_k","_law_state"]:List Str).Nodup from by decide +kernel) rfl (Or.inl rfl))) (fun _ _ _ _=>cU) (fun _ _ _ _=>(au ki (hr.mono (by decide)) rfl (aa (ev 1) ai))))
     (aK (aW (dN (aa (dN (aa aS (aa (au aY (hr.mono (by decide)) rfl (aa (ev 0) ai)) (aa (ev 8) (aa (ev 4) (aa (ev 9) ai)))))) (aa (ev 6) ai)))))))))))))),?_⟩
 try walk_at "rn"
 refine ⟨p,2,rfl,hp,by decide,by decide,fun c H1 c0 c1 oX k1=>?_⟩
 try walk_at "rn"
 refine gO (fun _=>?_) (fun _=>?_)
 . refine ⟨p,m,rfl,oX,by omega,by omega,fun n H2 n0 n1 j7 k2=>?_⟩
   obtain ⟨n',rfl⟩:=Int.eq_ofNat_of_zero_le n0
   refine ⟨p,n',rfl,j7,by omega,fun r ns H3 hr3 ln hb pw nr hp3 k3=>?_⟩
   have rp:r≠p:=fun e=>by
     subst e
     obtain ⟨xs,hx⟩:=j7.lst
     rw [nr] at hx
     cases hx
   refine ⟨p,rfl,hp3,fun i H4 i0 i1 rW k4=>?_⟩
   have NQ:=k4.keep r _ hr3 rp
   try walk_at "rn"
   refine ⟨⟨_,aZ.of NQ⟩,fun D nD=>?_⟩
   refine DK (p:=p) (L:=ns) (f:=V.int) (fun j v H=>∃ e:Row,e.k=j/\qA K H v e/\wB e/\0 < e.vs.length/\Tj e/\e.a≠p/\e.a≠D) NQ nD rW rp (by omega) ?_ ?_ ?_
   . rintro j v H1 H2 ⟨e,ej,⟨t,rfl,h1,h2,h3⟩,ok,l0,sm,a1,a2⟩ hp ⟨xs,hD⟩ k
     obtain ⟨ys,hy⟩:=hp.lst
     exact ⟨e,ej,⟨t,rfl,j5.tup k hy hD h1,k.keep _ _ h2 a1 a2,fun q hq=>let ⟨t,e,h⟩:=h3 q hq;⟨t,e,j5.tup k hy hD h⟩⟩,ok,l0,sm,a1,a2⟩
   . intro j hj H' Q' hp' IP qq
     try walk_at "rn"
     refine ⟨p,m,rfl,hp',m0,by omega,fun a L H5 ha hL hV hU l0 l1 uM k5 na t nt=>?_⟩
     have xt:=Ext.new (K:=K) (o:=.tup [V.int j,V.ref a]) nt
     refine qq _ _ ⟨⟨j,a,L⟩,rfl,⟨t,rfl,aN,xt.at ha,fun q hq=>(hL q hq).1.ext xt⟩,⟨?_,fun q hq=>(hL q hq).2,l1⟩,l0,⟨hb j hj,hV,hU⟩,?_,?_⟩ (uM.ext xt) (k5.trans xt.kp)
     . have:=hb j hj
       show j.natAbs < _
       omega
     . rintro rfl
       obtain ⟨xs,hx⟩:=hp'.lst
       rw [na] at hx
       cases hx
     . rintro rfl
       obtain ⟨xs,hx⟩:=IP
       rw [na] at hx
       cases hx
   intro ps H5 hD5 lv hS uM k5
   obtain ⟨rows,er,eg,hrows⟩:=uQ (R:=fun (j:Int) v (e:Row)=>e.k=j/\qA K H5 v e/\wB e/\0 < e.vs.length/\Tj e/\e.a≠p/\e.a≠D) ps hS
   have ek:=eg Row.k fun _ _ _ h=>h.1
   rw [lv] at ek
   rw [<- er] at hD5
   have lv:rows.length=ns.length:=by rw [<- ek,List.length_map]
   have Hw:=k1.trans (k2.trans (k3.trans (k4.trans (k5.kp nD))))
   try walk_at "rn"
   intro a na d nd t nt
   have xa:=Ext.new (K:=K) (o:=.tup [V.str "leaf",V.int i,V.ref D]) na
   have xd:=Ext.new (K:=K) (o:=.dK []) nd
   have xt:=Ext.new (K:=K) (o:=.tup [V.ref a,V.ref d]) nt
   have x:=xa.trans (xd.trans xt)
   refine q t a d (.leaf i D rows) (fun _=>0) [] _ aN ⟨(xd.trans xt).tup aN,x.at hD5,fun q hq=>(hrows q hq).elim fun _ h=>h.2.1.ext x⟩ ⟨xt.at ah,(fun _ h=>by cases h),by decide⟩ (fun _ h=>by cases h) ⟨?_,fun q hq=>(hrows q hq).elim fun _ h=>h.2.2.1,by omega⟩ (fun q hq=>(hrows q hq).elim fun _ h=>h.2.2.2.1) ⟨⟨i0,by omega⟩,fun q hq=>(hrows q hq).elim fun _ h=>h.2.2.2.2.1,by rw [ek];exact pw⟩ (uM.ext x) (Hw.trans x.kp)
   omega
 . intro D nD
   have x1:=Ext.new (K:=K) (o:=.lst [V.int 1,V.int 3,V.int 3,V.int 5,V.int m]) nD
   refine ⟨p,5,rfl,oX.ext x1,by decide,by decide,fun d H2 d0 d1 j7 k2=>?_⟩
   simp_arith [bC (k2.keep D _ ah (oX.ne nD))]
   obtain ⟨b,hb,eb⟩:=o9 [1,3,3,5,m] (i:=d) d0 d1
   have bb:0 < b/\b<=26:=by
     simp only [List.mem_cons,List.not_mem_nil,or_false] at hb
     rcases hb with rfl | rfl | rfl | rfl | rfl <;> omega
   refine ⟨_,eb,p,b,rfl,j7,bb.1,by omega,fun j H3 j0 j1 hp3 k3=>?_⟩
   try walk_at "rn"
   refine ⟨p,rfl,hp3,fun i H4 i0 i1 rW k4=>?_⟩
   obtain ⟨n,en⟩:=Int.eq_ofNat_of_zero_le (a:=1 + j) (by omega)
   refine ⟨p,n,i,by rw [en],rW,by omega,i0,Int.le_of_lt i1,fun r ns H5 hr5 ln Qa pw nr uM k5=>?_⟩
   have Hw:=k1.trans (x1.kp.trans (k2.trans (k3.trans (k4.trans k5))))
   have rp:r≠p:=fun e=>by
     subst e
     obtain ⟨xs,hx⟩:=rW.lst
     rw [nr] at hx
     cases hx
   try walk_at "rn"
   refine ⟨p,_,rfl,uM,by omega,by omega,fun u H6 u0 u1 hp6 k6=>?_⟩
   have hr6:=k6.keep r _ hr5 rp
   try walk_at "rn"
   obtain ⟨u',rfl⟩:=Int.eq_ofNat_of_zero_le u0
   refine ⟨_,aZ.of hr6,fun b1 n1=>?_⟩
   have y1:=Ext.new (K:=K) (o:=.lst (iL (ns.map V.int) (some (u':Int)) none)) n1
   refine ⟨_,aZ.of (y1.at hr6),fun b2 n2=>?_⟩
   have y2:=Ext.new (K:=K) (o:=.lst (iL (ns.map V.int) none (some (u':Int)))) n2
   refine ⟨_,y2.at ah,?_,fun ca nca d nd=>?_⟩
   . have h1:=ni (ns.map V.int) (some (u':Int)) none
     have h2:=ni (ns.map V.int) none (some (u':Int))
     rw [List.length_map] at h1 h2
     omega
   have ech:iL (ns.map V.int) (some (u':Int)) none++iL (ns.map V.int) none (some (u':Int))=(ns.drop u'++ns.take u').map V.int:=by
     rw [ou,tM,List.map_append,List.map_drop,List.map_take]
   rw [ech] at nd ⊢
   have lch:(ns.drop u'++ns.take u').length=n:=by
     rw [List.length_append,List.length_drop,List.length_take]
     omega
   have ndc:(ns.drop u'++ns.take u').Nodup:=by
     have h1:ns.Nodup:=pw.imp fun h=>by omega
     rw [<- List.take_append_drop u' ns] at h1
     exact (List.perm_append_comm.nodup_iff).mp h1
   have Tn:∀ c∈ns.drop u'++ns.take u',0<=c/\c.natAbs < 10 ^ 60:=by
     intro c hc
     have hm:c∈ns:=by
       rcases List.mem_append.1 hc with h | h
       . exact List.mem_of_mem_drop h
       . exact List.mem_of_mem_take h
     have:=Qa c hm
     omega
   generalize ns.drop u'++ns.take u'=ch at nd lch Tn ndc ⊢
   clear ech
   have y3:=Ext.new (K:=K) (o:=.lst (ch.map V.int)) nca
   have y4:=Ext.new (K:=K) (o:=.dK []) nd
   have x9:=y1.trans (y2.trans (y3.trans y4))
   have Lz:=hp6.ext x9
   have IX:=y4.at (ah (H:=upd (upd H6 b1 (.lst (iL (ns.map V.int) (some (u':Int)) none))) b2 (.lst (iL (ns.map V.int) none (some (u':Int))))) (a:=ca) (o:=.lst (ch.map V.int)))
   have Mw:=Hw.trans (k6.trans x9.kp)
   have NR:ca≠p:=(hp6.ext (y1.trans y2)).ne nca
   have dp:d≠p:=(hp6.ext (y1.trans (y2.trans y3))).ne nd
   have hdn:H d=none:=(hp6.ext (y1.trans (y2.trans y3))).back (Hw.trans (k6.trans (y1.trans (y2.trans y3)).kp)) nd.1
   have cad:ca≠d:=bq ah nd.1
   have hd9:upd (upd (upd (upd H6 b1 (.lst (iL (ns.map V.int) (some (u':Int)) none))) b2 (.lst (iL (ns.map V.int) none (some (u':Int))))) ca (.lst (ch.map V.int))) d (.dK []) d=some (.dK []):=ah
   generalize upd (upd (upd (upd H6 b1 (.lst (iL (ns.map V.int) (some (u':Int)) none))) b2 (.lst (iL (ns.map V.int) none (some (u':Int))))) ca (.lst (ch.map V.int))) d (.dK [])=H9 at Lz IX Mw hd9 ⊢
   refine ⟨⟨_,aZ.of IX⟩,?_⟩
   refine jN (xs:=ch.map V.int) (fun k σ H'=>∃ (v7:Option V) (aO:List (Key×V)),σ=[some (.ref p),some (.int m),none,some (.int (1 + j)),some (.ref ca),some (.int u'),some (.ref d),v7,none,none]/\H' d=some (.dK aO)/\PK aO/\(∀ c∈ch.take k,∃ i,gM aO (.inl c)=some (.int i))/\aO.length<=k/\Wl H' p/\j5 K p d H9 H') ⟨_,[],rfl,hd9,(fun _ h=>by cases h),(fun _ h=>by cases h),Nat.le_refl _,Lz,j5.refl⟩ ?_ ?_ ?_
   . rintro k σ H' _ ⟨_,_,_,_,_,_,_,_,kk⟩
     exact aZ.of (kk.keep ca _ IX NR cad)
   . rintro k x σ H' hx ⟨v7,aO,rfl,hd,pk,hc,lk,hp',kk⟩
     rw [List.getElem?_map] at hx
     obtain ⟨c,hcc,rfl⟩:=Option.map_eq_some_iff.mp hx
     have hk:k < ch.length:=(List.getElem?_eq_some_iff.1 hcc).1
     try walk_at "rn"
     intro D2 nD2
     have z1:=Ext.new (K:=K) (o:=.lst [V.int 2,V.int 10,V.int 1000000,V.int 1000000000000000000000000000000000000000000000000000000000000]) nD2
     refine ⟨p,4,rfl,hp'.ext z1,by decide,by decide,fun e H2 e0 e1 j7 k2=>?_⟩
     simp_arith [bC (k2.keep D2 _ ah (hp'.ne nD2))]
     obtain ⟨b,hb,eb⟩:=o9 [2,10,10 ^ 6,10 ^ 60] (i:=e) e0 e1
     have bb:0 < b/\b<=10 ^ 60:=by
       simp only [List.mem_cons,List.not_mem_nil,or_false] at hb
       rcases hb with rfl | rfl | rfl | rfl <;> exact ⟨by decide,by decide⟩
     refine ⟨_,eb,p,b,rfl,j7,bb.1,by omega,fun v H3 v0 v1 hp3 k3=>?_⟩
     have hd3:=k3.keep d _ (k2.keep d _ (z1.at hd) dp) dp
     try walk_at "rn"
     refine ⟨_,AM.k (k:=.inl c) hd3 (Nat.lt_of_le_of_lt (show aO.length<=40 by omega) (by decide)),putK aO (.inl c) (.int v),ah,pk.put ⟨v0,by omega⟩,fun c' vg=>?_,Nat.le_trans (nu _ _ _) (Nat.succ_le_succ lk),hp3.upd dp.symm,kk.trans (z1.Mm.trans (k2.l.trans (k3.l.trans (Kp.r (Kp.Th hd3)))))⟩
     rw [qf]
     by_cases e:(Sum.inl c':Key)=.inl c
     . rw [if_pos e]
       exact ⟨_,rfl⟩
     . rw [if_neg e]
       rw [List.take_add_one,hcc,Option.toList_some] at vg
       rcases List.mem_append.1 vg with h | h
       . exact hc c' h
       . rw [List.mem_singleton] at h
         exact absurd (congrArg _ h) e
   rintro σ H' ⟨v7,aO,rfl,hd,pk,hc,lk,hp',kk⟩
   rw [List.length_map] at hc lk
   rw [List.take_length] at hc
   have To:=kk.keep ca _ IX NR cad
   try walk_at "rn"
   refine ⟨by omega,by omega,fun pa npa=>?_⟩
   have pap:pa≠p:=hp'.ne npa
   refine wC (p:=p) (fun v H=>∃ i:Int,v=.int i/\i.natAbs < 10 ^ 60) npa hp' (by omega) (fun _ _ _ h _ _ _=>h) ?_ ?_
   . intro x H2 Q2 j7 rY qq
     try walk_at "rn"
     exact ⟨p,rfl,j7,fun i H3 ib hp3 k3=>qq _ _ ⟨i,rfl,ib⟩ hp3 k3⟩
   intro vs HB hpaB lpa hS hpB kB
   obtain ⟨pL,rfl,hpL⟩:=uP vs hS
   have epL:pL.map (·.1)=(pL.map (·.2)).map V.int:=by
     rw [List.map_map]
     exact List.map_congr_left fun q hq=>(hpL q hq).1
   rw [epL] at hpaB lpa
   rw [List.length_map] at lpa
   have Tp:∀ i∈pL.map (·.2),i.natAbs < 10 ^ 60:=by
     intro i hi
     obtain ⟨q0,hq,rfl⟩:=List.mem_map.1 hi
     exact (hpL q0 hq).2
   generalize pL.map (·.2)=lq at hpaB lpa Tp
   clear epL hS hpL
   have Mx:Kp K p H H':=⟨fun r o h n=>kk.keep r o (Mw.keep r o h n) n (fun e=>by subst e;rw [hdn] at h;cases h),fun a xs h k=>kk.mod a xs (Mw.mod a xs h k) k⟩
   have Tq:=kB.kp npa
   have Tr:=Tq.keep ca _ To NR
   have hdB:=Tq.keep d _ hd dp
   refine ⟨p,m,rfl,hpB,by omega,by omega,fun e HC e0 e1 hpC kC=>?_⟩
   try walk_at "rn"
   refine ⟨by omega,by omega,fun ta nta=>?_⟩
   have tap:ta≠p:=hpC.ne nta
   refine wC (p:=p) (fun v H=>∃ e:Nt,mC K H v e/\e.ok/\Qo e) nta hpC (by omega) ?_ ?_ ?_
   . rintro v G1 G2 ⟨e,⟨a,w,r,s,rfl,h1,h2,h3,h4⟩,ok⟩ hp ⟨xs,hD⟩ k
     obtain ⟨ys,hy⟩:=hp.lst
     exact ⟨e,⟨a,w,r,s,rfl,j5.tup k hy hD h1,j5.tup k hy hD h2,j5.tup k hy hD h3,j5.tup k hy hD h4⟩,ok⟩
   . intro x G2 Q2 j7 rY qq
     try walk_at "rn"
     exact ⟨p,rfl,j7,fun v e H3 ne oke sme hp3 k3=>qq _ _ ⟨e,ne,oke,sme⟩ hp3 k3⟩
   intro vs HD htaD lta hS hpD kD
   obtain ⟨dB,rfl,htray⟩:=uP vs hS
   rw [List.length_map] at lta
   have Qt:=kC.trans (kD.kp nta)
   have Tt:=Qt.keep ca _ Tr NR
   have hdD:=Qt.keep d _ hdB dp
   have Tu:=Qt.keep pa _ hpaB pap
   refine ⟨p,rfl,hpD,fun f HE f0 f1 hpE kE=>?_⟩
   try walk_at "rn"
   intro a na t nt
   obtain ⟨ysD,hyD⟩:=hpD.lst
   have xa:=Ext.new (K:=K) (o:=.tup [V.str "inner",V.int f,V.ref pa,V.ref ca,V.ref ta]) na
   have xt:=Ext.new (K:=K) (o:=.tup [V.ref a,V.ref d]) nt
   have x:=xa.trans xt
   have plb:∀ c∈ch,0<=Gg aO c/\(Gg aO c).natAbs < 10 ^ 60:=fun c vg=>by
     obtain ⟨i,e⟩:=hc c vg
     have hm:((.inl c,.int i):Key×V)∈aO:=by
       unfold gM at e
       obtain ⟨q,hq,e2⟩:=Option.map_eq_some_iff.mp e
       have h1:=List.find?_some hq
       have h2:=List.mem_of_find?_eq_some hq
       have h3:=of_decide_eq_true h1
       have:q=(.inl c,.int i):=Prod.ext h3 e2
       rwa [this] at h2
     obtain ⟨k',i',e1,e2,b⟩:=pk _ hm
     have:i=i':=by injection e1 with _ e1;injection e1
     unfold Gg
     rw [e]
     show 0<=i/\i.natAbs < _
     rw [this]
     exact b
   refine q t a d (.inner f pa lq ca ch ta dB) (Gg aO) aO _ aN ⟨xt.tup aN,x.at (kE.keep pa _ Tu pap),x.at (kE.keep ca _ Tt NR),x.at (kE.keep ta _ htaD tap),fun q hq=>?_⟩ ⟨x.at (kE.keep d _ hdD dp),fun q hq=>?_,by omega⟩ (fun c vg=>?_) ⟨by omega,fun i hi=>by have:=Tp i hi;omega,by omega,fun c vg=>⟨by have:=Tn c vg;omega,by have:=plb c vg;omega⟩,by omega,fun q hq=>(htray q hq).2.1,by omega⟩ (show 0 < ch.length by omega) ⟨⟨f0,by omega⟩,Tp,fun c vg=>⟨Tn c vg,plb c vg⟩,ndc,by omega,fun q hq=>(htray q hq).2.2⟩ (hpE.ext x) (Mx.trans (Tq.trans (Qt.trans (kE.trans x.kp))))
   . obtain ⟨a,w,r,s,e,h1,h2,h3,h4⟩:=(htray q hq).1
     exact ⟨a,w,r,s,e,x.tup (kE.tup hyD h1),x.tup (kE.tup hyD h2),x.tup (kE.tup hyD h3),x.tup (kE.tup hyD h4)⟩
   . obtain ⟨k,i,e1,e2,_⟩:=pk q hq
     exact ⟨k,i,e1,e2⟩
   . obtain ⟨i,e⟩:=hc c vg
     rw [e]
     unfold Gg
     rw [e]
end
theorem uR {x:Str} {n:Nat} (h:n<=x.length):(Txt.slice x (some (n:Int)) none).cps.toList=x.cps.toList.drop n:=by
 have e:Txt.slice x (some (n:Int)) none=StrLaws.sliceText x (some (n:Int)) none:=rfl
 rw [e,StrLaws.sliceText_from ⟨by omega,by rw [str_len] at h;omega⟩]
 simp
 exact List.take_of_length_le (by simp)
theorem uS (c:Nat):Txt.contains (Str.ofString "0123456789") ⟨#[c]⟩=bF c:=by
 show (!(Builtin.Str.occurrences (Str.ofString "0123456789") ⟨#[c]⟩ 0 (Str.ofString "0123456789").length 1).isEmpty)=_
 rw [StrLaws.found_one,show (Str.ofString "0123456789").cps.toList=[48,49,50,51,52,53,54,55,56,57] from by decide +kernel]
 unfold bF
 rw [Bool.eq_iff_iff]
 simp only [List.mem_cons,List.not_mem_nil,or_false,decide_eq_true_eq,Bool.and_eq_true]
 omega
mutual
def bL (K:PySem.W.Frag) (H0 H:Hp):PyData->V->Prop
 | .none,v=>v=.cQ
 | .int i,v=>v=.int i
 | .str x,v=>v=.str x
 | .list ds,v=>∃ a vs,v=.ref a/\new K H0 a/\H a=some (.lst vs)/\aT K H0 H ds vs
 | .tuple ds,v=>∃ a vs,v=.ref a/\tupQ K H a=some vs/\aT K H0 H ds vs
 | .bool _,_=>False
 | .dict _,_=>False
def aT (K:PySem.W.Frag) (H0 H:Hp):List PyData->List V->Prop
 | [],vs=>vs=[]
 | d::ds,vs=>∃ v r,vs=v::r/\bL K H0 H d v/\aT K H0 H ds r
end
section
variable {K:PySem.W.Frag} {H0 H1 H H':Hp}
theorem d7 {H H':Hp} {T:Addr} (x:Ext K H H') (n:new K H' T):new K H T:=by
 refine ⟨?_,n.2⟩
 cases z:H T with
 | none=>rfl
 | some o=>have:=x.at z;rw [n.1] at this;cases this
mutual
theorem bL.ext (x:Ext K H H'):∀ {d:PyData} {v:V},bL K H0 H d v->bL K H0 H' d v
 | .none,v,h=>h
 | .int i,v,h=>h
 | .str s,v,h=>h
 | .list ds,v,h=>by
   unfold bL at h ⊢
   obtain ⟨a,vs,e,n,ha,hs⟩:=h
   exact ⟨a,vs,e,n,x.at ha,aT.ext x hs⟩
 | .tuple ds,v,h=>by
   unfold bL at h ⊢
   obtain ⟨a,vs,e,ha,hs⟩:=h
   exact ⟨a,vs,e,x.tup ha,aT.ext x hs⟩
 | .bool _,v,h=>h
 | .dict _,v,h=>h
theorem aT.ext (x:Ext K H H'):∀ {ds:List PyData} {vs:List V},aT K H0 H ds vs->aT K H0 H' ds vs
 | [],vs,h=>h
 | d::ds,vs,h=>by
   unfold aT at h ⊢
   obtain ⟨v,r,e,h1,h2⟩:=h
   exact ⟨v,r,e,bL.ext x h1,aT.ext x h2⟩
end
mutual
theorem bL.z7 (x:∀ a,new K H0 a->new K H1 a):∀ {d:PyData} {v:V},bL K H0 H d v->bL K H1 H d v
 | .none,v,h=>h
 | .int i,v,h=>h
 | .str s,v,h=>h
 | .list ds,v,h=>by
   unfold bL at h ⊢
   obtain ⟨a,vs,e,n,ha,hs⟩:=h
   exact ⟨a,vs,e,x a n,ha,aT.z7 x hs⟩
 | .tuple ds,v,h=>by
   unfold bL at h ⊢
   obtain ⟨a,vs,e,ha,hs⟩:=h
   exact ⟨a,vs,e,ha,aT.z7 x hs⟩
 | .bool _,v,h=>h
 | .dict _,v,h=>h
theorem aT.z7 (x:∀ a,new K H0 a->new K H1 a):∀ {ds:List PyData} {vs:List V},aT K H0 H ds vs->aT K H1 H ds vs
 | [],vs,h=>h
 | d::ds,vs,h=>by
   unfold aT at h ⊢
   obtain ⟨v,r,e,h1,h2⟩:=h
   exact ⟨v,r,e,bL.z7 x h1,aT.z7 x h2⟩
end
theorem bL.old (x:Ext K H1 H0) {d:PyData} {v:V} (h:bL K H0 H d v):bL K H1 H d v:=h.z7 fun _ n=>d7 x n
theorem aT.old (x:Ext K H1 H0) {ds:List PyData} {vs:List V} (h:aT K H0 H ds vs):aT K H1 H ds vs:=h.z7 fun _ n=>d7 x n
mutual
theorem bL.kp {D:Addr} {o:HO} {xs:List V} (h0:H0 D=some o) (hD:H D=some (.lst xs)) (k:Kp K D H H'):∀ {d:PyData} {v:V},bL K H0 H d v->bL K H0 H' d v
 | .none,v,h=>h
 | .int i,v,h=>h
 | .str s,v,h=>h
 | .list ds,v,h=>by
   unfold bL at h ⊢
   obtain ⟨a,vs,e,n,ha,hs⟩:=h
   exact ⟨a,vs,e,n,k.keep a _ ha (fun z=>by rw [z] at n;rw [n.1] at h0;cases h0),aT.kp h0 hD k hs⟩
 | .tuple ds,v,h=>by
   unfold bL at h ⊢
   obtain ⟨a,vs,e,ha,hs⟩:=h
   exact ⟨a,vs,e,k.tup hD ha,aT.kp h0 hD k hs⟩
 | .bool _,v,h=>h
 | .dict _,v,h=>h
theorem aT.kp {D:Addr} {o:HO} {xs:List V} (h0:H0 D=some o) (hD:H D=some (.lst xs)) (k:Kp K D H H'):∀ {ds:List PyData} {vs:List V},aT K H0 H ds vs->aT K H0 H' ds vs
 | [],vs,h=>h
 | d::ds,vs,h=>by
   unfold aT at h ⊢
   obtain ⟨v,r,e,h1,h2⟩:=h
   exact ⟨v,r,e,bL.kp h0 hD k h1,aT.kp h0 hD k h2⟩
end
mutual
theorem bL.is:∀ {d:PyData} {v:V},bL K H0 H d v->Is K H d v
 | .none,v,h=>by unfold bL at h;unfold Is;exact h
 | .int i,v,h=>by unfold bL at h;unfold Is;exact h
 | .str s,v,h=>by unfold bL at h;unfold Is;exact h
 | .list ds,v,h=>by
   unfold bL at h
   unfold Is
   obtain ⟨a,vs,e,n,ha,hs⟩:=h
   exact ⟨a,vs,e,aZ.of ha,aT.is hs⟩
 | .tuple ds,v,h=>by
   unfold bL at h
   unfold Is
   obtain ⟨a,vs,e,ha,hs⟩:=h
   exact ⟨a,vs,e,gD ha,aT.is hs⟩
 | .bool _,v,h=>by unfold bL at h;exact h.elim
 | .dict _,v,h=>by unfold bL at h;exact h.elim
theorem aT.is:∀ {ds:List PyData} {vs:List V},aT K H0 H ds vs->cy K H ds vs
 | [],vs,h=>by unfold aT at h;unfold cy;exact h
 | d::ds,vs,h=>by
   unfold aT at h
   unfold cy
   obtain ⟨v,r,e,h1,h2⟩:=h
   exact ⟨v,r,e,bL.is h1,aT.is h2⟩
end
theorem aT.nil:aT K H0 H [] []:=by unfold aT;rfl
theorem aT.cons {d:PyData} {ds:List PyData} {v:V} {vs:List V} (h:bL K H0 H d v) (g:aT K H0 H ds vs):aT K H0 H (d::ds) (v::vs):=by
 unfold aT
 exact ⟨v,vs,rfl,h,g⟩
theorem aT.snoc:∀ {ds:List PyData} {vs:List V} {d:PyData} {v:V},aT K H0 H ds vs->bL K H0 H d v->aT K H0 H (ds++[d]) (vs++[v])
 | [],vs,d,v,h,g=>by
   unfold aT at h
   subst h
   exact .cons g .nil
 | e::ds,vs,d,v,h,g=>by
   unfold aT at h
   obtain ⟨w,r,rfl,h1,h2⟩:=h
   exact .cons h1 (aT.snoc h2 g)
theorem aT.len:∀ {ds:List PyData} {vs:List V},aT K H0 H ds vs->vs.length=ds.length
 | [],vs,h=>by unfold aT at h;subst h;rfl
 | e::ds,vs,h=>by
   unfold aT at h
   obtain ⟨w,r,rfl,h1,h2⟩:=h
   rw [List.length_cons,List.length_cons,aT.len h2]
theorem bL.nn {v:V}:bL K H0 H .none v↔v=.cQ:=by unfold bL;exact Iff.rfl
theorem bL.ii {v:V} {i:Int}:bL K H0 H (.int i) v↔v=.int i:=by unfold bL;exact Iff.rfl
theorem bL.ss {v:V} {x:Str}:bL K H0 H (.str x) v↔v=.str x:=by unfold bL;exact Iff.rfl
theorem bL.tt {v:V} {ds:List PyData}:bL K H0 H (.tuple ds) v↔∃ a vs,v=.ref a/\tupQ K H a=some vs/\aT K H0 H ds vs:=by
 conv=>lhs;unfold bL
theorem bL.ll {v:V} {ds:List PyData}:bL K H0 H (.list ds) v↔∃ a vs,v=.ref a/\new K H0 a/\H a=some (.lst vs)/\aT K H0 H ds vs:=by
 conv=>lhs;unfold bL
theorem aT.nn {vs:List V}:aT K H0 H [] vs↔vs=[]:=by unfold aT;exact Iff.rfl
theorem aT.cc {vs:List V} {d:PyData} {ds:List PyData}:aT K H0 H (d::ds) vs↔∃ v r,vs=v::r/\bL K H0 H d v/\aT K H0 H ds r:=by
 conv=>lhs;unfold aT
def DL:Option Int->PyData
 | none=>.none
 | some i=>.int i
theorem bL.oo {v:V} {o:Option Int}:bL K H0 H (DL o) v↔v=on o:=by cases o <;> unfold DL bL on <;> exact Iff.rfl
end
def oD {α:Type} (f:α->PyData):Option α->PyData
 | none=>.none
 | some a=>f a
def gI {α:Type}:List (Option α)->Option (List α)
 | []=>some []
 | none::_=>none
 | some a::r=>(gI r).map (a::·)
theorem gR {α:Type}:∀ {os:List (Option α)} {us:List α},gI os=some us->os=us.map some
 | [],us,h=>by cases h;rfl
 | none::r,us,h=>by cases h
 | some a::r,us,h=>by
   unfold gI at h
   cases e:gI r with
   | none=>rw [e] at h;cases h
   | some ws=>rw [e] at h;cases h;rw [gR e];rfl
theorem mD {α:Type}:∀ (us:List α),gI (us.map some)=some us
 | []=>rfl
 | a::r=>by
   show (gI (r.map some)).map (a::·)=_
   rw [mD r]
   rfl
theorem qD {α:Type} {d:α->PyData} (hd:∀ a,iP (d a)=false):∀ (os:List (Option α)),(os.map (oD d)).any iP=(gI os).isNone
 | []=>rfl
 | none::r=>rfl
 | some a::r=>by
   rw [List.map_cons,List.any_cons,qD hd r]
   show (iP (d a)||_)=_
   rw [hd a,Bool.false_or]
   show _=((gI r).map (a::·)).isNone
   cases gI r <;> rfl
theorem z8 {α:Type} {os:List (Option α)} {us:List α} (h:gI os=some us):us.length=os.length:=by rw [gR h,List.length_map]
def cu {α:Type} (rv:Str->Option α) (c t:Str):Option (List α):=if t=Str.ofString "-" then some [] else gI ((Txt.split t c).map rv)
theorem lI {α:Type} {rv:Str->Option α} {c:Nat} {t:Str} {us:List α} (h:cu rv ⟨#[c]⟩ t=some us):us.length<=t.length + 1:=by
 unfold cu at h
 split at h
 . cases h;simp
 . have:=z8 h
   rw [List.length_map] at this
   have:=(fk t c).1
   omega
def rising:List Int->Bool
 | a::b::r=>decide (a < b)&&rising (b::r)
 | _=>true
theorem uT:∀ ns:List Int,(List.zipWith (fun a b:Int=>decide (a < b)) ns (ns.drop 1)).all id=rising ns
 | []=>rfl
 | [_]=>rfl
 | a::b::r=>by
   have:=uT (b::r)
   unfold rising
   rw [<- this]
   rfl
abbrev p8:=Int×Option Int
def qE (t:Str):Option p8:=match ak (Txt.partition t (Str.ofString ":")).1 with
 | none=>none
 | some n=>if (Txt.partition t (Str.ofString ":")).2.2=Str.ofString "x" then some (n,none) else (ak (Txt.partition t (Str.ofString ":")).2.2).map fun v=>(n,some v)
def oY (p:p8):PyData:=.tuple [.int p.1,DL p.2]
def lJ (t:Str):Option (Int×List p8):=match ak (Txt.partition t (Str.ofString "=")).1,cu qE (Str.ofString ",") (Txt.partition t (Str.ofString "=")).2.2 with
 | some k,some vs=>some (k,vs)
 | _,_=>none
def sH (r:Int×List p8):PyData:=.tuple [.int r.1,.list (r.2.map oY)]
def jG (t:Str):Option (Int×Int):=match ak (Txt.partition t (Str.ofString "@")).1,ak (Txt.partition t (Str.ofString "@")).2.2 with
 | some k,some p=>some (k,p)
 | _,_=>none
def uU (p:Int×Int):PyData:=.tuple [.int p.1,.int p.2]
def fR (t:Str):Option bJ:=if t=Str.ofString "x" then some .gone else match t.cps.toList with
 | []=>none
 | c::r=>match ak ⟨r.toArray⟩ with
   | none=>none
   | some n=>if c=43 then some (.plus n) else if c=61 then some (.is n) else none
def DM:Option bJ->PyData
 | none=>.none
 | some h=>h.hd
structure RN where
 n:Option Int
 lo:Option Int
 hi:Option Int
 a:Option bJ
 b:Option bJ
def RN.d (r:RN):PyData:=.tuple [DL r.n,DL r.lo,DL r.hi,.tuple [DM r.a,DM r.b]]
def gv (t:Str):Option RN:=match Txt.split t (Str.ofString ".") with
 | [x,y,z,u,v]=>some ⟨ak x,ak y,ak z,fR u,fR v⟩
 | _=>none
def Be (ws:List Str):Option bJ->Bool
 | none=>false
 | some .gone=>true
 | some (.plus _)=>decide (Str.ofString "plus"∈ws)
 | some (.is _)=>decide (Str.ofString "is"∈ws)
def PI:List Str:=[Str.ofString "plus",Str.ofString "is"]
def z9 (a b:Option Int):Bool:=wO 0 1000000000000 a&&wO 0 1000000000000 b&&(match a,b with | some x,some y=>decide (x < y) | _,_=>false)
def Gh (a b:Option Int):Bool:=match a,b with
 | some x,some y=>decide (y - x=1)
 | _,_=>false
def LB:Option bJ->Bool
 | some .gone=>true
 | _=>false
def fG (r:RN):Bool:=fO 1 r.n&&z9 r.lo r.hi&&(Be PI r.a&&Be [Str.ofString "is"] r.b)&&(Gh r.lo r.hi||LB r.b)
def uV (ps:List p8):Bool:=!ps.isEmpty&&ps.all (fun p=>decide (0<=p.1))&&rising (ps.map (·.1))
def pe (r:Int×List p8):Bool:=decide (0<=r.1/\r.1<=999999999999)&&uV r.2
def mE (rs:List (Int×List p8)):Bool:=rs.all pe&&rising (rs.map (·.1))
inductive Rd where
 | leaf (n:Int) (rows:List (Int×List p8))
 | inner (n:Int) (pv:List Int) (sp:List (Int×Int)) (dB:List RN)
def mF (n r:Str):Option Rd:=match ak n,cu lJ (Str.ofString ";") r with
 | some n,some rows=>if decide (0<=n)&&mE rows then some (.leaf n rows) else none
 | _,_=>none
def tQ (n:Int) (pv:List Int) (sp:List (Int×Int)) (dB:List RN):Bool:=
 dB.all fG&&decide (sp.length=pv.length + 1)&&decide ((sp.map (·.1)).Nodup)&&decide (0<=n)&&sp.all (fun p=>decide (0<=p.1)&&decide (0<=p.2))
def kq (n p s t:Str):Option Rd:=match ak n,cu ak (Str.ofString ",") p,cu jG (Str.ofString ",") s,cu gv (Str.ofString ";") t with
 | some n,some pv,some sp,some dB=>if tQ n pv sp dB then some (.inner n pv sp dB) else none
 | _,_,_,_=>none
def cH (t:Str):Option Rd:=match Txt.split t (Str.ofString " ") with
 | [w,n,r]=>if w=Str.ofString "leaf" then mF n r else none
 | [w,n,p,s,y]=>if w=Str.ofString "inner" then kq n p s y else none
 | _=>none
def sI (K:PySem.W.Frag) (H0 H:Hp) (T:Addr):Rd->Prop
 | .leaf n rows=>∃ R D P vs,tupQ K H T=some [.ref R,.ref P]/\tupQ K H R=some [.str (Str.ofString "leaf"),.int n,.ref D]/\new K H0 D/\H D=some (.lst vs)/\aT K H0 H (rows.map sH) vs/\new K H0 P/\H P=some (.dK [])/\D≠P
 | .inner n pv sp dB=>∃ R D C Y P vs,tupQ K H T=some [.ref R,.ref P]/\tupQ K H R=some [.str (Str.ofString "inner"),.int n,.ref D,.ref C,.ref Y]/\new K H0 D/\H D=some (.lst (pv.map V.int))/\H C=some (.lst (sp.map fun p=>V.int p.1))/\
   H Y=some (.lst vs)/\aT K H0 H (dB.map RN.d) vs/\new K H0 P/\H P=some (.dK (kX (sp.map fun p=>(p.1,V.int p.2))))/\new K H0 C/\new K H0 Y
theorem CA {α:Type} {K:PySem.W.Frag} {c D:Addr} {L:List α} {f:α->V} {g:α->PyData} {te:TE} {v0:Option V} {rest:St} {H:Hp} {Q:Hp->Prop} (hk:aZ K H c (L.map f)) (nD:new K H D) (hz:L.length<=16000000)
   (elt:∀ q∈L,∀ H' (Q:VK),Ext K H H'->(∀ v kY,Ext K H' kY->bL K H' kY (g q) v->Q v kY)->te (some (f q)::rest) H' Q)
   (fin:∀ vs H',H' D=some (.lst vs)->aT K H H' (L.map g) vs->Ext K H H'->Q H'):dj (AB K c) (fH 0) lZ te D Q (v0::rest) (upd H D (.lst [])):=by
 refine ow (xs:=L.map f) (fun i acc σ' H'=>∃ (v0:Option V),σ'=v0::rest/\H' D=some (.lst acc)/\aT K (upd H D (.lst [])) H' ((L.take i).map g) acc/\Kp K D (upd H D (.lst [])) H') ?_ ?_ ?_ ?_
 . exact ⟨_,rfl,ah,.nil,Kp.refl⟩
 . rintro i acc σ' H' _ ⟨v0,rfl,hD,_,k⟩
   exact (k.ext nD).same.seq hk
 . rintro i x acc σ' H' hx ⟨v0,rfl,hD,ha,k⟩
   rw [List.getElem?_map] at hx
   obtain ⟨q,ek,rfl⟩:=Option.map_eq_some_iff.mp hx
   have hlen:acc.length<=16000000:=by rw [ha.len,List.length_map,List.length_take];omega
   unfold fH lZ
   refine AN ?_
   refine elt q (List.mem_of_getElem? ek) H' _ (k.ext nD) fun v kY x'' hv=>?_
   have kk:Kp K D kY (upd kY D (.lst (acc++[v]))):=Kp.upd (x''.at hD)
   have xo:∀ a,new K H' a->new K (upd H D (.lst [])) a:=fun a n=>by
     refine ⟨?_,n.2⟩
     cases z:upd H D (.lst []) a with
     | none=>rfl
     | some o=>
       by_cases e:a=D
       . have:=n.1;rw [e,hD] at this;cases this
       . have:=k.keep a o z e;rw [n.1] at this;cases this
   have LC:bL K (upd H D (.lst [])) kY (g q) v:=by
     have:=hv
     exact bL.z7 xo this
   refine ⟨x''.at hD,Nat.lt_of_le_of_lt hlen (by decide),_,rfl,ah,?_,k.trans (x''.kp.trans kk)⟩
   rw [List.take_add_one,ek,Option.toList_some,List.map_append]
   exact aT.kp ah (x''.at hD) kk (aT.snoc (ha.ext x'') LC)
 . rintro acc σ' H' ⟨v0,rfl,hD,ha,k⟩
   rw [List.length_map,List.take_length] at ha
   exact fin acc H' hD (ha.old (Ext.new nD)) (k.ext nD)
section
variable {K:PySem.W.Frag} {H0 H:Hp}
theorem Bf {o:Option bJ} {v:V} (h:bL K H0 H (DM o) v):(o=none/\v=.cQ)∨∃ x a,o=some x/\v=.ref a/\tupQ K H a=some x.v:=by
 cases o with
 | none=>exact .inl ⟨rfl,bL.nn.mp h⟩
 | some x=>
   right
   cases x <;> (unfold DM bJ.hd at h;simp only [bL.tt,aT.cc,aT.nn,bL.ss,bL.ii] at h)
   . obtain ⟨a,vs,rfl,ha,v1,r1,rfl,rfl,v2,r2,rfl,rfl,rfl⟩:=h
     exact ⟨_,a,rfl,rfl,ha⟩
   . obtain ⟨a,vs,rfl,ha,v1,r1,rfl,rfl,v2,r2,rfl,rfl,rfl⟩:=h
     exact ⟨_,a,rfl,rfl,ha⟩
   . obtain ⟨a,vs,rfl,ha,v1,r1,rfl,rfl,rfl⟩:=h
     exact ⟨_,a,rfl,rfl,ha⟩
theorem yo {p:p8} {v:V} (h:bL K H0 H (oY p) v):∃ a,v=.ref a/\tupQ K H a=some [.int p.1,on p.2]:=by
 unfold oY at h
 simp only [bL.tt,aT.cc,aT.nn,bL.oo,bL.ii] at h
 obtain ⟨a,vs,rfl,ha,v1,r1,rfl,rfl,v2,r2,rfl,rfl,rfl⟩:=h
 exact ⟨a,rfl,ha⟩
theorem Aa {p:Int×Int} {v:V} (h:bL K H0 H (uU p) v):∃ a,v=.ref a/\tupQ K H a=some [.int p.1,.int p.2]:=by
 unfold uU at h
 simp only [bL.tt,aT.cc,aT.nn,bL.ii] at h
 obtain ⟨a,vs,rfl,ha,v1,r1,rfl,rfl,v2,r2,rfl,rfl,rfl⟩:=h
 exact ⟨a,rfl,ha⟩
theorem yp {r:Int×List p8} {v:V} (h:bL K H0 H (sH r) v):∃ a D vs,v=.ref a/\tupQ K H a=some [.int r.1,.ref D]/\H D=some (.lst vs)/\aT K H0 H (r.2.map oY) vs:=by
 unfold sH at h
 simp only [bL.tt,aT.cc,aT.nn,bL.ll,bL.ii] at h
 obtain ⟨a,vs,rfl,ha,v1,r1,rfl,rfl,v2,r2,rfl,⟨D,ws,rfl,n,hD,hw⟩,rfl⟩:=h
 exact ⟨a,D,ws,rfl,ha,hD,hw⟩
theorem JP {r:RN} {v:V} (h:bL K H0 H r.d v):∃ a b u1 u2,v=.ref a/\tupQ K H a=some [on r.n,on r.lo,on r.hi,.ref b]/\tupQ K H b=some [u1,u2]/\bL K H0 H (DM r.a) u1/\bL K H0 H (DM r.b) u2:=by
 unfold RN.d at h
 simp only [bL.tt,aT.cc,aT.nn,bL.oo] at h
 obtain ⟨a,vs,rfl,ha,v1,r1,rfl,rfl,v2,r2,rfl,rfl,v3,r3,rfl,rfl,v4,r4,rfl,⟨b,ws,rfl,hb,u1,s1,rfl,h1,u2,s2,rfl,h2,rfl⟩,rfl⟩:=h
 exact ⟨a,b,u1,u2,rfl,ha,hb,h1,h2⟩
theorem aT.zip {α:Type} {d:α->PyData}:∀ {ps:List α} {vs:List V},aT K H0 H (ps.map d) vs->∃ L:List (V×α),vs=L.map (·.1)/\ps=L.map (·.2)/\∀ q∈L,bL K H0 H (d q.2) q.1
 | [],vs,h=>⟨[],aT.nn.mp h,rfl,fun _ h=>nomatch h⟩
 | p::ps,vs,h=>by
   obtain ⟨v,r,rfl,h1,h2⟩:=aT.cc.mp h
   obtain ⟨L,rfl,rfl,hL⟩:=aT.zip h2
   refine ⟨(v,p)::L,rfl,rfl,fun q hq=>?_⟩
   rcases List.mem_cons.mp hq with rfl | hq
   . exact h1
   . exact hL q hq
def LstAt (K:PySem.W.Frag) (H0 H:Hp) {α:Type} (d:α->PyData):Option (List α)->V->Prop
 | none,v=>v=.cQ
 | some l,v=>∃ D us,v=.ref D/\new K H0 D/\H D=some (.lst us)/\aT K H0 H (l.map d) us
theorem LstAt.ext {H':Hp} {α:Type} {d:α->PyData} {o:Option (List α)} {v:V} (x:Ext K H H') (h:LstAt K H0 H d o v):LstAt K H0 H' d o v:=by
 cases o with
 | none=>exact h
 | some l=>
   obtain ⟨D,us,e,n,hD,hu⟩:=h
   exact ⟨D,us,e,n,x.at hD,hu.ext x⟩
theorem LstAt.old {H1:Hp} {α:Type} {d:α->PyData} {o:Option (List α)} {v:V} (x:Ext K H1 H0) (h:LstAt K H0 H d o v):LstAt K H1 H d o v:=by
 cases o with
 | none=>exact h
 | some l=>
   obtain ⟨D,us,e,n,hD,hu⟩:=h
   exact ⟨D,us,e,d7 x n,hD,hu.old x⟩
theorem aT.ints:∀ {ns:List Int} {us:List V},aT K H0 H (ns.map PyData.int) us->us=ns.map V.int
 | [],us,h=>aT.nn.mp h
 | n::ns,us,h=>by
   obtain ⟨v,r,rfl,h1,h2⟩:=aT.cc.mp h
   rw [bL.ii.mp h1,aT.ints h2]
   rfl
end
def Gi:Option (List (Int×List p8))->Bool
 | none=>false
 | some l=>mE l
def Gj:Option (List RN)->Bool
 | none=>false
 | some l=>l.all fG
def Gk {α:Type} (o:Option (List α)):Prop:=∀ l,o=some l->l.length<=1000000
theorem sI.old {K:PySem.W.Frag} {H1 H0 H:Hp} {T:Addr} {x:Rd} (e:Ext K H1 H0) (h:sI K H0 H T x):sI K H1 H T x:=by
 cases x with
 | leaf n rows=>
   obtain ⟨R,D,P,vs,h1,h2,n1,h3,h4,n2,h5,h6⟩:=h
   exact ⟨R,D,P,vs,h1,h2,d7 e n1,h3,h4.old e,d7 e n2,h5,h6⟩
 | inner n pv sp dB=>
   obtain ⟨R,D,C,Y,P,vs,h1,h2,n1,h3,h4,h5,h6,n2,h7,n3,n4⟩:=h
   exact ⟨R,D,C,Y,P,vs,h1,h2,d7 e n1,h3,h4,h5,h6.old e,d7 e n2,h7,d7 e n3,d7 e n4⟩
theorem sI.ext {K:PySem.W.Frag} {H0 H H':Hp} {T:Addr} {x:Rd} (e:Ext K H H') (h:sI K H0 H T x):sI K H0 H' T x:=by
 cases x with
 | leaf n rows=>
   obtain ⟨R,D,P,vs,h1,h2,n1,h3,h4,n2,h5,h6⟩:=h
   exact ⟨R,D,P,vs,e.tup h1,e.tup h2,n1,e.at h3,h4.ext e,n2,e.at h5,h6⟩
 | inner n pv sp dB=>
   obtain ⟨R,D,C,Y,P,vs,h1,h2,n1,h3,h4,h5,h6,n2,h7,n3,n4⟩:=h
   exact ⟨R,D,C,Y,P,vs,e.tup h1,e.tup h2,n1,e.at h3,e.at h4,e.at h5,h6.ext e,n2,e.at h7,n3,n4⟩
section
variable {P:Program} {w:World} {K:PySem.W.Frag} {mg:Str->Option Value} {base:Heap}
def Bg:Sp:=fun vs H Q _=>∃ o,vs=[on o]/\Q (.bl (wO 0 999999999999 o)) H
theorem DN:aD ["thing"] ["thing"] (af lE):=⟨rfl,rfl,rfl,by decide +kernel,rfl,by decide +kernel,by decide +kernel⟩
theorem DO {f:Addr} {fd:FuncData} (F:fh K "is_key" "is_key" lE f fd) {aG aP cF cR cN:Addr} {tE tF t1 t2 t3 t4:Tok} (B:B K mg aG aP cF cR cN tE tF t1 t2 t3 t4) (bS:Callee P w K mg base "is_whole" 2 ["thing","low","high"] nH):bf P w K mg base eZ 3 f fd ["thing"] Bg:=by
 refine F.gP DN (fun vs H Q E h=>?_) (fun cG A outer s H vs Q E hr h=>?_)
 . obtain ⟨o,rfl,_⟩:=h
   rfl
 obtain ⟨o,rfl,q⟩:=h
 refine ⟨_,(aK (aW (au bS (hr.mono (by decide)) rfl (aa (ev 0) (aa ei (aa (cT iK (jt rfl B.Td B.A9) ei) ai)))))),?_⟩
 try walk_at "rn"
 exact ⟨o,_,_,rfl,q⟩
def Bh:Sp:=fun vs H Q _=>∃ a b,vs=[on a,on b]/\Q (.bl (z9 a b)) H
theorem vE:aD ["low","high"] ["low","high"] (af fV):=⟨rfl,rfl,rfl,by decide +kernel,rfl,by decide +kernel,by decide +kernel⟩
theorem vF {f:Addr} {fd:FuncData} (F:fh K "is_stretch" "is_stretch" fV f fd) {aG aP cF cR cN:Addr} {tE tF t1 t2 t3 t4:Tok} (B:B K mg aG aP cF cR cN tE tF t1 t2 t3 t4) (bS:Callee P w K mg base "is_whole" 2 ["thing","low","high"] nH):bf P w K mg base eZ 3 f fd ["low","high"] Bh:=by
 refine F.gP vE (fun vs H Q E h=>?_) (fun cG A outer s H vs Q E hr h=>?_)
 . obtain ⟨a,b,rfl,_⟩:=h
   rfl
 obtain ⟨a,b,rfl,q⟩:=h
 refine ⟨_,(aK (aW (ju (au bS (hr.mono (by decide)) rfl (aa (ev 0) (aa ei (aa (jt rfl B.Td B.A9) ai)))) (ju (au bS (hr.mono (by decide)) rfl (aa (ev 1) (aa ei (aa (jt rfl B.Td B.A9) ai)))) (lu (kW BZ (ev 0) (ev 1) (aI _))))))),?_⟩
 try walk_at "rn"
 unfold z9 at q
 refine ⟨a,_,_,rfl,_,rfl,?_⟩
 cases c1:wO 0 1000000000000 a
 . rw [c1] at q
   exact aL (by decide) q
 refine aQ rfl ⟨b,_,_,rfl,_,rfl,?_⟩
 cases c2:wO 0 1000000000000 b
 . rw [c1,c2] at q
   exact aL (by decide) q
 rw [c1,c2] at q
 cases a with
 | none=>cases c1
 | some x=>
   cases b with
   | none=>cases c2
   | some y=>exact aQ rfl ⟨x,rfl,y,rfl,q⟩
def yq (K:PySem.W.Frag):Sp:=fun vs H Q _=>∃ v W o ws H0,vs=[v,.ref W]/\bL K H0 H (DM o) v/\tupQ K H W=some (List.map V.str ws)/\∀ H',Ext K H H'->Q (.bl (Be ws o)) H'
theorem uW (x:Str):∀ ws:List Str,Ht (.str x) (ws.map V.str)=decide (x∈ws)
 | []=>rfl
 | y::ws=>by
   have ih:=uW x ws
   unfold Ht at ih ⊢
   rw [List.map_cons,List.any_cons,ih,Bool.eq_iff_iff]
   simp only [Bool.or_eq_true,decide_eq_true_eq,List.mem_cons,Hs,beq_iff_eq]
   exact ⟨fun h=>h.imp_left Eq.symm,fun h=>h.imp_left Eq.symm⟩
theorem wD (ws:List Str):(ws.map V.str).all nj=true:=by rw [List.all_map];exact List.all_eq_true.mpr fun _ _=>rfl
theorem Bj:aD ["thing","words"] ["thing","words"] (af jR):=⟨rfl,rfl,rfl,by decide +kernel,rfl,by decide +kernel,by decide +kernel⟩
theorem Bk {f:Addr} {fd:FuncData} (F:fh K "is_half" "is_half" jR f fd) {aG aP cF cR cN:Addr} {tE tF t1 t2 t3 t4:Tok} (B:B K mg aG aP cF cR cN tE tF t1 t2 t3 t4) (aM:Callee P w K mg base "is_number" 1 ["thing"] mz):bf P w K mg base eZ 2 f fd ["thing","words"] (yq K):=by
 refine F.gP Bj (fun vs H Q E h=>?_) (fun cG A outer s H vs Q E hr h=>?_)
 . obtain ⟨v,W,o,ws,H0,rfl,_⟩:=h
   rfl
 obtain ⟨v,W,o,ws,H0,rfl,hv,hW,q⟩:=h
 refine ⟨_,(av (jD (tw (wW (jd (gy (aU aX rfl B.isinstance aR (aa (ev 0) (aa (lX rfl B.tuple iM) ai))))) (wW (cj Dn (aU bH rfl B.len dg (aa (ev 0) ai)) (dN (aa ei (aa ei ai))) (by with_unfolding_all rfl)) (pK (jd (gy (aU aX rfl B.isinstance aR (aa (iJ ck (ev 0) ei (fun _ _=>rfl)) (aa (lX rfl B.str dh) ai))))))))) (aK (aW vY)) cY)
     (av (jD (cj cS (aU bH rfl B.len dg (aa (ev 0) ai)) ei (aI _)) (aK (aW (kW cS (iJ ck (ev 0) ei (fun _ _=>rfl)) aS (aI _)))) cY)
     (aK (aW (ju (kW Fe (iJ ck (ev 0) ei (fun _ _=>rfl)) (ev 1) (by with_unfolding_all rfl)) (lu (au aM (hr.mono (by decide)) rfl (aa (iJ ck (ev 0) ei (fun _ _=>rfl)) ai)))))))),?_⟩
 try walk_at "rn"
 rcases Bf hv with ⟨rfl,rfl⟩ | ⟨x,a,rfl,rfl,ha⟩
 . exact ⟨_,.inl .cQ,false,rfl,aQ rfl (q _ Ext.refl)⟩
 refine ⟨_,.tup ha,true,rfl,aL (by decide) ⟨a,rfl,_,br ha,fun b nb=>⟨rfl,rfl,?_⟩⟩⟩
 have xb:=Ext.new (K:=K) (o:=.tup [V.int 1,V.int 2]) nb
 have NS:=xb.tup hW
 have Eh:=xb.tup ha
 generalize upd H b (.tup [V.int 1,V.int 2])=G at xb NS Eh ⊢
 cases x with
 | gone=>
   refine aL (by decide) ⟨a,rfl,_,br Eh,_,rfl,_,.inl (.str _),true,rfl,aL (by decide) ⟨a,rfl,_,br Eh,aQ rfl ⟨a,rfl,_,br Eh,_,rfl,?_⟩⟩⟩
   exact ⟨rfl,by rw [decide_eq_true rfl];exact q _ xb⟩
 | plus n=>
   refine aL (by show ¬ ((!Ht (V.int 2) [V.int 1,V.int 2])=true);decide) ⟨a,rfl,_,br Eh,_,rfl,_,.inl (.str _),true,rfl,aL (by decide) ⟨a,rfl,_,br Eh,aL (by show ¬ ((2:Int)=1);decide) ?_⟩⟩
   refine ⟨a,rfl,_,br Eh,_,rfl,_,br NS,rfl,wD ws,?_⟩
   rw [uW]
   cases c:decide (Str.ofString "plus"∈ws)
   . exact aL (by decide) (by have:=q _ xb;simp only [Be,c] at this;exact this)
   . exact aQ rfl ⟨a,rfl,_,br Eh,_,rfl,some n,rfl,by have:=q _ xb;simp only [Be,c] at this;exact this⟩
 | is n=>
   refine aL (by show ¬ ((!Ht (V.int 2) [V.int 1,V.int 2])=true);decide) ⟨a,rfl,_,br Eh,_,rfl,_,.inl (.str _),true,rfl,aL (by decide) ⟨a,rfl,_,br Eh,aL (by show ¬ ((2:Int)=1);decide) ?_⟩⟩
   refine ⟨a,rfl,_,br Eh,_,rfl,_,br NS,rfl,wD ws,?_⟩
   rw [uW]
   cases c:decide (Str.ofString "is"∈ws)
   . exact aL (by decide) (by have:=q _ xb;simp only [Be,c] at this;exact this)
   . exact aQ rfl ⟨a,rfl,_,br Eh,_,rfl,some n,rfl,by have:=q _ xb;simp only [Be,c] at this;exact this⟩
def Bl (K:PySem.W.Frag):Sp:=fun vs H Q _=>∃ a u1 u2 x y H0,vs=[.ref a]/\tupQ K H a=some [u1,u2]/\bL K H0 H (DM x) u1/\bL K H0 H (DM y) u2/\∀ H',Ext K H H'->Q (.bl (Be PI x&&Be [Str.ofString "is"] y)) H'
theorem mG:aD ["thing","there","none"] ["thing"] (af gY):=⟨rfl,rfl,rfl,by decide +kernel,rfl,by decide +kernel,by decide +kernel⟩
theorem yr {f:Addr} {fd:FuncData} (F:fh K "is_action" "is_action" gY f fd) {aG aP cF cR cN:Addr} {tE tF t1 t2 t3 t4:Tok} (B:B K mg aG aP cF cR cN tE tF t1 t2 t3 t4) (lK:Callee P w K mg base "is_half" 2 ["thing","words"] (yq K)):bf P w K mg base eZ 3 f fd ["thing"] (Bl K):=by
 refine F.gP mG (fun vs H Q E h=>?_) (fun cG A outer s H vs Q E hr h=>?_)
 . obtain ⟨a,u1,u2,x,y,H0,rfl,_⟩:=h
   rfl
 obtain ⟨a,u1,u2,x,y,H0,rfl,ha,h1,h2,q⟩:=h
 refine ⟨_,(av (jD (tw (wW (jd (gy (aU aX rfl B.isinstance aR (aa (ev 0) (aa (lX rfl B.tuple iM) ai))))) (pK (cj mR (aU bH rfl B.len dg (aa (ev 0) ai)) ei (aI _))))) (aK (aW vY)) cY)
     (av (i9 (ev 0) (fM (n:=2) rfl (aH (aA (i:=1) mG.nd rfl (Or.inl rfl)) (aH (aA (i:=2) mG.nd rfl (Or.inl rfl)) gA))))
     (aK (aW (ju (au lK (hr.mono (by decide)) rfl (aa (ev 1) (aa (dN (aa aS (aa aS ai))) ai))) (lu (au lK (hr.mono (by decide)) rfl (aa (ev 2) (aa (dN (aa aS ai)) ai))))))))),?_⟩
 simp_arith [br ha,ha]
 refine ⟨_,.tup ha,true,rfl,aL (by decide) (aL (by simp) fun p np=>?_)⟩
 have xp:=Ext.new (K:=K) (o:=.tup [V.str (Str.ofString "plus"),V.str (Str.ofString "is")]) np
 refine ⟨u1,p,x,PI,H0,rfl,h1.ext xp,aN,fun H1 x1=>⟨_,rfl,?_⟩⟩
 have xx:=xp.trans x1
 cases c:Be PI x
 . exact aL (by decide) (by have:=q _ xx;rw [c] at this;exact this)
 refine aQ rfl fun p2 np2=>?_
 have My:=Ext.new (K:=K) (o:=.tup [V.str (Str.ofString "is")]) np2
 exact ⟨u2,p2,y,[Str.ofString "is"],H0,rfl,h2.ext (xx.trans My),aN,fun H2 x2=>by have:=q _ (xx.trans (My.trans x2));rw [c] at this;exact this⟩
def yt (K:PySem.W.Frag):Sp:=fun vs H Q _=>∃ v r H0,vs=[v]/\bL K H0 H (RN.d r) v/\∀ H',Ext K H H'->Q (.bl (fG r)) H'
theorem jW:aD ["thing","number","low","high","action"] ["thing"] (af jS):=⟨rfl,rfl,rfl,by decide +kernel,rfl,by decide +kernel,by decide +kernel⟩
theorem Bm {f:Addr} {fd:FuncData} (F:fh K "is_note" "is_note" jS f fd) {aG aP cF cR cN:Addr} {tE tF t1 t2 t3 t4:Tok} (B:B K mg aG aP cF cR cN tE tF t1 t2 t3 t4) (bA:Callee P w K mg base "is_whole_from" 2 ["thing","low"] qy) (jI:Callee P w K mg base "is_stretch" 3 ["low","high"] Bh) (kr:Callee P w K mg base "is_action" 3 ["thing"] (Bl K)):bf P w K mg base eZ 4 f fd ["thing"] (yt K):=by
 refine F.Qe jW (fun vs H Q E h=>?_) (fun cG A outer s H vs Q E hr hm h=>?_)
 . obtain ⟨v,r,H0,rfl,_⟩:=h
   rfl
 obtain ⟨v,r,H0,rfl,hv,q⟩:=h
 obtain ⟨a,b,u1,u2,rfl,ha,hb,h1,h2⟩:=JP hv
 refine ⟨_,(av (jD (tw (wW (jd (gy (aU aX rfl B.isinstance aR (aa (ev 0) (aa (lX rfl B.tuple iM) ai))))) (pK (cj mR (aU bH rfl B.len dg (aa (ev 0) ai)) ei (aI _))))) (aK (aW vY)) cY)
     (av (i9 (ev 0) (fM (n:=4) rfl (aH (aA (i:=1) jW.nd rfl (Or.inl rfl)) (aH (aA (i:=2) jW.nd rfl (Or.inl rfl)) (aH (aA (i:=3) jW.nd rfl (Or.inl rfl)) (aH (aA (i:=4) jW.nd rfl (Or.inl rfl)) gA))))))
     (av (jD (tw (wW (jd (gy (au bA (hr.mono (by decide)) rfl (aa (ev 1) (aa ei ai))))) (wW (jd (gy (au jI (hr.mono (by decide)) rfl (aa (ev 2) (aa (ev 3) ai))))) (pK (jd (gy (au kr (hr.mono (by decide)) rfl (aa (ev 4) ai)))))))) (aK (aW vY)) cY)
     (aK (aW (eor (kW cS (cT iK (ev 3) (ev 2)) ei (aI _)) (lu (kW (AY hr.units) (iJ ck (ev 4) ei (fun _ _=>rfl)) (jt rfl B.Ls B.xQ) (aI _))))))))),?_⟩
 simp_arith [br ha,ha]
 refine ⟨_,.tup ha,true,rfl,aL (by decide) (aL (by simp) ⟨r.n,1,rfl,_,rfl,?_⟩)⟩
 unfold fG at q
 cases c1:fO 1 r.n
 . exact aQ rfl (by have:=q _ Ext.refl;rw [c1] at this;exact this)
 refine aL (by decide) ⟨r.lo,r.hi,rfl,_,rfl,?_⟩
 cases c2:z9 r.lo r.hi
 . exact aQ rfl (by have:=q _ Ext.refl;rw [c1,c2] at this;exact this)
 refine aL (by decide) ⟨b,u1,u2,r.a,r.b,H0,rfl,hb,h1,h2,fun H1 x1=>⟨_,rfl,?_⟩⟩
 have q1:=q _ x1
 rw [c1,c2] at q1
 cases c3:(Be PI r.a&&Be [Str.ofString "is"] r.b)
 . exact aQ rfl (by rw [c3] at q1;exact q1)
 rw [c3] at q1
 refine aL (by decide) ?_
 have h3:=h2.ext x1
 have hb1:=x1.tup hb
 have mf:=x1.tup (hm.tup B.kG)
 clear q hm
 obtain ⟨rn,rlo,rhi,ra,rb⟩:=r
 dsimp only at c1 c2 c3 q1 h3 ⊢
 cases rlo with
 | none=>cases c2
 | some lo=>
   cases rhi with
   | none=>unfold z9 at c2;simp [wO] at c2
   | some hi=>
     refine ⟨hi,rfl,lo,rfl,gO (fun c=>?_) (fun c=>?_)⟩
     . have e:Gh (some lo) (some hi)=true:=decide_eq_true c
       rw [e] at q1
       exact q1
     . have e:Gh (some lo) (some hi)=false:=decide_eq_false c
       rw [e] at q1
       rcases Bf h3 with ⟨rfl,rfl⟩ | ⟨x,a',rfl,rfl,Tv⟩
       . rw [show Be [Str.ofString "is"] none=false from rfl,Bool.and_false] at c3
         cases c3
       . refine ⟨_,br hb1,_,rfl,x.hd,bJ.Cw Tv,bJ.gone.hd,bJ.Cw (h:=.gone) mf,x.shaped,bJ.shaped .gone,?_⟩
         rw [bJ.zX]
         cases x <;> exact q1
def Ab (K:PySem.W.Frag):Sp:=fun vs H Q _=>∃ D ns,vs=[.ref D]/\aZ K H D (List.map V.int ns)/\ns.length<=1000000/\∀ H',Ext K H H'->Q (.bl (rising ns)) H'
theorem yu:aD ["numbers"] ["numbers"] (af gZ):=⟨rfl,rfl,rfl,by decide +kernel,rfl,by decide +kernel,by decide +kernel⟩
theorem yv {f:Addr} {fd:FuncData} (F:fh K "is_rising" "is_rising" gZ f fd) {aG aP cF cR cN:Addr} {tE tF t1 t2 t3 t4:Tok} (B:B K mg aG aP cF cR cN tE tF t1 t2 t3 t4):bf P w K mg base eZ 1 f fd ["numbers"] (Ab K):=by
 refine F.gP yu (fun vs H Q E h=>?_) (fun cG A outer s H vs Q E hr h=>?_)
 . obtain ⟨D,ns,rfl,_⟩:=h
   rfl
 obtain ⟨D,ns,rfl,hD,hl,q⟩:=h
 refine ⟨_,(aK (aW (aU (gW rfl) rfl B.all nv (aa (rz (jO.mk (N:=["one","other"]) (src:=[none,none]) rfl rfl) rfl (NG rfl B.zip (aa (ev 0) (aa (gw iN (ev 0) (jF ei) jE) ai))) (fun _ _ _ _=>(xg K (n:=2) rfl (aH (aA (i:=0) (show (["one","other"]:List Str).Nodup from by decide +kernel) rfl (Or.inl rfl)) (aH (aA (i:=1) (show (["one","other"]:List Str).Nodup from by decide +kernel) rfl (Or.inl rfl)) gA)))) (fun _ _ _ _=>cU) (fun _ _ _ _=>(kW BZ (ev 0) (ev 1) (aI _)))) ai)))),?_⟩
 try walk_at "rn"
 refine ⟨_,hD,fun S nS=>.inl ⟨⟨_,(Ext.new nS).same.seq hD⟩,⟨_,aZ.of ah⟩,fun D1 n1=>?_⟩⟩
 have eS:iL (ns.map V.int) (some 1) none=(ns.drop 1).map V.int:=by rw [show iL (ns.map V.int) (some 1) none=(ns.map V.int).drop 1 from ou _ 1,List.map_drop]
 rw [eS] at n1 ⊢
 have xS:=Ext.new (K:=K) (o:=.lst ((ns.drop 1).map V.int)) (by exact nS)
 refine IM (n:=ns.length - 1) (xs:=ns.map V.int) (ys:=(ns.drop 1).map V.int) (fun i acc σ' H'=>∃ v0 v1:Option V,σ'=[v0,v1]/\acc=((List.zipWith (fun a b:Int=>decide (a < b)) ns (ns.drop 1)).take i).map V.bl/\H' D1=some (.lst acc)/\Kp K D1 (upd (upd H S (.lst ((ns.drop 1).map V.int))) D1 (.lst [])) H') (by simp) (by simp) (by simp) ⟨_,_,rfl,rfl,ah,Kp.refl⟩ ?_ ?_ ?_
 . rintro i acc σ' H' _ ⟨_,_,rfl,rfl,Ef,k⟩
   exact ⟨(k.ext n1).same.seq (xS.same.seq hD),aZ.of ((k.ext n1).at ah)⟩
 . rintro i x y acc σ' H' T hx hy ⟨_,_,rfl,rfl,Ef,k⟩ nT
   rw [List.getElem?_map] at hx hy
   obtain ⟨a,ea,rfl⟩:=Option.map_eq_some_iff.mp hx
   obtain ⟨b,eb,rfl⟩:=Option.map_eq_some_iff.mp hy
   try walk_at "rn"
   have xT:=Ext.new (K:=K) (o:=.tup [V.int a,V.int b]) nT
   have hi:i < ns.length:=(List.getElem?_eq_some_iff.mp ea).1
   refine ⟨xT.at Ef,by rw [List.length_map,List.length_take];have:=sizeLine_eq;omega,?_,k.trans (xT.kp.trans (Kp.upd (xT.at Ef)))⟩
   rw [List.take_add_one,List.map_append,List.getElem?_zipWith,ea,eb]
   rfl
 . rintro acc σ' H' ⟨_,_,rfl,rfl,Ef,k⟩
   refine ⟨_,aZ.of Ef,?_⟩
   have:=q _ ((xS.trans (k.ext n1)))
   rw [<- uT] at this
   rw [List.take_of_length_le (by simp)]
   exact this
def IY (K:PySem.W.Frag):Sp:=fun vs H Q _=>∃ v,vs=[v]/\((v=.cQ/\Q (.bl false) H)∨∃ D ns,v=.ref D/\H D=some (.lst (List.map V.int ns))/\ns.length<=1000000/\∀ H',Ext K H H'->Q (.bl true) H')
theorem vG:aD ["thing"] ["thing"] (af fY):=⟨rfl,rfl,rfl,by decide +kernel,rfl,by decide +kernel,by decide +kernel⟩
theorem vH {f:Addr} {fd:FuncData} (F:fh K "are_wholes" "are_wholes" fY f fd) {aG aP cF cR cN:Addr} {tE tF t1 t2 t3 t4:Tok} (B:B K mg aG aP cF cR cN tE tF t1 t2 t3 t4) (aM:Callee P w K mg base "is_number" 1 ["thing"] mz):bf P w K mg base eZ 2 f fd ["thing"] (IY K):=by
 refine F.gP vG (fun vs H Q E h=>?_) (fun cG A outer s H vs Q E hr h=>?_)
 . obtain ⟨v,rfl,_⟩:=h
   rfl
 obtain ⟨v,rfl,h⟩:=h
 refine ⟨_,(aK (aW (ju (aU aX rfl B.isinstance aR (aa (ev 0) (aa (lX rfl B.list tK) ai))) (lu (aU (gW rfl) rfl B.all nv (aa (rz (jO.mk (N:=["part"]) (src:=[none]) rfl rfl) rfl (cI (ev 0)) (fun _ _ _ _=>(aA (i:=0) (show (["part"]:List Str).Nodup from by decide +kernel) rfl (Or.inl rfl))) (fun _ _ _ _=>cU) (fun _ _ _ _=>(au aM (hr.mono (by decide)) rfl (aa (ev 0) ai)))) ai)))))),?_⟩
 try walk_at "rn"
 rcases h with ⟨rfl,q⟩ | ⟨D,ns,rfl,hD,hl,q⟩
 . exact ⟨_,.inl .cQ,false,rfl,aL (by decide) q⟩
 refine ⟨_,.inl (.lst hD),true,rfl,aQ rfl ⟨D,rfl,⟨_,aZ.of hD⟩,fun D1 n1=>gE (f:=V.int) (g:=fun _=>V.bl true) (aZ.of hD) n1 (by omega) (fun i hi H' Q' xx qq=>?_) (fun H1 h1 x1=>?_)⟩⟩
 . try walk_at "rn"
   exact ⟨some i,rfl,qq _ Ext.refl⟩
 refine ⟨ns.map fun _=>true,aZ.of (by rw [h1,List.map_map];rfl),?_⟩
 rw [show (ns.map fun _=>true).all id=true from by rw [List.all_eq_true];intro b hb;obtain ⟨_,_,rfl⟩:=List.mem_map.mp hb;rfl]
 exact q _ x1
def Bo (K:PySem.W.Frag):Sp:=fun vs H Q _=>∃ v p H0,vs=[v]/\bL K H0 H (oY p) v/\Q (.bl (decide (0<=p.1))) H
theorem lg:aD ["thing","number","value"] ["thing"] (af fZ):=⟨rfl,rfl,rfl,by decide +kernel,rfl,by decide +kernel,by decide +kernel⟩
theorem vI {f:Addr} {fd:FuncData} (F:fh K "is_version" "is_version" fZ f fd) {aG aP cF cR cN:Addr} {tE tF t1 t2 t3 t4:Tok} (B:B K mg aG aP cF cR cN tE tF t1 t2 t3 t4) (aM:Callee P w K mg base "is_number" 1 ["thing"] mz) (bA:Callee P w K mg base "is_whole_from" 2 ["thing","low"] qy):bf P w K mg base eZ 3 f fd ["thing"] (Bo K):=by
 refine F.gP lg (fun vs H Q E h=>?_) (fun cG A outer s H vs Q E hr h=>?_)
 . obtain ⟨v,p,H0,rfl,_⟩:=h
   rfl
 obtain ⟨v,p,H0,rfl,hv,q⟩:=h
 obtain ⟨a,rfl,ha⟩:=yo hv
 refine ⟨_,(av (jD (tw (wW (jd (gy (aU aX rfl B.isinstance aR (aa (ev 0) (aa (lX rfl B.tuple iM) ai))))) (pK (cj mR (aU bH rfl B.len dg (aa (ev 0) ai)) ei (aI _))))) (aK (aW vY)) cY)
     (av (i9 (ev 0) (fM (n:=2) rfl (aH (aA (i:=1) lg.nd rfl (Or.inl rfl)) (aH (aA (i:=2) lg.nd rfl (Or.inl rfl)) gA))))
     (aK (aW (ju (au bA (hr.mono (by decide)) rfl (aa (ev 1) (aa ei ai))) (lu (eor (kW m8 (ev 2) i8 (aI _)) (lu (au aM (hr.mono (by decide)) rfl (aa (ev 2) ai)))))))))),?_⟩
 simp_arith [br ha,ha]
 refine ⟨_,.tup ha,true,rfl,aL (by decide) (aL (by simp) ⟨some p.1,0,rfl,_,rfl,?_⟩)⟩
 cases c:fO 0 (some p.1)
 . exact aL (by decide) (by rw [show decide (0<=p.1)=false from c] at q;exact q)
 rw [show decide (0<=p.1)=true from c] at q
 refine aQ rfl ?_
 obtain ⟨n,o⟩:=p
 cases o with
 | none=>exact aQ rfl q
 | some i=>exact aL (by simp [on]) ⟨some i,rfl,q⟩
theorem Bp {α:Type} {K:PySem.W.Frag} {c D:Addr} {L:List (V×α)} {k:α->Int} {u:α->V} {v0 v1:Option V} {H:Hp} {Q:Hp->Prop} (hk:aZ K H c (L.map (·.1))) (hL:∀ q∈L,∃ a,q.1=.ref a/\tupQ K H a=some [.int (k q.2),u q.2]) (nD:new K H D) (hz:L.length<=16000000)
   (fin:∀ H',H' D=some (.lst ((L.map fun q=>k q.2).map V.int))->Ext K H H'->Q H'):dj (AB K c) (v9 K 2 (rR (fH 0) (rR (fH 1) CS))) lZ (Aw 0) D Q [v0,v1] (upd H D (.lst [])):=by
 refine ow (xs:=L.map (·.1)) (fun i acc σ' H'=>∃ (v0 v1:Option V),σ'=[v0,v1]/\H' D=some (.lst acc)/\acc=((L.take i).map fun q=>k q.2).map V.int/\Kp K D (upd H D (.lst [])) H') ⟨_,_,rfl,ah,rfl,Kp.refl⟩ ?_ ?_ ?_
 . rintro i acc σ' H' _ ⟨v0,v1,rfl,hD,rfl,k⟩
   exact (k.ext nD).same.seq hk
 . rintro i x acc σ' H' hx ⟨v0,v1,rfl,hD,rfl,kk⟩
   rw [List.getElem?_map] at hx
   obtain ⟨q,ek,rfl⟩:=Option.map_eq_some_iff.mp hx
   obtain ⟨a,ea,ha⟩:=hL q (List.mem_of_getElem? ek)
   rw [ea]
   have Tv:=(kk.ext nD).tup ha
   have hlen:(((L.take i).map fun q=>k q.2).map V.int).length<=16000000:=by rw [List.length_map,List.length_map,List.length_take];omega
   simp_arith [Tv]
   refine ⟨hD,Nat.lt_of_le_of_lt hlen (by decide),?_,kk.trans (Kp.upd hD)⟩
   rw [List.take_add_one,ek,Option.toList_some,List.map_append,List.map_append]
   rfl
 . rintro acc σ' H' ⟨v0,v1,rfl,hD,rfl,k⟩
   rw [List.length_map,List.take_length] at hD
   exact fin H' hD (k.ext nD)
def yw (K:PySem.W.Frag):Sp:=fun vs H Q _=>∃ D us ps H0,vs=[.ref D]/\H D=some (.lst us)/\aT K H0 H (List.map oY ps) us/\ps.length<=1000000/\∀ H',Ext K H H'->Q (.bl (uV ps)) H'
theorem sJ:aD ["thing"] ["thing"] (af eB):=⟨rfl,rfl,rfl,by decide +kernel,rfl,by decide +kernel,by decide +kernel⟩
theorem sL {f:Addr} {fd:FuncData} (F:fh K "are_versions" "are_versions" eB f fd) {aG aP cF cR cN:Addr} {tE tF t1 t2 t3 t4:Tok} (B:B K mg aG aP cF cR cN tE tF t1 t2 t3 t4) (jJ:Callee P w K mg base "is_version" 3 ["thing"] (Bo K)) (cg:Callee P w K mg base "is_rising" 1 ["numbers"] (Ab K)):bf P w K mg base eZ 4 f fd ["thing"] (yw K):=by
 refine F.gP sJ (fun vs H Q E h=>?_) (fun cG A outer s H vs Q E hr h=>?_)
 . obtain ⟨D,us,ps,H0,rfl,_⟩:=h
   rfl
 obtain ⟨D,us,ps,H0,rfl,hD,hu,hl,q⟩:=h
 obtain ⟨L,rfl,rfl,hL⟩:=hu.zip
 refine ⟨_,(av (jD (tw (wW (jd (gy (aU aX rfl B.isinstance aR (aa (ev 0) (aa (lX rfl B.list tK) ai))))) (wW (cj cS (aU bH rfl B.len dg (aa (ev 0) ai)) ei (aI _)) (pK (jd (gy (aU (gW rfl) rfl B.all nv (aa (rz (jO.mk (N:=["part"]) (src:=[none]) rfl rfl) rfl (cI (ev 0)) (fun _ _ _ _=>(aA (i:=0) (show (["part"]:List Str).Nodup from by decide +kernel) rfl (Or.inl rfl))) (fun _ _ _ _=>cU) (fun _ _ _ _=>(au jJ (hr.mono (by decide)) rfl (aa (ev 0) ai)))) ai)))))))) (aK (aW vY)) cY)
     (aK (aW (au cg (hr.mono (by decide)) rfl (aa (rz (jO.mk (N:=["number","value"]) (src:=[none,none]) rfl rfl) rfl (cI (ev 0)) (fun _ _ _ _=>(xg K (n:=2) rfl (aH (aA (i:=0) (show (["number","value"]:List Str).Nodup from by decide +kernel) rfl (Or.inl rfl)) (aH (aA (i:=1) (show (["number","value"]:List Str).Nodup from by decide +kernel) rfl (Or.inl rfl)) gA)))) (fun _ _ _ _=>cU) (fun _ _ _ _=>(ev 0))) ai))))),?_⟩
 simp_arith [bC hD]
 have hl:L.length<=1000000:=by simpa using hl
 refine ⟨_,.inl (.lst hD),true,rfl,aL (by decide) (gO (fun c=>?_) (fun c=>?_))⟩
 . have e:L=[]:=List.eq_nil_of_length_eq_zero (by simp at c;simpa using c)
   subst e
   exact q _ Ext.refl
 have ne:(L.map (·.2)).isEmpty=false:=by cases L with
   | nil=>exact absurd rfl c
   | cons _ _=>rfl
 unfold uV at q
 rw [ne] at q
 refine ⟨⟨_,aZ.of hD⟩,fun D1 n1=>gE (L:=L) (f:=fun q=>q.1) (g:=fun q=>V.bl (decide (0<=q.2.1))) (aZ.of hD) n1 (by omega) (fun q hq H' Q' xx qq=>?_) (fun H1 h1 x1=>?_)⟩
 . try walk_at "rn"
   exact ⟨q.1,q.2,H0,rfl,(hL q hq).ext xx,qq _ Ext.refl⟩
 refine ⟨L.map fun q=>decide (0<=q.2.1),aZ.of (by rw [h1,List.map_map];rfl),?_⟩
 have e:(L.map fun q=>decide (0<=q.2.1)).all id=(L.map (·.2)).all fun p=>decide (0<=p.1):=by rw [List.all_map,List.all_map];rfl
 rw [e]
 cases c1:(L.map (·.2)).all fun p=>decide (0<=p.1)
 . exact aQ rfl (by have:=q _ x1;rw [c1] at this;exact this)
 rw [c1] at q
 refine aL (by decide) ⟨⟨_,aZ.of (x1.at hD)⟩,fun D2 n2=>Bp (L:=L) (k:=fun p=>p.1) (u:=fun p=>on p.2) (aZ.of (x1.at hD)) (fun q hq=>yo ((hL q hq).ext x1)) n2 (by omega) (fun H2 h2 x2=>?_)⟩
 refine ⟨D2,L.map fun q=>q.2.1,rfl,aZ.of h2,by simpa using hl,fun H3 x3=>?_⟩
 have:=q _ (x1.trans (x2.trans x3))
 rw [List.map_map] at this
 exact this
def Bq (K:PySem.W.Frag):Sp:=fun vs H Q _=>∃ v r H0,vs=[v]/\bL K H0 H (sH r) v/\r.2.length<=1000000/\∀ H',Ext K H H'->Q (.bl (pe r)) H'
theorem DP:aD ["thing"] ["thing"] (af lF):=⟨rfl,rfl,rfl,by decide +kernel,rfl,by decide +kernel,by decide +kernel⟩
theorem DQ {f:Addr} {fd:FuncData} (F:fh K "is_row" "is_row" lF f fd) {aG aP cF cR cN:Addr} {tE tF t1 t2 t3 t4:Tok} (B:B K mg aG aP cF cR cN tE tF t1 t2 t3 t4) (qF:Callee P w K mg base "is_key" 3 ["thing"] Bg) (iS:Callee P w K mg base "are_versions" 4 ["thing"] (yw K)):bf P w K mg base eZ 5 f fd ["thing"] (Bq K):=by
 refine F.gP DP (fun vs H Q E h=>?_) (fun cG A outer s H vs Q E hr h=>?_)
 . obtain ⟨v,r,H0,rfl,_⟩:=h
   rfl
 obtain ⟨v,r,H0,rfl,hv,hl,q⟩:=h
 obtain ⟨a,D,us,rfl,ha,hD,hu⟩:=yp hv
 refine ⟨_,(aK (aW (ju (aU aX rfl B.isinstance aR (aa (ev 0) (aa (lX rfl B.tuple iM) ai))) (ju (kW cS (aU bH rfl B.len dg (aa (ev 0) ai)) ei (aI _)) (ju (au qF (hr.mono (by decide)) rfl (aa (iJ ck (ev 0) ei (fun _ _=>rfl)) ai)) (lu (au iS (hr.mono (by decide)) rfl (aa (iJ ck (ev 0) ei (fun _ _=>rfl)) ai)))))))),?_⟩
 simp_arith [br ha,ha]
 refine ⟨_,.tup ha,true,rfl,aQ rfl (aQ rfl ⟨some r.1,rfl,_,rfl,?_⟩)⟩
 unfold pe at q
 rw [show decide (0<=r.1/\r.1<=999999999999)=wO 0 999999999999 (some r.1) from rfl] at q
 cases c:wO 0 999999999999 (some r.1)
 . exact aL (by decide) (by have:=q _ Ext.refl;rw [c] at this;exact this)
 rw [c] at q
 exact aQ rfl ⟨_,br ha,_,rfl,D,us,r.2,H0,rfl,hD,hu,hl,q⟩
def yx (K:PySem.W.Frag):Sp:=fun vs H Q _=>∃ v,vs=[v]/\((v=.cQ/\Q (.bl false) H)∨∃ D us rs H0,v=.ref D/\H D=some (.lst us)/\aT K H0 H (List.map sH rs) us/\rs.length<=1000000/\(∀ r∈rs,r.2.length<=1000000)/\∀ H',Ext K H H'->Q (.bl (mE rs)) H')
theorem Ac:aD ["thing"] ["thing"] (af jf):=⟨rfl,rfl,rfl,by decide +kernel,rfl,by decide +kernel,by decide +kernel⟩
theorem Ad {f:Addr} {fd:FuncData} (F:fh K "are_rows" "are_rows" jf f fd) {aG aP cF cR cN:Addr} {tE tF t1 t2 t3 t4:Tok} (B:B K mg aG aP cF cR cN tE tF t1 t2 t3 t4) (qG:Callee P w K mg base "is_row" 5 ["thing"] (Bq K)) (cg:Callee P w K mg base "is_rising" 1 ["numbers"] (Ab K)):bf P w K mg base eZ 6 f fd ["thing"] (yx K):=by
 refine F.gP Ac (fun vs H Q E h=>?_) (fun cG A outer s H vs Q E hr h=>?_)
 . obtain ⟨v,rfl,_⟩:=h
   rfl
 obtain ⟨v,rfl,h⟩:=h
 refine ⟨_,(av (jD (tw (wW (jd (gy (aU aX rfl B.isinstance aR (aa (ev 0) (aa (lX rfl B.list tK) ai))))) (pK (jd (gy (aU (gW rfl) rfl B.all nv (aa (rz (jO.mk (N:=["part"]) (src:=[none]) rfl rfl) rfl (cI (ev 0)) (fun _ _ _ _=>(aA (i:=0) (show (["part"]:List Str).Nodup from by decide +kernel) rfl (Or.inl rfl))) (fun _ _ _ _=>cU) (fun _ _ _ _=>(au qG (hr.mono (by decide)) rfl (aa (ev 0) ai)))) ai))))))) (aK (aW vY)) cY)
     (aK (aW (au cg (hr.mono (by decide)) rfl (aa (rz (jO.mk (N:=["key","versions"]) (src:=[none,none]) rfl rfl) rfl (cI (ev 0)) (fun _ _ _ _=>(xg K (n:=2) rfl (aH (aA (i:=0) (show (["key","versions"]:List Str).Nodup from by decide +kernel) rfl (Or.inl rfl)) (aH (aA (i:=1) (show (["key","versions"]:List Str).Nodup from by decide +kernel) rfl (Or.inl rfl)) gA)))) (fun _ _ _ _=>cU) (fun _ _ _ _=>(ev 0))) ai))))),?_⟩
 try walk_at "rn"
 rcases h with ⟨rfl,q⟩ | ⟨D,us,rs,H0,rfl,hD,hu,hl,hr',q⟩
 . exact ⟨_,.inl .cQ,false,rfl,aQ rfl q⟩
 obtain ⟨L,rfl,rfl,hL⟩:=hu.zip
 have hl:L.length<=1000000:=by simpa using hl
 unfold mE at q
 refine ⟨_,.inl (.lst hD),true,rfl,aL (by decide) ⟨D,rfl,⟨_,aZ.of hD⟩,fun D1 n1=>gE (L:=L) (f:=fun q=>q.1) (g:=fun q=>V.bl (pe q.2)) (aZ.of hD) n1 (by omega) (fun q hq H' Q' xx qq=>?_) (fun H1 h1 x1=>?_)⟩⟩
 . try walk_at "rn"
   exact ⟨q.1,q.2,H0,rfl,(hL q hq).ext xx,hr' q.2 (List.mem_map_of_mem hq),fun H2 x2=>qq _ x2⟩
 refine ⟨L.map fun q=>pe q.2,aZ.of (by rw [h1,List.map_map];rfl),?_⟩
 have e:(L.map fun q=>pe q.2).all id=(L.map (·.2)).all pe:=by rw [List.all_map,List.all_map];rfl
 rw [e]
 cases c1:(L.map (·.2)).all pe
 . exact aQ rfl (by have:=q _ x1;rw [c1] at this;exact this)
 rw [c1] at q
 refine aL (by decide) ⟨D,rfl,⟨_,aZ.of (x1.at hD)⟩,fun D2 n2=>?_⟩
 obtain ⟨u,hu'⟩:∃ u:V×(Int×List p8)->V,∀ q∈L,∃ a,q.1=.ref a/\tupQ K H1 a=some [.int q.2.1,u q]:=by
   have P:∀ q:V×(Int×List p8),∃ x:V,q∈L->∃ a,q.1=.ref a/\tupQ K H1 a=some [.int q.2.1,x]:=fun q=>by
     by_cases hq:q∈L
     . obtain ⟨a,D',vs,e1,e2,_⟩:=yp ((hL q hq).ext x1)
       exact ⟨.ref D',fun _=>⟨a,e1,e2⟩⟩
     . exact ⟨.cQ,fun z=>absurd z hq⟩
   exact ⟨fun q=>(P q).choose,fun q=>(P q).choose_spec⟩
 have eL:L.map (·.1)=(L.map fun q=>(q.1,q)).map (·.1):=by rw [List.map_map];rfl
 have rY:=x1.at hD
 rw [eL] at rY
 refine Bp (L:=L.map fun q=>(q.1,q)) (k:=fun q=>q.2.1) (u:=u) (aZ.of rY) (fun q hq=>?_) n2 (by simp;omega) (fun H2 h2 x2=>?_)
 . obtain ⟨q',hq',rfl⟩:=List.mem_map.mp hq
   exact hu' q' hq'
 refine ⟨D2,L.map fun q=>q.2.1,rfl,aZ.of (by rw [h2,List.map_map (l:=L)];rfl),by simpa using hl,fun H3 x3=>?_⟩
 have:=q _ (x1.trans (x2.trans x3))
 rw [List.map_map] at this
 exact this
def uX (K:PySem.W.Frag):Sp:=fun vs H Q _=>∃ v,vs=[v]/\((v=.cQ/\Q (.bl false) H)∨∃ D us rs H0,v=.ref D/\H D=some (.lst us)/\aT K H0 H (List.map RN.d rs) us/\rs.length<=1000000/\∀ H',Ext K H H'->Q (.bl (rs.all fG)) H')
theorem yy:aD ["thing"] ["thing"] (af g6):=⟨rfl,rfl,rfl,by decide +kernel,rfl,by decide +kernel,by decide +kernel⟩
theorem yz {f:Addr} {fd:FuncData} (F:fh K "are_notes" "are_notes" g6 f fd) {aG aP cF cR cN:Addr} {tE tF t1 t2 t3 t4:Tok} (B:B K mg aG aP cF cR cN tE tF t1 t2 t3 t4) (oH:Callee P w K mg base "is_note" 4 ["thing"] (yt K)):bf P w K mg base eZ 5 f fd ["thing"] (uX K):=by
 refine F.gP yy (fun vs H Q E h=>?_) (fun cG A outer s H vs Q E hr h=>?_)
 . obtain ⟨v,rfl,_⟩:=h
   rfl
 obtain ⟨v,rfl,h⟩:=h
 refine ⟨_,(aK (aW (ju (aU aX rfl B.isinstance aR (aa (ev 0) (aa (lX rfl B.list tK) ai))) (lu (aU (gW rfl) rfl B.all nv (aa (rz (jO.mk (N:=["part"]) (src:=[none]) rfl rfl) rfl (cI (ev 0)) (fun _ _ _ _=>(aA (i:=0) (show (["part"]:List Str).Nodup from by decide +kernel) rfl (Or.inl rfl))) (fun _ _ _ _=>cU) (fun _ _ _ _=>(au oH (hr.mono (by decide)) rfl (aa (ev 0) ai)))) ai)))))),?_⟩
 try walk_at "rn"
 rcases h with ⟨rfl,q⟩ | ⟨D,us,rs,H0,rfl,hD,hu,hl,q⟩
 . exact ⟨_,.inl .cQ,false,rfl,aL (by decide) q⟩
 obtain ⟨L,rfl,rfl,hL⟩:=hu.zip
 have hl:L.length<=1000000:=by simpa using hl
 refine ⟨_,.inl (.lst hD),true,rfl,aQ rfl ⟨D,rfl,⟨_,aZ.of hD⟩,fun D1 n1=>gE (L:=L) (f:=fun q=>q.1) (g:=fun q=>V.bl (fG q.2)) (aZ.of hD) n1 (by omega) (fun q hq H' Q' xx qq=>?_) (fun H1 h1 x1=>?_)⟩⟩
 . try walk_at "rn"
   exact ⟨q.1,q.2,H0,rfl,(hL q hq).ext xx,fun H2 x2=>qq _ x2⟩
 refine ⟨L.map fun q=>fG q.2,aZ.of (by rw [h1,List.map_map];rfl),?_⟩
 have e:(L.map fun q=>fG q.2).all id=(L.map (·.2)).all fG:=by rw [List.all_map,List.all_map];rfl
 rw [e]
 exact q _ x1
def yC (K:PySem.W.Frag):Sp:=fun vs H Q _=>∃ a u us x m,vs=[.ref a,.str x,.int m]/\tupQ K H a=some (.str u::us)/\Q (.bl (decide ((us.length:Int) + 1=m)&&decide (u=x))) H
theorem Ae:aD ["thing","word","many"] ["thing","word","many"] (af jg):=⟨rfl,rfl,rfl,by decide +kernel,rfl,by decide +kernel,by decide +kernel⟩
theorem Af {f:Addr} {fd:FuncData} (F:fh K "has_word" "has_word" jg f fd) {aG aP cF cR cN:Addr} {tE tF t1 t2 t3 t4:Tok} (B:B K mg aG aP cF cR cN tE tF t1 t2 t3 t4):bf P w K mg base eZ 1 f fd ["thing","word","many"] (yC K):=by
 refine F.gP Ae (fun vs H Q E h=>?_) (fun cG A outer s H vs Q E hr h=>?_)
 . obtain ⟨a,u,us,x,m,rfl,_⟩:=h
   rfl
 obtain ⟨a,u,us,x,m,rfl,ha,q⟩:=h
 refine ⟨_,(av (jD (tw (wW (jd (gy (aU aX rfl B.isinstance aR (aa (ev 0) (aa (lX rfl B.tuple iM) ai))))) (pK (cj mR (aU bH rfl B.len dg (aa (ev 0) ai)) (ev 2) (aI _))))) (aK (aW vY)) cY)
     (aK (aW (ju (aU aX rfl B.isinstance aR (aa (iJ ck (ev 0) ei (fun _ _=>rfl)) (aa (lX rfl B.str dh) ai))) (lu (kW cS (iJ ck (ev 0) ei (fun _ _=>rfl)) (ev 1) (aI _))))))),?_⟩
 simp_arith [br ha,ha]
 refine ⟨_,.tup ha,true,rfl,aL (by decide) ?_⟩
 by_cases c:(us.length:Int) + 1=m
 . exact aL (by simp;omega) ⟨_,.inl (.str _),true,rfl,aQ rfl (by rw [decide_eq_true c] at q;exact q)⟩
 . exact aQ (by simp;omega) (by rw [decide_eq_false c] at q;exact q)
def yD (K:PySem.W.Frag):Sp:=fun vs H Q _=>∃ a o v rs H0,vs=[.ref a]/\tupQ K H a=some [.str (Str.ofString "leaf"),on o,v]/\LstAt K H0 H sH rs v/\Gk rs/\(∀ l,rs=some l->∀ r∈l,r.2.length<=1000000)/\∀ H',Ext K H H'->Q (.bl (o.isSome&&Gi rs)) H'
theorem sM:aD ["thing"] ["thing"] (af eE):=⟨rfl,rfl,rfl,by decide +kernel,rfl,by decide +kernel,by decide +kernel⟩
theorem sN {f:Addr} {fd:FuncData} (F:fh K "is_leaf_told" "is_leaf_told" eE f fd) {aG aP cF cR cN:Addr} {tE tF t1 t2 t3 t4:Tok} (B:B K mg aG aP cF cR cN tE tF t1 t2 t3 t4) (fS:Callee P w K mg base "has_word" 1 ["thing","word","many"] (yC K)) (aM:Callee P w K mg base "is_number" 1 ["thing"] mz) (mH:Callee P w K mg base "are_rows" 6 ["thing"] (yx K)):bf P w K mg base eZ 7 f fd ["thing"] (yD K):=by
 refine F.gP sM (fun vs H Q E h=>?_) (fun cG A outer s H vs Q E hr h=>?_)
 . obtain ⟨a,o,v,rs,H0,rfl,_⟩:=h
   rfl
 obtain ⟨a,o,v,rs,H0,rfl,ha,hv,lr,lv,q⟩:=h
 refine ⟨_,(aK (aW (ju (au fS (hr.mono (by decide)) rfl (aa (ev 0) (aa aS (aa ei ai)))) (ju (au aM (hr.mono (by decide)) rfl (aa (iJ ck (ev 0) ei (fun _ _=>rfl)) ai)) (lu (au mH (hr.mono (by decide)) rfl (aa (iJ ck (ev 0) ei (fun _ _=>rfl)) ai))))))),?_⟩
 simp_arith [br ha,ha]
 refine ⟨a,_,_,_,_,rfl,ha,_,rfl,aQ (by simp) ⟨_,br ha,_,rfl,o,rfl,_,rfl,?_⟩⟩
 cases o with
 | none=>exact aL (by decide) (q _ Ext.refl)
 | some n=>
   refine aQ rfl ⟨_,br ha,_,rfl,v,rfl,?_⟩
   cases rs with
   | none=>exact .inl ⟨hv,q _ Ext.refl⟩
   | some l=>
     obtain ⟨D,us,e,n,hD,hu⟩:=hv
     exact .inr ⟨D,us,l,H0,e,hD,hu,lr l rfl,lv l rfl,q⟩
def Br (K:PySem.W.Frag):Sp:=fun vs H Q _=>∃ a o v C cs y pv rs H0,vs=[.ref a]/\tupQ K H a=some [.str (Str.ofString "inner"),on o,v,.ref C,y]/\H C=some (.lst (List.map V.int cs))/\cs.length<=1000000/\LstAt K H0 H PyData.int pv v/\Gk pv/\LstAt K H0 H RN.d rs y/\Gk rs/\
 ∀ H',Ext K H H'->Q (.bl (o.isSome&&pv.isSome&&Gj rs)) H'
theorem dc:aD ["thing","word","number","pivots","children","tray"] ["thing"] (af dH):=⟨rfl,rfl,rfl,by decide +kernel,rfl,by decide +kernel,by decide +kernel⟩
theorem rN {f:Addr} {fd:FuncData} (F:fh K "is_inner_told" "is_inner_told" dH f fd) {aG aP cF cR cN:Addr} {tE tF t1 t2 t3 t4:Tok} (B:B K mg aG aP cF cR cN tE tF t1 t2 t3 t4) (fS:Callee P w K mg base "has_word" 1 ["thing","word","many"] (yC K)) (aM:Callee P w K mg base "is_number" 1 ["thing"] mz) (cW:Callee P w K mg base "are_wholes" 2 ["thing"] (IY K)) (ku:Callee P w K mg base "are_notes" 5 ["thing"] (uX K)):bf P w K mg base eZ 6 f fd ["thing"] (Br K):=by
 refine F.gP dc (fun vs H Q E h=>?_) (fun cG A outer s H vs Q E hr h=>?_)
 . obtain ⟨a,o,v,C,cs,y,pv,rs,H0,rfl,_⟩:=h
   rfl
 obtain ⟨a,o,v,C,cs,y,pv,rs,H0,rfl,ha,hC,lC,hv,lv,hy,ly,q⟩:=h
 refine ⟨_,(av (jD (jd (gy (au fS (hr.mono (by decide)) rfl (aa (ev 0) (aa aS (aa ei ai)))))) (aK (aW vY)) cY)
     (av (i9 (ev 0) (fM (n:=5) rfl (aH (aA (i:=1) dc.nd rfl (Or.inl rfl)) (aH (aA (i:=2) dc.nd rfl (Or.inl rfl)) (aH (aA (i:=3) dc.nd rfl (Or.inl rfl)) (aH (aA (i:=4) dc.nd rfl (Or.inl rfl)) (aH (aA (i:=5) dc.nd rfl (Or.inl rfl)) gA)))))))
     (aK (aW (ju (au aM (hr.mono (by decide)) rfl (aa (ev 2) ai)) (ju (au cW (hr.mono (by decide)) rfl (aa (ev 3) ai)) (ju (au cW (hr.mono (by decide)) rfl (aa (ev 4) ai)) (lu (au ku (hr.mono (by decide)) rfl (aa (ev 5) ai)))))))))),?_⟩
 simp_arith [br ha,ha]
 refine ⟨a,_,_,_,_,rfl,ha,_,rfl,aL (by simp) ⟨_,ha,rfl,_,_,rfl,_,_,rfl,_,_,rfl,_,_,rfl,_,_,rfl,rfl,o,rfl,_,rfl,?_⟩⟩
 cases o with
 | none=>exact aL (by decide) (q _ Ext.refl)
 | some n=>
   refine aQ rfl ⟨v,rfl,?_⟩
   cases pv with
   | none=>exact .inl ⟨hv,_,rfl,aL (by decide) (q _ Ext.refl)⟩
   | some pv=>
     obtain ⟨D,us,e,_,hD,hu⟩:=hv
     rw [hu.ints] at hD
     refine .inr ⟨D,pv,e,hD,lv pv rfl,fun H1 x1=>⟨_,rfl,aQ rfl ⟨_,rfl,.inr ⟨C,cs,rfl,x1.at hC,lC,fun H2 x2=>⟨_,rfl,aQ rfl ⟨y,rfl,?_⟩⟩⟩⟩⟩⟩
     have LD:=x1.trans x2
     cases rs with
     | none=>exact .inl ⟨hy,q _ LD⟩
     | some l=>
       obtain ⟨Y,us,e,_,hY,hu⟩:=hy
       exact .inr ⟨Y,us,l,H0,e,LD.at hY,hu.ext LD,ly l rfl,fun H3 x3=>q _ (LD.trans x3)⟩
end
theorem oJ (x s:Str):(Txt.partition x s).1.length<=x.length/\(Txt.partition x s).2.2.length<=x.length:=by
 rcases PyProof.Rows.partition_whole x s with ⟨h,hn⟩ | ⟨i,h,hi,hn⟩
 . rw [h]
   exact ⟨Nat.le_refl _,Nat.zero_le _⟩
 . rw [h]
   exact ⟨strSub_length_le _ _ _,strSub_length_le _ _ _⟩
theorem LF {c:Nat} {s:Str} {k:Nat} (h:s.cps.toList=[k]):(⟨#[c]⟩:Str)=s↔c=k:=by
 constructor
 . intro e
   rw [<- e] at h
   simpa using h
 . intro e
   subst e
   exact iQ (by rw [h])
theorem NT:ak (Str.ofString "x")=none:=by decide +kernel
section
variable {P:Program} {w:World} {K:PySem.W.Frag} {mg:Str->Option Value} {base:Heap}
def zb (K:PySem.W.Frag) {α:Type} (rv:Str->Option α) (d:α->PyData):Sp:=fun vs H Q _=>∃ t:Str,vs=[.str t]/\t.length<=1000000/\∀ v H',Ext K H H'->bL K H H' (oD d (rv t)) v->Q v H'
theorem Tw {vs:List V} {H:Hp} {Q:VK} {E:XK} (h:zb K ak PyData.int vs H Q E):qz vs H Q E:=by
 obtain ⟨t,rfl,ht,q⟩:=h
 refine ⟨t,rfl,by omega,q _ _ Ext.refl ?_⟩
 cases ak t with
 | none=>exact bL.nn.mpr rfl
 | some i=>exact bL.ii.mpr rfl
def sO (K:PySem.W.Frag) {α:Type} (rv:Str->Option α) (d:α->PyData) (sep:Str) (fr:Addr):Sp:=fun vs H Q _=>∃ t:Str,vs=[.str t,.str sep,.ref fr]/\t.length<=1000000/\∀ v H',Ext K H H'->LstAt K H H' d (cu rv sep t) v->Q v H'
theorem qH:aD ["text","sign","read","told"] ["text","sign","read"] (af ig):=⟨rfl,rfl,rfl,by decide +kernel,rfl,by decide +kernel,by decide +kernel⟩
theorem iT {α:Type} {rv:Str->Option α} {d:α->PyData} {n c:Nat} {sep:Str} {f fr:Addr} {fd:FuncData} (F:fh K "read_list" "read_list" ig f fd) {aG aP cF cR cN:Addr} {tE tF t1 t2 t3 t4:Tok} (B:B K mg aG aP cF cR cN tE tF t1 t2 t3 t4) (hs:sep=⟨#[c]⟩) (hd:∀ a,iP (d a)=false) (Ag:FnAt P w K mg base n ["text"] (zb K rv d) fr):bf P w K mg base eZ (n + 1) f fd ["text","sign","read"] (sO K rv d sep fr):=by
 refine F.gP qH (fun vs H Q E h=>?_) (fun cG A outer s H vs Q E hr h=>?_)
 . obtain ⟨t,rfl,_⟩:=h
   rfl
 obtain ⟨t,rfl,ht,q⟩:=h
 obtain ⟨s1,s2⟩:=fk t c
 rw [<- hs] at s1 s2
 refine ⟨_,(av (jD (cj cS (ev 0) aS (aI _)) (aK (aW (bO ai))) cY)
     (av (Mn (i:=3) qH.nd rfl (Or.inl rfl) (jO.mk (N:=["piece","read"]) (src:=[none,some 2]) rfl rfl) rfl (cI (lA PySem.F.plainAttrs_str PySem.F.slot_str_split PySem.F.type_str_split lD (ev 0) (aa (ev 1) ai))) (fun _ _ _ _=>(aA (i:=0) (show (["piece","read"]:List Str).Nodup from by decide +kernel) rfl (Or.inl rfl))) (fun _ _ _ _=>cU) (fun _ _ _ _=>(Lm Ag (hr.mono (Nat.le_refl _)) (ev 1) (aa (ev 0) ai))))
     (aK (aW (Hv (cj (A8 hr.units) i8 (ev 3) (by with_unfolding_all rfl)) i8 (ev 3)))))),?_⟩
 try walk_at "rn"
 unfold cu at q
 refine gO (fun c=>fun D nD=>?_) (fun c=>?_)
 . rw [if_pos c] at q
   exact q _ _ (Ext.new nD) ⟨D,[],rfl,nD,ah,.nil⟩
 rw [if_neg c] at q
 refine ⟨by rw [hs];rfl,by omega,by omega,fun D nD=>⟨⟨_,aZ.of ah⟩,fun D1 n1=>?_⟩⟩
 have xD:=Ext.new (K:=K) (o:=.lst ((Txt.split t sep).map V.str)) nD
 refine CA (f:=V.str) (g:=fun p=>oD d (rv p)) (aZ.of ah) n1 (by omega) (fun p hp H' Q' xx qq=>?_) (fun us H1 h1 hu x1=>?_)
 . try walk_at "rn"
   exact ⟨p,rfl,by have:=s2 p hp;omega,qq⟩
 have xx:=xD.trans x1
 rw [show (Txt.split t sep).map (fun p=>oD d (rv p))=((Txt.split t sep).map rv).map (oD d) from by rw [List.map_map];rfl] at hu
 refine ⟨us,.inl (aZ.of h1),_,hu.is,?_⟩
 rw [qD hd]
 cases e:gI ((Txt.split t sep).map rv) with
 | none=>
   rw [e] at q
   exact aQ rfl (q _ _ xx rfl)
 | some l=>
   rw [e] at q
   rw [gR e,List.map_map] at hu
   exact aL (by simp) (q _ _ xx ⟨D1,us,rfl,d7 xD n1,h1,hu.old xD⟩)
def uY (K:PySem.W.Frag) (fr:Addr):Sp:=fun vs H Q E=>∃ t:Str,vs=[.str t]/\sO K ak PyData.int (Str.ofString ",") fr [.str t,.str (Str.ofString ","),.ref fr] H Q E
theorem sP:aD ["text"] ["text"] (af eT):=⟨rfl,rfl,rfl,by decide +kernel,rfl,by decide +kernel,by decide +kernel⟩
theorem sQ {f fr:Addr} {fd:FuncData} (F:fh K "read_numbers" "read_numbers" eT f fd) {aG aP cF cR cN:Addr} {tE tF t1 t2 t3 t4:Tok} (B:B K mg aG aP cF cR cN tE tF t1 t2 t3 t4) (NU:mg "read_figures"=some (.ref fr)) (kF:Callee P w K mg base "read_list" 3 ["text","sign","read"] (sO K ak PyData.int (Str.ofString ",") fr)):bf P w K mg base eZ 4 f fd ["text"] (uY K fr):=by
 refine F.gP sP (fun vs H Q E h=>?_) (fun cG A outer s H vs Q E hr h=>?_)
 . obtain ⟨t,rfl,_⟩:=h
   rfl
 obtain ⟨t,rfl,q⟩:=h
 refine ⟨_,(aK (aW (au kF (hr.mono (by decide)) rfl (aa (ev 0) (aa aS (aa (jt rfl NU (show RelV (.ref fr) (.ref fr) from rfl)) ai)))))),?_⟩
 try walk_at "rn"
 exact q
theorem gJ:aD ["text","number","colon","value"] ["text"] (af eU):=⟨rfl,rfl,rfl,by decide +kernel,rfl,by decide +kernel,by decide +kernel⟩
theorem mV {f:Addr} {fd:FuncData} (F:fh K "read_version" "read_version" eU f fd) {aG aP cF cR cN:Addr} {tE tF t1 t2 t3 t4:Tok} (B:B K mg aG aP cF cR cN tE tF t1 t2 t3 t4) (ao:Callee P w K mg base "read_figures" 2 ["text"] qz):bf P w K mg base eZ 3 f fd ["text"] (zb K qE oY):=by
 refine F.gP gJ (fun vs H Q E h=>?_) (fun cG A outer s H vs Q E hr h=>?_)
 . obtain ⟨t,rfl,_⟩:=h
   rfl
 obtain ⟨t,rfl,ht,q⟩:=h
 obtain ⟨p1,p2⟩:=oJ t (Str.ofString ":")
 refine ⟨_,(av (i9 (lA PySem.F.plainAttrs_str PySem.F.slot_str_partition PySem.F.type_str_partition mh (ev 0) (aa aS ai)) (fM (n:=3) rfl (aH (aA (i:=1) gJ.nd rfl (Or.inl rfl)) (aH (aA (i:=2) gJ.nd rfl (Or.inl rfl)) (aH (aA (i:=3) gJ.nd rfl (Or.inl rfl)) gA)))))
     (av (jD (tw (wW (cj m8 (au ao (hr.mono (by decide)) rfl (aa (ev 1) ai)) i8 (aI _)) (pK (tw (wV (cj mR (ev 3) aS (aI _)) (qj (cj m8 (au ao (hr.mono (by decide)) rfl (aa (ev 3) ai)) i8 (aI _)))))))) (aK (aW i8)) cY)
     (aK (aW (dN (aa (au ao (hr.mono (by decide)) rfl (aa (ev 1) ai)) (aa (au ao (hr.mono (by decide)) rfl (aa (ev 3) ai)) ai))))))),?_⟩
 try walk_at "rn"
 refine ⟨by decide +kernel,by omega,fun D nD=>⟨_,rfl,by omega,?_⟩⟩
 have xD:=Ext.new (K:=K) (o:=.tup [V.str (Txt.partition t (Str.ofString ":")).1,V.str (Txt.partition t (Str.ofString ":")).2.1,V.str (Txt.partition t (Str.ofString ":")).2.2]) nD
 generalize upd H D (.tup [V.str (Txt.partition t (Str.ofString ":")).1,V.str (Txt.partition t (Str.ofString ":")).2.1,V.str (Txt.partition t (Str.ofString ":")).2.2])=G at xD ⊢
 unfold qE at q
 have fin:∀ (n:Int) (o:Option Int),ak (Txt.partition t (Str.ofString ":")).1=some n->ak (Txt.partition t (Str.ofString ":")).2.2=o->(∀ v H',Ext K H H'->bL K H H' (oY (n,o)) v->Q v H')->qz [V.str (Txt.partition t (Str.ofString ":")).1] G (fun x H1=>qz [V.str (Txt.partition t (Str.ofString ":")).2.2] H1 (fun x_1 H1=>∀ (p:Addr),new K H1 p->Q (V.ref p) (upd H1 p (HO.tup [x,x_1]))) E0) E0:=by
   intro n o en eo qq
   refine ⟨_,rfl,by omega,_,rfl,by omega,fun p np=>qq _ _ (xD.trans (Ext.new np)) ?_⟩
   rw [en,eo]
   unfold oY
   exact bL.tt.mpr ⟨p,_,rfl,aN,.cons (bL.ii.mpr rfl) (.cons (bL.oo.mpr rfl) .nil)⟩
 cases e1:ak (Txt.partition t (Str.ofString ":")).1 with
 | none=>
   rw [e1] at q
   exact aQ rfl (q _ _ xD (bL.nn.mpr rfl))
 | some n=>
   rw [e1] at q
   refine aL (by simp [on]) ?_
   by_cases c:(Txt.partition t (Str.ofString ":")).2.2=Str.ofString "x"
   . dsimp only at q
     rw [if_pos c] at q
     exact aL (by simp [c]) (fin n none e1 (by rw [c,NT]) q)
   . dsimp only at q
     rw [if_neg c] at q
     refine aQ (by simp [c]) ⟨_,rfl,by omega,?_⟩
     cases e2:ak (Txt.partition t (Str.ofString ":")).2.2 with
     | none=>
       rw [e2] at q
       exact aQ rfl (q _ _ xD (bL.nn.mpr rfl))
     | some i=>
       rw [e2] at q
       exact aL (by simp [on]) (fin n (some i) e1 e2 q)
theorem jw:aD ["text","key","sign","versions","told"] ["text"] (af ji):=⟨rfl,rfl,rfl,by decide +kernel,rfl,by decide +kernel,by decide +kernel⟩
theorem rZ {f fv:Addr} {fd:FuncData} (F:fh K "read_row" "read_row" ji f fd) {aG aP cF cR cN:Addr} {tE tF t1 t2 t3 t4:Tok} (B:B K mg aG aP cF cR cN tE tF t1 t2 t3 t4) (ao:Callee P w K mg base "read_figures" 2 ["text"] qz) (LG:mg "read_version"=some (.ref fv)) (lN:Callee P w K mg base "read_list" 4 ["text","sign","read"] (sO K qE oY (Str.ofString ",") fv)):bf P w K mg base eZ 5 f fd ["text"] (zb K lJ sH):=by
 refine F.gP jw (fun vs H Q E h=>?_) (fun cG A outer s H vs Q E hr h=>?_)
 . obtain ⟨t,rfl,_⟩:=h
   rfl
 obtain ⟨t,rfl,ht,q⟩:=h
 obtain ⟨p1,p2⟩:=oJ t (Str.ofString "=")
 refine ⟨_,(av (i9 (lA PySem.F.plainAttrs_str PySem.F.slot_str_partition PySem.F.type_str_partition mh (ev 0) (aa aS ai)) (fM (n:=3) rfl (aH (aA (i:=1) jw.nd rfl (Or.inl rfl)) (aH (aA (i:=2) jw.nd rfl (Or.inl rfl)) (aH (aA (i:=3) jw.nd rfl (Or.inl rfl)) gA)))))
     (av (sset (i:=4) jw.nd rfl (Or.inl rfl) (dN (aa (au ao (hr.mono (by decide)) rfl (aa (ev 1) ai)) (aa (au lN (hr.mono (by decide)) rfl (aa (ev 3) (aa aS (aa (jt rfl LG (show RelV (.ref fv) (.ref fv) from rfl)) ai)))) ai))))
     (aK (aW (Hv (cj (A8 hr.units) i8 (ev 4) (by with_unfolding_all rfl)) i8 (ev 4)))))),?_⟩
 try walk_at "rn"
 refine ⟨by decide +kernel,by omega,fun D nD=>⟨_,rfl,by omega,_,rfl,by omega,fun v H1 x1 hv p np=>?_⟩⟩
 have xD:=Ext.new (K:=K) (o:=.tup [V.str (Txt.partition t (Str.ofString "=")).1,V.str (Txt.partition t (Str.ofString "=")).2.1,V.str (Txt.partition t (Str.ofString "=")).2.2]) nD
 have hv:=hv.old xD
 have x1:=xD.trans x1
 have xp:=Ext.new (K:=K) (o:=.tup [on (ak (Txt.partition t (Str.ofString "=")).1),v]) np
 have xx:=x1.trans xp
 have hv:=hv.ext xp
 unfold lJ at q
 have tp:om K (upd H1 p (.tup [on (ak (Txt.partition t (Str.ofString "=")).1),v])) p [on (ak (Txt.partition t (Str.ofString "=")).1),v]:=gD aN
 have tq:tupQ K (upd H1 p (.tup [on (ak (Txt.partition t (Str.ofString "=")).1),v])) p=some [on (ak (Txt.partition t (Str.ofString "=")).1),v]:=aN
 generalize upd H1 p (.tup [on (ak (Txt.partition t (Str.ofString "=")).1),v])=G at *
 cases e2:cu qE (Str.ofString ",") (Txt.partition t (Str.ofString "=")).2.2 with
 | none=>
   rw [e2] at hv q
   refine ⟨_,.inr tp,[DL (ak (Txt.partition t (Str.ofString "=")).1),.none],(aT.cons (H0:=H) (bL.oo.mpr rfl) (.cons (bL.nn.mpr hv) .nil)).is,aQ (by simp [iP]) ?_⟩
   cases e1:ak (Txt.partition t (Str.ofString "=")).1 with
   | none=>rw [e1] at q;exact q _ _ xx (bL.nn.mpr rfl)
   | some k=>rw [e1] at q;exact q _ _ xx (bL.nn.mpr rfl)
 | some l=>
   rw [e2] at hv q
   obtain ⟨D1,us,rfl,n1,h1,hu⟩:=hv
   have hl:bL K H G (.list (l.map oY)) (.ref D1):=bL.ll.mpr ⟨D1,us,rfl,n1,h1,hu⟩
   refine ⟨_,.inr tp,[DL (ak (Txt.partition t (Str.ofString "=")).1),.list (l.map oY)],(aT.cons (H0:=H) (bL.oo.mpr rfl) (.cons hl .nil)).is,?_⟩
   cases e1:ak (Txt.partition t (Str.ofString "=")).1 with
   | none=>rw [e1] at q;exact aQ rfl (q _ _ xx (bL.nn.mpr rfl))
   | some k=>
     rw [e1] at q tq
     refine aL (by simp [iP,DL]) (q _ _ xx ?_)
     exact bL.tt.mpr ⟨p,_,rfl,tq,.cons (bL.ii.mpr rfl) (.cons hl .nil)⟩
theorem qI:aD ["text","number"] ["text"] (af ir):=⟨rfl,rfl,rfl,by decide +kernel,rfl,by decide +kernel,by decide +kernel⟩
theorem yE {f:Addr} {fd:FuncData} (F:fh K "read_half" "read_half" ir f fd) {aG aP cF cR cN:Addr} {tE tF t1 t2 t3 t4:Tok} (B:B K mg aG aP cF cR cN tE tF t1 t2 t3 t4) (ao:Callee P w K mg base "read_figures" 2 ["text"] qz):bf P w K mg base eZ 3 f fd ["text"] (zb K fR bJ.hd):=by
 refine F.Qe qI (fun vs H Q E h=>?_) (fun cG A outer s H vs Q E hr hm h=>?_)
 . obtain ⟨t,rfl,_⟩:=h
   rfl
 obtain ⟨t,rfl,ht,q⟩:=h
 refine ⟨_,(av (jD (cj cS (ev 0) aS (aI _)) (aK (aW (jt rfl B.Ls B.xQ))) cY)
     (av (sset (i:=1) qI.nd rfl (Or.inl rfl) (au ao (hr.mono (by decide)) rfl (aa (gw pN (ev 0) (jF ei) jE) ai)))
     (av (jD (tw (wW (cj m8 (ev 1) i8 (aI _)) (pK (cj DF (iJ wN (ev 0) ei (fun _ _=>rfl)) aS (by with_unfolding_all rfl))))) (aK (aW i8)) cY)
     (aK (aW (dN (aa (Hv (cj cS (iJ wN (ev 0) ei (fun _ _=>rfl)) aS (aI _)) aS aS) (aa (ev 1) ai)))))))),?_⟩
 try walk_at "rn"
 unfold fR at q
 refine gO (fun c=>?_) (fun c=>?_)
 . rw [if_pos c] at q
   exact q _ _ Ext.refl (bL.tt.mpr ⟨aG,_,rfl,hm.tup B.kG,.cons (bL.ss.mpr rfl) .nil⟩)
 rw [if_neg c] at q
 have ls:=Txt.slice_le t (some 1) none
 refine ⟨by omega,_,rfl,by omega,?_⟩
 cases e0:t.cps.toList with
 | nil=>
   have et:t=Str.ofString "":=iQ (by rw [e0];decide +kernel)
   subst et
   rw [e0] at q
   refine aQ (by decide +kernel) (q _ _ Ext.refl (bL.nn.mpr rfl))
 | cons x r=>
   have es:Txt.slice t (some 1) none=⟨r.toArray⟩:=iQ (by
     have:=uR (x:=t) (n:=1) (by rw [str_len,e0];simp)
     rw [e0] at this
     simpa using this)
   rw [es]
   rw [e0] at q
   dsimp only at q
   cases e1:ak ⟨r.toArray⟩ with
   | none=>
     rw [e1] at q
     exact aQ rfl (q _ _ Ext.refl (bL.nn.mpr rfl))
   | some n=>
     rw [e1] at q
     dsimp only at q
     have hp:(⟨#[x]⟩:Str)=Str.ofString "+"↔x=43:=LF (by decide +kernel)
     have hc:Txt.contains (Str.ofString "+=") ⟨#[x]⟩=decide (x=43∨x=61):=by
       show (!(Builtin.Str.occurrences (Str.ofString "+=") ⟨#[x]⟩ 0 (Str.ofString "+=").length 1).isEmpty)=_
       rw [StrLaws.found_one,show (Str.ofString "+=").cps.toList=[43,61] from by decide +kernel]
       simp
     refine aL (by simp [on]) ⟨by omega,x,uf,?_⟩
     rw [hc]
     by_cases c1:x=43
     . rw [if_pos c1] at q
       refine aL (by simp [c1]) ⟨by omega,x,uf,aQ (hp.mpr c1) fun p np=>q _ _ (Ext.new np) ?_⟩
       exact bL.tt.mpr ⟨p,_,rfl,aN,.cons (bL.ss.mpr rfl) (.cons (bL.ii.mpr rfl) .nil)⟩
     rw [if_neg c1] at q
     by_cases c2:x=61
     . rw [if_pos c2] at q
       refine aL (by simp [c2]) ⟨by omega,x,uf,aL (fun z=>c1 (hp.mp z)) fun p np=>q _ _ (Ext.new np) ?_⟩
       exact bL.tt.mpr ⟨p,_,rfl,aN,.cons (bL.ss.mpr rfl) (.cons (bL.ii.mpr rfl) .nil)⟩
     . rw [if_neg c2] at q
       exact aQ (by simp [c1,c2]) (q _ _ Ext.refl (bL.nn.mpr rfl))
theorem Gm {t:Str} (h:(Txt.split t (Str.ofString ".")).length≠5):gv t=none:=by
 unfold gv
 split
 . rename_i e
   rw [e] at h
   exact absurd rfl h
 . rfl
theorem yF:Str.ofString "."=⟨#[46]⟩:=by decide +kernel
theorem fm:aD ["text","pieces","number","low","high","there","none"] ["text"] (af iu):=⟨rfl,rfl,rfl,by decide +kernel,rfl,by decide +kernel,by decide +kernel⟩
theorem qJ {f:Addr} {fd:FuncData} (F:fh K "read_note" "read_note" iu f fd) {aG aP cF cR cN:Addr} {tE tF t1 t2 t3 t4:Tok} (B:B K mg aG aP cF cR cN tE tF t1 t2 t3 t4) (ao:Callee P w K mg base "read_figures" 2 ["text"] qz) (iI:Callee P w K mg base "read_half" 3 ["text"] (zb K fR bJ.hd)):bf P w K mg base eZ 4 f fd ["text"] (zb K gv RN.d):=by
 refine F.gP fm (fun vs H Q E h=>?_) (fun cG A outer s H vs Q E hr h=>?_)
 . obtain ⟨t,rfl,_⟩:=h
   rfl
 obtain ⟨t,rfl,ht,q⟩:=h
 refine ⟨_,(av (sset (i:=1) fm.nd rfl (Or.inl rfl) (lA PySem.F.plainAttrs_str PySem.F.slot_str_split PySem.F.type_str_split lD (ev 0) (aa aS ai)))
     (av (jD (cj mR (aU bH rfl B.len dg (aa (ev 1) ai)) ei (aI _)) (aK (aW i8)) cY)
     (av (i9 (rz (jO.mk (N:=["piece"]) (src:=[none]) rfl rfl) rfl (cI (gw iN (ev 1) jE (jF ei))) (fun _ _ _ _=>(aA (i:=0) (show (["piece"]:List Str).Nodup from by decide +kernel) rfl (Or.inl rfl))) (fun _ _ _ _=>cU) (fun _ _ _ _=>(au ao (hr.mono (by decide)) rfl (aa (ev 0) ai)))) (Cq (n:=3) rfl (aH (aA (i:=2) fm.nd rfl (Or.inl rfl)) (aH (aA (i:=3) fm.nd rfl (Or.inl rfl)) (aH (aA (i:=4) fm.nd rfl (Or.inl rfl)) gA)))))
     (av (i9 (rz (jO.mk (N:=["piece"]) (src:=[none]) rfl rfl) rfl (cI (gw iN (ev 1) (jF ei) jE)) (fun _ _ _ _=>(aA (i:=0) (show (["piece"]:List Str).Nodup from by decide +kernel) rfl (Or.inl rfl))) (fun _ _ _ _=>cU) (fun _ _ _ _=>(au iI (hr.mono (by decide)) rfl (aa (ev 0) ai)))) (Cq (n:=2) rfl (aH (aA (i:=5) fm.nd rfl (Or.inl rfl)) (aH (aA (i:=6) fm.nd rfl (Or.inl rfl)) gA))))
     (aK (aW (dN (aa (ev 2) (aa (ev 3) (aa (ev 4) (aa (dN (aa (ev 5) (aa (ev 6) ai))) ai))))))))))),?_⟩
 try walk_at "rn"
 obtain ⟨s1,s2⟩:=fk t 46
 rw [<- yF] at s1 s2
 refine ⟨by decide +kernel,by omega,by omega,fun D nD=>?_⟩
 have xD:=Ext.new (K:=K) (o:=.lst ((Txt.split t (Str.ofString ".")).map V.str)) nD
 by_cases hl:(Txt.split t (Str.ofString ".")).length=5
 case neg=>
   refine aQ (by simp;omega) (q _ _ xD ?_)
   rw [Gm hl]
   exact bL.nn.mpr rfl
 refine aL (by simp;omega) ?_
 obtain ⟨x,y,z,u,v,e⟩:∃ x y z u v,Txt.split t (Str.ofString ".")=[x,y,z,u,v]:=by
   rcases h:Txt.split t (Str.ofString ".") with _ | ⟨x,_ | ⟨y,_ | ⟨z,_ | ⟨u,_ | ⟨v,_ | ⟨w',r⟩⟩⟩⟩⟩⟩ <;> rw [h] at hl <;> simp only [List.length_cons,List.length_nil] at hl <;> first | omega | exact ⟨_,_,_,_,_,rfl⟩
 have en:gv t=some ⟨ak x,ak y,ak z,fR u,fR v⟩:=by unfold gv;rw [e]
 rw [en] at q
 rw [e] at xD s2 ⊢
 have hD:upd H D (.lst ([x,y,z,u,v].map V.str)) D=some (.lst ([x,y,z,u,v].map V.str)):=ah
 generalize upd H D (.lst ([x,y,z,u,v].map V.str))=G at xD hD ⊢
 refine ⟨_,aZ.of hD,fun p np=>?_⟩
 have ep:iL ([x,y,z,u,v].map V.str) none (some 3)=[x,y,z].map V.str:=by rw [show iL ([x,y,z,u,v].map V.str) none (some 3)=([x,y,z,u,v].map V.str).take 3 from tM _ 3];rfl
 rw [ep]
 have xp:=Ext.new (K:=K) (o:=.lst ([x,y,z].map V.str)) np
 refine ⟨⟨_,aZ.of ah⟩,fun D1 n1=>?_⟩
 refine gE (L:=[x,y,z]) (f:=V.str) (g:=fun p=>on (ak p)) (aZ.of ah) n1 (by simp) (fun p hp H' Q' xx qq=>?_) (fun G1 h1 x1=>?_)
 . try walk_at "rn"
   refine ⟨p,rfl,?_,qq _ Ext.refl⟩
   have:=s2 p (by simp only [List.mem_cons,List.not_mem_nil,or_false] at hp ⊢;rcases hp with h | h | h <;> simp [h])
   omega
 have X1:=xp.trans x1
 refine ⟨_,aZ.of h1,rfl,_,_,rfl,_,_,rfl,_,_,rfl,rfl,_,aZ.of (X1.at hD),fun p2 np2=>?_⟩
 have ep2:iL ([x,y,z,u,v].map V.str) (some 3) none=[u,v].map V.str:=by rw [show iL ([x,y,z,u,v].map V.str) (some 3) none=([x,y,z,u,v].map V.str).drop 3 from ou _ 3];rfl
 rw [ep2]
 have My:=Ext.new (K:=K) (o:=.lst ([u,v].map V.str)) np2
 refine ⟨⟨_,aZ.of ah⟩,fun D2 n2=>?_⟩
 refine CA (L:=[u,v]) (f:=V.str) (g:=fun p=>oD bJ.hd (fR p)) (aZ.of ah) n2 (by simp) (fun p hp H' Q' xx qq=>?_) (fun us G2 h2 hu x2=>?_)
 . try walk_at "rn"
   refine ⟨p,rfl,?_,qq⟩
   have:=s2 p (by simp only [List.mem_cons,List.not_mem_nil,or_false] at hp ⊢;rcases hp with h | h <;> simp [h])
   omega
 obtain ⟨v1,r1,rfl,a1,hu⟩:=aT.cc.mp hu
 obtain ⟨v2,r2,rfl,a2,hu⟩:=aT.cc.mp hu
 cases aT.nn.mp hu
 refine ⟨_,aZ.of h2,rfl,_,_,rfl,_,_,rfl,rfl,fun p3 np3 p4 np4=>?_⟩
 have XX:=xD.trans (X1.trans My)
 have x3:=Ext.new (K:=K) (o:=.tup [v1,v2]) np3
 have x4:=Ext.new (K:=K) (o:=.tup [on (ak x),on (ak y),on (ak z),V.ref p3]) np4
 have hO:∀ o:Option bJ,oD bJ.hd o=DM o:=fun o=>by cases o <;> rfl
 have a1:=a1.old XX
 have a2:=a2.old XX
 have a1:bL K H G2 (DM (fR u)) v1:=by rw [<- hO];exact a1
 have a2:bL K H G2 (DM (fR v)) v2:=by rw [<- hO];exact a2
 refine q _ _ (XX.trans (x2.trans (x3.trans x4))) (bL.tt.mpr ⟨p4,_,rfl,aN,.cons (bL.oo.mpr rfl) (.cons (bL.oo.mpr rfl) (.cons (bL.oo.mpr rfl) (.cons (bL.tt.mpr ⟨p3,_,rfl,x4.tup aN,.cons (a1.ext (x3.trans x4)) (.cons (a2.ext (x3.trans x4)) .nil)⟩) .nil)))⟩)
theorem iU:aD ["text","child","sign","place","told"] ["text"] (af iw):=⟨rfl,rfl,rfl,by decide +kernel,rfl,by decide +kernel,by decide +kernel⟩
theorem qK {f:Addr} {fd:FuncData} (F:fh K "read_spot" "read_spot" iw f fd) {aG aP cF cR cN:Addr} {tE tF t1 t2 t3 t4:Tok} (B:B K mg aG aP cF cR cN tE tF t1 t2 t3 t4) (ao:Callee P w K mg base "read_figures" 2 ["text"] qz):bf P w K mg base eZ 3 f fd ["text"] (zb K jG uU):=by
 refine F.gP iU (fun vs H Q E h=>?_) (fun cG A outer s H vs Q E hr h=>?_)
 . obtain ⟨t,rfl,_⟩:=h
   rfl
 obtain ⟨t,rfl,ht,q⟩:=h
 obtain ⟨p1,p2⟩:=oJ t (Str.ofString "@")
 refine ⟨_,(av (i9 (lA PySem.F.plainAttrs_str PySem.F.slot_str_partition PySem.F.type_str_partition mh (ev 0) (aa aS ai)) (fM (n:=3) rfl (aH (aA (i:=1) iU.nd rfl (Or.inl rfl)) (aH (aA (i:=2) iU.nd rfl (Or.inl rfl)) (aH (aA (i:=3) iU.nd rfl (Or.inl rfl)) gA)))))
     (av (sset (i:=4) iU.nd rfl (Or.inl rfl) (dN (aa (au ao (hr.mono (by decide)) rfl (aa (ev 1) ai)) (aa (au ao (hr.mono (by decide)) rfl (aa (ev 3) ai)) ai))))
     (aK (aW (Hv (cj (A8 hr.units) i8 (ev 4) (by with_unfolding_all rfl)) i8 (ev 4)))))),?_⟩
 try walk_at "rn"
 refine ⟨by decide +kernel,by omega,fun D nD=>⟨_,rfl,by omega,_,rfl,by omega,fun p np=>?_⟩⟩
 have xD:=Ext.new (K:=K) (o:=.tup [V.str (Txt.partition t (Str.ofString "@")).1,V.str (Txt.partition t (Str.ofString "@")).2.1,V.str (Txt.partition t (Str.ofString "@")).2.2]) nD
 generalize upd H D (.tup [V.str (Txt.partition t (Str.ofString "@")).1,V.str (Txt.partition t (Str.ofString "@")).2.1,V.str (Txt.partition t (Str.ofString "@")).2.2])=H1 at *
 have xp:=Ext.new (K:=K) (o:=.tup [on (ak (Txt.partition t (Str.ofString "@")).1),on (ak (Txt.partition t (Str.ofString "@")).2.2)]) np
 have xx:=xD.trans xp
 unfold jG at q
 have tq:tupQ K (upd H1 p (.tup [on (ak (Txt.partition t (Str.ofString "@")).1),on (ak (Txt.partition t (Str.ofString "@")).2.2)])) p=some [on (ak (Txt.partition t (Str.ofString "@")).1),on (ak (Txt.partition t (Str.ofString "@")).2.2)]:=aN
 generalize upd H1 p (.tup [on (ak (Txt.partition t (Str.ofString "@")).1),on (ak (Txt.partition t (Str.ofString "@")).2.2)])=G at *
 refine ⟨_,.inr (gD tq),[DL (ak (Txt.partition t (Str.ofString "@")).1),DL (ak (Txt.partition t (Str.ofString "@")).2.2)],(aT.cons (H0:=H) (bL.oo.mpr rfl) (.cons (bL.oo.mpr rfl) .nil)).is,?_⟩
 cases e1:ak (Txt.partition t (Str.ofString "@")).1 with
 | none=>rw [e1] at q;exact aQ rfl (q _ _ xx (bL.nn.mpr rfl))
 | some k=>
   cases e2:ak (Txt.partition t (Str.ofString "@")).2.2 with
   | none=>rw [e1,e2] at q;exact aQ (by simp [iP,DL]) (q _ _ xx (bL.nn.mpr rfl))
   | some l=>
     rw [e1,e2] at q tq
     exact aL (by simp [iP,DL]) (q _ _ xx (bL.tt.mpr ⟨p,_,rfl,tq,.cons (bL.ii.mpr rfl) (.cons (bL.ii.mpr rfl) .nil)⟩))
def yG (K:PySem.W.Frag):Sp:=fun vs H Q _=>∃ p n r,vs=[.ref p]/\H p=some (.lst [.str (Str.ofString "leaf"),.str n,.str r])/\n.length<=1000000/\r.length < 1000000/\(mF n r=none->∀ H',Ext K H H'->Q .cQ H')/\(∀ x,mF n r=some x->∀ T H',Ext K H H'->sI K H H' T x->Q (.ref T) H')
theorem jq:Str.ofString ";"=⟨#[59]⟩:=by decide +kernel
theorem Gn {r:Str} {l:List (Int×List p8)} (h:cu lJ (Str.ofString ";") r=some l) (hr:r.length < 1000000):l.length<=1000000/\∀ x∈l,x.2.length<=1000000:=by
 rw [jq] at h
 refine ⟨by have:=lI h;omega,fun x hx=>?_⟩
 unfold cu at h
 split at h
 . cases h;cases hx
 . have:=gR h
   have hm:some x∈(Txt.split r ⟨#[59]⟩).map lJ:=by rw [this];exact List.mem_map_of_mem hx
   obtain ⟨p,hp,e⟩:=List.mem_map.mp hm
   have lp:=(fk r 59).2 p hp
   unfold lJ at e
   split at e
   . rename_i k vs e1 e2
     cases e
     rw [bG] at e2
     have:=lI e2
     have:=(oJ p (Str.ofString "=")).2
     show vs.length<=_
     omega
   . cases e
theorem iV:aD ["pieces","word","number","rows","leaf"] ["pieces"] (af iy):=⟨rfl,rfl,rfl,by decide +kernel,rfl,by decide +kernel,by decide +kernel⟩
theorem yH {f fw:Addr} {fd:FuncData} (F:fh K "read_leaf" "read_leaf" iy f fd) {aG aP cF cR cN:Addr} {tE tF t1 t2 t3 t4:Tok} (B:B K mg aG aP cF cR cN tE tF t1 t2 t3 t4) (ao:Callee P w K mg base "read_figures" 2 ["text"] qz) (NV:mg "read_row"=some (.ref fw)) (qL:Callee P w K mg base "read_list" 6 ["text","sign","read"] (sO K lJ sH (Str.ofString ";") fw)) (iW:Callee P w K mg base "is_leaf_told" 7 ["thing"] (yD K)):bf P w K mg base eZ 8 f fd ["pieces"] (yG K):=by
 refine F.gP iV (fun vs H Q E h=>?_) (fun cG A outer s H vs Q E hr h=>?_)
 . obtain ⟨p,n,r,rfl,_⟩:=h
   rfl
 obtain ⟨p,n,r,rfl,hp,ln,lr,qn,q⟩:=h
 refine ⟨_,(av (i9 (ev 0) (Cq (n:=3) rfl (aH (aA (i:=1) iV.nd rfl (Or.inl rfl)) (aH (aA (i:=2) iV.nd rfl (Or.inl rfl)) (aH (aA (i:=3) iV.nd rfl (Or.inl rfl)) gA)))))
     (av (sset (i:=4) iV.nd rfl (Or.inl rfl) (dN (aa (ev 1) (aa (au ao (hr.mono (by decide)) rfl (aa (ev 2) ai)) (aa (au qL (hr.mono (by decide)) rfl (aa (ev 3) (aa aS (aa (jt rfl NV (show RelV (.ref fw) (.ref fw) from rfl)) ai)))) ai)))))
     (aK (aW (Hv (tw (wV (gy (au iW (hr.mono (by decide)) rfl (aa (ev 4) ai))) (qj (cj EI (iJ ck (ev 4) ei (fun _ _=>rfl)) ei (aI _))))) (dN (aa (ev 4) (aa xy ai))) i8))))),?_⟩
 simp_arith [bC hp,hp]
 refine ⟨_,aZ.of hp,rfl,_,_,rfl,_,_,rfl,_,_,rfl,rfl,n,rfl,by omega,r,rfl,by omega,fun v H1 x1 hv a na=>?_⟩
 have xa:=Ext.new (K:=K) (o:=.tup [V.str (Str.ofString "leaf"),on (ak n),v]) na
 have ha:tupQ K (upd H1 a (.tup [V.str (Str.ofString "leaf"),on (ak n),v])) a=some [V.str (Str.ofString "leaf"),on (ak n),v]:=aN
 generalize upd H1 a (.tup [V.str (Str.ofString "leaf"),on (ak n),v])=H2 at xa ha ⊢
 have hv:=hv.ext xa
 have Ti:∀ l,cu lJ (Str.ofString ";") r=some l->l.length<=1000000/\∀ x∈l,x.2.length<=1000000:=fun l e=>Gn e lr
 refine ⟨a,ak n,v,_,H,rfl,ha,hv,fun l e=>(Ti l e).1,fun l e=>(Ti l e).2,fun H3 x3=>⟨_,rfl,?_⟩⟩
 have XX:=x1.trans (xa.trans x3)
 unfold mF at qn q
 cases e1:ak n with
 | none=>
   rw [e1] at qn
   exact aL (by simp [Gi]) (qn rfl _ XX)
 | some i=>
   rw [e1] at qn q ha
   cases e2:cu lJ (Str.ofString ";") r with
   | none=>
     rw [e2] at qn
     exact aL (by simp [Gi]) (qn rfl _ XX)
   | some l=>
     rw [e2] at qn q hv
     dsimp only at qn q
     cases c:mE l
     . refine aL (by show ¬ ((true&&mE l)=true);rw [c];decide) (qn ?_ _ XX)
       rw [c,Bool.and_false]
       rfl
     refine aQ (by show (true&&mE l)=true;rw [c];rfl) ⟨_,br (x3.tup ha),_,rfl,i,rfl,gO (fun c0=>?_) (fun c0=>?_)⟩
     . intro P nP T nT
       have xP:=Ext.new (K:=K) (o:=.dK []) nP
       have xT:=Ext.new (K:=K) (o:=.tup [V.ref a,V.ref P]) nT
       obtain ⟨D,us,rfl,nD,hD,hu⟩:=hv
       have y:=x3.trans (xP.trans xT)
       rw [c,decide_eq_true c0] at q
       have Mz:=y.at hD
       have hP:upd (upd H3 P (.dK [])) T (.tup [V.ref a,V.ref P]) P=some (.dK []):=xT.at ah
       refine q _ (if_pos rfl) T _ (XX.trans (xP.trans xT)) ⟨a,D,P,us,aN,y.tup ha,nD,Mz,hu.ext y,d7 XX nP,hP,fun z=>?_⟩
       rw [z,hP] at Mz
       cases Mz
     . refine qn ?_ _ XX
       rw [decide_eq_false c0]
       rfl
theorem Gp (L:List (Int×V)) (k:Int):(gM (kX L) (.inl k)).isSome=decide (k∈L.map (·.1)):=by
 have key:∀ n,n<=L.length->(gM (kX (L.take n)) (.inl k)).isSome=decide (k∈(L.take n).map (·.1)):=by
   intro n
   induction n with
   | zero=>intro _;rfl
   | succ n ih=>
     intro h
     rw [List.take_add_one,List.getElem?_eq_getElem (by omega),Option.toList_some,rG,qf,List.map_append]
     have ih:=ih (by omega)
     by_cases c:k=L[n].1
     . rw [if_pos (by rw [c])]
       simp [c]
     . rw [if_neg (fun z=>c (Sum.inl.inj z)),ih]
       exact decide_eq_decide.mpr (by simp [c])
 have:=key L.length (Nat.le_refl _)
 rwa [List.take_length] at this
theorem uZ {L:List (Int×V)}:((L.map (·.1)).Nodup->kX L=L.map fun q=>(.inl q.1,q.2))/\(¬ (L.map (·.1)).Nodup->(kX L).length≠L.length):=by
 have key:∀ n,n<=L.length->(((L.take n).map (·.1)).Nodup->kX (L.take n)=(L.take n).map fun q=>(.inl q.1,q.2))/\(¬ ((L.take n).map (·.1)).Nodup->(kX (L.take n)).length < n):=by
   intro n
   induction n with
   | zero=>intro _;exact ⟨fun _=>rfl,fun h=>absurd List.nodup_nil h⟩
   | succ n ih=>
     intro h
     have ih:=ih (by omega)
     have l1:(kX (L.take n)).length<=n:=by have:=zN (L.take n);rw [List.length_take] at this;omega
     rw [List.take_add_one,List.getElem?_eq_getElem (by omega),Option.toList_some,rG,List.map_append,List.map_append]
     generalize L[n]=q
     have hh:=Gp (L.take n) q.1
     rw [<- nq] at hh
     by_cases c:q.1∈(L.take n).map (·.1)
     . rw [decide_eq_true c] at hh
       refine ⟨fun z=>?_,fun _=>?_⟩
       . rw [List.nodup_append] at z
         exact absurd rfl (z.2.2 q.1 c q.1 (by simp))
       . unfold putK
         rw [if_pos hh,List.length_map]
         omega
     . rw [decide_eq_false c] at hh
       unfold putK
       rw [if_neg (by rw [hh];decide)]
       refine ⟨fun z=>?_,fun z=>?_⟩
       . rw [List.nodup_append] at z
         rw [ih.1 z.1]
         rfl
       . rw [List.length_append]
         have:¬ ((L.take n).map (·.1)).Nodup:=fun y=>z (by
           rw [List.nodup_append]
           refine ⟨y,by simp,fun a ha b hb e=>c ?_⟩
           simp only [List.map_cons,List.map_nil,List.mem_singleton] at hb
           rw [<- hb,<- e]
           exact ha)
         have:=ih.2 this
         simp only [List.length_singleton]
         omega
 have:=key L.length (Nat.le_refl _)
 rw [List.take_length] at this
 exact ⟨this.1,fun h=>Nat.ne_of_lt (this.2 h)⟩
theorem u5 {p:Int×Int}:∀ {L:List (Int×Int)},(L.map (·.1)).Nodup->p∈L->gM (L.map fun q=>((.inl q.1:Key),V.int q.2)) (.inl p.1)=some (V.int p.2)
 | [],_,h=>nomatch h
 | q::L,nd,h=>by
   rw [List.map_cons,List.nodup_cons] at nd
   rcases List.mem_cons.mp h with rfl | h
   . exact fq (p:=((.inl p.1:Key),V.int p.2)) rfl
   . rw [List.map_cons,fz (fun z=>nd.1 (by
       have:q.1=p.1:=Sum.inl.inj z
       rw [this]
       exact List.mem_map_of_mem h))]
     exact u5 nd.2 h
def Bs (K:PySem.W.Frag):Sp:=fun vs H Q _=>∃ a n v D pv C sp y P,vs=[.ref a,.ref P]/\tupQ K H a=some [.str (Str.ofString "inner"),.int n,.ref D,.ref C,y]/\v=V.ref D/\H D=some (.lst (List.map V.int pv))/\H C=some (.lst (List.map (fun p:Int×Int=>V.int p.1) sp))/\H P=some (.dK (kX (List.map (fun p:Int×Int=>(p.1,V.int p.2)) sp)))/\sp.length<=1000000/\pv.length<=1000000/\
 ∀ H',Ext K H H'->Q (.bl (decide (sp.length=pv.length + 1)&&decide ((sp.map (·.1)).Nodup)&&decide (0<=n)&&sp.all (fun p=>decide (0<=p.1)&&decide (0<=p.2)))) H'
theorem bT:aD ["inner","places","word","number","pivots","children","tray"] ["inner","places"] (af bY):=⟨rfl,rfl,rfl,by decide +kernel,rfl,by decide +kernel,by decide +kernel⟩
theorem nJ {f:Addr} {fd:FuncData} (F:fh K "is_inner_writable" "is_inner_writable" bY f fd) {aG aP cF cR cN:Addr} {tE tF t1 t2 t3 t4:Tok} (B:B K mg aG aP cF cR cN tE tF t1 t2 t3 t4):bf P w K mg base eZ 1 f fd ["inner","places"] (Bs K):=by
 refine F.gP bT (fun vs H Q E h=>?_) (fun cG A outer s H vs Q E hr h=>?_)
 . obtain ⟨a,n,v,D,pv,C,sp,y,P,rfl,_⟩:=h
   rfl
 obtain ⟨a,n,v,D,pv,C,sp,y,P,rfl,ha,rfl,hD,hC,hP,ls,lp,q⟩:=h
 refine ⟨_,(av (i9 (ev 0) (fM (n:=5) rfl (aH (aA (i:=2) bT.nd rfl (Or.inl rfl)) (aH (aA (i:=3) bT.nd rfl (Or.inl rfl)) (aH (aA (i:=4) bT.nd rfl (Or.inl rfl)) (aH (aA (i:=5) bT.nd rfl (Or.inl rfl)) (aH (aA (i:=6) bT.nd rfl (Or.inl rfl)) gA)))))))
     (av (jD (tw (wW (cj mR (aU bH rfl B.len dg (aa (ev 5) ai)) (cT dD (aU bH rfl B.len dg (aa (ev 4) ai)) ei) (aI _)) (pK (cj mR (aU Dy rfl B.len dg (aa (ev 1) ai)) (aU bH rfl B.len dg (aa (ev 5) ai)) (aI _))))) (aK (aW vY)) cY)
     (aK (aW (aU (gW rfl) rfl B.all nv (aa (rz (jO.mk (N:=["part"]) (src:=[none]) rfl rfl) rfl (cI (cT fU (cT fU (bO (aa (ev 3) ai)) (ev 5)) (rz (jO.mk (N:=["child","places"]) (src:=[none,some 1]) rfl rfl) rfl (cI (ev 5)) (fun _ _ _ _=>(aA (i:=0) (show (["child","places"]:List Str).Nodup from by decide +kernel) rfl (Or.inl rfl))) (fun _ _ _ _=>cU) (fun _ _ _ _=>(Fo hr.units (ev 1) (ev 0) (fun _ _=>rfl)))))) (fun _ _ _ _=>(aA (i:=0) (show (["part"]:List Str).Nodup from by decide +kernel) rfl (Or.inl rfl))) (fun _ _ _ _=>cU) (fun _ _ _ _=>(kW EI (ev 0) ei (aI _)))) ai)))))),?_⟩
 simp_arith [bC hD,bC hC,br ha,ha]
 have eK:(sp.map fun p=>(p.1,V.int p.2)).map (·.1)=sp.map (·.1):=by rw [List.map_map];rfl
 have Tz:=uZ (L:=sp.map fun p=>(p.1,V.int p.2))
 rw [eK,List.length_map] at Tz
 by_cases c1:sp.length=pv.length + 1
 case neg=>
   refine aQ (by simp;omega) ?_
   have:=q _ Ext.refl
   rw [decide_eq_false c1] at this
   exact this
 refine aL (by simp;omega) (.inr ⟨_,hP,?_⟩)
 by_cases c2:(sp.map (·.1)).Nodup
 case neg=>
   have:=Tz.2 c2
   refine aQ (by simp;omega) ?_
   have:=q _ Ext.refl
   rw [decide_eq_false c2,Bool.and_false] at this
   exact this
 have ef:=Tz.1 c2
 rw [List.map_map] at ef
 refine aL (by rw [ef];simp) fun p np=>?_
 have xp:=Ext.new (K:=K) (o:=.lst [V.int n]) np
 refine ⟨_,xp.at hC,by simp;omega,fun p1 np1=>?_⟩
 have xp1:=Ext.new (K:=K) (o:=.lst (V.int n::sp.map fun p=>V.int p.1)) np1
 have X1:=xp.trans xp1
 have oX:upd (upd H p (.lst [V.int n])) p1 (.lst (V.int n::sp.map fun p=>V.int p.1)) p1=some (.lst (V.int n::sp.map fun p=>V.int p.1)):=ah
 refine ⟨⟨_,aZ.of (X1.at hC)⟩,fun D1 n1=>?_⟩
 refine gE (L:=sp) (f:=fun p=>V.int p.1) (g:=fun p=>V.int p.2) (aZ.of (X1.at hC)) n1 (by omega) (fun s hs H' Q' xx qq=>?_) (fun H1 h1 x1=>?_)
 . try walk_at "rn"
   have hd:=vq.k (k:=.inl s.1) ((X1.trans xx).at hP)
   rw [ef] at hd
   have hv:=u5 c2 hs
   refine ⟨V.int s.2,?_,qq _ Ext.refl⟩
   rw [<- hv]
   exact hd
 refine ⟨_,x1.at oX,_,h1,by simp;omega,fun p2 np2=>?_⟩
 have My:=Ext.new (K:=K) (o:=.lst ((V.int n::sp.map fun p=>V.int p.1)++sp.map fun p=>V.int p.2)) np2
 have eL:(V.int n::sp.map fun p=>V.int p.1)++(sp.map fun p=>V.int p.2)=(n::(sp.map (·.1)++sp.map (·.2))).map V.int:=by rw [List.map_cons,List.map_append,List.map_map,List.map_map];rfl
 have h2:upd H1 p2 (.lst ((V.int n::sp.map fun p=>V.int p.1)++sp.map fun p=>V.int p.2)) p2=some (.lst ((n::(sp.map (·.1)++sp.map (·.2))).map V.int)):=by rw [ah,eL]
 refine ⟨⟨_,aZ.of ah⟩,fun D2 n2=>?_⟩
 refine gE (L:=n::(sp.map (·.1)++sp.map (·.2))) (f:=V.int) (g:=fun i=>V.bl (decide (0<=i))) (aZ.of h2) n2 (by simp;omega) (fun s hs H' Q' xx qq=>?_) (fun H2 h2 x2=>?_)
 . try walk_at "rn"
   exact qq _ Ext.refl
 refine ⟨(n::(sp.map (·.1)++sp.map (·.2))).map fun i=>decide (0<=i),aZ.of (by rw [h2,List.map_map];rfl),?_⟩
 have:=q _ (X1.trans (x1.trans (My.trans x2)))
 rw [decide_eq_true c1,decide_eq_true c2] at this
 have e3:((n::(sp.map (·.1)++sp.map (·.2))).map fun i=>decide (0<=i)).all id=(true&&true&&decide (0<=n)&&sp.all fun p=>decide (0<=p.1)&&decide (0<=p.2)):=by
   rw [Bool.eq_iff_iff]
   simp only [List.all_map,List.all_cons,List.all_append,Bool.and_eq_true,List.all_eq_true,Function.comp,id,decide_eq_true_eq,true_and]
   exact ⟨fun h=>⟨h.1,fun p hp=>⟨h.2.1 p hp,h.2.2 p hp⟩⟩,fun h=>⟨h.1,fun p hp=>(h.2 p hp).1,fun p hp=>(h.2 p hp).2⟩⟩
 rw [e3]
 exact this
def Bt (K:PySem.W.Frag):Sp:=fun vs H Q _=>∃ p n pv sp y,vs=[.ref p]/\H p=some (.lst [.str (Str.ofString "inner"),.str n,.str pv,.str sp,.str y])/\n.length<=1000000/\pv.length < 1000000/\sp.length < 1000000/\y.length < 1000000/\(kq n pv sp y=none->∀ H',Ext K H H'->Q .cQ H')/\(∀ x,kq n pv sp y=some x->∀ T H',Ext K H H'->sI K H H' T x->Q (.ref T) H')
theorem bU:aD ["pieces","word","number","pivots","spots","tray","pairs","children","inner","places"] ["pieces"] (af gb):=⟨rfl,rfl,rfl,by decide +kernel,rfl,by decide +kernel,by decide +kernel⟩
theorem vJ {f fr fs fn:Addr} {fd:FuncData} (F:fh K "read_inner" "read_inner" gb f fd) {aG aP cF cR cN:Addr} {tE tF t1 t2 t3 t4:Tok} (B:B K mg aG aP cF cR cN tE tF t1 t2 t3 t4) (ao:Callee P w K mg base "read_figures" 2 ["text"] qz) (bP:Callee P w K mg base "read_numbers" 4 ["text"] (uY K fr)) (NW:mg "read_spot"=some (.ref fs)) (oK:Callee P w K mg base "read_list" 4 ["text","sign","read"] (sO K jG uU (Str.ofString ",") fs)) (NY:mg "read_note"=some (.ref fn)) (oM:Callee P w K mg base "read_list" 5 ["text","sign","read"] (sO K gv RN.d (Str.ofString ";") fn)) (gK:Callee P w K mg base "is_inner_told" 6 ["thing"] (Br K)) (d8:Callee P w K mg base "is_inner_writable" 1 ["inner","places"] (Bs K)):bf P w K mg base eZ 7 f fd ["pieces"] (Bt K):=by
 refine F.gP bU (fun vs H Q E h=>?_) (fun cG A outer s H vs Q E hr h=>?_)
 . obtain ⟨p,n,pv,sp,y,rfl,_⟩:=h
   rfl
 obtain ⟨p,n,pv,sp,y,rfl,hp,ln,lp,ls,ly,qn,q⟩:=h
 refine ⟨_,(av (i9 (ev 0) (Cq (n:=5) rfl (aH (aA (i:=1) bU.nd rfl (Or.inl rfl)) (aH (aA (i:=2) bU.nd rfl (Or.inl rfl)) (aH (aA (i:=3) bU.nd rfl (Or.inl rfl)) (aH (aA (i:=4) bU.nd rfl (Or.inl rfl)) (aH (aA (i:=5) bU.nd rfl (Or.inl rfl)) gA)))))))
     (av (sset (i:=6) bU.nd rfl (Or.inl rfl) (au oK (hr.mono (by decide)) rfl (aa (ev 4) (aa aS (aa (jt rfl NW (show RelV (.ref fs) (.ref fs) from rfl)) ai)))))
     (av (jD (cj m8 (ev 6) i8 (aI _)) (aK (aW i8)) cY)
     (av (Mn (i:=7) bU.nd rfl (Or.inl rfl) (jO.mk (N:=["child","place"]) (src:=[none,none]) rfl rfl) rfl (cI (ev 6)) (fun _ _ _ _=>(xg K (n:=2) rfl (aH (aA (i:=0) (show (["child","place"]:List Str).Nodup from by decide +kernel) rfl (Or.inl rfl)) (aH (aA (i:=1) (show (["child","place"]:List Str).Nodup from by decide +kernel) rfl (Or.inl rfl)) gA)))) (fun _ _ _ _=>cU) (fun _ _ _ _=>(ev 0)))
     (av (sset (i:=8) bU.nd rfl (Or.inl rfl) (dN (aa (ev 1) (aa (au ao (hr.mono (by decide)) rfl (aa (ev 2) ai)) (aa (au bP (hr.mono (by decide)) rfl (aa (ev 3) ai)) (aa (ev 7) (aa (au oM (hr.mono (by decide)) rfl (aa (ev 5) (aa aS (aa (jt rfl NY (show RelV (.ref fn) (.ref fn) from rfl)) ai)))) ai)))))))
     (av (sset (i:=9) bU.nd rfl (Or.inl rfl) (bR (A7 rfl) rfl B.dict Iu (aa (ev 6) ai)))
     (aK (aW (Hv (tw (wV (gy (au gK (hr.mono (by decide)) rfl (aa (ev 8) ai))) (qj (gy (au d8 (hr.mono (by decide)) rfl (aa (ev 8) (aa (ev 9) ai))))))) (dN (aa (ev 8) (aa (ev 9) ai))) i8))))))))),?_⟩
 simp_arith [bC hp,hp]
 refine ⟨_,aZ.of hp,rfl,_,_,rfl,_,_,rfl,_,_,rfl,_,_,rfl,_,_,rfl,rfl,sp,rfl,by omega,fun v H1 x1 hv=>?_⟩
 cases e3:cu jG (Str.ofString ",") sp with
 | none=>
   rw [e3] at hv
   cases hv
   refine aQ rfl (qn ?_ _ x1)
   unfold kq
   rw [e3]
   cases ak n <;> cases cu ak (Str.ofString ",") pv <;> rfl
 | some l=>
 rw [e3] at hv
 obtain ⟨D0,us,rfl,n0,h0,hu⟩:=hv
 obtain ⟨L,rfl,rfl,hL⟩:=hu.zip
 have ll:L.length<=1000000:=by
   rw [bG] at e3
   have:=lI e3
   rw [List.length_map] at this
   omega
 refine aL (by simp) ⟨D0,rfl,⟨_,aZ.of h0⟩,fun C nC=>Bp (L:=L) (k:=fun p=>p.1) (u:=fun p=>V.int p.2) (aZ.of h0) (fun q hq=>Aa (hL q hq)) nC (by omega) (fun H2 hC x2=>?_)⟩
 refine ⟨n,rfl,by omega,pv,rfl,pv,rfl,by omega,fun v2 H3 x3 LC=>⟨y,rfl,by omega,fun v3 H4 x4 NZ a na=>?_⟩⟩
 have xa:=Ext.new (K:=K) (o:=.tup [V.str (Str.ofString "inner"),on (ak n),v2,V.ref C,v3]) na
 have ha:tupQ K (upd H4 a (.tup [V.str (Str.ofString "inner"),on (ak n),v2,V.ref C,v3])) a=some [V.str (Str.ofString "inner"),on (ak n),v2,V.ref C,v3]:=aN
 generalize upd H4 a (.tup [V.str (Str.ofString "inner"),on (ak n),v2,V.ref C,v3])=H5 at xa ha ⊢
 have X12:=x1.trans x2
 have X13:=X12.trans x3
 have X14:=X13.trans x4
 have X25:=x2.trans (x3.trans (x4.trans xa))
 refine ⟨D0,rfl,L.map fun q=>(q.1,q.2.1,V.int q.2.2),?_,?_,by rw [List.length_map];omega,fun P nP=>?_⟩
 . have:=X25.at h0
   exact aZ.of (by rw [this,List.map_map];rfl)
 . intro q hq
   obtain ⟨q',hq',rfl⟩:=List.mem_map.mp hq
   exact Aa ((hL q' hq').ext X25)
 rw [show (L.map fun q=>(q.1,q.2.1,V.int q.2.2)).map (·.2)=(L.map (·.2)).map fun p=>(p.1,V.int p.2) from by rw [List.map_map,List.map_map];rfl]
 have xP:=Ext.new (K:=K) (o:=.dK (kX ((L.map (·.2)).map fun p=>(p.1,V.int p.2)))) nP
 have hP:=ah (H:=H5) (a:=P) (o:=.dK (kX ((L.map (·.2)).map fun p=>(p.1,V.int p.2))))
 have ha:=xP.tup ha
 have nP0:new K H P:=d7 (X14.trans xa) nP
 have Y:Ext K H2 (upd H5 P (.dK (kX ((L.map (·.2)).map fun p=>(p.1,V.int p.2))))):=x3.trans (x4.trans (xa.trans xP))
 have hC:=Y.at hC
 have LC:=(LC.old X12).ext (x4.trans (xa.trans xP))
 have NZ:=(NZ.old X13).ext (xa.trans xP)
 have X16:=X14.trans (xa.trans xP)
 generalize upd H5 P (.dK (kX ((L.map (·.2)).map fun p=>(p.1,V.int p.2))))=H6 at *
 have fp:Gk (cu ak (Str.ofString ",") pv):=fun l e=>by rw [bG] at e;have:=lI e;omega
 have fy:Gk (cu gv (Str.ofString ";") y):=fun l e=>by rw [jq] at e;have:=lI e;omega
 have eC:(L.map fun q=>q.2.1).map V.int=(L.map (·.2)).map fun p=>V.int p.1:=by rw [List.map_map,List.map_map];rfl
 refine ⟨a,ak n,v2,C,L.map fun q=>q.2.1,v3,_,_,H,rfl,ha,hC,by rw [List.length_map];omega,LC,fp,NZ,fy,fun H7 x7=>⟨_,rfl,?_⟩⟩
 have N1:=X16.trans x7
 unfold kq at qn q
 rw [e3] at qn q
 cases e1:ak n with
 | none=>
   rw [e1] at qn
   exact aL (by simp) (qn rfl _ N1)
 | some i=>
 rw [e1] at qn q ha
 cases e2:cu ak (Str.ofString ",") pv with
 | none=>
   rw [e2] at qn
   exact aL (by simp) (qn rfl _ N1)
 | some ps=>
 rw [e2] at qn q LC
 cases e4:cu gv (Str.ofString ";") y with
 | none=>
   rw [e4] at qn
   exact aL (by simp [Gj]) (qn rfl _ N1)
 | some ts=>
 rw [e4] at qn q NZ
 dsimp only at qn q
 unfold tQ at qn q
 cases c1:ts.all fG with
 | false=>
   rw [c1] at qn
   exact aL (by show ¬ ((true&&true&&ts.all fG)=true);rw [c1];decide) (qn rfl _ N1)
 | true=>
 rw [c1] at qn q
 refine aQ (by show (true&&true&&ts.all fG)=true;rw [c1];rfl) ?_
 obtain ⟨D,us2,rfl,nD,hD,hu2⟩:=LC
 have IP:=hD
 rw [hu2.ints] at IP
 rw [eC] at hC
 refine ⟨a,i,_,D,ps,C,L.map (·.2),v3,P,rfl,x7.tup ha,rfl,x7.at IP,x7.at hC,x7.at hP,by rw [List.length_map];omega,fp ps e2,fun H8 x8=>⟨_,rfl,?_⟩⟩
 have X18:=N1.trans x8
 rw [Bool.true_and] at qn q
 refine gO (fun c=>fun T nT=>?_) (fun c=>?_)
 . have xT:=Ext.new (K:=K) (o:=.tup [V.ref a,V.ref P]) nT
   obtain ⟨Y',us3,rfl,nY,hY,hu3⟩:=NZ
   have y:=x7.trans (x8.trans xT)
   refine q _ (if_pos c) T _ (X18.trans xT) ⟨a,D,C,Y',P,us3,aN,y.tup ha,nD,y.at IP,y.at hC,y.at hY,hu3.ext y,nP0,y.at hP,d7 x1 nC,nY⟩
 . exact qn (if_neg c) _ X18
def Res (K:PySem.W.Frag) (H0 H:Hp) (o:Option Rd) (v:V):Prop:=match o with
 | none=>v=.cQ
 | some x=>∃ T,v=.ref T/\sI K H0 H T x
def Gq (K:PySem.W.Frag) (H:Hp) (v:V):Prop:=∃ t,Nl K H v t/\PySem.W.kitOne K t (.type "str")=some false
def tS (K:PySem.W.Frag) (cN:Addr):Sp:=fun vs H Q E=>(∃ v,vs=[v]/\Gq K H v/\E (.ref cN) none H)∨∃ t:Str,vs=[.str t]/\t.length < 1000000/\(cH t=none->∀ H',Ext K H H'->E (.ref cN) none H')/\(∀ x,cH t=some x->∀ T H',Ext K H H'->sI K H H' T x->Q (.ref T) H')
theorem iX:aD ["text","pieces","told"] ["text"] (af iA):=⟨rfl,rfl,rfl,by decide +kernel,rfl,by decide +kernel,by decide +kernel⟩
theorem yI {f:Addr} {fd:FuncData} (F:fh K "read_room" "read_room" iA f fd) {aG aP cF cR cN:Addr} {tE tF t1 t2 t3 t4:Tok} (B:B K mg aG aP cF cR cN tE tF t1 t2 t3 t4) (kH:Callee P w K mg base "read_leaf" 8 ["pieces"] (yG K)) (jK:Callee P w K mg base "read_inner" 7 ["pieces"] (Bt K)):bf P w K mg base (A1 P w) 9 f fd ["text"] (tS K cN):=by
 refine F.okX iX (fun vs H Q E h=>?_) (fun cG A outer s H vs Q E hr h=>?_)
 . rcases h with ⟨v,rfl,_⟩ | ⟨t,rfl,_⟩ <;> rfl
 obtain ⟨v,rfl⟩:∃ v,vs=[v]:=by rcases h with ⟨v,rfl,_⟩ | ⟨t,rfl,_⟩ <;> exact ⟨_,rfl⟩
 refine ⟨_,(av (jD (jd (gy (aU aX rfl B.isinstance aR (aa (ev 0) (aa (lX rfl B.str dh) ai))))) (aK (uz B.nF B.rH hr.hd rfl)) cY)
     (av (sset (i:=1) iX.nd rfl (Or.inl rfl) (lA PySem.F.plainAttrs_str PySem.F.slot_str_split PySem.F.type_str_split lD (ev 0) (aa aS ai)))
     (av (sset (i:=2) iX.nd rfl (Or.inl rfl) i8)
     (wX (jD (tw (wV (cj cS (iJ ck (ev 1) ei (fun _ _=>rfl)) aS (aI _)) (qj (cj cS (aU bH rfl B.len dg (aa (ev 1) ai)) ei (aI _))))) (aK (sset (i:=2) iX.nd rfl (Or.inl rfl) (au kH (hr.mono (by decide)) rfl (aa (ev 1) ai)))) cY)
     (wX (jD (tw (wV (cj cS (iJ ck (ev 1) ei (fun _ _=>rfl)) aS (aI _)) (qj (cj cS (aU bH rfl B.len dg (aa (ev 1) ai)) ei (aI _))))) (aK (sset (i:=2) iX.nd rfl (Or.inl rfl) (au jK (hr.mono (by decide)) rfl (aa (ev 1) ai)))) cY)
     (av (jD (cj m8 (ev 2) i8 (aI _)) (aK (uz B.nF B.rH hr.hd rfl)) cY)
     (aK (aW (ev 2))))))))),?_⟩
 try walk_at "rn"
 rcases h with ⟨v,e,⟨tt,ty,ko⟩,q⟩ | ⟨t,e,ht,qn,q⟩ <;> cases e
 . exact ⟨tt,ty,false,ko,aQ (by decide) q⟩
 obtain ⟨s1,s2⟩:=fk t 32
 have JQ:=jV t 32
 rw [<- dm] at s1 s2 JQ
 try walk_at "rn"
 refine ⟨_,.inl (.str _),true,rfl,aL (by decide) ⟨by decide +kernel,by omega,by omega,fun D nD=>?_⟩⟩
 obtain ⟨w0,rest,e⟩:∃ w0 rest,Txt.split t (Str.ofString " ")=w0::rest:=by
   cases h:Txt.split t (Str.ofString " ") with
   | nil=>exact absurd h JQ
   | cons x r=>exact ⟨x,r,rfl⟩
 have xG:=Ext.new (K:=K) (o:=.lst (List.map V.str (Txt.split t (Str.ofString " ")))) nD
 have hD:=ah (H:=H) (a:=D) (o:=.lst (List.map V.str (Txt.split t (Str.ofString " "))))
 rw [e] at hD xG s2 ⊢
 generalize upd H D (.lst (List.map V.str (w0::rest)))=G at xG hD ⊢
 have lt:∀ p∈rest,p.length < 1000000:=fun p hp=>Nat.lt_of_le_of_lt (s2 p (List.mem_cons_of_mem _ hp)) ht
 obtain ⟨J,eJ⟩:∃ J:St->Hp->Prop,J=fun σ G'=>∃ v,σ=[some (V.str t),some (V.ref D),some v]/\Ext K G G'/\(∀ n r,w0=Str.ofString "leaf"->rest=[n,r]->Res K G G' (mF n r) v)/\(¬ (w0=Str.ofString "leaf"/\rest.length=2)->v=.cQ):=⟨_,rfl⟩
 refine ⟨J,?_,?_⟩
 . simp_arith [bC hD]
   rw [eJ]
   refine gO (fun c=>gO (fun c2=>?_) (fun c2=>?_)) (fun c=>?_)
   . obtain ⟨n,r,rfl⟩:∃ n r,rest=[n,r]:=by
       rcases rest with _ | ⟨x,_ | ⟨y,_ | ⟨u,rest⟩⟩⟩ <;> simp at c2 <;> first | omega | exact ⟨x,y,rfl⟩
     subst c
     refine ⟨D,n,r,rfl,hD,Nat.le_of_lt (lt n (by simp)),lt r (by simp),fun en H' x'=>?_,fun x en T H' x' hx=>?_⟩
     . exact ⟨_,rfl,x',fun n' r' _ e'=>by cases e';rw [en];rfl,fun _=>rfl⟩
     . exact ⟨_,rfl,x',fun n' r' _ e'=>by cases e';rw [en];exact ⟨T,rfl,hx⟩,fun z=>absurd ⟨rfl,rfl⟩ z⟩
   . exact ⟨_,rfl,Ext.refl,fun n' r' _ e'=>absurd (by rw [e'];rfl) c2,fun _=>rfl⟩
   . exact ⟨_,rfl,Ext.refl,fun n' r' e' _=>absurd e' c,fun _=>rfl⟩
 intro σ G1 hJ
 rw [eJ] at hJ
 clear eJ
 obtain ⟨v,rfl,x1,r1,r2⟩:=hJ
 obtain ⟨J,eJ⟩:∃ J:St->Hp->Prop,J=fun σ G'=>∃ v,σ=[some (V.str t),some (V.ref D),some v]/\Ext K H G'/\Res K H G' (cH t) v:=⟨_,rfl⟩
 refine ⟨J,?_,?_⟩
 . simp_arith [bC (x1.at hD)]
   rw [eJ]
   have hl:∀ (b:Prop),(¬ (w0=Str.ofString "inner"/\rest.length=4))->Res K H G1 (cH t) v:=fun _ z=>by
     by_cases c:w0=Str.ofString "leaf"/\rest.length=2
     . obtain ⟨rfl,c2⟩:=c
       obtain ⟨n,r,rfl⟩:∃ n r,rest=[n,r]:=by
         rcases rest with _ | ⟨x,_ | ⟨y,_ | ⟨u,rest⟩⟩⟩ <;> simp at c2 <;> first | omega | exact ⟨x,y,rfl⟩
       have:=r1 n r rfl rfl
       have er:cH t=mF n r:=by unfold cH;rw [e];exact if_pos rfl
       rw [er]
       cases ex:mF n r with
       | none=>rw [ex] at this;exact this
       | some x=>
         rw [ex] at this
         obtain ⟨T,e1,h1⟩:=this
         exact ⟨T,e1,h1.old xG⟩
     . have er:cH t=none:=by
         unfold cH
         rw [e]
         split
         . rename_i w n r e'
           cases e'
           exact if_neg fun z'=>c ⟨z',rfl⟩
         . rename_i w n p s' y e'
           cases e'
           exact if_neg fun z'=>z ⟨z',rfl⟩
         . rfl
       rw [er]
       exact r2 c
   refine gO (fun c=>gO (fun c2=>?_) (fun c2=>?_)) (fun c=>?_)
   . obtain ⟨n,p,s',y,rfl⟩:∃ n p s' y,rest=[n,p,s',y]:=by
       rcases rest with _ | ⟨x,_ | ⟨y,_ | ⟨z,_ | ⟨u,_ | ⟨u',rest⟩⟩⟩⟩⟩ <;> simp at c2 <;> first | omega | exact ⟨_,_,_,_,rfl⟩
     subst c
     have er:cH t=kq n p s' y:=by unfold cH;rw [e];exact if_pos rfl
     refine ⟨D,n,p,s',y,rfl,x1.at hD,Nat.le_of_lt (lt n (by simp)),lt p (by simp),lt s' (by simp),lt y (by simp),fun en H' x'=>?_,fun x en T H' x' hx=>?_⟩
     . exact ⟨_,rfl,xG.trans (x1.trans x'),by rw [er,en];rfl⟩
     . exact ⟨_,rfl,xG.trans (x1.trans x'),by rw [er,en];exact ⟨T,rfl,hx.old (xG.trans x1)⟩⟩
   . exact ⟨_,rfl,xG.trans x1,hl True fun z=>c2 (by simp [z.2])⟩
   . exact ⟨_,rfl,xG.trans x1,hl True fun z=>c z.1⟩
 intro σ G2 hJ
 rw [eJ] at hJ
 obtain ⟨v,rfl,x2,r3⟩:=hJ
 try walk_at "rn"
 cases er:cH t with
 | none=>
   rw [er] at r3
   cases r3
   exact aQ rfl (qn er _ x2)
 | some x=>
   rw [er] at r3
   obtain ⟨T,rfl,hx⟩:=r3
   exact aL (by simp) (q x er T _ x2 hx)
end
theorem DR:qE (Str.ofString "-")=none:=by decide +kernel
theorem Bu:jG (Str.ofString "-")=none:=by decide +kernel
theorem Gr {x y z u v:Str} (h:fG ⟨ak x,ak y,ak z,fR u,fR v⟩=true):∃ n lo hi a b,ak x=some n/\ak y=some lo/\ak z=some hi/\fR u=some a/\fR v=some b:=by
 unfold fG z9 at h
 simp only [Bool.and_eq_true,Bool.or_eq_true] at h
 obtain ⟨⟨⟨h1,⟨h2,h3⟩,h4⟩,h5,h6⟩,h7⟩:=h
 cases ex:ak x with
 | none=>rw [ex] at h1;cases h1
 | some n=>
 cases ey:ak y with
 | none=>rw [ey] at h2;cases h2
 | some lo=>
 cases ez:ak z with
 | none=>rw [ez] at h3;cases h3
 | some hi=>
 cases eu:fR u with
 | none=>rw [eu] at h5;cases h5
 | some a=>
 cases ev:fR v with
 | none=>rw [ev] at h6;cases h6
 | some b=>exact ⟨n,lo,hi,a,b,rfl,rfl,rfl,rfl,rfl⟩
def mW (k:Nat) (z:Bool):Bool:=decide (k<=60)&&(decide (k<=1)||!z)
def scan:List Nat->Nat->Bool->Bool
 | [],k,z=>mW k z
 | c::r,k,z=>if bF c=true then scan r (k + 1) (if k=0 then c==48 else z) else mW k z&&scan r 0 false
theorem lO {c:Nat} (hc:bF c=false) (b:List Nat):∀ (a:List Nat) (k:Nat) (z:Bool),scan (a++c::b) k z=(scan a k z&&scan b 0 false)
 | [],k,z=>by
   show (if bF c=true then _ else _)=_
   rw [if_neg (by rw [hc];decide)]
   rfl
 | x::a,k,z=>by
   show (if bF x=true then scan (a++c::b) (k + 1) _ else mW k z&&scan (a++c::b) 0 false)=((if bF x=true then scan a (k + 1) _ else mW k z&&scan a 0 false)&&_)
   by_cases h:bF x=true
   . rw [if_pos h,if_pos h,lO hc b a]
   . rw [if_neg h,if_neg h,lO hc b a,Bool.and_assoc]
theorem rO (b:List Nat):∀ (r:List Nat) (k:Nat) (z:Bool),r.all bF=true->scan (r++b) k z=scan b (k + r.length) (if k=0 then (match r with | []=>z | c::_=>c==48) else z)
 | [],k,z,_=>by
   simp
 | x::r,k,z,h=>by
   rw [List.all_cons,Bool.and_eq_true] at h
   show (if bF x=true then scan (r++b) (k + 1) (if k=0 then x==48 else z) else _)=_
   rw [if_pos h.1,rO b r (k + 1) _ h.2,if_neg (by omega)]
   have:k + 1 + r.length=k + (x::r).length:=by rw [List.length_cons];omega
   rw [this]
theorem CB {r b:List Nat} (hr:r.all bF=true) (h0:r≠[]) (hb:∀ c,b.head?=some c->bF c=false) (h:scan (r++b) 0 false=true):mW r.length (r.head?==some 48)=true:=by
 rw [rO b r 0 false hr,if_pos rfl,Nat.zero_add] at h
 cases r with
 | nil=>exact absurd rfl h0
 | cons x r=>
   have e:((x::r).head?==some 48)=(x==48):=rfl
   rw [e]
   dsimp only at h
   cases b with
   | nil=>exact h
   | cons c b=>
     have hc:=hb c rfl
     unfold scan at h
     rw [if_neg (by rw [hc];decide),Bool.and_eq_true] at h
     exact h.1
theorem Ah {a r b:List Nat} (ha:∀ c,a.getLast?=some c->bF c=false) (hr:r.all bF=true) (h0:r≠[]) (hb:∀ c,b.head?=some c->bF c=false) (h:scan (a++(r++b)) 0 false=true):mW r.length (r.head?==some 48)=true:=by
 cases e:a.getLast? with
 | none=>
   rw [List.getLast?_eq_none_iff] at e
   rw [e,List.nil_append] at h
   exact CB hr h0 hb h
 | some c=>
   have hc:=ha c e
   obtain ⟨a',rfl⟩:∃ a',a=a'++[c]:=by
     have Qn:a≠[]:=fun z=>by rw [z] at e;cases e
     rw [List.getLast?_eq_some_getLast Qn] at e
     exact ⟨a.dropLast,by rw [<- Option.some.inj e];exact (List.dropLast_concat_getLast Qn).symm⟩
   rw [List.append_assoc,List.singleton_append,lO hc,Bool.and_eq_true] at h
   exact CB hr h0 hb h.2
def lP:List Nat->Bool
 | a::b::r=>(a==43&&b==43)||lP (b::r)
 | _=>false
theorem qM {c:Nat} (hc:c≠43) (b:List Nat):∀ a:List Nat,lP (a++c::b)=(lP a||lP b)
 | []=>by
   cases b with
   | nil=>rfl
   | cons d b=>
     show ((c==43&&d==43)||lP (d::b))=_
     rw [show (c==43)=false from by simpa using hc]
     rfl
 | [x]=>by
   show ((x==43&&c==43)||lP (c::b))=_
   rw [show (c==43)=false from by simpa using hc,Bool.and_false,Bool.false_or]
   exact qM hc b []
 | x::y::a=>by
   show ((x==43&&y==43)||lP (y::a++c::b))=(((x==43&&y==43)||lP (y::a))||lP b)
   rw [qM hc b (y::a),Bool.or_assoc]
theorem IZ (a b:List Nat):lP (a++43::43::b)=true:=by
 induction a with
 | nil=>rfl
 | cons x a ih=>
   cases a with
   | nil=>show ((x==43&&_)||lP (43::43::b))=true;rw [show lP (43::43::b)=true from rfl,Bool.or_true]
   | cons y a=>
     show ((x==43&&y==43)||lP (y::a++43::43::b))=true
     rw [ih,Bool.or_true]
structure Sc (t:Str):Prop where
 run:scan t.cps.toList 0 false=true
 two:lP t.cps.toList=false
 nl:10∉t.cps.toList
theorem Sc.sep {a b x:Str} {c:Nat} (hc:bF c=false) (Bv:c≠43) (Hx:c≠10) (e:x.cps.toList=a.cps.toList++c::b.cps.toList) (ha:Sc a) (hb:Sc b):Sc x:=by
 refine ⟨?_,?_,?_⟩
 . rw [e,lO hc,ha.run,hb.run];rfl
 . rw [e,qM Bv,ha.two,hb.two];rfl
 . rw [e]
   intro m
   rcases List.mem_append.mp m with m | m
   . exact ha.nl m
   . rcases List.mem_cons.mp m with m | m
     . exact Hx m.symm
     . exact hb.nl m
theorem Sc.join {c:Nat} (hc:bF c=false) (Bv:c≠43) (Hx:c≠10):∀ {ps:List Str},ps≠[]->(∀ p∈ps,Sc p)->Sc (Str.join ⟨#[c]⟩ ps)
 | [],h,_=>absurd rfl h
 | [x],_,h=>h x List.mem_cons_self
 | x::y::r,_,h=>.sep hc Bv Hx (fN c x y r) (h x List.mem_cons_self) (Sc.join hc Bv Hx (by simp) fun p m=>h p (List.mem_cons_of_mem _ m))
theorem Sc.split {c:Nat} (hc:bF c=false) (Bv:c≠43) (Hx:c≠10) {t:Str} (h:∀ p∈Txt.split t ⟨#[c]⟩,Sc p):Sc t:=by
 have:=Sc.join hc Bv Hx (jV t c) h
 rwa [StrLaws.join_split] at this
theorem Sc.tT {t:Str} {i:Int} (h:ak t=some i):Sc t/\t.cps.toList.head?≠some 43/\t.cps.toList≠[]:=by
 unfold ak at h
 split at h
 case isFalse=>cases h
 rename_i hf
 obtain ⟨h1,_,h3,h4⟩:=xH hf
 have h2:∀ c∈d9 t.cps.toList,bF c=true:=by
   simp only [qw,Bool.and_eq_true] at hf
   exact List.all_eq_true.mp hf.1.1.2
 have key:∀ l:List Nat,l≠[]->(∀ c∈l,bF c=true)->l.length<=60->(l.head?=some 48->l=[48])->scan l 0 false=true/\lP l=false/\10∉l/\l.head?≠some 43:=by
   intro l l0 la ll lz
   have MA:43∉l:=fun m=>by have:=la 43 m;exact absurd this (by decide)
   refine ⟨?_,?_,fun m=>by have:=la 10 m;exact absurd this (by decide),fun e=>MA (List.mem_of_head? e)⟩
   . have e:=rO [] l 0 false (List.all_eq_true.mpr la)
     rw [List.append_nil,if_pos rfl,Nat.zero_add] at e
     rw [e]
     cases l with
     | nil=>exact absurd rfl l0
     | cons x l=>
       show mW (x::l).length (x==48)=true
       unfold mW
       rw [decide_eq_true ll,Bool.true_and,Bool.or_eq_true]
       by_cases hx:x=48
       . left
         have:=lz (by rw [hx];rfl)
         rw [this]
         rfl
       . right
         simpa using hx
   . have:∀ l:List Nat,43∉l->lP l=false:=by
       intro l
       induction l with
       | nil=>intro _;rfl
       | cons x l ih=>
         intro m
         cases l with
         | nil=>rfl
         | cons y l=>
           show ((x==43&&y==43)||lP (y::l))=false
           rw [ih (fun z=>m (List.mem_cons_of_mem _ z)),show (x==43)=false from by simpa using fun z=>m (by rw [z];exact List.mem_cons_self)]
           rfl
     exact this l MA
 by_cases hh:t.cps.toList.head?=some 45
 . cases el:t.cps.toList with
   | nil=>rw [el] at hh;cases hh
   | cons c r=>
     rw [el] at hh h1 h2 h3 h4
     simp only [List.head?_cons,Option.some.injEq] at hh
     subst hh
     obtain ⟨k1,k2,k3,k4⟩:=key r h1 h2 h3 (fun z=>by have:=h4 z;cases this)
     refine ⟨⟨?_,?_,?_⟩,by simp,by simp⟩
     . rw [el]
       have:=lO (c:=45) (by decide) r [] 0 false
       rw [List.nil_append] at this
       rw [this,k1]
       rfl
     . rw [el]
       have:=qM (c:=45) (by decide) r []
       rw [List.nil_append] at this
       rw [this,k2]
       rfl
     . rw [el]
       intro m
       rcases List.mem_cons.mp m with m | m
       . cases m
       . exact k3 m
 . rw [nE hh] at h1 h2 h3 h4
   obtain ⟨k1,k2,k3,k4⟩:=key _ h1 h2 h3 h4
   exact ⟨⟨k1,k2,k3⟩,k4,h1⟩
theorem Ai (x:Str) (c:Nat):(Txt.partition x ⟨#[c]⟩=(x,Str.empty,Str.empty)/\c∉x.cps.toList)∨
   ∃ p r:Str,Txt.partition x ⟨#[c]⟩=(p,⟨#[c]⟩,r)/\x.cps.toList=p.cps.toList++c::r.cps.toList/\c∉p.cps.toList:=by
 rcases PyProof.Rows.partition_whole x ⟨#[c]⟩ with ⟨h,hn⟩ | ⟨i,h,hi,hn⟩
 . refine .inl ⟨h,fun hm=>?_⟩
   obtain ⟨i,hi⟩:=(PyProof.Rows.mem_iff_at x c).1 hm
   exact hn i hi
 . refine .inr ⟨_,_,h,?_,?_⟩
   . have e:=StrLaws.sub_cat x ⟨#[c]⟩ (Nat.zero_le i) hi
     rw [StrLaws.sub_whole] at e
     have e2:=congrArg (fun z:Str=>z.cps.toList) e
     simp only [dQ] at e2
     rw [<- e2,List.append_assoc]
     rfl
   . intro hm
     rw [StrLaws.strSub_toList,List.drop_zero,Nat.sub_zero] at hm
     obtain ⟨k,hk⟩:=List.mem_iff_getElem?.1 hm
     have hki:k < i:=by
       obtain ⟨qR,_⟩:=List.getElem?_eq_some_iff.1 hk
       rw [List.length_take] at qR
       omega
     rw [List.getElem?_take_of_lt hki] at hk
     exact hn k hki ((StrLaws.subAt_one x c k).2 hk)
theorem yJ {x p r:Str} {c:Nat} (h:x.cps.toList=p.cps.toList++c::r.cps.toList) (hp:c∉p.cps.toList):Txt.partition x ⟨#[c]⟩=(p,⟨#[c]⟩,r):=by
 rcases Ai x c with ⟨_,hn⟩ | ⟨p',r',e,h',hp'⟩
 . exact absurd (by rw [h];exact List.mem_append_right _ List.mem_cons_self) hn
 . obtain ⟨e1,e2⟩:=rT hp hp' (h.symm.trans h')
   rw [e,iQ e1,iQ e2]
theorem DS:ak Str.empty=none:=by decide +kernel
theorem Sc.part {x:Str} {c:Nat} (hc:bF c=false) (Bv:c≠43) (Hx:c≠10) (h1:Sc (Txt.partition x ⟨#[c]⟩).1) (h2:Sc (Txt.partition x ⟨#[c]⟩).2.2) (h3:(Txt.partition x ⟨#[c]⟩).2.2≠Str.empty):Sc x:=by
 rcases Ai x c with ⟨e,_⟩ | ⟨p,r,e,h,_⟩
 . rw [e] at h3
   exact absurd rfl h3
 . rw [e] at h1 h2
   exact .sep hc Bv Hx h h1 h2
theorem Gs {t:Str} {i:Int} (h:ak t=some i):t≠Str.empty:=fun z=>by rw [z,DS] at h;cases h
theorem TF:Str.ofString "x"≠Str.empty:=by decide +kernel
theorem Sc.of {s:Str} (h:(scan s.cps.toList 0 false&&!lP s.cps.toList&&!s.cps.toList.contains 10)=true):Sc s:=by
 simp only [Bool.and_eq_true,Bool.not_eq_true'] at h
 exact ⟨h.1.1,h.1.2,fun m=>by
   have:=h.2
   rw [List.contains_iff_mem.mpr m] at this
   cases this⟩
theorem qN:Str.ofString ":"=⟨#[58]⟩:=by decide +kernel
theorem qO:Str.ofString "="=⟨#[61]⟩:=by decide +kernel
theorem CC:Str.ofString "@"=⟨#[64]⟩:=by decide +kernel
theorem Sc.lst {α:Type} {rv:Str->Option α} {c:Nat} (hc:bF c=false) (Bv:c≠43) (Hx:c≠10) (hp:∀ p a,rv p=some a->Sc p) {t:Str} {l:List α} (h:cu rv ⟨#[c]⟩ t=some l):Sc t:=by
 unfold cu at h
 split at h
 . rename_i e
   rw [e]
   exact .of (by decide +kernel)
 . refine .split hc Bv Hx fun p m=>?_
   have:rv p∈(Txt.split t ⟨#[c]⟩).map rv:=List.mem_map_of_mem m
   rw [gR h] at this
   obtain ⟨a,_,e⟩:=List.mem_map.mp this
   exact hp p a e.symm
theorem LH {α:Type} {rv:Str->Option α} {c:Nat} (h0:rv Str.empty=none) {t:Str} {l:List α} (h:cu rv ⟨#[c]⟩ t=some l):t≠Str.empty:=by
 intro z
 subst z
 unfold cu at h
 rw [if_neg (by decide +kernel)] at h
 have e:Txt.split Str.empty ⟨#[c]⟩=[Str.empty]:=by
   have:=dU (c:=c) (ps:=[Str.empty]) (by simp) (by simp [Str.empty])
   exact this
 rw [e] at h
 simp only [List.map_cons,List.map_nil,h0] at h
 cases h
theorem Sc.ver {t:Str} {p:p8} (h:qE t=some p):Sc t:=by
 unfold qE at h
 rw [qN] at h
 split at h
 . cases h
 . rename_i n e1
   refine .part (c:=58) (by decide) (by decide) (by decide) (Sc.tT e1).1 ?_ ?_
   . split at h
     . rename_i c;rw [c];exact .of (by decide +kernel)
     . obtain ⟨v,e2,_⟩:=Option.map_eq_some_iff.mp h;exact (Sc.tT e2).1
   . split at h
     . rename_i c;rw [c];exact TF
     . obtain ⟨v,e2,_⟩:=Option.map_eq_some_iff.mp h;exact Gs e2
theorem Sc.row {t:Str} {p:Int×List p8} (h:lJ t=some p):Sc t:=by
 unfold lJ at h
 rw [qO,bG] at h
 split at h
 . rename_i k vs e1 e2
   exact .part (c:=61) (by decide) (by decide) (by decide) (Sc.tT e1).1 (.lst (by decide) (by decide) (by decide) (fun _ _=>Sc.ver) e2) (LH (by decide +kernel) e2)
 . cases h
theorem Sc.TH {t:Str} {p:Int×Int} (h:jG t=some p):Sc t:=by
 unfold jG at h
 rw [CC] at h
 split at h
 . rename_i k vs e1 e2
   exact .part (c:=64) (by decide) (by decide) (by decide) (Sc.tT e1).1 (Sc.tT e2).1 (Gs e2)
 . cases h
theorem Sc.half {t:Str} {p:bJ} (h:fR t=some p):Sc t:=by
 unfold fR at h
 split at h
 . rename_i e
   rw [e]
   exact .of (by decide +kernel)
 . split at h
   . cases h
   . rename_i c r el
     split at h
     . cases h
     . rename_i n e1
       obtain ⟨s1,s2,s3⟩:=Sc.tT e1
       have hc:c=43∨c=61:=by
         split at h
         . rename_i z;exact .inl z
         . split at h
           . rename_i z;exact .inr z
           . cases h
       simp only [List.toList_toArray] at s1 s2 s3
       have f:bF c=false:=by rcases hc with rfl | rfl <;> decide
       refine ⟨?_,?_,?_⟩
       . rw [el]
         have:=lO f r [] 0 false
         rw [List.nil_append] at this
         rw [this,show scan r 0 false=true from s1.run]
         rfl
       . rw [el]
         have s1:lP r=false:=s1.two
         cases r with
         | nil=>rfl
         | cons d r=>
           show ((c==43&&d==43)||lP (d::r))=false
           rw [s1,show (d==43)=false from by simpa using s2,Bool.and_false]
           rfl
       . rw [el]
         intro m
         rcases List.mem_cons.mp m with m | m
         . rcases hc with rfl | rfl <;> cases m
         . exact s1.nl m
theorem Sc.note {t:Str} {p:RN} (h:gv t=some p) (ok:fG p=true):Sc t:=by
 unfold gv at h
 split at h
 . rename_i x y z u v e
   rw [<- Option.some.inj h] at ok
   obtain ⟨n,lo,hi,a,b,f1,f2,f3,f4,f5⟩:=Gr ok
   rw [yF] at e
   refine .split (c:=46) (by decide) (by decide) (by decide) fun q m=>?_
   rw [e] at m
   simp only [List.mem_cons,List.not_mem_nil,or_false] at m
   rcases m with rfl | rfl | rfl | rfl | rfl
   . exact (Sc.tT f1).1
   . exact (Sc.tT f2).1
   . exact (Sc.tT f3).1
   . exact Sc.half f4
   . exact Sc.half f5
 . cases h
theorem Sc.N2 {t:Str} {l:List RN} (h:cu gv (Str.ofString ";") t=some l) (ok:l.all fG=true):Sc t:=by
 unfold cu at h
 rw [jq] at h
 split at h
 . rename_i e
   rw [e]
   exact .of (by decide +kernel)
 . refine .split (c:=59) (by decide) (by decide) (by decide) fun p m=>?_
   have:gv p∈(Txt.split t ⟨#[59]⟩).map gv:=List.mem_map_of_mem m
   rw [gR h] at this
   obtain ⟨a,ma,e⟩:=List.mem_map.mp this
   exact Sc.note e.symm (List.all_eq_true.mp ok a ma)
def blanks (t:Str):Nat:=t.cps.toList.count 32
theorem pS {c:Nat}:∀ {ps:List Str},ps≠[]->(∀ p∈ps,c∉p.cps.toList)->(Str.join ⟨#[c]⟩ ps).cps.toList.count c + 1=ps.length
 | [],h,_=>absurd rfl h
 | [x],_,h=>by
   show x.cps.toList.count c + 1=1
   rw [List.count_eq_zero.mpr (h x List.mem_cons_self)]
 | x::y::r,_,h=>by
   have ih:=pS (ps:=y::r) (by simp) fun p m=>h p (List.mem_cons_of_mem _ m)
   rw [fN,List.count_append,List.count_cons_self,List.count_eq_zero.mpr (h x List.mem_cons_self),List.length_cons,<- ih]
   omega
theorem nK {c:Nat} (t:Str):t.cps.toList.count c + 1=(Txt.split t ⟨#[c]⟩).length:=by
 have:=pS (jV t c) (StrLaws.split_free t c)
 rwa [StrLaws.join_split] at this
theorem nL {c:Nat} {t w:Str} {ps:List Str} (e:Txt.split t ⟨#[c]⟩=w::ps) {x:Nat} (hw:w.cps.toList.head?=some x):t.cps.toList.head?=some x:=by
 have:t=Str.join ⟨#[c]⟩ (w::ps):=by rw [<- e,StrLaws.join_split]
 rw [this]
 cases ps with
 | nil=>exact hw
 | cons y r=>
   rw [fN]
   cases h:w.cps.toList with
   | nil=>rw [h] at hw;cases hw
   | cons a l=>rw [h] at hw;exact hw
theorem pT {t:Str} {x:Rd} (h:cH t=some x):Sc t/\((t.cps.toList.head?=some 108/\blanks t=2)∨(t.cps.toList.head?=some 105/\blanks t=4)):=by
 have cs:=nK (c:=32) t
 unfold cH at h
 rw [dm] at h
 split at h
 . rename_i w n r e
   split at h
   case isFalse=>cases h
   rename_i hw
   subst hw
   unfold mF at h
   split at h
   . rename_i i rows e1 e2
     rw [jq] at e2
     refine ⟨.split (c:=32) (by decide) (by decide) (by decide) fun q m=>?_,.inl ⟨nL e (by decide +kernel),?_⟩⟩
     . rw [e] at m
       simp only [List.mem_cons,List.not_mem_nil,or_false] at m
       rcases m with rfl | rfl | rfl
       . exact .of (by decide +kernel)
       . exact (Sc.tT e1).1
       . exact .lst (c:=59) (by decide) (by decide) (by decide) (fun _ _=>Sc.row) e2
     . rw [e] at cs
       show t.cps.toList.count 32=2
       simpa using cs
   . cases h
 . rename_i w n p s y e
   split at h
   case isFalse=>cases h
   rename_i hw
   subst hw
   unfold kq at h
   split at h
   . rename_i i ps ss ts e1 e2 e3 e4
     split at h
     case isFalse=>cases h
     rename_i ok
     unfold tQ at ok
     simp only [Bool.and_eq_true] at ok
     rw [bG] at e2 e3
     refine ⟨.split (c:=32) (by decide) (by decide) (by decide) fun q m=>?_,.inr ⟨nL e (by decide +kernel),?_⟩⟩
     . rw [e] at m
       simp only [List.mem_cons,List.not_mem_nil,or_false] at m
       rcases m with rfl | rfl | rfl | rfl | rfl
       . exact .of (by decide +kernel)
       . exact (Sc.tT e1).1
       . exact .lst (c:=44) (by decide) (by decide) (by decide) (fun _ _ z=>(Sc.tT z).1) e2
       . exact .lst (c:=44) (by decide) (by decide) (by decide) (fun _ _=>Sc.TH) e3
       . exact Sc.N2 e4 ok.1.1.1.1
     . rw [e] at cs
       show t.cps.toList.count 32=4
       simpa using cs
   . cases h
 . cases h
theorem cB {i:Int} (h:i.natAbs < 10 ^ 60):ak (aC i)=some i:=by
 obtain ⟨h1,h2⟩:=IT h
 unfold ak
 rw [if_pos h1,h2]
theorem LI {i:Int} (h:i.natAbs < 10 ^ 60):∀ c∈(aC i).cps.toList,bF c=true∨c=45:=by
 obtain ⟨_,h2,_⟩:=wA i.natAbs h
 rw [Ct]
 intro c hc
 split at hc
 . rcases List.mem_cons.mp hc with e | m
   . exact .inr e
   . exact .inl (List.all_eq_true.mp h2 c m)
 . exact .inl (List.all_eq_true.mp h2 c hc)
def yK (c:Nat):Bool:=!bF c&&!(c==45)
theorem bK {i:Int} {c:Nat} (h:i.natAbs < 10 ^ 60) (hc:yK c=true):c∉(aC i).cps.toList:=fun m=>by
 unfold yK at hc
 rcases LI h c m with e | e
 . rw [e] at hc;cases hc
 . rw [e] at hc;exact absurd hc (by decide)
theorem nO {a b:Str} {c:Nat} (h:c∉a.cps.toList) (g:c∉b.cps.toList):c∉(a++b).cps.toList:=by
 rw [dQ]
 intro m
 rcases List.mem_append.mp m with m | m
 . exact h m
 . exact g m
theorem tU {c d:Nat} (h:c≠d):∀ {ps:List Str},(∀ p∈ps,c∉p.cps.toList)->c∉(Str.join ⟨#[d]⟩ ps).cps.toList
 | [],_=>by simp [Str.join,Str.empty]
 | [x],g=>g x List.mem_cons_self
 | x::y::r,g=>by
   rw [fN]
   intro m
   rcases List.mem_append.mp m with m | m
   . exact g x List.mem_cons_self m
   . rcases List.mem_cons.mp m with m | m
     . exact h m
     . exact tU h (fun p q=>g p (List.mem_cons_of_mem _ q)) m
theorem lQ {c d:Nat} (h:c≠d) (TJ:c≠45) {ps:List Str} (g:∀ p∈ps,c∉p.cps.toList):c∉(bx ⟨#[d]⟩ ps).cps.toList:=by
 unfold bx
 split
 . rw [show (Str.ofString "-").cps.toList=[45] from by decide +kernel]
   simpa using TJ
 . exact tU h g
theorem qP {α:Type} {rv:Str->Option α} {w:α->Str} {c:Nat} {l:List α} (hr:∀ a∈l,rv (w a)=some a) (hc:∀ a∈l,c∉(w a).cps.toList) (hm:rv (Str.ofString "-")=none) (TJ:c≠45):cu rv ⟨#[c]⟩ (bx ⟨#[c]⟩ (l.map w))=some l:=by
 unfold cu bx
 by_cases e:l=[]
 . subst e
   rfl
 . have e':l.map w≠[]:=fun z=>e (List.map_eq_nil_iff.mp z)
   rw [if_neg e']
   have sp:=dU (c:=c) e' (fun p hp=>by obtain ⟨a,ha,rfl⟩:=List.mem_map.mp hp;exact hc a ha)
   have ne:¬ Str.join ⟨#[c]⟩ (l.map w)=Str.ofString "-":=fun z=>by
     rw [z] at sp
     have s1:Txt.split (Str.ofString "-") ⟨#[c]⟩=[Str.ofString "-"]:=dU (ps:=[Str.ofString "-"]) (by simp) (by
       intro p hp
       rw [List.mem_singleton.mp hp,show (Str.ofString "-").cps.toList=[45] from by decide +kernel]
       simpa using TJ)
     rw [s1] at sp
     cases l with
     | nil=>exact e rfl
     | cons a r=>
       simp only [List.map_cons,List.cons.injEq] at sp
       have:=hr a List.mem_cons_self
       rw [<- sp.1,hm] at this
       cases this
   rw [if_neg ne,sp,List.map_map]
   have:l.map (rv ∘ w)=l.map some:=List.map_congr_left fun a ha=>hr a ha
   rw [this,mD]
theorem Aj:(Str.ofString "x").cps.toList=[120]:=by decide +kernel
theorem yL {a b s:Str} {c:Nat} (hs:s.cps.toList=[c]):(a++s++b).cps.toList=a.cps.toList++c::b.cps.toList:=by
 rw [dQ,dQ,hs,List.append_assoc]
 rfl
theorem DT {i:Int} (h:i.natAbs < 10 ^ 60):aC i≠Str.ofString "x":=fun z=>by
 have:=bK (c:=120) h (by decide)
 rw [z,Aj] at this
 exact this (by simp)
def Qu (o:Option Int):Prop:=∀ i,o=some i->i.natAbs < 10 ^ 60
theorem LJ {o:Option Int} {c:Nat} (h:Qu o) (hc:yK c=true) (hx:c≠120):c∉(FY o).cps.toList:=by
 cases o with
 | none=>
   show c∉(Str.ofString "x").cps.toList
   rw [Aj]
   simpa using hx
 | some i=>exact bK (h i rfl) hc
theorem Gu {p:p8} {c:Nat} (h1:p.1.natAbs < 10 ^ 60) (h2:Qu p.2) (hc:yK c=true) (hx:c≠120) (N3:c≠58):c∉(iR p).cps.toList:=by
 unfold iR
 refine nO (nO (bK h1 hc) ?_) (LJ h2 hc hx)
 rw [qN]
 simpa using N3
theorem Gv {p:p8} (h1:p.1.natAbs < 10 ^ 60) (h2:Qu p.2):qE (iR p)=some p:=by
 have e:Txt.partition (iR p) (Str.ofString ":")=(aC p.1,⟨#[58]⟩,FY p.2):=by
   rw [qN]
   exact yJ (by unfold iR;exact yL (by rw [qN])) (bK h1 (by decide))
 unfold qE
 rw [e]
 dsimp only
 rw [cB h1]
 obtain ⟨n,o⟩:=p
 cases o with
 | none=>rfl
 | some i=>
   dsimp only
   rw [if_neg (show ¬ FY (some i)=Str.ofString "x" from DT (h2 i rfl))]
   show (ak (aC i)).map _=_
   rw [cB (h2 i rfl)]
   rfl
structure N4 (vs:List p8):Prop where
 sm:∀ p∈vs,p.1.natAbs < 10 ^ 60/\Qu p.2
 ok:uV vs=true
theorem Ja {vs:List p8} {c:Nat} (h:N4 vs) (hc:yK c=true) (hx:c≠120) (N3:c≠58) (TL:c≠44):c∉(bx (Str.ofString ",") (vs.map iR)).cps.toList:=by
 rw [bG]
 refine lQ TL (fun z=>by rw [z] at hc;exact absurd hc (by decide)) fun p hp=>?_
 obtain ⟨a,ha,rfl⟩:=List.mem_map.mp hp
 exact Gu (h.sm a ha).1 (h.sm a ha).2 hc hx N3
theorem Gw {k:Int} {vs:List p8} {c:Nat} (hk:k.natAbs < 10 ^ 60) (h:N4 vs) (hc:yK c=true) (hx:c≠120) (N3:c≠58) (TL:c≠44) (MB:c≠61):c∉(gQ k vs).cps.toList:=by
 unfold gQ
 refine nO (nO (bK hk hc) ?_) (Ja h hc hx N3 TL)
 rw [qO]
 simpa using MB
theorem Gx {k:Int} {vs:List p8} (hk:k.natAbs < 10 ^ 60) (h:N4 vs):lJ (gQ k vs)=some (k,vs):=by
 have e:Txt.partition (gQ k vs) (Str.ofString "=")=(aC k,⟨#[61]⟩,bx (Str.ofString ",") (vs.map iR)):=by
   rw [qO]
   exact yJ (by unfold gQ;exact yL (by rw [qO])) (bK hk (by decide))
 have l:cu qE (Str.ofString ",") (bx (Str.ofString ",") (vs.map iR))=some vs:=by
   rw [bG]
   have hc:∀ a∈vs,44∉(iR a).cps.toList:=fun a ha=>Gu (h.sm a ha).1 (h.sm a ha).2 (by decide) (by decide) (by decide)
   exact qP (w:=iR) (c:=44) (fun a ha=>Gv (h.sm a ha).1 (h.sm a ha).2) hc DR (by decide)
 unfold lJ
 rw [e]
 dsimp only
 rw [cB hk,l]
structure TM (rs:List (Int×List p8)):Prop where
 sm:∀ r∈rs,r.1.natAbs < 10 ^ 60/\N4 r.2
 ok:mE rs=true
theorem DU:lJ (Str.ofString "-")=none:=by decide +kernel
theorem DV {rs:List (Int×List p8)} (h:TM rs):cu lJ (Str.ofString ";") (bx (Str.ofString ";") (rs.map fun r=>gQ r.1 r.2))=some rs:=by
 have hr:∀ a∈rs,lJ (gQ a.1 a.2)=some a:=fun a ha=>Gx (h.sm a ha).1 (h.sm a ha).2
 have hc:∀ a∈rs,59∉(gQ a.1 a.2).cps.toList:=by
   intro a ha
   obtain ⟨h1,h2⟩:=h.sm a ha
   exact Gw h1 h2 rfl (by decide) (by decide) (by decide) (by decide)
 have:=qP (rv:=lJ) (w:=fun r=>gQ r.1 r.2) (c:=59) (l:=rs) hr hc DU (by decide)
 rw [jq]
 exact this
theorem N5 {a b c:Str} (ha:32∉a.cps.toList) (hb:32∉b.cps.toList) (hc:32∉c.cps.toList):Txt.split (Str.join (Str.ofString " ") [a,b,c]) (Str.ofString " ")=[a,b,c]:=by
 rw [dm]
 exact dU (by simp) fun p hp=>by
   simp only [List.mem_cons,List.not_mem_nil,or_false] at hp
   rcases hp with rfl | rfl | rfl <;> assumption
theorem N6 {a b c d e:Str} (ha:32∉a.cps.toList) (hb:32∉b.cps.toList) (hc:32∉c.cps.toList) (hd:32∉d.cps.toList) (he:32∉e.cps.toList):Txt.split (Str.join (Str.ofString " ") [a,b,c,d,e]) (Str.ofString " ")=[a,b,c,d,e]:=by
 rw [dm]
 exact dU (by simp) fun p hp=>by
   simp only [List.mem_cons,List.not_mem_nil,or_false] at hp
   rcases hp with rfl | rfl | rfl | rfl | rfl <;> assumption
theorem DW {n:Int} {rs:List (Int×List p8)} (n0:0<=n) (hn:n.natAbs < 10 ^ 60) (h:TM rs):cH (Str.join (Str.ofString " ") [Str.ofString "leaf",aC n,bx (Str.ofString ";") (rs.map fun r=>gQ r.1 r.2)])=some (.leaf n rs):=by
 unfold cH
 rw [N5 (by decide +kernel) (bK hn (by decide)) (by
   rw [jq]
   refine lQ (by decide) (by decide) fun p hp=>?_
   obtain ⟨a,ha,rfl⟩:=List.mem_map.mp hp
   exact Gw (h.sm a ha).1 (h.sm a ha).2 (by decide) (by decide) (by decide) (by decide) (by decide))]
 dsimp only
 rw [if_pos rfl]
 unfold mF
 rw [cB hn,DV h]
 dsimp only
 rw [h.ok,decide_eq_true n0]
 rfl
theorem tV {x:bJ} {c:Nat} (h:x.sm) (hc:yK c=true) (hx:c≠120) (Bv:c≠43) (MB:c≠61):c∉x.t.cps.toList:=by
 cases x with
 | plus n=>
   refine nO ?_ (bK h hc)
   rw [show (Str.ofString "+").cps.toList=[43] from by decide +kernel]
   simpa using Bv
 | is n=>
   refine nO ?_ (bK h hc)
   rw [show (Str.ofString "=").cps.toList=[61] from by decide +kernel]
   simpa using MB
 | gone=>
   show c∉(Str.ofString "x").cps.toList
   rw [Aj]
   simpa using hx
theorem wF {x:bJ} (h:x.sm):fR x.t=some x:=by
 cases x with
 | gone=>unfold fR;exact if_pos rfl
 | plus n=>
   have e:(bJ.plus n).t.cps.toList=43::(aC n).cps.toList:=by
     show (Str.ofString "+"++aC n).cps.toList=_
     rw [dQ,show (Str.ofString "+").cps.toList=[43] from by decide +kernel]
     rfl
   unfold fR
   rw [if_neg (fun z=>by rw [z,Aj] at e;cases e),e]
   dsimp only
   rw [show (⟨(aC n).cps.toList.toArray⟩:Str)=aC n from iQ (by simp),cB h]
   rfl
 | is n=>
   have e:(bJ.is n).t.cps.toList=61::(aC n).cps.toList:=by
     show (Str.ofString "="++aC n).cps.toList=_
     rw [dQ,show (Str.ofString "=").cps.toList=[61] from by decide +kernel]
     rfl
   unfold fR
   rw [if_neg (fun z=>by rw [z,Aj] at e;cases e),e]
   dsimp only
   rw [show (⟨(aC n).cps.toList.toArray⟩:Str)=aC n from iQ (by simp),cB h]
   rfl
def Nt.rn (e:Nt):RN:=⟨some e.n,some e.lo,some e.hi,some e.t,some e.m⟩
structure N7 (e:Nt):Prop where
 n:e.n.natAbs < 10 ^ 60
 lo:e.lo.natAbs < 10 ^ 60
 hi:e.hi.natAbs < 10 ^ 60
 t:e.t.sm
 m:e.m.sm
 ok:fG e.rn=true
theorem CD {e:Nt} {c:Nat} (h:N7 e) (hc:yK c=true) (hx:c≠120) (Bv:c≠43) (MB:c≠61) (h46:c≠46):c∉e.x.cps.toList:=by
 unfold Nt.x
 rw [yF]
 refine tU h46 fun p hp=>?_
 simp only [List.mem_cons,List.not_mem_nil,or_false] at hp
 rcases hp with rfl | rfl | rfl | rfl | rfl
 . exact bK h.n hc
 . exact bK h.lo hc
 . exact bK h.hi hc
 . exact tV h.t hc hx Bv MB
 . exact tV h.m hc hx Bv MB
theorem wG {e:Nt} (h:N7 e):gv e.x=some e.rn:=by
 have s:Txt.split e.x (Str.ofString ".")=[aC e.n,aC e.lo,aC e.hi,e.t.t,e.m.t]:=by
   unfold Nt.x
   rw [yF]
   refine dU (by simp) fun p hp=>?_
   simp only [List.mem_cons,List.not_mem_nil,or_false] at hp
   rcases hp with rfl | rfl | rfl | rfl | rfl
   . exact bK h.n (by decide)
   . exact bK h.lo (by decide)
   . exact bK h.hi (by decide)
   . exact tV h.t (by decide) (by decide) (by decide) (by decide)
   . exact tV h.m (by decide) (by decide) (by decide) (by decide)
 unfold gv
 rw [s]
 dsimp only
 rw [cB h.n,cB h.lo,cB h.hi,wF h.t,wF h.m]
 rfl
theorem Bw:gv (Str.ofString "-")=none:=by decide +kernel
theorem Bx {es:List Nt} (h:∀ e∈es,N7 e):cu gv (Str.ofString ";") (bx (Str.ofString ";") (es.map Nt.x))=some (es.map Nt.rn):=by
 unfold cu bx
 by_cases e:es=[]
 . subst e
   rfl
 . have e':es.map Nt.x≠[]:=fun z=>e (List.map_eq_nil_iff.mp z)
   rw [if_neg e',jq]
   have sp:=dU (c:=59) e' (fun p hp=>by obtain ⟨a,ha,rfl⟩:=List.mem_map.mp hp;exact CD (h a ha) (by decide) (by decide) (by decide) (by decide) (by decide))
   have ne:¬ Str.join ⟨#[59]⟩ (es.map Nt.x)=Str.ofString "-":=fun z=>by
     rw [z] at sp
     rw [show Txt.split (Str.ofString "-") ⟨#[59]⟩=[Str.ofString "-"] from by decide +kernel] at sp
     cases es with
     | nil=>exact e rfl
     | cons a r=>
       simp only [List.map_cons,List.cons.injEq] at sp
       have:=wG (h a List.mem_cons_self)
       rw [<- sp.1,Bw] at this
       cases this
   rw [if_neg ne,sp,List.map_map]
   have:es.map (gv ∘ Nt.x)=(es.map Nt.rn).map some:=by
     rw [List.map_map]
     exact List.map_congr_left fun a ha=>wG (h a ha)
   rw [this,mD]
theorem CG {pl:Int->Int} {k:Int} {c:Nat} (h1:k.natAbs < 10 ^ 60) (h2:(pl k).natAbs < 10 ^ 60) (hc:yK c=true) (h64:c≠64):c∉(dY pl k).cps.toList:=by
 unfold dY
 refine nO (nO (bK h1 hc) ?_) (bK h2 hc)
 rw [CC]
 simpa using h64
theorem DX {pl:Int->Int} {k:Int} (h1:k.natAbs < 10 ^ 60) (h2:(pl k).natAbs < 10 ^ 60):jG (dY pl k)=some (k,pl k):=by
 have e:Txt.partition (dY pl k) (Str.ofString "@")=(aC k,⟨#[64]⟩,aC (pl k)):=by
   rw [CC]
   exact yJ (by unfold dY;exact yL (by rw [CC])) (bK h1 (by decide))
 unfold jG
 rw [e]
 dsimp only
 rw [cB h1,cB h2]
theorem DY {ns:List Int} (h:∀ i∈ns,i.natAbs < 10 ^ 60):cu ak (Str.ofString ",") (bx (Str.ofString ",") (ns.map aC))=some ns:=by
 have:=qP (rv:=ak) (w:=aC) (c:=44) (l:=ns) (fun a ha=>cB (h a ha)) (fun a ha=>bK (h a ha) rfl) (by decide +kernel) (by decide)
 rw [bG]
 exact this
theorem By {pl:Int->Int} {cs:List Int} (h:∀ c∈cs,c.natAbs < 10 ^ 60/\(pl c).natAbs < 10 ^ 60):cu jG (Str.ofString ",") (bx (Str.ofString ",") (cs.map (dY pl)))=some (cs.map fun c=>(c,pl c)):=by
 have hr:∀ a∈cs.map (fun c=>(c,pl c)),jG (aC a.1++Str.ofString "@"++aC a.2)=some a:=by
   intro a ha
   obtain ⟨c,hc,rfl⟩:=List.mem_map.mp ha
   exact DX (pl:=pl) (h c hc).1 (h c hc).2
 have hn:∀ a∈cs.map (fun c=>(c,pl c)),44∉(aC a.1++Str.ofString "@"++aC a.2).cps.toList:=by
   intro a ha
   obtain ⟨c,hc,rfl⟩:=List.mem_map.mp ha
   exact CG (pl:=pl) (h c hc).1 (h c hc).2 rfl (by decide)
 have:=qP (rv:=jG) (w:=fun a:Int×Int=>aC a.1++Str.ofString "@"++aC a.2) (c:=44) hr hn Bu (by decide)
 rw [List.map_map] at this
 rw [bG]
 exact this
structure IOk (pl:Int->Int) (n:Int) (lq ch:List Int) (es:List Nt):Prop where
 n0:0<=n
 n1:n.natAbs < 10 ^ 60
 hp:∀ i∈lq,i.natAbs < 10 ^ 60
 hc:∀ c∈ch,(0<=c/\c.natAbs < 10 ^ 60)/\(0<=pl c/\(pl c).natAbs < 10 ^ 60)
 nd:ch.Nodup
 len:ch.length=lq.length + 1
 he:∀ e∈es,N7 e
theorem BA {pl:Int->Int} {n:Int} {lq ch:List Int} {es:List Nt} (h:IOk pl n lq ch es):cH (Str.join (Str.ofString " ") [Str.ofString "inner",aC n,bx (Str.ofString ",") (lq.map aC),bx (Str.ofString ",") (ch.map (dY pl)),bx (Str.ofString ";") (es.map Nt.x)])=some (.inner n lq (ch.map fun c=>(c,pl c)) (es.map Nt.rn)):=by
 have h1:32∉(bx (Str.ofString ",") (lq.map aC)).cps.toList:=by
   rw [bG]
   refine lQ (by decide) (by decide) fun p hp=>?_
   obtain ⟨a,ha,rfl⟩:=List.mem_map.mp hp
   exact bK (h.hp a ha) rfl
 have h2:32∉(bx (Str.ofString ",") (ch.map (dY pl))).cps.toList:=by
   rw [bG]
   refine lQ (by decide) (by decide) fun p hp=>?_
   obtain ⟨a,ha,rfl⟩:=List.mem_map.mp hp
   exact CG (h.hc a ha).1.2 (h.hc a ha).2.2 rfl (by decide)
 have h3:32∉(bx (Str.ofString ";") (es.map Nt.x)).cps.toList:=by
   rw [jq]
   refine lQ (by decide) (by decide) fun p hp=>?_
   obtain ⟨a,ha,rfl⟩:=List.mem_map.mp hp
   exact CD (h.he a ha) rfl (by decide) (by decide) (by decide) (by decide)
 unfold cH
 rw [N6 (by decide +kernel) (bK h.n1 rfl) h1 h2 h3]
 dsimp only
 rw [if_pos rfl]
 unfold kq
 rw [cB h.n1,DY h.hp,By fun c hc=>⟨(h.hc c hc).1.2,(h.hc c hc).2.2⟩,Bx h.he]
 dsimp only
 refine if_pos ?_
 unfold tQ
 simp only [Bool.and_eq_true,decide_eq_true_eq]
 refine ⟨⟨⟨⟨?_,?_⟩,?_⟩,h.n0⟩,?_⟩
 . rw [List.all_map]
   exact List.all_eq_true.mpr fun e he=>(h.he e he).ok
 . rw [List.length_map]
   exact h.len
 . rw [List.map_map]
   have:ch.map ((fun x:Int×Int=>x.1) ∘ fun c=>(c,pl c))=ch:=by
     conv=>rhs;rw [<- List.map_id ch]
     rfl
   rw [this]
   exact h.nd
 . rw [List.all_map]
   refine List.all_eq_true.mpr fun c hc=>?_
   show (decide (0<=c)&&decide (0<=pl c))=true
   rw [decide_eq_true (h.hc c hc).1.1,decide_eq_true (h.hc c hc).2.1]
   rfl
structure mY (t:Str):Prop where
 sc:Sc t
 hd:(t.cps.toList.head?=some 108/\blanks t=2)∨(t.cps.toList.head?=some 105/\blanks t=4)∨(t.cps.toList.head?=some 104/\blanks t=6)
def u6 (t b:Str):Prop:=(b.cps.toList.head?≠some 108/\b.cps.toList.head?≠some 105/\b.cps.toList.head?≠some 104)∨(b.cps.toList.head?=t.cps.toList.head?/\blanks b≠blanks t)∨¬ Sc b
theorem u6.room {t b:Str} (h:u6 t b) (l:mY t):cH b=none:=by
 cases e:cH b with
 | none=>rfl
 | some x=>
   obtain ⟨s,d⟩:=pT e
   exfalso
   rcases h with ⟨h1,h2,_⟩ | ⟨h1,h2⟩ | h
   . rcases d with ⟨d,_⟩ | ⟨d,_⟩
     . exact h1 d
     . exact h2 d
   . rcases d with ⟨d,d'⟩ | ⟨d,d'⟩ <;> rcases l.hd with ⟨q,q'⟩ | ⟨q,q'⟩ | ⟨q,q'⟩ <;> (rw [d,q] at h1) <;> first | (rw [d',q'] at h2;exact h2 rfl) | cases h1
   . exact h s
theorem nQ {a b:Str} {c:Nat} (h:a.cps.toList.head?=some c):(a++b).cps.toList.head?=some c:=by
 rw [dQ]
 cases e:a.cps.toList with
 | nil=>rw [e] at h;cases h
 | cons x l=>rw [e] at h;exact h
theorem mY.some {t:Str} (l:mY t):∃ c,t.cps.toList.head?=some c/\(c=108∨c=105∨c=104):=by
 rcases l.hd with ⟨q,_⟩ | ⟨q,_⟩ | ⟨q,_⟩
 . exact ⟨_,q,.inl rfl⟩
 . exact ⟨_,q,.inr (.inl rfl)⟩
 . exact ⟨_,q,.inr (.inr rfl)⟩
theorem pU (a b:Str):blanks (a++b)=blanks a + blanks b:=by unfold blanks;rw [dQ,List.count_append]
theorem Ak {t x:Str} (l:mY t) (h:blanks x≠0):u6 t (t++x):=by
 obtain ⟨c,hc,_⟩:=l.some
 refine .inr (.inl ⟨by rw [nQ hc,hc],?_⟩)
 rw [pU]
 omega
theorem jj {t b:Str} {c:Nat} (h:b.cps.toList.head?=some c) (h1:c≠108) (h2:c≠105) (h3:c≠104):u6 t b:=
 .inl ⟨by rw [h];simpa using h1,by rw [h];simpa using h2,by rw [h];simpa using h3⟩
structure Start (l:List Nat) (p:Nat):Prop where
 tT:∃ c,l[p]?=some c/\bF c=true
 bef:∀ c,(l.take p).getLast?=some c->bF c=false
def gC (l:List Nat) (p:Nat):List Nat:=(l.drop p).takeWhile bF
theorem rE {l:List Nat} {p:Nat} (s:Start l p):gC l p≠[]/\(gC l p).all bF=true/\∃ b,l.drop p=gC l p++b/\∀ c,b.head?=some c->bF c=false:=by
 obtain ⟨c,hc,fc⟩:=s.tT
 have hp:=(List.getElem?_eq_some_iff.mp hc).1
 have ed:l.drop p=c::l.drop (p + 1):=by
   rw [List.drop_eq_getElem_cons hp]
   congr 1
   exact (List.getElem?_eq_some_iff.mp hc).2
 refine ⟨?_,?_,(l.drop p).dropWhile bF,(List.takeWhile_append_dropWhile).symm,fun x hx=>?_⟩
 . unfold gC
   rw [ed,List.takeWhile_cons_of_pos fc]
   simp
 . unfold gC
   exact List.all_takeWhile
 . have:=List.head?_dropWhile_not bF (l.drop p)
   rw [hx] at this
   simpa using this
theorem Jb {t:Str} {p:Nat} (l:Sc t) (s:Start t.cps.toList p):(gC t.cps.toList p).length<=60:=by
 obtain ⟨h0,hr,b,eb,hb⟩:=rE s
 have h:=l.run
 rw [<- List.take_append_drop p t.cps.toList,eb] at h
 have:=Ah s.bef hr h0 hb h
 unfold mW at this
 rw [Bool.and_eq_true] at this
 exact of_decide_eq_true this.1
theorem Al {t x:Str} {p:Nat} {ins:List Nat} (s:Start t.cps.toList p) (hi:ins.all bF=true) (e:x.cps.toList=t.cps.toList.take p++(ins++t.cps.toList.drop p)) (no:mW (ins.length + (gC t.cps.toList p).length) ((ins++gC t.cps.toList p).head?==some 48)=false):u6 t x:=by
 refine .inr (.inr fun sc=>?_)
 obtain ⟨h0,hr,b,eb,hb⟩:=rE s
 have h:=sc.run
 rw [e,eb,<- List.append_assoc ins] at h
 have:=Ah s.bef (by rw [List.all_append,hi,hr];rfl) (by simp [h0]) hb h
 rw [List.length_append,no] at this
 cases this
theorem Gy {t x:Str} {a b:List Nat} (e:x.cps.toList=a++43::43::b):u6 t x:=.inr (.inr fun sc=>by
 have:=sc.two
 rw [e,IZ] at this
 cases this)
theorem DZ {t:Str} (l:mY t):u6 t (Txt.upper t):=by
 obtain ⟨c,hc,h⟩:=l.some
 have key:∀ d,Unicode.upperOf c=[d]->(Txt.upper t).cps.toList.head?=some d:=by
   intro d hd
   cases e:t.cps.toList with
   | nil=>rw [e] at hc;cases hc
   | cons x l=>
     rw [e] at hc
     have hx:x=c:=Option.some.inj hc
     subst hx
     show (Array.flatten (t.cps.mapIdx fun i c=>(Unicode.upperOf c).toArray)).toList.head?=some d
     rw [Array.toList_flatten,Array.toList_mapIdx,e]
     simp [hd]
 rcases h with rfl | rfl | rfl
 . exact jj (key 76 (by decide +kernel)) (by decide) (by decide) (by decide)
 . exact jj (key 73 (by decide +kernel)) (by decide) (by decide) (by decide)
 . exact jj (key 72 (by decide +kernel)) (by decide) (by decide) (by decide)
theorem nU {ws:List Str} (h0:ws≠[]) (h:∀ p∈ws,32∉p.cps.toList):blanks (Str.join (Str.ofString " ") ws) + 1=ws.length:=by
 rw [dm]
 exact pS h0 h
theorem u7 {w:Str} {ws:List Str} {c:Nat} (h:w.cps.toList.head?=some c):(Str.join (Str.ofString " ") (w::ws)).cps.toList.head?=some c:=by
 rw [dm]
 cases ws with
 | nil=>exact h
 | cons y r=>
   rw [fN]
   cases e:w.cps.toList with
   | nil=>rw [e] at h;cases h
   | cons a l=>rw [e] at h;exact h
theorem words_of {t:Str} (l:mY t):∃ w ws c,Txt.split t (Str.ofString " ")=w::ws/\ws≠[]/\w.cps.toList.head?=some c/\t.cps.toList.head?=some c/\(∀ p∈w::ws,32∉p.cps.toList)/\blanks t=ws.length:=by
 have fr:∀ p∈Txt.split t (Str.ofString " "),32∉p.cps.toList:=by rw [dm];exact StrLaws.split_free t 32
 have cs:=nK (c:=32) t
 have ne:=jV t 32
 have jn:Str.join (Str.ofString " ") (Txt.split t (Str.ofString " "))=t:=by rw [dm];exact StrLaws.join_split _ _
 rw [<- dm] at cs ne
 obtain ⟨c,hc,h3⟩:=l.some
 cases e:Txt.split t (Str.ofString " ") with
 | nil=>exact absurd e ne
 | cons w ws=>
   rw [e] at fr cs jn
   have hb:blanks t=ws.length:=by
     have:blanks t + 1=(w::ws).length:=cs
     simpa using this
   have hw:ws≠[]:=fun z=>by
     rw [z] at hb
     rcases l.hd with ⟨_,q⟩ | ⟨_,q⟩ | ⟨_,q⟩ <;> rw [hb] at q <;> cases q
   refine ⟨w,ws,c,rfl,hw,?_,hc,fr,hb⟩
   cases ew:w.cps.toList with
   | nil=>
     cases ws with
     | nil=>exact absurd rfl hw
     | cons y r=>
       rw [<- jn,dm,fN,ew] at hc
       have:(32:Nat)=c:=Option.some.inj hc
       omega
   | cons a b=>
     cases ws with
     | nil=>exact absurd rfl hw
     | cons y r=>
       rw [<- jn,dm,fN,ew] at hc
       exact hc
theorem Gz {t:Str} (l:mY t):u6 t (Str.join (Str.ofString " ") (Txt.split t (Str.ofString " ")).dropLast):=by
 obtain ⟨w,ws,c,e,hw,h1,h2,fr,hb⟩:=words_of l
 rw [e]
 obtain ⟨y,r,rfl⟩:∃ y r,ws=y::r:=by cases ws with
   | nil=>exact absurd rfl hw
   | cons y r=>exact ⟨y,r,rfl⟩
 have ed:(w::y::r).dropLast=w::(y::r).dropLast:=rfl
 have jb:=nU (ws:=(w::y::r).dropLast) (by rw [ed];simp) fun p hp=>fr p (List.dropLast_subset _ hp)
 rw [List.length_dropLast] at jb
 refine .inr (.inl ⟨by rw [ed,u7 h1,h2],?_⟩)
 rw [hb]
 simp only [List.length_cons] at jb ⊢
 omega
theorem Jc {t:Str} (l:mY t) {k:Nat} (k0:1<=k) (k1:k < (Txt.split t (Str.ofString " ")).length):u6 t (Str.join (Str.ofString " ") ((Txt.split t (Str.ofString " ")).take k)++Str.ofString "  "++Str.join (Str.ofString " ") ((Txt.split t (Str.ofString " ")).drop k)):=by
 obtain ⟨w,ws,c,e,hw,h1,h2,fr,hb⟩:=words_of l
 rw [e] at k1 ⊢
 obtain ⟨j,rfl⟩:∃ j,k=j + 1:=⟨k - 1,by omega⟩
 rw [List.length_cons] at k1
 have b1:=nU (ws:=(w::ws).take (j + 1)) (by simp) fun p hp=>fr p (List.mem_of_mem_take hp)
 have b2:=nU (ws:=(w::ws).drop (j + 1)) (by simp;omega) fun p hp=>fr p (List.mem_of_mem_drop hp)
 have b3:blanks (Str.ofString "  ")=2:=by decide +kernel
 rw [List.length_take,List.length_cons] at b1
 rw [List.length_drop,List.length_cons] at b2
 refine .inr (.inl ⟨?_,?_⟩)
 . rw [h2]
   exact nQ (nQ (u7 h1))
 . rw [pU,pU,b3,hb]
   omega
section
variable {P:Program} {w:World} {K:PySem.W.Frag} {mg:Str->Option Value} {base:Heap}
def sR (t:Str):Bool:=decide (t="fullest")||decide (t="eldest")
def BB:Sp:=fun vs H Q _=>∃ t:Str,vs=[.str t]/\Q (.bl (sR t)) H
theorem Jd (t:Str):Ht (.str t) [.str "fullest",.str "eldest"]=sR t:=by
 unfold Ht sR
 simp only [List.any_cons,List.any_nil,Bool.or_false,Hs]
 have e:∀ a b:Str,(a==b)=decide (b=a):=fun a b=>by
   rw [Bool.eq_iff_iff,beq_iff_eq,decide_eq_true_eq]
   exact ⟨Eq.symm,Eq.symm⟩
 rw [e,e]
theorem BC:aD ["thing"] ["thing"] (af jP):=⟨rfl,rfl,rfl,by decide +kernel,rfl,by decide +kernel,by decide +kernel⟩
theorem BD {f:Addr} {fd:FuncData} (F:fh K "is_plan" "is_plan" jP f fd) {aG aP cF cR cN:Addr} {tE tF t1 t2 t3 t4:Tok} (B:B K mg aG aP cF cR cN tE tF t1 t2 t3 t4):bf P w K mg base eZ 1 f fd ["thing"] BB:=by
 refine F.Qe BC (fun vs H Q E h=>?_) (fun cG A outer s H vs Q E hr hm h=>?_)
 . obtain ⟨t,rfl,_⟩:=h
   rfl
 obtain ⟨t,rfl,q⟩:=h
 refine ⟨_,(aK (aW (ju (aU aX rfl B.isinstance aR (aa (ev 0) (aa (lX rfl B.str dh) ai))) (lu (kW Fe (ev 0) (jt rfl B.NO B.FT) (by with_unfolding_all rfl)))))),?_⟩
 try walk_at "rn"
 refine ⟨_,.inl (.str _),true,rfl,aQ rfl ⟨_,br (hm.tup B.kP),rfl,rfl,?_⟩⟩
 rw [Jd]
 exact q
def jk (os:List (Option Int)) (pl:Str):Bool:=match os with
 | [a,b,c]=>wO 1 64 a&&wO 3 16 b&&(wO 1 64 c&&sR pl)
 | _=>false
def BE (K:PySem.W.Frag):Sp:=fun vs H Q _=>∃ r os pl,vs=[.ref r]/\tupQ K H r=some (List.map on os++[.str pl])/\Q (.bl (jk os pl)) H
theorem jX:aD ["thing","tray","fan","rows","plan"] ["thing"] (af jQ):=⟨rfl,rfl,rfl,by decide +kernel,rfl,by decide +kernel,by decide +kernel⟩
theorem BF {f:Addr} {fd:FuncData} (F:fh K "is_rule" "is_rule" jQ f fd) {aG aP cF cR cN:Addr} {tE tF t1 t2 t3 t4:Tok} (B:B K mg aG aP cF cR cN tE tF t1 t2 t3 t4) (bS:Callee P w K mg base "is_whole" 2 ["thing","low","high"] nH) (oO:Callee P w K mg base "is_plan" 1 ["thing"] BB):bf P w K mg base eZ 3 f fd ["thing"] (BE K):=by
 refine F.gP jX (fun vs H Q E h=>?_) (fun cG A outer s H vs Q E hr h=>?_)
 . obtain ⟨r,os,pl,rfl,_⟩:=h
   rfl
 obtain ⟨r,os,pl,rfl,ht,q⟩:=h
 refine ⟨_,(av (jD (tw (wW (jd (gy (aU aX rfl B.isinstance aR (aa (ev 0) (aa (lX rfl B.tuple iM) ai))))) (pK (cj mR (aU bH rfl B.len dg (aa (ev 0) ai)) ei (aI _))))) (aK (aW vY)) cY)
     (av (i9 (ev 0) (fM (n:=4) rfl (aH (aA (i:=1) jX.nd rfl (Or.inl rfl)) (aH (aA (i:=2) jX.nd rfl (Or.inl rfl)) (aH (aA (i:=3) jX.nd rfl (Or.inl rfl)) (aH (aA (i:=4) jX.nd rfl (Or.inl rfl)) gA))))))
     (av (jD (tw (wW (jd (gy (au bS (hr.mono (by decide)) rfl (aa (ev 1) (aa ei (aa (jt rfl B.DG B.xU) ai)))))) (pK (jd (gy (au bS (hr.mono (by decide)) rfl (aa (ev 2) (aa (jt rfl B.DH B.xV) (aa (jt rfl B.FQ B.zP) ai))))))))) (aK (aW vY)) cY)
     (aK (aW (ju (au bS (hr.mono (by decide)) rfl (aa (ev 3) (aa ei (aa (jt rfl B.DI B.xW) ai)))) (lu (au oO (hr.mono (by decide)) rfl (aa (ev 4) ai))))))))),?_⟩
 simp_arith [br ht]
 refine ⟨_,.tup ht,true,rfl,aL (by decide) ?_⟩
 by_cases hl:os.length=3
 case neg=>
   refine aQ (by simp;omega) ?_
   have:jk os pl=false:=by
     unfold jk
     split
     . exact absurd rfl hl
     . rfl
   rw [this] at q
   exact q
 obtain ⟨a,b,c,rfl⟩:∃ a b c,os=[a,b,c]:=by
   rcases os with _ | ⟨a,_ | ⟨b,_ | ⟨c,_ | ⟨d,os⟩⟩⟩⟩ <;> simp only [List.length_cons,List.length_nil] at hl <;> first | omega | exact ⟨_,_,_,rfl⟩
 refine aL (by simp) ?_
 refine ⟨_,ht,rfl,_,_,rfl,_,_,rfl,_,_,rfl,_,_,rfl,rfl,a,_,_,rfl,_,rfl,?_⟩
 cases c1:wO 1 64 a
 . exact aQ (by decide) (by simpa [jk,c1] using q)
 refine aL (by decide) ⟨b,_,_,rfl,_,rfl,?_⟩
 cases c2:wO 3 16 b
 . exact aQ (by decide) (by simpa [jk,c1,c2] using q)
 refine aL (by decide) ⟨c,_,_,rfl,_,rfl,?_⟩
 cases c3:wO 1 64 c
 . exact aL (by decide) (by simpa [jk,c1,c2,c3] using q)
 . exact aQ rfl ⟨pl,rfl,by simpa [jk,c1,c2,c3] using q⟩
def iY (t:Str) (ns:List Int):Prop:=(t=Str.ofString "-"/\ns=[])∨(t≠Str.ofString "-"/\(Txt.split t (Str.ofString ",")).map ak=ns.map some)
theorem some_inj {us vs:List Int} (h:us.map some=vs.map some):us=vs:=(List.map_inj_right fun _ _=>Option.some.inj).mp h
theorem iY.one {t:Str} {ns ms:List Int} (h:iY t ns) (g:iY t ms):ns=ms:=by
 rcases h with ⟨h1,h2⟩ | ⟨h1,h2⟩ <;> rcases g with ⟨g1,g2⟩ | ⟨g1,g2⟩
 . rw [h2,g2]
 . exact absurd h1 g1
 . exact absurd g1 h1
 . exact some_inj (h2.symm.trans g2)
theorem Am {t:Str} {ns:List Int} (h:iY t ns) (ht:t.length < 1000000):ns.length<=1000000:=by
 rcases h with ⟨_,rfl⟩ | ⟨_,h⟩
 . simp
 . have:=(fk t 44).1
   rw [<- bG] at this
   have e:=congrArg List.length h
   rw [List.length_map,List.length_map] at e
   omega
theorem Je (us:List Int):(us.map some).map on=us.map V.int:=by rw [List.map_map];rfl
def GA (K:PySem.W.Frag):Sp:=fun vs H Q _=>∃ v lo,vs=[v,.int lo]/\((v=.cQ/\Q (.bl false) H)∨∃ D ns,v=.ref D/\H D=some (.lst (List.map V.int ns))/\ns.length<=1000000/\∀ H',Ext K H H'->Q (.bl (ns.all (fun n=>decide (lo<=n))&&rising ns)) H')
theorem pV:aD ["thing","low"] ["thing","low"] (af cJ):=⟨rfl,rfl,rfl,by decide +kernel,rfl,by decide +kernel,by decide +kernel⟩
theorem pW {f:Addr} {fd:FuncData} (F:fh K "are_rising_from" "are_rising_from" cJ f fd) {aG aP cF cR cN:Addr} {tE tF t1 t2 t3 t4:Tok} (B:B K mg aG aP cF cR cN tE tF t1 t2 t3 t4) (cW:Callee P w K mg base "are_wholes" 2 ["thing"] (IY K)) (cg:Callee P w K mg base "is_rising" 1 ["numbers"] (Ab K)):bf P w K mg base eZ 3 f fd ["thing","low"] (GA K):=by
 refine F.gP pV (fun vs H Q E h=>?_) (fun cG A outer s H vs Q E hr h=>?_)
 . obtain ⟨v,lo,rfl,_⟩:=h
   rfl
 obtain ⟨v,lo,rfl,h⟩:=h
 refine ⟨_,(aK (aW (ju (au cW (hr.mono (by decide)) rfl (aa (ev 0) ai)) (ju (aU (gW rfl) rfl B.all nv (aa (rz (jO.mk (N:=["number","low"]) (src:=[none,some 1]) rfl rfl) rfl (cI (ev 0)) (fun _ _ _ _=>(aA (i:=0) (show (["number","low"]:List Str).Nodup from by decide +kernel) rfl (Or.inl rfl))) (fun _ _ _ _=>cU) (fun _ _ _ _=>(kW zu (ev 1) (ev 0) (aI _)))) ai)) (lu (au cg (hr.mono (by decide)) rfl (aa (ev 0) ai))))))),?_⟩
 try walk_at "rn"
 rcases h with ⟨rfl,q⟩ | ⟨D,ns,rfl,hD,hl,q⟩
 . exact ⟨_,rfl,.inl ⟨rfl,false,rfl,aL (by decide) q⟩⟩
 refine ⟨_,rfl,.inr ⟨D,ns,rfl,hD,hl,fun H1 x1=>⟨true,rfl,aQ rfl ⟨D,rfl,⟨_,aZ.of (x1.at hD)⟩,fun D1 n1=>gE (f:=V.int) (g:=fun i=>V.bl (decide (lo<=i))) (aZ.of (x1.at hD)) n1 (by omega) (fun i hi H' Q' xx qq=>?_) (fun H2 h2 x2=>?_)⟩⟩⟩⟩
 . try walk_at "rn"
   exact qq _ Ext.refl
 refine ⟨ns.map fun n=>decide (lo<=n),aZ.of (by rw [h2,List.map_map];rfl),?_⟩
 have e:(ns.map fun n=>decide (lo<=n)).all id=ns.all fun n=>decide (lo<=n):=by rw [List.all_map];rfl
 rw [e]
 cases c:ns.all fun n=>decide (lo<=n)
 . have:=q _ (x1.trans x2)
   rw [c] at this
   exact aL (by decide) this
 . refine aQ rfl ⟨D,ns,rfl,aZ.of ((x1.trans x2).at hD),hl,fun H3 x3=>?_⟩
   have:=q _ (x1.trans (x2.trans x3))
   rw [c] at this
   exact this
def RL (K:PySem.W.Frag) (t:Str) (H:Hp) (Q:VK):Prop:=((∀ ns,¬ iY t ns)->∀ H',Ext K H H'->Q .cQ H')/\(∀ ns,iY t ns->∀ D H',new K H D->Ext K H H'->H' D=some (.lst (ns.map V.int))->Q (.ref D) H')
def N8 (K:PySem.W.Frag):Sp:=fun vs H Q _=>∃ t:Str,vs=[.str t]/\t.length<=1000000/\RL K t H Q
theorem An {H0 H:Hp}:∀ {ns:List Int} {us:List V},aT K H0 H (ns.map PyData.int) us->us=ns.map V.int
 | [],us,h=>by simpa only [List.map_nil,aT] using h
 | n::r,us,h=>by
   simp only [List.map_cons,aT] at h
   obtain ⟨v,r',rfl,h1,h2⟩:=h
   simp only [bL] at h1
   rw [h1,An h2]
   rfl
theorem Jf {t:Str} {o:Option (List Int)} (e:cu ak (Str.ofString ",") t=o):(o=none->∀ ns,¬ iY t ns)/\(∀ l,o=some l->iY t l):=by
 unfold cu at e
 split at e
 . rename_i ht
   subst e
   exact ⟨fun h=>(by cases h),fun l h=>by cases h;exact .inl ⟨ht,rfl⟩⟩
 . rename_i ht
   refine ⟨fun h ns hn=>?_,fun l h=>.inr ⟨ht,?_⟩⟩
   . rcases hn with ⟨z,_⟩ | ⟨_,z⟩
     . exact ht z
     . rw [z,mD,h] at e
       cases e
   . rw [h] at e
     exact gR e
theorem Jg {fr:Addr} {vs:List V} {H:Hp} {Q:VK} {E:XK} (h:N8 K vs H Q E):uY K fr vs H Q E:=by
 obtain ⟨t,rfl,ht,q0,q1⟩:=h
 refine ⟨t,rfl,t,rfl,ht,fun v H' x hv=>?_⟩
 obtain ⟨n1,n2⟩:=Jf (t:=t) rfl
 cases e:cu ak (Str.ofString ",") t with
 | none=>
   rw [e] at hv n1
   cases hv
   exact q0 (n1 rfl) H' x
 | some l=>
   rw [e] at hv n2
   obtain ⟨D,us,rfl,nD,hD,hus⟩:=hv
   rw [An hus] at hD
   exact q1 l (n2 l rfl) D H' nD x hD
def jm (t:Str) (a b c:Int) (pl:Str):Prop:=∃ x y z,Txt.split t (Str.ofString ",")=[x,y,z,pl]/\ak x=some a/\ak y=some b/\ak z=some c/\(1<=a/\a<=64)/\(3<=b/\b<=16)/\(1<=c/\c<=64)/\sR pl=true
def LK (K:PySem.W.Frag):Sp:=fun vs H Q _=>∃ t:Str,vs=[.str t]/\t.length<=1000000/\((∀ a b c pl,¬ jm t a b c pl)->∀ H',Ext K H H'->Q .cQ H')/\
 (∀ a b c pl,jm t a b c pl->∀ T H',new K H T->Ext K H H'->tupQ K H' T=some [.int a,.int b,.int c,.str pl]->Q (.ref T) H')
theorem Jh {t:Str} {ps:List Str} {pl:Str} (e:Txt.split t (Str.ofString ",")=ps++[pl]):(jk (ps.map ak) pl=true/\∃ a b c,jm t a b c pl/\ps.map ak=[some a,some b,some c])∨(jk (ps.map ak) pl=false/\∀ a b c Hy,¬ jm t a b c Hy):=by
 cases h:jk (ps.map ak) pl with
 | true=>
   left
   refine ⟨rfl,?_⟩
   unfold jk at h
   split at h
   . rename_i a b c hm
     rcases ps with _ | ⟨x,_ | ⟨y,_ | ⟨z,_ | ⟨u,ps⟩⟩⟩⟩ <;> simp only [List.map_cons,List.map_nil,List.cons.injEq,reduceCtorEq,and_false,and_true] at hm
     obtain ⟨h1,h2,h3⟩:=hm
     rw [Bool.and_eq_true,Bool.and_eq_true,Bool.and_eq_true] at h
     obtain ⟨⟨w1,w2⟩,w3,w4⟩:=h
     cases a with
     | none=>cases w1
     | some a=>
       cases b with
       | none=>cases w2
       | some b=>
         cases c with
         | none=>cases w3
         | some c=>exact ⟨a,b,c,⟨x,y,z,e,h1,h2,h3,of_decide_eq_true w1,of_decide_eq_true w2,of_decide_eq_true w3,w4⟩,by simp [h1,h2,h3]⟩
   . cases h
 | false=>
   right
   refine ⟨rfl,?_⟩
   rintro a b c Hy ⟨x,y,z,e2,h1,h2,h3,w1,w2,w3,w4⟩
   have e3:ps++[pl]=[x,y,z]++[Hy]:=e.symm.trans e2
   obtain ⟨rfl,e4⟩:=List.append_inj' e3 rfl
   cases e4
   have:jk ([x,y,z].map ak) pl=true:=by
     simp only [List.map_cons,List.map_nil,h1,h2,h3,jk,wO,decide_eq_true w1,decide_eq_true w2,decide_eq_true w3,w4,Bool.and_true]
   rw [this] at h
   cases h
theorem jL:aD ["text","numbers","plan","rule"] ["text"] (af iB):=⟨rfl,rfl,rfl,by decide +kernel,rfl,by decide +kernel,by decide +kernel⟩
theorem yM {f:Addr} {fd:FuncData} (F:fh K "read_rule" "read_rule" iB f fd) {aG aP cF cR cN:Addr} {tE tF t1 t2 t3 t4:Tok} (B:B K mg aG aP cF cR cN tE tF t1 t2 t3 t4) (ao:Callee P w K mg base "read_figures" 2 ["text"] qz) (oQ:Callee P w K mg base "is_rule" 3 ["thing"] (BE K)):bf P w K mg base eZ 4 f fd ["text"] (LK K):=by
 refine F.gP jL (fun vs H Q E h=>?_) (fun cG A outer s H vs Q E hr h=>?_)
 . obtain ⟨t,rfl,_⟩:=h
   rfl
 obtain ⟨t,rfl,ht,qn,q⟩:=h
 obtain ⟨s1,s2⟩:=fk t 44
 have JQ:=jV t 44
 rw [<- bG] at s1 s2 JQ
 refine ⟨_,(av (i9 (lA PySem.F.plainAttrs_str PySem.F.slot_str_split PySem.F.type_str_split lD (ev 0) (aa aS ai)) (FE (n:=2) (i:=0) rfl (FF (aA (i:=1) jL.nd rfl (Or.inl rfl)) (aH (aA (i:=2) jL.nd rfl (Or.inl rfl)) gA))))
     (av (sset (i:=3) jL.nd rfl (Or.inl rfl) (bR nB rfl B.tuple iM (aa (cT fU (rz (jO.mk (N:=["number"]) (src:=[none]) rfl rfl) rfl (cI (ev 1)) (fun _ _ _ _=>(aA (i:=0) (show (["number"]:List Str).Nodup from by decide +kernel) rfl (Or.inl rfl))) (fun _ _ _ _=>cU) (fun _ _ _ _=>(au ao (hr.mono (by decide)) rfl (aa (ev 0) ai)))) (bO (aa (ev 2) ai))) ai)))
     (aK (aW (Hv (gy (au oQ (hr.mono (by decide)) rfl (aa (ev 3) ai))) (ev 3) i8))))),?_⟩
 try walk_at "rn"
 refine ⟨by decide +kernel,by omega,by omega,fun D nD=>?_⟩
 obtain ⟨ps,pl,e⟩:∃ ps pl,Txt.split t (Str.ofString ",")=ps++[pl]:=⟨_,_,(List.dropLast_concat_getLast JQ).symm⟩
 rw [e] at s1 s2 ⊢
 rw [List.length_append,List.length_singleton] at s1
 refine ⟨_,aZ.of ah,by simp,fun D1 n1=>?_⟩
 rw [show List.take ((List.map V.str (ps++[pl])).length + 1 - 2) (List.drop 0 (List.map V.str (ps++[pl])))=ps.map V.str from by simp,show List.take 0 (List.map V.str (ps++[pl]))++V.ref D1::List.drop ((List.map V.str (ps++[pl])).length + 1 - 2) (List.drop 0 (List.map V.str (ps++[pl])))=[V.ref D1,V.str pl] from by simp]
 have n0:=(qo.mp n1).2
 refine ⟨_,_,rfl,_,_,rfl,rfl,D1,rfl,⟨_,aZ.of ah⟩,fun D2 n2=>gE (f:=V.str) (g:=fun p=>on (ak p)) (aZ.of ah) n2 (by omega) (fun p hp H' Q' xx qq=>?_) (fun H1 h1 x1=>?_)⟩
 . try walk_at "rn"
   exact ⟨p,rfl,by have:=s2 p (List.mem_append_left _ hp);omega,qq _ Ext.refl⟩
 have x0:=(Ext.new (K:=K) nD).trans ((Ext.new n1).trans x1)
 rw [show ps.map (fun p=>on (ak p))=(ps.map ak).map on from by rw [List.map_map];rfl] at h1
 intro p3 m3
 refine ⟨_,(Ext.new m3).at h1,by simp only [List.length_map];omega,fun p4 m4 T nT=>⟨T,ps.map ak,pl,rfl,aN,_,rfl,?_⟩⟩
 have xx:=x0.trans ((Ext.new m3).trans ((Ext.new m4).trans (Ext.new (o:=.tup (List.map on (List.map ak ps)++[V.str pl])) nT)))
 rcases Jh e with ⟨r1,a,b,c,r2,r3⟩ | ⟨r1,r2⟩
 . rw [r1]
   refine aQ rfl (q a b c pl r2 T _ ?_ xx ?_)
   . exact d7 (x0.trans ((Ext.new m3).trans (Ext.new m4))) nT
   . rw [aN,r3]
     rfl
 . rw [r1]
   exact aL (by decide) (qn r2 _ xx)
structure jY (t:Str) (n1 n2 n3 n4 a b c:Int) (pl:Str) (ms:List Int):Prop where
 ex:∃ p1 p2 p3 p4 pr pm,Txt.split t (Str.ofString " ")=[Str.ofString "head",p1,p2,p3,p4,pr,pm]/\[p1,p2,p3,p4].map ak=[some n1,some n2,some n3,some n4]/\(0<=n1/\0<=n2/\0<=n3/\0<=n4)/\jm pr a b c pl/\iY pm ms/\ms.all (fun n=>decide (1<=n))=true/\rising ms=true
def rP (t:Str):Prop:=∀ n1 n2 n3 n4 a b c pl ms,¬ jY t n1 n2 n3 n4 a b c pl ms
def GB (K:PySem.W.Frag) (H:Hp) (T R M:Addr) (n1 n2 n3 n4 a b c:Int) (pl:Str) (ms:List Int):Prop:=tupQ K H T=some [.int n1,.int n2,.int n3,.int n4,.ref R,.ref M]/\tupQ K H R=some [.int a,.int b,.int c,.str pl]/\H M=some (.lst (ms.map V.int))
def Ji (K:PySem.W.Frag) (cN:Addr):Sp:=fun vs H Q E=>(∃ v,vs=[v]/\Gq K H v/\E (.ref cN) none H)∨∃ t:Str,vs=[.str t]/\t.length < 1000000/\(rP t->∀ H',Ext K H H'->E (.ref cN) none H')/\
 (∀ n1 n2 n3 n4 a b c pl ms,jY t n1 n2 n3 n4 a b c pl ms->∀ T R M H',new K H M->Ext K H H'->GB K H' T R M n1 n2 n3 n4 a b c pl ms->Q (.ref T) H')
theorem gp:aD ["text","word","pieces","numbers","rule","marks"] ["text"] (af bZ):=⟨rfl,rfl,rfl,by decide +kernel,rfl,by decide +kernel,by decide +kernel⟩
theorem yN {f:Addr} {fd:FuncData} (F:fh K "read_head" "read_head" bZ f fd) {aG aP cF cR cN:Addr} {tE tF t1 t2 t3 t4:Tok} (B:B K mg aG aP cF cR cN tE tF t1 t2 t3 t4) (ao:Callee P w K mg base "read_figures" 2 ["text"] qz) (kI:Callee P w K mg base "read_rule" 4 ["text"] (LK K)) {fr:Addr} (bP:Callee P w K mg base "read_numbers" 4 ["text"] (uY K fr)) (bA:Callee P w K mg base "is_whole_from" 2 ["thing","low"] qy) (fK:Callee P w K mg base "are_rising_from" 3 ["thing","low"] (GA K)):bf P w K mg base (A1 P w) 5 f fd ["text"] (Ji K cN):=by
 have bP:=bP.imp (C7:=N8 K) fun _ _ _ _=>Jg
 refine F.okX gp (fun vs H Q E h=>?_) (fun cG A outer s H vs Q E hr h=>?_)
 . rcases h with ⟨v,rfl,_⟩ | ⟨t,rfl,_⟩ <;> rfl
 obtain ⟨v,rfl⟩:∃ v,vs=[v]:=by rcases h with ⟨v,rfl,_⟩ | ⟨t,rfl,_⟩ <;> exact ⟨_,rfl⟩
 refine bE (rest:=(aq bZ).drop 7) (aK (aW (bR nB rfl B.tuple iM (aa (cT fU (ev 3) (bO (aa (ev 4) (aa (ev 5) ai)))) ai)))) fun r7 J7 e7=>?_
 refine bE (rest:=(aq bZ).drop 6) (av (jD (tw (wW (jd (gy (aU (gW rfl) rfl B.all nv (aa (rz (jO.mk (N:=["number"]) (src:=[none]) rfl rfl) rfl (cI (ev 3)) (fun _ _ _ _=>(aA (i:=0) (show (["number"]:List Str).Nodup from by decide +kernel) rfl (Or.inl rfl))) (fun _ _ _ _=>cU) (fun _ _ _ _=>(au bA (hr.mono (by decide)) rfl (aa (ev 0) (aa ei ai))))) ai)))) (wW (cj m8 (ev 4) i8 (aI _)) (pK (jd (gy (au fK (hr.mono (by decide)) rfl (aa (ev 5) (aa ei ai))))))))) (aK (uz B.nF B.rH hr.hd rfl)) cY)
     J7) fun r6 J6 e6=>?_
 refine bE (rest:=(aq bZ).drop 5) (av (sset (i:=5) gp.nd rfl (Or.inl rfl) (au bP (hr.mono (by decide)) rfl (aa (iJ ck (ev 2) ei (fun _ _=>rfl)) ai)))
     J6) fun r5 J5 e5=>?_
 refine bE (rest:=(aq bZ).drop 4) (av (sset (i:=4) gp.nd rfl (Or.inl rfl) (au kI (hr.mono (by decide)) rfl (aa (iJ ck (ev 2) ei (fun _ _=>rfl)) ai)))
     J5) fun r4 J4 e4=>?_
 refine bE (rest:=(aq bZ).drop 3) (av (Mn (i:=3) gp.nd rfl (Or.inl rfl) (jO.mk (N:=["piece"]) (src:=[none]) rfl rfl) rfl (cI (gw iN (ev 2) jE (jF ei))) (fun _ _ _ _=>(aA (i:=0) (show (["piece"]:List Str).Nodup from by decide +kernel) rfl (Or.inl rfl))) (fun _ _ _ _=>cU) (fun _ _ _ _=>(au ao (hr.mono (by decide)) rfl (aa (ev 0) ai))))
     J4) fun r3 J3 e3=>?_
 refine bE (rest:=(aq bZ).drop 2) (av (jD (tw (wW (cj mR (ev 1) aS (aI _)) (pK (cj mR (aU bH rfl B.len dg (aa (ev 2) ai)) ei (aI _))))) (aK (uz B.nF B.rH hr.hd rfl)) cY)
     J3) fun r2 J2 e2=>?_
 refine ⟨_,(av (jD (jd (gy (aU aX rfl B.isinstance aR (aa (ev 0) (aa (lX rfl B.str dh) ai))))) (aK (uz B.nF B.rH hr.hd rfl)) cY)
     (av (i9 (lA PySem.F.plainAttrs_str PySem.F.slot_str_split PySem.F.type_str_split lD (ev 0) (aa aS ai)) (FE (n:=2) (i:=1) rfl (aH (aA (i:=1) gp.nd rfl (Or.inl rfl)) (FF (aA (i:=2) gp.nd rfl (Or.inl rfl)) gA))))
     J2)),?_⟩
 try walk_at "rn"
 rcases h with ⟨v,e,⟨tt,ty,ko⟩,q⟩ | ⟨t,e,ht,qn,q⟩ <;> cases e
 . exact ⟨tt,ty,false,ko,aQ (by decide) q⟩
 obtain ⟨s1,s2⟩:=fk t 32
 have JQ:=jV t 32
 rw [<- dm] at s1 s2 JQ
 try walk_at "rn"
 refine ⟨_,.inl (.str _),true,rfl,aL (by decide) ⟨by decide +kernel,by omega,by omega,fun D nD=>?_⟩⟩
 obtain ⟨w0,rest,e⟩:∃ w0 rest,Txt.split t (Str.ofString " ")=w0::rest:=by
   cases h:Txt.split t (Str.ofString " ") with
   | nil=>exact absurd h JQ
   | cons x r=>exact ⟨x,r,rfl⟩
 rw [e] at s1 s2 ⊢
 rw [List.length_cons] at s1
 have s3:∀ p∈rest,p.length<=t.length:=fun p hp=>s2 p (List.mem_cons_of_mem _ hp)
 refine ⟨_,aZ.of ah,by simp,fun D1 n1=>?_⟩
 rw [show List.take ((List.map V.str (w0::rest)).length + 1 - 2) (List.drop 1 (List.map V.str (w0::rest)))=rest.map V.str from by simp;exact List.take_of_length_le (by simp),show List.take 1 (List.map V.str (w0::rest))++V.ref D1::List.drop ((List.map V.str (w0::rest)).length + 1 - 2) (List.drop 1 (List.map V.str (w0::rest)))=[V.str w0,V.ref D1] from by simp]
 refine ⟨_,_,rfl,_,_,rfl,rfl,?_⟩
 have xG:=(Ext.new (K:=K) (o:=.lst (List.map V.str (w0::rest))) nD).trans (Ext.new (o:=.lst (rest.map V.str)) n1)
 have hD:=ah (H:=upd H D (.lst (List.map V.str (w0::rest)))) (a:=D1) (o:=.lst (rest.map V.str))
 generalize upd (upd H D (.lst (List.map V.str (w0::rest)))) D1 (.lst (rest.map V.str))=G at xG hD ⊢
 rw [e2]
 simp_arith [bC hD]
 by_cases hw:w0=Str.ofString "head"/\rest.length=6
 case neg=>
   have nh:rP t:=by
     rintro n1 n2 n3 n4 a b c pl ms ⟨p1,p2,p3,p4,pr,pm,e',_⟩
     rw [e] at e'
     cases e'
     exact hw ⟨rfl,rfl⟩
   by_cases h1:w0=Str.ofString "head"
   . refine aL (by simp [h1]) (aQ (by simp;exact fun z=>hw ⟨h1,by omega⟩) (qn nh _ xG))
   . exact aQ (by simp [h1]) (qn nh _ xG)
 obtain ⟨rfl,hl⟩:=hw
 refine aL (by simp) (aL (by simp [hl]) ?_)
 obtain ⟨p1,p2,p3,p4,pr,pm,rfl⟩:∃ p1 p2 p3 p4 pr pm,rest=[p1,p2,p3,p4,pr,pm]:=by
   rcases rest with _ | ⟨p1,_ | ⟨p2,_ | ⟨p3,_ | ⟨p4,_ | ⟨p5,_ | ⟨p6,_ | ⟨p7,rest⟩⟩⟩⟩⟩⟩⟩ <;> simp only [List.length_cons,List.length_nil] at hl <;> first | omega | exact ⟨_,_,_,_,_,_,rfl⟩
 rw [e3]
 try walk_at "rn"
 refine ⟨_,aZ.of hD,fun S nS=>⟨⟨_,aZ.of ah⟩,fun N nN=>?_⟩⟩
 have eS:iL (List.map V.str [p1,p2,p3,p4,pr,pm]) none (some 4)=[p1,p2,p3,p4].map V.str:=by rw [show iL (List.map V.str [p1,p2,p3,p4,pr,pm]) none (some 4)=(List.map V.str [p1,p2,p3,p4,pr,pm]).take 4 from tM _ 4];rfl
 rw [eS] at nN ⊢
 have xS:=Ext.new (K:=K) (o:=.lst ([p1,p2,p3,p4].map V.str)) (by exact nS)
 refine gE (f:=V.str) (g:=fun p=>on (ak p)) (H:=upd G S (.lst ([p1,p2,p3,p4].map V.str))) (aZ.of ah) nN (by simp) (fun p hp H' Q' xx qq=>?_) (fun G1 hN x1=>?_)
 . try walk_at "rn"
   refine ⟨p,rfl,?_,qq _ Ext.refl⟩
   have:p∈[p1,p2,p3,p4,pr,pm]:=by
     simp only [List.mem_cons,List.not_mem_nil,or_false] at hp ⊢
     rcases hp with h | h | h | h <;> simp [h]
   have:=s3 p this
   omega
 rw [show [p1,p2,p3,p4].map (fun p=>on (ak p))=([p1,p2,p3,p4].map ak).map on from by rw [List.map_map];rfl] at hN
 have Ef:=(xS.trans x1).at hD
 have Qv:=xG.trans (xS.trans x1)
 rw [e4]
 simp_arith [bC Ef]
 have TN:∀ os:List (Option Int),(os.map (fun o=>fO 0 o)).all id=true->∃ us:List Int,os=us.map some/\∀ u∈us,0<=u:=by
   intro os
   induction os with
   | nil=>intro _;exact ⟨[],rfl,by simp⟩
   | cons o os ih=>
     intro h
     rw [List.map_cons,List.all_cons,Bool.and_eq_true] at h
     obtain ⟨us,rfl,hu⟩:=ih h.2
     cases o with
     | none=>cases h.1
     | some i=>exact ⟨i::us,rfl,by intro u hu';rcases List.mem_cons.mp hu' with rfl | hu';exact of_decide_eq_true h.1;exact hu u hu'⟩
 have last:∀ (vr vm:V) (G2:Hp),Ext K G1 G2->((vr=.cQ/\∀ a b c pl,¬ jm pr a b c pl)∨∃ R a b c pl,vr=.ref R/\jm pr a b c pl/\tupQ K G2 R=some [.int a,.int b,.int c,.str pl])->
     ((vm=.cQ/\∀ ns,¬ iY pm ns)∨∃ M ns,vm=.ref M/\iY pm ns/\new K H M/\G2 M=some (.lst (ns.map V.int))/\ns.length<=1000000)->r6 { nx:=fun x H'=>Q V.cQ H',rt:=Q } [some (V.str t),some (V.str "head"),some (V.ref D1),some (V.ref N),some vr,some vm] G2:=by
   intro vr vm G2 x2 hr' hm'
   rw [e6]
   try walk_at "rn"
   have TQ:=x2.at hN
   refine ⟨⟨_,aZ.of TQ⟩,fun D2 n2=>gE (f:=on) (g:=fun o=>V.bl (fO 0 o)) (L:=[p1,p2,p3,p4].map ak) (aZ.of TQ) n2 (by simp) (fun o ho H' Q' xx qq=>?_) (fun G3 h3 x3=>?_)⟩
   . try walk_at "rn"
     exact ⟨o,0,rfl,qq _ Ext.refl⟩
   have X3:=Qv.trans (x2.trans x3)
   have Qw:(∀ n1 n2 n3 n4 a b c pl ms,[p1,p2,p3,p4].map ak=[some n1,some n2,some n3,some n4]->(0<=n1/\0<=n2/\0<=n3/\0<=n4)->jm pr a b c pl->iY pm ms->ms.all (fun n=>decide (1<=n))=true->rising ms=true->False)->rP t:=by
     rintro z n1 n2 n3 n4 a b c pl ms ⟨q1,q2,q3,q4,qr,qm,e',h1,h2,h3,h4,h5,h6⟩
     rw [e] at e'
     cases e'
     exact z n1 n2 n3 n4 a b c pl ms h1 h2 h3 h4 h5 h6
   refine ⟨([p1,p2,p3,p4].map ak).map (fun o=>fO 0 o),aZ.of (by rw [h3,List.map_map];rfl),?_⟩
   cases c0:(([p1,p2,p3,p4].map ak).map (fun o=>fO 0 o)).all id
   . refine aQ rfl (qn (Qw fun n1 n2 n3 n4 a b c pl ms h1 h2 _ _ _ _=>?_) _ X3)
     rw [h1] at c0
     simp [fO,h2.1,h2.2.1,h2.2.2.1,h2.2.2.2] at c0
   refine aL (by decide) ?_
   obtain ⟨us,eu,pu⟩:=TN _ c0
   obtain ⟨n1,n2',n3,n4,rfl⟩:∃ n1 n2 n3 n4,us=[n1,n2,n3,n4]:=by
     have:=congrArg List.length eu
     rcases us with _ | ⟨a1,_ | ⟨a2,_ | ⟨a3,_ | ⟨a4,_ | ⟨a5,us⟩⟩⟩⟩⟩ <;> simp at this <;> first | omega | exact ⟨_,_,_,_,rfl⟩
   rcases hr' with ⟨rfl,nr⟩ | ⟨R,a,b,c,pl,rfl,ri,tR⟩
   . exact aQ rfl (qn (Qw fun n1 n2 n3 n4 a b c pl ms _ _ h3 _ _ _=>nr a b c pl h3) _ X3)
   refine aL (by simp) ?_
   rcases hm' with ⟨rfl,nm⟩ | ⟨M,ns,rfl,mi,nM,hM,lM⟩
   . exact ⟨_,1,rfl,.inl ⟨rfl,false,rfl,aQ rfl (qn (Qw fun n1 n2 n3 n4 a b c pl ms _ _ _ h4 _ _=>nm ms h4) _ X3)⟩⟩
   refine ⟨_,1,rfl,.inr ⟨M,ns,rfl,x3.at hM,lM,fun G4 x4=>⟨_,rfl,?_⟩⟩⟩
   cases c1:(ns.all (fun n=>decide (1<=n))&&rising ns)
   . refine aQ rfl (qn (Qw fun n1 n2 n3 n4 a b c pl ms _ _ _ h4 h5 h6=>?_) _ (X3.trans x4))
     obtain rfl:=h4.one mi
     rw [h5,h6] at c1
     cases c1
   rw [Bool.and_eq_true] at c1
   refine aL (by decide) ?_
   rw [e7]
   try walk_at "rn"
   intro p9 m9
   have x9:=Ext.new (K:=K) (o:=.lst [V.ref R,V.ref M]) m9
   have hN4:=(x3.trans (x4.trans x9)).at TQ
   rw [eu,Je] at hN4
   refine ⟨_,hN4,by simp,fun pA mA T mT=>?_⟩
   have xA:=Ext.new (K:=K) (o:=.lst (List.map V.int [n1,n2',n3,n4]++[V.ref R,V.ref M])) mA
   have xT:=Ext.new (K:=K) (o:=.tup (List.map V.int [n1,n2',n3,n4]++[V.ref R,V.ref M])) mT
   have y:=x3.trans (x4.trans (x9.trans (xA.trans xT)))
   exact q n1 n2' n3 n4 a b c pl ns ⟨⟨p1,p2,p3,p4,pr,pm,e,eu,⟨pu _ (by simp),pu _ (by simp),pu _ (by simp),pu _ (by simp)⟩,ri,mi,c1.1,c1.2⟩⟩ T R M _ nM (Qv.trans (x2.trans y)) ⟨aN,y.tup tR,y.at hM⟩
 have lp:∀ p∈[p1,p2,p3,p4,pr,pm],p.length < 1000000:=fun p hp=>Nat.lt_of_le_of_lt (s3 p hp) ht
 refine ⟨_,rfl,pr,rfl,Nat.le_of_lt (lp pr (by simp)),fun nr G2 x2=>?_,fun a b c pl ri R G2 nR x2 tR=>?_⟩
 . rw [e5]
   simp_arith [bC (x2.at Ef)]
   refine ⟨_,rfl,pm,rfl,Nat.le_of_lt (lp pm (by simp)),fun nm G3 x3=>last _ _ _ (x2.trans x3) (.inl ⟨rfl,nr⟩) (.inl ⟨rfl,nm⟩),fun ns mi M G3 nM x3 hM=>last _ _ _ (x2.trans x3) (.inl ⟨rfl,nr⟩) (.inr ⟨M,ns,rfl,mi,d7 (Qv.trans x2) nM,hM,?_⟩)⟩
   exact Am mi (lp pm (by simp))
 . rw [e5]
   simp_arith [bC (x2.at Ef)]
   refine ⟨_,rfl,pm,rfl,Nat.le_of_lt (lp pm (by simp)),fun nm G3 x3=>last _ _ _ (x2.trans x3) (.inr ⟨R,a,b,c,pl,rfl,ri,x3.tup tR⟩) (.inl ⟨rfl,nm⟩),fun ns mi M G3 nM x3 hM=>last _ _ _ (x2.trans x3) (.inr ⟨R,a,b,c,pl,rfl,ri,x3.tup tR⟩) (.inr ⟨M,ns,rfl,mi,d7 (Qv.trans x2) nM,hM,?_⟩)⟩
   exact Am mi (lp pm (by simp))
end
section
variable {P:Program} {w:World} {K:PySem.W.Frag} {mg:Str->Option Value} {base:Heap}
def pq:Sp:=fun vs H Q _=>∃ i:Int,vs=[.int i]/\i.natAbs < 10 ^ 100/\Q (.str (aC i)) H
def jZ (K:PySem.W.Frag):Sp:=fun vs H Q _=>∃ (p:Addr) (sep:Str) (ts:List Str) (m:Nat),vs=[.ref p,.str sep]/\aZ K H p (ts.map V.str)/\sep.length=1/\(∀ t∈ts,t.length<=m)/\ts.length * (m + 1)<=1000000/\Q (.str (bx sep ts)) H
theorem Jj {K:PySem.W.Frag} {H:Hp} {p:Addr} {xs:List V} {b:Bool} (h:aZ K H p xs) (e:xs.isEmpty=b):HY K (.ref p) H (!b):=by
 rw [<- e]
 exact .inl ⟨xs,h,rfl⟩
theorem vK:aD ["number"] ["number"] (af fX):=⟨rfl,rfl,rfl,by decide +kernel,rfl,by decide +kernel,by decide +kernel⟩
theorem vL {f:Addr} {fd:FuncData} (F:fh K "figures_of" "figures_of" fX f fd) {aG aP cF cR cN:Addr} {tE tF t1 t2 t3 t4:Tok} (B:B K mg aG aP cF cR cN tE tF t1 t2 t3 t4):bf P w K mg base eZ 1 f fd ["number"] pq:=by
 refine F.gP vK (fun vs H Q E h=>?_) (fun cG A outer s H vs Q E hr h=>?_)
 . obtain ⟨n,rfl,_⟩:=h
   rfl
 obtain ⟨n,rfl,hn,q⟩:=h
 refine ⟨_,(aK (aW (bR bw rfl B.str dh (aa (ev 0) ai)))),?_⟩
 try walk_at "rn"
 exact ⟨cM hn,q⟩
theorem yO:aD ["texts","sign"] ["texts","sign"] (af g7):=⟨rfl,rfl,rfl,by decide +kernel,rfl,by decide +kernel,by decide +kernel⟩
theorem yP {f:Addr} {fd:FuncData} (F:fh K "list_text" "list_text" g7 f fd) {aG aP cF cR cN:Addr} {tE tF t1 t2 t3 t4:Tok} (B:B K mg aG aP cF cR cN tE tF t1 t2 t3 t4):bf P w K mg base eZ 1 f fd ["texts","sign"] (jZ K):=by
 refine F.gP yO (fun vs H Q E h=>?_) (fun cG A outer s H vs Q E hr h=>?_)
 . obtain ⟨p,sep,ts,m,rfl,_⟩:=h
   rfl
 obtain ⟨p,sep,ts,m,rfl,hs,h1,hm,hz,q⟩:=h
 refine ⟨_,(aK (aW (Hv (Lb (ev 0) (fun _=>rfl)) (lA PySem.F.plainAttrs_str PySem.F.slot_str_join PySem.F.type_str_join fj (ev 1) (aa (ev 0) ai)) aS))),?_⟩
 try walk_at "rn"
 have l1:=eX (sep:=sep) ts hm
 have l2:=join_le (sep:=sep) ts hm
 rw [h1] at l1 l2
 have nl:(ts.map V.str).isEmpty=decide (ts=[]):=by cases ts <;> rfl
 refine ⟨!decide (ts=[]),Jj hs nl,gO (fun c=>?_) (fun c=>?_)⟩
 . have ne:ts≠[]:=fun e=>by rw [e] at c;cases c
   refine ⟨ts,hs,by omega,by omega,?_⟩
   unfold bx at q
   rw [if_neg ne] at q
   exact q
 . have e:ts=[]:=by
     by_cases e:ts=[]
     . exact e
     . rw [decide_eq_false e] at c
       exact absurd rfl c
   unfold bx at q
   rw [if_pos e] at q
   exact q
def lR (K:PySem.W.Frag):Sp:=fun vs H Q _=>∃ (p:Addr) (ns:List Int),vs=[.ref p]/\H p=some (.lst (ns.map V.int))/\(∀ i∈ns,i.natAbs < 10 ^ 100)/\ns.length<=1000/\∀ H',Ext K H H'->Q (.str (bx (Str.ofString ",") (ns.map aC))) H'
theorem sS:aD ["numbers"] ["numbers"] (af eN):=⟨rfl,rfl,rfl,by decide +kernel,rfl,by decide +kernel,by decide +kernel⟩
theorem sU {f:Addr} {fd:FuncData} (F:fh K "numbers_text" "numbers_text" eN f fd) {aG aP cF cR cN:Addr} {tE tF t1 t2 t3 t4:Tok} (B:B K mg aG aP cF cR cN tE tF t1 t2 t3 t4) (ay:Callee P w K mg base "figures_of" 1 ["number"] pq) (bM:Callee P w K mg base "list_text" 1 ["texts","sign"] (jZ K)):bf P w K mg base eZ 2 f fd ["numbers"] (lR K):=by
 refine F.gP sS (fun vs H Q E h=>?_) (fun cG A outer s H vs Q E hr h=>?_)
 . obtain ⟨p,ns,rfl,_⟩:=h
   rfl
 obtain ⟨p,ns,rfl,hs,hn,hz,q⟩:=h
 refine ⟨_,(aK (aW (au bM (hr.mono (by decide)) rfl (aa (rz (jO.mk (N:=["number"]) (src:=[none]) rfl rfl) rfl (cI (ev 0)) (fun _ _ _ _=>(aA (i:=0) (show (["number"]:List Str).Nodup from by decide +kernel) rfl (Or.inl rfl))) (fun _ _ _ _=>cU) (fun _ _ _ _=>(au ay (hr.mono (by decide)) rfl (aa (ev 0) ai)))) (aa aS ai))))),?_⟩
 try walk_at "rn"
 refine ⟨⟨_,aZ.of hs⟩,fun D nD=>?_⟩
 refine oB (f:=V.int) (g:=fun i=>V.str (aC i)) hs nD hz (fun i hi H' Q' xx qq=>?_) (fun H1 hD x1=>?_)
 . try walk_at "rn"
   exact ⟨i,rfl,hn i hi,qq⟩
 have e:(ns.map fun i=>V.str (aC i))=(ns.map aC).map V.str:=by rw [List.map_map];rfl
 rw [e] at hD
 refine ⟨D,_,ns.map aC,101,rfl,aZ.of hD,by decide +kernel,?_,by rw [List.length_map];omega,q _ x1⟩
 intro t ht
 obtain ⟨i,hi,rfl⟩:=List.mem_map.1 ht
 exact aE (hn i hi)
def GC (K:PySem.W.Frag):Sp:=fun vs H Q _=>∃ u p,vs=[u]/\lG K H u p/\rV p/\Q (.str (iR p)) H
theorem jC:aD ["version","number","value"] ["version"] (af eO):=⟨rfl,rfl,rfl,by decide +kernel,rfl,by decide +kernel,by decide +kernel⟩
theorem sV {f:Addr} {fd:FuncData} (F:fh K "version_text" "version_text" eO f fd) {aG aP cF cR cN:Addr} {tE tF t1 t2 t3 t4:Tok} (B:B K mg aG aP cF cR cN tE tF t1 t2 t3 t4) (ay:Callee P w K mg base "figures_of" 1 ["number"] pq):bf P w K mg base eZ 2 f fd ["version"] (GC K):=by
 refine F.gP jC (fun vs H Q E h=>?_) (fun cG A outer s H vs Q E hr h=>?_)
 . obtain ⟨u,p,rfl,_⟩:=h
   rfl
 obtain ⟨u,p,rfl,⟨t,rfl,ht⟩,ok,q⟩:=h
 refine ⟨_,(av (i9 (ev 0) (fM (n:=2) rfl (aH (aA (i:=1) jC.nd rfl (Or.inl rfl)) (aH (aA (i:=2) jC.nd rfl (Or.inl rfl)) gA))))
     (aK (aW (cT aF (cT aF (au ay (hr.mono (by decide)) rfl (aa (ev 1) ai)) aS) (Hv (cj m8 (ev 2) i8 (aI _)) aS (au ay (hr.mono (by decide)) rfl (aa (ev 2) ai))))))),?_⟩
 simp_arith [ht]
 have h1:=aE ok.1
 have h2:=uH ok.2
 have h3:(Str.ofString ":").length=1:=by decide +kernel
 refine ⟨_,rfl,ok.1,_,rfl,by omega,?_⟩
 obtain ⟨n,o⟩:=p
 cases o with
 | none=>
   have h4:(Str.ofString "x").length=1:=by decide +kernel
   refine gO (fun _=>⟨?_,q⟩) (fun c=>absurd rfl c)
   rw [Str.length_append]
   omega
 | some i=>
   refine gO (fun c=>by cases c) (fun _=>⟨i,rfl,ok.2 i rfl,_,rfl,?_,q⟩)
   have h4:=aE (ok.2 i rfl)
   rw [Str.length_append]
   omega
def GD (K:PySem.W.Frag):Sp:=fun vs H Q _=>∃ u r,vs=[u]/\qA K H u r/\wB r/\∀ H',Ext K H H'->Q (.str (gQ r.k (r.vs.map (·.2)))) H'
theorem nV:aD ["row","key","versions"] ["row"] (af jh):=⟨rfl,rfl,rfl,by decide +kernel,rfl,by decide +kernel,by decide +kernel⟩
theorem Ao {f:Addr} {fd:FuncData} (F:fh K "row_text" "row_text" jh f fd) {aG aP cF cR cN:Addr} {tE tF t1 t2 t3 t4:Tok} (B:B K mg aG aP cF cR cN tE tF t1 t2 t3 t4) (ay:Callee P w K mg base "figures_of" 1 ["number"] pq) (bM:Callee P w K mg base "list_text" 1 ["texts","sign"] (jZ K)) (iZ:Callee P w K mg base "version_text" 2 ["version"] (GC K)):bf P w K mg base eZ 3 f fd ["row"] (GD K):=by
 refine F.gP nV (fun vs H Q E h=>?_) (fun cG A outer s H vs Q E hr h=>?_)
 . obtain ⟨u,r,rfl,_⟩:=h
   rfl
 obtain ⟨u,r,rfl,⟨t,rfl,ht,ha,hv⟩,ok,q⟩:=h
 refine ⟨_,(av (i9 (ev 0) (fM (n:=2) rfl (aH (aA (i:=1) nV.nd rfl (Or.inl rfl)) (aH (aA (i:=2) nV.nd rfl (Or.inl rfl)) gA))))
     (aK (aW (cT aF (cT aF (au ay (hr.mono (by decide)) rfl (aa (ev 1) ai)) aS) (au bM (hr.mono (by decide)) rfl (aa (rz (jO.mk (N:=["version"]) (src:=[none]) rfl rfl) rfl (cI (ev 2)) (fun _ _ _ _=>(aA (i:=0) (show (["version"]:List Str).Nodup from by decide +kernel) rfl (Or.inl rfl))) (fun _ _ _ _=>cU) (fun _ _ _ _=>(au iZ (hr.mono (by decide)) rfl (aa (ev 0) ai)))) (aa aS ai))))))),?_⟩
 simp_arith [ht]
 have h1:=aE ok.1
 have h3:(Str.ofString "=").length=1:=by decide +kernel
 refine ⟨_,rfl,ok.1,_,rfl,by omega,⟨_,aZ.of ha⟩,fun D nD=>?_⟩
 refine oB (L:=r.vs) (f:=fun q=>q.1) (g:=fun q=>V.str (iR q.2)) ha nD (Nat.le_trans ok.2.2 (by decide)) (fun q0 hq H' Q' xx qq=>?_) (fun H1 hD x1=>?_)
 . try walk_at "rn"
   obtain ⟨t,e,h⟩:=hv q0 hq
   exact ⟨_,q0.2,rfl,⟨t,e,xx.tup h⟩,ok.2.1 q0 hq,qq⟩
 have e:(r.vs.map fun q=>V.str (iR q.2))=((r.vs.map (·.2)).map iR).map V.str:=by rw [List.map_map,List.map_map];rfl
 rw [e] at hD
 have hl:∀ t∈(r.vs.map (·.2)).map iR,t.length<=203:=by
   intro t ht
   obtain ⟨p,hp,rfl⟩:=List.mem_map.1 ht
   obtain ⟨q0,hq,rfl⟩:=List.mem_map.1 hp
   exact uI (ok.2.1 q0 hq)
 have h4:=eY (sep:=Str.ofString ",") _ hl
 have h5:(Str.ofString ",").length=1:=by decide +kernel
 have h6:=ok.2.2
 rw [List.length_map,List.length_map,h5] at h4
 refine ⟨D,_,_,203,rfl,aZ.of hD,h5,hl,by rw [List.length_map,List.length_map];omega,_,rfl,by rw [Str.length_append];omega,q _ x1⟩
def BG (K:PySem.W.Frag):Sp:=fun vs H Q _=>∃ u h,vs=[u]/\FZ K H u h/\h.ok/\Q (.str h.t) H
theorem mJ:aD ["half","word","number"] ["half"] (af g8):=⟨rfl,rfl,rfl,by decide +kernel,rfl,by decide +kernel,by decide +kernel⟩
theorem yQ {f:Addr} {fd:FuncData} (F:fh K "half_text" "half_text" g8 f fd) {aG aP cF cR cN:Addr} {tE tF t1 t2 t3 t4:Tok} (B:B K mg aG aP cF cR cN tE tF t1 t2 t3 t4) (ay:Callee P w K mg base "figures_of" 1 ["number"] pq):bf P w K mg base eZ 2 f fd ["half"] (BG K):=by
 refine F.Qe mJ (fun vs H Q E h=>?_) (fun cG A outer s H vs Q E hr hm h=>?_)
 . obtain ⟨u,h,rfl,_⟩:=h
   rfl
 obtain ⟨u,h,rfl,⟨t,rfl,ht⟩,ok,q⟩:=h
 refine ⟨_,(av (jD (cj (AY hr.units) (ev 0) (jt rfl B.Ls B.xQ) (aI _)) (aK (aW aS)) cY)
     (av (i9 (ev 0) (fM (n:=2) rfl (aH (aA (i:=1) mJ.nd rfl (Or.inl rfl)) (aH (aA (i:=2) mJ.nd rfl (Or.inl rfl)) gA))))
     (aK (aW (cT aF (Hv (cj cS (ev 1) aS (aI _)) aS aS) (au ay (hr.mono (by decide)) rfl (aa (ev 2) ai))))))),?_⟩
 try walk_at "rn"
 refine ⟨h.hd,bJ.Cw ht,bJ.gone.hd,bJ.Cw (h:=.gone) (hm.tup B.kG),h.shaped,bJ.shaped .gone,?_⟩
 rw [bJ.zX]
 cases h with
 | plus n=>
   have h1:=aE (i:=n) ok
   have h3:(Str.ofString "+").length=1:=by decide +kernel
   simp_arith [ht,bJ.v]
   exact ⟨n,rfl,ok,_,rfl,by omega,q⟩
 | is n=>
   have h1:=aE (i:=n) ok
   have h3:(Str.ofString "=").length=1:=by decide +kernel
   simp_arith [ht,bJ.v,s3]
   exact ⟨n,rfl,ok,_,rfl,by omega,q⟩
 | gone=>
   try walk_at "rn"
   exact q
def BH (K:PySem.W.Frag):Sp:=fun vs H Q _=>∃ u e,vs=[u]/\mC K H u e/\e.ok/\∀ H',Ext K H H'->Q (.str e.x) H'
theorem gq:aD ["note","number","low","high","there","none"] ["note"] (af g9):=⟨rfl,rfl,rfl,by decide +kernel,rfl,by decide +kernel,by decide +kernel⟩
theorem yR {f:Addr} {fd:FuncData} (F:fh K "note_text" "note_text" g9 f fd) {aG aP cF cR cN:Addr} {tE tF t1 t2 t3 t4:Tok} (B:B K mg aG aP cF cR cN tE tF t1 t2 t3 t4) (ay:Callee P w K mg base "figures_of" 1 ["number"] pq) (jx:Callee P w K mg base "half_text" 2 ["half"] (BG K)):bf P w K mg base eZ 3 f fd ["note"] (BH K):=by
 refine F.gP gq (fun vs H Q E h=>?_) (fun cG A outer s H vs Q E hr h=>?_)
 . obtain ⟨u,e,rfl,_⟩:=h
   rfl
 obtain ⟨u,e,rfl,⟨a,w,r,s',rfl,h1,h2,h3,h4⟩,ok,q⟩:=h
 refine ⟨_,(av (i9 (ev 0) (fM (n:=4) rfl (aH (aA (i:=1) gq.nd rfl (Or.inl rfl)) (aH (aA (i:=2) gq.nd rfl (Or.inl rfl)) (aH (aA (i:=3) gq.nd rfl (Or.inl rfl)) (aH (fM (n:=2) rfl (aH (aA (i:=4) gq.nd rfl (Or.inl rfl)) (aH (aA (i:=5) gq.nd rfl (Or.inl rfl)) gA))) gA))))))
     (aK (aW (lA PySem.F.plainAttrs_str PySem.F.slot_str_join PySem.F.type_str_join fj aS (aa (bO (aa (au ay (hr.mono (by decide)) rfl (aa (ev 1) ai)) (aa (au ay (hr.mono (by decide)) rfl (aa (ev 2) ai)) (aa (au ay (hr.mono (by decide)) rfl (aa (ev 3) ai)) (aa (au jx (hr.mono (by decide)) rfl (aa (ev 4) ai)) (aa (au jx (hr.mono (by decide)) rfl (aa (ev 5) ai)) ai)))))) ai))))),?_⟩
 simp_arith [h1,h2]
 refine ⟨_,rfl,ok.1,_,rfl,ok.2.1,_,rfl,ok.2.2.1,_,_,rfl,⟨r,rfl,h3⟩,ok.2.2.2.1,_,_,rfl,⟨s',rfl,h4⟩,ok.2.2.2.2,fun p np=>?_⟩
 have l1:=eX (sep:=Str.ofString ".") _ (Nt.le ok)
 have l2:=join_le (sep:=Str.ofString ".") _ (Nt.le ok)
 have h5:(Str.ofString ".").length=1:=by decide +kernel
 rw [h5] at l1 l2
 simp only [List.length_cons,List.length_nil] at l1 l2
 exact ⟨[aC e.n,aC e.lo,aC e.hi,e.t.t,e.m.t],aZ.of ah,by omega,by omega,q _ (Ext.new np)⟩
def BI (K:PySem.W.Frag):Sp:=fun vs H Q _=>∃ (a d:Addr) (r:Rm) (pl:Int->Int),vs=[.ref a,.ref d]/\r.at K H a/\Lv H d pl r.ch/\r.ok pl/\∀ H',Ext K H H'->Q (.str (r.x pl)) H'
theorem bW:aD ["room","places","word","number","rows","pivots","children","tray","spots","notes"] ["room","places"] (af ia):=⟨rfl,rfl,rfl,by decide +kernel,rfl,by decide +kernel,by decide +kernel⟩
theorem yS {f:Addr} {fd:FuncData} (F:fh K "room_text" "room_text" ia f fd) {aG aP cF cR cN:Addr} {tE tF t1 t2 t3 t4:Tok} (B:B K mg aG aP cF cR cN tE tF t1 t2 t3 t4) (ay:Callee P w K mg base "figures_of" 1 ["number"] pq) (bM:Callee P w K mg base "list_text" 1 ["texts","sign"] (jZ K)) (mK:Callee P w K mg base "row_text" 3 ["row"] (GD K)) (kJ:Callee P w K mg base "note_text" 3 ["note"] (BH K)) (bQ:Callee P w K mg base "numbers_text" 2 ["numbers"] (lR K)):bf P w K mg base eZ 4 f fd ["room","places"] (BI K):=by
 refine F.gP bW (fun vs H Q E h=>?_) (fun cG A outer s H vs Q E hr h=>?_)
 . obtain ⟨a,d,r,pl,rfl,_⟩:=h
   rfl
 obtain ⟨a,d,r,pl,rfl,hr',hp,ok,q⟩:=h
 refine ⟨_,(av (jD (cj cS (iJ ck (ev 0) ei (fun _ _=>rfl)) aS (aI _)) (av (i9 (ev 0) (fM (n:=3) rfl (aH (aA (i:=2) bW.nd rfl (Or.inl rfl)) (aH (aA (i:=3) bW.nd rfl (Or.inl rfl)) (aH (aA (i:=4) bW.nd rfl (Or.inl rfl)) gA)))))
     (aK (aW (lA PySem.F.plainAttrs_str PySem.F.slot_str_join PySem.F.type_str_join fj aS (aa (bO (aa (ev 2) (aa (au ay (hr.mono (by decide)) rfl (aa (ev 3) ai)) (aa (au bM (hr.mono (by decide)) rfl (aa (rz (jO.mk (N:=["row"]) (src:=[none]) rfl rfl) rfl (cI (ev 4)) (fun _ _ _ _=>(aA (i:=0) (show (["row"]:List Str).Nodup from by decide +kernel) rfl (Or.inl rfl))) (fun _ _ _ _=>cU) (fun _ _ _ _=>(au mK (hr.mono (by decide)) rfl (aa (ev 0) ai)))) (aa aS ai))) ai)))) ai))))) cY)
     (av (i9 (ev 0) (fM (n:=5) rfl (aH (aA (i:=2) bW.nd rfl (Or.inl rfl)) (aH (aA (i:=3) bW.nd rfl (Or.inl rfl)) (aH (aA (i:=5) bW.nd rfl (Or.inl rfl)) (aH (aA (i:=6) bW.nd rfl (Or.inl rfl)) (aH (aA (i:=7) bW.nd rfl (Or.inl rfl)) gA)))))))
     (av (sset (i:=8) bW.nd rfl (Or.inl rfl) (au bM (hr.mono (by decide)) rfl (aa (rz (jO.mk (N:=["child","places"]) (src:=[none,some 1]) rfl rfl) rfl (cI (ev 6)) (fun _ _ _ _=>(aA (i:=0) (show (["child","places"]:List Str).Nodup from by decide +kernel) rfl (Or.inl rfl))) (fun _ _ _ _=>cU) (fun _ _ _ _=>(cT aF (cT aF (au ay (hr.mono (by decide)) rfl (aa (ev 0) ai)) aS) (au ay (hr.mono (by decide)) rfl (aa (Fo hr.units (ev 1) (ev 0) (fun _ _=>rfl)) ai))))) (aa aS ai))))
     (av (sset (i:=9) bW.nd rfl (Or.inl rfl) (au bM (hr.mono (by decide)) rfl (aa (rz (jO.mk (N:=["note"]) (src:=[none]) rfl rfl) rfl (cI (ev 7)) (fun _ _ _ _=>(aA (i:=0) (show (["note"]:List Str).Nodup from by decide +kernel) rfl (Or.inl rfl))) (fun _ _ _ _=>cU) (fun _ _ _ _=>(au kJ (hr.mono (by decide)) rfl (aa (ev 0) ai)))) (aa aS ai))))
     (aK (aW (lA PySem.F.plainAttrs_str PySem.F.slot_str_join PySem.F.type_str_join fj aS (aa (bO (aa (ev 2) (aa (au ay (hr.mono (by decide)) rfl (aa (ev 3) ai)) (aa (au bQ (hr.mono (by decide)) rfl (aa (ev 5) ai)) (aa (ev 8) (aa (ev 9) ai)))))) ai)))))))),?_⟩
 cases r with
 | leaf n ra rows=>
   obtain ⟨h1,h2,h3⟩:=hr'
   simp_arith [br h1,h1]
   have ok1:=aE ok.1
   refine ⟨_,rfl,ok.1,⟨_,aZ.of h2⟩,fun D nD=>?_⟩
   refine tO (L:=rows) (f:=fun q=>q.1) (g:=fun q=>V.str (gQ q.2.k (q.2.vs.map (·.2)))) h2 nD (Nat.le_trans ok.2.2 (by decide)) (fun q0 hq H' Q' xx qq=>?_) (fun H1 hD x1=>?_)
   . try walk_at "rn"
     exact ⟨_,q0.2,rfl,(h3 q0 hq).ext xx,ok.2.1 q0 hq,qq⟩
   have e:(rows.map fun q=>V.str (gQ q.2.k (q.2.vs.map (·.2))))=(rows.map fun q=>gQ q.2.k (q.2.vs.map (·.2))).map V.str:=by rw [List.map_map];rfl
   rw [e] at hD
   have hl:∀ t∈rows.map fun q=>gQ q.2.k (q.2.vs.map (·.2)),t.length<=9000:=by
     intro t ht
     obtain ⟨q0,hq,rfl⟩:=List.mem_map.1 ht
     exact Nat.le_trans (uJ (ok.2.1 q0 hq)) (by decide)
   have l4:=eY (sep:=Str.ofString ";") _ hl
   have l5:(Str.ofString ";").length=1:=by decide +kernel
   have l6:=ok.2.2
   rw [List.length_map,l5] at l4
   refine ⟨D,_,_,9000,rfl,aZ.of hD,l5,hl,by rw [List.length_map];omega,fun p np=>?_⟩
   have hw:∀ t∈[Str.ofString "leaf",aC n,bx (Str.ofString ";") (rows.map fun q=>gQ q.2.k (q.2.vs.map (·.2)))],t.length<=600000:=by
     intro t ht
     simp only [List.mem_cons,List.not_mem_nil,or_false] at ht
     rcases ht with rfl | rfl | rfl
     . decide +kernel
     . omega
     . omega
   have m1:=eX (sep:=Str.ofString " ") _ hw
   have m2:=join_le (sep:=Str.ofString " ") _ hw
   have m3:(Str.ofString " ").length=1:=oz
   rw [m3] at m1 m2
   simp only [List.length_cons,List.length_nil] at m1 m2
   exact ⟨[_,_,_],aZ.of ah,by omega,by omega,q _ (x1.trans (Ext.new np))⟩
 | inner n pa lq ca ch ta dB=>
   obtain ⟨h1,h2,h3,h4,h5⟩:=hr'
   simp_arith [br h1,h1,s5]
   obtain ⟨okn,okp,lp,okc,lc,okt,lt⟩:=ok
   obtain ⟨aO,hd,hk⟩:=hp
   have ok1:=aE okn
   refine ⟨⟨_,aZ.of h3⟩,fun D nD=>?_⟩
   have c1:(Str.ofString ",").length=1:=by decide +kernel
   have c2:(Str.ofString ";").length=1:=by decide +kernel
   have c3:(Str.ofString "@").length=1:=by decide +kernel
   have m3:(Str.ofString " ").length=1:=oz
   refine oB (L:=ch) (f:=V.int) (g:=fun c=>V.str (dY pl c)) h3 nD (by omega) (fun c hc H' Q' xx qq=>?_) (fun H1 hD x1=>?_)
   . have n1:=aE (okc c hc).1
     have n2:=aE (okc c hc).2
     try walk_at "rn"
     refine ⟨c,rfl,(okc c hc).1,_,rfl,by omega,.int (pl c),?_,_,rfl,(okc c hc).2,_,rfl,by rw [Str.length_append];omega,qq⟩
     rw [<- hk c hc]
     exact vq.k (k:=.inl c) (xx.at hd)
   have e:(ch.map fun c=>V.str (dY pl c))=(ch.map (dY pl)).map V.str:=by rw [List.map_map];rfl
   rw [e] at hD
   have IQ:∀ t∈ch.map (dY pl),t.length<=203:=by
     intro t ht
     obtain ⟨c,hc,rfl⟩:=List.mem_map.1 ht
     have n1:=aE (okc c hc).1
     have n2:=aE (okc c hc).2
     unfold dY
     rw [Str.length_append,Str.length_append]
     omega
   have l1:=eY (sep:=Str.ofString ",") _ IQ
   rw [List.length_map,c1] at l1
   refine ⟨D,_,_,203,rfl,aZ.of hD,c1,IQ,by rw [List.length_map];omega,⟨_,aZ.of (x1.at h4)⟩,fun D2 nD2=>?_⟩
   refine tO (L:=dB) (f:=fun q=>q.1) (g:=fun q=>V.str q.2.x) (x1.at h4) nD2 (by omega) (fun q0 hq H' Q' xx qq=>?_) (fun H2 rY x2=>?_)
   . try walk_at "rn"
     exact ⟨_,q0.2,rfl,(h5 q0 hq).ext (x1.trans xx),okt q0 hq,qq⟩
   have e:(dB.map fun q=>V.str q.2.x)=(dB.map fun q=>q.2.x).map V.str:=by rw [List.map_map];rfl
   rw [e] at rY
   have K1:∀ t∈dB.map fun q=>q.2.x,t.length<=600:=by
     intro t ht
     obtain ⟨q0,hq,rfl⟩:=List.mem_map.1 ht
     exact Nt.len (okt q0 hq)
   have l2:=eY (sep:=Str.ofString ";") _ K1
   rw [List.length_map,c2] at l2
   have Qq:∀ t∈lq.map aC,t.length<=101:=by
     intro t ht
     obtain ⟨i,hi,rfl⟩:=List.mem_map.1 ht
     exact aE (okp i hi)
   have l3:=eY (sep:=Str.ofString ",") _ Qq
   rw [List.length_map,c1] at l3
   refine ⟨D2,_,_,600,rfl,aZ.of rY,c2,K1,by rw [List.length_map];omega,n,rfl,okn,pa,lq,rfl,(x1.trans x2).at h2,okp,by omega,fun H3 x3 p np=>?_⟩
   have hw:∀ t∈[Str.ofString "inner",aC n,bx (Str.ofString ",") (lq.map aC),bx (Str.ofString ",") (ch.map (dY pl)),bx (Str.ofString ";") (dB.map fun q=>q.2.x)],t.length<=600000:=by
     intro t ht
     simp only [List.mem_cons,List.not_mem_nil,or_false] at ht
     rcases ht with rfl | rfl | rfl | rfl | rfl
     . decide +kernel
     . omega
     . omega
     . omega
     . omega
   have m1:=eX (sep:=Str.ofString " ") _ hw
   have m2:=join_le (sep:=Str.ofString " ") _ hw
   rw [m3] at m1 m2
   simp only [List.length_cons,List.length_nil] at m1 m2
   exact ⟨[_,_,_,_,_],aZ.of ah,by omega,by omega,q _ (x1.trans (x2.trans (x3.trans (Ext.new np))))⟩
def cE (ns:List Int):Prop:=∀ i∈ns,i.natAbs < 10 ^ 60
def kK (ns:List Int):Str:=bx (Str.ofString ",") (ns.map aC)
def lT (a b c:Int) (pl:Str):Str:=Str.join (Str.ofString ",") [aC a,aC b,aC c,pl]
def sj (n1 n2 n3 n4 a b c:Int) (pl:Str) (ms:List Int):Str:=Str.join (Str.ofString " ") [Str.ofString "head",aC n1,aC n2,aC n3,aC n4,lT a b c pl,kK ms]
theorem mZ {i:Int} (h:i.natAbs < 10 ^ 60):i.natAbs < 10 ^ 100:=Nat.lt_trans h (by decide)
theorem wH {a b c:Int} {pl:Str} (h:cE [a,b,c]) (hp:pl.length<=101):(lT a b c pl).length<=408:=by
 have l0:∀ t∈[aC a,aC b,aC c,pl],t.length<=101:=by
   intro t ht
   simp only [List.mem_cons,List.not_mem_nil,or_false] at ht
   rcases ht with rfl | rfl | rfl | rfl
   . exact aE (mZ (h a (by simp)))
   . exact aE (mZ (h b (by simp)))
   . exact aE (mZ (h c (by simp)))
   . exact hp
 have l2:=join_le (sep:=Str.ofString ",") _ l0
 rw [show (Str.ofString ",").length=1 from by decide +kernel] at l2
 simp only [List.length_cons,List.length_nil] at l2
 unfold lT
 omega
theorem D7 {ms:List Int} (h:cE ms):(kK ms).length<=ms.length * 102 + 1:=by
 unfold kK bx
 split
 . have:(Str.ofString "-").length=1:=by decide +kernel
   omega
 . have l2:=join_le (sep:=Str.ofString ",") (m:=101) (ms.map aC) (fun t ht=>by
     obtain ⟨i,hi,rfl⟩:=List.mem_map.mp ht
     exact aE (mZ (h i hi)))
   rw [show (Str.ofString ",").length=1 from by decide +kernel,List.length_map] at l2
   omega
theorem oR {n1 n2 n3 n4 a b c:Int} {pl:Str} {ms:List Int} (h1:cE [n1,n2,n3,n4]) (h2:cE [a,b,c]) (hp:pl.length<=101) (h3:cE ms):
   pO (Str.ofString " ") [Str.ofString "head",aC n1,aC n2,aC n3,aC n4,lT a b c pl,kK ms]<=ms.length * 102 + 900/\(sj n1 n2 n3 n4 a b c pl ms).length<=ms.length * 102 + 900:=by
 have q1:=aE (mZ (h1 n1 (by simp)))
 have q2:=aE (mZ (h1 n2 (by simp)))
 have q3:=aE (mZ (h1 n3 (by simp)))
 have q4:=aE (mZ (h1 n4 (by simp)))
 have q5:=wH h2 hp
 have q6:=D7 h3
 have l1:(Str.ofString " ").length=1:=by decide +kernel
 have l4:(Str.ofString "head").length=4:=by decide +kernel
 constructor
 . simp only [pO,List.foldl_cons,List.foldl_nil]
   omega
 . have e:sj n1 n2 n3 n4 a b c pl ms=Str.ofString "head"++Str.ofString " "++(aC n1++Str.ofString " "++(aC n2++Str.ofString " "++(aC n3++Str.ofString " "++(aC n4++Str.ofString " "++(lT a b c pl++Str.ofString " "++kK ms))))):=rfl
   rw [e]
   simp only [Str.length_append]
   omega
def N9 (K:PySem.W.Frag):Sp:=fun vs H Q _=>∃ D ns,vs=[.ref D]/\H D=some (.lst (List.map V.int ns))/\ns.length<=1000/\cE ns/\∀ H',Ext K H H'->Q (.str (kK ns)) H'
theorem BJ {vs:List V} {H:Hp} {Q:VK} {E:XK} (h:N9 K vs H Q E):lR K vs H Q E:=by
 obtain ⟨D,ns,rfl,h1,h2,h3,q⟩:=h
 exact ⟨D,ns,rfl,h1,fun i hi=>mZ (h3 i hi),h2,q⟩
def LL (K:PySem.W.Frag):Sp:=fun vs H Q _=>∃ T a b c pl,vs=[.ref T]/\tupQ K H T=some [.int a,.int b,.int c,.str pl]/\cE [a,b,c]/\pl.length<=101/\∀ H',Ext K H H'->Q (.str (lT a b c pl)) H'
theorem i6:aD ["rule","tray","fan","rows","plan"] ["rule"] (af ic):=⟨rfl,rfl,rfl,by decide +kernel,rfl,by decide +kernel,by decide +kernel⟩
theorem yU {f:Addr} {fd:FuncData} (F:fh K "rule_text" "rule_text" ic f fd) {aG aP cF cR cN:Addr} {tE tF t1 t2 t3 t4:Tok} (B:B K mg aG aP cF cR cN tE tF t1 t2 t3 t4) (ay:Callee P w K mg base "figures_of" 1 ["number"] pq):bf P w K mg base eZ 2 f fd ["rule"] (LL K):=by
 refine F.gP i6 (fun vs H Q E h=>?_) (fun cG A outer s H vs Q E hr h=>?_)
 . obtain ⟨T,a,b,c,pl,rfl,_⟩:=h
   rfl
 obtain ⟨T,a,b,c,pl,rfl,hT,hs,hp,q⟩:=h
 refine ⟨_,(av (i9 (ev 0) (fM (n:=4) rfl (aH (aA (i:=1) i6.nd rfl (Or.inl rfl)) (aH (aA (i:=2) i6.nd rfl (Or.inl rfl)) (aH (aA (i:=3) i6.nd rfl (Or.inl rfl)) (aH (aA (i:=4) i6.nd rfl (Or.inl rfl)) gA))))))
     (aK (aW (lA PySem.F.plainAttrs_str PySem.F.slot_str_join PySem.F.type_str_join fj aS (aa (bO (aa (au ay (hr.mono (by decide)) rfl (aa (ev 1) ai)) (aa (au ay (hr.mono (by decide)) rfl (aa (ev 2) ai)) (aa (au ay (hr.mono (by decide)) rfl (aa (ev 3) ai)) (aa (ev 4) ai))))) ai))))),?_⟩
 try walk_at "rn"
 have ha:=mZ (hs a (by simp))
 have hb:=mZ (hs b (by simp))
 have hc:=mZ (hs c (by simp))
 refine ⟨_,hT,rfl,_,_,rfl,_,_,rfl,_,_,rfl,_,_,rfl,rfl,a,rfl,ha,b,rfl,hb,c,rfl,hc,fun p np=>⟨[aC a,aC b,aC c,pl],aZ.of ah,?_,?_,q _ (Ext.new np)⟩⟩
 all_goals
   have l0:∀ t∈[aC a,aC b,aC c,pl],t.length<=101:=by
     intro t ht
     simp only [List.mem_cons,List.not_mem_nil,or_false] at ht
     rcases ht with rfl | rfl | rfl | rfl
     . exact aE ha
     . exact aE hb
     . exact aE hc
     . exact hp
   have l1:=eX (sep:=Str.ofString ",") _ l0
   have l2:=join_le (sep:=Str.ofString ",") _ l0
   rw [show (Str.ofString ",").length=1 from by decide +kernel] at l1 l2
   simp only [List.length_cons,List.length_nil] at l1 l2
   omega
def LM (K:PySem.W.Frag):Sp:=fun vs H Q _=>∃ T n1 n2 n3 n4 R a b c pl M ms,vs=[.ref T]/\tupQ K H T=some [.int n1,.int n2,.int n3,.int n4,.ref R,.ref M]/\tupQ K H R=some [.int a,.int b,.int c,.str pl]/\H M=some (.lst (List.map V.int ms))/\
 cE [n1,n2,n3,n4]/\cE [a,b,c]/\pl.length<=101/\cE ms/\ms.length<=1000/\∀ H',Ext K H H'->Q (.str (sj n1 n2 n3 n4 a b c pl ms)) H'
theorem dR:aD ["head","series","last","fresh","place","rule","marks","numbers"] ["head"] (af ie):=⟨rfl,rfl,rfl,by decide +kernel,rfl,by decide +kernel,by decide +kernel⟩
theorem yV {f:Addr} {fd:FuncData} (F:fh K "head_text" "head_text" ie f fd) {aG aP cF cR cN:Addr} {tE tF t1 t2 t3 t4:Tok} (B:B K mg aG aP cF cR cN tE tF t1 t2 t3 t4) (ay:Callee P w K mg base "figures_of" 1 ["number"] pq) (kL:Callee P w K mg base "rule_text" 2 ["rule"] (LL K)) (bQ:Callee P w K mg base "numbers_text" 2 ["numbers"] (lR K)):bf P w K mg base eZ 3 f fd ["head"] (LM K):=by
 have bQ:=bQ.imp (C7:=N9 K) fun _ _ _ _=>BJ
 refine F.gP dR (fun vs H Q E h=>?_) (fun cG A outer s H vs Q E hr h=>?_)
 . obtain ⟨T,n1,n2,n3,n4,R,a,b,c,pl,M,ms,rfl,_⟩:=h
   rfl
 obtain ⟨T,n1,n2,n3,n4,R,a,b,c,pl,M,ms,rfl,hT,hR,hM,h1,h2,hp,h3,hl,q⟩:=h
 refine ⟨_,(av (i9 (ev 0) (fM (n:=6) rfl (aH (aA (i:=1) dR.nd rfl (Or.inl rfl)) (aH (aA (i:=2) dR.nd rfl (Or.inl rfl)) (aH (aA (i:=3) dR.nd rfl (Or.inl rfl)) (aH (aA (i:=4) dR.nd rfl (Or.inl rfl)) (aH (aA (i:=5) dR.nd rfl (Or.inl rfl)) (aH (aA (i:=6) dR.nd rfl (Or.inl rfl)) gA))))))))
     (av (Mn (i:=7) dR.nd rfl (Or.inl rfl) (jO.mk (N:=["number"]) (src:=[none]) rfl rfl) rfl (Nk (dN (aa (ev 1) (aa (ev 2) (aa (ev 3) (aa (ev 4) ai)))))) (fun _ _ _ _=>(aA (i:=0) (show (["number"]:List Str).Nodup from by decide +kernel) rfl (Or.inl rfl))) (fun _ _ _ _=>cU) (fun _ _ _ _=>(au ay (hr.mono (by decide)) rfl (aa (ev 0) ai))))
     (aK (aW (lA PySem.F.plainAttrs_str PySem.F.slot_str_join PySem.F.type_str_join fj aS (aa (cT fU (cT fU (bO (aa aS ai)) (ev 7)) (bO (aa (au kL (hr.mono (by decide)) rfl (aa (ev 5) ai)) (aa (au bQ (hr.mono (by decide)) rfl (aa (ev 6) ai)) ai)))) ai)))))),?_⟩
 try walk_at "rn"
 refine ⟨_,hT,rfl,_,_,rfl,_,_,rfl,_,_,rfl,_,_,rfl,_,_,rfl,_,_,rfl,rfl,fun p np=>⟨⟨_,gD aN⟩,fun D nD=>?_⟩⟩
 have xp:=Ext.new (K:=K) (o:=.tup [V.int n1,V.int n2,V.int n3,V.int n4]) np
 refine zS (f:=V.int) (g:=fun i=>V.str (aC i)) (L:=[n1,n2,n3,n4]) aN nD (by simp) (fun i hi H' Q' xx qq=>?_) (fun G hD x1=>?_)
 . try walk_at "rn"
   exact ⟨i,rfl,mZ (h1 i hi),qq _ Ext.refl⟩
 intro p1 m1
 have y1:=Ext.new (K:=K) (o:=.lst [V.str "head"]) m1
 refine ⟨_,y1.at hD,by simp,fun p2 m2=>?_⟩
 have y2:=Ext.new (K:=K) (o:=.lst (V.str "head"::List.map (fun i=>V.str (aC i)) [n1,n2,n3,n4])) m2
 have xx:=xp.trans (x1.trans (y1.trans y2))
 have e2:=ah (H:=upd G p1 (.lst [V.str "head"])) (a:=p2) (o:=.lst (V.str "head"::List.map (fun i=>V.str (aC i)) [n1,n2,n3,n4]))
 generalize upd (upd G p1 (.lst [V.str "head"])) p2 (.lst (V.str "head"::List.map (fun i=>V.str (aC i)) [n1,n2,n3,n4]))=G2 at xx e2 ⊢
 refine ⟨R,a,b,c,pl,rfl,xx.tup hR,h2,hp,fun H4 x4=>⟨M,ms,rfl,(xx.trans x4).at hM,hl,h3,fun H5 x5 p3 m3=>?_⟩⟩
 have y3:=Ext.new (K:=K) (o:=.lst [V.str (lT a b c pl),V.str (kK ms)]) m3
 refine ⟨_,y3.at ((x4.trans x5).at e2),by simp,fun p4 m4=>⟨[Str.ofString "head",aC n1,aC n2,aC n3,aC n4,lT a b c pl,kK ms],aZ.of ah,?_,?_,q _ (xx.trans (x4.trans (x5.trans (y3.trans (Ext.new m4)))))⟩⟩
 . have:=(oR h1 h2 hp h3).1
   omega
 . have:=(oR h1 h2 hp h3).2
   exact Nat.le_trans this (by omega)
end
def TR (ms:List Int):Prop:=ms.length<=41/\cE ms/\ms.all (fun n=>decide (1<=n))=true/\rising ms=true
structure pX (n1 n2 n3 n4 a b c:Int) (pl:Str) (ms:List Int):Prop where
 n:cE [n1,n2,n3,n4]/\0<=n1/\0<=n2/\0<=n3/\0<=n4
 r:(1<=a/\a<=64)/\(3<=b/\b<=16)/\(1<=c/\c<=64)
 p:pl=Str.ofString "fullest"∨pl=Str.ofString "eldest"
 m:TR ms
theorem Sc.TU {p:Str} (h:sR p=true):Sc p:=by
 unfold sR at h
 rw [Bool.or_eq_true,decide_eq_true_eq,decide_eq_true_eq] at h
 rcases h with rfl | rfl
 . exact .of (by decide +kernel)
 . exact .of (by decide +kernel)
theorem Sc.rule {t:Str} {a b c:Int} {pl:Str} (h:jm t a b c pl):Sc t:=by
 obtain ⟨x,y,z,e,e1,e2,e3,_,_,_,ip⟩:=h
 rw [bG] at e
 refine .split (c:=44) (by decide) (by decide) (by decide) fun q m=>?_
 rw [e] at m
 simp only [List.mem_cons,List.not_mem_nil,or_false] at m
 rcases m with rfl | rfl | rfl | rfl
 . exact (Sc.tT e1).1
 . exact (Sc.tT e2).1
 . exact (Sc.tT e3).1
 . exact Sc.TU ip
theorem Sc.nums {t:Str} {ns:List Int} (h:iY t ns):Sc t:=by
 rcases h with ⟨rfl,_⟩ | ⟨_,h⟩
 . exact .of (by decide +kernel)
 . rw [bG] at h
   refine .split (c:=44) (by decide) (by decide) (by decide) fun q m=>?_
   have:ak q∈(Txt.split t ⟨#[44]⟩).map ak:=List.mem_map_of_mem m
   rw [h] at this
   obtain ⟨i,_,e⟩:=List.mem_map.mp this
   exact (Sc.tT e.symm).1
theorem mL {t:Str} {n1 n2 n3 n4 a b c:Int} {pl:Str} {ms:List Int} (h:jY t n1 n2 n3 n4 a b c pl ms):Sc t/\t.cps.toList.head?=some 104/\blanks t=6:=by
 have cs:=nK (c:=32) t
 obtain ⟨p1,p2,p3,p4,pr,pm,e,f,_,hr,hm,_,_⟩:=h.ex
 rw [dm] at e
 simp only [List.map_cons,List.map_nil,List.cons.injEq,and_true] at f
 obtain ⟨f1,f2,f3,f4⟩:=f
 refine ⟨.split (c:=32) (by decide) (by decide) (by decide) fun q m=>?_,nL e (by decide +kernel),?_⟩
 . rw [e] at m
   simp only [List.mem_cons,List.not_mem_nil,or_false] at m
   rcases m with rfl | rfl | rfl | rfl | rfl | rfl | rfl
   . exact .of (by decide +kernel)
   . exact (Sc.tT f1).1
   . exact (Sc.tT f2).1
   . exact (Sc.tT f3).1
   . exact (Sc.tT f4).1
   . exact Sc.rule hr
   . exact Sc.nums hm
 . rw [e] at cs
   show t.cps.toList.count 32=6
   simpa using cs
theorem mY.head {t:Str} {n1 n2 n3 n4 a b c:Int} {pl:Str} {ms:List Int} (h:jY t n1 n2 n3 n4 a b c pl ms):mY t:=by
 obtain ⟨s,x,y⟩:=mL h
 exact ⟨s,.inr (.inr ⟨x,y⟩)⟩
theorem mY.room {t:Str} {x:Rd} (h:cH t=Option.some x):mY t:=by
 obtain ⟨s,d⟩:=pT h
 exact ⟨s,d.elim Or.inl fun d=>.inr (.inl d)⟩
theorem u6.head {t b:Str} (h:u6 t b) (l:mY t):rP b:=by
 intro n1 n2 n3 n4 a' b' c' pl ms e
 obtain ⟨s,d,d'⟩:=mL e
 rcases h with ⟨_,_,h1⟩ | ⟨h1,h2⟩ | h
 . exact h1 d
 . rcases l.hd with ⟨q,q'⟩ | ⟨q,q'⟩ | ⟨q,q'⟩ <;> (rw [d,q] at h1) <;> first | (rw [d',q'] at h2;exact h2 rfl) | cases h1
 . exact h s
theorem sq {t:Str} {x:Rd} (h:cH t=some x):rP t:=by
 intro n1 n2 n3 n4 a b c pl ms e
 obtain ⟨_,d⟩:=pT h
 obtain ⟨_,d',_⟩:=mL e
 rcases d with ⟨d,_⟩ | ⟨d,_⟩ <;> (rw [d] at d';cases d')
theorem Aq {t:Str} {n1 n2 n3 n4 a b c:Int} {pl:Str} {ms:List Int} (h:jY t n1 n2 n3 n4 a b c pl ms):cH t=none:=by
 cases e:cH t with
 | none=>rfl
 | some x=>exact absurd h (sq e _ _ _ _ _ _ _ _ _)
theorem JR {p:Str} (h:sR p=true) {c:Nat} (hc:c=32∨c=44):c∉p.cps.toList:=by
 unfold sR at h
 rw [Bool.or_eq_true,decide_eq_true_eq,decide_eq_true_eq] at h
 rcases h with rfl | rfl <;> rcases hc with rfl | rfl <;> decide +kernel
theorem Jk {a b c:Int} {pl:Str} (h:cE [a,b,c]) (hp:sR pl=true):32∉(lT a b c pl).cps.toList:=by
 unfold lT
 rw [bG]
 refine tU (by decide) fun p m=>?_
 simp only [List.mem_cons,List.not_mem_nil,or_false] at m
 rcases m with rfl | rfl | rfl | rfl
 . exact bK (h _ (by simp)) (by decide)
 . exact bK (h _ (by simp)) (by decide)
 . exact bK (h _ (by simp)) (by decide)
 . exact JR hp (.inl rfl)
theorem Jl {ms:List Int} (h:cE ms):32∉(kK ms).cps.toList:=by
 unfold kK
 rw [bG]
 refine lQ (by decide) (by decide) fun p m=>?_
 obtain ⟨i,mi,rfl⟩:=List.mem_map.mp m
 exact bK (h i mi) (by decide)
theorem Jm {a b c:Int} {pl:Str} (h:cE [a,b,c]) (r:(1<=a/\a<=64)/\(3<=b/\b<=16)/\(1<=c/\c<=64)) (hp:sR pl=true):jm (lT a b c pl) a b c pl:=by
 refine ⟨aC a,aC b,aC c,?_,cB (h _ (by simp)),cB (h _ (by simp)),cB (h _ (by simp)),r.1,r.2.1,r.2.2,hp⟩
 unfold lT
 rw [bG]
 refine dU (c:=44) (by simp) fun p m=>?_
 simp only [List.mem_cons,List.not_mem_nil,or_false] at m
 rcases m with rfl | rfl | rfl | rfl
 . exact bK (h _ (by simp)) (by decide)
 . exact bK (h _ (by simp)) (by decide)
 . exact bK (h _ (by simp)) (by decide)
 . exact JR hp (.inr rfl)
theorem Jo {ms:List Int} (h:cE ms):iY (kK ms) ms:=by
 cases ms with
 | nil=>exact .inl ⟨rfl,rfl⟩
 | cons i r=>
   have hs:Txt.split (Str.join ⟨#[44]⟩ ((i::r).map aC)) ⟨#[44]⟩=(i::r).map aC:=dU (c:=44) (by simp) fun p m=>by
     obtain ⟨j,mj,rfl⟩:=List.mem_map.mp m
     exact bK (h j mj) (by decide)
   have e:kK (i::r)=Str.join ⟨#[44]⟩ ((i::r).map aC):=by
     unfold kK bx
     rw [if_neg (by simp),bG]
   have em:((i::r).map aC).map ak=(i::r).map some:=by
     rw [List.map_map]
     exact List.map_congr_left fun j mj=>cB (h j mj)
   refine .inr ⟨fun z=>?_,?_⟩
   . rw [e] at z
     rw [z] at hs
     have:ak (Str.ofString "-")=some i:=by
       have q:Txt.split (Str.ofString "-") ⟨#[44]⟩=[Str.ofString "-"]:=by decide +kernel
       rw [q] at hs
       rw [<- hs] at em
       simp only [List.map_cons,List.map_nil,List.cons.injEq] at em
       exact em.1
     rw [show ak (Str.ofString "-")=none from by decide +kernel] at this
     cases this
   . rw [e,bG,hs,em]
theorem D8 {n1 n2 n3 n4 a b c:Int} {pl:Str} {ms:List Int} (h:pX n1 n2 n3 n4 a b c pl ms):jY (sj n1 n2 n3 n4 a b c pl ms) n1 n2 n3 n4 a b c pl ms:=by
 obtain ⟨⟨sn,n⟩,r,p,ml,sm,m1,mr⟩:=h
 have ip:sR pl=true:=by rcases p with rfl | rfl <;> decide +kernel
 have sr:cE [a,b,c]:=by
   intro i hi
   simp only [List.mem_cons,List.not_mem_nil,or_false] at hi
   rcases hi with rfl | rfl | rfl
   . exact Nat.lt_of_le_of_lt (by omega:_<=64) (by decide)
   . exact Nat.lt_of_le_of_lt (by omega:_<=64) (by decide)
   . exact Nat.lt_of_le_of_lt (by omega:_<=64) (by decide)
 refine ⟨aC n1,aC n2,aC n3,aC n4,_,_,?_,?_,n,Jm sr r ip,Jo sm,m1,mr⟩
 . unfold sj
   rw [dm]
   refine dU (c:=32) (by simp) fun q m=>?_
   simp only [List.mem_cons,List.not_mem_nil,or_false] at m
   rcases m with rfl | rfl | rfl | rfl | rfl | rfl | rfl
   . decide +kernel
   . exact bK (sn _ (by simp)) (by decide)
   . exact bK (sn _ (by simp)) (by decide)
   . exact bK (sn _ (by simp)) (by decide)
   . exact bK (sn _ (by simp)) (by decide)
   . exact Jk sr ip
   . exact Jl sm
 . simp only [List.map_cons,List.map_nil]
   rw [cB (sn _ (by simp)),cB (sn _ (by simp)),cB (sn _ (by simp)),cB (sn _ (by simp))]
def Ar (l:List Nat):Bool:=match l.getLast? with
 | some c=>bF c
 | none=>false
theorem BK {l:List Nat} {i c:Nat} (h:l[i]?=some c):Ar (l.take (i + 1))=bF c:=by
 unfold Ar
 rw [List.take_add_one,h,Option.toList_some,List.getLast?_concat]
theorem GF {l:List Nat} {i c:Nat} (h:l[i]?=some c) (hf:bF c=true) (hb:Ar (l.take i)=false):Start l i:=by
 refine ⟨⟨c,h,hf⟩,fun d hd=>?_⟩
 unfold Ar at hb
 rw [hd] at hb
 exact hb
section
variable {P:Program} {w:World} {K:PySem.W.Frag} {mg:Str->Option Value} {base:Heap}
def u9 (K:PySem.W.Frag):Sp:=fun vs H Q _=>∃ t:Str,vs=[.str t]/\t.length<=1000000/\∀ D ps H',new K H D->Ext K H H'->H' D=some (.lst (List.map V.int ps))->ps.length<=t.length->(∀ p∈ps,∃ n:Nat,p=n/\Start t.cps.toList n)->Q (.ref D) H'
theorem dw:aD ["_law_text","_law_found","_law_ahead","_law_k","_law_sign","_law_here"] ["_law_text"] (af fE):=⟨rfl,rfl,rfl,by decide +kernel,rfl,by decide +kernel,by decide +kernel⟩
theorem vc {f:Addr} {fd:FuncData} (F:fh K "_law_starts" "_law_starts" fE f fd) {aG aP cF cR cN:Addr} {tE tF t1 t2 t3 t4:Tok} (B:B K mg aG aP cF cR cN tE tF t1 t2 t3 t4):bf P w K mg base eZ 1 f fd ["_law_text"] (u9 K):=by
 refine F.gP dw (fun vs H Q E h=>?_) (fun cG A outer s H vs Q E hr h=>?_)
 . obtain ⟨t,rfl,_⟩:=h
   rfl
 obtain ⟨t,rfl,ht,q⟩:=h
 refine ⟨_,(av (sset (i:=1) dw.nd rfl (Or.inl rfl) (bO ai))
     (av (sset (i:=2) dw.nd rfl (Or.inl rfl) vY)
     (av (um PassesOwn.never rfl (Ln rfl B.enumerate (aa (ev 0) ai)) (fM (n:=2) rfl (aH (aA (i:=3) dw.nd rfl (Or.inl rfl)) (aH (aA (i:=4) dw.nd rfl (Or.inl rfl)) gA)))
       (av (sset (i:=5) dw.nd rfl (Or.inl rfl) (kW FG (ev 4) aS (by with_unfolding_all rfl)))
     (wX (jD (tw (wV (gy (ev 5)) (qj (jd (gy (ev 2)))))) (aK (jc (lA PySem.F.plainAttrs_list PySem.F.slot_list_append PySem.F.type_list_append bX (ev 1) (aa (ev 3) ai)))) cY)
     (aK (sset (i:=2) dw.nd rfl (Or.inl rfl) (ev 5))))))
     (aK (aW (ev 1)))))),?_⟩
 try walk_at "rn"
 intro D nD
 have htl:t.length=t.cps.toList.length:=by simp [Str.length]
 refine A6 (fun i σ H'=>∃ (ps:List Int) (b:Bool) (v3 v4 v5:Option V),σ=[some (.str t),some (.ref D),some (.bl b),v3,v4,v5]/\H' D=some (.lst (ps.map V.int))/\Kp K D (upd H D (.lst [])) H'/\ps.length<=i/\b=Ar (t.cps.toList.take i)/\∀ p∈ps,∃ n:Nat,p=n/\Start t.cps.toList n) ⟨[],_,_,_,_,rfl,ah,Kp.refl,by simp,rfl,by simp⟩ ?_ ?_
 . rintro i c σ H' T hc ⟨ps,b,v3,v4,v5,rfl,hD,k,hl,hb0,hb⟩ nT
   have hi:i < t.cps.toList.length:=(List.getElem?_eq_some_iff.mp hc).1
   have yT:=Ext.new (K:=K) (o:=.tup [V.int i,V.str ⟨#[c]⟩]) nT
   try walk_at "rn"
   obtain ⟨h,eh⟩:∃ h,Txt.contains (Str.ofString "0123456789") ⟨#[c]⟩=h:=⟨_,rfl⟩
   rw [eh]
   rw [uS] at eh
   have rY:=yT.at hD
   have kT:=k.trans yT.kp
   generalize upd H' T (.tup [V.int i,V.str ⟨#[c]⟩])=G at rY kT ⊢
   refine ⟨fun σ G'=>∃ ps:List Int,σ=[some (.str t),some (.ref D),some (.bl b),some (.int i),some (.str ⟨#[c]⟩),some (.bl h)]/\G' D=some (.lst (ps.map V.int))/\Kp K D (upd H D (.lst [])) G'/\ps.length<=i + 1/\∀ p∈ps,∃ n:Nat,p=n/\Start t.cps.toList n,?_,?_⟩
   . try walk_at "rn"
     have sy:∃ ps_1,G D=some (HO.lst (List.map V.int ps_1))/\Kp K D (upd H D (.lst [])) G/\ps_1.length<=i + 1/\∀ p∈ps_1,∃ n:Nat,p=n/\Start t.cps.toList n:=⟨ps,rY,kT,by omega,hb⟩
     refine gO (fun c1=>gO (fun c2=>?_) (fun c2=>sy)) (fun c1=>sy)
     refine ⟨.inl ⟨_,aZ.of rY⟩,_,rY,by rw [List.length_map];omega,ps++[(i:Int)],by rw [List.map_append];rfl,kT.trans (Kp.upd rY),by rw [List.length_append];simp;omega,fun p hp=>?_⟩
     rcases List.mem_append.mp hp with hp | hp
     . exact hb p hp
     . exact ⟨i,List.mem_singleton.mp hp,GF hc (by rw [eh];exact c1) (by rw [<- hb0];simpa using c2)⟩
   . rintro σ G' ⟨ps',rfl,h1,h2,h3,h4⟩
     try walk_at "rn"
     exact ⟨ps',h1,h2,h3,by rw [BK hc,eh],h4⟩
 . rintro σ H' ⟨ps,b,v3,v4,v5,rfl,hD,k,hl,_,hb⟩
   try walk_at "rn"
   exact q D ps _ nD (k.ext nD) hD (by omega) hb
end
section
variable {P:Program} {w:World} {K:PySem.W.Frag} {mg:Str->Option Value} {base:Heap}
theorem GG {l:List Nat} {p k c:Nat} (h:l[p + k]?=some c):uc l ((p:Int) + k)=some c:=by
 have e:(p:Int) + k=((p + k:Nat):Int):=rfl
 have hl:=(List.getElem?_eq_some_iff.mp h).1
 unfold uc B4
 rw [if_pos (by omega),if_pos (by omega),e,Int.toNat_natCast]
 exact h
def vd:Sp:=fun vs H Q _=>∃ (t:Str) (p:Nat),vs=[.str t,.int p]/\t.length<=1000000/\Start t.cps.toList p/\Q (.int (gC t.cps.toList p).length) H
theorem gS:aD ["_law_text","_law_at","_law_many"] ["_law_text","_law_at"] (af cK):=⟨rfl,rfl,rfl,by decide +kernel,rfl,by decide +kernel,by decide +kernel⟩
theorem pY {f:Addr} {fd:FuncData} (F:fh K "_law_figures_at" "_law_figures_at" cK f fd) {aG aP cF cR cN:Addr} {tE tF t1 t2 t3 t4:Tok} (B:B K mg aG aP cF cR cN tE tF t1 t2 t3 t4):bf P w K mg base eZ 1 f fd ["_law_text","_law_at"] vd:=by
 refine F.gP gS (fun vs H Q E h=>?_) (fun cG A outer s H vs Q E hr h=>?_)
 . obtain ⟨t,p,rfl,_⟩:=h
   rfl
 obtain ⟨t,p,rfl,ht,st,q⟩:=h
 refine ⟨_,(av (sset (i:=2) gS.nd rfl (Or.inl rfl) ei)
     (av (Lc PassesOwn.never (tw (wV (cj BZ (cT dD (ev 1) (ev 2)) (aU qe rfl B.len dg (aa (ev 0) ai)) (aI _)) (qj (cj FG (iJ wN (ev 0) (cT dD (ev 1) (ev 2)) (fun _ _=>rfl)) aS (by with_unfolding_all rfl)))))
       (aK (sset (i:=2) gS.nd rfl (Or.inl rfl) (cT dD (ev 2) ei))))
     (aK (aW (ev 2))))),?_⟩
 try walk_at "rn"
 obtain ⟨r0,ra,b,rb,rn⟩:=rE st
 have hb:=rn
 have len:t.cps.toList.length=p + ((gC t.cps.toList p).length + b.length):=by
   obtain ⟨c,hc,_⟩:=st.tT
   have h1:=(List.getElem?_eq_some_iff.mp hc).1
   have h2:=congrArg List.length rb
   rw [List.length_drop,List.length_append] at h2
   omega
 have at_:∀ k,t.cps.toList[p + k]?=(gC t.cps.toList p++b)[k]?:=fun k=>by rw [<- rb,List.getElem?_drop]
 refine Nz (fun m σ H'=>∃ k:Nat,σ=[some (V.str t),some (V.int p),some (V.int k)]/\H'=H/\k<=(gC t.cps.toList p).length/\m=(gC t.cps.toList p).length - k) ⟨_,0,rfl,rfl,Nat.zero_le _,rfl⟩ ?_
 rintro m σ H' ⟨k,rfl,rfl,hk,rfl⟩
 try walk_at "rn"
 have tl:t.length=t.cps.toList.length:=str_len t
 refine ⟨by omega,?_⟩
 by_cases Mt:k < (gC t.cps.toList p).length
 . refine aQ (by omega) ⟨by omega,(gC t.cps.toList p)[k],?_,aQ ?_ ⟨fun σ' H2=>σ'=[some (V.str t),some (V.int p),some (V.int (k + 1))]/\H2=H',?_,rfl,rfl⟩⟩
   . have:=at_ k
     rw [List.getElem?_append_left Mt,List.getElem?_eq_getElem Mt] at this
     exact GG this
   . rw [uS]
     exact List.all_eq_true.mp ra _ (List.getElem_mem Mt)
   . rintro σ' H2 ⟨rfl,rfl⟩
     exact ⟨_,by omega,k + 1,rfl,rfl,Mt,rfl⟩
 . have ek:k=(gC t.cps.toList p).length:=by omega
   rw [<- ek] at q
   cases b with
   | nil=>exact aL (by rw [List.length_nil] at len;omega) q
   | cons c b=>
     refine aQ (by rw [List.length_cons] at len;omega) ⟨by omega,c,?_,aL ?_ q⟩
     . have:=at_ k
       rw [ek,List.getElem?_append_right (Nat.le_refl _),Nat.sub_self] at this
       rw [ek]
       exact GG this
     . rw [uS,hb c rfl]
       decide
end
section
variable {P:Program} {w:World} {K:PySem.W.Frag} {mg:Str->Option Value} {base:Heap}
theorem GH {t:Str} (lk:mY t):∀ b∈[Str.ofString "",Str.ofString " ",Str.ofString "-",t++Str.ofString " ",Str.ofString " "++t,t++Str.ofString "\n",Str.ofString "\n"++t,t++Str.ofString " -",Txt.upper t],u6 t b:=by
 intro b m
 simp only [List.mem_cons,List.not_mem_nil,or_false] at m
 rcases m with rfl | rfl | rfl | rfl | rfl | rfl | rfl | rfl | rfl
 . exact .inl ⟨by decide +kernel,by decide +kernel,by decide +kernel⟩
 . exact jj (c:=32) (by decide +kernel) (by decide) (by decide) (by decide)
 . exact jj (c:=45) (by decide +kernel) (by decide) (by decide) (by decide)
 . exact Ak lk (by decide +kernel)
 . exact jj (c:=32) (nQ (by decide +kernel)) (by decide) (by decide) (by decide)
 . refine .inr (.inr fun s=>s.nl ?_)
   rw [dQ,show (Str.ofString "\n").cps.toList=[10] from by decide +kernel]
   simp
 . exact jj (c:=10) (nQ (by decide +kernel)) (by decide) (by decide) (by decide)
 . exact Ak lk (by decide +kernel)
 . exact DZ lk
theorem GI {t:Str} (ht:t.length<=100000):∀ b∈[Str.ofString "",Str.ofString " ",Str.ofString "-",t++Str.ofString " ",Str.ofString " "++t,t++Str.ofString "\n",Str.ofString "\n"++t,t++Str.ofString " -",Txt.upper t],b.length < 1000000:=by
 have l1:(Str.ofString " ").length=1:=by decide +kernel
 have l2:(Str.ofString "\n").length=1:=by decide +kernel
 have l3:(Str.ofString " -").length=2:=by decide +kernel
 intro b m
 simp only [List.mem_cons,List.not_mem_nil,or_false] at m
 rcases m with rfl | rfl | rfl | rfl | rfl | rfl | rfl | rfl | rfl
 . decide +kernel
 . decide +kernel
 . decide +kernel
 . rw [Str.length_append];omega
 . rw [Str.length_append];omega
 . rw [Str.length_append];omega
 . rw [Str.length_append];omega
 . rw [Str.length_append];omega
 . have:=PyProof.Rows.len_upper t;omega
def GJ (K:PySem.W.Frag):Sp:=fun vs H Q _=>∃ t:Str,vs=[.str t]/\t.length<=100000/\mY t/\∀ D bs H',new K H D->Ext K H H'->H' D=some (.lst (List.map V.str bs))->bs.length<=1000000->(∀ b∈bs,u6 t b/\b.length < 1000000)->Q (.ref D) H'
end
theorem oS:∀ {l:List Int},l.Pairwise (· < ·)->rising l=true
 | [],_=>rfl
 | [_],_=>rfl
 | a::b::r,h=>by
   rw [List.pairwise_cons] at h
   unfold rising
   rw [oS h.2,decide_eq_true (h.1 b (List.mem_cons_self ..))]
   rfl
def Rm.rd (pl:Int->Int):Rm->Rd
 | .leaf n _ rows=>.leaf n (rows.map fun q=>(q.2.k,q.2.vs.map (·.2)))
 | .inner n _ lq _ ch _ dB=>.inner n lq (ch.map fun c=>(c,pl c)) (dB.map fun q=>q.2.rn)
theorem GK {vs:List (V×p8)} (h:∀ q∈vs,0<=q.2.1/\Lx q.2) (up:(vs.map fun q=>q.2.1).Pairwise (· < ·)) (h0:0 < vs.length):N4 (vs.map (·.2)):=by
 refine ⟨fun p hp=>?_,?_⟩
 . obtain ⟨q,hq,rfl⟩:=List.mem_map.mp hp
   exact (h q hq).2
 . unfold uV
   rw [Bool.and_eq_true,Bool.and_eq_true,List.map_map]
   refine ⟨⟨?_,?_⟩,oS up⟩
   . cases vs with
     | nil=>cases h0
     | cons x r=>rfl
   . rw [List.all_map]
     exact List.all_eq_true.mpr fun q hq=>decide_eq_true (h q hq).1
theorem LN {e:Nt} (h:Qo e):N7 e:=by
 obtain ⟨n,s,t,m⟩:=h
 have hm:e.m.sm:=by
   rcases m with m | ⟨i,m,hi,_⟩
   . rw [m];trivial
   . rw [m];exact hi
 refine ⟨n.2,by omega,by omega,t,hm,?_⟩
 unfold fG Nt.rn
 dsimp only
 have e1:fO 1 (some e.n)=true:=decide_eq_true n.1
 have e2:z9 (some e.lo) (some e.hi)=true:=by
   unfold z9 wO
   dsimp only
   rw [Bool.and_eq_true,Bool.and_eq_true]
   exact ⟨⟨decide_eq_true (by omega),decide_eq_true (by omega)⟩,decide_eq_true s.2.1⟩
 have e3:Be PI (some e.t)=true:=by
   cases e.t with
   | plus n=>exact decide_eq_true (show Str.ofString "plus"∈PI from List.mem_cons_self ..)
   | is n=>exact decide_eq_true (show Str.ofString "is"∈PI from List.mem_cons_of_mem _ (List.mem_cons_self ..))
   | gone=>rfl
 rw [e1,e2,e3]
 rcases m with m | ⟨i,m,_,hg⟩
 . rw [m]
   cases Gh (some e.lo) (some e.hi) <;> rfl
 . rw [m,show Gh (some e.lo) (some e.hi)=true from decide_eq_true hg]
   rw [show Be [Str.ofString "is"] (some (bJ.is i))=true from decide_eq_true (show Str.ofString "is"∈[Str.ofString "is"] from List.mem_cons_self ..)]
   rfl
theorem CH {pl:Int->Int} {r:Rm} (h:r.sm pl) (hf:r.full):cH (r.x pl)=some (r.rd pl):=by
 cases r with
 | leaf n ra rows=>
   obtain ⟨hn,hr,up⟩:=h
   have ok:TM (rows.map fun q=>(q.2.k,q.2.vs.map (·.2))):=by
     refine ⟨fun r hr'=>?_,?_⟩
     . obtain ⟨q,hq,rfl⟩:=List.mem_map.mp hr'
       have:=hr q hq
       exact ⟨show q.2.k.natAbs < 10 ^ 60 from by have:=this.k;omega,GK this.v this.up (hf q hq)⟩
     . unfold mE
       rw [Bool.and_eq_true,List.map_map]
       refine ⟨?_,oS up⟩
       rw [List.all_map]
       refine List.all_eq_true.mpr fun q hq=>?_
       have:=hr q hq
       show pe (q.2.k,q.2.vs.map (·.2))=true
       unfold pe
       rw [Bool.and_eq_true]
       exact ⟨decide_eq_true (by have:=this.k;constructor <;> (dsimp only;omega)),(GK this.v this.up (hf q hq)).ok⟩
   have:=DW hn.1 hn.2 ok
   rw [List.map_map] at this
   exact this
 | inner n pa lq ca ch ta dB=>
   obtain ⟨hn,hp,hc,nd,len,ht⟩:=h
   have ok:IOk pl n lq ch (dB.map (·.2)):=⟨hn.1,hn.2,hp,hc,nd,len,fun e he=>by
     obtain ⟨q,hq,rfl⟩:=List.mem_map.mp he
     exact LN (ht q hq)⟩
   have:=BA ok
   rw [List.map_map,List.map_map] at this
   exact this
theorem Jp {pl:Int->Int} {r:Rm} (h:r.sm pl) (hf:r.full):mY (r.x pl):=mY.room (CH h hf)
section
variable {K:PySem.W.Frag}
theorem Oa (o:Option Int):on o=oV o:=by cases o <;> rfl
theorem Jq {H0 H:Hp} {ps:List p8} {us:List V} (h:aT K H0 H (ps.map oY) us):∃ L:List (V×p8),us=L.map (·.1)/\ps=L.map (·.2)/\∀ q∈L,lG K H q.1 q.2:=by
 obtain ⟨L,e1,e2,h⟩:=aT.zip h
 refine ⟨L,e1,e2,fun q hq=>?_⟩
 obtain ⟨a,e,g⟩:=yo (h q hq)
 exact ⟨a,e,by rw [g,Oa]⟩
theorem CI {H0 H:Hp}:∀ {L:List (V×(Int×List p8))},(∀ q∈L,bL K H0 H (sH q.2) q.1)->∃ R:List (V×Row),R.map (·.1)=L.map (·.1)/\R.map (fun q=>(q.2.k,q.2.vs.map (·.2)))=L.map (·.2)/\∀ q∈R,qA K H q.1 q.2
 | [],_=>⟨[],rfl,rfl,by simp⟩
 | q::L,h=>by
   obtain ⟨R,e1,e2,hR⟩:=CI (L:=L) fun x hx=>h x (List.mem_cons_of_mem _ hx)
   obtain ⟨a,D,us,e,g,hD,hv⟩:=yp (h q (List.mem_cons_self ..))
   obtain ⟨M,m1,m2,hM⟩:=Jq hv
   refine ⟨(q.1,⟨q.2.1,D,M⟩)::R,by rw [List.map_cons,List.map_cons,e1],by rw [List.map_cons,List.map_cons,e2];dsimp only;rw [<- m2],fun x hx=>?_⟩
   rcases List.mem_cons.mp hx with rfl | hx
   . exact ⟨a,e,g,by rw [hD,m1],hM⟩
   . exact hR x hx
theorem CJ {H0 H:Hp} {x:bJ} {v:V} (h:bL K H0 H (DM (some x)) v):∃ a,v=.ref a/\tupQ K H a=some x.v:=by
 rcases Bf h with ⟨e,_⟩ | ⟨y,a,e,h1,h2⟩
 . cases e
 . cases e
   exact ⟨a,h1,h2⟩
theorem GL {H0 H:Hp}:∀ {L:List (V×Nt)},(∀ q∈L,bL K H0 H q.2.rn.d q.1)->∀ q∈L,mC K H q.1 q.2:=fun h q hq=>by
 obtain ⟨a,b,u1,u2,e,g1,g2,h1,h2⟩:=JP (h q hq)
 obtain ⟨r,rfl,k1⟩:=CJ h1
 obtain ⟨s,rfl,k2⟩:=CJ h2
 exact ⟨a,b,r,s,e,g1,g2,k1,k2⟩
theorem Ob {H0 H:Hp} {T:Addr} {pl:Int->Int} {r:Rm} (h:sI K H0 H T (r.rd pl)) (ok:r.ok pl) (sm:r.sm pl):∃ R P r',tupQ K H T=some [.ref R,.ref P]/\Rm.at K H R r'/\Lv H P pl r'.ch/\r'.ok pl/\r'.x pl=r.x pl:=by
 cases r with
 | leaf n ra rows=>
   obtain ⟨R,D,P,vs,h1,h2,_,hD,hv,_,hP,_⟩:=h
   obtain ⟨L,e1,e2,hL⟩:=aT.zip hv
   obtain ⟨M,m1,m2,hM⟩:=CI hL
   have e3:M.map (fun q=>(q.2.k,q.2.vs.map (·.2)))=rows.map (fun q=>(q.2.k,q.2.vs.map (·.2))):=by rw [m2,<- e2]
   refine ⟨R,P,.leaf n D M,h1,⟨h2,by rw [hD,e1,m1],hM⟩,⟨_,hP,by intro c hc;cases hc⟩,⟨ok.1,fun q hq=>?_,?_⟩,?_⟩
   . have:(q.2.k,q.2.vs.map (·.2))∈rows.map (fun q=>(q.2.k,q.2.vs.map (·.2))):=by rw [<- e3];exact List.mem_map_of_mem hq
     obtain ⟨y,hy,ey⟩:=List.mem_map.mp this
     obtain ⟨o1,o2,o3⟩:=ok.2.1 y hy
     rw [Prod.mk.injEq] at ey
     obtain ⟨k1,k2⟩:=ey
     refine ⟨by rw [<- k1];exact o1,fun z hz=>?_,?_⟩
     . have:z.2∈y.2.vs.map (·.2):=by rw [k2];exact List.mem_map_of_mem hz
       obtain ⟨u,hu,eu⟩:=List.mem_map.mp this
       rw [<- eu]
       exact o2 u hu
     . have:=congrArg List.length k2
       rw [List.length_map,List.length_map] at this
       rw [<- this]
       exact o3
   . have:=congrArg List.length e3
     rw [List.length_map,List.length_map] at this
     rw [this]
     exact ok.2.2
   . unfold Rm.x
     dsimp only
     have:=congrArg (List.map fun p:Int×List p8=>gQ p.1 p.2) e3
     rw [List.map_map,List.map_map] at this
     exact congrArg (fun z=>Str.join (Str.ofString " ") [Str.ofString "leaf",aC n,bx (Str.ofString ";") z]) this
 | inner n pa lq ca ch ta dB=>
   obtain ⟨R,D,C,Y,P,vs,h1,h2,_,hD,hC,hY,hv,_,hP,_,_⟩:=h
   obtain ⟨_,_,hc,nd,_,_⟩:=sm
   have hv':aT K H0 H ((dB.map (·.2)).map fun e=>e.rn.d) vs:=by
     rw [List.map_map] at hv ⊢
     exact hv
   obtain ⟨L,e1,e2,hL⟩:=aT.zip (d:=fun e:Nt=>e.rn.d) hv'
   obtain ⟨o1,o2,o3,o4,o5,o6,o7⟩:=ok
   have el:L.length=dB.length:=by
     have:=congrArg List.length e2
     rw [List.length_map,List.length_map] at this
     exact this.symm
   refine ⟨R,P,.inner n D lq C ch Y L,h1,⟨h2,hD,by rw [hC,List.map_map];rfl,by rw [hY,e1],GL hL⟩,?_,⟨o1,o2,o3,o4,o5,fun q hq=>?_,by omega⟩,?_⟩
   . refine ⟨_,hP,fun c vg=>?_⟩
     have vg:c∈ch:=vg
     have e4:(List.map (fun p:Int×Int=>(p.1,V.int p.2)) (List.map (fun c=>(c,pl c)) ch)).map (·.1)=ch:=by
       rw [List.map_map,List.map_map]
       conv=>rhs;rw [<- List.map_id ch]
       rfl
     rw [(uZ (L:=List.map (fun p:Int×Int=>(p.1,V.int p.2)) (List.map (fun c=>(c,pl c)) ch))).1 (by rw [e4];exact nd),List.map_map]
     have e5:(List.map (fun c=>(c,pl c)) ch).map (·.1)=ch:=by
       rw [List.map_map]
       conv=>rhs;rw [<- List.map_id ch]
       rfl
     exact u5 (p:=(c,pl c)) (L:=ch.map fun c=>(c,pl c)) (by rw [e5];exact nd) (List.mem_map_of_mem vg)
   . have:q.2∈dB.map (·.2):=by rw [e2];exact List.mem_map_of_mem hq
     obtain ⟨y,hy,ey⟩:=List.mem_map.mp this
     rw [<- ey]
     exact o6 y hy
   . unfold Rm.x
     dsimp only
     have:=congrArg (List.map Nt.x) e2
     rw [List.map_map,List.map_map] at this
     exact congrArg (fun z=>Str.join (Str.ofString " ") [Str.ofString "inner",aC n,bx (Str.ofString ",") (lq.map aC),bx (Str.ofString ",") (ch.map (dY pl)),bx (Str.ofString ";") z]) this.symm
end
section
variable {P:Program} {w:World} {K:PySem.W.Frag} {mg:Str->Option Value} {base:Heap}
theorem D9 (xs:List V):iL xs none (some (-1))=xs.dropLast:=by
 unfold iL
 rw [HT.ua,List.drop_zero,Nat.sub_zero,List.dropLast_eq_take]
 congr 1
 show (if (-1:Int) < 0 then ((-1:Int) + (xs.length:Int)).toNat else min (-1:Int).toNat xs.length)=_
 rw [if_pos (by decide)]
 omega
theorem mul_ones:∀ k:Nat,k < 61->(Txt.mul (Str.ofString "1") (k:Int)).cps.toList=List.replicate k 49:=by decide +kernel
theorem GN:∀ k:Nat,k < 61->MulOk (Str.ofString "1") (k:Int):=by unfold MulOk;decide +kernel
theorem GO (k:Nat):(List.replicate k 49).all bF=true:=by
 rw [List.all_eq_true]
 intro x hx
 rw [(List.mem_replicate.1 hx).2]
 rfl
theorem jy:aD ["_law_text","_law_found","_law_words","_law_k","_law_at"] ["_law_text"] (af dS):=⟨rfl,rfl,rfl,by decide +kernel,rfl,by decide +kernel,by decide +kernel⟩
theorem As {f:Addr} {fd:FuncData} (F:fh K "_law_bad" "_law_bad" dS f fd) {aG aP cF cR cN:Addr} {tE tF t1 t2 t3 t4:Tok} (B:B K mg aG aP cF cR cN tE tF t1 t2 t3 t4) (jr:Callee P w K mg base "_law_starts" 1 ["_law_text"] (u9 K)) (fL:Callee P w K mg base "_law_figures_at" 1 ["_law_text","_law_at"] vd):bf P w K mg base eZ 2 f fd ["_law_text"] (GJ K):=by
 refine F.gP jy (fun vs H Q E h=>?_) (fun cG A outer s H vs Q E hr h=>?_)
 . obtain ⟨t,rfl,_⟩:=h
   rfl
 obtain ⟨t,rfl,ht,lk,q⟩:=h
 obtain ⟨lw,lb⟩:(Txt.split t (Str.ofString " ")).length<=7/\∀ p∈Txt.split t (Str.ofString " "),p.length<=100000:=by
   obtain ⟨s1,s2⟩:=fk t 32
   obtain ⟨w0,ws,c,e,_,_,_,_,hb⟩:=words_of lk
   rw [<- dm] at s2
   refine ⟨?_,fun p hp=>Nat.le_trans (s2 p hp) ht⟩
   rw [e,List.length_cons,<- hb]
   rcases lk.hd with ⟨_,h⟩ | ⟨_,h⟩ | ⟨_,h⟩ <;> omega
 have w1:(Str.ofString " ").length=1:=by decide +kernel
 have jl:∀ ws:List Str,(∀ p∈ws,p∈Txt.split t (Str.ofString " "))->pO (Str.ofString " ") ws<=ws.length * 100001/\(Str.join (Str.ofString " ") ws).length<=ws.length * 100001:=fun ws h=>by
   have h1:=eX (sep:=Str.ofString " ") ws fun p hp=>lb p (h p hp)
   have h2:=join_le (sep:=Str.ofString " ") ws fun p hp=>lb p (h p hp)
   rw [w1] at h1 h2
   exact ⟨h1,h2⟩
 refine bE (rest:=(aq dS).drop 5) (aK (aW (ev 1))) fun r5 J5 e5=>?_
 refine bE (rest:=(aq dS).drop 4) (av (um PassesOwn.never rfl (cI (au jr (hr.mono (by decide)) rfl (aa (ev 0) ai))) (aA (i:=4) jy.nd rfl (Or.inl rfl))
       (av (jc (lA PySem.F.plainAttrs_list PySem.F.slot_list_append PySem.F.type_list_append bX (ev 1) (aa (cT aF (cT aF (gw pN (ev 0) jE (jF (ev 4))) (cT AZ aS (cT iK ei (au fL (hr.mono (by decide)) rfl (aa (ev 0) (aa (ev 4) ai)))))) (gw pN (ev 0) (jF (ev 4)) jE)) ai)))
     (av (jc (lA PySem.F.plainAttrs_list PySem.F.slot_list_append PySem.F.type_list_append bX (ev 1) (aa (cT aF (cT aF (gw pN (ev 0) jE (jF (ev 4))) aS) (gw pN (ev 0) (jF (ev 4)) jE)) ai)))
     (aK (jc (lA PySem.F.plainAttrs_list PySem.F.slot_list_append PySem.F.type_list_append bX (ev 1) (aa (cT aF (cT aF (gw pN (ev 0) jE (jF (ev 4))) aS) (gw pN (ev 0) (jF (ev 4)) jE)) ai)))))))
     J5) fun r4 J4 e4=>?_
 refine bE (rest:=(aq dS).drop 3) (av (um PassesOwn.never rfl (Iz rfl B.range (aa ei (aa (aU bH rfl B.len dg (aa (ev 2) ai)) ai))) (aA (i:=3) jy.nd rfl (Or.inl rfl))
       (aK (jc (lA PySem.F.plainAttrs_list PySem.F.slot_list_append PySem.F.type_list_append bX (ev 1) (aa (cT aF (cT aF (lA PySem.F.plainAttrs_str PySem.F.slot_str_join PySem.F.type_str_join fj aS (aa (gw iN (ev 2) jE (jF (ev 3))) ai)) aS) (lA PySem.F.plainAttrs_str PySem.F.slot_str_join PySem.F.type_str_join fj aS (aa (gw iN (ev 2) (jF (ev 3)) jE) ai))) ai)))))
     J4) fun r3 J3 e3=>?_
 refine bE (rest:=(aq dS).drop 2) (av (jc (lA PySem.F.plainAttrs_list PySem.F.slot_list_append PySem.F.type_list_append bX (ev 1) (aa (lA PySem.F.plainAttrs_str PySem.F.slot_str_join PySem.F.type_str_join fj aS (aa (gw iN (ev 2) jE (jF (eun EG ei))) ai)) ai)))
     J3) fun r2 J2 e2=>?_
 refine ⟨_,(av (sset (i:=1) jy.nd rfl (Or.inl rfl) (bO (aa aS (aa aS (aa aS (aa (cT aF (ev 0) aS) (aa (cT aF aS (ev 0)) (aa (cT aF (ev 0) aS) (aa (cT aF aS (ev 0)) (aa (cT aF (ev 0) aS) (aa (La PySem.F.plainAttrs_str PySem.F.slot_str_upper PySem.F.type_str_upper FH (ev 0)) ai)))))))))))
     (av (sset (i:=2) jy.nd rfl (Or.inl rfl) (lA PySem.F.plainAttrs_str PySem.F.slot_str_split PySem.F.type_str_split lD (ev 0) (aa aS ai)))
     J2)),?_⟩
 try walk_at "rn"
 have w2:(Str.ofString "\n").length=1:=by decide +kernel
 have w3:(Str.ofString " -").length=2:=by decide +kernel
 refine ⟨by omega,by omega,by omega,by omega,by omega,by omega,fun p np=>⟨by decide +kernel,by omega,by omega,fun D nD=>?_⟩⟩
 obtain ⟨bs,eb⟩:∃ bs,bs=[Str.ofString "",Str.ofString " ",Str.ofString "-",t++Str.ofString " ",Str.ofString " "++t,t++Str.ofString "\n",Str.ofString "\n"++t,t++Str.ofString " -",Txt.upper t]:=⟨_,rfl⟩
 have h0:∀ b∈bs,u6 t b/\b.length < 1000000:=by rw [eb];exact fun b hb=>⟨GH lk b hb,GI ht b hb⟩
 have l0:bs.length=9:=by rw [eb];rfl
 rw [show [V.str (Str.ofString ""),V.str (Str.ofString " "),V.str (Str.ofString "-"),V.str (t++Str.ofString " "),V.str (Str.ofString " "++t),V.str (t++Str.ofString "\n"),V.str (Str.ofString "\n"++t),V.str (t++Str.ofString " -"),V.str (Txt.upper t)]=bs.map V.str from by rw [eb];rfl] at nD ⊢
 clear eb
 have ne:D≠p:=fun z=>by rw [z] at nD;have:=nD.1;rw [ah] at this;cases this
 have kk:=(Ext.new (K:=K) (o:=.lst (List.map V.str (Txt.split t (Str.ofString " ")))) nD).kp (p:=p)
 have hp:=(Ext.new (K:=K) (o:=.lst (List.map V.str (Txt.split t (Str.ofString " ")))) nD).at (ah (H:=H) (a:=p) (o:=.lst (bs.map V.str)))
 have hD:=ah (H:=upd H p (.lst (bs.map V.str))) (a:=D) (o:=.lst (List.map V.str (Txt.split t (Str.ofString " "))))
 generalize upd (upd H p (.lst (bs.map V.str))) D (.lst (List.map V.str (Txt.split t (Str.ofString " "))))=G at kk hp hD ⊢
 have fin:∀ (G':Hp) (cs:List Str),G' p=some (.lst (cs.map V.str))->Kp K p G G'->cs.length<=1000000->(∀ b∈cs,u6 t b/\b.length < 1000000)->Q (.ref p) G':=fun G' cs h1 h2 h3 h4=>q p cs G' np ((kk.trans h2).ext np) h1 h3 h4
 rw [e2]
 try walk_at "rn"
 refine ⟨.inl ⟨_,aZ.of hp⟩,_,aZ.of hD,fun c nc=>?_⟩
 rw [D9,<- List.map_dropLast]
 have x1:=Ext.new (K:=K) (o:=.lst (List.map V.str (Txt.split t (Str.ofString " ")).dropLast)) nc
 have dl:=jl (Txt.split t (Str.ofString " ")).dropLast fun p hp=>List.dropLast_subset _ hp
 rw [List.length_dropLast] at dl
 refine ⟨(Txt.split t (Str.ofString " ")).dropLast,aZ.of ah,by omega,by omega,bs.map V.str,x1.at hp,by rw [List.length_map];omega,?_⟩
 have s1:∀ (G':Hp) (cs:List Str) (b:Str),G' p=some (.lst (cs.map V.str))->G' D=some (.lst (List.map V.str (Txt.split t (Str.ofString " "))))->Kp K p G G'->
     upd G' p (.lst (cs.map V.str++[V.str b])) p=some (.lst ((cs++[b]).map V.str))/\upd G' p (.lst (cs.map V.str++[V.str b])) D=some (.lst (List.map V.str (Txt.split t (Str.ofString " "))))/\Kp K p G (upd G' p (.lst (cs.map V.str++[V.str b]))):=fun G' cs b h1 h2 h3=>
   ⟨by rw [ah,List.map_append];rfl,by rw [aV ne];exact h2,h3.trans (Kp.upd h1)⟩
 have s2:∀ (cs:List Str) (b:Str),(∀ b∈cs,u6 t b/\b.length < 1000000)->(u6 t b/\b.length < 1000000)->∀ b'∈cs++[b],u6 t b'/\b'.length < 1000000:=fun cs b h g b' m=>by
   rcases List.mem_append.mp m with m | m
   . exact h b' m
   . rw [List.mem_singleton.mp m];exact g
 obtain ⟨p2,D2,k2⟩:=s1 _ bs (Str.join (Str.ofString " ") (Txt.split t (Str.ofString " ")).dropLast) (x1.at hp) (x1.at hD) x1.kp
 have b2:=s2 bs _ h0 ⟨Gz lk,by omega⟩
 have l2:(bs++[Str.join (Str.ofString " ") (Txt.split t (Str.ofString " ")).dropLast]).length=10:=by rw [List.length_append,l0];rfl
 clear h0 l0 hp x1 dl
 generalize bs++[Str.join (Str.ofString " ") (Txt.split t (Str.ofString " ")).dropLast]=cs at p2 b2 l2
 generalize upd _ p _=G2 at p2 D2 k2 ⊢
 rw [e3]
 simp_arith [bC D2]
 refine ⟨by rw [List.length_map];omega,by rw [List.length_map];omega,?_⟩
 rw [List.length_map]
 refine lW (fun i σ G'=>∃ (v3:Option V) (ds:List Str),σ=[some (.str t),some (.ref p),some (.ref D),v3,none]/\G' p=some (.lst (ds.map V.str))/\G' D=some (.lst (List.map V.str (Txt.split t (Str.ofString " "))))/\Kp K p G G'/\ds.length<=10 + i/\∀ b∈ds,u6 t b/\b.length < 1000000) ⟨_,cs,rfl,p2,D2,k2,by omega,b2⟩ ?_ ?_
 . rintro i σ G3 hi ⟨v3,ds,rfl,p3,D3,k3,l3,b3⟩
   have Mv:i + 1 < (Txt.split t (Str.ofString " ")).length:=by omega
   try walk_at "rn"
   refine ⟨.inl ⟨_,aZ.of p3⟩,_,aZ.of D3,fun c1 n1=>?_⟩
   have ei:(1:Int) + (i:Int)=((i + 1:Nat):Int):=by omega
   have x1:=Ext.new (K:=K) (o:=.lst (List.map V.str ((Txt.split t (Str.ofString " ")).take (i + 1)))) n1
   rw [ei,tM,<- List.map_take]
   have t1:=jl ((Txt.split t (Str.ofString " ")).take (i + 1)) fun p hp=>List.mem_of_mem_take hp
   have t2:=jl ((Txt.split t (Str.ofString " ")).drop (i + 1)) fun p hp=>List.mem_of_mem_drop hp
   rw [List.length_take,Nat.min_eq_left (Nat.le_of_lt Mv)] at t1
   rw [List.length_drop] at t2
   have w4:(Str.ofString "  ").length=2:=by decide +kernel
   refine ⟨_,aZ.of ah,by omega,by omega,by omega,_,aZ.of (x1.at D3),fun c2 n2=>?_⟩
   have x2:=x1.trans (Ext.new (o:=.lst (List.map V.str ((Txt.split t (Str.ofString " ")).drop (i + 1)))) n2)
   rw [ou,<- List.map_drop]
   have ll:(Str.join (Str.ofString " ") ((Txt.split t (Str.ofString " ")).take (i + 1))++Str.ofString "  ").length<=(i + 1) * 100001 + 2:=by rw [Str.length_append];omega
   refine ⟨_,aZ.of ah,by omega,by omega,by omega,_,x2.at p3,by rw [List.length_map];omega,?_⟩
   obtain ⟨p4,D4,k4⟩:=s1 _ ds (Str.join (Str.ofString " ") ((Txt.split t (Str.ofString " ")).take (i + 1))++Str.ofString "  "++Str.join (Str.ofString " ") ((Txt.split t (Str.ofString " ")).drop (i + 1))) (x2.at p3) (x2.at D3) (k3.trans x2.kp)
   exact ⟨_,by rw [List.map_append];rfl,D4,k4,by rw [List.length_append];simp;omega,s2 _ _ b3 ⟨Jc lk (by omega) Mv,by rw [Str.length_append];omega⟩⟩
 . rintro σ G3 ⟨v3,ds,rfl,p3,D3,k3,l3,b3⟩
   rw [e4]
   try walk_at "rn"
   refine ⟨t,rfl,by omega,fun S ps G4 nS x4 hS lS hs=>⟨S,rfl,⟨_,aZ.of hS⟩,?_⟩⟩
   have TV:S≠p:=fun z=>by rw [z] at nS;have:=nS.1;rw [p3] at this;cases this
   have l5:ds.length<=16:=by omega
   refine jN (xs:=ps.map V.int) (fun i σ G'=>∃ (v4:Option V) (ds:List Str),σ=[some (.str t),some (.ref p),some (.ref D),v3,v4]/\G' p=some (.lst (ds.map V.str))/\G' S=some (.lst (List.map V.int ps))/\Kp K p G G'/\ds.length<=16 + 3 * i/\∀ b∈ds,u6 t b/\b.length < 1000000) ⟨_,ds,rfl,x4.at p3,hS,k3.trans x4.kp,l5,b3⟩ ?_ ?_ ?_
   . rintro i σ G' _ ⟨v4,ds,rfl,_,h,_⟩
     exact aZ.of h
   . rintro i x σ G5 hx ⟨v4,ds,rfl,p5,S5,k5,l5,b5⟩
     rw [List.getElem?_map] at hx
     obtain ⟨a,ha,rfl⟩:=Option.map_eq_some_iff.mp hx
     have hi:i < ps.length:=(List.getElem?_eq_some_iff.mp ha).1
     obtain ⟨n,rfl,st⟩:=hs a (List.mem_of_getElem? ha)
     have hn:n<=t.length:=by
       obtain ⟨c,hc,_⟩:=st.tT
       have:=(List.getElem?_eq_some_iff.mp hc).1
       rw [str_len]
       omega
     obtain ⟨r0,ra,b,rb,rn⟩:=rE st
     have rf:=Jb lk.sc st
     have r1:1<=(gC t.cps.toList n).length:=List.length_pos_iff.mpr r0
     have sl:=Fq hn
     have sf:=uR hn
     have l1:=Txt.slice_le t none (some (n:Int))
     have l2:=Txt.slice_le t (some (n:Int)) none
     obtain ⟨k,hk,hk0,hk1⟩:∃ k:Nat,k=61 - (gC t.cps.toList n).length/\1<=k/\k < 61:=⟨_,rfl,by omega,by omega⟩
     have ek:(61:Int) - ((gC t.cps.toList n).length:Int)=(k:Int):=by omega
     have ml:(Txt.mul (Str.ofString "1") (k:Int)).length=k:=by rw [str_len,mul_ones k hk1,List.length_replicate]
     have w5:(Str.ofString "0").length=1:=by decide +kernel
     have w6:(Str.ofString "++").length=2:=by decide +kernel
     have g1:u6 t (Txt.slice t none (some (n:Int))++Txt.mul (Str.ofString "1") (k:Int)++Txt.slice t (some (n:Int)) none)/\(Txt.slice t none (some (n:Int))++Txt.mul (Str.ofString "1") (k:Int)++Txt.slice t (some (n:Int)) none).length < 1000000:=by
       refine ⟨Al st (GO k) (by rw [dQ,dQ,sl,sf,mul_ones k hk1,List.append_assoc]) ?_,by rw [Str.length_append,Str.length_append];omega⟩
       rw [List.length_replicate]
       unfold mW
       rw [decide_eq_false (by omega)]
       rfl
     have g2:u6 t (Txt.slice t none (some (n:Int))++Str.ofString "0"++Txt.slice t (some (n:Int)) none)/\(Txt.slice t none (some (n:Int))++Str.ofString "0"++Txt.slice t (some (n:Int)) none).length < 1000000:=by
       refine ⟨Al (ins:=[48]) st rfl (by rw [dQ,dQ,sl,sf,List.append_assoc];rfl) ?_,by rw [Str.length_append,Str.length_append];omega⟩
       unfold mW
       rw [show decide ([48].length + (gC t.cps.toList n).length<=1)=false from decide_eq_false (by simp;omega)]
       show (_&&(false||!((48::(gC t.cps.toList n)).head?==some 48)))=false
       rw [List.head?_cons]
       simp
     have g3:u6 t (Txt.slice t none (some (n:Int))++Str.ofString "++"++Txt.slice t (some (n:Int)) none)/\(Txt.slice t none (some (n:Int))++Str.ofString "++"++Txt.slice t (some (n:Int)) none).length < 1000000:=
       ⟨Gy (a:=t.cps.toList.take n) (b:=t.cps.toList.drop n) (by rw [dQ,dQ,sl,sf,List.append_assoc];rfl),by rw [Str.length_append,Str.length_append];omega⟩
     have m1:(Txt.slice t none (some (n:Int))++Txt.mul (Str.ofString "1") (k:Int)).length<=t.length + 61:=by rw [Str.length_append];omega
     have m2:(Txt.slice t none (some (n:Int))++Str.ofString "0").length<=t.length + 61:=by rw [Str.length_append];omega
     have m3:(Txt.slice t none (some (n:Int))++Str.ofString "++").length<=t.length + 61:=by rw [Str.length_append];omega
     try walk_at "rn"
     refine ⟨.inl ⟨_,aZ.of p5⟩,by omega,t,n,rfl,by omega,st,_,rfl,?_⟩
     rw [ek]
     have gg:=s2 _ _ (s2 _ _ (s2 _ _ b5 g1) g2) g3
     clear g1 g2 g3
     refine ⟨GN k hk1,by omega,by omega,by omega,_,p5,by rw [List.length_map];omega,.inl ⟨_,aZ.of ah⟩,by omega,by omega,by omega,by omega,by rw [List.length_append,List.length_map];simp;omega,.inl ⟨_,aZ.of ah⟩,by omega,by omega,by omega,by omega,by rw [List.length_append,List.length_append,List.length_map];simp;omega,_,by rw [List.map_append,List.map_append,List.map_append];rfl,by rw [aV TV,aV TV,aV TV];exact S5,k5.trans ((Kp.upd p5).trans ((Kp.upd ah).trans (Kp.upd ah))),by rw [List.length_append,List.length_append,List.length_append];simp;omega,gg⟩
   . rintro σ G5 ⟨v4,ds,rfl,p5,S5,k5,l5,b5⟩
     rw [e5]
     try walk_at "rn"
     rw [List.length_map] at l5
     exact fin G5 ds p5 k5 (by omega) b5
end
section
variable {P:Program} {w:World} {K:PySem.W.Frag} {mg:Str->Option Value} {base:Heap}
def yW (K:PySem.W.Frag):Sp:=fun vs H Q _=>∃ p,vs=[.ref p]/\Wl H p/\∀ n1 n2 n3 n4 a b c pl ms (H':Hp),pX n1 n2 n3 n4 a b c pl ms->Wl H' p->Kp K p H H'->Q (.str (sj n1 n2 n3 n4 a b c pl ms)) H'
theorem cO:aD ["_law_state","_law_words","_law_k","_law_plan","_law_sizes","_law_marks"] ["_law_state"] (af bu):=⟨rfl,rfl,rfl,by decide +kernel,rfl,by decide +kernel,by decide +kernel⟩
theorem qQ {f:Addr} {fd:FuncData} (F:fh K "_law_head_text" "_law_head_text" bu f fd) {aG aP cF cR cN:Addr} {tE tF t1 t2 t3 t4:Tok} (B:B K mg aG aP cF cR cN tE tF t1 t2 t3 t4) (aj:Callee P w K mg base "_law_digit" 1 ["_law_state","_law_base"] (gF K)) (aY:Callee P w K mg base "_law_first" 2 ["_law_state"] (oE K)) (bg:Callee P w K mg base "_law_rising" 2 ["_law_state","_law_many","_law_first_here"] (lH K)) (cX:Callee P w K mg base "_law_line" 1 ["_law_parts","_law_sign"] (tP K)):bf P w K mg base eZ 3 f fd ["_law_state"] (yW K):=by
 refine F.gP cO (fun vs H Q E h=>?_) (fun cG A outer s H vs Q E hr h=>?_)
 . obtain ⟨p,rfl,_⟩:=h
   rfl
 obtain ⟨p,rfl,hp,q⟩:=h
 refine bE (rest:=(aq bu).drop 7) (aK (aW (lA PySem.F.plainAttrs_str PySem.F.slot_str_join PySem.F.type_str_join fj aS (aa (ev 1) ai)))) fun r7 J7 e7=>?_
 refine bE (rest:=(aq bu).drop 6) (av (jc (lA PySem.F.plainAttrs_list PySem.F.slot_list_append PySem.F.type_list_append bX (ev 1) (aa (au cX (hr.mono (by decide)) rfl (aa (rz (jO.mk (N:=["_law_mark"]) (src:=[none]) rfl rfl) rfl (cI (ev 5)) (fun _ _ _ _=>(aA (i:=0) (show (["_law_mark"]:List Str).Nodup from by decide +kernel) rfl (Or.inl rfl))) (fun _ _ _ _=>cU) (fun _ _ _ _=>(bR bw rfl B.str dh (aa (ev 0) ai)))) (aa aS ai))) ai)))
     J7) fun r6 J6 e6=>?_
 refine bE (rest:=(aq bu).drop 5) (av (sset (i:=5) cO.nd rfl (Or.inl rfl) (au bg (hr.mono (by decide)) rfl (aa (ev 0) (aa (au aj (hr.mono (by decide)) rfl (aa (ev 0) (aa ei ai))) (aa (cT dD ei (au aY (hr.mono (by decide)) rfl (aa (ev 0) ai))) ai)))))
     J6) fun r5 J5 e5=>?_
 refine bE (rest:=(aq bu).drop 4) (av (jc (lA PySem.F.plainAttrs_list PySem.F.slot_list_append PySem.F.type_list_append bX (ev 1) (aa (lA PySem.F.plainAttrs_str PySem.F.slot_str_join PySem.F.type_str_join fj aS (aa (cT fU (ev 4) (bO (aa (ev 3) ai))) ai)) ai)))
     J5) fun r4 J4 e4=>?_
 refine bE (rest:=(aq bu).drop 3) (av (sset (i:=4) cO.nd rfl (Or.inl rfl) (bO (aa (bR bw rfl B.str dh (aa (cT dD ei (au aj (hr.mono (by decide)) rfl (aa (ev 0) (aa ei ai)))) ai)) (aa (bR bw rfl B.str dh (aa (cT dD ei (au aj (hr.mono (by decide)) rfl (aa (ev 0) (aa ei ai)))) ai)) (aa (bR bw rfl B.str dh (aa (cT dD ei (au aj (hr.mono (by decide)) rfl (aa (ev 0) (aa ei ai)))) ai)) ai)))))
     J4) fun r3 J3 e3=>?_
 refine bE (rest:=(aq bu).drop 2) (av (sset (i:=3) cO.nd rfl (Or.inl rfl) (iJ ck (bO (aa aS (aa aS ai))) (au aj (hr.mono (by decide)) rfl (aa (ev 0) (aa ei ai))) (fun _ _=>rfl)))
     J3) fun r2 J2 e2=>?_
 refine ⟨_,(av (sset (i:=1) cO.nd rfl (Or.inl rfl) (bO (aa aS ai)))
     (av (um PassesOwn.never rfl (qk rfl B.range (aa ei ai)) (aA (i:=2) cO.nd rfl (Or.inl rfl))
       (aK (jc (lA PySem.F.plainAttrs_list PySem.F.slot_list_append PySem.F.type_list_append bX (ev 1) (aa (bR bw rfl B.str dh (aa (au aY (hr.mono (by decide)) rfl (aa (ev 0) ai)) ai)) ai)))))
     J2)),?_⟩
 try walk_at "rn"
 intro W nW
 have x1:=Ext.new (K:=K) (o:=.lst [V.str (Str.ofString "head")]) nW
 have GP:W≠p:=hp.ne nW
 refine lW (fun k σ H'=>∃ (v2:Option V) (ns:List Int),σ=[some (.ref p),some (.ref W),v2,none,none,none]/\H' W=some (.lst ((Str.ofString "head"::ns.map aC).map V.str))/\ns.length=k/\(∀ j∈ns,0<=j/\j.natAbs < 10 ^ 60)/\Wl H' p/\j5 K p W (upd H W (.lst [V.str (Str.ofString "head")])) H') ⟨_,[],rfl,ah,rfl,by simp,hp.ext x1,j5.refl⟩ ?_ ?_
 . rintro k σ H1 hk ⟨v2,ns,rfl,hW,ln,hb,oX,k1⟩
   try walk_at "rn"
   have Mt:k < 4:=by simpa using hk
   refine ⟨.inl ⟨_,aZ.of hW⟩,p,rfl,oX,fun i H2 i0 i1 j7 k2=>⟨i,rfl,cM (by omega),_,k2.keep W _ hW GP,by simp;omega,ns++[i],?_,by rw [List.length_append,ln];rfl,?_,j7.upd GP.symm,k1.trans (k2.l.trans (Kp.r (Kp.upd (k2.keep W _ hW GP))))⟩⟩
   . rw [List.map_append,List.map_append];rfl
   . intro j hj
     rcases List.mem_append.1 hj with h | h
     . exact hb j h
     . rw [List.mem_singleton] at h
       omega
 . rintro σ H1 ⟨v2,ns,rfl,hW,ln,hb,oX,k1⟩
   have ln4:ns.length=4:=by simpa using ln
   obtain ⟨n1,n2,n3,n4,rfl⟩:∃ n1 n2 n3 n4,ns=[n1,n2,n3,n4]:=by
     rcases ns with _ | ⟨n1,_ | ⟨n2,_ | ⟨n3,_ | ⟨n4,_ | ⟨n5,ns⟩⟩⟩⟩⟩ <;> simp only [List.length_cons,List.length_nil] at ln4 <;> first | omega | exact ⟨_,_,_,_,rfl⟩
   clear ln ln4
   have hn:cE [n1,n2,n3,n4]/\0<=n1/\0<=n2/\0<=n3/\0<=n4:=⟨fun i hi=>(hb i hi).2,(hb n1 (by simp)).1,(hb n2 (by simp)).1,(hb n3 (by simp)).1,(hb n4 (by simp)).1⟩
   rw [e2]
   try walk_at "rn"
   intro D2 nD2
   have x2:=Ext.new (K:=K) (o:=.lst [V.str (Str.ofString "fullest"),V.str (Str.ofString "eldest")]) nD2
   refine ⟨p,2,rfl,oX.ext x2,by decide,by decide,fun d H2 d0 d1 j7 k2=>⟨d,rfl,_,bC (k2.keep D2 _ ah (oX.ne nD2)),?_⟩⟩
   obtain ⟨pl,vn,epl⟩:∃ pl,(pl=Str.ofString "fullest"∨pl=Str.ofString "eldest")/\uc [V.str (Str.ofString "fullest"),V.str (Str.ofString "eldest")] d=some (.str pl):=by
     rcases (by omega:d=0∨d=1) with rfl | rfl
     . exact ⟨_,.inl rfl,rfl⟩
     . exact ⟨_,.inr rfl,rfl⟩
   refine ⟨_,epl,?_⟩
   have NS:=k2.keep W _ (x2.at hW) GP
   have Mm:=k1.trans (x2.kp.trans k2).l
   rw [e3]
   try walk_at "rn"
   refine ⟨p,64,rfl,j7,by decide,by decide,fun a H3 a0 a1 hp3 k3=>⟨a,rfl,cM (by omega),p,14,rfl,hp3,by decide,by decide,fun b H4 b0 b1 rW k4=>⟨b,rfl,cM (by omega),p,64,rfl,rW,by decide,by decide,fun c H5 c0 c1 uM k5=>⟨c,rfl,cM (by omega),fun D3 nD3=>?_⟩⟩⟩⟩
   have x5:=Ext.new (K:=K) (o:=.lst [V.str (Str.ofString (toString (1 + a))),V.str (Str.ofString (toString (3 + b))),V.str (Str.ofString (toString (1 + c)))]) nD3
   have Mz:=ah (H:=H5) (a:=D3) (o:=.lst [V.str (Str.ofString (toString (1 + a))),V.str (Str.ofString (toString (3 + b))),V.str (Str.ofString (toString (1 + c)))])
   have LO:=k3.trans (k4.trans k5)
   have TX:=x5.at (LO.keep W _ NS GP)
   have uM:=uM.ext x5
   have kp5:=Mm.trans (LO.trans x5.kp).l
   generalize upd H5 D3 _=G5 at x5 Mz TX uM kp5 ⊢
   rw [e4]
   try walk_at "rn"
   refine ⟨.inl ⟨_,aZ.of TX⟩,fun D4 n4'=>?_⟩
   have x6:=Ext.new (K:=K) (o:=.lst [V.str pl]) n4'
   refine ⟨_,x6.at Mz,by simp,fun D5 n5'=>?_⟩
   have sr:cE [1 + a,3 + b,1 + c]:=fun i hi=>by
     simp only [List.mem_cons,List.not_mem_nil,or_false] at hi
     rcases hi with rfl | rfl | rfl <;> omega
   have lp:pl.length<=101:=by rcases vn with h | h <;> rw [h] <;> decide +kernel
   have lr:=wH sr lp
   have er:[V.str (Str.ofString (toString (1 + a))),V.str (Str.ofString (toString (3 + b))),V.str (Str.ofString (toString (1 + c)))]++[V.str pl]=List.map V.str [aC (1 + a),aC (3 + b),aC (1 + c),pl]:=rfl
   rw [er]
   have x7:=x6.trans (Ext.new (o:=.lst (List.map V.str [aC (1 + a),aC (3 + b),aC (1 + c),pl])) n5')
   have hW7:=x7.at TX
   refine ⟨[aC (1 + a),aC (3 + b),aC (1 + c),pl],aZ.of ah,?_,Nat.le_trans lr (by decide),_,hW7,by simp,?_⟩
   . have:=eX (sep:=Str.ofString ",") (m:=101) [aC (1 + a),aC (3 + b),aC (1 + c),pl] (fun t ht=>by
       simp only [List.mem_cons,List.not_mem_nil,or_false] at ht
       rcases ht with rfl | rfl | rfl | rfl
       . exact aE (mZ (sr _ (by simp)))
       . exact aE (mZ (sr _ (by simp)))
       . exact aE (mZ (sr _ (by simp)))
       . exact lp)
     rw [show (Str.ofString ",").length=1 from by decide +kernel] at this
     simp only [List.length_cons,List.length_nil] at this
     omega
   have k7:=kp5.trans (x7.kp.l.trans (Kp.r (Kp.upd (o:=.lst (List.map V.str (Str.ofString "head"::List.map aC [n1,n2,n3,n4])++[V.str (Str.join (Str.ofString ",") [aC (1 + a),aC (3 + b),aC (1 + c),pl])])) hW7)))
   have Eg:=(uM.ext x7).upd (o:=.lst (List.map V.str (Str.ofString "head"::List.map aC [n1,n2,n3,n4])++[V.str (Str.join (Str.ofString ",") [aC (1 + a),aC (3 + b),aC (1 + c),pl])])) GP.symm
   have hW8:=ah (H:=upd (upd G5 D4 (.lst [V.str pl])) D5 (.lst (List.map V.str [aC (1 + a),aC (3 + b),aC (1 + c),pl]))) (a:=W) (o:=.lst (List.map V.str (Str.ofString "head"::List.map aC [n1,n2,n3,n4])++[V.str (Str.join (Str.ofString ",") [aC (1 + a),aC (3 + b),aC (1 + c),pl])]))
   generalize upd (upd (upd G5 D4 (.lst [V.str pl])) D5 _) W _=G8 at k7 Eg hW8 ⊢
   rw [e5]
   try walk_at "rn"
   refine ⟨p,6,rfl,Eg,by decide,by decide,fun m H6 m0 m1 hp6 k6=>?_⟩
   obtain ⟨n,en⟩:∃ n:Nat,m=n:=⟨m.toNat,by omega⟩
   refine ⟨p,rfl,hp6,fun i H9 i0 i1 Lz k9=>⟨i,rfl,p,n,1 + i,by rw [en],Lz,by omega,by omega,by omega,fun M ms H10 hM lm hms pw nM hp10 MC=>?_⟩⟩
   have Oc:=k6.trans (k9.trans MC)
   have LP:=Oc.keep W _ hW8 GP
   have K10:=k7.trans Oc.l
   rw [e6]
   try walk_at "rn"
   have sm:cE ms:=fun j hj=>by have:=hms j hj;omega
   refine ⟨.inl ⟨_,aZ.of LP⟩,⟨_,aZ.of hM⟩,fun D6 n6'=>gE (f:=V.int) (g:=fun i=>V.str (aC i)) (aZ.of hM) n6' (by omega) (fun j hj H' Q' xx qq=>?_) (fun H11 hD6 x11=>?_)⟩
   . try walk_at "rn"
     exact ⟨cM (mZ (sm j hj)),qq _ Ext.refl⟩
   have el:List.map (fun i=>V.str (aC i)) ms=(ms.map aC).map V.str:=by rw [List.map_map];rfl
   refine ⟨D6,Str.ofString ",",ms.map aC,101,rfl,by rw [hD6,el],by decide +kernel,fun t ht=>?_,fun t ht=>?_,by rw [List.length_map];omega,fun H12 LD=>⟨_,(x11.trans LD).at LP,by simp,?_⟩⟩
   . obtain ⟨j,hj,rfl⟩:=List.mem_map.mp ht
     exact aE (mZ (sm j hj))
   . obtain ⟨j,hj,rfl⟩:=List.mem_map.mp ht
     exact jo j
   have xx:=x11.trans LD
   rw [e7]
   try walk_at "rn"
   have hd:pX n1 n2 n3 n4 (1 + a) (3 + b) (1 + c) pl ms:=by
     refine ⟨hn,⟨by omega,by omega,by omega⟩,vn,by omega,sm,List.all_eq_true.mpr fun j hj=>decide_eq_true (by have:=hms j hj;omega),oS pw⟩
   have hl:=oR hn.1 sr lp sm
   refine ⟨[Str.ofString "head",aC n1,aC n2,aC n3,aC n4,lT (1 + a) (3 + b) (1 + c) pl,kK ms],aZ.of ah,?_,?_,?_⟩
   . omega
   . exact Nat.le_trans hl.2 (by omega)
   . exact q n1 n2 n3 n4 (1 + a) (3 + b) (1 + c) pl ms _ hd ((hp10.ext xx).upd GP.symm) ((K10.trans (xx.kp.l.trans (Kp.r (Kp.upd (xx.at LP))))).kp nW)
end
section
variable {P:Program} {w:World} {K:PySem.W.Frag} {mg:Str->Option Value} {base:Heap}
def Od (K:PySem.W.Frag) (H:Hp) (v:V):Prop:=Gq K H v∨∃ t:Str,v=.str t/\t.length < 1000000/\cH t=none
def Oe (K:PySem.W.Frag) (H:Hp) (v:V):Prop:=Gq K H v∨∃ t:Str,v=.str t/\t.length < 1000000/\rP t
def rQ (K:PySem.W.Frag):Sp:=fun vs H Q _=>∃ x v,vs=[.str x,v]/\((x=Str.ofString "room"/\Od K H v)∨(x=Str.ofString "head"/\Oe K H v))/\∀ H',Ext K H H'->Q (.bl true) H'
theorem mX:aD ["_law_word","_law_thing"] ["_law_word","_law_thing"] (af eW):=⟨rfl,rfl,rfl,by decide +kernel,rfl,by decide +kernel,by decide +kernel⟩
theorem sW {f:Addr} {fd:FuncData} (F:fh K "_law_refused" "_law_refused" eW f fd) {aG aP cF cR cN:Addr} {tE tF t1 t2 t3 t4:Tok} (B:B K mg aG aP cF cR cN tE tF t1 t2 t3 t4) (jz:mw P w K mg base "read_room" 9 ["text"] (tS K cN)) (jA:mw P w K mg base "read_head" 5 ["text"] (Ji K cN)) (hN:PySem.W.exmOne K (.ref cN) (.ref cN)=some true):bf P w K mg base eZ 10 f fd ["_law_word","_law_thing"] (rQ K):=by
 refine F.gP mX (fun vs H Q E h=>?_) (fun cG A outer s H vs Q E hr h=>?_)
 . obtain ⟨x,v,rfl,_⟩:=h
   rfl
 obtain ⟨x,v,rfl,h,q⟩:=h
 refine ⟨_,(av (NL mX.nd ⟨rfl,rfl⟩ rfl (fun σ1 E1 xe pn hp=>(aK (jD (cj cS (ev 0) aS (aI _)) (aK (jc (Cr jz hp (hr.mono (by decide)) rfl (aa (ev 1) ai)))) (aK (jc (Cr jA hp (hr.mono (by decide)) rfl (aa (ev 1) ai)))))))
       (Lq.cons rfl B.rH (fun a xe pn=>(aK (aW vY))) Lq.nil))
     (aK (aW vY))),?_⟩
 try walk_at "rn"
 simp_arith [tAt]
 rcases h with ⟨rfl,h⟩ | ⟨rfl,h⟩
 . refine aQ rfl ?_
   rcases h with h | ⟨t,rfl,ht,no⟩
   . exact .inl ⟨v,rfl,h,cN,rfl,B.xN.i,.inl ⟨hN,q _ Ext.refl⟩⟩
   . exact .inr ⟨t,rfl,ht,fun _ H' x=>⟨cN,rfl,B.xN.i,.inl ⟨hN,q _ x⟩⟩,fun y ey=>by rw [no] at ey;cases ey⟩
 . refine aL (by decide +kernel) ?_
   rcases h with h | ⟨t,rfl,ht,no⟩
   . exact .inl ⟨v,rfl,h,cN,rfl,B.xN.i,.inl ⟨hN,q _ Ext.refl⟩⟩
   . exact .inr ⟨t,rfl,ht,fun _ H' x=>⟨cN,rfl,B.xN.i,.inl ⟨hN,q _ x⟩⟩,fun n1 n2 n3 n4 a b c pl ms hh=>absurd hh (no n1 n2 n3 n4 a b c pl ms)⟩
theorem GQ {pl:Int->Int} {r:Rm} (ok:r.ok pl):(r.x pl).length<=48000:=by
 have l1:(Str.ofString " ").length=1:=by decide +kernel
 have l2:(Str.ofString ";").length=1:=by decide +kernel
 have l3:(Str.ofString ",").length=1:=by decide +kernel
 have l4:(Str.ofString "@").length=1:=by decide +kernel
 cases r with
 | leaf n ra rows=>
   obtain ⟨o1,o2,o3⟩:=ok
   have hl:∀ t∈rows.map fun q=>gQ q.2.k (q.2.vs.map (·.2)),t.length<=1800:=by
     intro t ht
     obtain ⟨q,hq,rfl⟩:=List.mem_map.mp ht
     exact uJ (o2 q hq)
   have a:=eY (sep:=Str.ofString ";") _ hl
   rw [List.length_map,l2] at a
   have b:=aE o1
   have c:(Str.ofString "leaf").length=4:=by decide +kernel
   unfold Rm.x
   show (Str.ofString "leaf"++Str.ofString " "++(aC n++Str.ofString " "++bx (Str.ofString ";") _)).length<=_
   rw [Str.length_append,Str.length_append,Str.length_append,Str.length_append]
   omega
 | inner n pa lq ca ch ta dB=>
   obtain ⟨o1,o2,o3,o4,o5,o6,o7⟩:=ok
   have hp:∀ t∈lq.map aC,t.length<=101:=by
     intro t ht
     obtain ⟨q,hq,rfl⟩:=List.mem_map.mp ht
     exact aE (o2 q hq)
   have hc:∀ t∈ch.map (dY pl),t.length<=203:=by
     intro t ht
     obtain ⟨q,hq,rfl⟩:=List.mem_map.mp ht
     have:=aE (o4 q hq).1
     have:=aE (o4 q hq).2
     unfold dY
     rw [Str.length_append,Str.length_append]
     omega
   have ht:∀ t∈dB.map fun q=>q.2.x,t.length<=600:=by
     intro t ht
     obtain ⟨q,hq,rfl⟩:=List.mem_map.mp ht
     exact Nt.len (o6 q hq)
   have a1:=eY (sep:=Str.ofString ",") _ hp
   have a2:=eY (sep:=Str.ofString ",") _ hc
   have a3:=eY (sep:=Str.ofString ";") _ ht
   rw [List.length_map] at a1 a2 a3
   rw [l3] at a1 a2
   rw [l2] at a3
   have b:=aE o1
   have c:(Str.ofString "inner").length=5:=by decide +kernel
   unfold Rm.x
   show (Str.ofString "inner"++Str.ofString " "++(aC n++Str.ofString " "++(bx (Str.ofString ",") (lq.map aC)++Str.ofString " "++(bx (Str.ofString ",") (ch.map (dY pl))++Str.ofString " "++bx (Str.ofString ";") _)))).length<=_
   simp only [Str.length_append]
   omega
def JU (K:PySem.W.Frag):Sp:=fun vs H Q _=>∃ (t:Str) (x:Rd),vs=[.str t]/\t.length < 1000000/\cH t=some x/\∀ T H',Ext K H H'->sI K H H' T x->Q (.ref T) H'
theorem roomQ {cN:Addr}:∀ vs H Q E,JU K vs H Q E->tS K cN vs H Q fun _ _ _=>False:=by
 rintro vs H Q E ⟨t,x,rfl,ht,e,q⟩
 refine .inr ⟨t,rfl,ht,fun no _ _=>(by rw [e] at no;cases no),fun y ey=>?_⟩
 rw [e] at ey
 cases ey
 exact q
def JV (K:PySem.W.Frag):Sp:=fun vs H Q _=>∃ (t:Str) (n1 n2 n3 n4 a b c:Int) (pl:Str) (ms:List Int),vs=[.str t]/\t.length < 1000000/\jY t n1 n2 n3 n4 a b c pl ms/\
 ∀ n1 n2 n3 n4 a b c pl ms,jY t n1 n2 n3 n4 a b c pl ms->∀ T R M H',new K H M->Ext K H H'->GB K H' T R M n1 n2 n3 n4 a b c pl ms->Q (.ref T) H'
theorem Of {cN:Addr}:∀ vs H Q E,JV K vs H Q E->Ji K cN vs H Q fun _ _ _=>False:=by
 rintro vs H Q E ⟨t,n1,n2,n3,n4,a,b,c,pl,ms,rfl,ht,e,q⟩
 exact .inr ⟨t,rfl,ht,fun no _ _=>no n1 n2 n3 n4 a b c pl ms e,q⟩
inductive Thing (K:PySem.W.Frag) (H:Hp):V->Prop
 | cQ:Thing K H .cQ
 | int (i:Int):Thing K H (.int i)
 | bl (b:Bool):Thing K H (.bl b)
 | lst {a:Addr} {xs:List V} (e:H a=some (.lst xs)):Thing K H (.ref a)
 | dk {a:Addr} {xs:List (Key×V)} (e:H a=some (.dK xs)):Thing K H (.ref a)
 | tup {a:Addr} {xs:List V} (e:tupQ K H a=some xs):Thing K H (.ref a)
theorem Thing.no {H:Hp} {v:V} (h:Thing K H v):Gq K H v:=by
 cases h with
 | cQ=>exact ⟨_,.inl .cQ,rfl⟩
 | int i=>exact ⟨_,.inl (.int i),rfl⟩
 | bl b=>exact ⟨_,.inl (.bl b),rfl⟩
 | lst e=>exact ⟨_,.inl (.lst e),rfl⟩
 | dk e=>exact ⟨_,.inl (.dK e),rfl⟩
 | tup e=>exact ⟨_,Nl.tup e,rfl⟩
theorem Thing.kp {p:Addr} {H H':Hp} {v:V} {ys:List V} (k:Kp K p H H') (hp:H p=some (.lst ys)) (h:Thing K H v) (ne:v≠.ref p):Thing K H' v:=by
 cases h with
 | cQ=>exact .cQ
 | int i=>exact .int i
 | bl b=>exact .bl b
 | lst e=>exact .lst (k.keep _ _ e fun z=>ne (by rw [z]))
 | dk e=>exact .dk (k.keep _ _ e fun z=>ne (by rw [z]))
 | tup e=>exact .tup (k.tup hp e)
theorem Thing.ext {H H':Hp} {v:V} (x:Ext K H H') (h:Thing K H v):Thing K H' v:=by
 cases h with
 | cQ=>exact .cQ
 | int i=>exact .int i
 | bl b=>exact .bl b
 | lst e=>exact .lst (x.at e)
 | dk e=>exact .dk (x.at e)
 | tup e=>exact .tup (x.tup e)
theorem pX.sr {n1 n2 n3 n4 a b c:Int} {pl:Str} {ms:List Int} (h:pX n1 n2 n3 n4 a b c pl ms):cE [a,b,c]:=fun i hi=>by
 have:=h.r
 simp only [List.mem_cons,List.not_mem_nil,or_false] at hi
 rcases hi with rfl | rfl | rfl <;> omega
theorem pX.pll {n1 n2 n3 n4 a b c:Int} {pl:Str} {ms:List Int} (h:pX n1 n2 n3 n4 a b c pl ms):pl.length<=101:=by
 rcases h.p with h | h <;> rw [h] <;> decide +kernel
theorem jm.one {t:Str} {a b c a' b' c':Int} {pl Hy:Str} (h:jm t a b c pl) (g:jm t a' b' c' Hy):a=a'/\b=b'/\c=c'/\pl=Hy:=by
 obtain ⟨x,y,z,e,h1,h2,h3,_⟩:=h
 obtain ⟨x',y',z',e',g1,g2,g3,_⟩:=g
 rw [e] at e'
 cases e'
 rw [h1] at g1
 rw [h2] at g2
 rw [h3] at g3
 cases g1
 cases g2
 cases g3
 exact ⟨rfl,rfl,rfl,rfl⟩
theorem jY.one {t:Str} {n1 n2 n3 n4 a b c m1 m2 m3 m4 a' b' c':Int} {pl Hy:Str} {ms TY:List Int} (h:jY t n1 n2 n3 n4 a b c pl ms) (g:jY t m1 m2 m3 m4 a' b' c' Hy TY):n1=m1/\n2=m2/\n3=m3/\n4=m4/\a=a'/\b=b'/\c=c'/\pl=Hy/\ms=TY:=by
 obtain ⟨p1,p2,p3,p4,pr,pm,e,f,_,r,n,_⟩:=h.ex
 obtain ⟨q1,q2,q3,q4,qr,qm,e',f',_,r',n',_⟩:=g.ex
 rw [e] at e'
 cases e'
 rw [f] at f'
 cases f'
 obtain ⟨rfl,rfl,rfl,rfl⟩:=r.one r'
 exact ⟨rfl,rfl,rfl,rfl,rfl,rfl,rfl,rfl,n.one n'⟩
def yX (K:PySem.W.Frag):Sp:=fun vs H Q _=>∃ p,vs=[.ref p]/\Wl H p/\∀ H',Kp K p H H'->Q (.bl true) H'
theorem bV:aD ["_law_state","_law_things","_law_room_here","_law_places","_law_text","_law_head","_law_thing"] ["_law_state"] (af bB):=⟨rfl,rfl,rfl,by decide +kernel,rfl,by decide +kernel,by decide +kernel⟩
theorem vM {f:Addr} {fd:FuncData} (F:fh K "_law_holds" "_law_holds" bB f fd) {aG aP cF cR cN:Addr} {tE tF t1 t2 t3 t4:Tok} (B:B K mg aG aP cF cR cN tE tF t1 t2 t3 t4) (aj:Callee P w K mg base "_law_digit" 1 ["_law_state","_law_base"] (gF K)) (kM:Callee P w K mg base "_law_room" 4 ["_law_state","_law_most"] (yl K)) (gr:Callee P w K mg base "_law_room_text" 3 ["_law_room_here","_law_places"] (yj K)) (gu:Callee P w K mg base "_law_head_text" 3 ["_law_state"] (yW K)) (j3:Callee P w K mg base "_law_bad" 2 ["_law_text"] (GJ K)) (fT:Callee P w K mg base "_law_refused" 10 ["_law_word","_law_thing"] (rQ K)) (kN:Callee P w K mg base "read_room" 9 ["text"] (JU K)) (kO:Callee P w K mg base "read_head" 5 ["text"] (JV K)) (kQ:Callee P w K mg base "room_text" 4 ["room","places"] (BI K)) (kU:Callee P w K mg base "head_text" 3 ["head"] (LM K)):bf P w K mg base eZ 11 f fd ["_law_state"] (yX K):=by
 refine F.gP bV (fun vs H Q E h=>?_) (fun cG A outer s H vs Q E hr h=>?_)
 . obtain ⟨p,rfl,_⟩:=h
   rfl
 obtain ⟨p,rfl,hp,q⟩:=h
 refine bE (rest:=(aq bB).drop 9) (aK (aW (ju (kW cS (au kQ (hr.mono (by decide)) rfl (aa (ev 2) (aa (ev 3) ai))) (ev 4) (aI _)) (lu (kW cS (au kU (hr.mono (by decide)) rfl (aa (au kO (hr.mono (by decide)) rfl (aa (ev 5) ai)) ai)) (ev 5) (aI _)))))) fun r9 J9 e9=>?_
 refine bE (rest:=(aq bB).drop 8) (av (i9 (au kN (hr.mono (by decide)) rfl (aa (ev 4) ai)) (fM (n:=2) rfl (aH (aA (i:=2) bV.nd rfl (Or.inl rfl)) (aH (aA (i:=3) bV.nd rfl (Or.inl rfl)) gA))))
     J9) fun r8 J8 e8=>?_
 refine bE (rest:=(aq bB).drop 7) (av (um PassesOwn.never rfl (cI (cT fU (cT fU (ev 1) (au j3 (hr.mono (by decide)) rfl (aa (ev 5) ai))) (bO (aa (ev 4) ai)))) (aA (i:=6) bV.nd rfl (Or.inl rfl))
       (aK (jD (jd (gy (au fT (hr.mono (by decide)) rfl (aa aS (aa (ev 6) ai))))) (aK (aW vY)) cY)))
     J8) fun r7 J7 e7=>?_
 refine bE (rest:=(aq bB).drop 6) (av (um PassesOwn.never rfl (cI (cT fU (cT fU (ev 1) (au j3 (hr.mono (by decide)) rfl (aa (ev 4) ai))) (bO (aa (ev 5) ai)))) (aA (i:=6) bV.nd rfl (Or.inl rfl))
       (aK (jD (jd (gy (au fT (hr.mono (by decide)) rfl (aa aS (aa (ev 6) ai))))) (aK (aW vY)) cY)))
     J7) fun r6 J6 e6=>?_
 refine bE (rest:=(aq bB).drop 5) (av (jc (lA PySem.F.plainAttrs_list PySem.F.slot_list_append PySem.F.type_list_append bX (ev 1) (aa (dN (aa (ev 5) ai)) ai)))
     J6) fun r5 J5 e5=>?_
 refine bE (rest:=(aq bB).drop 4) (av (jc (lA PySem.F.plainAttrs_list PySem.F.slot_list_append PySem.F.type_list_append bX (ev 1) (aa (bO (aa (ev 4) ai)) ai)))
     J5) fun r4 J4 e4=>?_
 refine bE (rest:=(aq bB).drop 3) (av (sset (i:=5) bV.nd rfl (Or.inl rfl) (au gu (hr.mono (by decide)) rfl (aa (ev 0) ai)))
     J4) fun r3 J3 e3=>?_
 refine bE (rest:=(aq bB).drop 2) (av (sset (i:=4) bV.nd rfl (Or.inl rfl) (au gr (hr.mono (by decide)) rfl (aa (ev 2) (aa (ev 3) ai))))
     J3) fun r2 J2 e2=>?_
 refine bE (rest:=(aq bB).drop 1) (av (i9 (au kM (hr.mono (by decide)) rfl (aa (ev 0) (aa ei ai))) (fM (n:=2) rfl (aH (aA (i:=2) bV.nd rfl (Or.inl rfl)) (aH (aA (i:=3) bV.nd rfl (Or.inl rfl)) gA))))
     J2) fun r1 J1 e1=>?_
 refine ⟨_,(av (sset (i:=1) bV.nd rfl (Or.inl rfl) (bO (aa i8 (aa (au aj (hr.mono (by decide)) rfl (aa (ev 0) (aa ei ai))) (aa vY (aa (bO ai) (aa (dN ai) (aa xy (aa (cT iK ei ei) ai)))))))))
     J1),?_⟩
 try walk_at "rn"
 have nn:∀ {a b:Addr} {o:HO} {H:Hp},H a=some o->new K H b->a≠b:=fun h n z=>by rw [z,n.1] at h;cases h
 refine ⟨p,9,rfl,hp,by decide,by decide,fun d H1 d0 d1 oX k1 p1 n1 p2 n2 p3 n3 W nW=>?_⟩
 have x1:=Ext.new (K:=K) (o:=.lst []) n1
 have x2:=Ext.new (K:=K) (o:=.tup []) n2
 have x3:=Ext.new (K:=K) (o:=.dK []) n3
 have x4:=Ext.new (K:=K) (o:=.lst [V.cQ,V.int d,V.bl true,V.ref p1,V.ref p2,V.ref p3,V.int (-1)]) nW
 have f1:=x3.at (x2.at (ah (H:=H1) (a:=p1) (o:=.lst [])))
 have f2:=x3.at (ah (H:=upd H1 p1 (.lst [])) (a:=p2) (o:=.tup []))
 have f3:=ah (H:=upd (upd H1 p1 (.lst [])) p2 (.tup [])) (a:=p3) (o:=.dK [])
 have fW:=ah (H:=upd (upd (upd H1 p1 (.lst [])) p2 (.tup [])) p3 (.dK [])) (a:=W) (o:=.lst [V.cQ,V.int d,V.bl true,V.ref p1,V.ref p2,V.ref p3,V.int (-1)])
 have X4:=x1.trans (x2.trans (x3.trans x4))
 have hpW:=oX.ext (x1.trans (x2.trans x3))
 have GP:W≠p:=hpW.ne nW
 have th:∀ v∈[V.cQ,V.int d,V.bl true,V.ref p1,V.ref p2,V.ref p3,V.int (-1)],Thing K (upd (upd (upd (upd H1 p1 (.lst [])) p2 (.tup [])) p3 (.dK [])) W (.lst [V.cQ,V.int d,V.bl true,V.ref p1,V.ref p2,V.ref p3,V.int (-1)])) v/\v≠.ref p/\v≠.ref W:=by
   have g:∀ {a b:Addr},a≠b->V.ref a≠V.ref b:=fun n z=>n (V.ref.inj z)
   intro v hv
   simp only [List.mem_cons,List.not_mem_nil,or_false] at hv
   rcases hv with rfl | rfl | rfl | rfl | rfl | rfl | rfl
   . exact ⟨.cQ,nofun,nofun⟩
   . exact ⟨.int d,nofun,nofun⟩
   . exact ⟨.bl true,nofun,nofun⟩
   . exact ⟨.lst (x4.at f1),g (oX.ne n1),g (nn f1 nW)⟩
   . exact ⟨.tup (zF (x4.at f2)),g ((oX.ext x1).ne n2),g (nn f2 nW)⟩
   . exact ⟨.dk (x4.at f3),g ((oX.ext (x1.trans x2)).ne n3),g (nn f3 nW)⟩
   . exact ⟨.int _,nofun,nofun⟩
 have hl:[V.cQ,V.int d,V.bl true,V.ref p1,V.ref p2,V.ref p3,V.int (-1)].length=7:=rfl
 have rW:=oX.ext X4
 have fin:∀ G,j5 K p W (upd (upd (upd (upd H1 p1 (.lst [])) p2 (.tup [])) p3 (.dK [])) W (.lst [V.cQ,V.int d,V.bl true,V.ref p1,V.ref p2,V.ref p3,V.int (-1)])) G->Q (.bl true) G:=fun G k=>q G ((k1.trans (x1.trans (x2.trans x3)).kp).trans (k.kp nW))
 clear f1 f2 f3 x1 x2 x3 X4 hpW
 generalize [V.cQ,V.int d,V.bl true,V.ref p1,V.ref p2,V.ref p3,V.int (-1)]=L at th fW hl rW fin ⊢
 generalize upd (upd (upd (upd H1 p1 (.lst [])) p2 (.tup [])) p3 (.dK [])) W (.lst L)=G4 at th fW rW fin ⊢
 rw [e1]
 try walk_at "rn"
 refine ⟨p,7,rfl,rW,by decide,by decide,fun tt a dd r pl aO H2 h1 h2 h3 h4 h5 h6 h7 uM k5=>?_⟩
 refine ⟨tt,rfl,_,h1,rfl,_,_,rfl,_,_,rfl,rfl,?_⟩
 rw [e2]
 try walk_at "rn"
 refine ⟨a,dd,r,pl,rfl,h2,⟨aO,h3.at_,h4⟩,h5,h6,fun H3 y3=>?_⟩
 have len0:=GQ h5
 have rin:=CH h7 h6
 have lkr:=Jp h7 h6
 clear h1 h2 h3 h4 h6
 rw [e3]
 try walk_at "rn"
 refine ⟨p,rfl,uM.ext y3,fun m1 m2 m3 m4 ra rb rc rp ms H6 hd hp6 k6=>?_⟩
 have Qx:=D8 hd
 have lkh:=mY.head Qx
 have ah0:(sj m1 m2 m3 m4 ra rb rc rp ms).length<=100000:=by
   have:=(oR hd.n.1 hd.sr hd.pll hd.m.2.1).2
   have:=hd.m.1
   omega
 obtain ⟨y4,e4p⟩:∃ ys,G4 p=some (.lst ys):=rW.lst
 have Jr:=k5.trans (y3.kp.trans k6)
 have Qy:∀ v∈L,Thing K H6 v/\v≠.ref p/\v≠.ref W:=fun v hv=>⟨(th v hv).1.kp Jr e4p (th v hv).2.1,(th v hv).2⟩
 have Og:=Jr.keep W _ fW GP
 generalize et:r.x pl=tx at *
 generalize eh:sj m1 m2 m3 m4 ra rb rc rp ms=hx at *
 rw [e4]
 try walk_at "rn"
 refine ⟨.inl ⟨_,aZ.of Og⟩,fun c1 nc1=>?_⟩
 have z1:=Ext.new (K:=K) (o:=.lst [V.str tx]) nc1
 have TZ:=z1.at Og
 refine ⟨_,TZ,by omega,?_⟩
 have JX:Kp K W H6 (upd (upd H6 c1 (.lst [V.str tx])) W (.lst (L++[V.ref c1]))):=z1.kp.trans (Kp.upd TZ)
 have T3:c1≠W:=fun z=>nn Og nc1 z.symm
 have c1p:c1≠p:=hp6.ne nc1
 have T4:∀ v∈L++[V.ref c1],Thing K (upd (upd H6 c1 (.lst [V.str tx])) W (.lst (L++[V.ref c1]))) v/\v≠.ref p/\v≠.ref W:=fun v hv=>by
   rcases List.mem_append.mp hv with hv | hv
   . exact ⟨(Qy v hv).1.kp JX Og (Qy v hv).2.2,(Qy v hv).2⟩
   . rw [List.mem_singleton.mp hv]
     exact ⟨.lst (by rw [aV T3];exact ah),fun z=>c1p (V.ref.inj z),fun z=>T3 (V.ref.inj z)⟩
 have Oh:=ah (H:=upd H6 c1 (.lst [V.str tx])) (a:=W) (o:=.lst (L++[V.ref c1]))
 have l8:(L++[V.ref c1]).length=8:=by rw [List.length_append,hl];rfl
 have LQ:j5 K p W G4 (upd (upd H6 c1 (.lst [V.str tx])) W (.lst (L++[V.ref c1]))):=Jr.l.trans JX.r
 have Eg:=(hp6.ext z1).upd (o:=.lst (L++[V.ref c1])) GP.symm
 generalize L++[V.ref c1]=L8 at *
 generalize upd (upd H6 c1 (.lst [V.str tx])) W (.lst L8)=G8 at *
 rw [e5]
 try walk_at "rn"
 refine ⟨.inl ⟨_,aZ.of Oh⟩,fun c2 nc2=>?_⟩
 have z2:=Ext.new (K:=K) (o:=.tup [V.str hx]) nc2
 have T5:=z2.at Oh
 refine ⟨_,T5,by omega,?_⟩
 have T6:Kp K W G8 (upd (upd G8 c2 (.tup [V.str hx])) W (.lst (L8++[V.ref c2]))):=z2.kp.trans (Kp.upd T5)
 have c2W:c2≠W:=fun z=>nn Oh nc2 z.symm
 have T7:∀ v∈L8++[V.ref c2],Thing K (upd (upd G8 c2 (.tup [V.str hx])) W (.lst (L8++[V.ref c2]))) v:=fun v hv=>by
   rcases List.mem_append.mp hv with hv | hv
   . exact (T4 v hv).1.kp T6 Oh (T4 v hv).2.2
   . rw [List.mem_singleton.mp hv]
     exact .tup (by rw [IB c2W];exact aN)
 have T9:=ah (H:=upd G8 c2 (.tup [V.str hx])) (a:=W) (o:=.lst (L8++[V.ref c2]))
 have l9:(L8++[V.ref c2]).length=9:=by rw [List.length_append,l8];rfl
 have LR:=LQ.trans T6.r
 clear T6 z2 T5 nc2 c2W T4 Oh l8 LQ Eg c1p T3 JX z1 TZ Qy Og Jr hp6 nc1 th fW hl rW y3 k6 k5 uM
 generalize L8++[V.ref c2]=L9 at *
 generalize upd (upd G8 c2 (.tup [V.str hx])) W (.lst L9)=G9 at *
 rw [e6]
 try walk_at "rn"
 refine ⟨tx,rfl,by omega,lkr,fun D bs H2 nD z2 hD lb hb=>⟨D,rfl,_,z2.at T9,_,hD,by rw [List.length_map];omega,fun s1 ns1 s2 ns2=>?_⟩⟩
 have z3:=z2.trans ((Ext.new (o:=.lst (L9++bs.map V.str)) ns1).trans (Ext.new (o:=.lst [V.str hx]) ns2))
 refine ⟨_,(Ext.new (K:=K) (o:=.lst [V.str hx]) ns2).at ah,by rw [List.length_append,List.length_map];omega,fun s3 ns3=>⟨⟨_,aZ.of ah⟩,?_⟩⟩
 have z4:=z3.trans (Ext.new (o:=.lst (L9++bs.map V.str++[V.str hx])) ns3)
 have f3:=ah (H:=upd (upd H2 s1 (.lst (L9++bs.map V.str))) s2 (.lst [V.str hx])) (a:=s3) (o:=.lst (L9++bs.map V.str++[V.str hx]))
 generalize upd (upd (upd H2 s1 (.lst (L9++bs.map V.str))) s2 (.lst [V.str hx])) s3 (.lst (L9++bs.map V.str++[V.str hx]))=G10 at z4 f3 ⊢
 have no:∀ v∈L9++bs.map V.str++[V.str hx],∀ G,Ext K G10 G->Od K G v:=fun v hv G z=>by
   rcases List.mem_append.mp hv with hv | hv
   . rcases List.mem_append.mp hv with hv | hv
     . exact .inl ((T7 v hv).ext (z4.trans z)).no
     . obtain ⟨b,hb',rfl⟩:=List.mem_map.mp hv
       exact .inr ⟨b,rfl,(hb b hb').2,(hb b hb').1.room lkr⟩
   . rw [List.mem_singleton.mp hv]
     exact .inr ⟨hx,rfl,by omega,Aq Qx⟩
 refine jN (xs:=L9++bs.map V.str++[V.str hx]) (fun i σ G=>∃ v6,σ=[some (V.ref p),some (V.ref W),some (V.ref a),some (V.ref dd),some (V.str tx),some (V.str hx),v6]/\Ext K G10 G) ⟨_,rfl,Ext.refl⟩ ?_ ?_ ?_
 . rintro i σ G _ ⟨v6,rfl,z⟩
   exact aZ.of (z.at f3)
 . rintro i x σ G hi ⟨v6,rfl,z⟩
   try walk_at "rn"
   exact ⟨_,x,rfl,.inl ⟨rfl,no x (List.mem_of_getElem? hi) G z⟩,fun G' z'=>⟨true,rfl,aL (by simp) (z.trans z')⟩⟩
 rintro σ G11 ⟨v6,rfl,z5⟩
 have Z:=z4.trans z5
 have fW1:=Z.at T9
 have th1:∀ v∈L9,Thing K G11 v:=fun v hv=>(T7 v hv).ext Z
 have MD:=LR.trans Z.Mm
 clear no f3 z4 z5 z3 z2 hb lb hD nD ns1 ns2 ns3 Z T7 T9 LR
 rw [e7]
 try walk_at "rn"
 refine ⟨hx,rfl,by omega,lkh,fun D bs H2 nD z2 hD lb hb=>⟨D,rfl,_,z2.at fW1,_,hD,by rw [List.length_map];omega,fun s1 ns1 s2 ns2=>?_⟩⟩
 have z3:=z2.trans ((Ext.new (o:=.lst (L9++bs.map V.str)) ns1).trans (Ext.new (o:=.lst [V.str tx]) ns2))
 refine ⟨_,(Ext.new (K:=K) (o:=.lst [V.str tx]) ns2).at ah,by rw [List.length_append,List.length_map];omega,fun s3 ns3=>⟨⟨_,aZ.of ah⟩,?_⟩⟩
 have z4:=z3.trans (Ext.new (o:=.lst (L9++bs.map V.str++[V.str tx])) ns3)
 have f3:=ah (H:=upd (upd H2 s1 (.lst (L9++bs.map V.str))) s2 (.lst [V.str tx])) (a:=s3) (o:=.lst (L9++bs.map V.str++[V.str tx]))
 generalize upd (upd (upd H2 s1 (.lst (L9++bs.map V.str))) s2 (.lst [V.str tx])) s3 (.lst (L9++bs.map V.str++[V.str tx]))=G12 at z4 f3 ⊢
 have no:∀ v∈L9++bs.map V.str++[V.str tx],∀ G,Ext K G12 G->Oe K G v:=fun v hv G z=>by
   rcases List.mem_append.mp hv with hv | hv
   . rcases List.mem_append.mp hv with hv | hv
     . exact .inl ((th1 v hv).ext (z4.trans z)).no
     . obtain ⟨b,hb',rfl⟩:=List.mem_map.mp hv
       exact .inr ⟨b,rfl,(hb b hb').2,(hb b hb').1.head lkh⟩
   . rw [List.mem_singleton.mp hv]
     exact .inr ⟨tx,rfl,by omega,sq rin⟩
 refine jN (xs:=L9++bs.map V.str++[V.str tx]) (fun i σ G=>∃ v6,σ=[some (V.ref p),some (V.ref W),some (V.ref a),some (V.ref dd),some (V.str tx),some (V.str hx),v6]/\Ext K G12 G) ⟨_,rfl,Ext.refl⟩ ?_ ?_ ?_
 . rintro i σ G _ ⟨v6,rfl,z⟩
   exact aZ.of (z.at f3)
 . rintro i x σ G hi ⟨v6,rfl,z⟩
   try walk_at "rn"
   exact ⟨_,x,rfl,.inr ⟨rfl,no x (List.mem_of_getElem? hi) G z⟩,fun G' z'=>⟨true,rfl,aL (by simp) (z.trans z')⟩⟩
 rintro σ G13 ⟨v6,rfl,z5⟩
 have ME:=MD.trans (z4.trans z5).Mm
 clear no f3 z4 z5 z3 z2 hb lb hD nD ns1 ns2 ns3
 rw [e8]
 try walk_at "rn"
 refine ⟨tx,_,rfl,by omega,rin,fun T H14 x14 hx14=>?_⟩
 obtain ⟨R,P',r',hT,hR,hP,dz,ex⟩:=Ob hx14 h5 h7
 refine ⟨_,rfl,_,hT,rfl,_,_,rfl,_,_,rfl,rfl,?_⟩
 rw [e9]
 try walk_at "rn"
 refine ⟨R,P',r',pl,rfl,hR,hP,dz,fun H15 x15=>⟨rfl,aQ (by rw [ex,et]) ?_⟩⟩
 refine ⟨hx,m1,m2,m3,m4,ra,rb,rc,rp,ms,rfl,by omega,Qx,fun n1 n2 n3 n4 a' b' c' Hy TY hh T2 R2 M2 H16 nM x16 ha=>?_⟩
 obtain ⟨rfl,rfl,rfl,rfl,rfl,rfl,rfl,rfl,rfl⟩:=Qx.one hh
 obtain ⟨a1,a2,a3⟩:=ha
 refine ⟨T2,_,_,_,_,R2,_,_,_,_,M2,_,rfl,a1,a2,a3,hd.n.1,hd.sr,hd.pll,hd.m.2.1,by have:=hd.m.1;omega,fun H17 x17=>⟨rfl,?_⟩⟩
 rw [eh,decide_eq_true rfl]
 exact fin H17 (ME.trans (x14.trans (x15.trans (x16.trans x17))).Mm)
def CK (K:PySem.W.Frag):Sp:=fun vs H Q _=>∃ (a:Addr) (ns:List Int),vs=[.ref a]/\aZ K H a (ns.map V.int)/\ns.length<=63/\Io H/\∀ H',Q (.bl true) H'
theorem GR:aD ["_law_script","_law_k"] ["_law_script"] (af qx):=⟨rfl,rfl,rfl,by decide +kernel,rfl,by decide +kernel,by decide +kernel⟩
theorem LS {f:Addr} {fd:FuncData} (F:fh K "law" "law" qx f fd) {aG aP cF cR cN:Addr} {tE tF t1 t2 t3 t4:Tok} (B:B K mg aG aP cF cR cN tE tF t1 t2 t3 t4)
   (i7:Callee P w K mg base "_law_cell_at" 1 ["_law_script","_law_k"] (Ba K))
   (jM:Callee P w K mg base "_law_holds" 11 ["_law_state"] (yX K)):bf P w K mg base eZ 12 f fd ["_law_script"] (CK K):=by
 refine F.gP GR (fun vs H Q E h=>?_) (fun cG A outer s H vs Q E hr h=>?_)
 . obtain ⟨a,ns,rfl,_⟩:=h
   rfl
 obtain ⟨a,ns,rfl,hS,h63,ho,q⟩:=h
 refine ⟨_,(av (um PassesOwn.never rfl (qk rfl B.range (aa (aU (C2 rfl) rfl B.max K6 (aa ei (aa (aU (C3 rfl) rfl B.min K7 (aa ei (aa (aU lV rfl B.len dg (aa (ev 0) ai)) ai))) ai))) ai)) (aA (i:=1) GR.nd rfl (Or.inl rfl))
       (aK (jD (jd (gy (au jM (hr.mono (by decide)) rfl (aa (bO (aa (cT dD (au i7 (hr.mono (by decide)) rfl (aa (ev 0) (aa (ev 1) ai))) (ev 1)) ai)) ai)))) (aK (aW vY)) cY)))
     (aK (aW vY))),?_⟩
 try walk_at "rn"
 refine ⟨_,.inl hS,by split <;> (try split) <;> omega,by split <;> (try split) <;> omega,?_⟩
 refine lW (fun i σ H2=>∃ v1,σ=[some (.ref a),v1]/\Ext K H H2) ⟨_,rfl,Ext.refl⟩ ?_ ?_
 . rintro i σ H0 hi ⟨v1,rfl,x0⟩
   try walk_at "rn"
   refine ⟨a,ns,_,rfl,x0.same.seq hS,by omega,fun n=>?_⟩
   try walk_at "rn"
   intro D nD
   refine ⟨D,rfl,.inl ⟨_,ah⟩,fun H1 k1=>⟨true,rfl,aL (by decide) ?_⟩⟩
   exact x0.trans (k1.ext nD)
 . rintro σ H2 ⟨_,rfl,_⟩
   exact q H2
end
theorem all_mk {l:PySem.W.OpenLaw} {w:World} {K:PySem.W.Frag} {h:Heap} {mg:Str->Option Value} {fa f1 f2 f3 f4 f5 f6 f7 f8 f9 Qz QA LU QB QC QD QE QF QG QH QI QJ QK QL QM QN QO QS QT QU QV QW QX QY JY QZ MF MG Q0 MH MI Q3 Q4 Q5 Q6 Q7 Q8 Q9 Ra Rb Rc Rf Rg Rh Ri Rj Rk Rl Rn Ro Rp Rq Rr Rt Ru Rv Rw Rx Ua:Addr} {od1 an1 od2 an2 od3 an3 od4 an4 od5 an5 od6 an6 od7 an7 od8 an8 od9 an9 Ub Uc Ud Ue Ug Uh Ui Uj Uk Ul Um Uo Up Uq Ur Us Ut Uu Uv Uw Ux Uy Uz UA UB UC UD UE UG UH UI UJ UK UL UM UN UO UP UQ UR US UT UU UW UX UY UZ U0 U1 U3 U4 U5 U6 U7 U8 U9 Va Vb Vc Vd Ve Vf Vg Vh Vi Vj Vk Vl Vm Vn Vo Vp Vq Vr Vs Vt Vu Vv Vw Vx Vy Vz VA VB VC VD VE VF VG VH VI VJ VL VM VN VO VP VQ VR VS VT VU VV VW VX VY VZ V0 V1 V2 V3 V4 V5 V6 V7 V8 V9 Oi:Option Addr} {sl1 sl2 sl3 sl4 sl5 sl6 sl7 sl8 sl9 Wa Wb Wc Wd We Wf Wg Wh Wi Wj Wk Wm Wn Wo Wq Wr Ws Wt Wu Wv Ww Wx Wy Wz WA WB WC WD WE WG WH WI WJ WK WL WM WN WO WQ WR WS WT WU WV WW WX WY WZ W0 W2 W3 W4 W5 W6 W7 W8 W9 Xa Xb:Array (Option Value)} {oc1 kV1 dc1 pm1 cd1 ct1 oc2 kV2 dc2 pm2 cd2 ct2 oc3 kV3 dc3 pm3 cd3 ct3 oc4 kV4 dc4 pm4 cd4 ct4 oc5 kV5 dc5 pm5 cd5 ct5 oc6 kV6 dc6 pm6 cd6 ct6 oc7 kV7 dc7 pm7 cd7 ct7 oc8 kV8 dc8 pm8 cd8 ct8 oc9 kV9 dc9 pm9 cd9 ct9 Xc Xd Xe Xf Oj Xg Xh Xi Xj Xk Ol Xl Xm Xn Xo Xp Om Xq Xr Xs Xu Xv Oo Xw Xx Xy Xz XA Oq XD XE XF XG XH Ot XI XJ XM XN XO Ou XQ XR XS XU XW Ov XY XZ X0 X5 X6 Ow X7 X8 Yb Yc Yd Ox Ye Yg Yh Yi Yj Oz Yk Yl Ym Yn Yo OA Yp Yq Yr Ys Yt OB Yu Yv Yw Yx Yy OC Yz YA YB YC YD OD YE YF YG YH YI OE YJ YK YL YM YN OF YO YQ YR YS YT OG YU YV YW YX YY OH YZ Y0 Y3 Y4 Y5 OI Y6 Y7 Y8 Y9 Za OJ Zb Zc Zd Ze Zf OL Zg Zh Zi Zj Zk OM Zl Zm Zn Zo Zp ON Zq Zr Zs Zt Zu OO Zv Zw Zx Zy Zz OP ZA ZC ZD ZE ZF OQ ZG ZH ZI ZJ ZK OR ZL ZM ZN ZO ZP OS ZQ ZR ZS ZU ZV OT ZW ZX ZY ZZ Z0 OU Z2 Z3 Z4 Z5 Z6 OV Z7 Z8 Z9 aaa aab OW aac aad aae aaf aag OX aah aai aaj aak aal OY aam aan aao aap aaq OZ aar aas aat aau aav O0 aaw aax aay aaz aaA O1 aaB aaC aaD aaE aaF O2 aaG aaH aaI aaJ aaK O3 aaL aaM aaN aaO aaP O4 aaQ aaR aaS aaT aaU O5 aaV aaW aaX aaY aaZ O6 aa0 aa1 aa2 aa3 aa4 O7 aa5 aa6 aa7 aa8 aa9 O8 aba abb abc abd abe O9 abf abg abh abi abj Pa abk abl abm abn abo Pb abp abq abr abt abu Pc abv abw abx aby abz Pd abA abB abC abD abE Pe abF abG abH abI abJ Pf abK abL abM abN abO Pg abP abQ abR abS abT Ph abU abV abW abX abY Pj abZ ab0 ab1 ab2 ab3 Pk ab4 ab5 ab6 ab7 ab8 Pn ab9 acd ace acf acg Po ach aci Pp Pq Pr LV Pu:Value} {aG:Addr} {tE:Tok} {tF:Tok} {cF:Addr} {cN:Addr} {t1:Tok} {t2:Tok} {t3:Tok} {t4:Tok} {aP:Addr} {coN:Value} {doN:Option Addr} {cdN:ClassData} {slN:Array (Option Value)} {dP:Option Addr} {u1 u2:Tok} {nP:Nat} {slP:Array (Option Value)} {dG:Option Addr} {tG:Tok} {nG:Nat} {slG:Array (Option Value)} (X:K.In h) (G:h.Ns mainGlobals mg) (hfa:mg "law"=some (.ref fa))
   (a1:PySem.W.nsIn K mainGlobals "is_number"=some (some (.ref f1))) (l1:K.lookup f1=some ⟨oc1,od1,.func (PySem.W.fnOf "is_number" "is_number" (aB gX) (aq gX) (af gX) .none kV1 dc1 pm1 an1 cd1 ct1),sl1⟩) (c1:PySem.W.codeIn K cd1 "is_number"=true) (k1:PySem.W.keepIn K (.ref f1)=true)
   (a2:PySem.W.nsIn K mainGlobals "is_whole"=some (some (.ref f2))) (l2:K.lookup f2=some ⟨oc2,od2,.func (PySem.W.fnOf "is_whole" "is_whole" (aB je) (aq je) (af je) .none kV2 dc2 pm2 an2 cd2 ct2),sl2⟩) (c2:PySem.W.codeIn K cd2 "is_whole"=true) (k2:PySem.W.keepIn K (.ref f2)=true)
   (a3:PySem.W.nsIn K mainGlobals "is_whole_from"=some (some (.ref f3))) (l3:K.lookup f3=some ⟨oc3,od3,.func (PySem.W.fnOf "is_whole_from" "is_whole_from" (aB dF) (aq dF) (af dF) .none kV3 dc3 pm3 an3 cd3 ct3),sl3⟩) (c3:PySem.W.codeIn K cd3 "is_whole_from"=true) (k3:PySem.W.keepIn K (.ref f3)=true)
   (a4:PySem.W.nsIn K mainGlobals "is_key"=some (some (.ref f4))) (l4:K.lookup f4=some ⟨oc4,od4,.func (PySem.W.fnOf "is_key" "is_key" (aB lE) (aq lE) (af lE) .none kV4 dc4 pm4 an4 cd4 ct4),sl4⟩) (c4:PySem.W.codeIn K cd4 "is_key"=true) (k4:PySem.W.keepIn K (.ref f4)=true)
   (a5:PySem.W.nsIn K mainGlobals "is_stretch"=some (some (.ref f5))) (l5:K.lookup f5=some ⟨oc5,od5,.func (PySem.W.fnOf "is_stretch" "is_stretch" (aB fV) (aq fV) (af fV) .none kV5 dc5 pm5 an5 cd5 ct5),sl5⟩) (c5:PySem.W.codeIn K cd5 "is_stretch"=true) (k5:PySem.W.keepIn K (.ref f5)=true)
   (a6:PySem.W.nsIn K mainGlobals "is_plan"=some (some (.ref f6))) (l6:K.lookup f6=some ⟨oc6,od6,.func (PySem.W.fnOf "is_plan" "is_plan" (aB jP) (aq jP) (af jP) .none kV6 dc6 pm6 an6 cd6 ct6),sl6⟩) (c6:PySem.W.codeIn K cd6 "is_plan"=true) (k6:PySem.W.keepIn K (.ref f6)=true)
   (a7:PySem.W.nsIn K mainGlobals "is_rule"=some (some (.ref f7))) (l7:K.lookup f7=some ⟨oc7,od7,.func (PySem.W.fnOf "is_rule" "is_rule" (aB jQ) (aq jQ) (af jQ) .none kV7 dc7 pm7 an7 cd7 ct7),sl7⟩) (c7:PySem.W.codeIn K cd7 "is_rule"=true) (k7:PySem.W.keepIn K (.ref f7)=true)
   (a8:PySem.W.nsIn K mainGlobals "is_half"=some (some (.ref f8))) (l8:K.lookup f8=some ⟨oc8,od8,.func (PySem.W.fnOf "is_half" "is_half" (aB jR) (aq jR) (af jR) .none kV8 dc8 pm8 an8 cd8 ct8),sl8⟩) (c8:PySem.W.codeIn K cd8 "is_half"=true) (k8:PySem.W.keepIn K (.ref f8)=true)
   (a9:PySem.W.nsIn K mainGlobals "is_action"=some (some (.ref f9))) (l9:K.lookup f9=some ⟨oc9,od9,.func (PySem.W.fnOf "is_action" "is_action" (aB gY) (aq gY) (af gY) .none kV9 dc9 pm9 an9 cd9 ct9),sl9⟩) (c9:PySem.W.codeIn K cd9 "is_action"=true) (k9:PySem.W.keepIn K (.ref f9)=true)
   (a10:PySem.W.nsIn K mainGlobals "figures_of"=some (some (.ref Qz))) (l10:K.lookup Qz=some ⟨Xc,Ub,.func (PySem.W.fnOf "figures_of" "figures_of" (aB fX) (aq fX) (af fX) .none Xd Xe Xf Uc Oj Xg),Wa⟩) (c10:PySem.W.codeIn K Oj "figures_of"=true) (MC:PySem.W.keepIn K (.ref Qz)=true)
   (a11:PySem.W.nsIn K mainGlobals "are_figures"=some (some (.ref QA))) (l11:K.lookup QA=some ⟨Xh,Ud,.func (PySem.W.fnOf "are_figures" "are_figures" (aB fB) (aq fB) (af fB) .none Xi Xj Xk Ue Ol Xl),Wb⟩) (c11:PySem.W.codeIn K Ol "are_figures"=true) (MD:PySem.W.keepIn K (.ref QA)=true)
   (Ry:PySem.W.nsIn K mainGlobals "read_figures"=some (some (.ref LU))) (l12:K.lookup LU=some ⟨Xm,Ug,.func (PySem.W.fnOf "read_figures" "read_figures" (aB ee) (aq ee) (af ee) .none Xn Xo Xp Uh Om Xq),Wc⟩) (c12:PySem.W.codeIn K Om "read_figures"=true) (Pw:PySem.W.keepIn K (.ref LU)=true)
   (a13:PySem.W.nsIn K mainGlobals "is_note"=some (some (.ref QB))) (l13:K.lookup QB=some ⟨Xr,Ui,.func (PySem.W.fnOf "is_note" "is_note" (aB jS) (aq jS) (af jS) .none Xs Xu Xv Uj Oo Xw),Wd⟩) (c13:PySem.W.codeIn K Oo "is_note"=true) (ME:PySem.W.keepIn K (.ref QB)=true)
   (a14:PySem.W.nsIn K mainGlobals "is_rising"=some (some (.ref QC))) (l14:K.lookup QC=some ⟨Xx,Uk,.func (PySem.W.fnOf "is_rising" "is_rising" (aB gZ) (aq gZ) (af gZ) .none Xy Xz XA Ul Oq XD),We⟩) (c14:PySem.W.codeIn K Oq "is_rising"=true) (Rz:PySem.W.keepIn K (.ref QC)=true)
   (a15:PySem.W.nsIn K mainGlobals "are_wholes"=some (some (.ref QD))) (l15:K.lookup QD=some ⟨XE,Um,.func (PySem.W.fnOf "are_wholes" "are_wholes" (aB fY) (aq fY) (af fY) .none XF XG XH Uo Ot XI),Wf⟩) (c15:PySem.W.codeIn K Ot "are_wholes"=true) (Ly:PySem.W.keepIn K (.ref QD)=true)
   (a16:PySem.W.nsIn K mainGlobals "are_rising_from"=some (some (.ref QE))) (l16:K.lookup QE=some ⟨XJ,Up,.func (PySem.W.fnOf "are_rising_from" "are_rising_from" (aB cJ) (aq cJ) (af cJ) .none XM XN XO Uq Ou XQ),Wg⟩) (c16:PySem.W.codeIn K Ou "are_rising_from"=true) (RA:PySem.W.keepIn K (.ref QE)=true)
   (a17:PySem.W.nsIn K mainGlobals "is_version"=some (some (.ref QF))) (l17:K.lookup QF=some ⟨XR,Ur,.func (PySem.W.fnOf "is_version" "is_version" (aB fZ) (aq fZ) (af fZ) .none XS XU XW Us Ov XY),Wh⟩) (c17:PySem.W.codeIn K Ov "is_version"=true) (RB:PySem.W.keepIn K (.ref QF)=true)
   (a18:PySem.W.nsIn K mainGlobals "are_versions"=some (some (.ref QG))) (l18:K.lookup QG=some ⟨XZ,Ut,.func (PySem.W.fnOf "are_versions" "are_versions" (aB eB) (aq eB) (af eB) .none X0 X5 X6 Uu Ow X7),Wi⟩) (c18:PySem.W.codeIn K Ow "are_versions"=true) (RC:PySem.W.keepIn K (.ref QG)=true)
   (a19:PySem.W.nsIn K mainGlobals "is_row"=some (some (.ref QH))) (l19:K.lookup QH=some ⟨X8,Uv,.func (PySem.W.fnOf "is_row" "is_row" (aB lF) (aq lF) (af lF) .none Yb Yc Yd Uw Ox Ye),Wj⟩) (c19:PySem.W.codeIn K Ox "is_row"=true) (RD:PySem.W.keepIn K (.ref QH)=true)
   (a20:PySem.W.nsIn K mainGlobals "are_rows"=some (some (.ref QI))) (l20:K.lookup QI=some ⟨Yg,Ux,.func (PySem.W.fnOf "are_rows" "are_rows" (aB jf) (aq jf) (af jf) .none Yh Yi Yj Uy Oz Yk),Wk⟩) (c20:PySem.W.codeIn K Oz "are_rows"=true) (RE:PySem.W.keepIn K (.ref QI)=true)
   (a21:PySem.W.nsIn K mainGlobals "are_notes"=some (some (.ref QJ))) (l21:K.lookup QJ=some ⟨Yl,Uz,.func (PySem.W.fnOf "are_notes" "are_notes" (aB g6) (aq g6) (af g6) .none Ym Yn Yo UA OA Yp),Wm⟩) (c21:PySem.W.codeIn K OA "are_notes"=true) (RG:PySem.W.keepIn K (.ref QJ)=true)
   (a22:PySem.W.nsIn K mainGlobals "has_word"=some (some (.ref QK))) (l22:K.lookup QK=some ⟨Yq,UB,.func (PySem.W.fnOf "has_word" "has_word" (aB jg) (aq jg) (af jg) .none Yr Ys Yt UC OB Yu),Wn⟩) (c22:PySem.W.codeIn K OB "has_word"=true) (RH:PySem.W.keepIn K (.ref QK)=true)
   (a23:PySem.W.nsIn K mainGlobals "is_leaf_told"=some (some (.ref QL))) (l23:K.lookup QL=some ⟨Yv,UD,.func (PySem.W.fnOf "is_leaf_told" "is_leaf_told" (aB eE) (aq eE) (af eE) .none Yw Yx Yy UE OC Yz),Wo⟩) (c23:PySem.W.codeIn K OC "is_leaf_told"=true) (RI:PySem.W.keepIn K (.ref QL)=true)
   (a24:PySem.W.nsIn K mainGlobals "is_inner_told"=some (some (.ref QM))) (l24:K.lookup QM=some ⟨YA,UG,.func (PySem.W.fnOf "is_inner_told" "is_inner_told" (aB dH) (aq dH) (af dH) .none YB YC YD UH OD YE),Wq⟩) (c24:PySem.W.codeIn K OD "is_inner_told"=true) (RJ:PySem.W.keepIn K (.ref QM)=true)
   (a25:PySem.W.nsIn K mainGlobals "list_text"=some (some (.ref QN))) (l25:K.lookup QN=some ⟨YF,UI,.func (PySem.W.fnOf "list_text" "list_text" (aB g7) (aq g7) (af g7) .none YG YH YI UJ OE YJ),Wr⟩) (c25:PySem.W.codeIn K OE "list_text"=true) (LO:PySem.W.keepIn K (.ref QN)=true)
   (a26:PySem.W.nsIn K mainGlobals "numbers_text"=some (some (.ref QO))) (l26:K.lookup QO=some ⟨YK,UK,.func (PySem.W.fnOf "numbers_text" "numbers_text" (aB eN) (aq eN) (af eN) .none YL YM YN UL OF YO),Ws⟩) (c26:PySem.W.codeIn K OF "numbers_text"=true) (RK:PySem.W.keepIn K (.ref QO)=true)
   (a27:PySem.W.nsIn K mainGlobals "version_text"=some (some (.ref QS))) (l27:K.lookup QS=some ⟨YQ,UM,.func (PySem.W.fnOf "version_text" "version_text" (aB eO) (aq eO) (af eO) .none YR YS YT UN OG YU),Wt⟩) (c27:PySem.W.codeIn K OG "version_text"=true) (RM:PySem.W.keepIn K (.ref QS)=true)
   (a28:PySem.W.nsIn K mainGlobals "row_text"=some (some (.ref QT))) (l28:K.lookup QT=some ⟨YV,UO,.func (PySem.W.fnOf "row_text" "row_text" (aB jh) (aq jh) (af jh) .none YW YX YY UP OH YZ),Wu⟩) (c28:PySem.W.codeIn K OH "row_text"=true) (RO:PySem.W.keepIn K (.ref QT)=true)
   (a29:PySem.W.nsIn K mainGlobals "half_text"=some (some (.ref QU))) (l29:K.lookup QU=some ⟨Y0,UQ,.func (PySem.W.fnOf "half_text" "half_text" (aB g8) (aq g8) (af g8) .none Y3 Y4 Y5 UR OI Y6),Wv⟩) (c29:PySem.W.codeIn K OI "half_text"=true) (RP:PySem.W.keepIn K (.ref QU)=true)
   (a30:PySem.W.nsIn K mainGlobals "note_text"=some (some (.ref QV))) (l30:K.lookup QV=some ⟨Y7,US,.func (PySem.W.fnOf "note_text" "note_text" (aB g9) (aq g9) (af g9) .none Y8 Y9 Za UT OJ Zb),Ww⟩) (c30:PySem.W.codeIn K OJ "note_text"=true) (RQ:PySem.W.keepIn K (.ref QV)=true)
   (a31:PySem.W.nsIn K mainGlobals "room_text"=some (some (.ref QW))) (l31:K.lookup QW=some ⟨Zc,UU,.func (PySem.W.fnOf "room_text" "room_text" (aB ia) (aq ia) (af ia) .none Zd Ze Zf UW OL Zg),Wx⟩) (c31:PySem.W.codeIn K OL "room_text"=true) (RS:PySem.W.keepIn K (.ref QW)=true)
   (a32:PySem.W.nsIn K mainGlobals "rule_text"=some (some (.ref QX))) (l32:K.lookup QX=some ⟨Zh,UX,.func (PySem.W.fnOf "rule_text" "rule_text" (aB ic) (aq ic) (af ic) .none Zi Zj Zk UY OM Zl),Wy⟩) (c32:PySem.W.codeIn K OM "rule_text"=true) (RT:PySem.W.keepIn K (.ref QX)=true)
   (a33:PySem.W.nsIn K mainGlobals "head_text"=some (some (.ref QY))) (l33:K.lookup QY=some ⟨Zm,UZ,.func (PySem.W.fnOf "head_text" "head_text" (aB ie) (aq ie) (af ie) .none Zn Zo Zp U0 ON Zq),Wz⟩) (c33:PySem.W.codeIn K ON "head_text"=true) (RU:PySem.W.keepIn K (.ref QY)=true)
   (LW:PySem.W.nsIn K mainGlobals "read_list"=some (some (.ref JY))) (l34:K.lookup JY=some ⟨Zr,U1,.func (PySem.W.fnOf "read_list" "read_list" (aB ig) (aq ig) (af ig) .none Zs Zt Zu U3 OO Zv),WA⟩) (c34:PySem.W.codeIn K OO "read_list"=true) (JZ:PySem.W.keepIn K (.ref JY)=true)
   (a35:PySem.W.nsIn K mainGlobals "read_numbers"=some (some (.ref QZ))) (l35:K.lookup QZ=some ⟨Zw,U4,.func (PySem.W.fnOf "read_numbers" "read_numbers" (aB eT) (aq eT) (af eT) .none Zx Zy Zz U5 OP ZA),WB⟩) (c35:PySem.W.codeIn K OP "read_numbers"=true) (RV:PySem.W.keepIn K (.ref QZ)=true)
   (Px:PySem.W.nsIn K mainGlobals "read_version"=some (some (.ref MF))) (l36:K.lookup MF=some ⟨ZC,U6,.func (PySem.W.fnOf "read_version" "read_version" (aB eU) (aq eU) (af eU) .none ZD ZE ZF U7 OQ ZG),WC⟩) (c36:PySem.W.codeIn K OQ "read_version"=true) (Py:PySem.W.keepIn K (.ref MF)=true)
   (RW:PySem.W.nsIn K mainGlobals "read_row"=some (some (.ref MG))) (l37:K.lookup MG=some ⟨ZH,U8,.func (PySem.W.fnOf "read_row" "read_row" (aB ji) (aq ji) (af ji) .none ZI ZJ ZK U9 OR ZL),WD⟩) (c37:PySem.W.codeIn K OR "read_row"=true) (Pz:PySem.W.keepIn K (.ref MG)=true)
   (a38:PySem.W.nsIn K mainGlobals "read_half"=some (some (.ref Q0))) (l38:K.lookup Q0=some ⟨ZM,Va,.func (PySem.W.fnOf "read_half" "read_half" (aB ir) (aq ir) (af ir) .none ZN ZO ZP Vb OS ZQ),WE⟩) (c38:PySem.W.codeIn K OS "read_half"=true) (RX:PySem.W.keepIn K (.ref Q0)=true)
   (RY:PySem.W.nsIn K mainGlobals "read_note"=some (some (.ref MH))) (l39:K.lookup MH=some ⟨ZR,Vc,.func (PySem.W.fnOf "read_note" "read_note" (aB iu) (aq iu) (af iu) .none ZS ZU ZV Vd OT ZW),WG⟩) (c39:PySem.W.codeIn K OT "read_note"=true) (PB:PySem.W.keepIn K (.ref MH)=true)
   (RZ:PySem.W.nsIn K mainGlobals "read_spot"=some (some (.ref MI))) (l40:K.lookup MI=some ⟨ZX,Ve,.func (PySem.W.fnOf "read_spot" "read_spot" (aB iw) (aq iw) (af iw) .none ZY ZZ Z0 Vf OU Z2),WH⟩) (c40:PySem.W.codeIn K OU "read_spot"=true) (PC:PySem.W.keepIn K (.ref MI)=true)
   (a41:PySem.W.nsIn K mainGlobals "read_leaf"=some (some (.ref Q3))) (l41:K.lookup Q3=some ⟨Z3,Vg,.func (PySem.W.fnOf "read_leaf" "read_leaf" (aB iy) (aq iy) (af iy) .none Z4 Z5 Z6 Vh OV Z7),WI⟩) (c41:PySem.W.codeIn K OV "read_leaf"=true) (R0:PySem.W.keepIn K (.ref Q3)=true)
   (a42:PySem.W.nsIn K mainGlobals "is_inner_writable"=some (some (.ref Q4))) (l42:K.lookup Q4=some ⟨Z8,Vi,.func (PySem.W.fnOf "is_inner_writable" "is_inner_writable" (aB bY) (aq bY) (af bY) .none Z9 aaa aab Vj OW aac),WJ⟩) (c42:PySem.W.codeIn K OW "is_inner_writable"=true) (R1:PySem.W.keepIn K (.ref Q4)=true)
   (a43:PySem.W.nsIn K mainGlobals "read_inner"=some (some (.ref Q5))) (MA:K.lookup Q5=some ⟨aad,Vk,.func (PySem.W.fnOf "read_inner" "read_inner" (aB gb) (aq gb) (af gb) .none aae aaf aag Vl OX aah),WK⟩) (c43:PySem.W.codeIn K OX "read_inner"=true) (R3:PySem.W.keepIn K (.ref Q5)=true)
   (a44:PySem.W.nsIn K mainGlobals "read_room"=some (some (.ref Q6))) (l44:K.lookup Q6=some ⟨aai,Vm,.func (PySem.W.fnOf "read_room" "read_room" (aB iA) (aq iA) (af iA) .none aaj aak aal Vn OY aam),WL⟩) (c44:PySem.W.codeIn K OY "read_room"=true) (R4:PySem.W.keepIn K (.ref Q6)=true)
   (a45:PySem.W.nsIn K mainGlobals "read_rule"=some (some (.ref Q7))) (l45:K.lookup Q7=some ⟨aan,Vo,.func (PySem.W.fnOf "read_rule" "read_rule" (aB iB) (aq iB) (af iB) .none aao aap aaq Vp OZ aar),WM⟩) (c45:PySem.W.codeIn K OZ "read_rule"=true) (R5:PySem.W.keepIn K (.ref Q7)=true)
   (a46:PySem.W.nsIn K mainGlobals "read_head"=some (some (.ref Q8))) (l46:K.lookup Q8=some ⟨aas,Vq,.func (PySem.W.fnOf "read_head" "read_head" (aB bZ) (aq bZ) (af bZ) .none aat aau aav Vr O0 aaw),WN⟩) (c46:PySem.W.codeIn K O0 "read_head"=true) (Jr:PySem.W.keepIn K (.ref Q8)=true)
   (a47:PySem.W.nsIn K mainGlobals "_law_cell_at"=some (some (.ref Q9))) (l47:K.lookup Q9=some ⟨aax,Vs,.func (PySem.W.fnOf "_law_cell_at" "_law_cell_at" (aB eV) (aq eV) (af eV) .none aay aaz aaA Vt O1 aaB),WO⟩) (c47:PySem.W.codeIn K O1 "_law_cell_at"=true) (LQ:PySem.W.keepIn K (.ref Q9)=true)
   (a48:PySem.W.nsIn K mainGlobals "_law_digit"=some (some (.ref Ra))) (l48:K.lookup Ra=some ⟨aaC,Vu,.func (PySem.W.fnOf "_law_digit" "_law_digit" (aB gc) (aq gc) (af gc) .none aaD aaE aaF Vv O2 aaG),WQ⟩) (c48:PySem.W.codeIn K O2 "_law_digit"=true) (R6:PySem.W.keepIn K (.ref Ra)=true)
   (a49:PySem.W.nsIn K mainGlobals "_law_number"=some (some (.ref Rb))) (l49:K.lookup Rb=some ⟨aaH,Vw,.func (PySem.W.fnOf "_law_number" "_law_number" (aB fC) (aq fC) (af fC) .none aaI aaJ aaK Vx O3 aaL),WR⟩) (c49:PySem.W.codeIn K O3 "_law_number"=true) (LR:PySem.W.keepIn K (.ref Rb)=true)
   (a50:PySem.W.nsIn K mainGlobals "_law_first"=some (some (.ref Rc))) (l50:K.lookup Rc=some ⟨aaM,Vy,.func (PySem.W.fnOf "_law_first" "_law_first" (aB gf) (aq gf) (af gf) .none aaN aaO aaP Vz O4 aaQ),WS⟩) (c50:PySem.W.codeIn K O4 "_law_first"=true) (R7:PySem.W.keepIn K (.ref Rc)=true)
   (a51:PySem.W.nsIn K mainGlobals "_law_rising"=some (some (.ref Rf))) (l51:K.lookup Rf=some ⟨aaR,VA,.func (PySem.W.fnOf "_law_rising" "_law_rising" (aB fD) (aq fD) (af fD) .none aaS aaT aaU VB O5 aaV),WT⟩) (c51:PySem.W.codeIn K O5 "_law_rising"=true) (R8:PySem.W.keepIn K (.ref Rf)=true)
   (a52:PySem.W.nsIn K mainGlobals "_law_keys"=some (some (.ref Rg))) (l52:K.lookup Rg=some ⟨aaW,VC,.func (PySem.W.fnOf "_law_keys" "_law_keys" (aB iC) (aq iC) (af iC) .none aaX aaY aaZ VD O6 aa0),WU⟩) (c52:PySem.W.codeIn K O6 "_law_keys"=true) (R9:PySem.W.keepIn K (.ref Rg)=true)
   (a53:PySem.W.nsIn K mainGlobals "_law_versions"=some (some (.ref Rh))) (l53:K.lookup Rh=some ⟨aa1,VE,.func (PySem.W.fnOf "_law_versions" "_law_versions" (aB dI) (aq dI) (af dI) .none aa2 aa3 aa4 VF O7 aa5),WV⟩) (c53:PySem.W.codeIn K O7 "_law_versions"=true) (Sb:PySem.W.keepIn K (.ref Rh)=true)
   (a54:PySem.W.nsIn K mainGlobals "_law_some"=some (some (.ref Ri))) (l54:K.lookup Ri=some ⟨aa6,VG,.func (PySem.W.fnOf "_law_some" "_law_some" (aB iD) (aq iD) (af iD) .none aa7 aa8 aa9 VH O8 aba),WW⟩) (c54:PySem.W.codeIn K O8 "_law_some"=true) (Sd:PySem.W.keepIn K (.ref Ri)=true)
   (a55:PySem.W.nsIn K mainGlobals "_law_note"=some (some (.ref Rj))) (l55:K.lookup Rj=some ⟨abb,VI,.func (PySem.W.fnOf "_law_note" "_law_note" (aB iE) (aq iE) (af iE) .none abc abd abe VJ O9 abf),WX⟩) (c55:PySem.W.codeIn K O9 "_law_note"=true) (Se:PySem.W.keepIn K (.ref Rj)=true)
   (a56:PySem.W.nsIn K mainGlobals "_law_room"=some (some (.ref Rk))) (l56:K.lookup Rk=some ⟨abg,VL,.func (PySem.W.fnOf "_law_room" "_law_room" (aB iF) (aq iF) (af iF) .none abh abi abj VM Pa abk),WY⟩) (c56:PySem.W.codeIn K Pa "_law_room"=true) (Sf:PySem.W.keepIn K (.ref Rk)=true)
   (a57:PySem.W.nsIn K mainGlobals "_law_half"=some (some (.ref Rl))) (l57:K.lookup Rl=some ⟨abl,VN,.func (PySem.W.fnOf "_law_half" "_law_half" (aB iG) (aq iG) (af iG) .none abm abn abo VO Pb abp),WZ⟩) (c57:PySem.W.codeIn K Pb "_law_half"=true) (Sg:PySem.W.keepIn K (.ref Rl)=true)
   (a58:PySem.W.nsIn K mainGlobals "_law_line"=some (some (.ref Rn))) (l58:K.lookup Rn=some ⟨abq,VP,.func (PySem.W.fnOf "_law_line" "_law_line" (aB iH) (aq iH) (af iH) .none abr abt abu VQ Pc abv),W0⟩) (c58:PySem.W.codeIn K Pc "_law_line"=true) (Sh:PySem.W.keepIn K (.ref Rn)=true)
   (a59:PySem.W.nsIn K mainGlobals "_law_row_text"=some (some (.ref Ro))) (l59:K.lookup Ro=some ⟨abw,VR,.func (PySem.W.fnOf "_law_row_text" "_law_row_text" (aB dJ) (aq dJ) (af dJ) .none abx aby abz VS Pd abA),W2⟩) (c59:PySem.W.codeIn K Pd "_law_row_text"=true) (Si:PySem.W.keepIn K (.ref Ro)=true)
   (a60:PySem.W.nsIn K mainGlobals "_law_note_text"=some (some (.ref Rp))) (l60:K.lookup Rp=some ⟨abB,VT,.func (PySem.W.fnOf "_law_note_text" "_law_note_text" (aB cZ) (aq cZ) (af cZ) .none abC abD abE VU Pe abF),W3⟩) (c60:PySem.W.codeIn K Pe "_law_note_text"=true) (Sj:PySem.W.keepIn K (.ref Rp)=true)
   (a61:PySem.W.nsIn K mainGlobals "_law_room_text"=some (some (.ref Rq))) (l61:K.lookup Rq=some ⟨abG,VV,.func (PySem.W.fnOf "_law_room_text" "_law_room_text" (aB bI) (aq bI) (af bI) .none abH abI abJ VW Pf abK),W4⟩) (c61:PySem.W.codeIn K Pf "_law_room_text"=true) (Sk:PySem.W.keepIn K (.ref Rq)=true)
   (a62:PySem.W.nsIn K mainGlobals "_law_starts"=some (some (.ref Rr))) (l62:K.lookup Rr=some ⟨abL,VX,.func (PySem.W.fnOf "_law_starts" "_law_starts" (aB fE) (aq fE) (af fE) .none abM abN abO VY Pg abP),W5⟩) (c62:PySem.W.codeIn K Pg "_law_starts"=true) (Sl:PySem.W.keepIn K (.ref Rr)=true)
   (a63:PySem.W.nsIn K mainGlobals "_law_head_text"=some (some (.ref Rt))) (l63:K.lookup Rt=some ⟨abQ,VZ,.func (PySem.W.fnOf "_law_head_text" "_law_head_text" (aB bu) (aq bu) (af bu) .none abR abS abT V0 Ph abU),W6⟩) (c63:PySem.W.codeIn K Ph "_law_head_text"=true) (Sm:PySem.W.keepIn K (.ref Rt)=true)
   (a64:PySem.W.nsIn K mainGlobals "_law_figures_at"=some (some (.ref Ru))) (l64:K.lookup Ru=some ⟨abV,V1,.func (PySem.W.fnOf "_law_figures_at" "_law_figures_at" (aB cK) (aq cK) (af cK) .none abW abX abY V2 Pj abZ),W7⟩) (c64:PySem.W.codeIn K Pj "_law_figures_at"=true) (Sn:PySem.W.keepIn K (.ref Ru)=true)
   (a65:PySem.W.nsIn K mainGlobals "_law_bad"=some (some (.ref Rv))) (l65:K.lookup Rv=some ⟨ab0,V3,.func (PySem.W.fnOf "_law_bad" "_law_bad" (aB dS) (aq dS) (af dS) .none ab1 ab2 ab3 V4 Pk ab4),W8⟩) (c65:PySem.W.codeIn K Pk "_law_bad"=true) (So:PySem.W.keepIn K (.ref Rv)=true)
   (a66:PySem.W.nsIn K mainGlobals "_law_refused"=some (some (.ref Rw))) (l66:K.lookup Rw=some ⟨ab5,V5,.func (PySem.W.fnOf "_law_refused" "_law_refused" (aB eW) (aq eW) (af eW) .none ab6 ab7 ab8 V6 Pn ab9),W9⟩) (c66:PySem.W.codeIn K Pn "_law_refused"=true) (Sq:PySem.W.keepIn K (.ref Rw)=true)
   (a67:PySem.W.nsIn K mainGlobals "_law_holds"=some (some (.ref Rx))) (l67:K.lookup Rx=some ⟨acd,V7,.func (PySem.W.fnOf "_law_holds" "_law_holds" (aB bB) (aq bB) (af bB) .none ace acf acg V8 Po ach),Xa⟩) (c67:PySem.W.codeIn K Po "_law_holds"=true) (JX:PySem.W.keepIn K (.ref Rx)=true)
   (a68:PySem.W.nsIn K mainGlobals "law"=some (some (.ref Ua))) (l68:K.lookup Ua=some ⟨aci,V9,.func (PySem.W.fnOf "law" "law" (aB qx) (aq qx) (af qx) .none Pp Pq Pr Oi LV Pu),Xb⟩) (c68:PySem.W.codeIn K LV "law"=true) (k68:PySem.W.keepIn K (.ref Ua)=true)
   (GS:PySem.W.nsIn K mainGlobals "len"=some none)
   (mO:PySem.W.nsIn K mainGlobals "isinstance"=some none)
   (GU:PySem.W.nsIn K mainGlobals "int"=some none)
   (BL:PySem.W.nsIn K mainGlobals "bool"=some none)
   (yY:PySem.W.nsIn K mainGlobals "tuple"=some none)
   (GV:PySem.W.nsIn K mainGlobals "str"=some none)
   (BN:PySem.W.nsIn K mainGlobals "list"=some none)
   (GW:PySem.W.nsIn K mainGlobals "all"=some none)
   (GX:PySem.W.nsIn K mainGlobals "zip"=some none)
   (nX:PySem.W.nsIn K mainGlobals "enumerate"=some none)
   (yZ:PySem.W.nsIn K mainGlobals "range"=some none)
   (BO:PySem.W.nsIn K mainGlobals "dict"=some none)
   (GY:PySem.W.nsIn K mainGlobals "max"=some none)
   (GZ:PySem.W.nsIn K mainGlobals "min"=some none)
   (mP:PySem.W.nsIn K mainGlobals "ValueError"=some none)
   (BP:PySem.W.nsIn K mainGlobals "GONE"=some (some (.ref aG)))
   (G0:PySem.W.nsIn K mainGlobals "END"=some (some (.int 1000000000000 tE)))
   (j4:PySem.W.nsIn K mainGlobals "MOST_FIGURES"=some (some (.int 60 tF)))
   (nZ:PySem.W.nsIn K mainGlobals "FallError"=some (some (.ref cF)))
   (ve:PySem.W.nsIn K mainGlobals "NoPage"=some (some (.ref cN)))
   (n6:PySem.W.nsIn K mainGlobals "MOST_TRAY"=some (some (.int 64 t1)))
   (n9:PySem.W.nsIn K mainGlobals "LEAST_FAN"=some (some (.int 3 t2)))
   (pZ:PySem.W.nsIn K mainGlobals "MOST_FAN"=some (some (.int 16 t3)))
   (oh:PySem.W.nsIn K mainGlobals "MOST_ROWS"=some (some (.int 64 t4)))
   (y9:PySem.W.nsIn K mainGlobals "PLANS"=some (some (.ref aP)))
   (LX:PySem.W.specialIn K (.builtin "object.__class__") "__get__"=some (some (.builtin "getset_descriptor.__get__")))
   (LY:PySem.W.takesIn K (.builtin "object.__class__")=some true)
   (LZ:PySem.W.excIn K cN [.type "ValueError",.type "Exception",.type "BaseException",.type "object"] "ValueError.__new__"=true)
   (G6:PySem.W.findIn K (.ref cN) "__getattribute__"=some (some (.builtin "BaseException.__getattribute__")))
   (G7:PySem.W.findIn K (.ref cN) "__getattr__"=some none)
   (Hf:PySem.W.findIn K (.ref cN) "__class__"=some (some (.builtin "object.__class__")))
   (Hg:PySem.W.mroIn K cN (.type "object")=some true)
   (Hh:PySem.W.mroIn K cN (.type "BaseException")=some true)
   (Hi:K.lookup cN=some ⟨coN,doN,.cls cdN,slN⟩)
   (Hj:PySem.W.kitOne K (.ref cN) (.ref cN)=some true)
   (Hl:PySem.W.kitOne K (.ref cN) (.type "ValueError")=some true)
   (L0:K.lookup aP=some ⟨.type "tuple",dP,.seq #[.str "fullest" u1,.str "eldest" u2] nP,slP⟩)
   (L1:PySem.W.exmOne K (.ref cN) (.ref cN)=some true)
   (L4:K.lookup aG=some ⟨.type "tuple",dG,.seq #[.str "gone" tG] nG,slG⟩):
   ∃ fd:FuncData,(∀ (s:Shared) (v:Value),BindsTo s fd ⟨[v],[]⟩ [("_law_script",v)])/\∀ base:Heap,K.In base->base.Ns mainGlobals mg->bf l.prog w K mg base eZ 12 fa fd ["_law_script"] (CK K):=by
 have e:=hfa.symm.trans (PySem.W.mg_of X G a68)
 cases e
 have B:=(B.mk (PySem.W.mg_none_of X G GS) (PySem.W.mg_none_of X G mO) (PySem.W.mg_none_of X G GU) (PySem.W.mg_none_of X G BL) (PySem.W.mg_none_of X G yY) (PySem.W.mg_none_of X G GV) (PySem.W.mg_none_of X G BN) (PySem.W.mg_none_of X G GW) (PySem.W.mg_none_of X G GX) (PySem.W.mg_none_of X G nX) (PySem.W.mg_none_of X G yZ) (PySem.W.mg_none_of X G BO) (PySem.W.mg_none_of X G GY) (PySem.W.mg_none_of X G GZ) (PySem.W.mg_none_of X G mP) (PySem.W.mg_of X G BP) (PySem.W.mg_of X G G0) (PySem.W.mg_of X G j4) (PySem.W.mg_of X G nZ) (PySem.W.mg_of X G ve) (PySem.W.mg_of X G n6) (PySem.W.mg_of X G n9) (PySem.W.mg_of X G pZ) (PySem.W.mg_of X G oh) (PySem.W.mg_of X G y9) (Cg L0 (by simp) rfl) (Cg L4 (by simp) rfl) ⟨⟨LZ⟩,⟨G6,G7,Hf,Hg,Hh,LX,LY,by unfold PySem.W.clsIn;rw [Hi];rfl⟩,Hj,Hl⟩:B K mg aG aP cF cN cN tE tF t1 t2 t3 t4)
 have F1:=aJ (st:=gX) l1 c1 k1
 have b1:=F1.binds (ps:=["thing"]) fun _ _ _ _ _ _ us hl=>match us,hl with | [_],_=>rfl
 have F2:=aJ (st:=je) l2 c2 k2
 have b2:=F2.binds (ps:=["thing","low","high"]) fun _ _ _ _ _ _ us hl=>match us,hl with | [_,_,_],_=>rfl
 have F3:=aJ (st:=dF) l3 c3 k3
 have b3:=F3.binds (ps:=["thing","low"]) fun _ _ _ _ _ _ us hl=>match us,hl with | [_,_],_=>rfl
 have F4:=aJ (st:=lE) l4 c4 k4
 have b4:=F4.binds (ps:=["thing"]) fun _ _ _ _ _ _ us hl=>match us,hl with | [_],_=>rfl
 have F5:=aJ (st:=fV) l5 c5 k5
 have b5:=F5.binds (ps:=["low","high"]) fun _ _ _ _ _ _ us hl=>match us,hl with | [_,_],_=>rfl
 have F6:=aJ (st:=jP) l6 c6 k6
 have b6:=F6.binds (ps:=["thing"]) fun _ _ _ _ _ _ us hl=>match us,hl with | [_],_=>rfl
 have F7:=aJ (st:=jQ) l7 c7 k7
 have b7:=F7.binds (ps:=["thing"]) fun _ _ _ _ _ _ us hl=>match us,hl with | [_],_=>rfl
 have F8:=aJ (st:=jR) l8 c8 k8
 have b8:=F8.binds (ps:=["thing","words"]) fun _ _ _ _ _ _ us hl=>match us,hl with | [_,_],_=>rfl
 have F9:=aJ (st:=gY) l9 c9 k9
 have b9:=F9.binds (ps:=["thing"]) fun _ _ _ _ _ _ us hl=>match us,hl with | [_],_=>rfl
 have F10:=aJ (st:=fX) l10 c10 MC
 have b10:=F10.binds (ps:=["number"]) fun _ _ _ _ _ _ us hl=>match us,hl with | [_],_=>rfl
 have F11:=aJ (st:=fB) l11 c11 MD
 have b11:=F11.binds (ps:=["text"]) fun _ _ _ _ _ _ us hl=>match us,hl with | [_],_=>rfl
 have F12:=aJ (st:=ee) l12 c12 Pw
 have b12:=F12.binds (ps:=["text"]) fun _ _ _ _ _ _ us hl=>match us,hl with | [_],_=>rfl
 have F13:=aJ (st:=jS) l13 c13 ME
 have b13:=F13.binds (ps:=["thing"]) fun _ _ _ _ _ _ us hl=>match us,hl with | [_],_=>rfl
 have F14:=aJ (st:=gZ) l14 c14 Rz
 have b14:=F14.binds (ps:=["numbers"]) fun _ _ _ _ _ _ us hl=>match us,hl with | [_],_=>rfl
 have F15:=aJ (st:=fY) l15 c15 Ly
 have b15:=F15.binds (ps:=["thing"]) fun _ _ _ _ _ _ us hl=>match us,hl with | [_],_=>rfl
 have F16:=aJ (st:=cJ) l16 c16 RA
 have b16:=F16.binds (ps:=["thing","low"]) fun _ _ _ _ _ _ us hl=>match us,hl with | [_,_],_=>rfl
 have F17:=aJ (st:=fZ) l17 c17 RB
 have b17:=F17.binds (ps:=["thing"]) fun _ _ _ _ _ _ us hl=>match us,hl with | [_],_=>rfl
 have F18:=aJ (st:=eB) l18 c18 RC
 have b18:=F18.binds (ps:=["thing"]) fun _ _ _ _ _ _ us hl=>match us,hl with | [_],_=>rfl
 have F19:=aJ (st:=lF) l19 c19 RD
 have b19:=F19.binds (ps:=["thing"]) fun _ _ _ _ _ _ us hl=>match us,hl with | [_],_=>rfl
 have F20:=aJ (st:=jf) l20 c20 RE
 have b20:=F20.binds (ps:=["thing"]) fun _ _ _ _ _ _ us hl=>match us,hl with | [_],_=>rfl
 have F21:=aJ (st:=g6) l21 c21 RG
 have b21:=F21.binds (ps:=["thing"]) fun _ _ _ _ _ _ us hl=>match us,hl with | [_],_=>rfl
 have F22:=aJ (st:=jg) l22 c22 RH
 have b22:=F22.binds (ps:=["thing","word","many"]) fun _ _ _ _ _ _ us hl=>match us,hl with | [_,_,_],_=>rfl
 have F23:=aJ (st:=eE) l23 c23 RI
 have b23:=F23.binds (ps:=["thing"]) fun _ _ _ _ _ _ us hl=>match us,hl with | [_],_=>rfl
 have F24:=aJ (st:=dH) l24 c24 RJ
 have b24:=F24.binds (ps:=["thing"]) fun _ _ _ _ _ _ us hl=>match us,hl with | [_],_=>rfl
 have F25:=aJ (st:=g7) l25 c25 LO
 have b25:=F25.binds (ps:=["texts","sign"]) fun _ _ _ _ _ _ us hl=>match us,hl with | [_,_],_=>rfl
 have F26:=aJ (st:=eN) l26 c26 RK
 have b26:=F26.binds (ps:=["numbers"]) fun _ _ _ _ _ _ us hl=>match us,hl with | [_],_=>rfl
 have F27:=aJ (st:=eO) l27 c27 RM
 have b27:=F27.binds (ps:=["version"]) fun _ _ _ _ _ _ us hl=>match us,hl with | [_],_=>rfl
 have F28:=aJ (st:=jh) l28 c28 RO
 have b28:=F28.binds (ps:=["row"]) fun _ _ _ _ _ _ us hl=>match us,hl with | [_],_=>rfl
 have F29:=aJ (st:=g8) l29 c29 RP
 have b29:=F29.binds (ps:=["half"]) fun _ _ _ _ _ _ us hl=>match us,hl with | [_],_=>rfl
 have F30:=aJ (st:=g9) l30 c30 RQ
 have b30:=F30.binds (ps:=["note"]) fun _ _ _ _ _ _ us hl=>match us,hl with | [_],_=>rfl
 have F31:=aJ (st:=ia) l31 c31 RS
 have b31:=F31.binds (ps:=["room","places"]) fun _ _ _ _ _ _ us hl=>match us,hl with | [_,_],_=>rfl
 have F32:=aJ (st:=ic) l32 c32 RT
 have b32:=F32.binds (ps:=["rule"]) fun _ _ _ _ _ _ us hl=>match us,hl with | [_],_=>rfl
 have F33:=aJ (st:=ie) l33 c33 RU
 have b33:=F33.binds (ps:=["head"]) fun _ _ _ _ _ _ us hl=>match us,hl with | [_],_=>rfl
 have MJ:=aJ (st:=ig) l34 c34 JZ
 have PD:=MJ.binds (ps:=["text","sign","read"]) fun _ _ _ _ _ _ us hl=>match us,hl with | [_,_,_],_=>rfl
 have F35:=aJ (st:=eT) l35 c35 RV
 have b35:=F35.binds (ps:=["text"]) fun _ _ _ _ _ _ us hl=>match us,hl with | [_],_=>rfl
 have F36:=aJ (st:=eU) l36 c36 Py
 have b36:=F36.binds (ps:=["text"]) fun _ _ _ _ _ _ us hl=>match us,hl with | [_],_=>rfl
 have F37:=aJ (st:=ji) l37 c37 Pz
 have b37:=F37.binds (ps:=["text"]) fun _ _ _ _ _ _ us hl=>match us,hl with | [_],_=>rfl
 have F38:=aJ (st:=ir) l38 c38 RX
 have b38:=F38.binds (ps:=["text"]) fun _ _ _ _ _ _ us hl=>match us,hl with | [_],_=>rfl
 have F39:=aJ (st:=iu) l39 c39 PB
 have b39:=F39.binds (ps:=["text"]) fun _ _ _ _ _ _ us hl=>match us,hl with | [_],_=>rfl
 have F40:=aJ (st:=iw) l40 c40 PC
 have b40:=F40.binds (ps:=["text"]) fun _ _ _ _ _ _ us hl=>match us,hl with | [_],_=>rfl
 have F41:=aJ (st:=iy) l41 c41 R0
 have b41:=F41.binds (ps:=["pieces"]) fun _ _ _ _ _ _ us hl=>match us,hl with | [_],_=>rfl
 have F42:=aJ (st:=bY) l42 c42 R1
 have b42:=F42.binds (ps:=["inner","places"]) fun _ _ _ _ _ _ us hl=>match us,hl with | [_,_],_=>rfl
 have F43:=aJ (st:=gb) MA c43 R3
 have b43:=F43.binds (ps:=["pieces"]) fun _ _ _ _ _ _ us hl=>match us,hl with | [_],_=>rfl
 have F44:=aJ (st:=iA) l44 c44 R4
 have b44:=F44.binds (ps:=["text"]) fun _ _ _ _ _ _ us hl=>match us,hl with | [_],_=>rfl
 have F45:=aJ (st:=iB) l45 c45 R5
 have b45:=F45.binds (ps:=["text"]) fun _ _ _ _ _ _ us hl=>match us,hl with | [_],_=>rfl
 have F46:=aJ (st:=bZ) l46 c46 Jr
 have b46:=F46.binds (ps:=["text"]) fun _ _ _ _ _ _ us hl=>match us,hl with | [_],_=>rfl
 have F47:=aJ (st:=eV) l47 c47 LQ
 have b47:=F47.binds (ps:=["_law_script","_law_k"]) fun _ _ _ _ _ _ us hl=>match us,hl with | [_,_],_=>rfl
 have F48:=aJ (st:=gc) l48 c48 R6
 have b48:=F48.binds (ps:=["_law_state","_law_base"]) fun _ _ _ _ _ _ us hl=>match us,hl with | [_,_],_=>rfl
 have F49:=aJ (st:=fC) l49 c49 LR
 have b49:=F49.binds (ps:=["_law_state"]) fun _ _ _ _ _ _ us hl=>match us,hl with | [_],_=>rfl
 have F50:=aJ (st:=gf) l50 c50 R7
 have b50:=F50.binds (ps:=["_law_state"]) fun _ _ _ _ _ _ us hl=>match us,hl with | [_],_=>rfl
 have F51:=aJ (st:=fD) l51 c51 R8
 have b51:=F51.binds (ps:=["_law_state","_law_many","_law_first_here"]) fun _ _ _ _ _ _ us hl=>match us,hl with | [_,_,_],_=>rfl
 have F52:=aJ (st:=iC) l52 c52 R9
 have b52:=F52.binds (ps:=["_law_state","_law_many"]) fun _ _ _ _ _ _ us hl=>match us,hl with | [_,_],_=>rfl
 have F53:=aJ (st:=dI) l53 c53 Sb
 have b53:=F53.binds (ps:=["_law_state","_law_most"]) fun _ _ _ _ _ _ us hl=>match us,hl with | [_,_],_=>rfl
 have F54:=aJ (st:=iD) l54 c54 Sd
 have b54:=F54.binds (ps:=["_law_state","_law_most"]) fun _ _ _ _ _ _ us hl=>match us,hl with | [_,_],_=>rfl
 have F55:=aJ (st:=iE) l55 c55 Se
 have b55:=F55.binds (ps:=["_law_state"]) fun _ _ _ _ _ _ us hl=>match us,hl with | [_],_=>rfl
 have F56:=aJ (st:=iF) l56 c56 Sf
 have b56:=F56.binds (ps:=["_law_state","_law_most"]) fun _ _ _ _ _ _ us hl=>match us,hl with | [_,_],_=>rfl
 have F57:=aJ (st:=iG) l57 c57 Sg
 have b57:=F57.binds (ps:=["_law_half_here"]) fun _ _ _ _ _ _ us hl=>match us,hl with | [_],_=>rfl
 have F58:=aJ (st:=iH) l58 c58 Sh
 have b58:=F58.binds (ps:=["_law_parts","_law_sign"]) fun _ _ _ _ _ _ us hl=>match us,hl with | [_,_],_=>rfl
 have F59:=aJ (st:=dJ) l59 c59 Si
 have b59:=F59.binds (ps:=["_law_row"]) fun _ _ _ _ _ _ us hl=>match us,hl with | [_],_=>rfl
 have F60:=aJ (st:=cZ) l60 c60 Sj
 have b60:=F60.binds (ps:=["_law_note_here"]) fun _ _ _ _ _ _ us hl=>match us,hl with | [_],_=>rfl
 have F61:=aJ (st:=bI) l61 c61 Sk
 have b61:=F61.binds (ps:=["_law_room_here","_law_places"]) fun _ _ _ _ _ _ us hl=>match us,hl with | [_,_],_=>rfl
 have F62:=aJ (st:=fE) l62 c62 Sl
 have b62:=F62.binds (ps:=["_law_text"]) fun _ _ _ _ _ _ us hl=>match us,hl with | [_],_=>rfl
 have F63:=aJ (st:=bu) l63 c63 Sm
 have b63:=F63.binds (ps:=["_law_state"]) fun _ _ _ _ _ _ us hl=>match us,hl with | [_],_=>rfl
 have F64:=aJ (st:=cK) l64 c64 Sn
 have b64:=F64.binds (ps:=["_law_text","_law_at"]) fun _ _ _ _ _ _ us hl=>match us,hl with | [_,_],_=>rfl
 have F65:=aJ (st:=dS) l65 c65 So
 have b65:=F65.binds (ps:=["_law_text"]) fun _ _ _ _ _ _ us hl=>match us,hl with | [_],_=>rfl
 have F66:=aJ (st:=eW) l66 c66 Sq
 have b66:=F66.binds (ps:=["_law_word","_law_thing"]) fun _ _ _ _ _ _ us hl=>match us,hl with | [_,_],_=>rfl
 have F67:=aJ (st:=bB) l67 c67 JX
 have b67:=F67.binds (ps:=["_law_state"]) fun _ _ _ _ _ _ us hl=>match us,hl with | [_],_=>rfl
 have F68:=aJ (st:=qx) l68 c68 k68
 refine ⟨PySem.W.fnOf "law" "law" (aB qx) (aq qx) (af qx) .none Pp Pq Pr Oi LV Pu,fun s v=>.of_eq rfl,fun base _ _=>?_⟩
 have aM:Callee l.prog w K mg base "is_number" 1 ["thing"] mz:=⟨f1,_,xY F1 B,b1,k1,PySem.W.mg_of X G a1⟩
 have bS:Callee l.prog w K mg base "is_whole" 2 ["thing","low","high"] nH:=⟨f2,_,zR F2 B (aM:=aM),b2,k2,PySem.W.mg_of X G a2⟩
 have bA:Callee l.prog w K mg base "is_whole_from" 2 ["thing","low"] qy:=⟨f3,_,rK F3 B (aM:=aM),b3,k3,PySem.W.mg_of X G a3⟩
 have qF:Callee l.prog w K mg base "is_key" 3 ["thing"] Bg:=⟨f4,_,DO F4 B (bS:=bS),b4,k4,PySem.W.mg_of X G a4⟩
 have jI:Callee l.prog w K mg base "is_stretch" 3 ["low","high"] Bh:=⟨f5,_,vF F5 B (bS:=bS),b5,k5,PySem.W.mg_of X G a5⟩
 have oO:Callee l.prog w K mg base "is_plan" 1 ["thing"] BB:=⟨f6,_,BD F6 B,b6,k6,PySem.W.mg_of X G a6⟩
 have oQ:Callee l.prog w K mg base "is_rule" 3 ["thing"] (BE K):=⟨f7,_,BF F7 B (bS:=bS) (oO:=oO),b7,k7,PySem.W.mg_of X G a7⟩
 have lK:Callee l.prog w K mg base "is_half" 2 ["thing","words"] (yq K):=⟨f8,_,Bk F8 B (aM:=aM),b8,k8,PySem.W.mg_of X G a8⟩
 have kr:Callee l.prog w K mg base "is_action" 3 ["thing"] (Bl K):=⟨f9,_,yr F9 B (lK:=lK),b9,k9,PySem.W.mg_of X G a9⟩
 have ay:Callee l.prog w K mg base "figures_of" 1 ["number"] pq:=⟨Qz,_,vL F10 B,b10,MC,PySem.W.mg_of X G a10⟩
 have fF:Callee l.prog w K mg base "are_figures" 1 ["text"] FU:=⟨QA,_,uG F11 B,b11,MD,PySem.W.mg_of X G a11⟩
 have ao:Callee l.prog w K mg base "read_figures" 2 ["text"] qz:=⟨LU,_,mU F12 B (fF:=fF),b12,Pw,PySem.W.mg_of X G Ry⟩
 have oH:Callee l.prog w K mg base "is_note" 4 ["thing"] (yt K):=⟨QB,_,Bm F13 B (bA:=bA) (jI:=jI) (kr:=kr),b13,ME,PySem.W.mg_of X G a13⟩
 have cg:Callee l.prog w K mg base "is_rising" 1 ["numbers"] (Ab K):=⟨QC,_,yv F14 B,b14,Rz,PySem.W.mg_of X G a14⟩
 have cW:Callee l.prog w K mg base "are_wholes" 2 ["thing"] (IY K):=⟨QD,_,vH F15 B (aM:=aM),b15,Ly,PySem.W.mg_of X G a15⟩
 have fK:Callee l.prog w K mg base "are_rising_from" 3 ["thing","low"] (GA K):=⟨QE,_,pW F16 B (cW:=cW) (cg:=cg),b16,RA,PySem.W.mg_of X G a16⟩
 have jJ:Callee l.prog w K mg base "is_version" 3 ["thing"] (Bo K):=⟨QF,_,vI F17 B (bA:=bA) (aM:=aM),b17,RB,PySem.W.mg_of X G a17⟩
 have iS:Callee l.prog w K mg base "are_versions" 4 ["thing"] (yw K):=⟨QG,_,sL F18 B (cg:=cg) (jJ:=jJ),b18,RC,PySem.W.mg_of X G a18⟩
 have qG:Callee l.prog w K mg base "is_row" 5 ["thing"] (Bq K):=⟨QH,_,DQ F19 B (qF:=qF) (iS:=iS),b19,RD,PySem.W.mg_of X G a19⟩
 have mH:Callee l.prog w K mg base "are_rows" 6 ["thing"] (yx K):=⟨QI,_,Ad F20 B (cg:=cg) (qG:=qG),b20,RE,PySem.W.mg_of X G a20⟩
 have ku:Callee l.prog w K mg base "are_notes" 5 ["thing"] (uX K):=⟨QJ,_,yz F21 B (oH:=oH),b21,RG,PySem.W.mg_of X G a21⟩
 have fS:Callee l.prog w K mg base "has_word" 1 ["thing","word","many"] (yC K):=⟨QK,_,Af F22 B,b22,RH,PySem.W.mg_of X G a22⟩
 have iW:Callee l.prog w K mg base "is_leaf_told" 7 ["thing"] (yD K):=⟨QL,_,sN F23 B (fS:=fS) (aM:=aM) (mH:=mH),b23,RI,PySem.W.mg_of X G a23⟩
 have gK:Callee l.prog w K mg base "is_inner_told" 6 ["thing"] (Br K):=⟨QM,_,rN F24 B (fS:=fS) (aM:=aM) (cW:=cW) (ku:=ku),b24,RJ,PySem.W.mg_of X G a24⟩
 have bM:Callee l.prog w K mg base "list_text" 1 ["texts","sign"] (jZ K):=⟨QN,_,yP F25 B,b25,LO,PySem.W.mg_of X G a25⟩
 have bQ:Callee l.prog w K mg base "numbers_text" 2 ["numbers"] (lR K):=⟨QO,_,sU F26 B (bM:=bM) (ay:=ay),b26,RK,PySem.W.mg_of X G a26⟩
 have iZ:Callee l.prog w K mg base "version_text" 2 ["version"] (GC K):=⟨QS,_,sV F27 B (ay:=ay),b27,RM,PySem.W.mg_of X G a27⟩
 have mK:Callee l.prog w K mg base "row_text" 3 ["row"] (GD K):=⟨QT,_,Ao F28 B (bM:=bM) (ay:=ay) (iZ:=iZ),b28,RO,PySem.W.mg_of X G a28⟩
 have jx:Callee l.prog w K mg base "half_text" 2 ["half"] (BG K):=⟨QU,_,yQ F29 B (ay:=ay),b29,RP,PySem.W.mg_of X G a29⟩
 have kJ:Callee l.prog w K mg base "note_text" 3 ["note"] (BH K):=⟨QV,_,yR F30 B (ay:=ay) (jx:=jx),b30,RQ,PySem.W.mg_of X G a30⟩
 have kQ:Callee l.prog w K mg base "room_text" 4 ["room","places"] (BI K):=⟨QW,_,yS F31 B (bM:=bM) (kJ:=kJ) (ay:=ay) (bQ:=bQ) (mK:=mK),b31,RS,PySem.W.mg_of X G a31⟩
 have kL:Callee l.prog w K mg base "rule_text" 2 ["rule"] (LL K):=⟨QX,_,yU F32 B (ay:=ay),b32,RT,PySem.W.mg_of X G a32⟩
 have kU:Callee l.prog w K mg base "head_text" 3 ["head"] (LM K):=⟨QY,_,yV F33 B (ay:=ay) (kL:=kL) (bQ:=bQ),b33,RU,PySem.W.mg_of X G a33⟩
 have Ag:FnAt l.prog w K mg base 2 ["text"] (zb K ak PyData.int) LU:=⟨⟨_,(mU F12 B (fF:=fF)).imp fun _ _ _ _=>Tw,b12,Pw⟩⟩
 have kF:Callee l.prog w K mg base "read_list" 3 ["text","sign","read"] (sO K ak PyData.int (Str.ofString ",") LU):=⟨JY,_,iT MJ B    (hs:=bG) (hd:=fun _=>rfl) (Ag:=Ag),PD,JZ,PySem.W.mg_of X G LW⟩
 have bP:Callee l.prog w K mg base "read_numbers" 4 ["text"] (uY K LU):=⟨QZ,_,sQ F35 B (kF:=kF)   (NU:=PySem.W.mg_of X G Ry),b35,RV,PySem.W.mg_of X G a35⟩
 have Ho:Callee l.prog w K mg base "read_version" 3 ["text"] (zb K qE oY):=⟨MF,_,mV F36 B (ao:=ao),b36,Py,PySem.W.mg_of X G Px⟩
 have PJ:FnAt l.prog w K mg base 3 ["text"] (zb K qE oY) MF:=⟨⟨_,mV F36 B (ao:=ao),b36,Py⟩⟩
 have lN:Callee l.prog w K mg base "read_list" 4 ["text","sign","read"] (sO K qE oY (Str.ofString ",") MF):=⟨JY,_,iT MJ B (hs:=bG) (hd:=fun _=>rfl) (Ag:=PJ),PD,JZ,PySem.W.mg_of X G LW⟩
 have L5:Callee l.prog w K mg base "read_row" 5 ["text"] (zb K lJ sH):=⟨MG,_,rZ F37 B (ao:=ao)   (LG:=PySem.W.mg_of X G Px) (lN:=lN),b37,Pz,PySem.W.mg_of X G RW⟩
 have iI:Callee l.prog w K mg base "read_half" 3 ["text"] (zb K fR bJ.hd):=⟨Q0,_,yE F38 B (ao:=ao),b38,RX,PySem.W.mg_of X G a38⟩
 have J0:Callee l.prog w K mg base "read_note" 4 ["text"] (zb K gv RN.d):=⟨MH,_,qJ F39 B (ao:=ao) (iI:=iI),b39,PB,PySem.W.mg_of X G RY⟩
 have Ka:Callee l.prog w K mg base "read_spot" 3 ["text"] (zb K jG uU):=⟨MI,_,qK F40 B (ao:=ao),b40,PC,PySem.W.mg_of X G RZ⟩
 have PL:FnAt l.prog w K mg base 5 ["text"] (zb K lJ sH) MG:=⟨⟨_,rZ F37 B (ao:=ao) (LG:=PySem.W.mg_of X G Px) (lN:=lN),b37,Pz⟩⟩
 have qL:Callee l.prog w K mg base "read_list" 6 ["text","sign","read"] (sO K lJ sH (Str.ofString ";") MG):=⟨JY,_,iT MJ B (hs:=jq) (hd:=fun _=>rfl) (Ag:=PL),PD,JZ,PySem.W.mg_of X G LW⟩
 have kH:Callee l.prog w K mg base "read_leaf" 8 ["pieces"] (yG K):=⟨Q3,_,yH F41 B (ao:=ao) (iW:=iW)   (NV:=PySem.W.mg_of X G RW) (qL:=qL),b41,R0,PySem.W.mg_of X G a41⟩
 have d8:Callee l.prog w K mg base "is_inner_writable" 1 ["inner","places"] (Bs K):=⟨Q4,_,nJ F42 B,b42,R1,PySem.W.mg_of X G a42⟩
 have L6:FnAt l.prog w K mg base 3 ["text"] (zb K jG uU) MI:=⟨⟨_,qK F40 B (ao:=ao),b40,PC⟩⟩
 have oK:Callee l.prog w K mg base "read_list" 4 ["text","sign","read"] (sO K jG uU (Str.ofString ",") MI):=⟨JY,_,iT MJ B (hs:=bG) (hd:=fun _=>rfl) (Ag:=L6),PD,JZ,PySem.W.mg_of X G LW⟩
 have L7:FnAt l.prog w K mg base 4 ["text"] (zb K gv RN.d) MH:=⟨⟨_,qJ F39 B (ao:=ao) (iI:=iI),b39,PB⟩⟩
 have oM:Callee l.prog w K mg base "read_list" 5 ["text","sign","read"] (sO K gv RN.d (Str.ofString ";") MH):=⟨JY,_,iT MJ B (hs:=jq) (hd:=fun _=>rfl) (Ag:=L7),PD,JZ,PySem.W.mg_of X G LW⟩
 have jK:Callee l.prog w K mg base "read_inner" 7 ["pieces"] (Bt K):=⟨Q5,_,vJ F43 B (ao:=ao) (bP:=bP) (gK:=gK) (d8:=d8)   (NW:=PySem.W.mg_of X G RZ) (oK:=oK) (NY:=PySem.W.mg_of X G RY) (oM:=oM),b43,R3,PySem.W.mg_of X G a43⟩
 have jz:mw l.prog w K mg base "read_room" 9 ["text"] (tS K cN):=⟨Q6,_,yI F44 B (kH:=kH) (jK:=jK),b44,R4,PySem.W.mg_of X G a44⟩
 have kI:Callee l.prog w K mg base "read_rule" 4 ["text"] (LK K):=⟨Q7,_,yM F45 B (oQ:=oQ) (ao:=ao),b45,R5,PySem.W.mg_of X G a45⟩
 have jA:mw l.prog w K mg base "read_head" 5 ["text"] (Ji K cN):=⟨Q8,_,yN F46 B (kI:=kI) (bP:=bP) (ao:=ao) (fK:=fK) (bA:=bA),b46,Jr,PySem.W.mg_of X G a46⟩
 have i7:Callee l.prog w K mg base "_law_cell_at" 1 ["_law_script","_law_k"] (Ba K):=⟨Q9,_,sG F47 B,b47,LQ,PySem.W.mg_of X G a47⟩
 have aj:Callee l.prog w K mg base "_law_digit" 1 ["_law_state","_law_base"] (gF K):=⟨Ra,_,vA F48 B,b48,R6,PySem.W.mg_of X G a48⟩
 have bD:Callee l.prog w K mg base "_law_number" 2 ["_law_state"] (nI K):=⟨Rb,_,uK F49 B (aj:=aj),b49,LR,PySem.W.mg_of X G a49⟩
 have aY:Callee l.prog w K mg base "_law_first" 2 ["_law_state"] (oE K):=⟨Rc,_,vC F50 B (aj:=aj),b50,R7,PySem.W.mg_of X G a50⟩
 have bg:Callee l.prog w K mg base "_law_rising" 2 ["_law_state","_law_many","_law_first_here"] (lH K):=⟨Rf,_,uL F51 B (aj:=aj),b51,R8,PySem.W.mg_of X G a51⟩
 have kj:Callee l.prog w K mg base "_law_keys" 3 ["_law_state","_law_many"] (Bb K):=⟨Rg,_,xZ F52 B (aj:=aj) (bg:=bg),b52,R9,PySem.W.mg_of X G a52⟩
 have gH:Callee l.prog w K mg base "_law_versions" 3 ["_law_state","_law_most"] (pR K):=⟨Rh,_,rL F53 B (bg:=bg) (aj:=aj) (aY:=aY) (bD:=bD),b53,Sb,PySem.W.mg_of X G a53⟩
 have jv:Callee l.prog w K mg base "_law_some" 2 ["_law_state","_law_most"] (Bc K):=⟨Ri,_,yb F54 B (aj:=aj),b54,Sd,PySem.W.mg_of X G a54⟩
 have ki:Callee l.prog w K mg base "_law_note" 3 ["_law_state"] (yc K):=⟨Rj,_,yd F55 B (aj:=aj) (bD:=bD) (aY:=aY),b55,Se,PySem.W.mg_of X G a55⟩
 have kM:Callee l.prog w K mg base "_law_room" 4 ["_law_state","_law_most"] (yl K):=⟨Rk,_,ym F56 B (bg:=bg) (aj:=aj) (kj:=kj) (aY:=aY) (bD:=bD) (ki:=ki) (jv:=jv) (gH:=gH),b56,Sf,PySem.W.mg_of X G a56⟩
 have kg:Callee l.prog w K mg base "_law_half" 1 ["_law_half_here"] (ye K):=⟨Rl,_,yg F57 B,b57,Sg,PySem.W.mg_of X G a57⟩
 have cX:Callee l.prog w K mg base "_law_line" 1 ["_law_parts","_law_sign"] (tP K):=⟨Rn,_,yi F58 B,b58,Sh,PySem.W.mg_of X G a58⟩
 have gG:Callee l.prog w K mg base "_law_row_text" 1 ["_law_row"] (Bd K):=⟨Ro,_,rM F59 B,b59,Si,PySem.W.mg_of X G a59⟩
 have gm:Callee l.prog w K mg base "_law_note_text" 2 ["_law_note_here"] (uO K):=⟨Rp,_,qB F60 B (kg:=kg),b60,Sj,PySem.W.mg_of X G a60⟩
 have gr:Callee l.prog w K mg base "_law_room_text" 3 ["_law_room_here","_law_places"] (yj K):=⟨Rq,_,qC F61 B (cX:=cX) (gm:=gm) (gG:=gG),b61,Sk,PySem.W.mg_of X G a61⟩
 have jr:Callee l.prog w K mg base "_law_starts" 1 ["_law_text"] (u9 K):=⟨Rr,_,vc F62 B,b62,Sl,PySem.W.mg_of X G a62⟩
 have gu:Callee l.prog w K mg base "_law_head_text" 3 ["_law_state"] (yW K):=⟨Rt,_,qQ F63 B (bg:=bg) (aj:=aj) (cX:=cX) (aY:=aY),b63,Sm,PySem.W.mg_of X G a63⟩
 have fL:Callee l.prog w K mg base "_law_figures_at" 1 ["_law_text","_law_at"] vd:=⟨Ru,_,pY F64 B,b64,Sn,PySem.W.mg_of X G a64⟩
 have j3:Callee l.prog w K mg base "_law_bad" 2 ["_law_text"] (GJ K):=⟨Rv,_,As F65 B (jr:=jr) (fL:=fL),b65,So,PySem.W.mg_of X G a65⟩
 have fT:Callee l.prog w K mg base "_law_refused" 10 ["_law_word","_law_thing"] (rQ K):=⟨Rw,_,sW F66 B (jz:=jz) (jA:=jA)   (hN:=L1),b66,Sq,PySem.W.mg_of X G a66⟩
 have kN:=jz.quiet (roomQ (K:=K) (cN:=cN))
 have kO:=jA.quiet (Of (K:=K) (cN:=cN))
 have jM:Callee l.prog w K mg base "_law_holds" 11 ["_law_state"] (yX K):=⟨Rx,_,vM F67 B (kM:=kM) (gr:=gr) (gu:=gu) (aj:=aj) (j3:=j3) (fT:=fT) (kQ:=kQ) (kU:=kU)   (kN:=kN) (kO:=kO),b67,JX,PySem.W.mg_of X G a67⟩
 exact LS F68 B (jM:=jM) (i7:=i7)
theorem walk {l:PySem.W.OpenLaw} {q:Program} {loose:List Str} {XP:(Str->Option Value)->Heap->Prop} {YP:World->Heap->Prop} {d:DefRec} {K:Params->PySem.W.Frag} (hn:l.most=some 63) (JD:d.params.defaults=[])
   (hY:∀ (w:World) (h:Heap),YP w h->(K w.params).In h)
   (F:∀ (w:World) (mg:Str->Option Value) (fa:Addr) (h:Heap),(K w.params).In h->h.Ns mainGlobals mg->mg d.name=some (.ref fa)->
     ∃ fd:FuncData,(∀ (s:Shared) (u:Value),BindsTo s fd ⟨[u],[]⟩ [("_law_script",u)])/\∀ base:Heap,(K w.params).In base->base.Ns mainGlobals mg->bf l.prog w (K w.params) mg base eZ 12 fa fd ["_law_script"] (CK (K w.params))):
   PySem.W.WalkO q loose XP YP l.row.toRowW d [] (fun f vs=>PySem.call f vs):=
 L2.Ip (n:=63) (k:=12) (x:="_law_script") (CX:=fun _=>eZ) (sp:=fun w=>CK (K w.params)) hn (by decide) JD ⟨rfl,by decide,by decide,rfl⟩ hY F (fun _ _ a ns hl ho hS=>⟨a,ns,rfl,hS,hl,ho,fun _=>rfl⟩) fun _ _ _ _ _ z=>z
abbrev kh (P:Params) (x:Str):Int:=PyData.keyHash P x
abbrev oC (a:Str) (b:Tok) (c:Str) (d:Tok) (e:Str) (f:Tok) (g h i j k:Int) (l:Addr) (m:Bool) (n:Int) (o:Addr) (p q r s:Value) (u v:Int) (x:Str) (y:Tok):Obj:=⟨.type "code",none,.fields #[.str a b,.str c d,.str e f,.int g 0,.int h 0,.int i 0,.int j 0,.int k 0,.ref l,.bool m,.int n 0,.ref o,p,q,r,s,.int u 0,.int v 0,.str x y],#[]⟩
abbrev oT (x:Array Value):Obj:=⟨.type "tuple",none,.seq x 0,#[]⟩
abbrev oF (a b:Str) (s:Stmt) (n:Nat) (d k m c:Value):Obj:=⟨.type "function",none,.func ⟨a,b,aB s,.stmts (aq s),af s,n,[],d,k,.none,m,none,c,.none,0⟩,#[]⟩
abbrev oG (a b:Str) (s:Stmt):Obj:=⟨.none,none,.func ⟨a,b,aB s,.stmts (aq s),af s,0,[],.none,.none,.none,.none,none,.none,.none,0⟩,#[]⟩
abbrev oN:Obj:=⟨.none,none,.fields #[],#[]⟩
noncomputable def hK (P:Params):PySem.W.Frag:=(nat_lit 2,⟨.none,none,(.dict (List.toArray ( [])) 0),#[]⟩)::(nat_lit 3,⟨(.type "dict"),none,(.dict (List.toArray (⟨kh P "__name__",(.str "__name__" 165),(.str "law_notefall_k75_texts_that_are_no_body" 617)⟩::⟨kh P "__doc__",(.str "__doc__" 166),.none⟩::⟨kh P "__package__",(.str "__package__" 167),.none⟩::⟨kh P "__loader__",(.str "__loader__" 168),(.builtin "__main__.__loader__#opaque")⟩::⟨kh P "__spec__",(.str "__spec__" 169),.none⟩::⟨kh P "__annotations__",(.str "__annotations__" 170),(.ref 6)⟩::⟨kh P "__builtins__",(.str "__builtins__" 171),(.ref 4)⟩::⟨kh P "__file__",(.str "__file__" 173),(.str "/claim/cut.py" 172)⟩::⟨kh P "__cached__",(.str "__cached__" 174),.none⟩::⟨kh P "FallError",(.str "FallError" 206),(.ref 24)⟩::⟨kh P "NoPage",(.str "NoPage" 222),(.ref 37)⟩::⟨kh P "END",(.str "END" 228),(.int 1000000000000 227)⟩::⟨kh P "MOST_TRAY",(.str "MOST_TRAY" 230),(.int 64 229)⟩::⟨kh P "LEAST_FAN",(.str "LEAST_FAN" 232),(.int 3 231)⟩::⟨kh P "MOST_FAN",(.str "MOST_FAN" 234),(.int 16 233)⟩::⟨kh P "MOST_ROWS",(.str "MOST_ROWS" 236),(.int 64 235)⟩::⟨kh P "PLANS",(.str "PLANS" 239),(.ref 40)⟩::⟨kh P "is_number",(.str "is_number" 246),(.ref 47)⟩::⟨kh P "is_whole",(.str "is_whole" 255),(.ref 54)⟩::⟨kh P "is_whole_from",(.str "is_whole_from" 263),(.ref 61)⟩::⟨kh P "is_key",(.str "is_key" 270),(.ref 68)⟩::⟨kh P "is_stretch",(.str "is_stretch" 278),(.ref 75)⟩::⟨kh P "is_plan",(.str "is_plan" 285),(.ref 82)⟩::⟨kh P "is_rule",(.str "is_rule" 296),(.ref 89)⟩::⟨kh P "GONE",(.str "GONE" 300),(.ref 90)⟩::⟨kh P "is_half",(.str "is_half" 308),(.ref 97)⟩::⟨kh P "is_action",(.str "is_action" 317),(.ref 104)⟩::⟨kh P "MOST_FIGURES",(.str "MOST_FIGURES" 321),(.int 60 320)⟩::⟨kh P "figures_of",(.str "figures_of" 328),(.ref 111)⟩::⟨kh P "are_figures",(.str "are_figures" 335),(.ref 118)⟩::⟨kh P "read_figures",(.str "read_figures" 343),(.ref 125)⟩::⟨kh P "is_note",(.str "is_note" 356),(.ref 132)⟩::⟨kh P "is_rising",(.str "is_rising" 364),(.ref 137)⟩::⟨kh P "are_wholes",(.str "are_wholes" 370),(.ref 142)⟩::⟨kh P "are_rising_from",(.str "are_rising_from" 376),(.ref 147)⟩::⟨kh P "is_version",(.str "is_version" 385),(.ref 154)⟩::⟨kh P "are_versions",(.str "are_versions" 391),(.ref 159)⟩::⟨kh P "is_row",(.str "is_row" 398),(.ref 166)⟩::⟨kh P "are_rows",(.str "are_rows" 404),(.ref 171)⟩::⟨kh P "are_notes",(.str "are_notes" 410),(.ref 176)⟩::⟨kh P "has_word",(.str "has_word" 419),(.ref 183)⟩::⟨kh P "is_leaf_told",(.str "is_leaf_told" 426),(.ref 190)⟩::⟨kh P "is_inner_told",(.str "is_inner_told" 438),(.ref 197)⟩::⟨kh P "list_text",(.str "list_text" 448),(.ref 204)⟩::⟨kh P "numbers_text",(.str "numbers_text" 454),(.ref 209)⟩::⟨kh P "version_text",(.str "version_text" 463),(.ref 216)⟩::⟨kh P "row_text",(.str "row_text" 469),(.ref 221)⟩::⟨kh P "half_text",(.str "half_text" 478),(.ref 228)⟩::⟨kh P "note_text",(.str "note_text" 490),(.ref 235)⟩::⟨kh P "room_text",(.str "room_text" 496),(.ref 240)⟩::⟨kh P "rule_text",(.str "rule_text" 507),(.ref 247)⟩::⟨kh P "head_text",(.str "head_text" 513),(.ref 252)⟩::⟨kh P "read_list",(.str "read_list" 519),(.ref 257)⟩::⟨kh P "read_numbers",(.str "read_numbers" 526),(.ref 264)⟩::⟨kh P "read_version",(.str "read_version" 536),(.ref 271)⟩::⟨kh P "read_row",(.str "read_row" 547),(.ref 278)⟩::⟨kh P "read_half",(.str "read_half" 555),(.ref 285)⟩::⟨kh P "read_note",(.str "read_note" 561),(.ref 290)⟩::⟨kh P "read_spot",(.str "read_spot" 572),(.ref 297)⟩::⟨kh P "read_leaf",(.str "read_leaf" 583),(.ref 304)⟩::⟨kh P "read_inner",(.str "read_inner" 589),(.ref 309)⟩::⟨kh P "is_inner_writable",(.str "is_inner_writable" 595),(.ref 314)⟩::⟨kh P "read_room",(.str "read_room" 604),(.ref 321)⟩::⟨kh P "read_rule",(.str "read_rule" 610),(.ref 326)⟩::⟨kh P "read_head",(.str "read_head" 616),(.ref 331)⟩::⟨kh P "_law_cell_at",(.str "_law_cell_at" 626),(.ref 338)⟩::⟨kh P "_law_digit",(.str "_law_digit" 637),(.ref 345)⟩::⟨kh P "_law_number",(.str "_law_number" 646),(.ref 352)⟩::⟨kh P "_law_first",(.str "_law_first" 653),(.ref 359)⟩::⟨kh P "_law_rising",(.str "_law_rising" 665),(.ref 366)⟩::⟨kh P "_law_keys",(.str "_law_keys" 671),(.ref 371)⟩::⟨kh P "_law_versions",(.str "_law_versions" 682),(.ref 378)⟩::⟨kh P "_law_some",(.str "_law_some" 690),(.ref 385)⟩::⟨kh P "_law_note",(.str "_law_note" 703),(.ref 392)⟩::⟨kh P "_law_room",(.str "_law_room" 709),(.ref 397)⟩::⟨kh P "_law_half",(.str "_law_half" 716),(.ref 404)⟩::⟨kh P "_law_line",(.str "_law_line" 724),(.ref 411)⟩::⟨kh P "_law_row_text",(.str "_law_row_text" 734),(.ref 418)⟩::⟨kh P "_law_note_text",(.str "_law_note_text" 740),(.ref 423)⟩::⟨kh P "_law_room_text",(.str "_law_room_text" 746),(.ref 428)⟩::⟨kh P "_law_starts",(.str "_law_starts" 758),(.ref 435)⟩::⟨kh P "_law_head_text",(.str "_law_head_text" 764),(.ref 440)⟩::⟨kh P "_law_figures_at",(.str "_law_figures_at" 773),(.ref 447)⟩::⟨kh P "_law_bad",(.str "_law_bad" 784),(.ref 454)⟩::⟨kh P "_law_refused",(.str "_law_refused" 792),(.ref 461)⟩::⟨kh P "_law_holds",(.str "_law_holds" 805),(.ref 468)⟩::⟨kh P "law",(.str "law" 813),(.ref 475)⟩::[])) 87),#[]⟩)::(nat_lit 15,oT #[(.type "ValueError")])::(nat_lit 22,oT #[])::(nat_lit 23,⟨(.type "dict"),none,(.dict (List.toArray (⟨kh P "__module__",(.str "__module__" 196),(.str "notefall.errors" 187)⟩::⟨kh P "__firstlineno__",(.str "__firstlineno__" 200),(.int 2 199)⟩::⟨kh P "__static_attributes__",(.str "__static_attributes__" 201),(.ref 22)⟩::⟨kh P "__weakref__",(.str "__weakref__" 203),(.ref 25)⟩::⟨kh P "__doc__",(.str "__doc__" 204),.none⟩::[])) 3),#[]⟩)::(nat_lit 24,⟨(.type "type"),none,(.cls ⟨"FallError",[(.type "ValueError")],[(.ref 24),(.type "ValueError"),(.type "Exception"),(.type "BaseException"),(.type "object")],23,"FallError",true,[],[(.ref 37)],false,none,false⟩),#[(some (.ref 15)),none,(some (.str "FallError" 189)),(some (.str "FallError" 197)),(some (.builtin "ValueError.__new__")),(some (.bool true))]⟩)::(nat_lit 25,⟨(.type "getset_descriptor"),none,(.fields #[(.str "__weakref__" 202),(.ref 24),(.builtin "ExceptionGroup.__weakref__"),.none]),#[]⟩)::(nat_lit 28,oT #[(.ref 24)])::(nat_lit 35,oT #[])::(nat_lit 36,⟨(.type "dict"),none,(.dict (List.toArray (⟨kh P "__module__",(.str "__module__" 214),(.str "notefall.errors" 187)⟩::⟨kh P "__firstlineno__",(.str "__firstlineno__" 218),(.int 4 217)⟩::⟨kh P "__static_attributes__",(.str "__static_attributes__" 219),(.ref 35)⟩::⟨kh P "__doc__",(.str "__doc__" 220),.none⟩::[])) 2),#[]⟩)::(nat_lit 37,⟨(.type "type"),none,(.cls ⟨"NoPage",[(.ref 24)],[(.ref 37),(.ref 24),(.type "ValueError"),(.type "Exception"),(.type "BaseException"),(.type "object")],36,"NoPage",true,[],[],false,none,false⟩),#[(some (.ref 28)),none,(some (.str "NoPage" 207)),(some (.str "NoPage" 215)),(some (.builtin "ValueError.__new__")),(some (.bool true))]⟩)::(nat_lit 40,oT #[(.str "fullest" 237),(.str "eldest" 238)])::(nat_lit 41,oT #[])::(nat_lit 43,oT #[(.str "thing" 243)])::(nat_lit 44,oT #[])::(nat_lit 46,oC "is_number" 240 "is_number" 241 "/claim/cut.py" 242 13 1 0 0 3 41 true 181 42 .none (.ref 43) (.ref 44) (.ref 45) 244 13 "/claim/cut.py" 245)::(nat_lit 47,oF "is_number" "is_number" (top 10) 3 .none .none (.str "notefall.wholes" 223) (.ref 46))::(nat_lit 48,oT #[])::(nat_lit 50,oT #[(.str "thing" 250),(.str "low" 251),(.str "high" 252)])::(nat_lit 51,oT #[])::(nat_lit 53,oC "is_whole" 247 "is_whole" 248 "/claim/cut.py" 249 15 3 0 0 3 48 true 181 49 .none (.ref 50) (.ref 51) (.ref 52) 253 15 "/claim/cut.py" 254)::(nat_lit 54,oF "is_whole" "is_whole" (top 11) 3 .none .none (.str "notefall.wholes" 223) (.ref 53))::(nat_lit 55,oT #[])::(nat_lit 57,oT #[(.str "thing" 259),(.str "low" 260)])::(nat_lit 58,oT #[])::(nat_lit 60,oC "is_whole_from" 256 "is_whole_from" 257 "/claim/cut.py" 258 17 2 0 0 3 55 true 181 56 .none (.ref 57) (.ref 58) (.ref 59) 261 17 "/claim/cut.py" 262)::(nat_lit 61,oF "is_whole_from" "is_whole_from" (top 12) 3 .none .none (.str "notefall.wholes" 223) (.ref 60))::(nat_lit 62,oT #[])::(nat_lit 64,oT #[(.str "thing" 267)])::(nat_lit 65,oT #[])::(nat_lit 67,oC "is_key" 264 "is_key" 265 "/claim/cut.py" 266 19 1 0 0 3 62 true 181 63 .none (.ref 64) (.ref 65) (.ref 66) 268 19 "/claim/cut.py" 269)::(nat_lit 68,oF "is_key" "is_key" (top 13) 3 .none .none (.str "notefall.wholes" 223) (.ref 67))::(nat_lit 69,oT #[])::(nat_lit 71,oT #[(.str "low" 274),(.str "high" 275)])::(nat_lit 72,oT #[])::(nat_lit 74,oC "is_stretch" 271 "is_stretch" 272 "/claim/cut.py" 273 21 2 0 0 3 69 true 181 70 .none (.ref 71) (.ref 72) (.ref 73) 276 21 "/claim/cut.py" 277)::(nat_lit 75,oF "is_stretch" "is_stretch" (top 14) 3 .none .none (.str "notefall.wholes" 223) (.ref 74))::(nat_lit 76,oT #[])::(nat_lit 78,oT #[(.str "thing" 282)])::(nat_lit 79,oT #[])::(nat_lit 81,oC "is_plan" 279 "is_plan" 280 "/claim/cut.py" 281 23 1 0 0 3 76 true 181 77 .none (.ref 78) (.ref 79) (.ref 80) 283 23 "/claim/cut.py" 284)::(nat_lit 82,oF "is_plan" "is_plan" (top 15) 3 .none .none (.str "notefall.wholes" 223) (.ref 81))::(nat_lit 83,oT #[])::(nat_lit 85,oT #[(.str "thing" 289),(.str "tray" 290),(.str "fan" 291),(.str "rows" 292),(.str "plan" 293)])::(nat_lit 86,oT #[])::(nat_lit 88,oC "is_rule" 286 "is_rule" 287 "/claim/cut.py" 288 25 1 0 0 3 83 true 181 84 .none (.ref 85) (.ref 86) (.ref 87) 294 25 "/claim/cut.py" 295)::(nat_lit 89,oF "is_rule" "is_rule" (top 16) 3 .none .none (.str "notefall.wholes" 223) (.ref 88))::(nat_lit 90,oT #[(.str "gone" 299)])::(nat_lit 91,oT #[])::(nat_lit 93,oT #[(.str "thing" 304),(.str "words" 305)])::(nat_lit 94,oT #[])::(nat_lit 96,oC "is_half" 301 "is_half" 302 "/claim/cut.py" 303 34 2 0 0 3 91 true 181 92 .none (.ref 93) (.ref 94) (.ref 95) 306 34 "/claim/cut.py" 307)::(nat_lit 97,oF "is_half" "is_half" (top 19) 3 .none .none (.str "notefall.actions" 297) (.ref 96))::(nat_lit 98,oT #[])::(nat_lit 100,oT #[(.str "thing" 312),(.str "there" 313),(.str "none" 314)])::(nat_lit 101,oT #[])::(nat_lit 103,oC "is_action" 309 "is_action" 310 "/claim/cut.py" 311 40 1 0 0 3 98 true 181 99 .none (.ref 100) (.ref 101) (.ref 102) 315 40 "/claim/cut.py" 316)::(nat_lit 104,oF "is_action" "is_action" (top 20) 3 .none .none (.str "notefall.actions" 297) (.ref 103))::(nat_lit 105,oT #[])::(nat_lit 107,oT #[(.str "number" 325)])::(nat_lit 108,oT #[])::(nat_lit 110,oC "figures_of" 322 "figures_of" 323 "/claim/cut.py" 324 47 1 0 0 3 105 true 181 106 .none (.ref 107) (.ref 108) (.ref 109) 326 47 "/claim/cut.py" 327)::(nat_lit 111,oF "figures_of" "figures_of" (top 23) 3 .none .none (.str "notefall.figures" 318) (.ref 110))::(nat_lit 112,oT #[])::(nat_lit 114,oT #[(.str "text" 332)])::(nat_lit 115,oT #[])::(nat_lit 117,oC "are_figures" 329 "are_figures" 330 "/claim/cut.py" 331 49 1 0 0 3 112 true 181 113 .none (.ref 114) (.ref 115) (.ref 116) 333 49 "/claim/cut.py" 334)::(nat_lit 118,oF "are_figures" "are_figures" (top 24) 3 .none .none (.str "notefall.figures" 318) (.ref 117))::(nat_lit 119,oT #[])::(nat_lit 121,oT #[(.str "text" 339),(.str "bare" 340)])::(nat_lit 122,oT #[])::(nat_lit 124,oC "read_figures" 336 "read_figures" 337 "/claim/cut.py" 338 51 1 0 0 3 119 true 181 120 .none (.ref 121) (.ref 122) (.ref 123) 341 51 "/claim/cut.py" 342)::(nat_lit 125,oF "read_figures" "read_figures" (top 25) 3 .none .none (.str "notefall.figures" 318) (.ref 124))::(nat_lit 126,oT #[])::(nat_lit 128,oT #[(.str "thing" 349),(.str "number" 350),(.str "low" 351),(.str "high" 352),(.str "action" 353)])::(nat_lit 129,oT #[])::(nat_lit 131,oC "is_note" 346 "is_note" 347 "/claim/cut.py" 348 61 1 0 0 3 126 true 181 127 .none (.ref 128) (.ref 129) (.ref 130) 354 61 "/claim/cut.py" 355)::(nat_lit 132,oF "is_note" "is_note" (top 27) 3 .none .none (.str "notefall.notes" 344) (.ref 131))::(nat_lit 133,oT #[])::(nat_lit 136,oC "is_rising" 359 "is_rising" 360 "/claim/cut.py" 361 69 1 0 0 3 133 true 181 134 .none .none .none (.ref 135) 362 69 "/claim/cut.py" 363)::(nat_lit 137,oF "is_rising" "is_rising" (top 29) 3 .none .none (.str "notefall.shapes" 357) (.ref 136))::(nat_lit 138,oT #[])::(nat_lit 141,oC "are_wholes" 365 "are_wholes" 366 "/claim/cut.py" 367 71 1 0 0 3 138 true 181 139 .none .none .none (.ref 140) 368 71 "/claim/cut.py" 369)::(nat_lit 142,oF "are_wholes" "are_wholes" (top 30) 3 .none .none (.str "notefall.shapes" 357) (.ref 141))::(nat_lit 143,oT #[])::(nat_lit 146,oC "are_rising_from" 371 "are_rising_from" 372 "/claim/cut.py" 373 73 2 0 0 3 143 true 181 144 .none .none .none (.ref 145) 374 73 "/claim/cut.py" 375)::(nat_lit 147,oF "are_rising_from" "are_rising_from" (top 31) 3 .none .none (.str "notefall.shapes" 357) (.ref 146))::(nat_lit 148,oT #[])::(nat_lit 150,oT #[(.str "thing" 380),(.str "number" 381),(.str "value" 382)])::(nat_lit 151,oT #[])::(nat_lit 153,oC "is_version" 377 "is_version" 378 "/claim/cut.py" 379 75 1 0 0 3 148 true 181 149 .none (.ref 150) (.ref 151) (.ref 152) 383 75 "/claim/cut.py" 384)::(nat_lit 154,oF "is_version" "is_version" (top 32) 3 .none .none (.str "notefall.shapes" 357) (.ref 153))::(nat_lit 155,oT #[])::(nat_lit 158,oC "are_versions" 386 "are_versions" 387 "/claim/cut.py" 388 80 1 0 0 3 155 true 181 156 .none .none .none (.ref 157) 389 80 "/claim/cut.py" 390)::(nat_lit 159,oF "are_versions" "are_versions" (top 33) 3 .none .none (.str "notefall.shapes" 357) (.ref 158))::(nat_lit 160,oT #[])::(nat_lit 162,oT #[(.str "thing" 395)])::(nat_lit 163,oT #[])::(nat_lit 165,oC "is_row" 392 "is_row" 393 "/claim/cut.py" 394 84 1 0 0 3 160 true 181 161 .none (.ref 162) (.ref 163) (.ref 164) 396 84 "/claim/cut.py" 397)::(nat_lit 166,oF "is_row" "is_row" (top 34) 3 .none .none (.str "notefall.shapes" 357) (.ref 165))::(nat_lit 167,oT #[])::(nat_lit 170,oC "are_rows" 399 "are_rows" 400 "/claim/cut.py" 401 86 1 0 0 3 167 true 181 168 .none .none .none (.ref 169) 402 86 "/claim/cut.py" 403)::(nat_lit 171,oF "are_rows" "are_rows" (top 35) 3 .none .none (.str "notefall.shapes" 357) (.ref 170))::(nat_lit 172,oT #[])::(nat_lit 175,oC "are_notes" 405 "are_notes" 406 "/claim/cut.py" 407 90 1 0 0 3 172 true 181 173 .none .none .none (.ref 174) 408 90 "/claim/cut.py" 409)::(nat_lit 176,oF "are_notes" "are_notes" (top 36) 3 .none .none (.str "notefall.shapes" 357) (.ref 175))::(nat_lit 177,oT #[])::(nat_lit 179,oT #[(.str "thing" 414),(.str "word" 415),(.str "many" 416)])::(nat_lit 180,oT #[])::(nat_lit 182,oC "has_word" 411 "has_word" 412 "/claim/cut.py" 413 92 3 0 0 3 177 true 181 178 .none (.ref 179) (.ref 180) (.ref 181) 417 92 "/claim/cut.py" 418)::(nat_lit 183,oF "has_word" "has_word" (top 37) 3 .none .none (.str "notefall.shapes" 357) (.ref 182))::(nat_lit 184,oT #[])::(nat_lit 186,oT #[(.str "thing" 423)])::(nat_lit 187,oT #[])::(nat_lit 189,oC "is_leaf_told" 420 "is_leaf_told" 421 "/claim/cut.py" 422 96 1 0 0 3 184 true 181 185 .none (.ref 186) (.ref 187) (.ref 188) 424 96 "/claim/cut.py" 425)::(nat_lit 190,oF "is_leaf_told" "is_leaf_told" (top 38) 3 .none .none (.str "notefall.shapes" 357) (.ref 189))::(nat_lit 191,oT #[])::(nat_lit 193,oT #[(.str "thing" 430),(.str "word" 431),(.str "number" 432),(.str "pivots" 433),(.str "children" 434),(.str "tray" 435)])::(nat_lit 194,oT #[])::(nat_lit 196,oC "is_inner_told" 427 "is_inner_told" 428 "/claim/cut.py" 429 98 1 0 0 3 191 true 181 192 .none (.ref 193) (.ref 194) (.ref 195) 436 98 "/claim/cut.py" 437)::(nat_lit 197,oF "is_inner_told" "is_inner_told" (top 39) 3 .none .none (.str "notefall.shapes" 357) (.ref 196))::(nat_lit 198,oT #[])::(nat_lit 200,oT #[(.str "texts" 444),(.str "sign" 445)])::(nat_lit 201,oT #[])::(nat_lit 203,oC "list_text" 441 "list_text" 442 "/claim/cut.py" 443 104 2 0 0 3 198 true 181 199 .none (.ref 200) (.ref 201) (.ref 202) 446 104 "/claim/cut.py" 447)::(nat_lit 204,oF "list_text" "list_text" (top 41) 3 .none .none (.str "notefall.pages" 439) (.ref 203))::(nat_lit 205,oT #[])::(nat_lit 208,oC "numbers_text" 449 "numbers_text" 450 "/claim/cut.py" 451 106 1 0 0 3 205 true 181 206 .none .none .none (.ref 207) 452 106 "/claim/cut.py" 453)::(nat_lit 209,oF "numbers_text" "numbers_text" (top 42) 3 .none .none (.str "notefall.pages" 439) (.ref 208))::(nat_lit 210,oT #[])::(nat_lit 212,oT #[(.str "version" 458),(.str "number" 459),(.str "value" 460)])::(nat_lit 213,oT #[])::(nat_lit 215,oC "version_text" 455 "version_text" 456 "/claim/cut.py" 457 108 1 0 0 3 210 true 181 211 .none (.ref 212) (.ref 213) (.ref 214) 461 108 "/claim/cut.py" 462)::(nat_lit 216,oF "version_text" "version_text" (top 43) 3 .none .none (.str "notefall.pages" 439) (.ref 215))::(nat_lit 217,oT #[])::(nat_lit 220,oC "row_text" 464 "row_text" 465 "/claim/cut.py" 466 111 1 0 0 3 217 true 181 218 .none .none .none (.ref 219) 467 111 "/claim/cut.py" 468)::(nat_lit 221,oF "row_text" "row_text" (top 44) 3 .none .none (.str "notefall.pages" 439) (.ref 220))::(nat_lit 222,oT #[])::(nat_lit 224,oT #[(.str "half" 473),(.str "word" 474),(.str "number" 475)])::(nat_lit 225,oT #[])::(nat_lit 227,oC "half_text" 470 "half_text" 471 "/claim/cut.py" 472 114 1 0 0 3 222 true 181 223 .none (.ref 224) (.ref 225) (.ref 226) 476 114 "/claim/cut.py" 477)::(nat_lit 228,oF "half_text" "half_text" (top 45) 3 .none .none (.str "notefall.pages" 439) (.ref 227))::(nat_lit 229,oT #[])::(nat_lit 231,oT #[(.str "note" 482),(.str "number" 483),(.str "low" 484),(.str "high" 485),(.str "there" 486),(.str "none" 487)])::(nat_lit 232,oT #[])::(nat_lit 234,oC "note_text" 479 "note_text" 480 "/claim/cut.py" 481 119 1 0 0 3 229 true 181 230 .none (.ref 231) (.ref 232) (.ref 233) 488 119 "/claim/cut.py" 489)::(nat_lit 235,oF "note_text" "note_text" (top 46) 3 .none .none (.str "notefall.pages" 439) (.ref 234))::(nat_lit 236,oT #[])::(nat_lit 239,oC "room_text" 491 "room_text" 492 "/claim/cut.py" 493 122 2 0 0 3 236 true 181 237 .none .none .none (.ref 238) 494 122 "/claim/cut.py" 495)::(nat_lit 240,oF "room_text" "room_text" (top 47) 3 .none .none (.str "notefall.pages" 439) (.ref 239))::(nat_lit 241,oT #[])::(nat_lit 243,oT #[(.str "rule" 500),(.str "tray" 501),(.str "fan" 502),(.str "rows" 503),(.str "plan" 504)])::(nat_lit 244,oT #[])::(nat_lit 246,oC "rule_text" 497 "rule_text" 498 "/claim/cut.py" 499 130 1 0 0 3 241 true 181 242 .none (.ref 243) (.ref 244) (.ref 245) 505 130 "/claim/cut.py" 506)::(nat_lit 247,oF "rule_text" "rule_text" (top 48) 3 .none .none (.str "notefall.pages" 439) (.ref 246))::(nat_lit 248,oT #[])::(nat_lit 251,oC "head_text" 508 "head_text" 509 "/claim/cut.py" 510 133 1 0 0 3 248 true 181 249 .none .none .none (.ref 250) 511 133 "/claim/cut.py" 512)::(nat_lit 252,oF "head_text" "head_text" (top 49) 3 .none .none (.str "notefall.pages" 439) (.ref 251))::(nat_lit 253,oT #[])::(nat_lit 256,oC "read_list" 514 "read_list" 515 "/claim/cut.py" 516 137 3 0 0 3 253 true 181 254 .none .none .none (.ref 255) 517 137 "/claim/cut.py" 518)::(nat_lit 257,oF "read_list" "read_list" (top 50) 3 .none .none (.str "notefall.pages" 439) (.ref 256))::(nat_lit 258,oT #[])::(nat_lit 260,oT #[(.str "text" 523)])::(nat_lit 261,oT #[])::(nat_lit 263,oC "read_numbers" 520 "read_numbers" 521 "/claim/cut.py" 522 142 1 0 0 3 258 true 181 259 .none (.ref 260) (.ref 261) (.ref 262) 524 142 "/claim/cut.py" 525)::(nat_lit 264,oF "read_numbers" "read_numbers" (top 51) 3 .none .none (.str "notefall.pages" 439) (.ref 263))::(nat_lit 265,oT #[])::(nat_lit 267,oT #[(.str "text" 530),(.str "number" 531),(.str "colon" 532),(.str "value" 533)])::(nat_lit 268,oT #[])::(nat_lit 270,oC "read_version" 527 "read_version" 528 "/claim/cut.py" 529 144 1 0 0 3 265 true 181 266 .none (.ref 267) (.ref 268) (.ref 269) 534 144 "/claim/cut.py" 535)::(nat_lit 271,oF "read_version" "read_version" (top 52) 3 .none .none (.str "notefall.pages" 439) (.ref 270))::(nat_lit 272,oT #[])::(nat_lit 274,oT #[(.str "text" 540),(.str "key" 541),(.str "sign" 542),(.str "versions" 543),(.str "told" 544)])::(nat_lit 275,oT #[])::(nat_lit 277,oC "read_row" 537 "read_row" 538 "/claim/cut.py" 539 149 1 0 0 3 272 true 181 273 .none (.ref 274) (.ref 275) (.ref 276) 545 149 "/claim/cut.py" 546)::(nat_lit 278,oF "read_row" "read_row" (top 53) 3 .none .none (.str "notefall.pages" 439) (.ref 277))::(nat_lit 279,oT #[])::(nat_lit 281,oT #[(.str "text" 551),(.str "number" 552)])::(nat_lit 282,oT #[])::(nat_lit 284,oC "read_half" 548 "read_half" 549 "/claim/cut.py" 550 153 1 0 0 3 279 true 181 280 .none (.ref 281) (.ref 282) (.ref 283) 553 153 "/claim/cut.py" 554)::(nat_lit 285,oF "read_half" "read_half" (top 54) 3 .none .none (.str "notefall.pages" 439) (.ref 284))::(nat_lit 286,oT #[])::(nat_lit 289,oC "read_note" 556 "read_note" 557 "/claim/cut.py" 558 160 1 0 0 3 286 true 181 287 .none .none .none (.ref 288) 559 160 "/claim/cut.py" 560)::(nat_lit 290,oF "read_note" "read_note" (top 55) 3 .none .none (.str "notefall.pages" 439) (.ref 289))::(nat_lit 291,oT #[])::(nat_lit 293,oT #[(.str "text" 565),(.str "child" 566),(.str "sign" 567),(.str "place" 568),(.str "told" 569)])::(nat_lit 294,oT #[])::(nat_lit 296,oC "read_spot" 562 "read_spot" 563 "/claim/cut.py" 564 167 1 0 0 3 291 true 181 292 .none (.ref 293) (.ref 294) (.ref 295) 570 167 "/claim/cut.py" 571)::(nat_lit 297,oF "read_spot" "read_spot" (top 56) 3 .none .none (.str "notefall.pages" 439) (.ref 296))::(nat_lit 298,oT #[])::(nat_lit 300,oT #[(.str "pieces" 576),(.str "word" 577),(.str "number" 578),(.str "rows" 579),(.str "leaf" 580)])::(nat_lit 301,oT #[])::(nat_lit 303,oC "read_leaf" 573 "read_leaf" 574 "/claim/cut.py" 575 171 1 0 0 3 298 true 181 299 .none (.ref 300) (.ref 301) (.ref 302) 581 171 "/claim/cut.py" 582)::(nat_lit 304,oF "read_leaf" "read_leaf" (top 57) 3 .none .none (.str "notefall.pages" 439) (.ref 303))::(nat_lit 305,oT #[])::(nat_lit 308,oC "read_inner" 584 "read_inner" 585 "/claim/cut.py" 586 175 1 0 0 3 305 true 181 306 .none .none .none (.ref 307) 587 175 "/claim/cut.py" 588)::(nat_lit 309,oF "read_inner" "read_inner" (top 58) 3 .none .none (.str "notefall.pages" 439) (.ref 308))::(nat_lit 310,oT #[])::(nat_lit 313,oC "is_inner_writable" 590 "is_inner_writable" 591 "/claim/cut.py" 592 184 2 0 0 3 310 true 181 311 .none .none .none (.ref 312) 593 184 "/claim/cut.py" 594)::(nat_lit 314,oF "is_inner_writable" "is_inner_writable" (top 59) 3 .none .none (.str "notefall.pages" 439) (.ref 313))::(nat_lit 315,oT #[])::(nat_lit 317,oT #[(.str "text" 599),(.str "pieces" 600),(.str "told" 601)])::(nat_lit 318,oT #[])::(nat_lit 320,oC "read_room" 596 "read_room" 597 "/claim/cut.py" 598 189 1 0 0 3 315 true 181 316 .none (.ref 317) (.ref 318) (.ref 319) 602 189 "/claim/cut.py" 603)::(nat_lit 321,oF "read_room" "read_room" (top 60) 3 .none .none (.str "notefall.pages" 439) (.ref 320))::(nat_lit 322,oT #[])::(nat_lit 325,oC "read_rule" 605 "read_rule" 606 "/claim/cut.py" 607 201 1 0 0 3 322 true 181 323 .none .none .none (.ref 324) 608 201 "/claim/cut.py" 609)::(nat_lit 326,oF "read_rule" "read_rule" (top 61) 3 .none .none (.str "notefall.pages" 439) (.ref 325))::(nat_lit 327,oT #[])::(nat_lit 330,oC "read_head" 611 "read_head" 612 "/claim/cut.py" 613 205 1 0 0 3 327 true 181 328 .none .none .none (.ref 329) 614 205 "/claim/cut.py" 615)::(nat_lit 331,oF "read_head" "read_head" (top 62) 3 .none .none (.str "notefall.pages" 439) (.ref 330))::(nat_lit 332,oT #[])::(nat_lit 334,oT #[(.str "_law_script" 622),(.str "_law_k" 623)])::(nat_lit 335,oT #[])::(nat_lit 337,oC "_law_cell_at" 619 "_law_cell_at" 620 "/claim/cut.py" 621 218 2 0 0 3 332 true 181 333 .none (.ref 334) (.ref 335) (.ref 336) 624 218 "/claim/cut.py" 625)::(nat_lit 338,oF "_law_cell_at" "_law_cell_at" (top 64) 3 .none .none (.str "law_notefall_k75_texts_that_are_no_body" 617) (.ref 337))::(nat_lit 339,oT #[])::(nat_lit 341,oT #[(.str "_law_state" 630),(.str "_law_base" 631),(.str "_law_cell" 632),(.str "_law_found" 633),(.str "_law_number_here" 634)])::(nat_lit 342,oT #[])::(nat_lit 344,oC "_law_digit" 627 "_law_digit" 628 "/claim/cut.py" 629 222 2 0 0 3 339 true 181 340 .none (.ref 341) (.ref 342) (.ref 343) 635 222 "/claim/cut.py" 636)::(nat_lit 345,oF "_law_digit" "_law_digit" (top 65) 3 .none .none (.str "law_notefall_k75_texts_that_are_no_body" 617) (.ref 344))::(nat_lit 346,oT #[])::(nat_lit 348,oT #[(.str "_law_state" 641),(.str "_law_way" 642),(.str "_law_found" 643)])::(nat_lit 349,oT #[])::(nat_lit 351,oC "_law_number" 638 "_law_number" 639 "/claim/cut.py" 640 235 1 0 0 3 346 true 181 347 .none (.ref 348) (.ref 349) (.ref 350) 644 235 "/claim/cut.py" 645)::(nat_lit 352,oF "_law_number" "_law_number" (top 66) 3 .none .none (.str "law_notefall_k75_texts_that_are_no_body" 617) (.ref 351))::(nat_lit 353,oT #[])::(nat_lit 355,oT #[(.str "_law_state" 650)])::(nat_lit 356,oT #[])::(nat_lit 358,oC "_law_first" 647 "_law_first" 648 "/claim/cut.py" 649 243 1 0 0 3 353 true 181 354 .none (.ref 355) (.ref 356) (.ref 357) 651 243 "/claim/cut.py" 652)::(nat_lit 359,oF "_law_first" "_law_first" (top 67) 3 .none .none (.str "law_notefall_k75_texts_that_are_no_body" 617) (.ref 358))::(nat_lit 360,oT #[])::(nat_lit 362,oT #[(.str "_law_state" 657),(.str "_law_many" 658),(.str "_law_first_here" 659),(.str "_law_step" 660),(.str "_law_found" 661),(.str "_law_k" 662)])::(nat_lit 363,oT #[])::(nat_lit 365,oC "_law_rising" 654 "_law_rising" 655 "/claim/cut.py" 656 245 3 0 0 3 360 true 181 361 .none (.ref 362) (.ref 363) (.ref 364) 663 245 "/claim/cut.py" 664)::(nat_lit 366,oF "_law_rising" "_law_rising" (top 68) 3 .none .none (.str "law_notefall_k75_texts_that_are_no_body" 617) (.ref 365))::(nat_lit 367,oT #[])::(nat_lit 370,oC "_law_keys" 666 "_law_keys" 667 "/claim/cut.py" 668 252 2 0 0 3 367 true 181 368 .none .none .none (.ref 369) 669 252 "/claim/cut.py" 670)::(nat_lit 371,oF "_law_keys" "_law_keys" (top 69) 3 .none .none (.str "law_notefall_k75_texts_that_are_no_body" 617) (.ref 370))::(nat_lit 372,oT #[])::(nat_lit 374,oT #[(.str "_law_state" 675),(.str "_law_most" 676),(.str "_law_found" 677),(.str "_law_many" 678),(.str "_law_number_here" 679)])::(nat_lit 375,oT #[])::(nat_lit 377,oC "_law_versions" 672 "_law_versions" 673 "/claim/cut.py" 674 259 2 0 0 3 372 true 181 373 .none (.ref 374) (.ref 375) (.ref 376) 680 259 "/claim/cut.py" 681)::(nat_lit 378,oF "_law_versions" "_law_versions" (top 70) 3 .none .none (.str "law_notefall_k75_texts_that_are_no_body" 617) (.ref 377))::(nat_lit 379,oT #[])::(nat_lit 381,oT #[(.str "_law_state" 686),(.str "_law_most" 687)])::(nat_lit 382,oT #[])::(nat_lit 384,oC "_law_some" 683 "_law_some" 684 "/claim/cut.py" 685 268 2 0 0 3 379 true 181 380 .none (.ref 381) (.ref 382) (.ref 383) 688 268 "/claim/cut.py" 689)::(nat_lit 385,oF "_law_some" "_law_some" (top 71) 3 .none .none (.str "law_notefall_k75_texts_that_are_no_body" 617) (.ref 384))::(nat_lit 386,oT #[])::(nat_lit 388,oT #[(.str "_law_state" 694),(.str "_law_low" 695),(.str "_law_way" 696),(.str "_law_high" 697),(.str "_law_word" 698),(.str "_law_there" 699),(.str "_law_none" 700)])::(nat_lit 389,oT #[])::(nat_lit 391,oC "_law_note" 691 "_law_note" 692 "/claim/cut.py" 693 270 1 0 0 3 386 true 181 387 .none (.ref 388) (.ref 389) (.ref 390) 701 270 "/claim/cut.py" 702)::(nat_lit 392,oF "_law_note" "_law_note" (top 72) 3 .none .none (.str "law_notefall_k75_texts_that_are_no_body" 617) (.ref 391))::(nat_lit 393,oT #[])::(nat_lit 396,oC "_law_room" 704 "_law_room" 705 "/claim/cut.py" 706 284 2 0 0 3 393 true 181 394 .none .none .none (.ref 395) 707 284 "/claim/cut.py" 708)::(nat_lit 397,oF "_law_room" "_law_room" (top 73) 3 .none .none (.str "law_notefall_k75_texts_that_are_no_body" 617) (.ref 396))::(nat_lit 398,oT #[])::(nat_lit 400,oT #[(.str "_law_half_here" 713)])::(nat_lit 401,oT #[])::(nat_lit 403,oC "_law_half" 710 "_law_half" 711 "/claim/cut.py" 712 298 1 0 0 3 398 true 181 399 .none (.ref 400) (.ref 401) (.ref 402) 714 298 "/claim/cut.py" 715)::(nat_lit 404,oF "_law_half" "_law_half" (top 74) 3 .none .none (.str "law_notefall_k75_texts_that_are_no_body" 617) (.ref 403))::(nat_lit 405,oT #[])::(nat_lit 407,oT #[(.str "_law_parts" 720),(.str "_law_sign" 721)])::(nat_lit 408,oT #[])::(nat_lit 410,oC "_law_line" 717 "_law_line" 718 "/claim/cut.py" 719 302 2 0 0 3 405 true 181 406 .none (.ref 407) (.ref 408) (.ref 409) 722 302 "/claim/cut.py" 723)::(nat_lit 411,oF "_law_line" "_law_line" (top 75) 3 .none .none (.str "law_notefall_k75_texts_that_are_no_body" 617) (.ref 410))::(nat_lit 412,oT #[])::(nat_lit 414,oT #[(.str "_law_row" 728),(.str "_law_parts" 729),(.str "_law_number_here" 730),(.str "_law_value" 731)])::(nat_lit 415,oT #[])::(nat_lit 417,oC "_law_row_text" 725 "_law_row_text" 726 "/claim/cut.py" 727 306 1 0 0 3 412 true 181 413 .none (.ref 414) (.ref 415) (.ref 416) 732 306 "/claim/cut.py" 733)::(nat_lit 418,oF "_law_row_text" "_law_row_text" (top 76) 3 .none .none (.str "law_notefall_k75_texts_that_are_no_body" 617) (.ref 417))::(nat_lit 419,oT #[])::(nat_lit 422,oC "_law_note_text" 735 "_law_note_text" 736 "/claim/cut.py" 737 311 1 0 0 3 419 true 181 420 .none .none .none (.ref 421) 738 311 "/claim/cut.py" 739)::(nat_lit 423,oF "_law_note_text" "_law_note_text" (top 77) 3 .none .none (.str "law_notefall_k75_texts_that_are_no_body" 617) (.ref 422))::(nat_lit 424,oT #[])::(nat_lit 427,oC "_law_room_text" 741 "_law_room_text" 742 "/claim/cut.py" 743 314 2 0 0 3 424 true 181 425 .none .none .none (.ref 426) 744 314 "/claim/cut.py" 745)::(nat_lit 428,oF "_law_room_text" "_law_room_text" (top 78) 3 .none .none (.str "law_notefall_k75_texts_that_are_no_body" 617) (.ref 427))::(nat_lit 429,oT #[])::(nat_lit 431,oT #[(.str "_law_text" 750),(.str "_law_found" 751),(.str "_law_ahead" 752),(.str "_law_k" 753),(.str "_law_sign" 754),(.str "_law_here" 755)])::(nat_lit 432,oT #[])::(nat_lit 434,oC "_law_starts" 747 "_law_starts" 748 "/claim/cut.py" 749 321 1 0 0 3 429 true 181 430 .none (.ref 431) (.ref 432) (.ref 433) 756 321 "/claim/cut.py" 757)::(nat_lit 435,oF "_law_starts" "_law_starts" (top 79) 3 .none .none (.str "law_notefall_k75_texts_that_are_no_body" 617) (.ref 434))::(nat_lit 436,oT #[])::(nat_lit 439,oC "_law_head_text" 759 "_law_head_text" 760 "/claim/cut.py" 761 330 1 0 0 3 436 true 181 437 .none .none .none (.ref 438) 762 330 "/claim/cut.py" 763)::(nat_lit 440,oF "_law_head_text" "_law_head_text" (top 80) 3 .none .none (.str "law_notefall_k75_texts_that_are_no_body" 617) (.ref 439))::(nat_lit 441,oT #[])::(nat_lit 443,oT #[(.str "_law_text" 768),(.str "_law_at" 769),(.str "_law_many" 770)])::(nat_lit 444,oT #[])::(nat_lit 446,oC "_law_figures_at" 765 "_law_figures_at" 766 "/claim/cut.py" 767 340 2 0 0 3 441 true 181 442 .none (.ref 443) (.ref 444) (.ref 445) 771 340 "/claim/cut.py" 772)::(nat_lit 447,oF "_law_figures_at" "_law_figures_at" (top 81) 3 .none .none (.str "law_notefall_k75_texts_that_are_no_body" 617) (.ref 446))::(nat_lit 448,oT #[])::(nat_lit 450,oT #[(.str "_law_text" 777),(.str "_law_found" 778),(.str "_law_words" 779),(.str "_law_k" 780),(.str "_law_at" 781)])::(nat_lit 451,oT #[])::(nat_lit 453,oC "_law_bad" 774 "_law_bad" 775 "/claim/cut.py" 776 345 1 0 0 3 448 true 181 449 .none (.ref 450) (.ref 451) (.ref 452) 782 345 "/claim/cut.py" 783)::(nat_lit 454,oF "_law_bad" "_law_bad" (top 82) 3 .none .none (.str "law_notefall_k75_texts_that_are_no_body" 617) (.ref 453))::(nat_lit 455,oT #[])::(nat_lit 457,oT #[(.str "_law_word" 788),(.str "_law_thing" 789)])::(nat_lit 458,oT #[])::(nat_lit 460,oC "_law_refused" 785 "_law_refused" 786 "/claim/cut.py" 787 356 2 0 0 3 455 true 181 456 .none (.ref 457) (.ref 458) (.ref 459) 790 356 "/claim/cut.py" 791)::(nat_lit 461,oF "_law_refused" "_law_refused" (top 83) 3 .none .none (.str "law_notefall_k75_texts_that_are_no_body" 617) (.ref 460))::(nat_lit 462,oT #[])::(nat_lit 464,oT #[(.str "_law_state" 796),(.str "_law_things" 797),(.str "_law_room_here" 798),(.str "_law_places" 799),(.str "_law_text" 800),(.str "_law_head" 801),(.str "_law_thing" 802)])::(nat_lit 465,oT #[])::(nat_lit 467,oC "_law_holds" 793 "_law_holds" 794 "/claim/cut.py" 795 365 1 0 0 3 462 true 181 463 .none (.ref 464) (.ref 465) (.ref 466) 803 365 "/claim/cut.py" 804)::(nat_lit 468,oF "_law_holds" "_law_holds" (top 84) 3 .none .none (.str "law_notefall_k75_texts_that_are_no_body" 617) (.ref 467))::(nat_lit 469,oT #[])::(nat_lit 471,oT #[(.str "_law_script" 809),(.str "_law_k" 810)])::(nat_lit 472,oT #[])::(nat_lit 474,oC "law" 806 "law" 807 "/claim/cut.py" 808 380 1 0 0 3 469 true 181 470 .none (.ref 471) (.ref 472) (.ref 473) 811 380 "/claim/cut.py" 812)::(nat_lit 475,oF "law" "law" (top 85) 3 .none .none (.str "law_notefall_k75_texts_that_are_no_body" 617) (.ref 474))::[]
noncomputable def afg (P:Params):PySem.W.Frag:=(nat_lit 0,PySem.W.boot_o_0 P)::(nat_lit 1,PySem.W.boot_o_1 P)::(nat_lit 4,PySem.W.boot_o_4 P)::(nat_lit 5,PySem.W.boot_o_5 P)::(nat_lit 6,PySem.W.boot_o_6 P)::(nat_lit 7,PySem.W.boot_o_7 P)::(nat_lit 8,PySem.W.boot_o_8 P)::(nat_lit 9,PySem.W.boot_o_9 P)::(nat_lit 10,PySem.W.boot_o_10 P)::(nat_lit 11,oT #[])::(nat_lit 12,⟨.none,none,(.fields #[(.int 2 0),(.int 0 0),(.ref 20),(.int 4 0),(.int 0 0),(.ref 33),(.int 13 0),(.int 0 0),(.ref 46),(.int 15 0),(.int 0 0),(.ref 53),(.int 17 0),(.int 0 0),(.ref 60),(.int 19 0),(.int 0 0),(.ref 67),(.int 21 0),(.int 0 0),(.ref 74),(.int 23 0),(.int 0 0),(.ref 81),(.int 25 0),(.int 0 0),(.ref 88),(.int 34 0),(.int 0 0),(.ref 96),(.int 40 0),(.int 0 0),(.ref 103),(.int 47 0),(.int 0 0),(.ref 110),(.int 49 0),(.int 0 0),(.ref 117),(.int 51 0),(.int 0 0),(.ref 124),(.int 61 0),(.int 0 0),(.ref 131),(.int 69 0),(.int 0 0),(.ref 136),(.int 71 0),(.int 0 0),(.ref 141),(.int 73 0),(.int 0 0),(.ref 146),(.int 75 0),(.int 0 0),(.ref 153),(.int 80 0),(.int 0 0),(.ref 158),(.int 84 0),(.int 0 0),(.ref 165),(.int 86 0),(.int 0 0),(.ref 170),(.int 90 0),(.int 0 0),(.ref 175),(.int 92 0),(.int 0 0),(.ref 182),(.int 96 0),(.int 0 0),(.ref 189),(.int 98 0),(.int 0 0),(.ref 196),(.int 104 0),(.int 0 0),(.ref 203),(.int 106 0),(.int 0 0),(.ref 208),(.int 108 0),(.int 0 0),(.ref 215),(.int 111 0),(.int 0 0),(.ref 220),(.int 114 0),(.int 0 0),(.ref 227),(.int 119 0),(.int 0 0),(.ref 234),(.int 122 0),(.int 0 0),(.ref 239),(.int 130 0),(.int 0 0),(.ref 246),(.int 133 0),(.int 0 0),(.ref 251),(.int 137 0),(.int 0 0),(.ref 256),(.int 142 0),(.int 0 0),(.ref 263),(.int 144 0),(.int 0 0),(.ref 270),(.int 149 0),(.int 0 0),(.ref 277),(.int 153 0),(.int 0 0),(.ref 284),(.int 160 0),(.int 0 0),(.ref 289),(.int 167 0),(.int 0 0),(.ref 296),(.int 171 0),(.int 0 0),(.ref 303),(.int 175 0),(.int 0 0),(.ref 308),(.int 184 0),(.int 0 0),(.ref 313),(.int 189 0),(.int 0 0),(.ref 320),(.int 201 0),(.int 0 0),(.ref 325),(.int 205 0),(.int 0 0),(.ref 330),(.int 218 0),(.int 0 0),(.ref 337),(.int 222 0),(.int 0 0),(.ref 344),(.int 235 0),(.int 0 0),(.ref 351),(.int 243 0),(.int 0 0),(.ref 358),(.int 245 0),(.int 0 0),(.ref 365),(.int 252 0),(.int 0 0),(.ref 370),(.int 259 0),(.int 0 0),(.ref 377),(.int 268 0),(.int 0 0),(.ref 384),(.int 270 0),(.int 0 0),(.ref 391),(.int 284 0),(.int 0 0),(.ref 396),(.int 298 0),(.int 0 0),(.ref 403),(.int 302 0),(.int 0 0),(.ref 410),(.int 306 0),(.int 0 0),(.ref 417),(.int 311 0),(.int 0 0),(.ref 422),(.int 314 0),(.int 0 0),(.ref 427),(.int 321 0),(.int 0 0),(.ref 434),(.int 330 0),(.int 0 0),(.ref 439),(.int 340 0),(.int 0 0),(.ref 446),(.int 345 0),(.int 0 0),(.ref 453),(.int 356 0),(.int 0 0),(.ref 460),(.int 365 0),(.int 0 0),(.ref 467),(.int 380 0),(.int 0 0),(.ref 474)]),#[]⟩)::(nat_lit 13,oC "<module>" 182 "<module>" 183 "/claim/cut.py" 184 1 0 0 0 0 11 false 181 12 .none .none .none .none 185 1 "/claim/cut.py" 186)::(nat_lit 14,⟨(.type "frame"),none,.plain,#[(some (.ref 13)),(some (.ref 3)),(some (.ref 3)),none,(some (.str "__main__" 164)),none,(some (.ref 0))]⟩)::(nat_lit 16,⟨(.type "builtin_function_or_method"),none,(.fields #[(.builtin "type.__prepare__"),(.type "type")]),#[]⟩)::(nat_lit 17,⟨(.type "dict"),none,(.dict (List.toArray (⟨kh P "__module__",(.str "__module__" 196),(.str "notefall.errors" 187)⟩::⟨kh P "__qualname__",(.str "__qualname__" 198),(.str "FallError" 197)⟩::⟨kh P "__firstlineno__",(.str "__firstlineno__" 200),(.int 2 199)⟩::⟨kh P "__static_attributes__",(.str "__static_attributes__" 201),(.ref 22)⟩::[])) 4),#[]⟩)::(nat_lit 18,oT #[])::(nat_lit 19,oN)::(nat_lit 20,oC "FallError" 191 "FallError" 192 "/claim/cut.py" 193 2 0 0 0 0 18 false 181 19 .none .none .none .none 194 2 "/claim/cut.py" 195)::(nat_lit 21,⟨(.type "frame"),none,.plain,#[(some (.ref 20)),(some (.ref 3)),(some (.ref 17)),none,(some (.str "notefall.errors" 187)),none,(some (.ref 0))]⟩)::(nat_lit 26,⟨(.type "super"),none,(.fields #[(.ref 24),(.ref 24),(.ref 24)]),#[]⟩)::(nat_lit 27,⟨(.type "builtin_function_or_method"),none,(.fields #[(.builtin "object.__init_subclass__"),(.ref 24)]),#[]⟩)::(nat_lit 29,⟨(.type "builtin_function_or_method"),none,(.fields #[(.builtin "type.__prepare__"),(.type "type")]),#[]⟩)::(nat_lit 30,⟨(.type "dict"),none,(.dict (List.toArray (⟨kh P "__module__",(.str "__module__" 214),(.str "notefall.errors" 187)⟩::⟨kh P "__qualname__",(.str "__qualname__" 216),(.str "NoPage" 215)⟩::⟨kh P "__firstlineno__",(.str "__firstlineno__" 218),(.int 4 217)⟩::⟨kh P "__static_attributes__",(.str "__static_attributes__" 219),(.ref 35)⟩::[])) 4),#[]⟩)::(nat_lit 31,oT #[])::(nat_lit 32,oN)::(nat_lit 33,oC "NoPage" 209 "NoPage" 210 "/claim/cut.py" 211 4 0 0 0 0 31 false 181 32 .none .none .none .none 212 4 "/claim/cut.py" 213)::(nat_lit 34,⟨(.type "frame"),none,.plain,#[(some (.ref 33)),(some (.ref 3)),(some (.ref 30)),none,(some (.str "notefall.errors" 187)),none,(some (.ref 0))]⟩)::(nat_lit 38,⟨(.type "super"),none,(.fields #[(.ref 37),(.ref 37),(.ref 37)]),#[]⟩)::(nat_lit 39,⟨(.type "builtin_function_or_method"),none,(.fields #[(.builtin "object.__init_subclass__"),(.ref 37)]),#[]⟩)::(nat_lit 42,oN)::(nat_lit 45,oG "is_number" "is_number" (top 10))::(nat_lit 49,oN)::(nat_lit 52,oG "is_whole" "is_whole" (top 11))::(nat_lit 56,oN)::(nat_lit 59,oG "is_whole_from" "is_whole_from" (top 12))::(nat_lit 63,oN)::(nat_lit 66,oG "is_key" "is_key" (top 13))::(nat_lit 70,oN)::(nat_lit 73,oG "is_stretch" "is_stretch" (top 14))::(nat_lit 77,oN)::(nat_lit 80,oG "is_plan" "is_plan" (top 15))::(nat_lit 84,oN)::(nat_lit 87,oG "is_rule" "is_rule" (top 16))::(nat_lit 92,oN)::(nat_lit 95,oG "is_half" "is_half" (top 19))::(nat_lit 99,oN)::(nat_lit 102,oG "is_action" "is_action" (top 20))::(nat_lit 106,oN)::(nat_lit 109,oG "figures_of" "figures_of" (top 23))::(nat_lit 113,oN)::(nat_lit 116,oG "are_figures" "are_figures" (top 24))::(nat_lit 120,oN)::(nat_lit 123,oG "read_figures" "read_figures" (top 25))::(nat_lit 127,oN)::(nat_lit 130,oG "is_note" "is_note" (top 27))::(nat_lit 134,oN)::(nat_lit 135,oG "is_rising" "is_rising" (top 29))::(nat_lit 139,oN)::(nat_lit 140,oG "are_wholes" "are_wholes" (top 30))::(nat_lit 144,oN)::(nat_lit 145,oG "are_rising_from" "are_rising_from" (top 31))::(nat_lit 149,oN)::(nat_lit 152,oG "is_version" "is_version" (top 32))::(nat_lit 156,oN)::(nat_lit 157,oG "are_versions" "are_versions" (top 33))::(nat_lit 161,oN)::(nat_lit 164,oG "is_row" "is_row" (top 34))::(nat_lit 168,oN)::(nat_lit 169,oG "are_rows" "are_rows" (top 35))::(nat_lit 173,oN)::(nat_lit 174,oG "are_notes" "are_notes" (top 36))::(nat_lit 178,oN)::(nat_lit 181,oG "has_word" "has_word" (top 37))::(nat_lit 185,oN)::(nat_lit 188,oG "is_leaf_told" "is_leaf_told" (top 38))::(nat_lit 192,oN)::(nat_lit 195,oG "is_inner_told" "is_inner_told" (top 39))::(nat_lit 199,oN)::(nat_lit 202,oG "list_text" "list_text" (top 41))::(nat_lit 206,oN)::(nat_lit 207,oG "numbers_text" "numbers_text" (top 42))::(nat_lit 211,oN)::(nat_lit 214,oG "version_text" "version_text" (top 43))::(nat_lit 218,oN)::(nat_lit 219,oG "row_text" "row_text" (top 44))::(nat_lit 223,oN)::(nat_lit 226,oG "half_text" "half_text" (top 45))::(nat_lit 230,oN)::(nat_lit 233,oG "note_text" "note_text" (top 46))::(nat_lit 237,oN)::(nat_lit 238,oG "room_text" "room_text" (top 47))::(nat_lit 242,oN)::(nat_lit 245,oG "rule_text" "rule_text" (top 48))::(nat_lit 249,oN)::(nat_lit 250,oG "head_text" "head_text" (top 49))::(nat_lit 254,oN)::(nat_lit 255,oG "read_list" "read_list" (top 50))::(nat_lit 259,oN)::(nat_lit 262,oG "read_numbers" "read_numbers" (top 51))::(nat_lit 266,oN)::(nat_lit 269,oG "read_version" "read_version" (top 52))::(nat_lit 273,oN)::(nat_lit 276,oG "read_row" "read_row" (top 53))::(nat_lit 280,oN)::(nat_lit 283,oG "read_half" "read_half" (top 54))::(nat_lit 287,oN)::(nat_lit 288,oG "read_note" "read_note" (top 55))::(nat_lit 292,oN)::(nat_lit 295,oG "read_spot" "read_spot" (top 56))::(nat_lit 299,oN)::(nat_lit 302,oG "read_leaf" "read_leaf" (top 57))::(nat_lit 306,oN)::(nat_lit 307,oG "read_inner" "read_inner" (top 58))::(nat_lit 311,oN)::(nat_lit 312,oG "is_inner_writable" "is_inner_writable" (top 59))::(nat_lit 316,oN)::(nat_lit 319,oG "read_room" "read_room" (top 60))::(nat_lit 323,oN)::(nat_lit 324,oG "read_rule" "read_rule" (top 61))::(nat_lit 328,oN)::(nat_lit 329,oG "read_head" "read_head" (top 62))::(nat_lit 333,oN)::(nat_lit 336,oG "_law_cell_at" "_law_cell_at" (top 64))::(nat_lit 340,oN)::(nat_lit 343,oG "_law_digit" "_law_digit" (top 65))::(nat_lit 347,oN)::(nat_lit 350,oG "_law_number" "_law_number" (top 66))::(nat_lit 354,oN)::(nat_lit 357,oG "_law_first" "_law_first" (top 67))::(nat_lit 361,oN)::(nat_lit 364,oG "_law_rising" "_law_rising" (top 68))::(nat_lit 368,oN)::(nat_lit 369,oG "_law_keys" "_law_keys" (top 69))::(nat_lit 373,oN)::(nat_lit 376,oG "_law_versions" "_law_versions" (top 70))::(nat_lit 380,oN)::(nat_lit 383,oG "_law_some" "_law_some" (top 71))::(nat_lit 387,oN)::(nat_lit 390,oG "_law_note" "_law_note" (top 72))::(nat_lit 394,oN)::(nat_lit 395,oG "_law_room" "_law_room" (top 73))::(nat_lit 399,oN)::(nat_lit 402,oG "_law_half" "_law_half" (top 74))::(nat_lit 406,oN)::(nat_lit 409,oG "_law_line" "_law_line" (top 75))::(nat_lit 413,oN)::(nat_lit 416,oG "_law_row_text" "_law_row_text" (top 76))::(nat_lit 420,oN)::(nat_lit 421,oG "_law_note_text" "_law_note_text" (top 77))::(nat_lit 425,oN)::(nat_lit 426,oG "_law_room_text" "_law_room_text" (top 78))::(nat_lit 430,oN)::(nat_lit 433,oG "_law_starts" "_law_starts" (top 79))::(nat_lit 437,oN)::(nat_lit 438,oG "_law_head_text" "_law_head_text" (top 80))::(nat_lit 442,oN)::(nat_lit 445,oG "_law_figures_at" "_law_figures_at" (top 81))::(nat_lit 449,oN)::(nat_lit 452,oG "_law_bad" "_law_bad" (top 82))::(nat_lit 456,oN)::(nat_lit 459,oG "_law_refused" "_law_refused" (top 83))::(nat_lit 463,oN)::(nat_lit 466,oG "_law_holds" "_law_holds" (top 84))::(nat_lit 470,oN)::(nat_lit 473,oG "law" "law" (top 85))::[]
def PM:List Addr:=nat_lit 2::nat_lit 3::nat_lit 15::nat_lit 22::nat_lit 23::nat_lit 24::nat_lit 25::nat_lit 28::nat_lit 35::nat_lit 36::nat_lit 37::nat_lit 40::nat_lit 41::nat_lit 43::nat_lit 44::nat_lit 46::nat_lit 47::nat_lit 48::nat_lit 50::nat_lit 51::nat_lit 53::nat_lit 54::nat_lit 55::nat_lit 57::nat_lit 58::nat_lit 60::nat_lit 61::nat_lit 62::nat_lit 64::nat_lit 65::nat_lit 67::nat_lit 68::nat_lit 69::nat_lit 71::nat_lit 72::nat_lit 74::nat_lit 75::nat_lit 76::nat_lit 78::nat_lit 79::nat_lit 81::nat_lit 82::nat_lit 83::nat_lit 85::nat_lit 86::nat_lit 88::nat_lit 89::nat_lit 90::nat_lit 91::nat_lit 93::nat_lit 94::nat_lit 96::nat_lit 97::nat_lit 98::nat_lit 100::nat_lit 101::nat_lit 103::nat_lit 104::nat_lit 105::nat_lit 107::nat_lit 108::nat_lit 110::nat_lit 111::nat_lit 112::nat_lit 114::nat_lit 115::nat_lit 117::nat_lit 118::nat_lit 119::nat_lit 121::nat_lit 122::nat_lit 124::nat_lit 125::nat_lit 126::nat_lit 128::nat_lit 129::nat_lit 131::nat_lit 132::nat_lit 133::nat_lit 136::nat_lit 137::nat_lit 138::nat_lit 141::nat_lit 142::nat_lit 143::nat_lit 146::nat_lit 147::nat_lit 148::nat_lit 150::nat_lit 151::nat_lit 153::nat_lit 154::nat_lit 155::nat_lit 158::nat_lit 159::nat_lit 160::nat_lit 162::nat_lit 163::nat_lit 165::nat_lit 166::nat_lit 167::nat_lit 170::nat_lit 171::nat_lit 172::nat_lit 175::nat_lit 176::nat_lit 177::nat_lit 179::nat_lit 180::nat_lit 182::nat_lit 183::nat_lit 184::nat_lit 186::nat_lit 187::nat_lit 189::nat_lit 190::nat_lit 191::nat_lit 193::nat_lit 194::nat_lit 196::nat_lit 197::nat_lit 198::nat_lit 200::nat_lit 201::nat_lit 203::nat_lit 204::nat_lit 205::nat_lit 208::nat_lit 209::nat_lit 210::nat_lit 212::nat_lit 213::nat_lit 215::nat_lit 216::nat_lit 217::nat_lit 220::nat_lit 221::nat_lit 222::nat_lit 224::nat_lit 225::nat_lit 227::nat_lit 228::nat_lit 229::nat_lit 231::nat_lit 232::nat_lit 234::nat_lit 235::nat_lit 236::nat_lit 239::nat_lit 240::nat_lit 241::nat_lit 243::nat_lit 244::nat_lit 246::nat_lit 247::nat_lit 248::nat_lit 251::nat_lit 252::nat_lit 253::nat_lit 256::nat_lit 257::nat_lit 258::nat_lit 260::nat_lit 261::nat_lit 263::nat_lit 264::nat_lit 265::nat_lit 267::nat_lit 268::nat_lit 270::nat_lit 271::nat_lit 272::nat_lit 274::nat_lit 275::nat_lit 277::nat_lit 278::nat_lit 279::nat_lit 281::nat_lit 282::nat_lit 284::nat_lit 285::nat_lit 286::nat_lit 289::nat_lit 290::nat_lit 291::nat_lit 293::nat_lit 294::nat_lit 296::nat_lit 297::nat_lit 298::nat_lit 300::nat_lit 301::nat_lit 303::nat_lit 304::nat_lit 305::nat_lit 308::nat_lit 309::nat_lit 310::nat_lit 313::nat_lit 314::nat_lit 315::nat_lit 317::nat_lit 318::nat_lit 320::nat_lit 321::nat_lit 322::nat_lit 325::nat_lit 326::nat_lit 327::nat_lit 330::nat_lit 331::nat_lit 332::nat_lit 334::nat_lit 335::nat_lit 337::nat_lit 338::nat_lit 339::nat_lit 341::nat_lit 342::nat_lit 344::nat_lit 345::nat_lit 346::nat_lit 348::nat_lit 349::nat_lit 351::nat_lit 352::nat_lit 353::nat_lit 355::nat_lit 356::nat_lit 358::nat_lit 359::nat_lit 360::nat_lit 362::nat_lit 363::nat_lit 365::nat_lit 366::nat_lit 367::nat_lit 370::nat_lit 371::nat_lit 372::nat_lit 374::nat_lit 375::nat_lit 377::nat_lit 378::nat_lit 379::nat_lit 381::nat_lit 382::nat_lit 384::nat_lit 385::nat_lit 386::nat_lit 388::nat_lit 389::nat_lit 391::nat_lit 392::nat_lit 393::nat_lit 396::nat_lit 397::nat_lit 398::nat_lit 400::nat_lit 401::nat_lit 403::nat_lit 404::nat_lit 405::nat_lit 407::nat_lit 408::nat_lit 410::nat_lit 411::nat_lit 412::nat_lit 414::nat_lit 415::nat_lit 417::nat_lit 418::nat_lit 419::nat_lit 422::nat_lit 423::nat_lit 424::nat_lit 427::nat_lit 428::nat_lit 429::nat_lit 431::nat_lit 432::nat_lit 434::nat_lit 435::nat_lit 436::nat_lit 439::nat_lit 440::nat_lit 441::nat_lit 443::nat_lit 444::nat_lit 446::nat_lit 447::nat_lit 448::nat_lit 450::nat_lit 451::nat_lit 453::nat_lit 454::nat_lit 455::nat_lit 457::nat_lit 458::nat_lit 460::nat_lit 461::nat_lit 462::nat_lit 464::nat_lit 465::nat_lit 467::nat_lit 468::nat_lit 469::nat_lit 471::nat_lit 472::nat_lit 474::nat_lit 475::[]
def hQ:Program:={ PySem.Challenge.pw_notefall_k75_texts_that_are_no_body with main:={ PySem.Challenge.pw_notefall_k75_texts_that_are_no_body.main with body:=top 1::top 2::top 4::top 5::top 6::top 7::top 8::top 9::top 10::top 11::top 12::top 13::top 14::top 15::top 16::top 18::top 19::top 20::top 22::top 23::top 24::top 25::top 27::top 29::top 30::top 31::top 32::top 33::top 34::top 35::top 36::top 37::top 38::top 39::top 41::top 42::top 43::top 44::top 45::top 46::top 47::top 48::top 49::top 50::top 51::top 52::top 53::top 54::top 55::top 56::top 57::top 58::top 59::top 60::top 61::top 62::top 64::top 65::top 66::top 67::top 68::top 69::top 70::top 71::top 72::top 73::top 74::top 75::top 76::top 77::top 78::top 79::top 80::top 81::top 82::top 83::top 84::top 85::[] } }
def CL:List (Str×PySem.W.WData):=[((Str.ofString "END"),PySem.W.WData.int 1000000000000)]
def Au:List Str:=[(Str.ofString "END")]
def Ss (s:Shared):List (Option Obj):=PM.map s.heap.get?
def Su (K:Params->PySem.W.Frag) (w:World):List (Option Obj):=(K w.params).map fun p=>some p.2
theorem hE (P:Params):PM=(hK P).map (·.1):=by kernel_rfl
abbrev Ea (q:Program) (lv:List (Str×PySem.W.WData)) (s:Shared):Bool:=PySem.W.xlAt q lv s&&PySem.W.recOk (PySem.W.RowW.records (PySem.W.OpenRow.toRowW PySem.Challenge.rw_notefall_k75_texts_that_are_no_body.row)) s
noncomputable def hAo (P:Params):List Obj:=
(PySem.W.boot_o_0 P)::
(PySem.W.boot_o_1 P)::
(PySem.W.boot_o_2 P)::
(PySem.W.boot_o_3 P)::
(PySem.W.boot_o_4 P)::
(PySem.W.boot_o_5 P)::
(PySem.W.boot_o_6 P)::
(PySem.W.boot_o_7 P)::
(PySem.W.boot_o_8 P)::
(PySem.W.boot_o_9 P)::
(PySem.W.boot_o_10 P)::
(⟨(.type "tuple"),none,(.seq #[] 0),#[]⟩)::
(⟨.none,none,(.fields #[]),#[]⟩)::
(⟨(.type "code"),none,(.fields #[(.str "<module>" 182),(.str "<module>" 183),(.str "/claim/cut.py" 184),(.int 1 0),(.int 0 0),(.int 0 0),(.int 0 0),(.int 0 0),(.ref 11),(.bool false),(.int 181 0),(.ref 12),.none,.none,.none,.none,(.int 185 0),(.int 1 0),(.str "/claim/cut.py" 186)]),#[]⟩)::
(⟨(.type "frame"),none,.plain,#[(some (.ref 13)),(some (.ref 3)),(some (.ref 3)),none,(some (.str "__main__" 164)),none,(some (.ref 0))]⟩)::[]
def Hq:Nat->PySem.W.Frag->PySem.W.Frag->List Obj
 | 0,_,_=>[]
 | n + 1,(a,o)::r,(b,p)::s=>match Nat.blt a b with
   | true=>o::Hq n r ((b,p)::s)
   | false=>p::Hq n ((a,o)::r) s
 | n + 1,(_,o)::r,[]=>o::Hq n r []
 | n + 1,[],(_,p)::s=>p::Hq n [] s
 | _ + 1,[],[]=>[]
def Ma:List Obj->Nat->PySem.W.BT->PySem.W.BT
 | [],_,t=>t
 | o::r,n,t=>Ma r (n + 1) (t.ins n o)
noncomputable def hTr (P:Params):PySem.W.BT:=Ma (Hq 476 (hK P) (afg P)) 0 .nil
noncomputable def Js:Env:={ scope:=PySem.Challenge.pw_notefall_k75_texts_that_are_no_body.main.scope,locals:=mainNs,globals:=mainNs,cells:=[],code:=(.ref 13),frame:=some 14 }
noncomputable abbrev Mb:Code:=Code.body (PySem.W.behindTheImports PySem.Challenge.pw_notefall_k75_texts_that_are_no_body) Js
noncomputable abbrev Sv (P:Params) (os:OsState):PySem.W.SharedT:=⟨Ma (hAo P) 0 .nil,15,{},Array.mk [],⟨0,0,0,0⟩,187,os⟩
noncomputable abbrev hSm (P:Params) (os:OsState):PySem.W.SharedT:=⟨hTr P,476,{},Array.mk [],⟨0,0,0,0⟩,814,os⟩
set_option maxRecDepth 100000 in
set_option maxHeartbeats 0 in
theorem afh (w:World) (os:OsState):PySem.W.topGo PySem.W.Fast.tw14364793385576792824 PySem.Challenge.pw_notefall_k75_texts_that_are_no_body w 11 (some (.ref 6)) 12 ⟨PySem.W.boot_heap w.params,Array.mk [],PySem.W.boot_drawn,PySem.W.boot_toks,os⟩ (PySem.W.topStub PySem.Challenge.pw_notefall_k75_texts_that_are_no_body)=some ((Sv w.params os).abs,⟨denote PySem.W.Fast.tw14364793385576792824 Mb,Mb,⟨0,0,0,0⟩,[PySem.W.topFrame ⟨0,0,0,0⟩]⟩):=by kernel_rfl
set_option maxRecDepth 100000 in
set_option maxHeartbeats 0 in
theorem afi (w:World) (os:OsState):PySem.W.segRun PySem.W.Fast.tw14364793385576792824 PySem.Challenge.pw_notefall_k75_texts_that_are_no_body w 11 (some (.ref 6)) 1 1 (Sv w.params os).abs (PySem.W.blockOf (PySem.W.behindTheImports PySem.Challenge.pw_notefall_k75_texts_that_are_no_body) Js Mb ⟨0,0,0,0⟩ [PySem.W.topFrame ⟨0,0,0,0⟩])=some (.next,(Sv w.params os).abs,Mb,⟨0,0,0,0⟩):=by kernel_rfl
noncomputable abbrev wI (P:Params):Heap:=PySem.W.absHeap (hTr P) 476 {}
set_option maxRecDepth 100000 in
set_option maxHeartbeats 0 in
theorem PN (w:World) (os:OsState):PySem.W.Fast.tw10110043849684766642 PySem.W.Fast.tw14364793385576792824 PySem.Challenge.pw_notefall_k75_texts_that_are_no_body w 11 (some (.ref 6)) 1 2576 (Sv w.params os) ⟨(PySem.W.Fast.tw12563942051412417395 (PySem.W.behindTheImports PySem.Challenge.pw_notefall_k75_texts_that_are_no_body) Js).wrap PySem.W.doneF PySem.W.deadEnd id id,Mb,⟨0,0,0,0⟩,[PySem.W.topFrame ⟨0,0,0,0⟩]⟩=some (.next,hSm w.params os,Mb,⟨380,0,384,15⟩):=by kernel_rfl
set_option maxRecDepth 100000 in
set_option maxHeartbeats 0 in
theorem afj (w:World) (os:OsState):PySem.W.topRun PySem.W.Fast.tw14364793385576792824 PySem.Challenge.pw_notefall_k75_texts_that_are_no_body w 11 (some (.ref 6)) 2 (hSm w.params os).abs (PySem.W.restOf [] Js Mb ⟨380,0,384,15⟩ [PySem.W.topFrame ⟨0,0,0,0⟩])=some ⟨wI w.params,Array.mk [],⟨0,0,0,0⟩,814,os⟩:=by kernel_rfl
theorem Mc {F F':(String->Option Builtin)->Program->World->Nat->Option Value->Nat->Nat->PySem.W.SharedT->Thread->Option (Flow×PySem.W.SharedT×Code×Pos)} {G G':List Stmt->Env->Sem Flow} {tb:String->Option Builtin} {p:Program} {w:World} {m n:Nat} {ann:Option Value} {S:PySem.W.SharedT} {l:List Stmt} {env:Env} {c:Code} {pos:Pos} {B:List Frame} {r:Option (Flow×PySem.W.SharedT×Code×Pos)}
   (h:F' tb p w m ann 1 n S ⟨(G' l env).wrap PySem.W.doneF PySem.W.deadEnd id id,c,pos,B⟩=r) (eF:F=F') (eG:G=G'):F tb p w m ann 1 n S ⟨(G l env).wrap PySem.W.doneF PySem.W.deadEnd id id,c,pos,B⟩=r:=by
 subst eF eG;exact h
theorem Eb {tb:String->Option Builtin} {p:Program} {w:World} {m n0 n1 n2 n3:Nat} {ann:Option Value} {env:Env} {q:Pos} {b:List Stmt} {S0 Sa R:Shared} {SA SM:PySem.W.SharedT} {PR:Thread} {PU PV PX:Pos} (ea:SA.abs=Sa)
   (h1:PySem.W.topGo tb p w m ann n0 S0 PR=some (Sa,⟨denote tb (Code.body b env),Code.body b env,PU,[PySem.W.topFrame q]⟩))
   (h2:PySem.W.segRun tb p w m ann 1 n1 Sa (PySem.W.blockOf b env (Code.body b env) PU [PySem.W.topFrame q])=some (.next,Sa,Code.body b env,PV))
   (h3:PySem.W.segRunT tb p w m ann 1 n2 SA (PySem.W.piecesOf b env (Code.body b env) PV [PySem.W.topFrame q])=some (.next,SM,Code.body b env,PX))
   (h4:PySem.W.topRun tb p w m ann n3 SM.abs (PySem.W.restOf [] env (Code.body b env) PX [PySem.W.topFrame q])=some R):PySem.W.topRun tb p w m ann (n0 + (n1 + (n2 + n3))) S0 PR=some R:=by
 subst ea
 refine PySem.W.go_top h1 (PySem.W.piece_block h2 ?_)
 have h:=PySem.W.piece_app (rest:=[]) (PySem.W.segRun_of h3) h4
 rw [List.append_nil] at h
 exact h
set_option maxRecDepth 100000 in
set_option maxHeartbeats 0 in
theorem afk (w:World) (os:OsState):PySem.W.topRun PySem.W.Fast.tw14364793385576792824 PySem.Challenge.pw_notefall_k75_texts_that_are_no_body w 11 (some (.ref 6)) (12 + (1 + (2576 + 2))) ⟨PySem.W.boot_heap w.params,Array.mk [],PySem.W.boot_drawn,PySem.W.boot_toks,os⟩ (PySem.W.topStub PySem.Challenge.pw_notefall_k75_texts_that_are_no_body)=some ⟨wI w.params,Array.mk [],⟨0,0,0,0⟩,814,os⟩:=
 Eb rfl (afh w os) (afi w os) (Mc (PN w os) PySem.W.Fast.te10110043849684766642 PySem.W.Fast.te12563942051412417395) (afj w os)
noncomputable abbrev hGa (p:Program) (im:List Stmt->List Str) (w:World) (os:OsState):Bool:=PySem.W.staticsOk (im p.main.body) (PySem.W.boot_heap w.params) (wI w.params)&&PySem.W.namesBound p (wI w.params)&&PySem.W.gensDone ⟨wI w.params,Array.mk [],⟨0,0,0,0⟩,814,os⟩&&PySem.W.laidKept (PySem.W.boot_heap w.params) (wI w.params)
abbrev hG {t:Type} (p q:Program) (lo:List Str) (lv:List (Str×PySem.W.WData)) (K:Params->PySem.W.Frag) (sn:Program->List Str->List Str->(Shared->Bool)->Bool->Shared->t) (gd:Program->List Str->t) (im:List Stmt->List Str) (w:World):Prop:=
 (fun os:OsState=>(hGa p im w os,sn q lo (im p.main.body) (Ea q lv) true ⟨wI w.params,Array.mk [],⟨0,0,0,0⟩,814,os⟩,Ss ⟨wI w.params,Array.mk [],⟨0,0,0,0⟩,814,os⟩))=fun _=>(true,gd q lo,Su K w)
theorem PY {t:Type} {p p' q q':Program} {lo lo':List Str} {lv lv':List (Str×PySem.W.WData)} {K K':Params->PySem.W.Frag} {sn sn':Program->List Str->List Str->(Shared->Bool)->Bool->Shared->t} {gd:Program->List Str->t} {im im':List Stmt->List Str} {w:World}
   (h:hG p' q' lo' lv' K' sn' gd im' w) (e2:p=p') (e3:q=q') (e4:lo=lo') (e5:lv=lv') (e6:K=K') (e7:sn=sn') (e8:im=im'):hG p q lo lv K sn gd im w:=by
 subst e2 e3 e4 e5 e6 e7 e8;exact h
set_option maxRecDepth 100000 in
set_option maxHeartbeats 0 in
theorem hLa (w:World) (os:OsState):hGa PySem.Challenge.pw_notefall_k75_texts_that_are_no_body PySem.W.Fast.tw5923862056798008813 w os=true:=by kernel_rfl
set_option maxRecDepth 100000 in
set_option maxHeartbeats 0 in
theorem hB0 (w:World) (os:OsState):(PySem.W.Fast.tw4187177175401517315 hQ Au (PySem.W.Fast.tw5923862056798008813 PySem.Challenge.pw_notefall_k75_texts_that_are_no_body.main.body) (Ea hQ CL) true ⟨wI w.params,Array.mk [],⟨0,0,0,0⟩,814,os⟩).1=PyProof.Rows.expectedOf hQ:=by kernel_rfl
set_option maxRecDepth 100000 in
set_option maxHeartbeats 0 in
theorem hB1 (w:World) (os:OsState):(PySem.W.Fast.tw4187177175401517315 hQ Au (PySem.W.Fast.tw5923862056798008813 PySem.Challenge.pw_notefall_k75_texts_that_are_no_body.main.body) (Ea hQ CL) true ⟨wI w.params,Array.mk [],⟨0,0,0,0⟩,814,os⟩).2.1=PySem.bltViewBooted:=by kernel_rfl
set_option maxRecDepth 100000 in
set_option maxHeartbeats 0 in
theorem hB2 (w:World) (os:OsState):(PySem.W.Fast.tw4187177175401517315 hQ Au (PySem.W.Fast.tw5923862056798008813 PySem.Challenge.pw_notefall_k75_texts_that_are_no_body.main.body) (Ea hQ CL) true ⟨wI w.params,Array.mk [],⟨0,0,0,0⟩,814,os⟩).2.2.1=true:=by kernel_rfl
set_option maxRecDepth 100000 in
set_option maxHeartbeats 0 in
theorem hB3 (w:World) (os:OsState):(PySem.W.Fast.tw4187177175401517315 hQ Au (PySem.W.Fast.tw5923862056798008813 PySem.Challenge.pw_notefall_k75_texts_that_are_no_body.main.body) (Ea hQ CL) true ⟨wI w.params,Array.mk [],⟨0,0,0,0⟩,814,os⟩).2.2.2.1=true:=by kernel_rfl
set_option maxRecDepth 100000 in
set_option maxHeartbeats 0 in
theorem hB4 (w:World) (os:OsState):(PySem.W.Fast.tw4187177175401517315 hQ Au (PySem.W.Fast.tw5923862056798008813 PySem.Challenge.pw_notefall_k75_texts_that_are_no_body.main.body) (Ea hQ CL) true ⟨wI w.params,Array.mk [],⟨0,0,0,0⟩,814,os⟩).2.2.2.2.1=PySem.pinGoodD (PyProof.Rows.drecsOf hQ):=by kernel_rfl
set_option maxRecDepth 100000 in
set_option maxHeartbeats 0 in
theorem hB5 (w:World) (os:OsState):(PySem.W.Fast.tw4187177175401517315 hQ Au (PySem.W.Fast.tw5923862056798008813 PySem.Challenge.pw_notefall_k75_texts_that_are_no_body.main.body) (Ea hQ CL) true ⟨wI w.params,Array.mk [],⟨0,0,0,0⟩,814,os⟩).2.2.2.2.2.1=PyProof.Rows.plainGoodE hQ (PySem.W.looseW hQ Au):=by kernel_rfl
set_option maxRecDepth 100000 in
set_option maxHeartbeats 0 in
theorem hB6 (w:World) (os:OsState):(PySem.W.Fast.tw4187177175401517315 hQ Au (PySem.W.Fast.tw5923862056798008813 PySem.Challenge.pw_notefall_k75_texts_that_are_no_body.main.body) (Ea hQ CL) true ⟨wI w.params,Array.mk [],⟨0,0,0,0⟩,814,os⟩).2.2.2.2.2.2.1=PyProof.Rows.plainGoodD hQ Au:=by kernel_rfl
set_option maxRecDepth 100000 in
set_option maxHeartbeats 0 in
theorem hB7 (w:World) (os:OsState):(PySem.W.Fast.tw4187177175401517315 hQ Au (PySem.W.Fast.tw5923862056798008813 PySem.Challenge.pw_notefall_k75_texts_that_are_no_body.main.body) (Ea hQ CL) true ⟨wI w.params,Array.mk [],⟨0,0,0,0⟩,814,os⟩).2.2.2.2.2.2.2.1=PySem.W.wideGood hQ:=by kernel_rfl
set_option maxRecDepth 100000 in
set_option maxHeartbeats 0 in
theorem hB8 (w:World) (os:OsState):(PySem.W.Fast.tw4187177175401517315 hQ Au (PySem.W.Fast.tw5923862056798008813 PySem.Challenge.pw_notefall_k75_texts_that_are_no_body.main.body) (Ea hQ CL) true ⟨wI w.params,Array.mk [],⟨0,0,0,0⟩,814,os⟩).2.2.2.2.2.2.2.2=PySem.W.clsGoodW hQ Au:=by kernel_rfl
theorem afl {A B C D E F G H I:Type} {x:A×B×C×D×E×F×G×H×I} {a b c d e f g h i} (h0:x.1=a) (h1:x.2.1=b) (h2:x.2.2.1=c) (h3:x.2.2.2.1=d) (h4:x.2.2.2.2.1=e) (h5:x.2.2.2.2.2.1=f) (h6:x.2.2.2.2.2.2.1=g) (h7:x.2.2.2.2.2.2.2.1=h) (h8:x.2.2.2.2.2.2.2.2=i):x=(a,b,c,d,e,f,g,h,i):=by subst h0 h1 h2 h3 h4 h5 h6 h7 h8;rfl
theorem hLb (w:World) (os:OsState):(PySem.W.Fast.tw4187177175401517315 hQ Au (PySem.W.Fast.tw5923862056798008813 PySem.Challenge.pw_notefall_k75_texts_that_are_no_body.main.body) (Ea hQ CL) true ⟨wI w.params,Array.mk [],⟨0,0,0,0⟩,814,os⟩)=PySem.W.openGood hQ Au:=afl (hB0 w os) (hB1 w os) (hB2 w os) (hB3 w os) (hB4 w os) (hB5 w os) (hB6 w os) (hB7 w os) (hB8 w os)
set_option maxRecDepth 100000 in
set_option maxHeartbeats 0 in
theorem hLc (w:World) (os:OsState):Ss ⟨wI w.params,Array.mk [],⟨0,0,0,0⟩,814,os⟩=Su hK w:=by kernel_rfl
theorem hLk (w:World):hG PySem.Challenge.pw_notefall_k75_texts_that_are_no_body hQ Au CL hK PySem.W.Fast.tw4187177175401517315 PySem.W.openGood PySem.W.Fast.tw5923862056798008813 w:=funext fun os=>congr (congrArg Prod.mk (hLa w os)) (congr (congrArg Prod.mk (hLb w os)) (hLc w os))
theorem PZ {tb tb':String->Option Builtin} {p p':Program} {M:Nat} {S R:World->OsState->Shared} (h:∀ w os,PySem.W.topRun tb' p' w 11 (some (.ref 6)) M (S w os) (PySem.W.topStub p')=some (R w os)) (e1:tb=tb') (e2:p=p'):∀ w os,PySem.W.topRun tb p w 11 (some (.ref 6)) M (S w os) (PySem.W.topStub p)=some (R w os):=by
 subst e1 e2;exact h
set_option maxRecDepth 100000 in
set_option maxHeartbeats 0 in
theorem hSz (w:World):((PySem.W.boot_heap w.params).isNs mainGlobals&&(Array.mk []:Array GenState).size==0,(PySem.W.boot_heap w.params).objs.size,(PySem.W.boot_heap w.params).nsMap mainGlobals "__annotations__")=(true,11,(some (.ref 6))):=by kernel_rfl
set_option maxRecDepth 100000 in
set_option maxHeartbeats 0 in
theorem hl:PySem.W.LeftO PySem.Challenge.pw_notefall_k75_texts_that_are_no_body hQ Au (Ea hQ CL) Ss (Su hK) 5258:=
 PySem.W.LeftO.of_pieces (H₁:=wI) (gs₁:=Array.mk []) (d₁:=⟨0,0,0,0⟩) (k₁:=814) (PySem.W.boot_open (by kernel_rfl) (by decide +kernel) (fun s=>by kernel_rfl)) hSz (PZ (M:=(12 + (1 + (2576 + 2)))) afk PySem.W.Fast.te14364793385576792824 rfl) (by decide +kernel)
   (fun w=>PY (hLk w) rfl rfl rfl rfl rfl PySem.W.Fast.te4187177175401517315 PySem.W.Fast.te5923862056798008813)
end su
open PySem PySem.W PyProof.Rows
set_option maxRecDepth 100000 in
set_option maxHeartbeats 0 in
theorem PySem.Challenge.cw_notefall_k75_texts_that_are_no_body_holds : PySem.Challenge.rw_notefall_k75_texts_that_are_no_body.Holds := by
 w_on;refine holds_law su.MK fun said=>?_
 refine holds_open (q:=su.hQ) (loose:=su.Au) (Xt:=su.Ea su.hQ su.CL) (XP:=XL su.hQ su.CL) (Yf:=su.Ss) (Ya:=su.Su su.hK) (YP:=Hook.says (PySem.W.kHook su.hK su.PM su.hE)) (N:=5258) su.hl (Hook.of (PySem.W.kHook su.hK su.PM su.hE)) (Hook.keeps (PySem.W.kHook su.hK su.PM su.hE)) (fun s e=>xl_of s (Bool.and_eq_true_iff.mp e).1) XL.keeps (by rfl) (by rfl) (by rfl) (fun s e=>recFacts_of (Bool.and_eq_true_iff.mp e).2) (by rfl) (by first | assumption | decide +kernel) (by decide +kernel) ⟨rfl,rfl,rfl,rfl,rfl,by decide +kernel⟩ ?hw ?hc
 case hw=>w_witness2
 case hc=>
 k_fill
 refine su.walk (l:=PySem.Challenge.rw_notefall_k75_texts_that_are_no_body) rfl rfl (fun w h Y=>PySem.W.kIn_of Y) ?F
 case F=>
   intro w mg fa h KX G hmg
   refine' su.all_mk KX G hmg ?a1 ?l1 ?c1 ?k1 ?a2 ?l2 ?c2 ?k2 ?a3 ?l3 ?c3 ?k3 ?a4 ?l4 ?c4 ?k4 ?a5 ?l5 ?c5 ?k5 ?a6 ?l6 ?c6 ?k6 ?a7 ?l7 ?c7 ?k7 ?a8 ?l8 ?c8 ?k8 ?a9 ?l9 ?c9 ?k9 ?a10 ?l10 ?c10 ?MC ?a11 ?l11 ?c11 ?MD ?Ry ?l12 ?c12 ?Pw ?a13 ?l13 ?c13 ?ME ?a14 ?l14 ?c14 ?Rz ?a15 ?l15 ?c15 ?Ly ?a16 ?l16 ?c16 ?RA ?a17 ?l17 ?c17 ?RB ?a18 ?l18 ?c18 ?RC ?a19 ?l19 ?c19 ?RD ?a20 ?l20 ?c20 ?RE ?a21 ?l21 ?c21 ?RG ?a22 ?l22 ?c22 ?RH ?a23 ?l23 ?c23 ?RI ?a24 ?l24 ?c24 ?RJ ?a25 ?l25 ?c25 ?LO ?a26 ?l26 ?c26 ?RK ?a27 ?l27 ?c27 ?RM ?a28 ?l28 ?c28 ?RO ?a29 ?l29 ?c29 ?RP ?a30 ?l30 ?c30 ?RQ ?a31 ?l31 ?c31 ?RS ?a32 ?l32 ?c32 ?RT ?a33 ?l33 ?c33 ?RU ?LW ?l34 ?c34 ?JZ ?a35 ?l35 ?c35 ?RV ?Px ?l36 ?c36 ?Py ?RW ?l37 ?c37 ?Pz ?a38 ?l38 ?c38 ?RX ?RY ?l39 ?c39 ?PB ?RZ ?l40 ?c40 ?PC ?a41 ?l41 ?c41 ?R0 ?a42 ?l42 ?c42 ?R1 ?a43 ?MA ?c43 ?R3 ?a44 ?l44 ?c44 ?R4 ?a45 ?l45 ?c45 ?R5 ?a46 ?l46 ?c46 ?Jr ?a47 ?l47 ?c47 ?LQ ?a48 ?l48 ?c48 ?R6 ?a49 ?l49 ?c49 ?LR ?a50 ?l50 ?c50 ?R7 ?a51 ?l51 ?c51 ?R8 ?a52 ?l52 ?c52 ?R9 ?a53 ?l53 ?c53 ?Sb ?a54 ?l54 ?c54 ?Sd ?a55 ?l55 ?c55 ?Se ?a56 ?l56 ?c56 ?Sf ?a57 ?l57 ?c57 ?Sg ?a58 ?l58 ?c58 ?Sh ?a59 ?l59 ?c59 ?Si ?a60 ?l60 ?c60 ?Sj ?a61 ?l61 ?c61 ?Sk ?a62 ?l62 ?c62 ?Sl ?a63 ?l63 ?c63 ?Sm ?a64 ?l64 ?c64 ?Sn ?a65 ?l65 ?c65 ?So ?a66 ?l66 ?c66 ?Sq ?a67 ?l67 ?c67 ?JX ?a68 ?l68 ?c68 ?k68 ?GS ?mO ?GU ?BL ?yY ?GV ?BN ?GW ?GX ?nX ?yZ ?BO ?GY ?GZ ?mP ?BP ?G0 ?j4 ?nZ ?ve ?n6 ?n9 ?pZ ?oh ?y9 ?LX ?LY ?LZ ?G6 ?G7 ?Hf ?Hg ?Hh ?Hi ?Hj ?Hl ?L0 ?L1 ?L4
   (case BP | G0 | j4 | nZ | ve | n6 | n9 | pZ | oh | y9 | a1 | l1 | c1 | k1 | a2 | l2 | c2 | k2 | a3 | l3 | c3 | k3 | a4 | l4 | c4 | k4 | a5 | l5 | c5 | k5 | a6 | l6 | c6 | k6 | a7 | l7 | c7 | k7 | a8 | l8 | c8 | k8 | a9 | l9 | c9 | k9 | a10 | l10 | c10 | MC | a11 | l11 | c11 | MD | Ry | l12 | c12 | Pw | a13 | l13 | c13 | ME | a14 | l14 | c14 | Rz | a15 | l15 | c15 | Ly | a16 | l16 | c16 | RA | a17 | l17 | c17 | RB | a18 | l18 | c18 | RC | a19 | l19 | c19 | RD | a20 | l20 | c20 | RE | a21 | l21 | c21 | RG | a22 | l22 | c22 | RH | a23 | l23 | c23 | RI | a24 | l24 | c24 | RJ | a25 | l25 | c25 | LO | a26 | l26 | c26 | RK | a27 | l27 | c27 | RM | a28 | l28 | c28 | RO | a29 | l29 | c29 | RP | a30 | l30 | c30 | RQ | a31 | l31 | c31 | RS | a32 | l32 | c32 | RT | a33 | l33 | c33 | RU | LW | l34 | c34 | JZ | a35 | l35 | c35 | RV | Px | l36 | c36 | Py | RW | l37 | c37 | Pz | a38 | l38 | c38 | RX | RY | l39 | c39 | PB | RZ | l40 | c40 | PC | a41 | l41 | c41 | R0 | a42 | l42 | c42 | R1 | a43 | MA | c43 | R3 | a44 | l44 | c44 | R4 | a45 | l45 | c45 | R5 | a46 | l46 | c46 | Jr | a47 | l47 | c47 | LQ | a48 | l48 | c48 | R6 | a49 | l49 | c49 | LR | a50 | l50 | c50 | R7 | a51 | l51 | c51 | R8 | a52 | l52 | c52 | R9 | a53 | l53 | c53 | Sb | a54 | l54 | c54 | Sd | a55 | l55 | c55 | Se | a56 | l56 | c56 | Sf | a57 | l57 | c57 | Sg | a58 | l58 | c58 | Sh | a59 | l59 | c59 | Si | a60 | l60 | c60 | Sj | a61 | l61 | c61 | Sk | a62 | l62 | c62 | Sl | a63 | l63 | c63 | Sm | a64 | l64 | c64 | Sn | a65 | l65 | c65 | So | a66 | l66 | c66 | Sq | a67 | l67 | c67 | JX | a68 | l68 | c68 | k68 | GS | mO | GU | BL | yY | GV | BN | GW | GX | nX | yZ | BO | GY | GZ | mP | LX | LY=>k_is)
   (case LZ=>k_exc)
   (case G6 | G7 | Hf | Hg | Hh | Hi=>k_is)
   (case Hj=>kit_is)
   (case Hl=>kit_is)
   (case L0=>k_is)
   (case L1=>kts_exm)
   (case L4=>k_is)
