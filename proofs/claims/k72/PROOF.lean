import PyProof.Rows.All
import Wide.All
import OpenK.AllK
import Wide.FinOn
import Lean
import PyProof.EqAt
import PyProof.EqKinds
import PyProof.TupleCall
import PySem.Challenge.RW_notefall_k72_rooms_read
set_option Elab.async false
set_option maxRecDepth 100000 in
set_option maxHeartbeats 0 in
theorem qQ.Lh:PySem.W.OpenLaw.wellSaid PySem.Challenge.rw_notefall_k72_rooms_read=true:=by kernel_rfl
set_option Elab.async false
set_option linter.all false
set_option maxRecDepth 100000
namespace L2
open PySem PySem.Spec PyProof.Rows
abbrev Key:=Sum Int Str
def uQ:Key->Value->Bool
 | .inl k,v=>Value.isInt k v
 | .inr x,v=>Value.isStrOf x v
def Qq (w:World):Key->Int
 | .inl k=>hashInt k
 | .inr x=>hashStr w x
theorem dm:∀ {k:Key} {v:Value},uQ k v=true->(∃ i t,k=Sum.inl i/\v=Value.int i t)∨(∃ x t,k=Sum.inr x/\v=Value.str x t)
 | .inl i,v,h=>by
   obtain ⟨t,e⟩:=Value.isInt_shape (k:=i) (v:=v) h
   exact .inl ⟨i,t,rfl,e⟩
 | .inr x,v,h=>by
   obtain ⟨t,e⟩:=Value.isStrOf_shape (x:=x) (v:=v) h
   exact .inr ⟨x,t,rfl,e⟩
theorem Ca (i:Int) (t:Tok):uQ (.inl i) (.int i t)=true:=by simp [uQ,Value.isInt]
theorem Cb (x:Str) (t:Tok):uQ (.inr x) (.str x t)=true:=by simp [uQ,Value.isStrOf]
theorem Io (a b:Int):decide ((Sum.inl a:Key)=Sum.inl b)=(a==b):=by
 by_cases e:a=b
 . subst e;simp
 . have h:¬ (Sum.inl a:Key)=Sum.inl b:=fun q=>e (Sum.inl.inj q)
   rw [decide_eq_false h]
   exact (beq_eq_false_iff_ne.mpr e).symm
theorem Ip (a b:Str):decide ((Sum.inr a:Key)=Sum.inr b)=decide (a=b):=by
 by_cases e:a=b
 . subst e;simp
 . have h:¬ (Sum.inr a:Key)=Sum.inr b:=fun q=>e (Sum.inr.inj q)
   rw [decide_eq_false h,decide_eq_false e]
theorem Iq (a:Int) (b:Str):decide ((Sum.inl a:Key)=Sum.inr b)=false:=decide_eq_false (fun q=>nomatch q)
theorem Ir (a:Str) (b:Int):decide ((Sum.inr a:Key)=Sum.inl b)=false:=decide_eq_false (fun q=>nomatch q)
def dM (prog:Program) (w:World):PySem.KeyKind prog w Key where
 is:=uQ
 hash:=Qq w
 inj:=fun v a b ha hb=>by
   rcases dm ha with ⟨i,t,rfl,rfl⟩ | ⟨x,t,rfl,rfl⟩
   . rcases dm hb with ⟨j,u,rfl,e⟩ | ⟨y,u,rfl,e⟩
     . injection e with e1 _;rw [e1]
     . exact nomatch e
   . rcases dm hb with ⟨j,u,rfl,e⟩ | ⟨y,u,rfl,e⟩
     . exact nomatch e
     . injection e with e1 _;rw [e1]
 byValue:=fun k v h=>by
   rcases dm h with ⟨i,t,rfl,rfl⟩ | ⟨x,t,rfl,rfl⟩ <;> rfl
 pyHash:=fun hv h=>by
   rcases dm hv with ⟨i,t,rfl,rfl⟩ | ⟨x,t,rfl,rfl⟩
   . exact wpAny_pyHash_int h
   . exact wpAny_pyHash_str h
 eqBool:=fun hu hv h=>by
   rcases dm hu with ⟨i,t,rfl,rfl⟩ | ⟨x,t,rfl,rfl⟩
   . rcases dm hv with ⟨j,u,rfl,rfl⟩ | ⟨y,u,rfl,rfl⟩
     . rw [Io] at h;exact wpAny_eqBool_int h
     . rw [Iq] at h;exact SeqAt.EqAt.int_str i t y u _ _ _ _ h
   . rcases dm hv with ⟨j,u,rfl,rfl⟩ | ⟨y,u,rfl,rfl⟩
     . rw [Ir] at h;exact SeqAt.EqAt.str_int x t j u _ _ _ _ h
     . rw [Ip] at h;exact wpAny_eqBool_str h
 «strs»:=fun k x t v h=>by
   rcases dm h with ⟨i,u,rfl,e⟩ | ⟨y,u,rfl,e⟩
   . exact nomatch e
   . injection e with e1 _
     subst e1
     cases v <;> rfl
theorem yk (prog:Program) (w:World) (i:Int) (t:Tok):(dM prog w).is (.inl i) (.int i t)=true:=Ca i t
theorem yl (prog:Program) (w:World) (x:Str) (t:Tok):(dM prog w).is (.inr x) (.str x t)=true:=Cb x t
end L2
namespace L2
open PySem PySem.Spec PyProof.Rows
inductive V where
 | cY | bl (b:Bool) | int (i:Int) | str (x:Str) | Cc (b:Array UInt8) | KR (b:UInt64) | ref (a:Addr) | ty (n:String)
 deriving DecidableEq
def RelV:V->Value->Prop
 | .cY,u=>u=Value.none
 | .bl b,u=>u=Value.bool b
 | .int i,u=>∃ t,u=Value.int i t
 | .str x,u=>∃ t,u=Value.str x t
 | .Cc b,u=>∃ t,u=Value.bytes b t
 | .KR b,u=>∃ t,u=Value.float b t
 | .ref a,u=>u=Value.ref a
 | .ty n,u=>u=Value.type n
abbrev Vals:List V->List Value->Prop:=Paired RelV
theorem Vals.length {xs:List V} {us:List Value} (r:Vals xs us):xs.length=us.length:=Paired.length r
theorem Vals.get:∀ {xs:List V} {us:List Value} {i:Nat} {x:V},Vals xs us->xs[i]?=some x->∃ u,us[i]?=some u/\RelV x u
 | _,_,_,_,.nil,e=>by simp at e
 | _,_,0,_,.cons r _,e=>by simp at e;subst e;exact ⟨_,rfl,r⟩
 | _,_,i + 1,x,.cons _ t,e=>by
   obtain ⟨u,h1,h2⟩:=Vals.get (i:=i) (x:=x) t (by simpa using e)
   exact ⟨u,by simpa using h1,h2⟩
theorem Vals.set {x:V} {u:Value} (r:RelV x u):∀ {xs:List V} {us:List Value} (i:Nat),Vals xs us->Vals (xs.set i x) (us.set i u)
 | _,_,_,.nil=>.nil
 | _,_,0,.cons _ t=>.cons r t
 | _,_,i + 1,.cons q t=>.cons q (Vals.set r i t)
theorem Vals.append:∀ {xs ys:List V} {us ws:List Value},Vals xs us->Vals ys ws->Vals (xs++ys) (us++ws)
 | _,_,_,_,.nil,s=>s
 | _,_,_,_,.cons r t,s=>.cons r (Vals.append t s)
theorem Vals.take:∀ {xs:List V} {us:List Value} (n:Nat),Vals xs us->Vals (xs.take n) (us.take n)
 | _,_,0,_=>.nil
 | _,_,_ + 1,.nil=>.nil
 | _,_,n + 1,.cons r t=>.cons r (Vals.take n t)
theorem Vals.drop:∀ {xs:List V} {us:List Value} (n:Nat),Vals xs us->Vals (xs.drop n) (us.drop n)
 | _,_,0,r=>r
 | _,_,_ + 1,.nil=>.nil
 | _,_,n + 1,.cons _ t=>Vals.drop n t
def sf:Option V->Option Value->Prop
 | some v,some u=>RelV v u
 | none,none=>True
 | _,_=>False
def KV {κ:Type}:List (κ×V)->List (κ×Value)->Prop:=Paired fun (p:κ×V) (q:κ×Value)=>p.1=q.1/\RelV p.2 q.2
def kV:Key->V
 | .inl i=>.int i
 | .inr x=>.str x
inductive HO where
 | lst (xs:List V)
 | tup (xs:List V)
 | dK (kvs:List (Key×V)) | dT (kvs:List (List Key×V))
 | set (S:Int->Bool) (n:Nat)
 | ins (C dx:Addr) (fs:List (Str×V))
 | own (x:Addr)
 | xd (fs:List (Str×V))
 | met (f x:Addr)
 | NT (lo hi:Int)
 | mh (o:Obj) (u:HO)
 | Cd (ps:Array Value)
 | ext (φ:Heap->Prop)
abbrev Hp:=Addr->Option HO
def upd (H:Hp) (a:Addr) (o:HO):Hp:=fun b=>if b=a then some o else H b
theorem ah {H:Hp} {a:Addr} {o:HO}:upd H a o a=some o:=by unfold upd;rw [if_pos rfl]
theorem aJ {H:Hp} {a b:Addr} {o:HO} (h:b≠a):upd H a o b=H b:=by unfold upd;rw [if_neg h]
theorem HF {H:Hp} {a b:Addr} {o u:HO} (h:H a=some o) (h':H b=some u) (d:o≠u):a≠b:=by
 intro e;subst e;rw [h] at h';exact d (Option.some.inj h')
theorem aW {H:Hp} {a b:Addr} {o:HO} (h:H a=some o) (h':H b=none):a≠b:=by
 intro e;subst e;rw [h] at h';cases h'
section
variable (P:Program) (w:World)
def dH (H:Hp) (h:Heap) (a:Addr):HO->Prop
 | .lst xs=>xs.length<=sizeLine/\∃ (its:List Value) (n:Nat),Vals xs its/\h.get? a=some { cls:=.type "list",data:=.seq its.toArray n }
 | .tup xs=>xs.length<=sizeLine/\∃ its:List Value,Vals xs its/\IsTup h a its.toArray
 | .dK kvs=>kvs.length<=sizeLine/\(a==sysModules)=false/\∃ vs,KV kvs vs/\h.DictOf (dM P w) a vs
 | .dT kvs=>kvs.length<=sizeLine/\(a==sysModules)=false/\∃ xs:List (List Key×Addr×Value),
     Paired (fun (p:List Key×V) (q:List Key×Addr×Value)=>p.1=q.1/\H q.2.1=some (.tup (p.1.map kV))/\RelV p.2 q.2.2) kvs xs/\
     ∃ o es ep,h.get? a=some o/\o.ExactDict/\o.data=.dict es ep/\es.toList=xs.map (entryOfKey (tupleKind (dM P w)))/\(xs.map (·.1)).Nodup
 | .set S n=>h.SetOf (intKind P w) a S n
 | .ins C dx fs=>H dx=some (.own a)/\fs.length<=1000/\dx≠a/\h.get? a=some (PySem.W.instObj C dx)/\
     ∃ mA,h.Ns1 dx mA/\(∀ f,sf (fs.lookup f) (mA f))/\PySem.Within mA (fs.map (·.1))
 | .own _=>∃ o,h.get? a=some o
 | .xd fs=>∃ mA,h.Ns1 a mA/\∀ f,sf (fs.lookup f) (mA f)
 | .NT lo hi=>∃ t u v,h.get? a=some { cls:=.type "range",data:=.fields #[.int lo t,.int hi u,.int 1 v] }
 | .mh o u=>h.get? a=some o/\dH H h a u
 | .Cd ps=>h.get? a=some { cls:=.none,data:=.fields ps }
 | .met f x=>h.get? a=some (PySem.W.methodObj (.ref f) (.ref x))
 | .ext φ=>φ h/\(∃ o,h.get? a=some o)/\∀ h1 h2:Heap,φ h1->(∀ o,h1.get? a=some o->h2.get? a=some o)->φ h2
def nE (H:Hp) (h:Heap):Prop:=∀ a o,H a=some o->dH P w H h a o
end
section
variable {P:Program} {w:World} {H H':Hp} {h h':Heap} {a:Addr} {o:HO}
theorem dH.lt (x:dH P w H h a o):a < h.objs.size:=by
 cases o with
 | lst xs=>obtain ⟨_,_,_,_,e⟩:=x;exact Heap.lt_size e
 | tup xs=>obtain ⟨_,_,_,p⟩:=x;exact p.lt
 | dK kvs=>obtain ⟨_,_,_,_,o,_,_,e,_⟩:=x;exact Heap.lt_size e
 | dT kvs=>obtain ⟨_,_,_,_,o,_,_,e,_⟩:=x;exact Heap.lt_size e
 | set S n=>obtain ⟨o,_,_,_,e,_⟩:=x;exact Heap.lt_size e
 | ins C dx fs=>obtain ⟨_,_,_,e,_⟩:=x;exact Heap.lt_size e
 | own y=>obtain ⟨_,e⟩:=x;exact Heap.lt_size e
 | xd fs=>obtain ⟨_,⟨_,_,_,e,_⟩,_⟩:=x;exact Heap.lt_size e
 | NT lo hi=>obtain ⟨_,_,_,e⟩:=x;exact Heap.lt_size e
 | mh ob u=>obtain ⟨e,_⟩:=x;exact Heap.lt_size e
 | Cd ps=>exact Heap.lt_size (show h.get? a=some _ from x)
 | met f y=>exact Heap.lt_size (show h.get? a=some _ from x)
 | ext φ=>obtain ⟨_,⟨_,e⟩,_⟩:=x;exact Heap.lt_size e
theorem Paired.Iu {α β:Type} {F G:α->β->Prop}:∀ {l₁:List α} {l₂:List β},Paired F l₁ l₂->(∀ a b,F a b->G a b)->Paired G l₁ l₂
 | _,_,.nil,_=>.nil
 | _,_,.cons r t,f=>.cons (f _ _ r) (Paired.Iu t f)
theorem dH.nQ (x:dH P w H h a o) (k:∀ b u,(b=a∨H b=some (.own a))->h.get? b=some u->h'.get? b=some u)
   (ho:∀ b,H b=some (.own a)->H' b=some (.own a)) (ht:∀ b xs,H b=some (.tup xs)->H' b=some (.tup xs)):dH P w H' h' a o:=by
 induction o with
 | lst xs=>obtain ⟨z,its,n,r,e⟩:=x;exact ⟨z,its,n,r,k _ _ (.inl rfl) e⟩
 | tup xs=>obtain ⟨z,its,r,ob,e,c⟩:=x;exact ⟨z,its,r,ob,k _ _ (.inl rfl) e,c⟩
 | dK kvs=>obtain ⟨z,y,vs,r,ob,es,ep,e,c⟩:=x;exact ⟨z,y,vs,r,ob,es,ep,k _ _ (.inl rfl) e,c⟩
 | dT kvs=>
   obtain ⟨z,y,xs,r,ob,es,ep,e,c⟩:=x
   exact ⟨z,y,xs,Paired.Iu r fun p q z=>⟨z.1,ht _ _ z.2.1,z.2.2⟩,ob,es,ep,k _ _ (.inl rfl) e,c⟩
 | set S n=>obtain ⟨ob,es,ep,t,e,c⟩:=x;exact ⟨ob,es,ep,t,k _ _ (.inl rfl) e,c⟩
 | ins C dx fs=>
   obtain ⟨d,z,ne,e,mA,⟨od,es,ep,e2,c⟩,r⟩:=x
   exact ⟨ho _ d,z,ne,k _ _ (.inl rfl) e,mA,⟨od,es,ep,k _ _ (.inr d) e2,c⟩,r⟩
 | own y=>obtain ⟨ob,e⟩:=x;exact ⟨ob,k _ _ (.inl rfl) e⟩
 | xd fs=>obtain ⟨mA,⟨od,es,ep,e,c⟩,r⟩:=x;exact ⟨mA,⟨od,es,ep,k _ _ (.inl rfl) e,c⟩,r⟩
 | NT lo hi=>obtain ⟨t,u,v,e⟩:=x;exact ⟨t,u,v,k _ _ (.inl rfl) e⟩
 | mh ob u ih=>obtain ⟨e,q⟩:=x;exact ⟨k _ _ (.inl rfl) e,ih q⟩
 | Cd ps=>
   have e:h.get? a=some { cls:=.none,data:=.fields ps }:=x
   show h'.get? a=some { cls:=.none,data:=.fields ps }
   exact k a _ (.inl rfl) e
 | met f y=>
   have e:h.get? a=some (PySem.W.methodObj (.ref f) (.ref y)):=x
   show h'.get? a=some (PySem.W.methodObj (.ref f) (.ref y))
   exact k a _ (.inl rfl) e
 | ext φ=>obtain ⟨p,⟨o,e⟩,st⟩:=x;exact ⟨st _ _ p fun o q=>k _ _ (.inl rfl) q,⟨o,k _ _ (.inl rfl) e⟩,st⟩
theorem nE.lt (x:nE P w H h) (e:H a=some o):a < h.objs.size:=(x a o e).lt
theorem nE.fresh (x:nE P w H h) (e:h.objs.size<=a):H a=none:=by
 cases q:H a with
 | none=>rfl
 | some u=>exact absurd (Nat.lt_of_lt_of_le (x.lt q) e) (Nat.lt_irrefl _)
theorem nE.kept (x:nE P w H h) (k:∀ b u,h.get? b=some u->h'.get? b=some u):nE P w H h':=fun a o e=>
 (x a o e).nQ (fun b u _ q=>k b u q) (fun _ q=>q) fun _ _ q=>q
theorem nE.laid (x:nE P w H h) (k:∀ b u,h.get? b=some u->h'.get? b=some u) (hp:h.objs.size<=a) (new:dH P w (upd H a o) h' a o):nE P w (upd H a o) h':=fun b u e=>by
 have hn:=x.fresh hp
 by_cases hb:b=a
 . subst hb;rw [ah] at e;cases e;exact new
 . rw [aJ hb] at e
   exact (x b u e).nQ (fun c v _ q=>k c v q) (fun c q=>by rw [aJ (aW q hn)];exact q) fun c xs q=>by rw [aJ (aW q hn)];exact q
end
def Rd (H:Hp) (a:Addr) (u:HO):Prop:=H a=some u∨∃ o,H a=some (.mh o u)
theorem Rd.ok {P:Program} {w:World} {H:Hp} {h:Heap} {a:Addr} {u:HO} (r:Rd H a u) (x:nE P w H h):dH P w H h a u:=by
 rcases r with r | ⟨o,r⟩
 . exact x a u r
 . obtain ⟨_,q⟩:=x a _ r
   exact q
def Li:Option HO->Prop
 | some (.lst _)=>True
 | some (.dK _)=>True
 | some (.dT _)=>True
 | some (.set _ _)=>True
 | some (.ins _ _ _)=>True
 | some (.ext _)=>True
 | _=>False
section
variable {P:Program} {w:World} {H:Hp} {h h':Heap} {x e:Addr} {o':HO}
theorem nE.write (ok:nE P w H h) (mu:Li (H x)) (he:e=x∨H e=some (.own x)) (k:∀ b u,b≠e->h.get? b=some u->h'.get? b=some u) (KS:∃ u,h'.get? e=some u)
   (new:dH P w (upd H x o') h' x o'):nE P w (upd H x o') h':=fun b u q=>by
 have Lj:∀ c y,H c=some (.own y)->c≠x:=fun c y r z=>by subst z;rw [r] at mu;exact mu
 have Qs:∀ c xs,H c=some (.tup xs)->c≠x:=fun c xs r z=>by subst z;rw [r] at mu;exact mu
 by_cases hb:b=x
 . subst hb;rw [ah] at q;cases q;exact new
 . rw [aJ hb] at q
   by_cases hbe:b=e
   . have q':H b=some (.own x):=by
       rcases he with z | z
       . exact absurd (hbe.trans z) hb
       . rw [hbe];exact z
     rw [q] at q';cases q'
     obtain ⟨v,hv⟩:=KS
     exact ⟨v,by rw [hbe];exact hv⟩
   . refine (ok b u q).nQ (fun c v hc r=>k c v ?_ r) (fun c r=>by rw [aJ (Lj c b r)];exact r) fun c xs r=>by rw [aJ (Qs c xs r)];exact r
     rcases hc with rfl | hc
     . exact hbe
     . rintro rfl
       rcases he with z | z
       . exact Lj c b hc z
       . rw [hc] at z;cases z;exact hb rfl
end
structure Un (fs ex:List Addr) (H H':Hp) (h h':Heap):Prop where
 keep:∀ b o,h.get? b=some o->H b=none->b∉fs->b∉ex->h'.get? b=some o
 slot:∀ b o,h.get? b=some o->H b=none->b∈fs->b∉ex->∃ sl,h'.get? b=some { o with slots:=sl }
 free:∀ b o,h.get? b=some o->H b=none->b∉ex->H' b=none
 there:∀ b o,h.get? b=some o->b∉ex->∃ o',h'.get? b=some o'
 lW:∀ b xs,H b=some (.tup xs)->H' b=some (.tup xs)
 kO:∀ b o u,H b=some (.mh o u)->H' b=some (.mh o u)
 lX:∀ b ps,H b=some (.Cd ps)->∃ more,H' b=some (.Cd (ps++more))
section
variable {fs fs' ex ex':List Addr} {H H1 H2:Hp} {h h1 h2 h':Heap} {a x e:Addr} {o:HO}
theorem Un.any (u:Un fs ex H H1 h h1) {b:Addr} {ob:Obj} (q:h.get? b=some ob) (n:H b=none) (hx:b∉ex):∃ sl,h1.get? b=some { ob with slots:=sl }:=by
 by_cases hb:b∈fs
 . exact u.slot b ob q n hb hx
 . exact ⟨ob.slots,u.keep b ob q n hb hx⟩
theorem Un.trans (a:Un fs ex H H1 h h1) (b:Un fs ex H1 H2 h1 h2):Un fs ex H H2 h h2 where
 keep:=fun c ob q n hc hx=>b.keep c ob (a.keep c ob q n hc hx) (a.free c ob q n hx) hc hx
 slot:=fun c ob q n hc hx=>by
   obtain ⟨sl,e1⟩:=a.slot c ob q n hc hx
   obtain ⟨sl',e2⟩:=b.slot c _ e1 (a.free c ob q n hx) hc hx
   exact ⟨sl',e2⟩
 free:=fun c ob q n hx=>by
   obtain ⟨o',e1⟩:=a.there c ob q hx
   exact b.free c o' e1 (a.free c ob q n hx) hx
 there:=fun c ob q hx=>by
   obtain ⟨o',e1⟩:=a.there c ob q hx
   exact b.there c o' e1 hx
 lW:=fun c xs q=>b.lW c xs (a.lW c xs q)
 kO:=fun c ob xs q=>b.kO c ob xs (a.kO c ob xs q)
 lX:=fun c ps q=>by
   obtain ⟨m1,e1⟩:=a.lX c ps q
   obtain ⟨m2,e2⟩:=b.lX c _ e1
   exact ⟨m1++m2,by rw [e2,Array.append_assoc]⟩
theorem Un.kept (k:∀ b u,h.get? b=some u->h'.get? b=some u):Un fs ex H H h h':=
 ⟨fun b ob q _ _ _=>k b ob q,fun b ob q _ _ _=>⟨ob.slots,k b ob q⟩,fun _ _ _ n _=>n,fun b ob q _=>⟨ob,k b ob q⟩,fun _ _ q=>q,fun _ _ _ q=>q,fun _ ps q=>⟨#[],by rw [q];simp⟩⟩
theorem Un.refl:Un fs ex H H h h:=Un.kept fun _ _ q=>q
theorem Un.laid (k:∀ b u,h.get? b=some u->h'.get? b=some u) (hp:h.objs.size<=a) (hn:H a=none):Un fs ex H (upd H a o) h h' where
 keep:=fun b u q _ _ _=>k b u q
 slot:=fun b u q _ _ _=>⟨u.slots,k b u q⟩
 free:=fun b u q n _=>by rw [aJ (Nat.ne_of_lt (Nat.lt_of_lt_of_le (Heap.lt_size q) hp))];exact n
 there:=fun b u q _=>⟨u,k b u q⟩
 lW:=fun b xs q=>by rw [aJ (aW q hn)];exact q
 kO:=fun b u xs q=>by rw [aJ (aW q hn)];exact q
 lX:=fun b ps q=>⟨#[],by rw [aJ (aW q hn),q];simp⟩
theorem Un.write (mu:Li (H x)) (he:e=x∨H e=some (.own x)) (k:∀ b u,b≠e->h.get? b=some u->h'.get? b=some u) (KS:∃ u,h'.get? e=some u):Un fs ex H (upd H x o) h h':=by
 have hx:∀ b,H b=none->b≠x:=fun b n z=>by subst z;rw [n] at mu;exact mu
 have hb:∀ b,H b=none->b≠e:=fun b n z=>by
   subst z
   rcases he with r | r
   . exact hx b n r
   . rw [n] at r;cases r
 have hm:∀ b u,H b=some u->¬ Li (some u)->b≠x:=fun b u q nm z=>by subst z;rw [q] at mu;exact nm mu
 refine ⟨fun b u q n _ _=>k b u (hb b n) q,fun b u q n _ _=>⟨u.slots,k b u (hb b n) q⟩,fun b u q n _=>by rw [aJ (hx b n)];exact n,fun b u q _=>?_,
   fun b xs q=>by rw [aJ (hm b _ q fun z=>z)];exact q,fun b u xs q=>by rw [aJ (hm b _ q fun z=>z)];exact q,fun b ps q=>⟨#[],by rw [aJ (hm b _ q fun z=>z),q];simp⟩⟩
 by_cases hbe:b=e
 . subst hbe;exact KS
 . exact ⟨u,k b u hbe q⟩
end
def NU (h:Heap) (H:Hp):List Addr:=(List.range h.objs.size).filter fun a=>(H a).isSome
def vK (h:Heap) (H:Hp):Heap:=PySem.W.hideAll h (NU h H)
theorem Ce (h:Heap) (H:Hp):(vK h H).objs.size=h.objs.size:=PySem.W.hideAll_size _ _
theorem Dq {h:Heap} {H:Hp} {b:Addr} {o:Obj} (e:h.get? b=some o) (n:H b=none):(vK h H).get? b=some o:=
 PySem.W.hideAll_get _ e fun hm=>by
   have q:(H b).isSome=true:=(List.mem_filter.mp hm).2
   rw [n] at q;simp at q
theorem Ga {h:Heap} {H:Hp} {b:Addr} {o:Obj} (e:(vK h H).get? b=some o):h.get? b=some o/\H b=none:=by
 have e':h.get? b=some o:=PySem.W.of_hideAll (NU h H) e
 refine ⟨e',?_⟩
 cases q:H b with
 | none=>rfl
 | some x=>
   have hm:b∈NU h H:=List.mem_filter.mpr ⟨List.mem_range.mpr (Heap.lt_size e'),by simp [q]⟩
   have z:(vK h H).get? b=none:=PySem.W.hideAll_none (NU h H) hm
   rw [z] at e;cases e
end L2
namespace L2
open PySem PySem.Spec PyProof.Rows
structure Mod (K:PySem.W.Frag) (mg:Str->Option Value) (base:Heap):Prop where
 HG:K.In base
 glob:base.Ns mainGlobals mg
 blt:∃ mb,base.Ns builtinsNs mb/\∀ x:Str,x≠"__name__"->mb x=bootBuiltins x
 nolimit:base.NoLimit
structure Cx where
 prog:Program
 w:World
 K:PySem.W.Frag
 mg:Str->Option Value
 base:Heap
 A:Around
 N:List Str
 s₀:Shared
 H₀:Hp
 env:Env
 outer:List Env
 stack:List Env
 ex:List Addr
 fn:Str->Bool
 calm:Bool
 pn:List (Addr×Obj)
 xe:Value->Shared->Prop
def nh (l:List Env):List Addr:=l.filterMap (·.frame)
abbrev Cx.fs (X:Cx):List Addr:=nh X.outer
def NV (sc:Scope) (x:Str):Prop:=sc.names.lookup x=some .local∨sc.names.lookup x=some .cell∨sc.names.lookup x=some .free
def Loc (sc:Scope) (x:Str):Prop:=sc.names.lookup x=some .local∨sc.names.lookup x=some .cell
def Look (env:Env) (h:Heap) (m:Str->Option Value) (x:Str) (u:Value):Prop:=
 (env.kindOf x=some .local/\m x=some u)∨((env.kindOf x=some .cell∨env.kindOf x=some .free)/\∃ c,env.cells.lookup x=some c/\h.IsCell c (some u))
structure Cx.Ok (X:Cx):Prop where
 mod:Mod X.K X.mg X.base
 kind:X.env.scope.kind=.function
 glob:X.env.globals=mainGlobals
 blt:X.env.builtins=builtinsNs
 above:X.s₀.heap.objs.size<=X.env.locals
 inj:∀ x y c,X.env.cells.lookup x=some c->X.env.cells.lookup y=some c->x=y
 has:∀ x,(X.env.kindOf x=some .cell∨X.env.kindOf x=some .free)->∃ c,X.env.cells.lookup x=some c
 Gb:∀ x c,X.fn x=true->X.env.cells.lookup x=some c->X.s₀.heap.objs.size<=c
 hd:X.calm=true->X.A.handled=none
 frames:X.A.frames=some X.stack
 HH:X.stack=X.outer∨(X.stack=X.env::X.outer/\X.env.frame=some X.env.locals)
 KU:∀ b∈X.ex,b≠X.env.locals/\∀ x c,X.env.cells.lookup x=some c->c≠b
 bs:∀ b o,X.base.get? b=some o->X.s₀.heap.get? b=some o/\X.H₀ b=none
 Dm:X.base.objs.size<=X.s₀.heap.objs.size
 vL:∀ b o,X.base.get? b=some o->b∉X.ex
 ym:∀ b∈X.ex,b∉X.fs
 mj:X.s₀.heap.FunFrames X.base X.outer
 Dr:∀ b∈X.fs,X.H₀ b=none
structure Inv (X:Cx) (pins:List (Addr×Obj)) (σ:List (Option V)) (H:Hp) (s:Shared):Prop where
 ok:X.Ok
 os:s.os=X.s₀.os
 bare:AllBare s.gens
 base:Un X.fs X.ex X.H₀ H X.s₀.heap s.heap
 loc:∃ m,s.heap.Ns X.env.locals m/\∀ (i:Nat) (x:Str) (v:V),X.N[i]?=some x->σ[i]?=some (some v)->NV X.env.scope x->∃ u,RelV v u/\Look X.env s.heap m x u
 cell:∀ x c,X.env.cells.lookup x=some c->∃ v,s.heap.IsCell c v
 free:H X.env.locals=none
 iN:∀ x c,X.env.cells.lookup x=some c->H c=none
 pin:∀ p∈X.pn++pins,s.heap.get? p.1=some p.2/\H p.1=none/\p.1≠X.env.locals/\p.1∉X.fs/\∀ v,p.2.data≠.cell v
 cX:nE X.prog X.w H s.heap
 len:σ.length=X.N.length
section
variable {X:Cx} {pins:List (Addr×Obj)} {σ:List (Option V)} {H H':Hp} {s:Shared} {h':Heap}
theorem Cx.Ok.Qt (ok:X.Ok) {b:Addr} {o:Obj} (e:X.base.get? b=some o):b∉X.fs:=fun hb=>by
 have:=(ok.mj.mem hb).1
 rw [e] at this;cases this
theorem Inv.bs (I:Inv X pins σ H s):∀ b o,X.base.get? b=some o->s.heap.get? b=some o/\H b=none:=fun b o e=>
 ⟨I.base.keep b o (I.ok.bs b o e).1 (I.ok.bs b o e).2 (I.ok.Qt e) (I.ok.vL b o e),I.base.free b o (I.ok.bs b o e).1 (I.ok.bs b o e).2 (I.ok.vL b o e)⟩
theorem Inv.bk (I:Inv X pins σ H s):∀ b o,X.base.get? b=some o->s.heap.get? b=some o:=fun b o e=>(I.bs b o e).1
theorem Inv.mod (I:Inv X pins σ H s):Mod X.K X.mg X.base:=I.ok.mod
theorem Inv.qG (I:Inv X pins σ H s):X.K.In s.heap:=I.ok.mod.HG.keeps I.bk
theorem Inv.lt (I:Inv X pins σ H s):X.env.locals < s.heap.objs.size:=let ⟨_,hn,_⟩:=I.loc;hn.lt
theorem Inv.sz (I:Inv X pins σ H s):X.s₀.heap.objs.size<=s.heap.objs.size:=Nat.le_trans I.ok.above (Nat.le_of_lt I.lt)
theorem Inv.Lk (I:Inv X pins σ H s) {a:Addr} (h:s.heap.objs.size<=a):a∉X.fs:=fun hb=>by
 obtain ⟨_,o,ho,_⟩:=I.ok.mj.mem hb
 exact absurd (Nat.lt_of_lt_of_le (Heap.lt_size ho) (Nat.le_trans I.sz h)) (Nat.lt_irrefl _)
theorem Inv.Gd (I:Inv X pins σ H s):∀ x c,X.env.cells.lookup x=some c->c≠X.env.locals:=fun x c e z=>by
 obtain ⟨v,o,ho,hd⟩:=I.cell x c e
 obtain ⟨m,⟨o',es,ep,Ds,hd',_⟩,_⟩:=I.loc
 rw [z,Ds] at ho;cases ho;rw [hd'] at hd;cases hd
theorem Inv.mj (I:Inv X pins σ H s):s.heap.FunFrames X.base X.outer:=by
 have all:∀ (l:List Env),(∀ b∈nh l,b∈X.fs)->X.s₀.heap.FunFrames X.base l->s.heap.FunFrames X.base l:=by
   intro l
   induction l with
   | nil=>intro _ _;trivial
   | cons env r ih=>
     intro hs hl
     obtain ⟨hk,⟨L,o,hf,hn,ho,hd⟩,hr⟩:=hl
     have hL:L∈X.fs:=hs L (by unfold nh;rw [List.filterMap_cons,hf];exact List.mem_cons_self)
     obtain ⟨sl,e⟩:=I.base.slot L o ho (I.ok.Dr L hL) hL fun z=>I.ok.ym L z hL
     exact ⟨hk,⟨L,_,hf,hn,e,hd⟩,ih (fun b hb=>hs b (by unfold nh;rw [List.filterMap_cons,hf];exact List.mem_cons_of_mem _ hb)) hr⟩
 exact all X.outer (fun _ hb=>hb) I.ok.mj
theorem Inv.stack (I:Inv X pins σ H s):s.heap.FunFrames X.base X.stack:=by
 rcases I.ok.HH with e | ⟨e,hf⟩
 . rw [e];exact I.mj
 . rw [e]
   obtain ⟨m,hn,_⟩:=I.loc
   refine .cons (by rw [I.ok.kind];decide) hf hn ?_ I.mj
   exact Heap.get?_none_of_le (Nat.le_trans I.ok.Dm I.ok.above)
theorem Inv.sq (I:Inv X pins σ H s):∀ b∈nh X.stack,b∈X.env.locals::X.fs:=fun b hb=>by
 rcases I.ok.HH with e | ⟨e,hf⟩
 . rw [e] at hb;exact List.mem_cons_of_mem _ hb
 . rw [e] at hb
   unfold nh at hb
   rw [List.filterMap_cons,hf] at hb
   exact hb
theorem Inv.rK (I:Inv X pins σ H s):∀ b∈nh X.stack,H b=none:=fun b hb=>by
 rcases List.mem_cons.mp (I.sq b hb) with e | hb
 . rw [e];exact I.free
 . obtain ⟨_,o,ho,_⟩:=I.ok.mj.mem hb
   exact I.base.free b o ho (I.ok.Dr b hb) fun z=>I.ok.ym b z hb
theorem Inv.step {g':Array GenState} {t':Nat} {d':Drawn} {ch:List Addr} (I:Inv X pins σ H s)
   (FY:∀ b∈ch,(b∈X.ex∨X.s₀.heap.objs.size<=b)/\b≠X.env.locals/\(∀ x c,X.env.cells.lookup x=some c->c≠b)/\∀ p∈X.pn++pins,p.1≠b)
   (keep:∀ b o,b≠X.env.locals->b∉X.fs->b∉ch->s.heap.get? b=some o->H b=none->h'.get? b=some o)
   (slot:∀ b o,b≠X.env.locals->b∈X.fs->b∉ch->s.heap.get? b=some o->H b=none->∃ sl,h'.get? b=some { o with slots:=sl }) (free:∀ b o,b∉ch->s.heap.get? b=some o->H b=none->H' b=none)
   (there:∀ b o,b∉ch->s.heap.get? b=some o->∃ o',h'.get? b=some o')
   (lW:∀ b xs,H b=some (.tup xs)->H' b=some (.tup xs)) (kO:∀ b o u,H b=some (.mh o u)->H' b=some (.mh o u)) (lX:∀ b ps,H b=some (.Cd ps)->∃ more,H' b=some (.Cd (ps++more)))
   (ns:∀ m,s.heap.Ns X.env.locals m->h'.Ns X.env.locals m) (cX:nE X.prog X.w H' h') (hg:AllBare g'):
   Inv X pins σ H' { s with heap:=h',gens:=g',drawn:=d',toks:=t' }:=by
 have neL:∀ b o,X.s₀.heap.get? b=some o->b≠X.env.locals:=fun b o e=>Nat.ne_of_lt (Nat.lt_of_lt_of_le (Heap.lt_size e) I.ok.above)
 have KW:∀ b o,X.s₀.heap.get? b=some o->b∉X.ex->b∉ch:=fun b o e hx hb=>by
   rcases (FY b hb).1 with z | z
   . exact hx z
   . exact absurd (Nat.lt_of_lt_of_le (Heap.lt_size e) z) (Nat.lt_irrefl _)
 have cellK:∀ x c,X.env.cells.lookup x=some c->∀ v,s.heap.IsCell c v->h'.IsCell c v:=fun x c e v ⟨o,ho,hd⟩=>by
   have Ll:c∉ch:=fun z=>(FY c z).2.2.1 x c e rfl
   by_cases hc:c∈X.fs
   . obtain ⟨sl,q⟩:=slot c o (I.Gd x c e) hc Ll ho (I.iN x c e)
     exact ⟨_,q,hd⟩
   . exact ⟨o,keep c o (I.Gd x c e) hc Ll ho (I.iN x c e),hd⟩
 refine ⟨I.ok,I.os,hg,⟨fun b o e n hb hx=>?_,fun b o e n hb hx=>?_,fun b o e n hx=>?_,fun b o e hx=>?_,fun b xs e=>lW b xs (I.base.lW b xs e),fun b o xs e=>kO b o xs (I.base.kO b o xs e),fun b ps e=>?_⟩,?_,fun x c e=>?_,?_,fun x c e=>?_,fun p hp=>?_,cX,I.len⟩
 . exact keep b o (neL b o e) hb (KW b o e hx) (I.base.keep b o e n hb hx) (I.base.free b o e n hx)
 . obtain ⟨sl,e1⟩:=I.base.slot b o e n hb hx
   obtain ⟨sl',e2⟩:=slot b _ (neL b o e) hb (KW b o e hx) e1 (I.base.free b o e n hx)
   exact ⟨sl',e2⟩
 . obtain ⟨o',e1⟩:=I.base.there b o e hx
   exact free b o' (KW b o e hx) e1 (I.base.free b o e n hx)
 . obtain ⟨o',e1⟩:=I.base.there b o e hx
   exact there b o' (KW b o e hx) e1
 . obtain ⟨m1,e1⟩:=I.base.lX b ps e
   obtain ⟨m2,e2⟩:=lX b _ e1
   exact ⟨m1++m2,by rw [e2,Array.append_assoc]⟩
 . obtain ⟨m,hn,hl⟩:=I.loc
   refine ⟨m,ns m hn,fun i x v e1 e2 e3=>?_⟩
   obtain ⟨u,r,l⟩:=hl i x v e1 e2 e3
   refine ⟨u,r,?_⟩
   rcases l with l | ⟨k,c,e,z⟩
   . exact .inl l
   . exact .inr ⟨k,c,e,cellK x c e _ z⟩
 . obtain ⟨v,z⟩:=I.cell x c e
   exact ⟨v,cellK x c e v z⟩
 . obtain ⟨m,⟨o,_,_,ho,_⟩,_⟩:=I.loc
   exact free _ o (fun z=>(FY _ z).2.1 rfl) ho I.free
 . obtain ⟨v,o,ho,hd⟩:=I.cell x c e
   exact free c o (fun z=>(FY c z).2.2.1 x c e rfl) ho (I.iN x c e)
 . obtain ⟨e,n,ne,nf,d⟩:=I.pin p hp
   have Ll:p.1∉ch:=fun z=>(FY p.1 z).2.2.2 p hp rfl
   exact ⟨keep p.1 p.2 ne nf Ll e n,free p.1 p.2 Ll e n,ne,nf,d⟩
theorem Inv.un {t':Nat} (I:Inv X pins σ H s) (u:Un X.fs [] H H' s.heap h') (cX:nE X.prog X.w H' h'):Inv X pins σ H' { s with heap:=h',toks:=t' }:=by
 obtain ⟨m,⟨o,es,ep,ho,r⟩,_⟩:=id I.loc
 obtain ⟨sl,hL⟩:=u.any ho I.free (by simp)
 exact I.step (g':=s.gens) (d':=s.drawn) (ch:=[]) (fun _ z=>nomatch z) (fun b o _ hb _ e n=>u.keep b o e n hb (by simp)) (fun b o _ hb _ e n=>u.slot b o e n hb (by simp)) (fun b o _ e n=>u.free b o e n (by simp)) (fun b o _ e=>u.there b o e (by simp)) u.lW u.kO u.lX (fun m' hm=>by
   obtain ⟨o',es',ep',Ds,r'⟩:=hm
   rw [ho] at Ds;cases Ds
   exact ⟨_,es',ep',hL,r'⟩) cX I.bare
theorem Inv.call {g':Array GenState} {t':Nat} {d':Drawn} {ch:List Addr} (I:Inv X pins σ H s) (u:Un (nh X.stack) ch H H' s.heap h') (cX:nE X.prog X.w H' h') (hg:AllBare g')
   (FY:∀ b∈ch,(b∈X.ex∨X.s₀.heap.objs.size<=b)/\b≠X.env.locals/\(∀ x c,X.env.cells.lookup x=some c->c≠b)/\∀ p∈X.pn++pins,p.1≠b):
   Inv X pins σ H' { s with heap:=h',gens:=g',drawn:=d',toks:=t' }:=by
 obtain ⟨m,⟨o,es,ep,ho,r⟩,_⟩:=id I.loc
 obtain ⟨sl,hL⟩:=u.any ho I.free fun z=>(FY _ z).2.1 rfl
 exact I.step (ch:=ch) FY (fun b o hL hb hc e n=>u.keep b o e n (fun z=>(List.mem_cons.mp (I.sq b z)).elim hL hb) hc) (fun b o _ _ hc e n=>u.any e n hc) (fun b o hc e n=>u.free b o e n hc) (fun b o hc e=>u.there b o e hc) u.lW u.kO u.lX (fun m' hm=>by
   obtain ⟨o',es',ep',Ds,r'⟩:=hm
   rw [ho] at Ds;cases Ds
   exact ⟨_,es',ep',hL,r'⟩) cX hg
theorem Inv.turned {t':Nat} {it:Addr} (I:Inv X pins σ H s) (k:∀ b o,b≠it->s.heap.get? b=some o->h'.get? b=some o) (hn:H it=none) (hL:it≠X.env.locals)
   (h1:it∈X.ex∨X.s₀.heap.objs.size<=it) (h2:∀ x c,X.env.cells.lookup x=some c->c≠it) (h3:∀ p∈X.pn++pins,p.1≠it):Inv X pins σ H { s with heap:=h',toks:=t' }:=by
 have nit:∀ b u,H b=some u->b≠it:=fun b u e z=>by rw [z,hn] at e;cases e
 refine I.step (g':=s.gens) (d':=s.drawn) (ch:=[it]) (fun b hb=>?_) (fun b o _ _ hc e _=>k b o (fun z=>hc (by simp [z])) e) (fun b o _ _ hc e _=>⟨o.slots,k b o (fun z=>hc (by simp [z])) e⟩) (fun _ _ _ _ n=>n)
   (fun b o hc e=>⟨o,k b o (fun z=>hc (by simp [z])) e⟩) (fun _ _ e=>e) (fun _ _ _ e=>e) (fun b ps e=>⟨#[],by rw [e];simp⟩) (fun m hm=>?_) (fun b u e=>?_) I.bare
 . have e:b=it:=by simpa using hb
   subst e
   exact ⟨h1,hL,h2,h3⟩
 . obtain ⟨o,es,ep,ho,r⟩:=hm
   exact ⟨o,es,ep,k _ o (Ne.symm hL) ho,r⟩
 . refine (I.cX b u e).nQ (fun c v hc q=>k c v ?_ q) (fun _ q=>q) fun _ _ q=>q
   rcases hc with z | z
   . rw [z];exact nit b u e
   . exact nit c _ z
theorem Inv.tok (I:Inv X pins σ H s) (t:Nat):Inv X pins σ H { s with toks:=t }:=I.un (h':=s.heap) (t':=t) Un.refl I.cX
theorem Inv.kept {t':Nat} (I:Inv X pins σ H s) (k:∀ b u,s.heap.get? b=some u->h'.get? b=some u):Inv X pins σ H { s with heap:=h',toks:=t' }:=I.un (Un.kept k) (I.cX.kept k)
theorem Inv.laid {a:Addr} {o:HO} {t':Nat} (I:Inv X pins σ H s) (k:∀ b u,s.heap.get? b=some u->h'.get? b=some u) (hp:s.heap.objs.size<=a) (new:dH X.prog X.w (upd H a o) h' a o):
   Inv X pins σ (upd H a o) { s with heap:=h',toks:=t' }:=I.un (Un.laid k hp (I.cX.fresh hp)) (I.cX.laid k hp new)
theorem Inv.write {x e:Addr} {o:HO} {t':Nat} (I:Inv X pins σ H s) (mu:Li (H x)) (he:e=x∨H e=some (.own x)) (k:∀ b u,b≠e->s.heap.get? b=some u->h'.get? b=some u) (KS:∃ u,h'.get? e=some u)
   (new:dH X.prog X.w (upd H x o) h' x o):Inv X pins σ (upd H x o) { s with heap:=h',toks:=t' }:=I.un (Un.write mu he k KS) (I.cX.write mu he k KS new)
theorem Inv.vM {HJ:List (Addr×Obj)} (I:Inv X pins σ H s) (h:∀ p∈HJ,s.heap.get? p.1=some p.2/\H p.1=none/\p.1≠X.env.locals/\p.1∉X.fs/\∀ v,p.2.data≠.cell v):Inv X HJ σ H s:=
 ⟨I.ok,I.os,I.bare,I.base,I.loc,I.cell,I.free,I.iN,fun p hp=>(List.mem_append.mp hp).elim (fun z=>I.pin p (List.mem_append_left _ z)) (h p),I.cX,I.len⟩
theorem su {N:List Str} (hN:N.Nodup) {i j:Nat} {x:Str} (a:N[i]?=some x) (b:N[j]?=some x):i=j:=by
 obtain ⟨h1,e1⟩:=List.getElem?_eq_some_iff.mp a
 obtain ⟨h2,e2⟩:=List.getElem?_eq_some_iff.mp b
 exact (List.getElem_inj hN).mp (e1.trans e2.symm)
theorem uR {M:Model} {A:Around} {E:Value->Shared->Prop} {i:Nat} {x:Str} {v:V} {u:Value} {Q:Unit->Shared->Prop} (I:Inv X pins σ H s) (hN:X.N.Nodup) (hi:X.N[i]?=some x) (hx:Loc X.env.scope x) (r:RelV v u)
   (h:∀ s',Inv X pins (σ.set i (some v)) H s'->(∃ a,Heap.SameBut a s.heap s'.heap/\(a=X.env.locals∨X.env.cells.lookup x=some a))->Q () s') (hf:X.fn x=true∨X.env.scope.names.lookup x=some .local:=by first | exact .inl rfl | exact .inr rfl | assumption):wpAny M A (storeName X.env x u) Q E s:=by
 obtain ⟨m,hn,hl⟩:=id I.loc
 have Qu:(X.env.scope.kind==.class||(X.env.scope.kind==.module&&X.env.locals !=X.env.globals))=false:=by rw [I.ok.kind];rfl
 have hiσ:i < σ.length:=by rw [I.len];exact (List.getElem?_eq_some_iff.mp hi).1
 have Gd:=I.Gd
 have tracked:∀ {a:Addr} {h':Heap},(∃ o,s.heap.get? a=some o/\H a=none)->Heap.SameBut a s.heap h'->nE X.prog X.w H h':=fun {a h'} ha hs b ob e=>by
   obtain ⟨_,_,hfree⟩:=ha
   refine (I.cX b ob e).nQ (fun c w' hc q=>(hs.2 c ?_).trans q) (fun _ q=>q) fun _ _ q=>q
   rintro rfl
   rcases hc with rfl | hc
   . rw [hfree] at e;cases e
   . rw [hfree] at hc;cases hc
 rcases hx with hk | hk
 . refine wpAny_storeName_local hk hn (fun h' hn' hs=>?_) Qu
   obtain ⟨oL,_,_,hoL,_⟩:=id hn
   refine h _ ⟨I.ok,I.os,I.bare,⟨fun b o e n hb hx=>?_,fun b o e n hb hx=>?_,I.base.free,fun b o e hx=>?_,I.base.lW,I.base.kO,I.base.lX⟩,⟨_,hn',fun j y v' e1 e2 e3=>?_⟩,fun y c e=>?_,I.free,I.iN,fun p hp=>?_,tracked ⟨oL,hoL,I.free⟩ hs,by simpa using I.len⟩ ⟨_,hs,.inl rfl⟩
   . exact (hs.2 b (Nat.ne_of_lt (Nat.lt_of_lt_of_le (Heap.lt_size e) I.ok.above))).trans (I.base.keep b o e n hb hx)
   . obtain ⟨sl,e1⟩:=I.base.slot b o e n hb hx
     exact ⟨sl,(hs.2 b (Nat.ne_of_lt (Nat.lt_of_lt_of_le (Heap.lt_size e) I.ok.above))).trans e1⟩
   . obtain ⟨o',e1⟩:=I.base.there b o e hx
     exact ⟨o',(hs.2 b (Nat.ne_of_lt (Nat.lt_of_lt_of_le (Heap.lt_size e) I.ok.above))).trans e1⟩
   . by_cases hj:j=i
     . subst hj
       rw [hi] at e1;cases e1
       rw [List.getElem?_set_self hiσ] at e2
       cases e2
       exact ⟨u,r,.inl ⟨hk,by simp⟩⟩
     . rw [List.getElem?_set_ne (Ne.symm hj)] at e2
       obtain ⟨u',r',q⟩:=hl j y v' e1 e2 e3
       refine ⟨u',r',?_⟩
       rcases q with ⟨k,e⟩ | ⟨k,c,e,z⟩
       . refine .inl ⟨k,?_⟩
         have:y≠x:=fun e=>hj (su hN e1 (e ▸ hi))
         simp [this,e]
       . exact .inr ⟨k,c,e,z.sameBut hs (Gd y c e)⟩
   . obtain ⟨w',z⟩:=I.cell y c e
     exact ⟨w',z.sameBut hs (Gd y c e)⟩
   . obtain ⟨e,n,ne,nf,d⟩:=I.pin p hp
     exact ⟨(hs.2 p.1 ne).trans e,n,ne,nf,d⟩
 . have Qv:X.fn x=true:=by
     rcases hf with z | z
     . exact z
     . rw [z] at hk;cases hk
   obtain ⟨c,hc⟩:=I.ok.has x (.inl hk)
   obtain ⟨w',z⟩:=I.cell x c hc
   refine wpAny_storeName_cell I.ok.kind hk hc z (fun h' hc' hs=>?_)
   obtain ⟨oc,hoc,hocd⟩:=id z
   refine h { s with heap:=h' } ⟨I.ok,I.os,I.bare,⟨fun b o e n hb hx=>?_,fun b o e n hb hx=>?_,I.base.free,fun b o e hx=>?_,I.base.lW,I.base.kO,I.base.lX⟩,⟨m,hn.sameBut hs (Ne.symm (Gd x c hc)),fun j y v' e1 e2 e3=>?_⟩,fun y c' e=>?_,I.free,I.iN,fun p hp=>?_,tracked ⟨oc,hoc,I.iN x c hc⟩ hs,by simpa using I.len⟩ ⟨c,hs,.inr hc⟩
   . exact (hs.2 b (Nat.ne_of_lt (Nat.lt_of_lt_of_le (Heap.lt_size e) (I.ok.Gb x c Qv hc)))).trans (I.base.keep b o e n hb hx)
   . obtain ⟨sl,e1⟩:=I.base.slot b o e n hb hx
     exact ⟨sl,(hs.2 b (Nat.ne_of_lt (Nat.lt_of_lt_of_le (Heap.lt_size e) (I.ok.Gb x c Qv hc)))).trans e1⟩
   . obtain ⟨o',e1⟩:=I.base.there b o e hx
     exact ⟨o',(hs.2 b (Nat.ne_of_lt (Nat.lt_of_lt_of_le (Heap.lt_size e) (I.ok.Gb x c Qv hc)))).trans e1⟩
   . by_cases hj:j=i
     . subst hj
       rw [hi] at e1;cases e1
       rw [List.getElem?_set_self hiσ] at e2
       cases e2
       exact ⟨u,r,.inr ⟨.inl hk,c,hc,hc'⟩⟩
     . rw [List.getElem?_set_ne (Ne.symm hj)] at e2
       obtain ⟨u',r',q⟩:=hl j y v' e1 e2 e3
       refine ⟨u',r',?_⟩
       rcases q with q | ⟨k,c',e,z'⟩
       . exact .inl q
       . refine .inr ⟨k,c',e,z'.sameBut hs ?_⟩
         rintro rfl
         exact hj (su hN e1 (I.ok.inj _ _ _ e hc ▸ hi))
   . by_cases hcc:c'=c
     . subst hcc;exact ⟨_,hc'⟩
     . obtain ⟨w2,z2⟩:=I.cell y c' e
       exact ⟨w2,z2.sameBut hs hcc⟩
   . obtain ⟨e,n,ne,nf,d⟩:=I.pin p hp
     refine ⟨(hs.2 p.1 ?_).trans e,n,ne,nf,d⟩
     intro q
     rw [q,hoc] at e
     have q':oc=p.2:=Option.some.inj e
     exact d w' (by rw [<- q'];exact hocd)
theorem yo {M:Model} {A:Around} {E:Value->Shared->Prop} {i:Nat} {x:Str} {v:V} {u:Value} {Q:Unit->Shared->Prop} (I:Inv X pins σ H s) (hN:X.N.Nodup) (hi:X.N[i]?=some x) (hx:Loc X.env.scope x) (r:RelV v u)
   (h:∀ s',Inv X pins (σ.set i (some v)) H s'->Q () s') (hf:X.fn x=true∨X.env.scope.names.lookup x=some .local:=by first | exact .inl rfl | exact .inr rfl | assumption):wpAny M A (storeName X.env x u) Q E s:=
 uR I hN hi hx r (fun s' I' _=>h s' I') hf
theorem Inv.HK {s':Shared} {ch:List Addr} (I:Inv X pins σ H s) (ho:s'.os=s.os) (u:Un (nh X.stack) ch H H' s.heap s'.heap) (cX:nE X.prog X.w H' s'.heap) (hg:AllBare s'.gens)
   (FY:∀ b∈ch,(b∈X.ex∨X.s₀.heap.objs.size<=b)/\b≠X.env.locals/\(∀ x c,X.env.cells.lookup x=some c->c≠b)/\∀ p∈X.pn++pins,p.1≠b):Inv X pins σ H' s':=by
 obtain ⟨h',g',d',t',o'⟩:=s'
 have e:o'=s.os:=ho
 subst e
 exact I.call (g':=g') (t':=t') (d':=d') u cX hg FY
end
abbrev XK:=Value->Option Addr->Hp->Prop
abbrev St:=List (Option V)
abbrev VK:=V->Hp->Prop
abbrev TE:=St->Hp->VK->Prop
abbrev TT:=St->Hp->(Bool->Hp->Prop)->Prop
abbrev TA:=St->Hp->(List V->Hp->Prop)->Prop
structure Ends where
 nx:St->Hp->Prop
 rt:VK
 bk:St->Hp->Prop:=fun _ _=>False
 ct:St->Hp->Prop:=fun _ _=>False
abbrev TS:=Ends->St->Hp->Prop
def EP (X:Cx) (pins:List (Addr×Obj)) (σ:St) (Q:VK) (u:Value) (s':Shared):Prop:=∃ v H',Inv X pins σ H' s'/\RelV v u/\Q v H'
def TP (X:Cx) (pins:List (Addr×Obj)) (σ:St) (Q:Bool->Hp->Prop) (b:Bool) (s':Shared):Prop:=∃ H',Inv X pins σ H' s'/\Q b H'
def AP (X:Cx) (pins:List (Addr×Obj)) (σ:St) (Q:List V->Hp->Prop) (us:List Value) (s':Shared):Prop:=∃ vs H',Inv X pins σ H' s'/\Vals vs us/\Q vs H'
def SP (X:Cx) (pins:List (Addr×Obj)) (D:Ends) (f:Flow) (s':Shared):Prop:=
 match f with
 | .next=>∃ σ' H',Inv X pins σ' H' s'/\D.nx σ' H'
 | .brk=>∃ σ' H',Inv X pins σ' H' s'/\D.bk σ' H'
 | .cont=>∃ σ' H',Inv X pins σ' H' s'/\D.ct σ' H'
 | .ret u=>∃ v σ' H',Inv X pins σ' H' s'/\RelV v u/\D.rt v H'
def PE (X:Cx) (e:Expr) (t:TE):Prop:=
 ∀ (pins:List (Addr×Obj)) (s:Shared) (σ:St) (H:Hp) (Q:VK),Inv X pins σ H s->t σ H Q->wpAny (model X.prog X.w) X.A (eval e X.env) (EP X pins σ Q) X.xe s
def PT (X:Cx) (e:Expr) (t:TT):Prop:=
 ∀ (pins:List (Addr×Obj)) (s:Shared) (σ:St) (H:Hp) (Q:Bool->Hp->Prop),Inv X pins σ H s->t σ H Q->wpAny (model X.prog X.w) X.A (isTrue e X.env (eval e X.env)) (TP X pins σ Q) X.xe s
def PW (X:Cx) (e:Expr) (t:TT):Prop:=
 ∀ (whole:Sem Value) (pins:List (Addr×Obj)) (s:Shared) (σ:St) (H:Hp) (Q:Bool->Hp->Prop),Inv X pins σ H s->t σ H Q->wpAny (model X.prog X.w) X.A (isTrue e X.env whole) (TP X pins σ Q) X.xe s
theorem PW.pt {X:Cx} {e:Expr} {t:TT} (h:PW X e t):PT X e t:=h _
def PA (X:Cx) (es:List Expr) (t:TA):Prop:=
 ∀ (pos:Pos) (pins:List (Addr×Obj)) (s:Shared) (σ:St) (H:Hp) (Q:List V->Hp->Prop),Inv X pins σ H s->t σ H Q->wpAny (model X.prog X.w) X.A (spliced (backTo pos (starEach es X.env))) (AP X pins σ Q) X.xe s
def PS (X:Cx) (st:Stmt) (t:TS):Prop:=
 ∀ (pins:List (Addr×Obj)) (s:Shared) (σ:St) (H:Hp) (D:Ends),Inv X pins σ H s->t D σ H->wpAny (model X.prog X.w) X.A (exec st X.env) (SP X pins D) X.xe s
def zS (X:Cx) (st:List Stmt) (t:TS):Prop:=
 ∀ (pins:List (Addr×Obj)) (s:Shared) (σ:St) (H:Hp) (D:Ends),Inv X pins σ H s->t D σ H->wpAny (model X.prog X.w) X.A (execs st X.env) (SP X pins D) X.xe s
theorem dZ {α:Type} {t:Sem α} {Q Q':α->Shared->Prop} {M:Model} {A:Around} {E:Value->Shared->Prop} {s:Shared} (h:wpAny M A t Q E s) (hQ:∀ a s,Q a s->Q' a s):wpAny M A t Q' E s:=wpAny_mono h hQ fun _ _ x=>x
end L2
namespace L2
open PySem PySem.Spec PyProof.Rows
section
variable {X:Cx}
def qR (i:Nat):TE:=fun σ H Q=>∃ v,σ[i]?=some (some v)/\Q v H
def tC (v:V):TE:=fun _ H Q=>Q v H
theorem Iv {i:Nat} {x:Str} {pos:Pos} (hN:X.N[i]?=some x) (hv:NV X.env.scope x) (hd:(x==("__debug__":Str))=false:=by decide) (Cf:(x==("__classdict__":Str))=false:=by decide):PE X (.Name x pos) (qR i):=by
 intro pins s σ H Q I h
 obtain ⟨v,e,h⟩:=h
 obtain ⟨m,hn,hl⟩:=I.loc
 obtain ⟨u,r,l⟩:=hl i x v hN e hv
 have fin:EP X pins σ Q u s:=⟨v,H,I,r,h⟩
 rcases l with ⟨hk,hm⟩ | ⟨hk,c,hc,hcell⟩
 . exact wpAny_Name (wpAny_loadName_local I.ok.kind hk hn hm fin) hd
 . rcases hk with hk | hk
   . exact wpAny_Name (wpAny_loadName_cell I.ok.kind hk hc hcell fin) hd
   . exact wpAny_Name (wpAny_loadName_free I.ok.kind hk hc hcell fin Cf) hd
theorem zT {i j pos}:PE X (.Constant (.int i) j pos) (tC (.int i)):=fun _ _ _ H _ I h=>wpAny_Constant_int ⟨.int i,H,I.tok _,⟨_,rfl⟩,h⟩
theorem Lm {b j pos}:PE X (.Constant (.bool b) j pos) (tC (.bl b)):=fun _ _ _ H _ I h=>Constant_bool ⟨.bl b,H,I,rfl,h⟩
theorem Iw {j pos}:PE X (.Constant .none j pos) (tC .cY):=fun _ _ _ H _ I h=>Constant_none ⟨.cY,H,I,rfl,h⟩
theorem Du {x j pos}:PE X (.Constant (.str x) j pos) (tC (.str x)):=fun _ _ _ H _ I h=>Calls.Constant_str ⟨.str x,H,I.tok _,⟨_,rfl⟩,h⟩
def Gl (X:Cx) (x:Str):Prop:=X.env.kindOf x=some .globalImplicit
theorem rL {E:Value->Shared->Prop} {pins:List (Addr×Obj)} {s:Shared} {σ:St} {H:Hp} {x:Str} {u:Value} {pos:Pos} {Q:Value->Shared->Prop} (I:Inv X pins σ H s) (hg:Gl X x) (hm:X.mg x=some u) (h:Q u s)
   (hd:(x==("__debug__":Str))=false:=by decide):wpAny (model X.prog X.w) X.A (eval (.Name x pos) X.env) Q E s:=
 Calls.Name_function_global I.ok.kind hg (Calls.loadGlobal_global (by rw [I.ok.glob];exact I.mod.glob.keeps I.bk) hm h) hd
theorem pV {E:Value->Shared->Prop} {pins:List (Addr×Obj)} {s:Shared} {σ:St} {H:Hp} {x:Str} {u:Value} {pos:Pos} {Q:Value->Shared->Prop} (I:Inv X pins σ H s) (hg:Gl X x) (hm:X.mg x=none) (hv:bootBuiltins x=some u) (h:Q u s)
   (hn:x≠"__name__":=by decide) (hd:(x==("__debug__":Str))=false:=by decide):wpAny (model X.prog X.w) X.A (eval (.Name x pos) X.env) Q E s:=by
 obtain ⟨mb,h1,h2⟩:=I.mod.blt
 exact Calls.Name_function_global I.ok.kind hg (Calls.loadGlobal_builtin (by rw [I.ok.glob];exact I.mod.glob.keeps I.bk) hm (by rw [I.ok.blt];exact h1.keeps I.bk) ((h2 x hn).trans hv) h) hd
theorem Ge {x:Str} {v:V} {u:Value} {pos:Pos} (hg:Gl X x) (hm:X.mg x=some u) (r:RelV v u) (hd:(x==("__debug__":Str))=false:=by decide):PE X (.Name x pos) (tC v):=
 fun _ _ _ H _ I h=>rL I hg hm ⟨v,H,I,r,h⟩ hd
theorem Gf {x:Str} {v:V} {u:Value} {pos:Pos} (hg:Gl X x) (hm:X.mg x=none) (hv:bootBuiltins x=some u) (r:RelV v u) (hn:x≠"__name__":=by decide) (hd:(x==("__debug__":Str))=false:=by decide):PE X (.Name x pos) (tC v):=
 fun _ _ _ H _ I h=>pV I hg hm hv ⟨v,H,I,r,h⟩ hn hd
variable {a b:Expr} {ta tb:TE} {pos:Pos}
def tB (t:TE):TT:=fun σ H Q=>t σ H fun x H1=>∃ c,x=.bl c/\Q c H1
theorem Iz {e:Expr} {t:TE} (h:PE X e t) (he:∀ whole,isTrue e X.env whole=(do let v <- whole;standAt e.pos;holding [v] (truthy v)):=by intro _;rfl):PT X e (tB t):=by
 intro pins s σ H Q I hw
 refine isTrue_plain (dZ (h pins s σ H _ I hw) fun v s1 ⟨x,H1,I1,r1,q1⟩=>?_) (he _)
 obtain ⟨d,rfl,q⟩:=q1
 cases r1
 exact wpAny_truthy_bool ⟨H1,I1,q⟩
variable {tA Gg:TT} {rest:List Expr}
def Dy (t u:TT):TT:=fun σ H Q=>t σ H fun c H1=>if c=true then u σ H1 Q else Q false H1
def Ln (t u:TT):TT:=fun σ H Q=>t σ H fun c H1=>if c=true then Q true H1 else u σ H1 Q
def Dz (t:TT):TT:=fun σ H Q=>t σ H fun c H1=>Q (!c) H1
theorem pw_and1 (ha:PT X a tA):PW X (.BoolOp .And [a] pos) tA:=by
 intro wh pins s σ H Q I h
 refine isTrue_and (dZ (ha pins s σ H Q I h) fun c s1 e=>?_)
 cases c with
 | true=>exact isTrue_and_nil e
 | false=>exact e
theorem pw_or1 (ha:PT X a tA):PW X (.BoolOp .Or [a] pos) tA:=by
 intro wh pins s σ H Q I h
 refine isTrue_or (dZ (ha pins s σ H Q I h) fun c s1 e=>?_)
 cases c with
 | false=>exact isTrue_or_nil e
 | true=>exact e
theorem pw_and (ha:PT X a tA) (hb:PW X (.BoolOp .And (b::rest) pos) Gg):PW X (.BoolOp .And (a::b::rest) pos) (Dy tA Gg):=by
 intro wh pins s σ H Q I h
 refine isTrue_and (dZ (ha pins s σ H _ I h) fun c s1 ⟨H1,I1,q1⟩=>?_)
 cases c with
 | true=>exact hb wh pins s1 σ H1 Q I1 q1
 | false=>exact ⟨H1,I1,q1⟩
theorem pw_or (ha:PT X a tA) (hb:PW X (.BoolOp .Or (b::rest) pos) Gg):PW X (.BoolOp .Or (a::b::rest) pos) (Ln tA Gg):=by
 intro wh pins s σ H Q I h
 refine isTrue_or (dZ (ha pins s σ H _ I h) fun c s1 ⟨H1,I1,q1⟩=>?_)
 cases c with
 | true=>exact ⟨H1,I1,q1⟩
 | false=>exact hb wh pins s1 σ H1 Q I1 q1
theorem IA (ha:PT X a tA):PT X (.UnaryOp .Not a pos) (Dz tA):=by
 intro pins s σ H Q I h
 exact isTrue_not (ha pins s σ H (fun c H1=>Q (!c) H1) I h)
def yp (ta tb:TE):TE:=fun σ H Q=>ta σ H fun x H1=>∃ c,x=.bl c/\if c=true then tb σ H1 Q else Q (.bl false) H1
def DA (ta tb:TE):TE:=fun σ H Q=>ta σ H fun x H1=>∃ c,x=.bl c/\if c=true then Q (.bl true) H1 else tb σ H1 Q
def yq (ta:TE):TE:=fun σ H Q=>ta σ H fun x H1=>∃ c,x=.bl c/\Q (.bl (!c)) H1
theorem IB {op} {t:TE} (h:PE X a t):PE X (.BoolOp op [a] pos) t:=fun pins s σ H Q I hw=>BoolOp_one (h pins s σ H Q I hw)
theorem IC (ha:PE X a ta) (hb:PE X (.BoolOp .And (b::rest) pos) tb):PE X (.BoolOp .And (a::b::rest) pos) (yp ta tb):=by
 intro pins s σ H Q I h
 refine BoolOp_and (dZ (ha pins s σ H _ I h) fun v s1 ⟨x,H1,I1,r1,q1⟩=>?_)
 obtain ⟨c,rfl,q1⟩:=q1
 cases r1
 refine wpAny_truthy_bool ?_
 cases c with
 | true=>exact hb pins s1 σ H1 Q I1 q1
 | false=>exact ⟨.bl false,H1,I1,rfl,q1⟩
theorem Lo (ha:PE X a ta) (hb:PE X (.BoolOp .Or (b::rest) pos) tb):PE X (.BoolOp .Or (a::b::rest) pos) (DA ta tb):=by
 intro pins s σ H Q I h
 refine BoolOp_or (dZ (ha pins s σ H _ I h) fun v s1 ⟨x,H1,I1,r1,q1⟩=>?_)
 obtain ⟨c,rfl,q1⟩:=q1
 cases r1
 refine wpAny_truthy_bool ?_
 cases c with
 | false=>exact hb pins s1 σ H1 Q I1 q1
 | true=>exact ⟨.bl true,H1,I1,rfl,q1⟩
theorem ID (ha:PE X a ta):PE X (.UnaryOp .Not a pos) (yq ta):=by
 intro pins s σ H Q I h
 refine UnaryOp_ (dZ (ha pins s σ H _ I h) fun v s1 ⟨x,H1,I1,r1,q1⟩=>?_)
 obtain ⟨c,rfl,q1⟩:=q1
 cases r1
 exact not_of (wpAny_truthy_bool ⟨.bl (!c),H1,I1,rfl,q1⟩)
def Lp (t:TT) (ta tb:TE):TE:=fun σ H Q=>t σ H fun c H1=>if c=true then ta σ H1 Q else tb σ H1 Q
theorem DB {c:Expr} (hc:PT X c tA) (ha:PE X a ta) (hb:PE X b tb):PE X (.IfExp c a b pos) (Lp tA ta tb):=by
 intro pins s σ H Q I h
 refine wpAny_IfExp (dZ (hc pins s σ H _ I h) fun d s1 ⟨H1,I1,q1⟩=>?_)
 cases d with
 | true=>exact ha pins s1 σ H1 Q I1 q1
 | false=>exact hb pins s1 σ H1 Q I1 q1
end
end L2
namespace L2
open PySem PySem.Spec PyProof.Rows
def bC (K:PySem.W.Frag) (H:Hp) (a:Addr) (xs:List V):Prop:=
 Rd H a (.lst xs)∨
   ∃ (o:Obj) (its:Array Value) (n:Nat),K.lookup a=some o/\o.cls=.type "list"/\o.dict=none/\o.data=.seq its n/\its.size<=sizeLine/\Vals xs its.toList
def mw (K:PySem.W.Frag) (H:Hp) (a:Addr) (xs:List V):Prop:=
 Rd H a (.tup xs)∨
   ∃ (o:Obj) (its:Array Value) (n:Nat),K.lookup a=some o/\o.cls=.type "tuple"/\o.data=.seq its n/\its.size<=sizeLine/\Vals xs its.toList
def yr:Value->Option V
 | .none=>some .cY
 | .bool b=>some (.bl b)
 | .int i _=>some (.int i)
 | .str x _=>some (.str x)
 | .bytes b _=>some (.Cc b)
 | .float b _=>some (.KR b)
 | .ref a=>some (.ref a)
 | .type n=>some (.ty n)
 | _=>none
theorem RelV.abs {x:V} {u:Value} (r:RelV x u):yr u=some x:=by
 cases x with
 | cY=>cases r;rfl
 | bl _=>cases r;rfl
 | int _=>obtain ⟨t,rfl⟩:=r;rfl
 | str _=>obtain ⟨t,rfl⟩:=r;rfl
 | Cc _=>obtain ⟨t,rfl⟩:=r;rfl
 | KR _=>obtain ⟨t,rfl⟩:=r;rfl
 | ref _=>cases r;rfl
 | ty _=>cases r;rfl
theorem RelV.inj {x y:V} {u:Value} (r:RelV x u) (q:RelV y u):x=y:=Option.some.inj (r.abs.symm.trans q.abs)
theorem Vals.inj:∀ {xs ys:List V} {us:List Value},Vals xs us->Vals ys us->xs=ys
 | _,_,_,.nil,.nil=>rfl
 | _,_,_,.cons r t,.cons r' t'=>by rw [r.inj r',Vals.inj t t']
section
variable {X:Cx} {pins:List (Addr×Obj)} {σ:St} {H:Hp} {s:Shared} {a:Addr} {xs ys:List V}
theorem bC.of {K:PySem.W.Frag} (h:H a=some (.lst xs)):bC K H a xs:=.inl (.inl h)
theorem Inv.list (I:Inv X pins σ H s) (h:bC X.K H a xs):∃ its:List Value,Vals xs its/\PlainL s.heap a its.toArray/\xs.length<=sizeLine:=by
 rcases h with h | ⟨o,its,n,hk,hc,hd,hs,hz,r⟩
 . obtain ⟨z,its,n,r,e⟩:=h.ok I.cX
   exact ⟨its,r,⟨_,n,e,rfl,rfl,rfl⟩,z⟩
 . refine ⟨its.toList,r,⟨o,n,I.qG a o hk,hc,hd,by simpa using hs⟩,?_⟩
   have e:=r.length
   simp only [Array.length_toList] at e
   omega
theorem Inv.tuple (I:Inv X pins σ H s) (h:mw X.K H a xs):∃ its:List Value,Vals xs its/\IsTup s.heap a its.toArray/\xs.length<=sizeLine:=by
 rcases h with h | ⟨o,its,n,hk,hc,hs,hz,r⟩
 . obtain ⟨z,its,r,p⟩:=h.ok I.cX
   exact ⟨its,r,p,z⟩
 . refine ⟨its.toList,r,⟨o,I.qG a o hk,hc,n,by simpa using hs⟩,?_⟩
   have e:=r.length
   simp only [Array.length_toList] at e
   omega
theorem Inv.sy (I:Inv X pins σ H s) (h:bC X.K H a xs) (h':bC X.K H a ys):xs=ys:=by
 obtain ⟨its,r,⟨o,n,e,_,_,d⟩,_⟩:=I.list h
 obtain ⟨its',r',⟨o',n',e',_,_,d'⟩,_⟩:=I.list h'
 rw [e] at e';cases e'
 rw [d] at d'
 injection d' with d1 _
 have:its=its':=by simpa using congrArg Array.toList d1
 subst this
 exact r.inj r'
theorem Inv.pW (I:Inv X pins σ H s) (h:mw X.K H a xs) (h':mw X.K H a ys):xs=ys:=by
 obtain ⟨its,r,⟨o,e,_,n,d⟩,_⟩:=I.tuple h
 obtain ⟨its',r',⟨o',e',_,n',d'⟩,_⟩:=I.tuple h'
 rw [e] at e';cases e'
 rw [d] at d'
 injection d' with d1 _
 have:its=its':=by simpa using congrArg Array.toList d1
 subst this
 exact r.inj r'
end
abbrev Cx.uh (X:Cx) (E:Value->Shared->Prop):Cx:={ X with xe:=E }
abbrev Cx.KY (X:Cx):Cx:=X.uh fun _ _=>False
theorem Cx.Ok.uh {X:Cx} (ok:X.Ok) (E:Value->Shared->Prop):(X.uh E).Ok:=
 ⟨ok.mod,ok.kind,ok.glob,ok.blt,ok.above,ok.inj,ok.has,ok.Gb,ok.hd,ok.frames,ok.HH,ok.KU,ok.bs,ok.Dm,ok.vL,ok.ym,ok.mj,ok.Dr⟩
theorem Cx.Ok.mz {X:Cx} {E:Value->Shared->Prop} (ok:(X.uh E).Ok):X.Ok:=
 ⟨ok.mod,ok.kind,ok.glob,ok.blt,ok.above,ok.inj,ok.has,ok.Gb,ok.hd,ok.frames,ok.HH,ok.KU,ok.bs,ok.Dm,ok.vL,ok.ym,ok.mj,ok.Dr⟩
section
variable {X:Cx} {pins:List (Addr×Obj)} {σ:St} {H:Hp} {s:Shared} {E:Value->Shared->Prop}
theorem Inv.uh (I:Inv X pins σ H s) (E:Value->Shared->Prop):Inv (X.uh E) pins σ H s:=⟨I.ok.uh E,I.os,I.bare,I.base,I.loc,I.cell,I.free,I.iN,I.pin,I.cX,I.len⟩
theorem Inv.mz (I:Inv (X.uh E) pins σ H s):Inv X pins σ H s:=⟨I.ok.mz,I.os,I.bare,I.base,I.loc,I.cell,I.free,I.iN,I.pin,I.cX,I.len⟩
theorem SP.mz {D:Ends} {f:Flow} {s':Shared} (h:SP (X.uh E) pins D f s'):SP X pins D f s':=by
 cases f with
 | next=>obtain ⟨σ',H',I,q⟩:=h;exact ⟨σ',H',I.mz,q⟩
 | brk=>obtain ⟨σ',H',I,q⟩:=h;exact ⟨σ',H',I.mz,q⟩
 | cont=>obtain ⟨σ',H',I,q⟩:=h;exact ⟨σ',H',I.mz,q⟩
 | ret u=>obtain ⟨v,σ',H',I,r,q⟩:=h;exact ⟨v,σ',H',I.mz,r,q⟩
theorem zS.KY {st:List Stmt} {t:TS} (h:zS X.KY st t):zS X st t:=fun pins s σ H D I hw=>
 wpAny_mono (h pins s σ H D (I.uh _) hw) (fun _ _ q=>q.mz) fun _ _ z=>False.elim z
end
section
variable {X:Cx} {st:Stmt} {rest:List Stmt} {t u:TS} {e:Expr} {te:TE} {pos:Pos}
def yt:TS:=fun D σ H=>D.nx σ H
def DC (t u:TS):TS:=fun D σ H=>t { D with nx:=u D } σ H
theorem Gh:zS X [] yt:=fun _ _ σ H _ I h=>wpAny_execs_nil ⟨σ,H,I,h⟩
theorem DE (h1:PS X st t) (h2:zS X rest u):zS X (st::rest) (DC t u):=by
 intro pins s σ H D I h
 refine wpAny_execs_cons (dZ (h1 pins s σ H { D with nx:=u D } I h) fun f s1 q=>?_)
 cases f with
 | next=>
   obtain ⟨σ',H',I',q⟩:=q
   exact h2 pins s1 σ' H' D I' q
 | ret v=>exact q
 | brk=>exact q
 | cont=>exact q
theorem Gi (h1:PS X st t):zS X [st] t:=by
 intro pins s σ H D I h
 refine wpAny_execs_cons (dZ (h1 pins s σ H D I h) fun f s1 q=>?_)
 cases f with
 | next=>exact wpAny_execs_nil q
 | ret v=>exact q
 | brk=>exact q
 | cont=>exact q
theorem Inv.quiet {pins:List (Addr×Obj)} {σ:St} {H:Hp} {s:Shared} (I:Inv X pins σ H s):interactive X.env=false:=by simp [interactive,I.ok.kind]
def yu (te:TE):TS:=fun D σ H=>te σ H fun _ H1=>D.nx σ H1
theorem Gj (he:PE X e te) (hs:swapsWith e none pos.line X.env=pure false:=by rfl):PS X (.Expr e pos) (yu te):=by
 intro pins s σ H D I h
 exact wpAny_Expr_any (dZ (he pins s σ H _ I h) fun v s1 ⟨x,H1,I1,r1,q1⟩=>⟨σ,H1,I1,q1⟩) I.quiet hs
def DF (te:TE):TS:=fun D σ H=>te σ H D.rt
theorem IE (he:PE X e te):PS X (.Return (some e) pos) (DF te):=by
 intro pins s σ H D I h
 exact wpAny_Return_some (dZ (he pins s σ H _ I h) fun v s1 ⟨x,H1,I1,r1,q1⟩=>⟨x,σ,H1,I1,r1,q1⟩)
def DG:TS:=fun D _ H=>D.rt .cY H
def DH (c:TT) (t u:TS):TS:=fun D σ H=>c σ H fun b H1=>if b=true then t D σ H1 else u D σ H1
theorem Lq {c:Expr} {a b:List Stmt} {tc:TT} (hc:PT X c tc) (ha:zS X a t) (hb:zS X b u):PS X (.If c a b pos) (DH tc t u):=by
 intro pins s σ H D I h
 refine wpAny_If (dZ (hc pins s σ H _ I h) fun d s1 ⟨H1,I1,q1⟩=>?_)
 cases d with
 | true=>exact ha pins s1 σ H1 D I1 q1
 | false=>exact hb pins s1 σ H1 D I1 q1
def zU:TS:=fun _ _ _=>False
end
abbrev TG:=V->St->Hp->(St->Hp->Prop)->Prop
abbrev zV:=List V->St->Hp->(St->Hp->Prop)->Prop
def PG (X:Cx) (target:Expr) (t:TG):Prop:=
 ∀ (pins:List (Addr×Obj)) (s:Shared) (σ:St) (H:Hp) (v:V) (u:Value) (Q:St->Hp->Prop),Inv X pins σ H s->RelV v u->t v σ H Q->
   wpAny (model X.prog X.w) X.A (assign target X.env u) (fun _ s'=>∃ σ' H',Inv X pins σ' H' s'/\Q σ' H') X.xe s
def Lr (X:Cx) (ts:List Expr) (t:zV):Prop:=
 ∀ (pins:List (Addr×Obj)) (s:Shared) (σ:St) (H:Hp) (vs:List V) (us:List Value) (Q:St->Hp->Prop),Inv X pins σ H s->Vals vs us->t vs σ H Q->
   wpAny (model X.prog X.w) X.A (assignInOrder ((assignEach ts X.env).map (·.2)) us) (fun _ s'=>∃ σ' H',Inv X pins σ' H' s'/\Q σ' H') X.xe s
abbrev Gk:=V->V->V->Hp->(Hp->Prop)->Prop
def IF (X:Cx) (t:Gk):Prop:=
 ∀ (pins:List (Addr×Obj)) (s:Shared) (σ:St) (H:Hp) (o i v:V) (ov iv u:Value) (Q:Hp->Prop),Inv X pins σ H s->RelV o ov->RelV i iv->RelV v u->t o i v H Q->
   wpAny (model X.prog X.w) X.A (setItem ov iv u) (fun _ s'=>∃ H',Inv X pins σ H' s'/\Q H') X.xe s
section
variable {X:Cx} {pos:Pos}
def dw (i:Nat):TG:=fun v σ H Q=>Q (σ.set i (some v)) H
theorem Bd {i:Nat} {x:Str} (hN:X.N.Nodup) (hi:X.N[i]?=some x) (hx:Loc X.env.scope x) (hf:X.fn x=true∨X.env.scope.names.lookup x=some .local:=by first | exact .inl rfl | exact .inr rfl | assumption):PG X (.Name x pos) (dw i):=by
 intro pins s σ H v u Q I r h
 exact wpAny_assign_Name (yo I hN hi hx r (fun s' I'=>⟨_,H,I',h⟩) hf)
def vN:zV:=fun vs σ H Q=>vs=[]/\Q σ H
def kQ (t:TG) (u:zV):zV:=fun vs σ H Q=>∃ v r,vs=v::r/\t v σ H fun σ' H'=>u r σ' H' Q
theorem Gm:Lr X [] vN:=by
 intro pins s σ H vs us Q I r h
 obtain ⟨e,h⟩:=h
 subst e
 cases r
 exact assignInOrder_nil ⟨σ,H,I,h⟩
theorem DI {e:Expr} {es:List Expr} {t:TG} {u:zV} (h1:PG X e t) (h2:Lr X es u)
   (hs:(assignEach (e::es) X.env).map (·.2)=assign e X.env::(assignEach es X.env).map (·.2):=by rfl):Lr X (e::es) (kQ t u):=by
 intro pins s σ H vs us Q I r h
 obtain ⟨v,vr,e1,h⟩:=h
 subst e1
 cases r with
 | cons r rr=>
   rw [hs]
   refine assignInOrder_cons (dZ (h1 pins s σ H _ _ _ I r h) fun _ s1 ⟨σ1,H1,I1,q1⟩=>?_)
   exact h2 pins s1 σ1 H1 _ _ Q I1 rr q1
def Qw (K:PySem.W.Frag) (n:Nat) (t:zV):TG:=fun v σ H Q=>∃ a xs,v=.ref a/\mw K H a xs/\xs.length=n/\t xs σ H Q
theorem IG {es:List Expr} {k:Nat} {t:zV} {n:Nat} (hc:X.calm=true) (h:Lr X es t)
   (hn:(assignEach es X.env).length=n:=by rfl) (um:(assignEach es X.env).findIdx? (·.1)=none:=by rfl):PG X (.Tuple es k pos) (Qw X.K n t):=by
 intro pins s σ H v u Q I r hw
 obtain ⟨a,xs,e1,hq,hl,hw⟩:=hw
 subst e1
 cases r
 obtain ⟨its,rv,ht,hz⟩:=I.tuple hq
 refine assign_Tuple_tuple (I.ok.hd hc) ht (by simp [hn,<- hl,rv.length]) um fun h' hx=>?_
 have I1:Inv X pins σ H { s with heap:=h' }:=I.kept (t':=s.toks) fun b o e=>hx b o (Nat.ne_of_lt (Heap.lt_size e)) e
 exact h pins _ σ H xs _ Q I1 (by simpa using rv) hw
def DJ (to ti:TE) (t:Gk):TG:=fun v σ H Q=>to σ H fun o H1=>ti σ H1 fun i H2=>t o i v H2 fun H3=>Q σ H3
theorem II {o i:Expr} {to ti:TE} {t:Gk} (ho:PE X o to) (hi:PE X i ti) (hs:IF X t)
   (ha:∀ v,assign (.Subscript o i pos) X.env v=(do
     let ov <- holding [v] (eval o X.env)
     let iv <- holding [v,ov] (eval i X.env)
     standAt pos
     holding [v,ov,iv] (setItem ov iv v)
     release [v,ov,iv] []):=by intro _;rfl):PG X (.Subscript o i pos) (DJ to ti t):=by
 intro pins s σ H v u Q I r h
 rw [ha]
 refine wpAny_bind (wpAny_holding (dZ (ho pins s σ H _ I h) fun ov s1 ⟨x,H1,I1,r1,q1⟩=>?_))
 refine wpAny_bind (wpAny_holding (dZ (hi pins s1 σ H1 _ I1 q1) fun iv s2 ⟨y,H2,I2,r2,q2⟩=>?_))
 refine wpAny_bind (wpAny_standAt (wpAny_bind (wpAny_holding (dZ (hs pins s2 σ H2 x y v ov iv u _ I2 r1 r2 r q2) fun _ s3 ⟨H3,I3,q3⟩=>?_))))
 exact wpAny_release ⟨σ,H3,I3,q3⟩
def yv (te:TE) (g:TG):TS:=fun D σ H=>te σ H fun x H1=>g x σ H1 D.nx
theorem IJ {tg e:Expr} {te:TE} {g:TG} (he:PE X e te) (hg:PG X tg g) (hs:swapsWithSole [tg] e pos.line X.env=pure false:=by rfl) (hw:swappedStores [tg] e X.env=pure none:=by rfl)
   (h1:(assignEach [tg] X.env).map (·.2)=[assign tg X.env]:=by rfl):PS X (.Assign [tg] e pos) (yv te g):=by
 intro pins s σ H D I h
 refine wpAny_Assign_stores (dZ (he pins s σ H _ I h) fun v s1 ⟨x,H1,I1,r1,q1⟩=>?_) hs hw
 rw [h1]
 exact dZ (hg pins s1 σ H1 x v _ I1 r1 q1) fun _ s2 q=>q
theorem IK {i:Nat} {x:Str} {e:Expr} {te:TE} {pos':Pos} (hN:X.N.Nodup) (hi:X.N[i]?=some x) (hx:Loc X.env.scope x) (he:PE X e te) (hs:swapsWith e (some (.Name x pos')) pos.line X.env=pure false:=by rfl) (hf:X.fn x=true∨X.env.scope.names.lookup x=some .local:=by first | exact .inl rfl | exact .inr rfl | assumption):
   PS X (.Assign [.Name x pos'] e pos) (yv te (dw i)):=by
 intro pins s σ H D I h
 refine wpAny_Assign_Name (dZ (he pins s σ H _ I h) fun v s1 ⟨y,H1,I1,r1,q1⟩=>?_) hs
 exact yo I1 hN hi hx r1 (fun s2 I2=>⟨_,H1,I2,q1⟩) hf
end
section
variable {X:Cx} {pos:Pos}
end
structure It where
 go:Nat->Hp->Prop
 HL:Nat->Hp->V->Hp->Prop
 stop:Nat->Hp->Prop
def oA (X:Cx) (pins:List (Addr×Obj)) (H:Hp) (b:Addr):Prop:=
 H b=none/\b≠X.env.locals/\b∉X.fs/\(b∈X.ex∨X.s₀.heap.objs.size<=b)/\(∀ x c,X.env.cells.lookup x=some c->c≠b)/\∀ p∈X.pn++pins,p.1≠b
theorem Inv.yw {X:Cx} {pins:List (Addr×Obj)} {σ:St} {H H':Hp} {s:Shared} {b:Addr} (I:Inv X pins σ H s) (hb:s.heap.objs.size<=b) (hn:H' b=none):oA X pins H' b:=by
 refine ⟨hn,Nat.ne_of_gt (Nat.lt_of_lt_of_le I.lt hb),I.Lk hb,.inr (Nat.le_trans I.sz hb),fun x c e z=>?_,fun p hp z=>?_⟩
 . obtain ⟨v,q⟩:=I.cell x c e
   exact absurd (Nat.lt_of_lt_of_le q.lt (by rw [z];exact hb)) (Nat.lt_irrefl _)
 . exact absurd (Nat.lt_of_lt_of_le (Heap.lt_size (I.pin p hp).1) (by rw [z];exact hb)) (Nat.lt_irrefl _)
structure Turn (P:Program) (w:World) (K:PySem.W.Frag) (tg:Expr) (J:It) (fp:List Addr) (it:Addr) (tn:Nat->Heap->Prop):Prop where
 mem:it∈fp
 obj:∀ i h,tn i h->∀ b∈fp,∃ o,h.get? b=some o/\∀ v,o.data≠.cell v
 keep:∀ i h h',tn i h->(∀ b∈fp,∀ o,h.get? b=some o->h'.get? b=some o)->tn i h'
 item:∀ (X:Cx),X.prog=P->X.w=w->X.K=K->X.calm=true->∀ (i:Nat) (pins:List (Addr×Obj)) (s:Shared) (σ:St) (H:Hp) (E:Value->Shared->Prop),Inv X pins σ H s->(∀ b∈fp,oA X pins H b)->tn i s.heap->J.go i H->
   wpAny (model P w) X.A (pyNext (.ref it)) (fun r s1=>∃ u,r=some u/\
     wpAny (model P w) X.A (letOwnedTupleGo tg (.ref it) u) (fun _ s2=>∃ x H',Inv X pins σ H' s2/\RelV x u/\J.HL i H x H'/\tn (i + 1) s2.heap/\∀ b∈fp,H' b=none) E s1) E s
 done:∀ (X:Cx),X.prog=P->X.w=w->X.K=K->X.calm=true->∀ (i:Nat) (pins:List (Addr×Obj)) (s:Shared) (σ:St) (H:Hp) (E:Value->Shared->Prop),Inv X pins σ H s->(∀ b∈fp,oA X pins H b)->tn i s.heap->J.stop i H->
   wpAny (model P w) X.A (pyNext (.ref it)) (fun r s1=>r=none/\Inv X pins σ H s1) E s
 self:∀ (A:Around) (i:Nat) (s:Shared) (Q:Value->Shared->Prop) (E:Value->Shared->Prop),tn i s.heap->Q (.ref it) s->wpAny (model P w) A (pyIter (.ref it)) Q E s
abbrev TI:=St->Hp->(It->Hp->Prop)->Prop
def Qx (X:Cx) (pins:List (Addr×Obj)) (σ:St) (tg:Expr) (R:It->Hp->Prop) (NW:Value) (s2:Shared):Prop:=
 ∃ (it:Addr) (fp:List Addr) (tn:Nat->Heap->Prop) (J:It) (H':Hp),NW=.ref it/\Inv X pins σ H' s2/\Turn X.prog X.w X.K tg J fp it tn/\tn 0 s2.heap/\(∀ b∈fp,oA X pins H' b)/\R J H'
def PI (X:Cx) (tg iter:Expr) (wi:TI):Prop:=
 ∀ (pins:List (Addr×Obj)) (s:Shared) (σ:St) (H:Hp) (R:It->Hp->Prop),Inv X pins σ H s->wi σ H R->
   wpAny (model X.prog X.w) X.A (eval iter X.env) (fun v s1=>wpAny (model X.prog X.w) X.A (pyIter v) (Qx X pins σ tg R) X.xe s1) X.xe s
theorem yx {M:Model} {A:Around} {E:Value->Shared->Prop} {s:Shared} {tg:Expr} {it:Addr} {u:Value} {o:Obj} {n:String} {vs:Array Value} {Q:Unit->Shared->Prop} (ho:s.heap.get? it=some o) (hc:o.cls=.type n) (hd:o.data=.fields vs)
   (hn:["enumerate","zip","dict_itemiterator","dict_reverseitemiterator","odict_iterator","itertools.zip_longest","itertools.pairwise"].contains n=false) (hQ:Q () s):wpAny M A (letOwnedTupleGo tg (.ref it) u) Q E s:=by
 unfold letOwnedTupleGo
 cases tg <;> first
   | exact wpAny_pure hQ
   | (cases u <;> first
       | exact wpAny_pure hQ
       | (refine wpAny_bind (wpAny_load ho ?_)
          rw [hc,hd]
          show wpAny M A (if (["enumerate","zip","dict_itemiterator","dict_reverseitemiterator","odict_iterator","itertools.zip_longest","itertools.pairwise"].contains n&&vs[0]?==some (rawInt _))=true then _ else _) Q E s
          rw [if_neg (by intro h;rw [hn,Bool.false_and] at h;cases h)]
          exact wpAny_pure hQ))
def zW (K:PySem.W.Frag) (a:Addr):It:=
 ⟨fun i H=>∃ xs x,bC K H a xs/\xs[i]?=some x,fun i H x H'=>H'=H/\∀ xs,bC K H a xs->xs[i]?=some x,fun i H=>∃ xs,bC K H a xs/\xs.length<=i⟩
def KZ (K:PySem.W.Frag) (a:Addr):It:=
 ⟨fun i H=>∃ xs x,mw K H a xs/\xs[i]?=some x,fun i H x H'=>H'=H/\∀ xs,mw K H a xs->xs[i]?=some x,fun i H=>∃ xs,mw K H a xs/\xs.length<=i⟩
def Be (lo:Int) (n:Nat):It:=⟨fun i _=>i < n,fun i H x H'=>H'=H/\x=.int (lo + i),fun i _=>n<=i⟩
theorem Cg {P:Program} {w:World} {K:PySem.W.Frag} {tg:Expr} (a it:Addr):Turn P w K tg (zW K a) [it] it (fun i h=>h.IsListIter it a i) where
 mem:=by simp
 obj:=fun i h st b hb=>by
   have e:b=it:=by simpa using hb
   subst e
   obtain ⟨o,e,c,d⟩:=st
   exact ⟨o,e,fun v z=>by rw [d] at z;cases z⟩
 keep:=fun i h h' st k=>st.at fun o e=>k it (by simp) o e
 item:=by
   intro X hP hw hK hc i pins s σ H E I hf st hg
   subst hP hw hK
   obtain ⟨xs,x,hq,hx⟩:=hg
   obtain ⟨its,rv,p,hz⟩:=I.list hq
   obtain ⟨u,hu,ru⟩:=rv.get hx
   obtain ⟨f0,f1,f2,f3,f4,f5⟩:=hf it (by simp)
   refine wpAny_pyNext_list_item st p.isList (x:=u) (by simpa using hu) fun h' st' sb=>?_
   have I1:Inv X pins σ H { s with heap:=h' }:=I.turned (t':=s.toks) (fun b o hb e=>(sb.2 b hb).trans e) f0 f1 f3 f4 f5
   obtain ⟨o,e,c,d⟩:=id st'
   exact ⟨u,rfl,yx (s:={ s with heap:=h' }) e c d (by decide) ⟨x,H,I1,ru,⟨rfl,fun ys hy=>by rw [I.sy hy hq];exact hx⟩,st',fun b hb=>(hf b hb).1⟩⟩
 done:=by
   intro X hP hw hK hc i pins s σ H E I hf st hg
   subst hP hw hK
   obtain ⟨xs,hq,hx⟩:=hg
   obtain ⟨its,rv,p,hz⟩:=I.list hq
   obtain ⟨f0,f1,f2,f3,f4,f5⟩:=hf it (by simp)
   have hl:=rv.length
   exact wpAny_pyNext_list_end (I.ok.hd hc) st p.isList (by simp;omega) fun h' eb=>⟨rfl,I.turned (t':=s.toks) (fun b o hb e=>eb b o hb e) f0 f1 f3 f4 f5⟩
 self:=fun _ _ _ _ _ st h=>wpAny_pyIter_listiter st h
theorem zX {P:Program} {w:World} {K:PySem.W.Frag} {tg:Expr} (a it:Addr):Turn P w K tg (KZ K a) [it] it (fun i h=>h.IsTupleIter it a i) where
 mem:=by simp
 obj:=fun i h st b hb=>by
   have e:b=it:=by simpa using hb
   subst e
   obtain ⟨o,e,c,d⟩:=st
   exact ⟨o,e,fun v z=>by rw [d] at z;cases z⟩
 keep:=fun i h h' st k=>st.at fun o e=>k it (by simp) o e
 item:=by
   intro X hP hw hK hc i pins s σ H E I hf st hg
   subst hP hw hK
   obtain ⟨xs,x,hq,hx⟩:=hg
   obtain ⟨its,rv,p,hz⟩:=I.tuple hq
   obtain ⟨u,hu,ru⟩:=rv.get hx
   obtain ⟨f0,f1,f2,f3,f4,f5⟩:=hf it (by simp)
   refine wpAny_pyNext_tuple_item st (show s.heap.IsTuple a its.toArray from p) (x:=u) (by simpa using hu) fun h' st' sb=>?_
   have I1:Inv X pins σ H { s with heap:=h' }:=I.turned (t':=s.toks) (fun b o hb e=>(sb.2 b hb).trans e) f0 f1 f3 f4 f5
   obtain ⟨o,e,c,d⟩:=id st'
   exact ⟨u,rfl,yx (s:={ s with heap:=h' }) e c d (by decide) ⟨x,H,I1,ru,⟨rfl,fun ys hy=>by rw [I.pW hy hq];exact hx⟩,st',fun b hb=>(hf b hb).1⟩⟩
 done:=by
   intro X hP hw hK hc i pins s σ H E I hf st hg
   subst hP hw hK
   obtain ⟨xs,hq,hx⟩:=hg
   obtain ⟨its,rv,p,hz⟩:=I.tuple hq
   obtain ⟨f0,f1,f2,f3,f4,f5⟩:=hf it (by simp)
   have hl:=rv.length
   exact wpAny_pyNext_tuple_end (I.ok.hd hc) st (show s.heap.IsTuple a its.toArray from p) (by simp;omega) fun h' eb=>⟨rfl,I.turned (t':=s.toks) (fun b o hb e=>eb b o hb e) f0 f1 f3 f4 f5⟩
 self:=fun _ _ _ _ _ st h=>wpAny_pyIter_tupleiter st h
theorem zY {P:Program} {w:World} {K:PySem.W.Frag} {tg:Expr} (it:Addr) (lo:Int) (n:Nat):Turn P w K tg (Be lo n) [it] it (fun i h=>IsRangeIter h it (lo + (i:Nat) * 1) ((n:Int) - (i:Nat)) 1) where
 mem:=by simp
 obj:=fun i h st b hb=>by
   have e:b=it:=by simpa using hb
   subst e
   exact ⟨_,st,fun v z=>by
     have z':Data.fields _=Data.cell v:=z
     cases z'⟩
 keep:=fun i h h' st k=>k it (by simp) _ st
 item:=by
   intro X hP hw hK hc i pins s σ H E I hf st hg
   subst hP hw hK
   obtain ⟨f0,f1,f2,f3,f4,f5⟩:=hf it (by simp)
   have W:=Walks.range (prog:=X.prog) (w:=X.w) (I.ok.hd hc) it lo 1 n
   refine W.item i s _ _ hg st fun v h' tk hv st' kk=>?_
   obtain ⟨t,rfl⟩:=hv
   have I1:Inv X pins σ H { s with heap:=h',toks:=tk }:=I.turned (fun b o hb e=>kk b o (by simpa using hb) e) f0 f1 f3 f4 f5
   refine ⟨_,rfl,yx (s:={ s with heap:=h',toks:=tk }) (n:="range_iterator") st' rfl rfl (by decide) ⟨.int (lo + i),H,I1,⟨t,?_⟩,⟨rfl,rfl⟩,st',fun b hb=>(hf b hb).1⟩⟩
   rw [Int.mul_one]
 done:=by
   intro X hP hw hK hc i pins s σ H E I hf st hg
   subst hP hw hK
   obtain ⟨f0,f1,f2,f3,f4,f5⟩:=hf it (by simp)
   exact wpAny_pyNext_range_end (I.ok.hd hc) st (by have:n<=i:=hg;omega) fun h' eb=>⟨rfl,I.turned (t':=s.toks) (fun b o hb e=>eb b o hb e) f0 f1 f3 f4 f5⟩
 self:=fun _ _ _ _ _ st h=>wpAny_pyIter_rangeiter st h
end L2
namespace L2
open PySem PySem.Spec PyProof.Rows
section
variable {X:Cx} {tg:Expr}
def Bf (K:PySem.W.Frag) (tl:TE):TI:=fun σ H R=>tl σ H fun x H1=>∃ a,x=.ref a/\(∃ xs,bC K H1 a xs)/\R (zW K a) H1
def Gn (K:PySem.W.Frag) (tl:TE):TI:=fun σ H R=>tl σ H fun x H1=>∃ a,x=.ref a/\(∃ xs,mw K H1 a xs)/\R (KZ K a) H1
theorem Gp {l:Expr} {tl:TE} (hl:PE X l tl):PI X tg l (Bf X.K tl):=by
 intro pins s σ H R I h
 refine dZ (hl pins s σ H _ I h) fun v s1 ⟨x,H1,I1,r1,q1⟩=>?_
 obtain ⟨a,e,⟨xs,hq⟩,q⟩:=q1
 subst e
 cases r1
 obtain ⟨its,rv,p,hz⟩:=I1.list hq
 refine wpAny_pyIter_list p.isList ?_
 refine ⟨s1.heap.objs.size,[s1.heap.objs.size],_,_,H1,rfl,I1.kept (t':=s1.toks) fun b o e=>Heap.get?_push_of_some _ e,Cg a _,⟨_,Heap.get?_push_size _ rfl,rfl,rfl⟩,fun b hb=>?_,q⟩
 have e:b=s1.heap.objs.size:=by simpa using hb
 subst e
 exact I1.yw (Nat.le_refl _) (I1.cX.fresh (Nat.le_refl _))
theorem IL {l:Expr} {tl:TE} (hl:PE X l tl):PI X tg l (Gn X.K tl):=by
 intro pins s σ H R I h
 refine dZ (hl pins s σ H _ I h) fun v s1 ⟨x,H1,I1,r1,q1⟩=>?_
 obtain ⟨a,e,⟨xs,hq⟩,q⟩:=q1
 subst e
 cases r1
 obtain ⟨its,rv,p,hz⟩:=I1.tuple hq
 refine wpAny_pyIter_tuple (show s1.heap.IsTuple a its.toArray from p) ?_
 refine ⟨s1.heap.objs.size,[s1.heap.objs.size],_,_,H1,rfl,I1.kept (t':=s1.toks) fun b o e=>Heap.get?_push_of_some _ e,zX a _,⟨_,Heap.get?_push_size _ rfl,rfl,rfl⟩,fun b hb=>?_,q⟩
 have e:b=s1.heap.objs.size:=by simpa using hb
 subst e
 exact I1.yw (Nat.le_refl _) (I1.cX.fresh (Nat.le_refl _))
theorem DK {pins:List (Addr×Obj)} {σ:St} {H:Hp} {s:Shared} {R:It->Hp->Prop} {E:Value->Shared->Prop} {lo hi:Int} {t u v:Tok} {tk:Nat} (I:Inv X pins σ H s) (h1:-(2 ^ 62)<=lo) (h2:lo < 2 ^ 62) (h3:-(2 ^ 62)<=hi) (h4:hi < 2 ^ 62)
   (q:R (Be lo (hi - lo).toNat) H):wpAny (model X.prog X.w) X.A (pyIter (.ref s.heap.objs.size)) (Qx X pins σ tg R) E { s with heap:=s.heap.push { cls:=.type "range",data:=.fields #[.int lo t,.int hi u,.int 1 v] },toks:=tk }:=by
 refine wpAny_pyIter_range (IsRange.new ..) (small_one h1 h2 h3 h4) ?_
 have I1:Inv X pins σ H { s with heap:=s.heap.push { cls:=.type "range",data:=.fields #[.int lo t,.int hi u,.int 1 v] },toks:=tk }:=I.kept fun b o e=>Heap.get?_push_of_some _ e
 refine ⟨(s.heap.push { cls:=.type "range",data:=.fields #[.int lo t,.int hi u,.int 1 v] }).objs.size,[(s.heap.push { cls:=.type "range",data:=.fields #[.int lo t,.int hi u,.int 1 v] }).objs.size],_,_,H,rfl,
   I1.kept (t':=tk) fun b o e=>Heap.get?_push_of_some _ e,zY _ lo (hi - lo).toNat,?_,fun b hb=>?_,q⟩
 . have e1:lo + ((0:Nat):Int) * 1=lo:=by simp
   have e2:(((hi - lo).toNat:Nat):Int) - ((0:Nat):Int)=Builtin.Range.rangeSize lo hi 1:=by rw [rangeSize_one];split <;> omega
   show IsRangeIter _ _ (lo + ((0:Nat):Int) * 1) ((((hi - lo).toNat:Nat):Int) - ((0:Nat):Int)) 1
   rw [e1,e2]
   exact Heap.get?_push_size _ rfl
 . have e:b=(s.heap.push { cls:=.type "range",data:=.fields #[.int lo t,.int hi u,.int 1 v] }).objs.size:=by simpa using hb
   subst e
   exact I1.yw (Nat.le_refl _) (I1.cX.fresh (Nat.le_refl _))
def Bg (ta:TA):TI:=fun σ H R=>ta σ H fun vs H1=>∃ j:Int,vs=[.int j]/\-(2 ^ 62)<=j/\j < 2 ^ 62/\R (Be 0 j.toNat) H1
def HM (ta:TA):TI:=fun σ H R=>ta σ H fun vs H1=>∃ i j:Int,vs=[.int i,.int j]/\(-(2 ^ 62)<=i/\i < 2 ^ 62/\-(2 ^ 62)<=j/\j < 2 ^ 62)/\R (Be i (j - i).toNat) H1
theorem Ci {a:Expr} {ta:TA} {p pos:Pos} (hg:Gl X "range") (hm:X.mg "range"=none) (ha:PA X [a] ta) (hs:starEach [a] X.env=[(false,eval a X.env)]:=by rfl):PI X tg (.Call (.Name "range" p) [a] [] pos) (Bg ta):=by
 intro pins s σ H R I h
 refine Call_ (pV I hg hm boot_range (PyProof.Rows.callWith_type1 (dZ (ha pos pins s σ H _ I h) fun us s1 ⟨vs,H1,I1,r1,q1⟩=>?_) hs rfl))
 obtain ⟨j,e,q1,q2,q⟩:=q1
 subst e
 cases r1 with
 | cons r rr=>
   cases rr
   obtain ⟨t,rfl⟩:=r
   exact call_range_1 (DK I1 (by omega) (by omega) q1 q2 (by simpa using q))
def uo (wi:TI) (g:TG) (tb:TS):TS:=fun D σ H=>wi σ H fun J H1=>∃ W:Nat->Nat->St->Hp->Prop,(∃ m,W 0 m σ H1)/\∀ i m σ H,W i m σ H->
 (J.stop i H/\D.nx σ H)∨(J.go i H/\∃ N:St->Hp->Prop,(∀ σ' H',N σ' H'->∃ m',m' < m/\W (i + 1) m' σ' H')/\∀ x H',J.HL i H x H'->g x σ H' fun σ2 H2=>tb { D with nx:=N,ct:=N,bk:=D.nx } σ2 H2)
def sA (fp:List Addr) (h:Heap):List (Addr×Obj):=fp.filterMap fun b=>(h.get? b).map fun o=>(b,o)
theorem lD {fp:List Addr} {h:Heap} {b:Addr} {o:Obj} (hb:b∈fp) (e:h.get? b=some o):(b,o)∈sA fp h:=List.mem_filterMap.mpr ⟨b,hb,by rw [e];rfl⟩
theorem Cj {fp:List Addr} {h:Heap} {p:Addr×Obj} (hp:p∈sA fp h):p.1∈fp/\h.get? p.1=some p.2:=by
 obtain ⟨b,hb,e⟩:=List.mem_filterMap.mp hp
 cases q:h.get? b with
 | none=>rw [q] at e;cases e
 | some o=>
   rw [q] at e
   have e':(b,o)=p:=Option.some.inj e
   subst e'
   exact ⟨hb,q⟩
theorem Inv.pinned {pins:List (Addr×Obj)} {σ:St} {H:Hp} {s:Shared} {fp:List Addr} (I:Inv X pins σ H s) (hf:∀ b∈fp,oA X pins H b) (ho:∀ b∈fp,∃ o,s.heap.get? b=some o/\∀ v,o.data≠.cell v):Inv X (pins++sA fp s.heap) σ H s:=
 I.vM fun p hp=>(List.mem_append.mp hp).elim (fun z=>I.pin p (List.mem_append_right _ z)) fun z=>by
   obtain ⟨hb,e⟩:=Cj z
   obtain ⟨f0,f1,f2,_⟩:=hf p.1 hb
   obtain ⟨o,e',d⟩:=ho p.1 hb
   rw [e] at e';cases e'
   exact ⟨e,f0,f1,f2,d⟩
theorem Inv.mC {pins pl:List (Addr×Obj)} {σ:St} {H:Hp} {s:Shared} (I:Inv X (pins++pl) σ H s):Inv X pins σ H s:=I.vM fun p hp=>I.pin p (List.mem_append_right _ (List.mem_append_left _ hp))
theorem IM {iter:Expr} {body:List Stmt} {wi:TI} {g:TG} {tb:TS} {pos:Pos} (hp:PassesOwn (model X.prog X.w) X.A X.env X.xe) (hc:X.calm=true) (hi:PI X tg iter wi) (hg:PG X tg g) (hb:zS X body tb)
   (hs:∀ x,foldedSetIterable iter X.env x=pure x:=by intro _;rfl):PS X (.For tg iter body [] pos) (uo wi g tb):=by
 intro pins s σ H D I h
 refine wpAny_For (dZ (hi pins s σ H _ I h) fun v s1 h1=>dZ h1 fun NW s2 h2=>?_) hs
 obtain ⟨it,fp,tn,J,H2,e,I2,T,st2,f2,W,⟨m0,w0⟩,turn⟩:=h2
 subst e
 have zZ:∀ {H':Hp},(∀ b∈fp,H' b=none)->∀ b∈fp,oA X pins H' b:=fun hn b hb=>⟨hn b hb,(f2 b hb).2⟩
 refine codeAny_forLoop_any (fun n s'=>∃ i σ' H',Inv X pins σ' H' s'/\tn i s'.heap/\(∀ b∈fp,H' b=none)/\W i n σ' H') ?_ m0 ⟨0,σ,H2,I2,st2,fun b hb=>(f2 b hb).1,w0⟩
 rintro n s3 ⟨i,σ3,H3,I3,st3,fr3,w3⟩
 rcases turn i n σ3 H3 w3 with ⟨stop,qn⟩ | ⟨go,N,hN,step⟩
 . refine wpAny_passesOwn hp (dZ (T.done X rfl rfl rfl hc i pins s3 σ3 H3 X.xe I3 (zZ fr3) st3 stop) fun r s4 ⟨hr,I4⟩=>?_)
   subst hr
   exact wpAny_execs_nil ⟨σ3,H3,I4,qn⟩
 . refine wpAny_passesOwn hp (dZ (T.item X rfl rfl rfl hc i pins s3 σ3 H3 X.xe I3 (zZ fr3) st3 go) fun r s4 ⟨u,hr,h4⟩=>?_)
   subst hr
   refine wpAny_passesOwn hp (dZ h4 fun _ s5 ⟨x,H5,I5,r5,y5,st5,fr5⟩=>?_)
   have Qy:=I5.pinned (zZ fr5) (T.obj _ _ st5)
   refine wpAny_passesOwn hp (dZ (hg _ s5 σ3 H5 x u _ Qy r5 (step x H5 y5)) fun _ s6 ⟨σ6,H6,I6,q6⟩=>?_)
   refine wpAny_passesOwn hp (dZ (hb _ s6 σ6 H6 _ I6 q6) fun f s7 q7=>?_)
   have again:∀ {σ7:St} {H7:Hp},Inv X (pins++sA fp s5.heap) σ7 H7 s7->N σ7 H7->∃ m,m < n/\∃ i σ' H',Inv X pins σ' H' s7/\tn i s7.heap/\(∀ b∈fp,H' b=none)/\W i m σ' H':=fun {σ7 H7} I7 n7=>by
     obtain ⟨m',hm,w7⟩:=hN σ7 H7 n7
     refine ⟨m',hm,i + 1,σ7,H7,I7.mC,T.keep _ _ _ st5 fun b hb o e=>(I7.pin (b,o) (List.mem_append_right _ (List.mem_append_right _ (lD hb e)))).1,fun b hb=>?_,w7⟩
     obtain ⟨o,e,d⟩:=T.obj _ _ st5 b hb
     exact (I7.pin (b,o) (List.mem_append_right _ (List.mem_append_right _ (lD hb e)))).2.1
   cases f with
   | next=>obtain ⟨σ7,H7,I7,n7⟩:=q7;exact again I7 n7
   | cont=>obtain ⟨σ7,H7,I7,n7⟩:=q7;exact again I7 n7
   | brk=>obtain ⟨σ7,H7,I7,q7⟩:=q7;exact ⟨σ7,H7,I7.mC,q7⟩
   | ret v=>obtain ⟨x7,σ7,H7,I7,r7,q7⟩:=q7;exact ⟨x7,σ7,H7,I7.mC,r7,q7⟩
end
theorem DL {K:PySem.W.Frag} {a:Addr} {xs:List V} {g:TG} {tb:TS} {D:Ends} {σ:St} {H:Hp} (Pv:Nat->St->Hp->Prop) (h0:Pv 0 σ H) (hl:∀ i σ H,i<=xs.length->Pv i σ H->bC K H a xs)
   (hs:∀ i x σ H,xs[i]?=some x->Pv i σ H->g x σ H fun σ2 H2=>tb { D with nx:=Pv (i + 1),ct:=Pv (i + 1),bk:=D.nx } σ2 H2) (hd:∀ σ H,Pv xs.length σ H->D.nx σ H):
   ∃ W:Nat->Nat->St->Hp->Prop,(∃ m,W 0 m σ H)/\∀ i m σ H,W i m σ H->
     ((zW K a).stop i H/\D.nx σ H)∨((zW K a).go i H/\∃ N:St->Hp->Prop,(∀ σ' H',N σ' H'->∃ m',m' < m/\W (i + 1) m' σ' H')/\∀ x H',(zW K a).HL i H x H'->g x σ H' fun σ2 H2=>tb { D with nx:=N,ct:=N,bk:=D.nx } σ2 H2):=by
 refine ⟨fun i m σ H=>m=xs.length - i/\i<=xs.length/\Pv i σ H,⟨xs.length,by simp,Nat.zero_le _,h0⟩,?_⟩
 rintro i m σ H ⟨rfl,hi,p⟩
 have q:=hl i σ H hi p
 by_cases ug:i < xs.length
 . refine .inr ⟨⟨xs,xs[i],q,by simp [ug]⟩,Pv (i + 1),fun σ' H' p'=>⟨xs.length - (i + 1),by omega,rfl,ug,p'⟩,fun x H' y=>?_⟩
   obtain ⟨e,y⟩:=y
   subst e
   exact hs i x σ _ (y xs q) p
 . have e:i=xs.length:=by omega
   subst e
   exact .inl ⟨⟨xs,q,Nat.le_refl _⟩,hd σ H p⟩
theorem Ck {lo:Int} {n:Nat} {g:TG} {tb:TS} {D:Ends} {σ:St} {H:Hp} (Pv:Nat->St->Hp->Prop) (h0:Pv 0 σ H)
   (hs:∀ i σ H,i < n->Pv i σ H->g (.int (lo + i)) σ H fun σ2 H2=>tb { D with nx:=Pv (i + 1),ct:=Pv (i + 1),bk:=D.nx } σ2 H2) (hd:∀ σ H,Pv n σ H->D.nx σ H):
   ∃ W:Nat->Nat->St->Hp->Prop,(∃ m,W 0 m σ H)/\∀ i m σ H,W i m σ H->
     ((Be lo n).stop i H/\D.nx σ H)∨((Be lo n).go i H/\∃ N:St->Hp->Prop,(∀ σ' H',N σ' H'->∃ m',m' < m/\W (i + 1) m' σ' H')/\∀ x H',(Be lo n).HL i H x H'->g x σ H' fun σ2 H2=>tb { D with nx:=N,ct:=N,bk:=D.nx } σ2 H2):=by
 refine ⟨fun i m σ H=>m=n - i/\i<=n/\Pv i σ H,⟨n,by simp,Nat.zero_le _,h0⟩,?_⟩
 rintro i m σ H ⟨rfl,hi,p⟩
 by_cases ug:i < n
 . refine .inr ⟨ug,Pv (i + 1),fun σ' H' p'=>⟨n - (i + 1),by omega,rfl,ug,p'⟩,fun x H' y=>?_⟩
   obtain ⟨e,y⟩:=y
   subst e y
   exact hs i σ _ ug p
 . have e:i=n:=by omega
   subst e
   exact .inl ⟨Nat.le_refl _,hd σ H p⟩
end L2
namespace L2
open PySem PySem.Spec PyProof.Rows
abbrev R2:=V->V->Hp->VK->Prop
def kU (X:Cx) (f:Value->Value->Sem Value) (r:R2):Prop:=
 ∀ (pins:List (Addr×Obj)) (s:Shared) (σ:St) (H:Hp) (x y:V) (v u:Value) (Q:VK),Inv X pins σ H s->RelV x v->RelV y u->r x y H Q->
   wpAny (model X.prog X.w) X.A (f v u) (EP X pins σ Q) X.xe s
def NY (X:Cx) (f:Value->Sem Value) (r:V->Hp->VK->Prop):Prop:=
 ∀ (pins:List (Addr×Obj)) (s:Shared) (σ:St) (H:Hp) (x:V) (v:Value) (Q:VK),Inv X pins σ H s->RelV x v->r x H Q->
   wpAny (model X.prog X.w) X.A (f v) (EP X pins σ Q) X.xe s
def gE (X:Cx) (f:Value) (r:List V->Hp->VK->Prop):Prop:=
 ∀ (pins:List (Addr×Obj)) (s:Shared) (σ:St) (H:Hp) (xs:List V) (us:List Value) (Q:VK),Inv X pins σ H s->Vals xs us->r xs H Q->
   wpAny (model X.prog X.w) X.A (call f us) (EP X pins σ Q) X.xe s
def Qz (X:Cx) (r:V->Hp->(Bool->Hp->Prop)->Prop):Prop:=
 ∀ (pins:List (Addr×Obj)) (s:Shared) (σ:St) (H:Hp) (x:V) (v:Value) (Q:Bool->Hp->Prop),Inv X pins σ H s->RelV x v->r x H Q->
   wpAny (model X.prog X.w) X.A (truthy v) (TP X pins σ Q) X.xe s
def DM (r:R2) (ta tb:TE):TE:=fun σ H Q=>ta σ H fun x H1=>tb σ H1 fun y H2=>r x y H2 Q
def Ls (r:V->Hp->VK->Prop) (ta:TE):TE:=fun σ H Q=>ta σ H fun x H1=>r x H1 Q
def rI (C:Int->Int->Prop) (g:Int->Int->V):R2:=fun x y H Q=>∃ i j,x=.int i/\y=.int j/\C i j/\Q (g i j) H
def DN (g:Int->Int->V):R2:=fun x y H Q=>∃ i j,x=.int i/\y=.int j/\Q (g i j) H
def rU (g:Int->V):V->Hp->VK->Prop:=fun x H Q=>∃ i,x=.int i/\Q (g i) H
section
variable {X:Cx} {a b c:Expr} {ta tb tc:TE} {pos:Pos}
theorem IP (ha:PE X a ta) (hb:PE X b tb) {pins:List (Addr×Obj)} {s:Shared} {σ:St} {H:Hp} {R:V->V->Hp->Prop} (I:Inv X pins σ H s)
   (h:ta σ H fun x H1=>tb σ H1 fun y H2=>R x y H2) {Q:Value->Shared->Prop} {f:Value->Value->Sem Value}
   (hf:∀ v u s2 x y H2,Inv X pins σ H2 s2->RelV x v->RelV y u->R x y H2->wpAny (model X.prog X.w) X.A (f v u) Q X.xe s2):
   wpAny (model X.prog X.w) X.A (eval a X.env) (fun v s₁=>wpAny (model X.prog X.w) X.A (eval b X.env) (fun u s₂=>wpAny (model X.prog X.w) X.A (f v u) Q X.xe s₂) X.xe s₁) X.xe s:=by
 refine dZ (ha pins s σ H _ I h) fun v s1 ⟨x,H1,I1,r1,q1⟩=>?_
 refine dZ (hb pins s1 σ H1 _ I1 q1) fun u s2 ⟨y,H2,I2,r2,q2⟩=>?_
 exact hf v u s2 x y H2 I2 r1 r2 q2
theorem HN {op:Operator} {r:R2} (ho:kU X (binaryOp op) r) (ha:PE X a ta) (hb:PE X b tb):PE X (.BinOp a op b pos) (DM r ta tb):=by
 intro pins s σ H Q I h
 exact wpAny_BinOp (IP ha hb I h fun v u s2 x y H2 I2 rx ry q=>ho pins s2 σ H2 x y v u Q I2 rx ry q)
theorem Lu {op:UnaryOp} {r:V->Hp->VK->Prop} (ho:NY X (unaryOp op) r) (ha:PE X a ta):PE X (.UnaryOp op a pos) (Ls r ta):=by
 intro pins s σ H Q I h
 exact UnaryOp_ (dZ (ha pins s σ H _ I h) fun v s1 ⟨x,H1,I1,r1,q1⟩=>ho pins s1 σ H1 x v Q I1 r1 q1)
theorem NZ {f:Value->Value->Sem Value} {C:Int->Int->Prop} {g:Int->Int->Int}
   (rule:∀ (i j:Int) (t u:Tok) (s:Shared) (Q:Value->Shared->Prop) (E:Value->Shared->Prop),C i j->Q (.int (g i j) s.toks) { s with toks:=s.toks + 1 }->wpAny (model X.prog X.w) X.A (f (.int i t) (.int j u)) Q E s):
   kU X f (rI C fun i j=>.int (g i j)):=by
 intro pins s σ H x y v u Q I rx ry h
 obtain ⟨i,j,rfl,rfl,hc,q⟩:=h
 obtain ⟨t,rfl⟩:=rx
 obtain ⟨t',rfl⟩:=ry
 exact rule i j t t' s _ _ hc ⟨.int (g i j),H,I.tok _,⟨_,rfl⟩,q⟩
theorem Lv {f:Value->Value->Sem Value} {g:Int->Int->Int}
   (rule:∀ (i j:Int) (t u:Tok) (s:Shared) (Q:Value->Shared->Prop) (E:Value->Shared->Prop),Q (.int (g i j) s.toks) { s with toks:=s.toks + 1 }->wpAny (model X.prog X.w) X.A (f (.int i t) (.int j u)) Q E s):
   kU X f (DN fun i j=>.int (g i j)):=by
 intro pins s σ H x y v u Q I rx ry h
 obtain ⟨i,j,rfl,rfl,q⟩:=h
 obtain ⟨t,rfl⟩:=rx
 obtain ⟨t',rfl⟩:=ry
 exact rule i j t t' s _ _ ⟨.int (g i j),H,I.tok _,⟨_,rfl⟩,q⟩
theorem Gq {f:Value->Value->Sem Value} {g:Int->Int->Bool}
   (rule:∀ (i j:Int) (t u:Tok) (s:Shared) (Q:Value->Shared->Prop) (E:Value->Shared->Prop),Q (.bool (g i j)) s->wpAny (model X.prog X.w) X.A (f (.int i t) (.int j u)) Q E s):
   kU X f (DN fun i j=>.bl (g i j)):=by
 intro pins s σ H x y v u Q I rx ry h
 obtain ⟨i,j,rfl,rfl,q⟩:=h
 obtain ⟨t,rfl⟩:=rx
 obtain ⟨t',rfl⟩:=ry
 exact rule i j t t' s _ _ ⟨.bl (g i j),H,I,rfl,q⟩
def Gr (i j:Int):Prop:=0<=j/\j<=1000000/\i.natAbs < 2 ^ 64
def Cm (i j:Int):Prop:=(-(2 ^ 64) < i/\i < 2 ^ 64)∨(-(2 ^ 64) < j/\j < 2 ^ 64)
theorem Cm.ok {i j:Int} (h:Cm i j):IntMulOk i j:=by
 rcases h with ⟨h1,h2⟩ | ⟨h1,h2⟩
 . exact .of_left (intBits_le_64 h1 h2)
 . exact .of_right (intBits_le_64 h1 h2)
theorem cu:kU X (binaryOp .Add) (DN fun i j=>.int (i + j)):=Lv fun _ _ _ _ _ _ _ q=>add_int q
theorem jd:kU X (binaryOp .Sub) (DN fun i j=>.int (i - j)):=Lv fun _ _ _ _ _ _ _ q=>sub_int q
theorem sC:kU X (binaryOp .Mult) (rI Cm fun i j=>.int (i * j)):=NZ fun _ _ _ _ _ _ _ hc q=>mul_int q hc.ok
theorem pX:kU X (binaryOp .Mod) (rI (fun _ j=>0 < j) fun i j=>.int (i % j)):=NZ fun i j _ _ _ _ _ hc q=>by
 have h1:(0:Int) < j:=hc
 exact mod_int' (by omega) (by rw [Int.fmod_eq_emod_of_nonneg i (by omega)];exact q)
theorem IQ:kU X (binaryOp .Pow) (rI Gr fun i j=>.int (i ^ j.toNat)):=NZ fun _ _ _ _ _ _ _ hc q=>pow_int_small hc.1 hc.2.1 hc.2.2 q
theorem unI {f:Value->Sem Value} {g:Int->Int}
   (rule:∀ (i:Int) (t:Tok) (s:Shared) (Q:Value->Shared->Prop) (E:Value->Shared->Prop),Q (.int (g i) s.toks) { s with toks:=s.toks + 1 }->wpAny (model X.prog X.w) X.A (f (.int i t)) Q E s):
   NY X f (rU fun i=>.int (g i)):=by
 intro pins s σ H x v Q I rx h
 obtain ⟨i,rfl,q⟩:=h
 obtain ⟨t,rfl⟩:=rx
 exact rule i t s _ _ ⟨.int (g i),H,I.tok _,⟨_,rfl⟩,q⟩
theorem z8:NY X (unaryOp .USub) (rU fun i=>.int (-i)):=unI fun _ _ _ _ _ q=>neg_int q
end
def z9:V->V->Bool
 | .cY,.cY=>true | .cY,.int _=>true | .int _,.cY=>true | .cY,.bl _=>true | .bl _,.cY=>true | .cY,.str _=>true | .str _,.cY=>true
 | .int _,.int _=>true | .bl _,.bl _=>true | .str _,.str _=>true | .Cc _,.Cc _=>true
 | .int _,.str _=>true | .str _,.int _=>true | .bl _,.str _=>true | .str _,.bl _=>true
 | _,_=>false
def N1:R2:=fun x y H Q=>z9 x y=true/\Q (.bl (decide (x=y))) H
def N2:R2:=fun x y H Q=>z9 x y=true/\Q (.bl (!decide (x=y))) H
theorem Bh {i j:Int}:decide (V.int i=V.int j)=(i==j):=by
 rw [Bool.eq_iff_iff]
 simp
theorem DO {i j:Bool}:decide (V.bl i=V.bl j)=(i==j):=by
 rw [Bool.eq_iff_iff]
 simp
theorem Bj {i j:Str}:decide (V.str i=V.str j)=(i==j):=by
 rw [Bool.eq_iff_iff]
 simp
theorem Bk {i j:Array UInt8}:decide (V.Cc i=V.Cc j)=(i.toList==j.toList):=by
 rw [Bool.eq_iff_iff]
 cases i
 cases j
 simp
section
variable {X:Cx} {a b c:Expr} {ta tb tc:TE} {pos:Pos}
theorem bV {pins:List (Addr×Obj)} {σ:St} {H:Hp} {s:Shared} {Q:VK} {k k':Bool} (I:Inv X pins σ H s) (q:Q (.bl k) H) (e:k=k'):EP X pins σ Q (.bool k') s:=by
 subst e
 exact ⟨.bl k,H,I,rfl,q⟩
theorem bH:kU X (compareOp .Eq) N1:=by
 intro pins s σ H x y v u Q I rx ry h
 obtain ⟨hs,q⟩:=h
 cases x with
 | cY=>
   cases rx
   cases y with
   | cY=>cases ry;exact PySem.EqNone.eq_none_none (bV I q (by simp))
   | bl j=>cases ry;exact PySem.EqNone.eq_none_bool (bV I q (by simp))
   | int j=>obtain ⟨t',rfl⟩:=ry;exact PySem.EqNone.eq_none_int (bV I q (by simp))
   | str j=>obtain ⟨t',rfl⟩:=ry;exact PySem.EqNone.eq_none_str (bV I q (by simp))
   | _=>exact absurd (show false=true from hs) Bool.false_ne_true
 | bl i=>
   cases rx
   cases y with
   | cY=>cases ry;exact PySem.EqNone.eq_bool_none (bV I q (by simp))
   | bl j=>cases ry;exact eq_bool (bV I q DO)
   | str j=>obtain ⟨t',rfl⟩:=ry;exact PySem.EqMixed.eq_bool_str (bV I q (by simp))
   | _=>exact absurd (show false=true from hs) Bool.false_ne_true
 | int i=>
   obtain ⟨t,rfl⟩:=rx
   cases y with
   | cY=>cases ry;exact PySem.EqNone.eq_int_none (bV I q (by simp))
   | int j=>obtain ⟨t',rfl⟩:=ry;exact eq_int (bV I q Bh)
   | str j=>obtain ⟨t',rfl⟩:=ry;exact PySem.EqMixed.eq_int_str (bV I q (by simp))
   | _=>exact absurd (show false=true from hs) Bool.false_ne_true
 | str i=>
   obtain ⟨t,rfl⟩:=rx
   cases y with
   | cY=>cases ry;exact PySem.EqNone.eq_str_none (bV I q (by simp))
   | bl j=>cases ry;exact PySem.EqMixed.eq_str_bool (bV I q (by simp))
   | int j=>obtain ⟨t',rfl⟩:=ry;exact PySem.EqMixed.eq_str_int (bV I q (by simp))
   | str j=>obtain ⟨t',rfl⟩:=ry;exact eq_str (bV I q Bj)
   | _=>exact absurd (show false=true from hs) Bool.false_ne_true
 | Cc i=>
   obtain ⟨t,rfl⟩:=rx
   cases y with
   | Cc j=>obtain ⟨t',rfl⟩:=ry;exact PySem.W.eq_bytes (bV I q Bk)
   | _=>exact absurd (show false=true from hs) Bool.false_ne_true
 | _=>cases y <;> exact absurd (show false=true from hs) Bool.false_ne_true
theorem ja:kU X (compareOp .NotEq) N2:=by
 intro pins s σ H x y v u Q I rx ry h
 obtain ⟨hs,q⟩:=h
 cases x with
 | cY=>
   cases rx
   cases y with
   | cY=>cases ry;exact PySem.EqNone.ne_none_none (bV I q (by simp))
   | bl j=>cases ry;exact PySem.EqNone.ne_none_bool (bV I q (by simp))
   | int j=>obtain ⟨t',rfl⟩:=ry;exact PySem.EqNone.ne_none_int (bV I q (by simp))
   | str j=>obtain ⟨t',rfl⟩:=ry;exact PySem.EqNone.ne_none_str (bV I q (by simp))
   | _=>exact absurd (show false=true from hs) Bool.false_ne_true
 | bl i=>
   cases rx
   cases y with
   | cY=>cases ry;exact PySem.EqNone.ne_bool_none (bV I q (by simp))
   | bl j=>cases ry;exact ne_bool (bV I q (congrArg not DO))
   | str j=>obtain ⟨t',rfl⟩:=ry;exact PySem.EqMixed.ne_bool_str (bV I q (by simp))
   | _=>exact absurd (show false=true from hs) Bool.false_ne_true
 | int i=>
   obtain ⟨t,rfl⟩:=rx
   cases y with
   | cY=>cases ry;exact PySem.EqNone.ne_int_none (bV I q (by simp))
   | int j=>obtain ⟨t',rfl⟩:=ry;exact ne_int (bV I q (congrArg not Bh))
   | str j=>obtain ⟨t',rfl⟩:=ry;exact PySem.EqMixed.ne_int_str (bV I q (by simp))
   | _=>exact absurd (show false=true from hs) Bool.false_ne_true
 | str i=>
   obtain ⟨t,rfl⟩:=rx
   cases y with
   | cY=>cases ry;exact PySem.EqNone.ne_str_none (bV I q (by simp))
   | bl j=>cases ry;exact PySem.EqMixed.ne_str_bool (bV I q (by simp))
   | int j=>obtain ⟨t',rfl⟩:=ry;exact PySem.EqMixed.ne_str_int (bV I q (by simp))
   | str j=>obtain ⟨t',rfl⟩:=ry;exact ne_str (bV I q (congrArg not Bj))
   | _=>exact absurd (show false=true from hs) Bool.false_ne_true
 | Cc i=>
   obtain ⟨t,rfl⟩:=rx
   cases y with
   | Cc j=>obtain ⟨t',rfl⟩:=ry;exact PySem.W.ne_bytes (bV I q (congrArg not Bk))
   | _=>exact absurd (show false=true from hs) Bool.false_ne_true
 | _=>cases y <;> exact absurd (show false=true from hs) Bool.false_ne_true
theorem uS:kU X (compareOp .Lt) (DN fun i j=>.bl (decide (i < j))):=Gq fun _ _ _ _ _ _ _ q=>lt_int q
theorem Bl:kU X (compareOp .LtE) (DN fun i j=>.bl (decide (i<=j))):=Gq fun _ _ _ _ _ _ _ q=>le_int q
theorem qH:kU X (compareOp .Gt) (DN fun i j=>.bl (decide (j < i))):=Gq fun _ _ _ _ _ _ _ q=>gt_int q
theorem sD:kU X (compareOp .GtE) (DN fun i j=>.bl (decide (j<=i))):=Gq fun _ _ _ _ _ _ _ q=>ge_int q
theorem dh:kU X (compareOp .Is) (fun x y H Q=>y=.cY/\Q (.bl (decide (x=.cY))) H):=by
 intro pins s σ H x y v u Q I rx ry h
 obtain ⟨rfl,q⟩:=h
 cases ry
 refine is_none_gen (bV I q ?_)
 cases x <;> first
   | (cases rx;rfl)
   | (obtain ⟨t,rfl⟩:=rx;rfl)
theorem Gs:kU X (compareOp .IsNot) (fun x y H Q=>y=.cY/\Q (.bl (!decide (x=.cY))) H):=by
 intro pins s σ H x y v u Q I rx ry h
 obtain ⟨rfl,q⟩:=h
 cases ry
 refine isnot_none_gen (bV I q ?_)
 cases x <;> first
   | (cases rx;rfl)
   | (obtain ⟨t,rfl⟩:=rx;rfl)
theorem au (b:Expr) {op:CmpOp} (h:op≠.In:=by decide) (h2:op≠.NotIn:=by decide):behindInMarks op b=false:=by
 have e1:(op==CmpOp.In)=false:=by cases op <;> first | rfl | exact absurd rfl h
 have e2:(op==CmpOp.NotIn)=false:=by cases op <;> first | rfl | exact absurd rfl h2
 cases b <;> simp [behindInMarks,e1,e2]
theorem Gu {op:CmpOp} {r:R2} (ho:kU X (compareOp op) r) (ha:PE X a ta) (hb:PE X b tb) (hm:behindInMarks op b=false):PE X (.Compare a [op] [b] pos) (DM r ta tb):=by
 intro pins s σ H Q I h
 exact wpAny_Compare1 (IP ha hb I h fun v u s2 x y H2 I2 rx ry q=>ho pins s2 σ H2 x y v u Q I2 rx ry q) hm
def yz (t:TE):TT:=fun σ H Q=>t σ H fun x H'=>∃ k,x=.bl k/\Q k H'
theorem Gv {op:CmpOp} {r:R2} (ho:kU X (compareOp op) r) (ha:PE X a ta) (hb:PE X b tb) (hm:behindInMarks op b=false):PT X (.Compare a [op] [b] pos) (yz (DM r ta tb)):=by
 intro pins s σ H Q I h
 refine wpAny_isTrue_Compare1 (dZ (ha pins s σ H _ I h) fun v s1 ⟨x,H1,I1,r1,q1⟩=>dZ (hb pins s1 σ H1 _ I1 q1) fun u s2 ⟨y,H2,I2,r2,q2⟩=>
   dZ (ho pins s2 σ H2 x y v u _ I2 r1 r2 q2) fun c s3 ⟨z,H3,I3,r3,k,e,q3⟩=>?_) hm
 subst e
 cases r3
 exact wpAny_truthy_bool ⟨H3,I3,q3⟩
def sE (r r':R2) (ta tb tc:TE):TE:=fun σ H Q=>ta σ H fun x H1=>tb σ H1 fun y H2=>r x y H2 fun z H3=>∃ k,z=.bl k/\
 (if k=true then tc σ H3 fun w' H4=>r' y w' H4 Q else Q (.bl false) H3)
theorem DP {op IS:CmpOp} {r r':R2} (ho:kU X (compareOp op) r) (Ds:kU X (compareOp IS) r') (ha:PE X a ta) (hb:PE X b tb) (hc:PE X c tc)
   (hm:lastMarks [op,IS] [b,c]=false:=by with_unfolding_all rfl):PE X (.Compare a [op,IS] [b,c] pos) (sE r r' ta tb tc):=by
 intro pins s σ H Q I h
 refine Compare_chain (dZ (ha pins s σ H _ I h) fun v s1 ⟨x,H1,I1,r1,q1⟩=>chain_link (dZ (hb pins s1 σ H1 _ I1 q1) fun u s2 ⟨y,H2,I2,r2,q2⟩=>
   dZ (ho pins s2 σ H2 x y v u _ I2 r1 r2 q2) fun d s3 ⟨z,H3,I3,r3,k,e,q3⟩=>?_)) hm
 subst e
 cases r3
 refine wpAny_truthy_bool ?_
 cases k with
 | false=>exact ite_ff ⟨.bl false,H3,I3,rfl,q3⟩
 | true=>exact ite_tt (chain_last (dZ (hc pins s3 σ H3 _ I3 q3) fun w' s4 ⟨z',H4,I4,r4,q4⟩=>Ds pins s4 σ H4 y z' u w' Q I4 r2 r4 q4))
def IT (K:PySem.W.Frag) (x:V) (H:Hp) (k:Bool):Prop:=
 match x with
 | .cY=>k=false
 | .bl b=>k=b
 | .int i=>k=(i !=0)
 | .str y=>y.length<=sizeLine/\k=((y.length:Int) !=0)
 | .Cc y=>y.size<=sizeLine/\k=((y.size:Int) !=0)
 | .ref p=>(∃ xs,bC K H p xs/\k=!xs.isEmpty)∨(∃ xs,mw K H p xs/\k=!xs.isEmpty)∨∃ kvs,H p=some (.dK kvs)/\k=!kvs.isEmpty
 | _=>False
theorem Aa {κ:Type} {kvs:List (κ×V)} {vs:List (κ×Value)} (r:KV kvs vs):(!vs.isEmpty)=!kvs.isEmpty:=by
 cases r <;> rfl
theorem sF {xs:List V} {its:List Value} (r:Vals xs its):(!its.toArray.isEmpty)=!xs.isEmpty:=by
 cases r <;> simp
theorem nU:(sizeLine:Nat) < 2 ^ 63:=by rw [sizeLine_eq];decide
theorem IU:Qz X (fun x H Q=>∃ k,IT X.K x H k/\Q k H):=by
 intro pins s σ H x v Q I rx h
 obtain ⟨k,e,q⟩:=h
 have hl:=nU
 have hs:sizeLine=16777216:=sizeLine_eq
 cases x with
 | cY=>
   cases rx
   have e':k=false:=e
   subst e'
   exact truthy_none ⟨H,I,q⟩
 | bl b=>
   cases rx
   have e':k=b:=e
   subst e'
   exact wpAny_truthy_bool ⟨H,I,q⟩
 | int i=>
   obtain ⟨t,rfl⟩:=rx
   have e':k=(i !=0):=e
   subst e'
   exact PySem.P.truthy_int ⟨H,I,q⟩
 | str y=>
   obtain ⟨t,rfl⟩:=rx
   obtain ⟨hy,e'⟩:y.length<=sizeLine/\k=((y.length:Int) !=0):=e
   subst e'
   exact PySem.P.truthy_str (by omega) ⟨H,I.tok _,q⟩
 | Cc y=>
   obtain ⟨t,rfl⟩:=rx
   obtain ⟨hy,e'⟩:y.size<=sizeLine/\k=((y.size:Int) !=0):=e
   subst e'
   exact PySem.W.truthy_bytes (by omega) ⟨H,I.tok _,q⟩
 | ref p=>
   cases rx
   have e':(∃ xs,bC X.K H p xs/\k=!xs.isEmpty)∨(∃ xs,mw X.K H p xs/\k=!xs.isEmpty)∨∃ kvs,H p=some (.dK kvs)/\k=!kvs.isEmpty:=e
   rcases e' with ⟨xs,hx,e'⟩ | ⟨xs,hx,e'⟩ | ⟨kvs,hx,e'⟩
   . subst e'
     obtain ⟨its,r,pl,hz⟩:=I.list hx
     have hlen:=r.length
     exact wpAny_truthy_list pl.isList (by simp only [List.size_toArray];omega) ⟨H,I.tok _,by rw [sF r];exact q⟩
   . subst e'
     obtain ⟨its,r,pl,hz⟩:=I.tuple hx
     have hlen:=r.length
     exact truthy_tuple pl (by simp only [List.size_toArray];omega) ⟨H,I.tok _,by rw [sF r];exact q⟩
   . subst e'
     obtain ⟨hz,hS,vs,r,m⟩:kvs.length<=sizeLine/\(p==sysModules)=false/\∃ vs,KV kvs vs/\s.heap.DictOf (dM X.prog X.w) p vs:=I.cX p _ hx
     have hlen:kvs.length=vs.length:=Paired.length r
     exact wpAny_truthy_dict hS m (by omega) ⟨H,I.tok _,by rw [Aa r];exact q⟩
 | _=>exact (show False from e).elim
theorem DQ (ha:PE X a ta) (he:∀ whole,isTrue a X.env whole=(do let v <- whole;standAt a.pos;holding [v] (truthy v))):
   PT X a (fun σ H Q=>ta σ H fun x H'=>∃ k,IT X.K x H' k/\Q k H'):=by
 intro pins s σ H Q I h
 exact isTrue_plain (dZ (ha pins s σ H _ I h) fun v s1 ⟨x,H1,I1,r1,q1⟩=>IU pins s1 σ H1 x v Q I1 r1 q1) (he _)
theorem aT:kU X (binaryOp .Add) (fun x y H Q=>∃ i j,x=.str i/\y=.str j/\i.length + j.length<=sizeLine/\Q (.str (i++j)) H):=by
 intro pins s σ H x y v u Q I rx ry h
 obtain ⟨i,j,rfl,rfl,hz,q⟩:=h
 obtain ⟨t,rfl⟩:=rx
 obtain ⟨t',rfl⟩:=ry
 exact add_str (fun t' tk=>⟨.str (i++j),H,I.tok _,⟨_,rfl⟩,q⟩) hz
theorem vals1 {x:V} {us:List Value} (r:Vals [x] us):∃ u,us=[u]/\RelV x u:=by
 cases r with
 | cons r1 r2=>cases r2;exact ⟨_,rfl,r1⟩
theorem vals2 {x y:V} {us:List Value} (r:Vals [x,y] us):∃ u w',us=[u,w']/\RelV x u/\RelV y w':=by
 cases r with
 | cons r1 r2=>
   cases r2 with
   | cons r3 r4=>cases r4;exact ⟨_,_,rfl,r1,r3⟩
theorem Cn (hc:X.calm=true):gE X (.builtin "max") (fun xs H Q=>∃ i j,xs=[.int i,.int j]/\Q (.int (if j > i then j else i)) H):=by
 intro pins s σ H xs us Q I r h
 obtain ⟨i,j,rfl,q⟩:=h
 obtain ⟨u,w',rfl,⟨t,rfl⟩,⟨t',rfl⟩⟩:=vals2 r
 refine max_two_ints (I.ok.hd hc) fun h' tk k=>⟨_,H,I.kept k,?_,q⟩
 by_cases hj:j > i
 . rw [if_pos hj,if_pos hj];exact ⟨_,rfl⟩
 . rw [if_neg hj,if_neg hj];exact ⟨_,rfl⟩
theorem Co (hc:X.calm=true):gE X (.builtin "min") (fun xs H Q=>∃ i j,xs=[.int i,.int j]/\Q (.int (if j < i then j else i)) H):=by
 intro pins s σ H xs us Q I r h
 obtain ⟨i,j,rfl,q⟩:=h
 obtain ⟨u,w',rfl,⟨t,rfl⟩,⟨t',rfl⟩⟩:=vals2 r
 refine min_two_ints (I.ok.hd hc) fun h' tk k=>⟨_,H,I.kept k,?_,q⟩
 by_cases hj:j < i
 . rw [if_pos hj,if_pos hj];exact ⟨_,rfl⟩
 . rw [if_neg hj,if_neg hj];exact ⟨_,rfl⟩
theorem Cp:gE X (.type "int") (fun xs H Q=>(∃ i,xs=[.int i]/\Q (.int i) H)∨∃ k,xs=[.bl k]/\Q (.int (if k then 1 else 0)) H):=by
 intro pins s σ H xs us Q I r h
 rcases h with ⟨i,rfl,q⟩ | ⟨k,rfl,q⟩
 . obtain ⟨u,rfl,t,rfl⟩:=vals1 r
   exact call_int_int ⟨.int i,H,I,⟨_,rfl⟩,q⟩
 . obtain ⟨u,rfl,r1⟩:=vals1 r
   cases r1
   exact call_int_bool ⟨.int (if k then 1 else 0),H,I.tok _,⟨_,rfl⟩,q⟩
theorem cy:gE X (.type "str") (fun xs H Q=>∃ i,xs=[.int i]/\i.natAbs.log2 < 1920/\Q (.str (toString i)) H):=by
 intro pins s σ H xs us Q I r h
 obtain ⟨i,rfl,hz,q⟩:=h
 obtain ⟨u,rfl,t,rfl⟩:=vals1 r
 exact PySem.P.str_of_int hz ⟨.str _,H,I.tok _,⟨_,rfl⟩,q⟩
end
end L2
namespace L2
open PySem PySem.Spec PyProof.Rows
structure IV (h:Heap) (x dx C:Addr) (mA:Str->Option Value):Prop where
 obj:h.get? x=some (PySem.W.instObj C dx)
 ns:h.Ns1 dx mA
 ne:dx≠x
theorem Cq {h:Heap} {dx:Addr} {mA:Str->Option Value} (n:h.Ns1 dx mA):∃ od,h.get? dx=some od/\∀ name,PySem.W.lookIn name od=some (mA name):=by
 obtain ⟨o,es,ep,ho,hd,hk,_,hm⟩:=n
 refine ⟨o,ho,fun name=>?_⟩
 have e:=hm name
 unfold nsFind findBy at e
 rw [<- Array.find?_toList] at e
 unfold PySem.W.lookIn
 rw [hd]
 dsimp only
 split
 . rename_i y q
   rw [q] at e
   exact congrArg some e
 . rename_i q
   rw [q] at e
   have a:es.toList.any (·.refKey)=false:=by
     rw [List.any_eq_false]
     intro y hy
     obtain ⟨z,t,hkey⟩:=hk y (Array.mem_toList_iff.mp hy)
     simp [DictEntry.refKey,hkey]
   have a':¬ es.toList.any (·.refKey)=true:=by rw [a];exact Bool.false_ne_true
   rw [if_neg a']
   exact congrArg some e
theorem IV.look {h:Heap} {x dx C:Addr} {mA:Str->Option Value} (I:IV h x dx C mA):∃ od,PySem.W.InstAt h x (PySem.W.instObj C dx) C (some od)/\∀ name,PySem.W.lookIn name od=some (mA name):=
 let ⟨od,ho,hl⟩:=Cq I.ns
 ⟨od,⟨I.obj,rfl,rfl,ho⟩,hl⟩
section
variable {prog:Program} {w:World} {A:Around} {E:Value->Shared->Prop} {s:Shared} {K:PySem.W.Frag} {x dx C f:Addr} {mA:Str->Option Value} {name:Str} {v:Value}
end
theorem sf.some_of {v:V} {o:Option Value} (r:sf (some v) o):∃ u,o=some u/\RelV v u:=by
 cases o with
 | none=>exact (show False from r).elim
 | some u=>exact ⟨u,rfl,r⟩
section
variable {P:Program} {w:World} {H H':Hp} {h h':Heap} {a C dx:Addr} {fs fs':List (Str×V)}
theorem Gw (cX:nE P w H h) (e:H a=some (.ins C dx fs)):∃ mA,IV h a dx C mA/\(∀ f,sf (fs.lookup f) (mA f))/\PySem.Within mA (fs.map (·.1))/\fs.length<=1000/\H dx=some (.own a):=by
 obtain ⟨d,z,ne,ob,mA,n,r,q⟩:=(show dH P w H h a (.ins C dx fs) from cX a _ e)
 exact ⟨mA,⟨ob,n,ne⟩,r,q,z,d⟩
end
structure QA (K:PySem.W.Frag) (C:Addr):Prop where
 pg:PySem.W.plainGet K C Str.empty=true
 hd:PySem.W.hasDictIn K C=true
 po:PySem.W.plainOver K C=true
 sa:PySem.W.findIn K (.ref C) "__setattr__"=some (some (.builtin "object.__setattr__"))
theorem QA.get {K:PySem.W.Frag} {C:Addr} (c:QA K C) (f:Str):PySem.W.plainGet K C f=true:=c.pg
section
variable {X:Cx} {pins:List (Addr×Obj)} {σ:St} {H:Hp} {s:Shared} {a C dx:Addr} {fs:List (Str×V)} {f:Str} {v:V} {A:Around} {E:Value->Shared->Prop}
end
section
variable {X:Cx} {o e value:Expr} {f:Str} {pos pos' Lw:Pos} {ta tv:TE}
end
section
variable {X:Cx} {pins:List (Addr×Obj)} {σ:St} {H:Hp} {s:Shared} {A:Around} {E:Value->Shared->Prop} {Q:Value->Shared->Prop} {c:Value} {b:Bool}
inductive pY (K:PySem.W.Frag) (H:Hp):V->Value->Prop where
 | cY:pY K H .cY (.type "NoneType")
 | bl (x:Bool):pY K H (.bl x) (.type "bool")
 | int (i:Int):pY K H (.int i) (.type "int")
 | str (x:Str):pY K H (.str x) (.type "str")
 | KR (x:UInt64):pY K H (.KR x) (.type "float")
 | lst {a:Addr} {xs:List V} (e:H a=some (.lst xs)):pY K H (.ref a) (.type "list")
 | mh {a:Addr} {o:Obj} {xs:List V} (e:H a=some (.mh o (.lst xs))):pY K H (.ref a) (.type "list")
 | tup {a:Addr} {xs:List V} (e:H a=some (.tup xs)):pY K H (.ref a) (.type "tuple")
 | dK {a:Addr} {kvs:List (Key×V)} (e:H a=some (.dK kvs)):pY K H (.ref a) (.type "dict")
 | dT {a:Addr} {kvs:List (List Key×V)} (e:H a=some (.dT kvs)):pY K H (.ref a) (.type "dict")
 | ins {a C dx:Addr} {fs:List (Str×V)} (e:H a=some (.ins C dx fs)) (cl:QA K C) (ha:PySem.W.findIn K (.ref C) "__class__"=some (some (.builtin "object.__class__")))
     (hn:PySem.W.specialIn K (.builtin "object.__class__") "__get__"=some (some (.builtin "getset_descriptor.__get__"))) (htk:PySem.W.takesIn K (.builtin "object.__class__")=some true)
     (hm:PySem.W.mroIn K C (.type "object")=some true):pY K H (.ref a) (.ref C)
theorem Cr {x:V} {u t:Value} (I:Inv X pins σ H s) (rx:RelV x u) (ty:pY X.K H x t) (e:PySem.W.kitOne X.K t c=some b) (h:∀ tk,Q (.bool b) { s with toks:=tk }):
   wpAny (model X.prog X.w) A (call (.builtin "isinstance") [u,c]) Q E s:=by
 cases ty with
 | cY=>cases (show u=Value.none from rx);exact PySem.W.kia_one PySem.W.kitx_none I.qG True.intro e (fun z=>nomatch z) h
 | bl y=>cases (show u=Value.bool y from rx);exact PySem.W.kia_one PySem.W.kitx_bool I.qG True.intro e (fun z=>nomatch z) h
 | int i=>obtain ⟨t,q⟩:=(show ∃ t,u=Value.int i t from rx);cases q;exact PySem.W.kia_one PySem.W.kitx_int I.qG True.intro e (fun z=>nomatch z) h
 | str y=>obtain ⟨t,q⟩:=(show ∃ t,u=Value.str y t from rx);cases q;exact PySem.W.kia_one PySem.W.kitx_str I.qG True.intro e (fun z=>nomatch z) h
 | KR y=>obtain ⟨t,q⟩:=(show ∃ t,u=Value.float y t from rx);cases q;exact PySem.W.kia_one PySem.W.kitx_float I.qG True.intro e (fun z=>nomatch z) h
 | @lst a xs ea=>
   cases (show u=Value.ref a from rx)
   obtain ⟨_,_,n,_,h1⟩:=(show dH X.prog X.w H s.heap a (.lst xs) from I.cX a _ ea)
   exact PySem.W.kia_one PySem.W.kitx_list I.qG ⟨_,h1,rfl⟩ e (fun z=>nomatch z) h
 | @mh a ob xs ea=>
   cases (show u=Value.ref a from rx)
   obtain ⟨_,_,_,n,_,h1⟩:=(show dH X.prog X.w H s.heap a (.mh ob (.lst xs)) from I.cX a _ ea)
   exact PySem.W.kia_one PySem.W.kitx_list I.qG ⟨_,h1,rfl⟩ e (fun z=>nomatch z) h
 | @tup a xs ea=>
   cases (show u=Value.ref a from rx)
   obtain ⟨_,_,_,p⟩:=(show dH X.prog X.w H s.heap a (.tup xs) from I.cX a _ ea)
   obtain ⟨o,h1,h2,_⟩:=p
   exact PySem.W.kia_one PySem.W.kitx_tuple I.qG ⟨o,h1,h2⟩ e (fun z=>nomatch z) h
 | @dK a kvs ea=>
   cases (show u=Value.ref a from rx)
   obtain ⟨_,_,vs,_,p⟩:=(show dH X.prog X.w H s.heap a (.dK kvs) from I.cX a _ ea)
   obtain ⟨o,es,ep,h1,h2,_⟩:=p
   exact PySem.W.kia_one PySem.W.kitx_dict I.qG ⟨o,h1,h2.1⟩ e (fun z=>nomatch z) h
 | @dT a kvs ea=>
   cases (show u=Value.ref a from rx)
   obtain ⟨_,_,xs,_,o,es,ep,h1,h2,_⟩:=(show dH X.prog X.w H s.heap a (.dT kvs) from I.cX a _ ea)
   exact PySem.W.kia_one PySem.W.kitx_dict I.qG ⟨o,h1,h2.1⟩ e (fun z=>nomatch z) h
 | @ins a C dx fs ea cl ha hn htk hm=>
   cases (show u=Value.ref a from rx)
   obtain ⟨mA,O,_⟩:=Gw I.cX ea
   obtain ⟨od,J,_⟩:=O.look
   exact PySem.W.kia_one (PySem.W.kitx_own (cl.get _) cl.hd ha hn htk hm) I.qG J e (fun z=>nomatch z) h
end
end L2
namespace L2
open PySem PySem.Spec PyProof.Rows
structure jx (k:Nat) (A:Around):Prop where
 hd:A.handled=none
 dp:A.depth + 3 * k + 5 < recursionLimit
 un:A.units + 16 * k + 200 < cLine
 gd:A.guards=some []
theorem jx.mono {j k:Nat} {A:Around} (r:jx k A) (h:j<=k):jx j A:=⟨r.hd,by have:=r.dp;omega,by have:=r.un;omega,r.gd⟩
theorem jx.deeper {k:Nat} {A:Around} (r:jx (k + 1) A) (env:Env):jx k (A.deeper env):=
 ⟨r.hd,by have:=r.dp;show A.depth + 1 + 3 * k + 5 < _;omega,by have:=r.un;show A.units + 3 + 16 * k + 200 < _;omega,r.gd⟩
theorem jx.depth {k:Nat} {A:Around} (r:jx k A):A.depth < recursionLimit:=by have:=r.dp;omega
theorem jx.units {k:Nat} {A:Around} (r:jx k A):A.units + 64 < cLine:=by have:=r.un;omega
def yC:TA:=fun _ H Q=>Q [] H
def mD (ta:TE) (tr:TA):TA:=fun σ H Q=>ta σ H fun x H1=>tr σ H1 fun xs H2=>Q (x::xs) H2
section
variable {X:Cx} {e:Expr} {es:List Expr} {te:TE} {t:TA} {pos:Pos}
theorem DR:PA X [] yC:=fun _ _ _ _ H Q I h=>Calls.spliced_nil ⟨[],H,I,.nil,h⟩
theorem Bm (ha:PE X e te) (hr:PA X es t) (hs:starEach (e::es) X.env=(false,eval e X.env)::starEach es X.env:=by rfl):PA X (e::es) (mD te t):=by
 intro pos pins s σ H Q I h
 rw [hs]
 show wpAny _ _ (spliced ((false,eval e X.env)::backTo pos (starEach es X.env))) _ _ s
 refine Calls.spliced_cons (dZ (ha pins s σ H _ I h) fun u s1 ⟨x,H1,I1,r1,q1⟩=>?_)
 exact dZ (hr pos pins s1 σ H1 _ I1 q1) fun us s2 ⟨xs,H2,I2,r2,q2⟩=>⟨x::xs,H2,I2,.cons r1 r2,q2⟩
def IW (t:TA):TE:=fun σ H Q=>t σ H fun xs H1=>xs.length<=sizeLine/\∀ p,H1 p=none->Q (.ref p) (upd H1 p (.tup xs))
def IX (t:TA):TE:=fun σ H Q=>t σ H fun xs H1=>xs.length<=sizeLine/\∀ p,H1 p=none->Q (.ref p) (upd H1 p (.lst xs))
end
abbrev Sp:=List V->Hp->VK->XK->Prop
abbrev uT:=List Env->Hp->Shared->XK->Value->Shared->Prop
structure Gx (P:Program) (w:World) (K:PySem.W.Frag) (mg:Str->Option Value) (base:Heap) (A:Around) (outer:List Env) (s:Shared) (H:Hp):Prop where
 frames:A.frames=some outer
 mod:Mod K mg base
 bs:∀ b o,base.get? b=some o->s.heap.get? b=some o/\H b=none
 Dm:base.objs.size<=s.heap.objs.size
 mj:s.heap.FunFrames base outer
 Dr:∀ b∈nh outer,H b=none
 cX:nE P w H s.heap
 bare:AllBare s.gens
def CE (outer:List Env) (P:Program) (w:World) (H:Hp) (s:Shared) (Q:VK) (u:Value) (s':Shared):Prop:=
 ∃ v H',s'.os=s.os/\AllBare s'.gens/\Un (nh outer) [] H H' s.heap s'.heap/\nE P w H' s'.heap/\RelV v u/\Q v H'
def CR (CX:uT) (outer:List Env) (P:Program) (w:World) (H:Hp) (s:Shared) (Q:VK) (E:XK) (r:Result) (s':Shared):Prop:=
 match r with
 | .ok (.ret u)=>CE outer P w H s Q u s'
 | .ok _=>False
 | .error e=>CX outer H s E e s'
structure bB (P:Program) (w:World) (K:PySem.W.Frag) (mg:Str->Option Value) (base:Heap) (CX:uT) (k:Nat) (f:Addr) (fd:FuncData) (ps:List Str) (sp:Sp):Prop where
 len:∀ vs H Q E,sp vs H Q E->vs.length=ps.length
 run:∀ (A:Around) (outer:List Env) (s:Shared) (H:Hp) (args:Args) (us:List Value) (vs:List V) (Q:VK) (E:XK),jx k A->Gx P w K mg base A outer s H->BindsTo s fd args (ps.zip us)->Vals vs us->sp vs H Q E->
   codeAny (model P w) A (.call (.ref f) args) (CR CX outer P w H s Q E) s
theorem bB.imp {P:Program} {w:World} {K:PySem.W.Frag} {mg:Str->Option Value} {base:Heap} {CX:uT} {k:Nat} {f:Addr} {fd:FuncData} {ps:List Str} {sp HP:Sp} (F:bB P w K mg base CX k f fd ps sp)
   (h:∀ vs H Q E,HP vs H Q E->sp vs H Q E):bB P w K mg base CX k f fd ps HP:=
 ⟨fun vs H Q E q=>F.len vs H Q E (h _ _ _ _ q),fun A outer s H args us vs Q E hr he hb hv hs=>F.run A outer s H args us vs Q E hr he hb hv (h _ _ _ _ hs)⟩
section
variable {X:Cx} {pins:List (Addr×Obj)} {σ:St} {H:Hp} {s s':Shared}
theorem Inv.Lx (I:Inv X pins σ H s):Gx X.prog X.w X.K X.mg X.base X.A X.stack s H:=
 ⟨I.ok.frames,I.ok.mod,I.bs,Nat.le_trans I.ok.Dm I.sz,I.stack,I.rK,I.cX,I.bare⟩
theorem Inv.after {Q:VK} {u:Value} (I:Inv X pins σ H s) (h:CE X.stack X.prog X.w H s Q u s'):EP X pins σ Q u s':=by
 obtain ⟨v,H',os,bare,un,cX,r,q⟩:=h
 obtain ⟨hh,g,d,t,Gy⟩:=s'
 obtain rfl:Gy=s.os:=os
 exact ⟨v,H',I.call (h':=hh) (g':=g) (d':=d) (t':=t) (ch:=[]) un cX bare (fun b z=>absurd z (by simp)),r,q⟩
end
def mE (sp:Sp) (yg:List V) (E:XK) (t:TA):TE:=fun σ H Q=>t σ H fun vs H1=>sp (vs++yg) H1 Q E
def Binds (K:PySem.W.Frag) (fd:FuncData) (ps:List Str) (ds:List Value):Prop:=
 ∀ (s:Shared) (us:List Value),K.In s.heap->(us++ds).length=ps.length->BindsTo s fd ⟨us,[]⟩ (ps.zip (us++ds))
theorem Binds.all {K:PySem.W.Frag} {fd:FuncData} {ps:List Str} (h:∀ us:List Value,us.length=ps.length->bindArgs fd ⟨us,[]⟩=pure (ps.zip us)):Binds K fd ps []:=fun s us _ hl=>by
 rw [List.append_nil] at hl ⊢
 exact .of_eq (h us hl)
def Passes (CX:uT) (X:Cx) (E:XK):Prop:=∀ (pins:List (Addr×Obj)) (σ:St) (H:Hp) (s:Shared) (e:Value) (s':Shared),Inv X pins σ H s->CX X.stack H s E e s'->X.xe e s'
section
variable {X:Cx} {CX:uT} {k:Nat} {f C:Addr} {fd:FuncData} {ps:List Str} {sp:Sp} {yg:List V} {ds:List Value} {E:XK} {x m:Str} {p pos apos:Pos} {e o:Expr} {es:List Expr} {ta:TE} {t:TA}
theorem DS {pins:List (Addr×Obj)} {σ:St} {H:Hp} {s:Shared} {Q:VK} {us:List Value} {vs:List V} (F:bB X.prog X.w X.K X.mg X.base CX k f fd ps sp) (hr:jx k X.A) (hb:Binds X.K fd ps ds) (hd:Vals yg ds) (hx:Passes CX X E)
   (I:Inv X pins σ H s) (r:Vals vs us) (h:sp (vs++yg) H Q E):wpAny (model X.prog X.w) X.A (call (.ref f) us) (EP X pins σ Q) X.xe s:=by
 have r2:Vals (vs++yg) (us++ds):=r.append hd
 have hl:(us++ds).length=ps.length:=by rw [<- r2.length];exact F.len _ _ _ _ h
 refine wpAny_call (codeAny_mono (F.run X.A X.stack s H ⟨us,[]⟩ (us++ds) (vs++yg) Q E hr I.Lx (hb s us I.qG hl) r2 h) fun r s' hq=>?_)
 cases r with
 | error e=>exact hx pins σ H s e s' I hq
 | ok fl=>
   cases fl with
   | ret u=>exact I.after hq
   | next=>exact False.elim hq
   | brk=>exact False.elim hq
   | cont=>exact False.elim hq
theorem Gz (F:bB X.prog X.w X.K X.mg X.base CX k f fd ps sp) (hr:jx k X.A) (hg:Gl X x) (hm:X.mg x=some (.ref f)) (hk:PySem.W.keepIn X.K (.ref f)=true) (hb:Binds X.K fd ps ds) (hd:Vals yg ds) (hx:Passes CX X E)
   (ha:PA X (e::es) t) (uU:(x==("__debug__":Str))=false:=by decide) (he:starEach (e::es) X.env=(false,eval e X.env)::starEach es X.env:=by rfl) (yh:(backTo pos (starEach es X.env)).any (·.1)=false:=by rfl):
   PE X (.Call (.Name x p) (e::es) [] pos) (mE sp yg E t):=by
 intro pins s σ H Q I h
 refine wpAny_Call_Name_kw (rL I hg hm ?_ uU)
 refine PySem.W.callWith_K (h₀:=X.base) I.ok.mod.HG hk (dZ (ha pos pins s σ H _ I h) fun us s1 ⟨vs,H1,I1,r,q⟩=>⟨I1.qG,?_⟩) he yh
 exact DS F hr hb hd hx I1 r q
end
section
variable {X:Cx} {CX:uT} {k:Nat} {f C:Addr} {fd:FuncData} {ps ks:List Str} {sp:Sp} {E:XK} {x m:Str} {p pos apos QB:Pos} {e o:Expr} {es:List Expr} {kws:List Keyword} {te ta:TE} {t tk:TA} {nm:Option Str}
def IY (sp:Sp) (gV:List V->List V->List V) (E:XK) (t tk:TA):TE:=fun σ H Q=>t σ H fun vs H1=>tk σ H1 fun zs H2=>sp (gV vs zs) H2 Q E
variable {g:List Value->List Value->List Value} {gV:List V->List V->List V}
end
structure aE (N P:List Str) (sc:Scope):Prop where
 kind:sc.kind=.function
 co:sc.isCoroutine=false
 gen:sc.isGenerator=false
 nd:N.Nodup
 pre:N.take P.length=P
 par:∀ x∈P,sc.names.lookup x=some .local∨sc.names.lookup x=some .cell
 IZ:∀ y∈sc.names,y.2≠.free
theorem uV {kindOf:Str->Option NameKind} {x:Str}:∀ {binds:List (Str×Value)} {m:Str->Option Value},(∀ v,(x,v)∉binds)->bindL kindOf binds m x=m x
 | [],_,_=>rfl
 | (n,v)::r,m,h=>by
   unfold bindL
   rw [uV fun w hw=>h w (List.mem_cons_of_mem _ hw)]
   split
   . have:x≠n:=by rintro rfl;exact h v List.mem_cons_self
     simp [this]
   . rfl
theorem uW {kindOf:Str->Option NameKind} {x:Str}:∀ {binds:List (Str×Value)} {m:Str->Option Value},(∀ v,(x,v)∉binds)->bindC kindOf binds m x=m x
 | [],_,_=>rfl
 | (n,v)::r,m,h=>by
   unfold bindC
   rw [uW fun w hw=>h w (List.mem_cons_of_mem _ hw)]
   split
   . rfl
   . have:x≠n:=by rintro rfl;exact h v List.mem_cons_self
     simp [this]
theorem uX {kindOf:Str->Option NameKind} {x:Str} {v:Value}:∀ {P:List Str} {vs:List Value} {i:Nat} {m:Str->Option Value},P.Nodup->P[i]?=some x->vs[i]?=some v->kindOf x=some .local->
   bindL kindOf (P.zip vs) m x=some v
 | [],_,_,_,_,h,_,_=>by simp at h
 | _::_,[],_,_,_,_,h,_=>by simp at h
 | p::P,w::vs,0,m,nd,h1,h2,hk=>by
   simp at h1 h2;subst h1;subst h2
   show bindL kindOf ((p,w)::P.zip vs) m p=_
   unfold bindL
   rw [uV fun v hv=>(List.nodup_cons.mp nd).1 (List.of_mem_zip hv).1,if_pos hk]
   simp
 | p::P,w::vs,i + 1,m,nd,h1,h2,hk=>by
   show bindL kindOf ((p,w)::P.zip vs) m x=_
   unfold bindL
   exact uX (i:=i) (List.nodup_cons.mp nd).2 (by simpa using h1) (by simpa using h2) hk
theorem uY {kindOf:Str->Option NameKind} {x:Str} {v:Value}:∀ {P:List Str} {vs:List Value} {i:Nat} {m:Str->Option Value},P.Nodup->P[i]?=some x->vs[i]?=some v->kindOf x≠some .local->
   bindC kindOf (P.zip vs) m x=some v
 | [],_,_,_,_,h,_,_=>by simp at h
 | _::_,[],_,_,_,_,h,_=>by simp at h
 | p::P,w::vs,0,m,nd,h1,h2,hk=>by
   simp at h1 h2;subst h1;subst h2
   show bindC kindOf ((p,w)::P.zip vs) m p=_
   unfold bindC
   rw [uW fun v hv=>(List.nodup_cons.mp nd).1 (List.of_mem_zip hv).1,if_neg hk]
   simp
 | p::P,w::vs,i + 1,m,nd,h1,h2,hk=>by
   show bindC kindOf ((p,w)::P.zip vs) m x=_
   unfold bindC
   exact uY (i:=i) (List.nodup_cons.mp nd).2 (by simpa using h1) (by simpa using h2) hk
def start (N:List Str) (vs:List V):St:=vs.map some++List.replicate (N.length - vs.length) none
def mF (CX:uT) (P:Program) (w:World) (K:PySem.W.Frag) (mg:Str->Option Value) (base:Heap) (N:List Str) (qual:Str) (scope:Scope) (f:Addr) (cd:Value) (A:Around) (outer:List Env) (s:Shared) (H:Hp) (E:XK):Cx where
 prog:=P
 w:=w
 K:=K
 mg:=mg
 base:=base
 A:=A.deeper (envOfC qual scope s.heap.objs.size f cd)
 N:=N
 s₀:=s
 H₀:=H
 env:=envOfC qual scope s.heap.objs.size f cd
 outer:=outer
 stack:=envOfC qual scope s.heap.objs.size f cd::outer
 ex:=[]
 calm:=true
 fn:=fun _=>true
 pn:=[]
 xe:=fun e s'=>wpAny (model P w) (A.deeper (envOfC qual scope s.heap.objs.size f cd)) (leaving (envOfC qual scope s.heap.objs.size f cd) e) (fun _ s''=>CX outer H s E e s'') (fun e' s''=>CX outer H s E e' s'') s'
theorem yE {sc:Scope} {n:Nat} {x:Str} (h:sc.names.lookup x=some .cell):∃ c,(cellsFrom n sc.names []).lookup x=some c:=by
 have q:=PySem.W.cellsFrom_some sc.names n [] (.inl h)
 exact Option.isSome_iff_exists.mp q
theorem Cs {CX:uT} {P:Program} {w:World} {K:PySem.W.Frag} {mg:Str->Option Value} {base:Heap} {N ps:List Str} {qual:Str} {scope:Scope} {f:Addr} {cd:Value} {A:Around} {outer:List Env} {s s1:Shared} {H:Hp} {E:XK} {us:List Value} {vs:List V}
   (S:aE N ps scope) (hd:A.handled=none) (e0:Gx P w K mg base A outer s H) (hl:vs.length=ps.length) (r:Vals vs us)
   (x:InCallC s s.heap.objs.size (bindL (envOfC qual scope s.heap.objs.size f cd).kindOf (ps.zip us) fun _=>none) (cellsFrom (s.heap.objs.size + 1) scope.names []) (bindC (envOfC qual scope s.heap.objs.size f cd).kindOf (ps.zip us) fun _=>none) s1):
   Inv (mF CX P w K mg base N qual scope f cd A outer s H E) [] (start N vs) H s1:=by
 have yh:ps.length<=N.length:=by have:=congrArg List.length S.pre;rw [List.length_take] at this;omega
 obtain ⟨h1,tk,rfl,hk⟩:=x.done
 have Ly:∀ b:Addr,b∉(mF CX P w K mg base N qual scope f cd A outer s H E).ex:=fun b z=>absurd (show b∈([]:List Addr) from z) (by simp)
 refine ⟨⟨e0.mod,S.kind,rfl,rfl,Nat.le_refl _,fun y z c h1 h2=>?_,fun y hy=>?_,fun y c _ h=>?_,fun _=>hd,Around.frames_deeper e0.frames,.inr ⟨rfl,rfl⟩,fun b z=>absurd z (Ly b),e0.bs,e0.Dm,fun b _ _=>Ly b,fun b z=>absurd z (Ly b),e0.mj,e0.Dr⟩,
   rfl,e0.bare,Un.kept hk,⟨_,x.toInCall.ns,fun i y v h1 h2 h3=>?_⟩,fun y c h=>⟨_,x.cell y c h⟩,e0.cX.fresh (Nat.le_refl _),fun y c h=>?_,fun p hp=>absurd (show p∈([]:List (Addr×Obj)) from hp) (by simp),e0.cX.kept hk,?_⟩
 . exact name_of_addr x.apart (PySem.mem_of_lookup h1) (PySem.mem_of_lookup h2)
 . have hy:scope.names.lookup y=some .cell∨scope.names.lookup y=some .free:=hy
   rcases hy with hy | hy
   . exact yE hy
   . exact absurd rfl (S.IZ _ (PySem.mem_of_lookup hy))
 . exact Nat.le_of_lt (x.above y c (PySem.mem_of_lookup h))
 . have hi:i < vs.length:=by
     unfold start at h2
     by_cases hi:i < vs.length
     . exact hi
     . rw [List.getElem?_append_right (by simpa using hi)] at h2
       rw [List.getElem?_replicate] at h2
       split at h2 <;> cases h2
   have ha:vs[i]?=some v:=by
     unfold start at h2
     rw [List.getElem?_append_left (by simpa using hi),List.getElem?_map] at h2
     cases e:vs[i]? with
     | none=>rw [e] at h2;cases h2
     | some a=>rw [e] at h2;cases h2;rfl
   obtain ⟨u,hu,rv⟩:=r.get ha
   have hp:ps[i]?=some y:=by
     rw [<- S.pre,List.getElem?_take_of_lt (by omega)];exact h1
   have ndP:ps.Nodup:=by rw [<- S.pre];exact S.nd.sublist (List.take_sublist _ _)
   refine ⟨u,rv,?_⟩
   rcases S.par y (List.mem_of_getElem? hp) with k | k
   . exact .inl ⟨k,uX ndP hp hu k⟩
   . obtain ⟨c,e⟩:=yE (n:=s.heap.objs.size + 1) k
     refine .inr ⟨.inl k,c,e,?_⟩
     have q:=x.cell y c e
     rw [uY ndP hp hu (by show scope.names.lookup y≠_;rw [k];decide)] at q
     exact q
 . exact e0.cX.fresh (Nat.le_of_lt (x.above y c (PySem.mem_of_lookup h)))
 . unfold start
   show _=N.length
   rw [List.length_append,List.length_map,List.length_replicate]
   omega
theorem HQ {CX:uT} {P:Program} {w:World} {K:PySem.W.Frag} {mg:Str->Option Value} {base:Heap} {k:Nat} {f:Addr} {name qual:Str} {params:Arguments} {body:List Stmt} {scope:Scope} {dV kV doc pm dg ct oc:Value} {an od:Option Addr}
   {GA:Array (Option Value)} {N ps:List Str} {sp:Sp} (lk:K.lookup f=some ⟨oc,od,.func (PySem.W.fnOf name qual params body scope dV kV doc pm an dg ct),GA⟩) (Cf:PySem.W.codeIn K dg qual=true) (S:aE N ps scope)
   (len:∀ vs H Q E,sp vs H Q E->vs.length=ps.length)
   (oB:∀ (A:Around) (outer:List Env) (s:Shared) (H:Hp) (vs:List V) (Q:VK) (E:XK),jx k (A.deeper (envOfC qual scope s.heap.objs.size f dg))->sp vs H Q E->
     ∃ t,zS (mF CX P w K mg base N qual scope f dg A outer s H E) body t/\t { nx:=fun _ H'=>Q .cY H',rt:=Q } (start N vs) H):
   bB P w K mg base CX (k + 1) f (PySem.W.fnOf name qual params body scope dV kV doc pm an dg ct) ps sp:=by
 refine ⟨len,fun A outer s H args us vs Q E hr e0 hb r FZ=>?_⟩
 have hl:=len _ _ _ _ FZ
 have KX:K.In s.heap:=e0.mod.HG.keeps fun b o e=>(e0.bs b o e).1
 have lim:s.heap.NoLimit:=e0.mod.nolimit.keeps fun b o e=>(e0.bs b o e).1
 have Lz:∀ y∈ps.zip us,scope.names.lookup y.1=some .local∨(scope.names.lookup y.1=some .cell/\((cellsFrom (s.heap.objs.size + 1) scope.names []).lookup y.1).isSome=true):=fun ⟨n,v⟩ hy=>by
   rcases S.par n (List.of_mem_zip hy).1 with q | q
   . exact .inl q
   . exact .inr ⟨q,PySem.W.cellsFrom_some _ _ _ (.inl q)⟩
 refine codeAny_call_function hr.depth (KX _ _ lk) rfl S.co S.gen rfl (PySem.W.codeRec_of KX Cf) (hb _ _ _ _ ?_)
 refine wpAny_newFunctionEnv_cells S.kind Lz fun env he s1 x=>?_
 subst he
 refine ⟨lim.keeps x.toInCall.keep,codeAny_func ?_⟩
 obtain ⟨t,ht,hq⟩:=oB A outer s H vs Q E (hr.deeper _) FZ
 have I:Inv (mF CX P w K mg base N qual scope f dg A outer s H E) [] (start N vs) H s1:=Cs S hr.hd e0 hl r x
 refine wpAny_mono (ht [] s1 (start N vs) H _ I hq) (fun fl s' hs=>?_) fun e s' hs=>hs
 have fin:∀ {σ':St} {H':Hp} {v:V} {u:Value},Inv (mF CX P w K mg base N qual scope f dg A outer s H E) [] σ' H' s'->RelV v u->Q v H'->CE outer P w H s Q u s':=
   fun {σ' H' v u} J rv q=>⟨v,H',J.os,J.bare,J.base,J.cX,rv,q⟩
 cases fl with
 | ret u=>
   obtain ⟨v,σ',H',J,rv,q⟩:=hs
   exact fin J rv q
 | next=>
   obtain ⟨σ',H',J,q⟩:=hs
   exact fin (v:=V.cY) (u:=Value.none) J rfl q
 | brk=>
   obtain ⟨_,_,_,q⟩:=hs
   exact False.elim q
 | cont=>
   obtain ⟨_,_,_,q⟩:=hs
   exact False.elim q
end L2
namespace L2
open PySem PySem.Spec PyProof.Rows
section
variable {X:Cx} {x:Str} {p pos:Pos} {e:Expr} {es:List Expr} {t:TA} {id T:String} {r:List V->Hp->VK->Prop}
def Ja (r:List V->Hp->VK->Prop) (t:TA):TE:=fun σ H Q=>t σ H fun vs H1=>r vs H1 Q
theorem DT (hc:gE X (.builtin id) r) (hg:Gl X x) (hm:X.mg x=none) (hv:bootBuiltins x=some (.builtin id)) (ha:PA X (e::es) t) (hn:x≠"__name__":=by decide) (uU:(x==("__debug__":Str))=false:=by decide)
   (he:starEach (e::es) X.env=(false,eval e X.env)::starEach es X.env:=by rfl) (yh:(backTo pos (starEach es X.env)).any (·.1)=false:=by rfl):PE X (.Call (.Name x p) (e::es) [] pos) (Ja r t):=by
 intro pins s σ H Q I h
 refine wpAny_Call_Name_kw (pV I hg hm hv ?_ hn uU)
 exact PyProof.Rows.callWith_builtin1 (dZ (ha pos pins s σ H _ I h) fun us s1 ⟨vs,H1,I1,r1,q1⟩=>hc pins s1 σ H1 vs us Q I1 r1 q1) he yh
theorem Ct (hc:gE X (.type T) r) (hg:Gl X x) (hm:X.mg x=none) (hv:bootBuiltins x=some (.type T)) (ha:PA X (e::es) t) (hn:x≠"__name__":=by decide) (uU:(x==("__debug__":Str))=false:=by decide)
   (he:starEach (e::es) X.env=(false,eval e X.env)::starEach es X.env:=by rfl) (yh:(backTo pos (starEach es X.env)).any (·.1)=false:=by rfl):PE X (.Call (.Name x p) (e::es) [] pos) (Ja r t):=by
 intro pins s σ H Q I h
 refine wpAny_Call_Name_kw (pV I hg hm hv ?_ hn uU)
 exact PyProof.Rows.callWith_type1 (dZ (ha pos pins s σ H _ I h) fun us s1 ⟨vs,H1,I1,r1,q1⟩=>hc pins s1 σ H1 vs us Q I1 r1 q1) he yh
end
end L2
namespace HT
open PySem PyProof.Rows
section
open PySem.SeqAt
open PySem.AutoSeq1 (wpAny_loadPart')
open PySem.MeetsSeq PySem.MeetsSeq2 PySem.MeetsSeq3
end
section
variable {prog:Program} {w:World} {A:Around} {E:Value->Shared->Prop} {s:Shared}
def yF (n d:Nat):Option Int->Nat
 | none=>d
 | some v=>if v < 0 then (v + (n:Int)).toNat else min v.toNat n
theorem yG (n d:Nat):yF n d none=d:=rfl
theorem Bo (n d k:Nat):yF n d (some (k:Int))=min k n:=by
 show (if (k:Int) < 0 then ((k:Int) + (n:Int)).toNat else min (k:Int).toNat n)=min k n
 rw [if_neg (by omega),Int.toNat_natCast]
end
end HT
namespace L2
open PySem PySem.Spec PyProof.Rows
abbrev TO:=St->Hp->(Option Int->Hp->Prop)->Prop
def PO (X:Cx) (e:Option Expr) (t:TO):Prop:=
 ∀ (pins:List (Addr×Obj)) (s:Shared) (σ:St) (H:Hp) (Q:Option Int->Hp->Prop),Inv X pins σ H s->t σ H Q->
   wpAny (model X.prog X.w) X.A (evalPart e X.env) (fun u s'=>∃ o H',Inv X pins σ H' s'/\IsPart u o/\Q o H') X.xe s
def oE:TO:=fun _ H Q=>Q none H
def yH (t:TE):TO:=fun σ H Q=>t σ H fun x H1=>∃ i,x=.int i/\Q (some i) H1
section
variable {X:Cx} {e:Expr} {te:TE} {lo hi:Option Expr} {tl th:TO} {pos p2:Pos}
theorem GB:PO X none oE:=by
 intro pins s σ H Q I h
 rw [evalPart_none]
 exact wpAny_pure ⟨none,H,I,.none,h⟩
theorem GC (h:PE X e te):PO X (some e) (yH te):=by
 intro pins s σ H Q I hw
 rw [evalPart_some]
 refine dZ (h pins s σ H _ I hw) fun u s1 ⟨x,H1,I1,r1,q1⟩=>?_
 obtain ⟨i,rfl,q⟩:=q1
 obtain ⟨t,rfl⟩:=r1
 exact ⟨some i,H1,I1,.int i t,q⟩
def N3 (X:Cx) (r:V->Option Int->Option Int->Hp->VK->Prop):Prop:=
 ∀ (pins:List (Addr×Obj)) (s:Shared) (σ:St) (H:Hp) (x:V) (v vl vu:Value) (lo hi:Option Int) (sl:Addr) (Q:VK),Inv X pins σ H s->RelV x v->s.heap.IsSliceOf sl vl vu .none->IsPart vl lo->IsPart vu hi->r x lo hi H Q->
   ∃ T id,typeLookup (.type T) "__getitem__"=pure (some (.builtin id))/\s.TypeIs v T/\wpAny (model X.prog X.w) X.A (getItem v (.ref sl)) (EP X pins σ Q) X.xe s
def LA (r:V->Option Int->Option Int->Hp->VK->Prop) (te:TE) (tl th:TO):TE:=fun σ H Q=>te σ H fun x H1=>tl σ H1 fun l H2=>th σ H2 fun u H3=>r x l u H3 Q
theorem DU {r:V->Option Int->Option Int->Hp->VK->Prop} (hr:N3 X r) (he:PE X e te) (hl:PO X lo tl) (hu:PO X hi th):PE X (.Subscript e (.Slice lo hi none p2) pos) (LA r te tl th):=by
 intro pins s σ H Q I h
 refine Subscript_ (dZ (he pins s σ H _ I h) fun v s1 ⟨x,H1,I1,r1,q1⟩=>?_)
 refine wpAny_Slice (dZ (hl pins s1 σ H1 _ I1 q1) fun vl s2 ⟨l,H2,I2,pl,q2⟩=>dZ (hu pins s2 σ H2 _ I2 q2) fun vu s3 ⟨u,H3,I3,pu,q3⟩=>?_)
 rw [evalPart_none]
 refine wpAny_pure ?_
 have I4:Inv X pins σ H3 { s3 with heap:=s3.heap.push { cls:=.type "slice",data:=.fields #[vl,vu,.none] } }:=I3.kept (t':=s3.toks) fun b ob q=>Heap.get?_push_of_some _ q
 obtain ⟨T,id,hT,ht,hg⟩:=hr pins { s3 with heap:=s3.heap.push { cls:=.type "slice",data:=.fields #[vl,vu,.none] } } σ H3 x v vl vu l u s3.heap.objs.size Q I4 r1 (Heap.IsSliceOf.new ..) pl pu q3
 show wpAny (model X.prog X.w) X.A (subscriptTail e (.Slice lo hi none p2) v (.ref s3.heap.objs.size)) (EP X pins σ Q) X.xe { s3 with heap:=s3.heap.push { cls:=.type "slice",data:=.fields #[vl,vu,.none] } }
 exact tail_any (ops:=[.ref s3.heap.objs.size,v]) ht hT hg (by with_unfolding_all rfl)
def iK (xs:List V) (lo hi:Option Int):List V:=(xs.drop (HT.yF xs.length 0 lo)).take (HT.yF xs.length xs.length hi - HT.yF xs.length 0 lo)
theorem j3 (xs:List V) (lo hi:Option Int):(iK xs lo hi).length<=xs.length:=by
 unfold iK
 rw [List.length_take,List.length_drop]
 omega
end
end L2
namespace L2
open PySem PySem.Spec PyProof.Rows
def Bp (n:Nat) (i:Int):Option Nat:=if 0<=i then (if i < n then some i.toNat else none) else if -(n:Int)<=i then some (i + n).toNat else none
def pU {α:Type} (xs:List α) (i:Int):Option α:=(Bp xs.length i).bind fun j=>xs[j]?
theorem Bq {n:Nat} {i:Int} {j:Nat} (h:Bp n i=some j):seqIndex? i n=some j/\j < n/\-(n:Int)<=i/\i < n:=by
 unfold Bp at h
 by_cases h0:0<=i
 . rw [if_pos h0] at h
   by_cases h1:i < n
   . rw [if_pos h1] at h
     have e:i.toNat=j:=Option.some.inj h
     exact ⟨by rw [seqIndex_of h0 h1,e],by omega,by omega,h1⟩
   . rw [if_neg h1] at h;cases h
 . rw [if_neg h0] at h
   by_cases h1:-(n:Int)<=i
   . rw [if_pos h1] at h
     have e:(i + n).toNat=j:=Option.some.inj h
     exact ⟨by rw [seqIndex_neg (by omega) h1,e],by omega,h1,by omega⟩
   . rw [if_neg h1] at h;cases h
theorem vO {α:Type} {xs:List α} {i:Int} {v:α} (h:pU xs i=some v):∃ j,seqIndex? i xs.length=some j/\xs[j]?=some v/\j < xs.length/\-(xs.length:Int)<=i/\i < xs.length:=by
 unfold pU at h
 cases e:Bp xs.length i with
 | none=>rw [e] at h;cases h
 | some j=>
   rw [e] at h
   obtain ⟨h1,h2,h3,h4⟩:=Bq e
   exact ⟨j,h1,h,h2,h3,h4⟩
theorem oH {α:Type} {xs:List α} {j:Nat} {v:α} (h:xs[j]?=some v):pU xs (j:Int)=some v:=by
 have hj:j < xs.length:=(List.getElem?_eq_some_iff.mp h).1
 have e:Bp xs.length (j:Int)=some j:=by
   unfold Bp
   rw [if_pos (by omega),if_pos (by omega)];simp
 unfold pU;rw [e];exact h
def Br (b:Expr):Prop:=∀ o i,subscripted b false o i=operate [o,i] (getItem o i)
def K0 (X:Cx) (r:R2):Prop:=
 ∀ (value slice:Expr) (pins:List (Addr×Obj)) (s:Shared) (σ:St) (H:Hp) (x y:V) (v u:Value) (Q:VK),Inv X pins σ H s->RelV x v->RelV y u->r x y H Q->
   subscripted slice false v u=operate [v,u] (getItem v u)->wpAny (model X.prog X.w) X.A (subscriptTail value slice v u) (EP X pins σ Q) X.xe s
def DV (X:Cx) (id:String) (r:V->List V->Hp->VK->Prop):Prop:=
 ∀ (pins:List (Addr×Obj)) (s:Shared) (σ:St) (H:Hp) (x:V) (xs:List V) (v:Value) (us:List Value) (Q:VK),Inv X pins σ H s->RelV x v->Vals xs us->r x xs H Q->
   wpAny (model X.prog X.w) X.A (call (.builtin id) (v::us)) (EP X pins σ Q) X.xe s
section
variable {X:Cx} {a b:Expr} {ta tb:TE} {pos:Pos}
theorem LB {r:R2} (hr:K0 X r) (ha:PE X a ta) (hb:PE X b tb) (hs:Br b):PE X (.Subscript a b pos) (DM r ta tb):=by
 intro pins s σ H Q I h
 exact Subscript_ (IP ha hb I h fun v u s2 x y H2 I2 rx ry q=>hr a b pins s2 σ H2 x y v u Q I2 rx ry q (hs _ _))
def LC (K:PySem.W.Frag):R2:=fun x y H Q=>∃ p xs i v,x=.ref p/\y=.int i/\bC K H p xs/\pU xs i=some v/\Q v H
def QC (K:PySem.W.Frag):R2:=fun x y H Q=>∃ p xs i v,x=.ref p/\y=.int i/\mw K H p xs/\pU xs i=some v/\Q v H
def GD:R2:=fun x y H Q=>∃ z i c,x=.str z/\y=.int i/\z.length<=sizeLine/\pU z.cps.toList i=some c/\Q (.str ⟨#[c]⟩) H
theorem Bs:K0 X (LC X.K):=by
 intro value slice pins s σ H x y v u Q I rx ry h hs
 obtain ⟨p,xs,i,z,rfl,rfl,hq,he,q⟩:=h
 cases rx
 obtain ⟨t,rfl⟩:=ry
 obtain ⟨its,r,pl,hz⟩:=I.list hq
 obtain ⟨j,h1,h2,h3,h4,h5⟩:=vO he
 obtain ⟨w,ew,rw'⟩:=r.get h2
 have hl:=r.length
 have hn:=nU
 have fin:EP X pins σ Q w s:=⟨z,H,I,rw',q⟩
 by_cases h0:0<=i
 . have hj:i.toNat=j:=by
     rw [seqIndex_of h0 h5] at h1
     exact Option.some.inj h1
   exact item_listR pl.isList h0 (by omega) (by rw [hj];simpa using ew) fin hs
 . have hj:(i + (its.toArray.size:Int)).toNat=j:=by
     rw [seqIndex_neg (by omega) h4] at h1
     rw [List.size_toArray,<- hl]
     exact Option.some.inj h1
   exact subscriptTail_builtinR (x:=w) pl.isList.typeIs slot_list_getitem.lookup
     (wpAny_getItem_list_neg (Q:=fun r s'=>r=w/\EP X pins σ Q r s') pl.isList (by omega) (by rw [List.size_toArray] <;> omega) (by omega) (by rw [hj];simpa using ew) ⟨rfl,fin⟩) hs
theorem Jb:K0 X (QC X.K):=by
 intro value slice pins s σ H x y v u Q I rx ry h hs
 obtain ⟨p,xs,i,z,rfl,rfl,hq,he,q⟩:=h
 cases rx
 obtain ⟨t,rfl⟩:=ry
 obtain ⟨its,r,pl,hz⟩:=I.tuple hq
 obtain ⟨j,h1,h2,h3,h4,h5⟩:=vO he
 obtain ⟨w,ew,rw'⟩:=r.get h2
 have hl:=r.length
 have hn:=nU
 have fin:EP X pins σ Q w s:=⟨z,H,I,rw',q⟩
 exact subscriptTail_builtinR (x:=w) pl.typeIs slot_tuple_getitem.lookup
   (getItem_tuple (j:=j) (Q:=fun r s'=>r=w/\EP X pins σ Q r s') pl (by omega) (by omega) (by rw [List.size_toArray,<- hl];exact h1) (by simpa using ew) ⟨rfl,fin⟩) hs
theorem mG:K0 X GD:=by
 intro value slice pins s σ H x y v u Q I rx ry h hs
 obtain ⟨z,i,c,rfl,rfl,hz,he,q⟩:=h
 obtain ⟨t,rfl⟩:=rx
 obtain ⟨t',rfl⟩:=ry
 obtain ⟨j,h1,h2,h3,h4,h5⟩:=vO he
 have hl:z.cps.toList.length=z.length:=by simp [Str.length]
 rw [hl] at h1 h4 h5
 have hn:=nU
 exact tail_any (typeIs_str s z t) slot_str_getitem.lookup (getItem_str (c:=c) (by
   have e1:decide (i < -(2 ^ 63:Int))=false:=decide_eq_false (by omega)
   have e2:decide (i≥2 ^ 63)=false:=decide_eq_false (by omega)
   rw [e1,e2,Bool.or_false]) (by rw [h1];simpa using h2) ⟨.str ⟨#[c]⟩,H,I.tok _,⟨_,rfl⟩,q⟩) hs
theorem Ab (its:List Value) (n j:Nat) (u:Value):Obj.mapSeq (·.setIfInBounds j u) { cls:=.type "list",data:=.seq its.toArray n }={ cls:=.type "list",data:=.seq (its.set j u).toArray n }:=by
 simp [Obj.mapSeq]
theorem Inv.lst {pins:List (Addr×Obj)} {σ:St} {H:Hp} {s:Shared} {p:Addr} {xs:List V} (I:Inv X pins σ H s) (h:H p=some (.lst xs)):
   ∃ (its:List Value) (n:Nat),Vals xs its/\s.heap.get? p=some { cls:=.type "list",data:=.seq its.toArray n }/\xs.length<=sizeLine:=by
 obtain ⟨z,its,n,r,e⟩:=I.cX p _ h
 exact ⟨its,n,r,e,z⟩
theorem Inv.Jc {pins:List (Addr×Obj)} {σ:St} {H:Hp} {s:Shared} {p:Addr} {xs ys:List V} {its its':List Value} {n n':Nat} {f:Obj->Obj} (I:Inv X pins σ H s) (h:H p=some (.lst xs))
   (ho:s.heap.get? p=some { cls:=.type "list",data:=.seq its.toArray n }) (hf:f { cls:=.type "list",data:=.seq its.toArray n }={ cls:=.type "list",data:=.seq its'.toArray n' }) (r:Vals ys its') (hz:ys.length<=sizeLine) (t:Nat):
   Inv X pins σ (upd H p (.lst ys)) { s with heap:=s.heap.update p f,toks:=t }:=by
 have e:(s.heap.update p f).get? p=some { cls:=.type "list",data:=.seq its'.toArray n' }:=by
   rw [Heap.get?_update_self f ho (by rw [hf] <;> rfl),hf]
 refine I.write (x:=p) (e:=p) (by rw [h];trivial) (.inl rfl) (fun b u hb q=>(Heap.get?_update_other _ _ (Ne.symm hb)).trans q) ⟨_,e⟩ ?_
 exact ⟨hz,its',n',r,e⟩
def Bt:V->V->V->Hp->(Hp->Prop)->Prop:=fun o i v H Q=>∃ p xs k j,o=.ref p/\i=.int k/\H p=some (.lst xs)/\Bp xs.length k=some j/\Q (upd H p (.lst (xs.set j v)))
theorem set_list:IF X Bt:=by
 intro pins s σ H o i v ov iv u Q I ro ri rv h
 obtain ⟨p,xs,k,j,rfl,rfl,hp,hj,q⟩:=h
 cases ro
 obtain ⟨t,rfl⟩:=ri
 obtain ⟨its,n,r,ho,hz⟩:=I.lst hp
 obtain ⟨h1,h2,h3,h4⟩:=Bq hj
 have hl:=r.length
 have hn:=nU
 have I':Inv X pins σ (upd H p (.lst (xs.set j v))) { s with heap:=s.heap.update p (Obj.mapSeq (·.setIfInBounds j u)) }:=
   I.Jc hp ho (Ab its n j u) (r.set rv j) (by rw [List.length_set];exact hz) s.toks
 by_cases h0:0<=k
 . have hk:k.toNat=j:=by
     rw [seqIndex_of h0 h4] at h1
     exact Option.some.inj h1
   exact PySem.W.ki_setAt ho h0 (by omega) (by rw [List.size_toArray,<- hl];exact h4) (by rw [hk];exact ⟨_,I',q⟩)
 . have hk:(k + (its.toArray.size:Int)).toNat=j:=by
     rw [seqIndex_neg (by omega) h3] at h1
     rw [List.size_toArray,<- hl]
     exact Option.some.inj h1
   exact PySem.W.ki_setBack ho (by omega) (by rw [List.size_toArray,<- hl];exact h3) (by omega) (by rw [hk];exact ⟨_,I',q⟩)
theorem vP (lo hi:Option Int) (n:Nat):(sliceBounds lo hi none n).1=((HT.yF n 0 lo:Nat):Int)/\(sliceBounds lo hi none n).2.1=((HT.yF n n hi:Nat):Int)/\(sliceBounds lo hi none n).2.2=1:=by
 refine ⟨?_,?_,rfl⟩
 . cases lo with
   | none=>simp [sliceBounds,HT.yF]
   | some i=>
     simp only [sliceBounds,HT.yF,Option.getD_none,show (1:Int) > 0 by decide,if_true]
     by_cases h:i < 0
     . simp only [h,if_true] <;> omega
     . simp only [h,if_false] <;> omega
 . cases hi with
   | none=>simp [sliceBounds,HT.yF]
   | some i=>
     simp only [sliceBounds,HT.yF,Option.getD_none,show (1:Int) > 0 by decide,if_true]
     by_cases h:i < 0
     . simp only [h,if_true] <;> omega
     . simp only [h,if_false] <;> omega
theorem uq (its:List Value) (lo hi:Option Int):slicePick its.toArray lo hi none=((its.drop (HT.yF its.length 0 lo)).take (HT.yF its.length its.length hi - HT.yF its.length 0 lo)).toArray:=by
 obtain ⟨h1,h2,h3⟩:=vP lo hi its.toArray.size
 unfold slicePick
 rw [h1,h2,h3]
 simp only [sliceRange_one,pick_run,List.size_toArray] <;> rfl
def mH:V->Bool
 | .cY=>true
 | .bl _=>true
 | .int _=>true
 | .str _=>true
 | _=>false
def GF:V->V->Bool
 | .cY,.cY=>true
 | .bl a,.bl b=>a==b
 | .bl a,.int b=>(if a then 1 else 0)==b
 | .int a,.bl b=>a==(if b then 1 else 0)
 | .int a,.int b=>a==b
 | .str a,.str b=>a==b
 | _,_=>false
theorem Jd {A:Around} {s:Shared} {y x:V} {u v:Value} (ry:RelV y u) (rx:RelV x v) (fy:mH y=true) (fx:mH x=true):SeqAt.EqAt A s u v (GF y x):=by
 cases y with
 | cY=>
   cases ry
   cases x with
   | cY=>cases rx;exact SeqAt.EqAt.same _
   | bl b=>cases rx;exact SeqAt.EqAt.none_bool b
   | int b=>obtain ⟨t,rfl⟩:=rx;exact SeqAt.EqAt.none_int b t
   | str b=>obtain ⟨t,rfl⟩:=rx;exact SeqAt.EqAt.none_str b t
   | _=>exact absurd (show false=true from fx) Bool.false_ne_true
 | bl a=>
   cases ry
   cases x with
   | cY=>cases rx;exact SeqAt.EqAt.bool_none a
   | bl b=>cases rx;exact SeqAt.EqAt.bool_bool a b
   | int b=>obtain ⟨t,rfl⟩:=rx;exact SeqAt.EqAt.bool_int a b t
   | str b=>obtain ⟨t,rfl⟩:=rx;exact SeqAt.EqAt.bool_str a b t
   | _=>exact absurd (show false=true from fx) Bool.false_ne_true
 | int a=>
   obtain ⟨t',rfl⟩:=ry
   cases x with
   | cY=>cases rx;exact SeqAt.EqAt.int_none a t'
   | bl b=>cases rx;exact SeqAt.EqAt.int_bool a t' b
   | int b=>obtain ⟨t,rfl⟩:=rx;exact SeqAt.EqAt.int_int a t' b t
   | str b=>obtain ⟨t,rfl⟩:=rx;exact SeqAt.EqAt.int_str a t' b t
   | _=>exact absurd (show false=true from fx) Bool.false_ne_true
 | str a=>
   obtain ⟨t',rfl⟩:=ry
   cases x with
   | cY=>cases rx;exact SeqAt.EqAt.str_none a t'
   | bl b=>cases rx;exact SeqAt.EqAt.str_bool a t' b
   | int b=>obtain ⟨t,rfl⟩:=rx;exact SeqAt.EqAt.str_int a t' b t
   | str b=>obtain ⟨t,rfl⟩:=rx;exact SeqAt.EqAt.str_str a t' b t
   | _=>exact absurd (show false=true from fx) Bool.false_ne_true
 | _=>exact absurd (show false=true from fy) Bool.false_ne_true
def Ac (x:V) (u:Value):Bool:=match u with
 | .none=>GF .cY x
 | .bool b=>GF (.bl b) x
 | .int i _=>GF (.int i) x
 | .str z _=>GF (.str z) x
 | _=>false
theorem DW {x y:V} {u:Value} (r:RelV y u) (f:mH y=true):Ac x u=GF y x:=by
 cases y with
 | cY=>cases r;rfl
 | bl b=>cases r;rfl
 | int i=>obtain ⟨t,rfl⟩:=r;rfl
 | str z=>obtain ⟨t,rfl⟩:=r;rfl
 | _=>exact absurd (show false=true from f) Bool.false_ne_true
theorem oJ {x:V}:∀ {xs:List V} {us:List Value},Vals xs us->xs.all mH=true->us.any (Ac x)=xs.any fun y=>GF y x
 | _,_,.nil,_=>rfl
 | y::xs,u::us,.cons r t,f=>by
   rw [List.all_cons,Bool.and_eq_true] at f
   rw [List.any_cons,List.any_cons,DW r f.1,oJ t f.2]
theorem mJ {A:Around} {s:Shared} {x:V} {v:Value} (rx:RelV x v) (fx:mH x=true):∀ {xs:List V} {us:List Value},Vals xs us->xs.all mH=true->∀ u∈us,SeqAt.EqAt A s u v (Ac x u)
 | _,_,.nil,_=>fun u hu=>by cases hu
 | y::xs,u::us,.cons r t,f=>fun u' hu=>by
   rw [List.all_cons,Bool.and_eq_true] at f
   rcases List.mem_cons.mp hu with rfl | hu
   . rw [DW r f.1];exact Jd r rx f.1 fx
   . exact mJ rx fx t f.2 u' hu
def HR (x:V) (xs:List V):Bool:=xs.any fun y=>GF y x
def rIn (K:PySem.W.Frag) (neg:Bool):R2:=fun x y H Q=>∃ p xs,y=.ref p/\(bC K H p xs∨mw K H p xs)/\mH x=true/\xs.all mH=true/\Q (.bl (if neg then !HR x xs else HR x xs)) H
theorem Cu:kU X (compareOp .In) (rIn X.K false):=by
 intro pins s σ H x y v u Q I rx ry h
 obtain ⟨p,xs,rfl,hq,fx,fs,q⟩:=h
 cases ry
 rcases hq with hq | hq
 . obtain ⟨its,r,pl,hz⟩:=I.list hq
   refine SeqAt.in_listAt (Ac x) pl.isList (fun w hw=>mJ rx fx r fs w (by simpa using hw)) ⟨.bl _,H,I,rfl,?_⟩
   rw [show its.toArray.any (Ac x)=its.any (Ac x) by simp,oJ r fs]
   exact q
 . obtain ⟨its,r,pl,hz⟩:=I.tuple hq
   refine SeqAt.in_tupleAt (Ac x) pl (fun w hw=>mJ rx fx r fs w (by simpa using hw)) ⟨.bl _,H,I,rfl,?_⟩
   rw [show its.toArray.any (Ac x)=its.any (Ac x) by simp,oJ r fs]
   exact q
theorem vQ:kU X (compareOp .NotIn) (rIn X.K true):=by
 intro pins s σ H x y v u Q I rx ry h
 obtain ⟨p,xs,rfl,hq,fx,fs,q⟩:=h
 cases ry
 rcases hq with hq | hq
 . obtain ⟨its,r,pl,hz⟩:=I.list hq
   refine SeqAt.notIn_listAt (Ac x) pl.isList (fun w hw=>mJ rx fx r fs w (by simpa using hw)) ⟨.bl _,H,I,rfl,?_⟩
   rw [show its.toArray.any (Ac x)=its.any (Ac x) by simp,oJ r fs]
   exact q
 . obtain ⟨its,r,pl,hz⟩:=I.tuple hq
   refine SeqAt.notIn_tupleAt (Ac x) pl (fun w hw=>mJ rx fx r fs w (by simpa using hw)) ⟨.bl _,H,I,rfl,?_⟩
   rw [show its.toArray.any (Ac x)=its.any (Ac x) by simp,oJ r fs]
   exact q
theorem lE:gE X (.builtin "len") (fun xs H Q=>∃ p ys,xs=[.ref p]/\(bC X.K H p ys∨mw X.K H p ys)/\Q (.int ys.length) H):=by
 intro pins s σ H xs us Q I r h
 obtain ⟨p,ys,rfl,hq,q⟩:=h
 obtain ⟨u,rfl,rx⟩:=vals1 r
 cases rx
 have hn:=nU
 rcases hq with hq | hq
 . obtain ⟨its,r',pl,hz⟩:=I.list hq
   have hlen:=r'.length
   exact Calls.call_len_list pl.isList (by simp only [List.size_toArray] <;> omega) ⟨.int ys.length,H,I.tok _,⟨s.toks + 1,by rw [List.size_toArray,hlen]⟩,q⟩
 . obtain ⟨its,r',pl,hz⟩:=I.tuple hq
   have hlen:=r'.length
   exact len_tuple pl (by simp only [List.size_toArray] <;> omega) ⟨.int ys.length,H,I.tok _,⟨s.toks + 1,by rw [List.size_toArray,hlen]⟩,q⟩
theorem gi:gE X (.builtin "len") (fun xs H Q=>∃ z,xs=[.str z]/\z.length<=sizeLine/\Q (.int z.length) H):=by
 intro pins s σ H xs us Q I r h
 obtain ⟨z,rfl,hz,q⟩:=h
 obtain ⟨u,rfl,t,rfl⟩:=vals1 r
 have hn:=nU
 exact len_str (by omega) ⟨.int z.length,H,I.tok _,⟨_,rfl⟩,q⟩
def K1 (K:PySem.W.Frag) (T:String) (x:V) (H:Hp):Prop:=match x with
 | .str _=>T="str"
 | .int _=>T="int"
 | .ref p=>(T="list"/\∃ xs,bC K H p xs)∨(T="tuple"/\∃ o,K.lookup p=some o/\o.cls=.type "tuple"/\o.dict=none)∨
     (T="dict"/\((∃ kvs,H p=some (.dK kvs))∨∃ kvs,H p=some (.dT kvs)))∨(T="set"/\∃ S n,H p=some (.set S n))
 | _=>False
theorem DX {pins:List (Addr×Obj)} {σ:St} {H:Hp} {s:Shared} {T:String} {x:V} {v:Value} (I:Inv X pins σ H s) (r:RelV x v) (ty:K1 X.K T x H):
   s.TypeIs v T/\∀ a,v=.ref a->∃ ob,s.heap.get? a=some ob/\ob.dict=none:=by
 cases x with
 | str z=>
   obtain ⟨t,rfl⟩:=r
   cases (show T="str" from ty)
   exact ⟨typeIs_str s z t,fun _ e=>nomatch e⟩
 | int i=>
   obtain ⟨t,rfl⟩:=r
   cases (show T="int" from ty)
   exact ⟨typeIs_int s i t,fun _ e=>nomatch e⟩
 | ref p=>
   cases r
   rcases ty with ⟨rfl,xs,hq⟩ | ⟨rfl,o,hk,hc,hd⟩ | ⟨rfl,hk⟩ | ⟨rfl,S,n,hk⟩
   . obtain ⟨its,_,pl,_⟩:=I.list hq
     refine ⟨pl.isList.typeIs,fun a e=>?_⟩
     cases e
     obtain ⟨o,n,e,c,hd,_⟩:=pl
     exact ⟨o,e,hd⟩
   . refine ⟨⟨o,I.qG p o hk,hc⟩,fun a e=>?_⟩
     cases e
     exact ⟨o,I.qG _ o hk,hd⟩
   . have z:∃ o,s.heap.get? p=some o/\o.ExactDict:=by
       rcases hk with ⟨kvs,hk⟩ | ⟨kvs,hk⟩
       . obtain ⟨_,_,_,_,o,_,_,e,ex,_⟩:=I.cX p _ hk
         exact ⟨o,e,ex⟩
       . obtain ⟨_,_,_,_,o,_,_,e,ex,_⟩:=I.cX p _ hk
         exact ⟨o,e,ex⟩
     obtain ⟨o,e,ex⟩:=z
     refine ⟨⟨o,e,ex.1⟩,fun a e2=>?_⟩
     cases e2
     exact ⟨o,e,ex.2.1⟩
   . obtain ⟨o,_,_,_,e,ex,_⟩:=I.cX p _ hk
     refine ⟨⟨o,e,ex.1⟩,fun a e2=>?_⟩
     cases e2
     exact ⟨o,e,ex.2.1⟩
 | _=>exact False.elim ty
def DY (K:PySem.W.Frag) (T:String) (r:V->List V->Hp->VK->Prop) (to:TE):TE:=fun σ H Q=>to σ H fun x H1=>K1 K T x H1/\r x [] H1 Q
def LD (K:PySem.W.Frag) (T:String) (r:V->List V->Hp->VK->Prop) (to:TE) (t:TA):TE:=fun σ H Q=>to σ H fun x H1=>K1 K T x H1/\t σ H1 fun xs H2=>r x xs H2 Q
variable {o e:Expr} {es:List Expr} {to:TE} {t:TA} {name:Str} {apos jX:Pos} {T id:String} {r:V->List V->Hp->VK->Prop}
theorem Je (pa:PlainAttrs T) (slot:Slot T name id) (Bu:typeOf (.builtin id)=pure (.type "method_descriptor")) (hm:DV X id r) (ho:PE X o to)
   (sG:attributeBase o name X.env (eval o X.env)=eval o X.env:=by rfl) (sH:(apos.endLine==jX.line)=true:=by rfl):PE X (.Call (.Attribute o name apos) [] [] jX) (DY X.K T r to):=by
 intro pins s σ H Q I h
 refine wpAny_Call_method0_late sG sH (dZ (ho pins s σ H _ I h) fun v s1 ⟨x,H1,I1,r1,ty,q1⟩=>?_)
 obtain ⟨h1,h2⟩:=DX I1 r1 ty
 exact ⟨T,id,pa,slot,Bu,h1,h2,Calls.callWith_builtin rfl (PySem.evalArgs_none (hm pins s1 σ H1 x [] v [] Q I1 r1 .nil q1))⟩
theorem LF (pa:PlainAttrs T) (slot:Slot T name id) (Bu:typeOf (.builtin id)=pure (.type "method_descriptor")) (hm:DV X id r) (ho:PE X o to) (ha:PA X (e::es) t)
   (sG:attributeBase o name X.env (eval o X.env)=eval o X.env:=by rfl)
   (Jf:((backTo jX (starEach (e::es) X.env)).all (fun x=>!x.1)&&(backToKw jX (keywordEach [] X.env)).all (fun x=>x.1.isSome)
     &&decide ((e::es).length + ([]:List Keyword).length + (if ([]:List Keyword).isEmpty then 0 else 1) < 30))=true:=by rfl)
   (sH:(apos.endLine==jX.line)=true:=by rfl) (hs:starEach (e::es) X.env=(false,eval e X.env)::starEach es X.env:=by rfl) (Ad:(backTo jX (starEach es X.env)).any (·.1)=false:=by rfl):
   PE X (.Call (.Attribute o name apos) (e::es) [] jX) (LD X.K T r to t):=by
 intro pins s σ H Q I h
 refine wpAny_Call_method_late sG Jf sH rfl (dZ (ho pins s σ H _ I h) fun v s1 ⟨x,H1,I1,r1,ty,q1⟩=>?_)
 obtain ⟨h1,h2⟩:=DX I1 r1 ty
 refine ⟨T,id,pa,slot,Bu,h1,h2,?_⟩
 have hA:=ha jX pins s1 σ H1 _ I1 q1
 rw [hs] at hA ⊢
 refine Calls.callWith_builtin (by show (false||(backTo jX (starEach es X.env)).any (·.1))=false;rw [Ad] <;> rfl) (Calls.evalArgs_plain ?_)
 exact dZ hA fun us s2 ⟨vs,H2,I2,r2,q2⟩=>hm pins s2 σ H2 x vs v us Q I2 r1 r2 q2
end
end L2
namespace L2
open PySem PySem.Spec PyProof.Rows
def MtM (X:Cx) (id:String) (r:V->List V->Hp->VK->Prop):Prop:=
 ∀ (pins:List (Addr×Obj)) (s:Shared) (σ:St) (H:Hp) (x:V) (xs:List V) (v:Value) (us:List Value) (Q:VK),Inv X pins σ H s->RelV x v->Vals xs us->r x xs H Q->
   wpAny (model X.prog X.w) X.A (call (.builtin id) (v::us)) (EP X pins σ Q) X.xe s
theorem Vals.one:∀ {x:V} {us:List Value},Vals [x] us->∃ u,us=[u]/\RelV x u
 | _,_,.cons r .nil=>⟨_,rfl,r⟩
section
variable {X:Cx} {pins:List (Addr×Obj)} {σ:St} {H:Hp} {s:Shared} {l b:Addr} {xs ys zs:List V}
theorem Inv.LG {its its':List Value} {n:Nat} {f:Array Value->Array Value} {t':Nat} (I:Inv X pins σ H s) (hH:H l=some (.lst xs))
   (e:s.heap.get? l=some { cls:=.type "list",data:=.seq its.toArray n }) (hf:f its.toArray=its'.toArray) (hv:Vals ys its') (hz:ys.length<=sizeLine):
   Inv X pins σ (upd H l (.lst ys)) { s with heap:=s.heap.update l (Obj.mapSeq f),toks:=t' }:=by
 have q:=PySem.IsL.update e f
 rw [hf] at q
 refine I.write (x:=l) (e:=l) (by rw [hH];exact trivial) (.inl rfl) (fun b' u hb hu=>(Heap.get?_update_other s.heap (Obj.mapSeq f) (Ne.symm hb)).trans hu) ⟨_,q⟩ ?_
 exact ⟨hz,its',_,hv,q⟩
theorem Inv.LH {its:List Value} {t':Nat} (I:Inv X pins σ H s) (hv:Vals ys its) (hz:ys.length<=sizeLine):
   Inv X pins σ (upd H s.heap.objs.size (.lst ys)) { s with heap:=s.heap.push { cls:=.type "list",data:=.seq its.toArray },toks:=t' }:=
 I.laid (fun _ _ q=>Heap.get?_push_of_some _ q) (Nat.le_refl _) ⟨hz,its,0,hv,Heap.get?_push_size _ rfl⟩
theorem Inv.DZ (I:Inv X pins σ H s) (hH:H l=some (.lst xs)):xs.length<=sizeLine/\∃ (its:List Value) (n:Nat),Vals xs its/\xs.length=its.length/\s.heap.get? l=some { cls:=.type "list",data:=.seq its.toArray n }:=by
 obtain ⟨z,its,n,r,e⟩:=I.cX l _ hH
 exact ⟨z,its,n,r,r.length,e⟩
theorem D7 {n:Nat} (h:n<=sizeLine):Builtin.List.listTooLong n=false:=by
 unfold Builtin.List.listTooLong
 exact decide_eq_false (by omega)
end
section
variable {X:Cx}
def rM:V->List V->Hp->VK->Prop:=fun x vs H Q=>∃ l xs y,x=.ref l/\vs=[y]/\H l=some (.lst xs)/\xs.length < sizeLine/\Q .cY (upd H l (.lst (xs++[y])))
theorem d7:MtM X "list.append" rM:=by
 intro pins s σ H x vs v us Q I rx rv h
 obtain ⟨l,xs,y,rfl,rfl,hH,hz,q⟩:=h
 cases rx
 obtain ⟨u,rfl,ru⟩:=rv.one
 obtain ⟨z,its,n,r,hl,e⟩:=I.DZ hH
 refine call_meets F.slot_list_append ⟨_,e,rfl⟩ F.entry_list_append (F.args_list_append_2 _ _) (PySem.list_append l its.toArray n u (by rw [List.size_toArray];omega)) ⟨e,?_⟩
 refine ⟨.cY,_,I.LG (its':=its++[u]) hH e (by simp) (r.append (.cons ru .nil)) ?_,rfl,q⟩
 rw [List.length_append,List.length_singleton]
 omega
def rN:V->List V->Hp->VK->Prop:=fun x vs H Q=>∃ l b xs zs,x=.ref l/\vs=[.ref b]/\H l=some (.lst xs)/\H b=some (.lst zs)/\xs.length + zs.length<=sizeLine/\Q .cY (upd H l (.lst (xs++zs)))
theorem Cv:MtM X "list.extend" rN:=by
 intro pins s σ H x vs v us Q I rx rv h
 obtain ⟨l,b,xs,zs,rfl,rfl,hH,hB,hz,q⟩:=h
 cases rx
 obtain ⟨u,rfl,ru⟩:=rv.one
 cases ru
 obtain ⟨z,its,n,r,hl,e⟩:=I.DZ hH
 obtain ⟨z2,its2,n2,r2,N4,e2⟩:=I.DZ hB
 have hsz:its.toArray.size + its2.toArray.size<=sizeLine:=by rw [List.size_toArray,List.size_toArray];omega
 have LI:¬ (!its.toArray.isEmpty&&Builtin.List.listTooLong (its.toArray.size + its2.toArray.size))=true:=by
   rw [D7 hsz,Bool.and_false]
   exact Bool.false_ne_true
 refine call_meets F.slot_list_extend ⟨_,e,rfl⟩ F.entry_list_extend (F.args_list_extend_2 _ _)
   (AutoSeq1.list_extend_list_list_0 l its.toArray n b its2.toArray n2 LI (by rw [List.size_toArray];omega) (by omega)) ⟨e,e2,?_⟩
 refine ⟨.cY,_,I.LG (its':=its++its2) hH e (by simp) (r.append r2) ?_,rfl,q⟩
 rw [List.length_append]
 omega
def Ae:V->List V->Hp->VK->Prop:=fun x vs H Q=>∃ l xs,x=.ref l/\vs=[]/\H l=some (.lst xs)/\Q .cY (upd H l (.lst []))
end
section
variable {prog:Program} {w:World} {A:Around} {E:Value->Shared->Prop} {s:Shared}
end
section
variable {X:Cx}
end
end L2
namespace L2
open PySem PySem.Spec PyProof.Rows
section
variable {κ:Type} [DecidableEq κ]
def gH (kvs:List (κ×V)) (k:κ):Option V:=(kvs.find? fun kv=>decide (kv.1=k)).map (·.2)
def putK (kvs:List (κ×V)) (k:κ) (v:V):List (κ×V):=
 if (kvs.any fun kv=>decide (kv.1=k))=true then kvs.map (fun kv=>if kv.1=k then (kv.1,v) else kv) else kvs++[(k,v)]
def HS (kvs:List (κ×V)) (k:κ):List (κ×V):=kvs.filter fun kv=>decide (kv.1≠k)
theorem fz {p:κ×V} {r:List (κ×V)} {k:κ} (e:p.1=k):gH (p::r) k=some p.2:=by simp [gH,List.find?_cons,e]
theorem fB {p:κ×V} {r:List (κ×V)} {k:κ} (e:¬ p.1=k):gH (p::r) k=gH r k:=by simp [gH,List.find?_cons,e]
theorem mK (k:κ):∀ kvs:List (κ×V),(kvs.any fun kv=>decide (kv.1=k))=(gH kvs k).isSome
 | []=>rfl
 | p::r=>by
   rw [List.any_cons]
   by_cases e:p.1=k
   . simp only [fz e,decide_eq_true e,Bool.true_or,Option.isSome_some]
   . rw [fB e,decide_eq_false e,Bool.false_or];exact mK k r
theorem yI (k j:κ) (y:V):∀ kvs:List (κ×V),gH (kvs.map fun kv=>if kv.1=k then (kv.1,y) else kv) j=(gH kvs j).map fun x=>if j=k then y else x
 | []=>rfl
 | p::r=>by
   have ih:=yI k j y r
   rw [List.map_cons]
   by_cases h:p.1=k
   . rw [if_pos h]
     by_cases e:p.1=j
     . rw [fz (p:=(p.1,y)) e,fz e,Option.map_some,if_pos (e.symm.trans h)]
     . rw [fB (p:=(p.1,y)) e,fB e,ih]
   . rw [if_neg h]
     by_cases e:p.1=j
     . rw [fz (p:=p) e,fz e,Option.map_some,if_neg (fun z=>h (e.trans z))]
     . rw [fB (p:=p) e,fB e,ih]
theorem uZ (k j:κ) (y:V):∀ kvs:List (κ×V),gH kvs k=none->gH (kvs++[(k,y)]) j=if j=k then some y else gH kvs j
 | [],_=>by
   by_cases e:k=j
   . rw [if_pos e.symm];exact fz (p:=(k,y)) e
   . rw [if_neg (fun z=>e z.symm)];exact fB (p:=(k,y)) e
 | p::r,hn=>by
   rw [List.cons_append]
   have hk:¬ p.1=k:=fun z=>by rw [fz z] at hn;cases hn
   rw [fB hk] at hn
   have ih:=uZ k j y r hn
   by_cases e:p.1=j
   . rw [fz e,fz e,if_neg (fun z=>hk (e.trans z))]
   . rw [fB e,fB e,ih]
theorem oK (kvs:List (κ×V)) (k j:κ) (y:V):gH (putK kvs k y) j=if j=k then some y else gH kvs j:=by
 unfold putK
 by_cases a:(kvs.any fun kv=>decide (kv.1=k))=true
 . rw [if_pos a,yI]
   rw [mK] at a
   by_cases e:j=k
   . obtain ⟨x,hx⟩:=Option.isSome_iff_exists.mp a
     rw [if_pos e,e,hx,Option.map_some,if_pos rfl]
   . rw [if_neg e]
     cases gH kvs j with
     | none=>rfl
     | some x=>rw [Option.map_some,if_neg e]
 . rw [if_neg a]
   refine uZ k j y kvs ?_
   rw [mK] at a
   cases q:gH kvs k with
   | none=>rfl
   | some x=>rw [q] at a;exact (a rfl).elim
theorem mL (kvs:List (κ×V)) (k:κ) (v:V):(putK kvs k v).length<=kvs.length + 1:=by
 unfold putK
 split
 . rw [List.length_map];omega
 . rw [List.length_append,List.length_cons,List.length_nil];omega
theorem sf.pZ {o:Option V} {u:Option Value} (r:sf o u):o.isSome=u.isSome:=by
 cases o with
 | none=>cases u with
   | none=>rfl
   | some _=>exact (show False from r).elim
 | some _=>cases u with
   | none=>exact (show False from r).elim
   | some _=>rfl
theorem KV.val {kvs:List (κ×V)} {vs:List (κ×Value)} (r:KV kvs vs) (k:κ):sf (gH kvs k) (valueAt vs k):=by
 unfold KV at r
 induction r with
 | nil=>exact True.intro
 | @cons p q ps qs h t ih=>
   obtain ⟨h1,h2⟩:=h
   by_cases e:p.1=k
   . have e':q.1=k:=h1.symm.trans e
     have b:valueAt (q::qs) k=some q.2:=by simp [valueAt,List.find?_cons,e']
     rw [fz e,b];exact h2
   . have e':¬ q.1=k:=fun z=>e (h1.trans z)
     have b:valueAt (q::qs) k=valueAt qs k:=by simp [valueAt,List.find?_cons,e']
     rw [fB e,b];exact ih
theorem KV.any {kvs:List (κ×V)} {vs:List (κ×Value)} (r:KV kvs vs) (k:κ):(kvs.any fun kv=>decide (kv.1=k))=vs.any fun kv=>decide (kv.1=k):=by
 unfold KV at r
 induction r with
 | nil=>rfl
 | cons h t ih=>rw [List.any_cons,List.any_cons,ih,h.1]
theorem KV.Jg {kvs:List (κ×V)} {vs:List (κ×Value)} (r:KV kvs vs) (k:κ) {y:V} {u:Value} (ry:RelV y u):
   KV (kvs.map fun kv=>if kv.1=k then (kv.1,y) else kv) (vs.map fun kv=>if kv.1=k then (kv.1,u) else kv):=by
 unfold KV at r ⊢
 induction r with
 | nil=>exact .nil
 | @cons p q ps qs h t ih=>
   rw [List.map_cons,List.map_cons]
   refine .cons ?_ ih
   obtain ⟨h1,h2⟩:=h
   by_cases e:p.1=k
   . rw [if_pos e,if_pos (h1.symm.trans e)];exact ⟨h1,ry⟩
   . rw [if_neg e,if_neg (fun z=>e (h1.trans z))];exact ⟨h1,h2⟩
theorem KV.put {kvs:List (κ×V)} {vs:List (κ×Value)} (r:KV kvs vs) (k:κ) {y:V} {u:Value} (ry:RelV y u):KV (putK kvs k y) (stored vs k u):=by
 unfold putK stored
 rw [r.any k]
 by_cases e:(vs.any fun kv=>decide (kv.1=k))=true
 . rw [if_pos e,if_pos e];exact r.Jg k ry
 . rw [if_neg e,if_neg e];exact Paired.snoc r ⟨rfl,ry⟩
theorem KV.drop {kvs:List (κ×V)} {vs:List (κ×Value)} (r:KV kvs vs) (k:κ):KV (HS kvs k) (without vs k):=by
 unfold KV at r ⊢
 unfold HS without
 induction r with
 | nil=>exact .nil
 | @cons p q ps qs h t ih=>
   obtain ⟨h1,h2⟩:=h
   rw [List.filter_cons,List.filter_cons]
   by_cases e:p.1=k
   . have a:¬ decide (p.1≠k)=true:=by simp [e]
     have b:¬ decide (q.1≠k)=true:=by simp [h1.symm.trans e]
     rw [if_neg a,if_neg b];exact ih
   . have e':¬ q.1=k:=fun z=>e (h1.trans z)
     have a:decide (p.1≠k)=true:=by simp [e]
     have b:decide (q.1≠k)=true:=by simp [e']
     rw [if_pos a,if_pos b];exact .cons ⟨h1,h2⟩ ih
theorem KV.length {kvs:List (κ×V)} {vs:List (κ×Value)} (r:KV kvs vs):kvs.length=vs.length:=Paired.length r
end
theorem yJ {P:Program} {w:World} {k:Key} {u:Value} (r:RelV (kV k) u):(dM P w).is k u=true:=by
 cases k with
 | inl i=>obtain ⟨t,e⟩:=(show ∃ t,u=Value.int i t from r);subst e;exact yk P w i t
 | inr x=>obtain ⟨t,e⟩:=(show ∃ t,u=Value.str x t from r);subst e;exact yl P w x t
theorem u5 {P:Program} {w:World}:∀ {ks:List Key} {us:List Value},Vals (ks.map kV) us->ItemsAre (dM P w) ks us
 | [],_,r=>by rw [List.map_nil] at r;cases r;exact .nil
 | k::ks,_,r=>by
   rw [List.map_cons] at r
   cases r with
   | cons h t=>exact .cons (yJ h) (u5 t)
abbrev KT (H:Hp):List (List Key×V)->List (List Key×Addr×Value)->Prop:=Paired fun p q=>p.1=q.1/\H q.2.1=some (.tup (p.1.map kV))/\RelV p.2 q.2.2
theorem KT.val {H:Hp} {kvs:List (List Key×V)} {xs:List (List Key×Addr×Value)} (r:KT H kvs xs) (k:List Key):sf (gH kvs k) ((atKey xs k).map (·.2)):=by
 induction r with
 | nil=>exact True.intro
 | @cons p q ps qs h t ih=>
   obtain ⟨h1,_,h2⟩:=h
   by_cases e:p.1=k
   . have e':q.1=k:=h1.symm.trans e
     have b:atKey (q::qs) k=some q.2:=by simp [atKey,List.find?_cons,e']
     rw [fz e,b];exact h2
   . have e':¬ q.1=k:=fun z=>e (h1.trans z)
     have b:atKey (q::qs) k=atKey qs k:=by simp [atKey,List.find?_cons,e']
     rw [fB e,b];exact ih
theorem KT.Jg {H:Hp} {kvs:List (List Key×V)} {xs:List (List Key×Addr×Value)} (r:KT H kvs xs) (k:List Key) {y:V} {u:Value} (ry:RelV y u):
   KT H (kvs.map fun kv=>if kv.1=k then (kv.1,y) else kv) (xs.map (putAt k u)):=by
 induction r with
 | nil=>exact .nil
 | @cons p q ps qs h t ih=>
   rw [List.map_cons,List.map_cons]
   refine .cons ?_ ih
   obtain ⟨h1,h2,h3⟩:=h
   unfold putAt
   by_cases e:p.1=k
   . rw [if_pos e,if_pos (h1.symm.trans e)];exact ⟨h1,h2,ry⟩
   . rw [if_neg e,if_neg (fun z=>e (h1.trans z))];exact ⟨h1,h2,h3⟩
theorem KT.put {H:Hp} {kvs:List (List Key×V)} {xs:List (List Key×Addr×Value)} (r:KT H kvs xs) (k:List Key) {b:Addr} {y:V} {u:Value} (hb:H b=some (.tup (k.map kV))) (ry:RelV y u):
   KT H (putK kvs k y) (storedH xs k b u):=by
 have e:(kvs.any fun kv=>decide (kv.1=k))=(atKey xs k).isSome:=by
   rw [mK,(r.val k).pZ,Option.isSome_map]
 unfold putK storedH
 rw [e]
 by_cases q:(atKey xs k).isSome=true
 . rw [if_pos q,if_pos q];exact r.Jg k ry
 . rw [if_neg q,if_neg q];exact Paired.snoc r ⟨rfl,hb,ry⟩
theorem KT.keeps {H H':Hp} {kvs:List (List Key×V)} {xs:List (List Key×Addr×Value)} (r:KT H kvs xs) (ht:∀ b ys,H b=some (.tup ys)->H' b=some (.tup ys)):KT H' kvs xs:=
 Paired.Iu r fun _ _ z=>⟨z.1,ht _ _ z.2.1,z.2.2⟩
section
variable {P:Program} {w:World} {H:Hp} {h:Heap} {a:Addr}
theorem HU {u:HO} (ok:nE P w H h) (e:Rd H a u):dH P w H h a u:=e.ok ok
theorem yK {kvs:List (Key×V)} (ok:nE P w H h) (e:Rd H a (.dK kvs)):kvs.length<=sizeLine/\(a==sysModules)=false/\∃ vs,KV kvs vs/\h.DictOf (dM P w) a vs:=
 show dH P w H h a (.dK kvs) from HU ok e
theorem HV {kvs:List (Key×V)} (ok:nE P w H h) (e:H a=some (.dK kvs)):kvs.length<=sizeLine/\(a==sysModules)=false/\∃ vs,KV kvs vs/\h.DictOf (dM P w) a vs:=yK ok (.inl e)
theorem vR {ks:List Key} (ok:nE P w H h) (e:H a=some (.tup (ks.map kV))):(tupleKind (dM P w)).is h ks a:=by
 obtain ⟨_,its,r,o,h1,h2,n,h3⟩:=(show dH P w H h a (.tup (ks.map kV)) from ok a _ e)
 exact ⟨o,its.toArray,n,h1,h2,h3,by simpa using u5 r⟩
theorem Bv {kvs:List (List Key×V)} (ok:nE P w H h) (e:Rd H a (.dT kvs)):kvs.length<=sizeLine/\(a==sysModules)=false/\
   ∃ xs,KT H kvs xs/\h.DictOfH (tupleKind (dM P w)) a xs:=by
 obtain ⟨z,y,xs,r,o,es,ep,h1,h2,h3,h4,h5⟩:=(show dH P w H h a (.dT kvs) from HU ok e)
 refine ⟨z,y,xs,r,o,es,ep,h1,h2,h3,h4,fun x hx=>?_,h5⟩
 have all:∀ {l:List (List Key×V)} {m:List (List Key×Addr×Value)},KT H l m->∀ x∈m,(tupleKind (dM P w)).is h x.1 x.2.1:=by
   intro l m q
   induction q with
   | nil=>intro x hx;exact nomatch hx
   | @cons p q ps qs hq t ih=>
     intro x hx
     rcases List.mem_cons.mp hx with e | hx
     . subst e
       exact vR ok (by rw [<- hq.1];exact hq.2.1)
     . exact ih x hx
 exact all r x hx
theorem LJ {kvs:List (List Key×V)} (ok:nE P w H h) (e:H a=some (.dT kvs)):kvs.length<=sizeLine/\(a==sysModules)=false/\
   ∃ xs,KT H kvs xs/\h.DictOfH (tupleKind (dM P w)) a xs:=Bv ok (.inl e)
end
def oM (H:Hp) (a:Addr) (y:V) (r:Option V):Prop:=
 (∃ kvs k,Rd H a (.dK kvs)/\y=kV k/\r=gH kvs k)∨∃ kvs k b,Rd H a (.dT kvs)/\y=.ref b/\H b=some (.tup (k.map kV))/\r=gH kvs k
def vS (H:Hp) (a:Addr) (y v:V) (H':Hp):Prop:=
 (∃ kvs k,H a=some (.dK kvs)/\y=kV k/\kvs.length < sizeLine/\H'=upd H a (.dK (putK kvs k v)))∨
 ∃ kvs k b,H a=some (.dT kvs)/\y=.ref b/\H b=some (.tup (k.map kV))/\kvs.length < sizeLine/\H'=upd H a (.dT (putK kvs k v))
theorem oM.k {H:Hp} {a:Addr} {kvs:List (Key×V)} {k:Key} (e:H a=some (.dK kvs)):oM H a (kV k) (gH kvs k):=.inl ⟨kvs,k,.inl e,rfl,rfl⟩
theorem oM.t {H:Hp} {a b:Addr} {kvs:List (List Key×V)} {k:List Key} (e:H a=some (.dT kvs)) (eb:H b=some (.tup (k.map kV))):oM H a (.ref b) (gH kvs k):=.inr ⟨kvs,k,b,.inl e,rfl,eb,rfl⟩
theorem vS.k {H:Hp} {a:Addr} {kvs:List (Key×V)} {k:Key} {v:V} (e:H a=some (.dK kvs)) (hl:kvs.length < sizeLine):vS H a (kV k) v (upd H a (.dK (putK kvs k v))):=.inl ⟨kvs,k,e,rfl,hl,rfl⟩
theorem vS.t {H:Hp} {a b:Addr} {kvs:List (List Key×V)} {k:List Key} {v:V} (e:H a=some (.dT kvs)) (eb:H b=some (.tup (k.map kV))) (hl:kvs.length < sizeLine):
   vS H a (.ref b) v (upd H a (.dT (putK kvs k v))):=.inr ⟨kvs,k,b,e,rfl,eb,hl,rfl⟩
section
variable {X:Cx} {pins:List (Addr×Obj)} {σ:St} {H:Hp} {s:Shared} {a:Addr} {y v:V} {u r:Value} {o:Option V} {A:Around} {E:Value->Shared->Prop}
theorem Inv.big (I:Inv X pins σ H s):sysModules < s.heap.objs.size:=by
 have h:mainGlobals < s.heap.objs.size:=(I.mod.glob.keeps I.bk).lt
 exact Nat.lt_trans (by decide) h
theorem Cw {Q:Value->Shared->Prop} (hu:A.units + 1 < cLine) (I:Inv X pins σ H s) (g:oM H a y (some v)) (ry:RelV y u) (h:∀ w' s',Inv X pins σ H s'->RelV v w'->Q w' s'):
   wpAny (model X.prog X.w) A (getItem (.ref a) u) Q E s:=by
 rcases g with ⟨kvs,k,e,ey,l⟩ | ⟨kvs,k,b,e,ey,eb,l⟩
 . subst ey
   obtain ⟨z,hd,vs,rel,dd⟩:=yK I.cX e
   obtain ⟨w',hw,rw'⟩:=sf.some_of (v:=v) (o:=valueAt vs k) (by rw [l];exact rel.val k)
   exact wpAny_getItem_of (yJ ry) dd.mapOf hw (h w' _ (I.tok _) rw')
 . subst ey
   cases (show u=Value.ref b from ry)
   obtain ⟨z,hd,xs,rel,dd⟩:=Bv I.cX e
   obtain ⟨w',hw,rw'⟩:=sf.some_of (v:=v) (o:=(atKey xs k).map (·.2)) (by rw [l];exact rel.val k)
   obtain ⟨p,hp,jz⟩:=Option.map_eq_some_iff.mp hw
   refine wpAny_getItem_heap (tupleKind_room_in1 hu) (vR I.cX eb) dd hp ?_
   rw [jz]
   exact h w' _ (I.tok _) rw'
theorem QD {Q:Value->Shared->Prop} (hu:A.units + 1 < cLine) (I:Inv X pins σ H s) (g:oM H a y o) (ry:RelV y u) (h:∀ s',Inv X pins σ H s'->Q (.bool o.isSome) s'):
   wpAny (model X.prog X.w) A (compareOp .In u (.ref a)) Q E s:=by
 rcases g with ⟨kvs,k,e,ey,l⟩ | ⟨kvs,k,b,e,ey,eb,l⟩
 . subst ey
   obtain ⟨z,hd,vs,rel,dd⟩:=yK I.cX e
   refine wpAny_in_of (yJ ry) hd dd.mapOf ?_
   rw [<- (rel.val k).pZ,<- l]
   exact h _ (I.tok _)
 . subst ey
   cases (show u=Value.ref b from ry)
   obtain ⟨z,hd,xs,rel,dd⟩:=Bv I.cX e
   refine wpAny_in_heap (tupleKind_room_in1 hu) (vR I.cX eb) hd dd ?_
   have q:=(rel.val k).pZ
   rw [Option.isSome_map] at q
   rw [<- q,<- l]
   exact h _ (I.tok _)
theorem Bw {h':Heap} {t':Nat} {ob:HO} (I:Inv X pins σ H s) (mu:Li (H a)) (hs:Heap.SameBut a s.heap h') (he:∃ q,h'.get? a=some q) (new:dH X.prog X.w (upd H a ob) h' a ob):
   Inv X pins σ (upd H a ob) { s with heap:=h',toks:=t' }:=
 I.write (x:=a) (e:=a) mu (.inl rfl) (fun b q hb z=>(hs.2 b hb).trans z) he new
theorem D8 {P:Program} {w:World} {H':Hp} {h':Heap} {kvs:List (Key×V)} {vs:List (Key×Value)} (z:kvs.length<=sizeLine) (hd:(a==sysModules)=false) (rel:KV kvs vs) (dd:h'.DictOf (dM P w) a vs):
   dH P w H' h' a (.dK kvs):=⟨z,hd,vs,rel,dd⟩
theorem Cy {H':Hp} {Q:Unit->Shared->Prop} (hu:A.units + 1 < cLine) (I:Inv X pins σ H s) (g:vS H a y v H') (ry:RelV y u) (rv:RelV v r) (h:∀ s',Inv X pins σ H' s'->Q () s'):
   wpAny (model X.prog X.w) A (setItem (.ref a) u r) Q E s:=by
 rcases g with ⟨kvs,k,e,ey,l,eH⟩ | ⟨kvs,k,b,e,ey,eb,l,eH⟩
 . subst ey eH
   obtain ⟨z,hd,vs,rel,dd⟩:=HV I.cX e
   have hz:vs.length<=sizeLine:=by rw [<- rel.length];exact z
   have hl:(putK kvs k v).length<=sizeLine:=by have:=mL kvs k v;omega
   refine wpAny_setItem_pairs (hsz:=hz) (yJ ry) dd fun h' dd' hs=>h _ ?_
   have he:∃ q,h'.get? a=some q:=let ⟨q,_,_,hq,_⟩:=dd';⟨q,hq⟩
   exact Bw I (by rw [e];exact True.intro) hs he (D8 hl hd (rel.put k rv) dd')
 . subst ey eH
   cases (show u=Value.ref b from ry)
   obtain ⟨z,hd,xs,rel,dd⟩:=LJ I.cX e
   have hz:xs.length<=sizeLine:=by rw [<- Paired.length rel];exact z
   have hl:(putK kvs k v).length<=sizeLine:=by have:=mL kvs k v;omega
   refine wpAny_setItem_heap (hsz:=hz) (tupleKind_room_in1 hu) (vR I.cX eb) dd fun h' dd' hs=>h _ ?_
   obtain ⟨q,es,ep,hq,h2,h3,h4,_,h5⟩:=dd'
   refine Bw I (by rw [e];exact True.intro) hs ⟨q,hq⟩ ⟨hl,hd,_,(rel.put k eb rv).keeps fun c ys ec=>?_,q,es,ep,hq,h2,h3,h4,h5⟩
   rw [aJ (HF ec e (fun z=>nomatch z))]
   exact ec
end
section
variable {X:Cx} {pins:List (Addr×Obj)} {σ:St} {H:Hp} {s:Shared} {a:Addr} {kvs:List (Key×V)} {k:Key} {u:Value} {A:Around} {E:Value->Shared->Prop}
theorem LK {Q:Value->Shared->Prop} (I:Inv X pins σ H s) (e:Rd H a (.dK kvs)) (h:∀ t s',Inv X pins σ H s'->Q (.int kvs.length t) s'):wpAny (model X.prog X.w) A (call (.builtin "len") [.ref a]) Q E s:=by
 obtain ⟨z,hd,vs,rel,dd⟩:=yK I.cX e
 refine call_len_dict hd dd (by rw [<- rel.length];rw [sizeLine_eq] at z;omega) ?_
 rw [<- rel.length]
 exact h _ _ (I.tok _)
end
def Jh (i:Expr):Prop:=∀ ov iv,subscripted i false ov iv=operate [ov,iv] (getItem ov iv)
theorem GG {prog:Program} {w:World} {A:Around} {E:Value->Shared->Prop} {s:Shared} {env:Env} {value slice:Expr} {pos:Pos} {T id:String} {Q:Value->Shared->Prop}
   (hl:typeLookup (.type T) "__getitem__"=pure (some (.builtin id))) (hs:Jh slice)
   (h:wpAny (model prog w) A (eval value env) (fun o s₁=>wpAny (model prog w) A (eval slice env) (fun i s₂=>s₂.TypeIs o T/\wpAny (model prog w) A (getItem o i) Q E s₂) E s₁) E s):
   wpAny (model prog w) A (eval (.Subscript value slice pos) env) Q E s:=by
 refine Subscript_ (wpAny_mono h (fun o s₁ h₁=>wpAny_mono h₁ (fun i s₂ h₂=>?_) fun _ _ x=>x) fun _ _ x=>x)
 obtain ⟨hT,h₂⟩:=h₂
 unfold subscriptTail
 refine wpAny_bind ?_
 rw [getitemInPython_of_ne hT.not_modules]
 refine wpAny_bind (wpAny_specialOf hT hl ?_)
 have fin:wpAny (model prog w) A (subscripted slice false o i) (fun r s₃=>wpAny (model prog w) A (letTemporaryGo value o r >>=fun _=>pure r) Q E s₃) E s₂:=by
   rw [hs o i]
   exact wpAny_operating (wpAny_mono h₂ (fun r s₃ h₃=>wpAny_bind (wpAny_letTemporaryGo (wpAny_pure h₃))) fun _ _ x=>x)
 first
   | exact wpAny_pure (wpAny_bind fin)
   | exact wpAny_bind (wpAny_pure (wpAny_bind fin))
   | exact wpAny_bind fin
theorem yL {X:Cx} {pins:List (Addr×Obj)} {σ:St} {H:Hp} {s:Shared} {a:Addr} {y:V} {o:Option V} (I:Inv X pins σ H s) (g:oM H a y o):s.TypeIs (.ref a) "dict":=by
 rcases g with ⟨kvs,k,e,_,_⟩ | ⟨kvs,k,b,e,_,_,_⟩
 . obtain ⟨_,_,vs,_,dd⟩:=yK I.cX e
   exact dd.typeIs
 . obtain ⟨_,_,xs,_,dd⟩:=Bv I.cX e
   exact dd.typeIs
def yM (td ty:TE):TE:=fun σ H Q=>td σ H fun x H1=>ty σ H1 fun y H2=>∃ a v,x=.ref a/\oM H2 a y (some v)/\Q v H2
def yN (td ty tv:TE):TS:=fun D σ H=>tv σ H fun v H1=>td σ H1 fun x H2=>ty σ H2 fun y H3=>∃ a H4,x=.ref a/\vS H3 a y v H4/\D.nx σ H4
section
variable {X:Cx} {o i e value:Expr} {pos pos' Lw:Pos} {td ty tv:TE}
theorem GH (hu:X.A.units + 1 < cLine) (ho:PE X o td) (hi:PE X i ty) (hs:Jh i):PE X (.Subscript o i pos) (yM td ty):=by
 intro pins s σ H Q I h
 refine GG PySem.F.slot_dict_getitem.lookup hs (dZ (ho pins s σ H _ I h) fun u s1 ⟨x,H1,I1,rx,q1⟩=>dZ (hi pins s1 σ H1 _ I1 q1) fun iv s2 ⟨y,H2,I2,ry,a,v,ex,g,q2⟩=>?_)
 subst ex
 obtain rfl:u=Value.ref a:=rx
 exact ⟨yL I2 g,Cw hu I2 g ry fun w' s3 I3 rw'=>⟨v,H2,I3,rw',q2⟩⟩
theorem GI (hu:X.A.units + 1 < cLine) (ho:PE X o td) (hi:PE X i ty) (hv:PE X value tv) (hs:swapsWith value (some (.Subscript o i pos')) pos.line X.env=pure false):
   PS X (.Assign [.Subscript o i pos'] value pos) (yN td ty tv):=by
 intro pins s σ H D I h
 refine wpAny_Assign_Subscript (dZ (hv pins s σ H _ I h) fun r s1 ⟨v,H1,I1,rv,q1⟩=>dZ (ho pins s1 σ H1 _ I1 q1) fun u s2 ⟨x,H2,I2,rx,q2⟩=>dZ (hi pins s2 σ H2 _ I2 q2) fun iv s3 ⟨y,H3,I3,ry,a,H4,ex,g,q3⟩=>?_) hs
 subst ex
 obtain rfl:u=Value.ref a:=rx
 exact Cy hu I3 g ry rv fun s4 I4=>⟨σ,H4,I4,q3⟩
end
theorem D9 {P:Program} {w:World} {H:Hp} (h:Heap) (hb:sysModules < h.objs.size):dH P w H (h.push { cls:=.type "dict",data:=.dict #[] }) h.objs.size (.dK []):=
 ⟨Nat.zero_le _,beq_eq_false_iff_ne.mpr (Ne.symm (Nat.ne_of_lt hb)),[],.nil,Heap.DictOf.new h⟩
section
variable {X:Cx} {pos:Pos}
end
section
variable {X:Cx} {pins:List (Addr×Obj)} {σ:St} {H:Hp} {s:Shared} {a:Addr} {y d:V} {u r:Value} {o:Option V} {A:Around} {E:Value->Shared->Prop}
end
section
variable {X:Cx} {o e f:Expr} {apos jX:Pos} {td ty tx:TE}
end
section
variable {X:Cx} {pins:List (Addr×Obj)} {σ:St} {H:Hp} {s:Shared} {a:Addr} {kvs:List (Key×V)} {A:Around} {E:Value->Shared->Prop}
end
section
variable {X:Cx} {pins:List (Addr×Obj)} {σ:St} {H:Hp} {s:Shared} {a:Addr} {y:V} {u:Value} {A:Around} {E:Value->Shared->Prop}
end
end L2
namespace Att
open PySem PySem.W PySem.Calls PyProof.Rows
theorem qS {P:Params} {h:Heap}:∀ (ns:List Int) (vs:List Value),WellAll P h vs (ns.map WData.int)->IntsAre vs ns:=by
 intro ns
 induction ns with
 | nil=>
   intro vs w
   rw [List.map_nil] at w
   cases w
   exact .nil
 | cons n ns ih=>
   intro vs w
   rw [List.map_cons] at w
   cases w with
   | cons a b=>
     cases a
     exact .cons _ _ (ih _ b)
theorem Cz {l:OpenLaw} {n:Nat} (hn:l.most=some n) {P:Params} {h:Heap} {args:List WData} {vals:List Value}
   (GJ:l.row.toRowW.claim.pre args=true) (QE:WellAll P h vals args):
   ∃ a vs ns,vals=[Value.ref a]/\args=[WData.list (ns.map WData.int)]/\h.get? a=some { cls:=.type "list",data:=.seq vs.toArray }/\IntsAre vs ns/\ns.length<=n:=by
 have hsh:WShape.hasAll [] args [.list .int]=true:=(pre_splitW GJ).1
 have hc:l.pre.holds [] { args:=args }=true:=(pre_splitW GJ).2
 obtain ⟨d,r,rfl,h1,h2⟩:=hasAllW_cons hsh
 obtain rfl:=hasAllW_nil h2
 obtain ⟨xs,rfl,h3⟩:=hasW_list h1
 obtain ⟨ns,rfl⟩:=items_int h3
 have hlen:ns.length<=n:=by
   unfold OpenLaw.pre at hc
   have h4:(WTm.not (.lt (.lit (.int (n:Int))) (.len (.arg 0)))).holds [] { args:=[.list (ns.map .int)] }=true:=by
     have h4:=(holds_andW hc).1
     rw [hn] at h4
     exact h4
   have h5:=condW_of h4 (w_not (w_lt w_lit (w_len_list (w_arg rfl))))
   rw [List.length_map] at h5
   refine Nat.le_of_not_lt fun q=>?_
   have q':(n:Int) < ((ns.length:Nat):Int):=by omega
   first
     | (rw [decide_eq_true q'] at h5;exact absurd h5 (by decide))
     | (simp at h5;omega)
 cases QE with
 | cons w1 w2=>
   cases w2
   cases w1 with
   | list ho Ji=>exact ⟨_,_,ns,rfl,rfl,ho,qS ns _ Ji,hlen⟩
theorem CA (l:OpenLaw) (args:List WData):l.row.toRowW.claim.post args (.bool true) args=true:=
 postW_of (r:=l.row.toRowW) (X:=(true==true))
   (show WShape.has [] (.bool true) .bool=true by first | rfl | decide | simp [WShape.has,WShape.arms,WShape.armsAll])
   (show (WTm.eq .res (.lit (.bool true))).value [] { args:=args,res:=some (.bool true),after:=args }=some (.bool (true==true)) from w_eq_bool (w_res rfl) w_lit) rfl
theorem yO {l:OpenLaw} {n:Nat} {q:Program} {loose:List Str} {XP:(Str->Option Value)->Heap->Prop} {YP:World->Heap->Prop} {d:DefRec}
   (hn:l.most=some n) (HW:d.params.defaults=[])
   (call:∀ (w:World) (s₀ s₁:Shared) (mg mb:Str->Option Value) (fa:Addr) (o:Obj) (pm cd doc:Value) (a:Addr) (vs:List Value) (ns:List Int),
     Ground q loose [] XP w s₀ mg mb s₁.heap->YP w s₁.heap->
     s₁.heap.get? fa=some o->o.data=.func (docDef d.name d.params d.body d.scope pm cd doc)->s₁.heap.CodeRec cd d.name->mg d.name=some (.ref fa)->
     s₁.heap.get? a=some { cls:=.type "list",data:=.seq vs.toArray }->IntsAre vs ns->ns.length<=n->s₁.gens=#[]->
     codeAny (model l.prog w) callerA (.call (.ref fa) ⟨[.ref a],[]⟩) (fun r s'=>r=.ok (.ret (.bool true))/\OldK s₁.heap s'.heap/\s'.os=s₁.os/\AllBare s'.gens) s₁):
   WalkO q loose XP YP l.row.toRowW d [] (fun f vs=>PySem.call f vs):=by
 intro w s₀ s₁ mg mb G Y fa o pm cd doc dV kV ho hd Cf hD hmg hg args vals as GJ hlay hrd QE hlo
 obtain rfl:dV=.none:=Dflts.none hD HW
 obtain rfl:kV=.none:=Dflts.noKw hD
 obtain ⟨a,vs,ns,rfl,rfl,hobj,hints,hlen⟩:=Cz hn GJ QE
 refine enter_call (codeAny_mono (call w s₀ s₁ mg mb fa o pm cd doc a vs ns G Y ho (fd_plain hd) Cf hmg hobj hints hlen hg) fun r s' hq=>?_)
 obtain ⟨rfl,h2,h3,h4⟩:=hq
 exact ⟨.inl ⟨.bool true,.bool true,[],rfl,fun _=>rfl,.bool true,CA l _,fun _=>⟨List.Pairwise.nil,fun _ hm=>(nomatch hm)⟩⟩,h2,h3,h4⟩
section
variable {prog:Program} {w:World} {A:Around} {E:Value->Shared->Prop} {s:Shared} {K:Frag}
end
end Att
namespace L2
open PySem PySem.Spec PyProof.Rows
theorem u6:∀ {vs:List Value} {ns:List Int},IntsAre vs ns->Vals (ns.map V.int) vs
 | _,_,.nil=>.nil
 | _,_,.cons n t h=>.cons ⟨t,rfl⟩ (u6 h)
def GK (H:Hp):Prop:=∀ b,H b=none∨∃ o xs,H b=some (.mh o (.lst xs))
theorem Ea {P:Program} {w:World} {K:PySem.W.Frag} {mg mb:Str->Option Value} {CX:uT} {k:Nat} {fa a:Addr} {fd:FuncData} {x:Str} {sp:Sp} {s₁:Shared} {vs:List Value} {ns:List Int}
   (KX:K.In s₁.heap) (N5:s₁.heap.Ns mainGlobals mg) (hb:s₁.heap.Ns builtinsNs mb) (hbb:∀ x:Str,x≠"__name__"->mb x=bootBuiltins x) (QF:s₁.heap.NoLimit) (hg:s₁.gens=#[])
   (ha:s₁.heap.get? a=some { cls:=.type "list",data:=.seq vs.toArray }) (hi:IntsAre vs ns) (hl:ns.length<=sizeLine) (hr:jx k callerA)
   (F:∀ base:Heap,K.In base->base.Ns mainGlobals mg->bB P w K mg base CX k fa fd [x] sp) (LL:∀ (s:Shared) (u:Value),BindsTo s fd ⟨[u],[]⟩ [(x,u)])
   (FZ:∀ H:Hp,GK H->bC K H a (ns.map V.int)->sp [.ref a] H (fun v _=>v=.bl true) fun _ _ _=>False)
   (QG:∀ H e s',CX [] H s₁ (fun _ _ _=>False) e s'->False):
   codeAny (model P w) callerA (.call (.ref fa) ⟨[.ref a],[]⟩) (fun r s'=>r=.ok (.ret (.bool true))/\OldK s₁.heap s'.heap/\s'.os=s₁.os/\AllBare s'.gens) s₁:=by
 have rv:=u6 hi
 have QH:=hi.length
 have core:∀ H:Hp,GK H->bC K H a (ns.map V.int)->nE P w H s₁.heap->(∀ b,H b≠none->b=a)->(H a≠none->K.lookup a=none)->
     codeAny (model P w) callerA (.call (.ref fa) ⟨[.ref a],[]⟩) (fun r s'=>r=.ok (.ret (.bool true))/\OldK s₁.heap s'.heap/\s'.os=s₁.os/\AllBare s'.gens) s₁:=by
   intro H hO hS cX hA hK
   have Bx:∀ {b:Addr} {o:Obj},s₁.heap.get? b=some o->H b=none->(vK s₁.heap H).get? b=some o:=fun e n=>Dq e n
   have Ly:∀ {b:Addr} {o:Obj} {es:Array DictEntry} {ep:Nat},s₁.heap.get? b=some o->o.data=.dict es ep->H b=none:=fun {b o es ep} e d=>by
     cases q:H b with
     | none=>rfl
     | some u=>
       have e':b=a:=hA b (by rw [q];simp)
       subst e'
       rw [ha] at e;cases e
       have d':Data.seq vs.toArray _=Data.dict es ep:=d
       cases d'
   have N6:∀ {b:Addr} {m:Str->Option Value},s₁.heap.Ns b m->(vK s₁.heap H).Ns b m:=fun {b m} ⟨o,es,ep,e,d,r⟩=>⟨o,es,ep,Bx e (Ly e d),d,r⟩
   have hKb:K.In (vK s₁.heap H):=fun b o e=>Bx (KX b o e) (by
     cases q:H b with
     | none=>rfl
     | some u=>
       have e':b=a:=hA b (by rw [q];simp)
       subst e'
       rw [hK (by rw [q];simp)] at e;cases e)
   have hM:Mod K mg (vK s₁.heap H):=⟨hKb,N6 N5,⟨mb,N6 hb,hbb⟩,let ⟨mc,h1,h2⟩:=QF;⟨mc,N6 h1,h2⟩⟩
   have e0:Gx P w K mg (vK s₁.heap H) callerA [] s₁ H:=⟨rfl,hM,fun b o e=>Ga e,Nat.le_of_eq (Ce _ _),trivial,fun b hb=>absurd (show b∈([]:List Addr) from hb) (by simp),cX,.of_eq hg⟩
   refine codeAny_mono ((F _ hKb (N6 N5)).run callerA [] s₁ H ⟨[.ref a],[]⟩ [.ref a] [.ref a] _ _ hr e0 (LL s₁ (.ref a)) (.cons rfl .nil) (FZ H hO hS)) fun r s' h=>?_
   cases r with
   | error e=>exact (QG H e s' h).elim
   | ok fl=>
     cases fl with
     | next=>exact False.elim h
     | brk=>exact False.elim h
     | cont=>exact False.elim h
     | ret u=>
       obtain ⟨v,H',os,bare,un,hok',r',q⟩:=h
       have q':v=.bl true:=q
       subst q'
       obtain rfl:u=Value.bool true:=r'
       refine ⟨rfl,OldK.of_keep fun b o e=>?_,os,bare⟩
       cases q:H b with
       | none=>exact un.keep b o e q (by intro z;exact absurd (show b∈([]:List Addr) from z) (by simp)) (by simp)
       | some u=>
         rcases hO b with z | ⟨ob,xs,z⟩
         . rw [q] at z;cases z
         . have z2:=un.kO b ob _ z
           obtain ⟨e1,_⟩:=cX b _ z
           obtain ⟨e2,_⟩:=hok' b _ z2
           rw [e] at e1;cases e1
           exact e2
 cases hk:K.lookup a with
 | some o=>
   have e:=KX a o hk
   rw [ha] at e
   cases e
   refine core (fun _=>none) (fun _=>.inl rfl) (.inr ⟨_,vs.toArray,_,hk,rfl,rfl,rfl,by rw [List.size_toArray,QH];exact hl,by simpa using rv⟩) (fun b u z=>by have z':(none:Option HO)=some u:=z;cases z') (fun b z=>absurd rfl z) fun z=>absurd rfl z
 | none=>
   refine core (fun b=>if b=a then some (.mh { cls:=.type "list",data:=.seq vs.toArray } (.lst (ns.map V.int))) else none) (fun b=>?_) (.inl (.inr ⟨{ cls:=.type "list",data:=.seq vs.toArray },if_pos rfl⟩)) (fun b u z=>?_) (fun b z=>?_) fun _=>hk
   . by_cases hb:b=a
     . exact .inr ⟨_,_,if_pos hb⟩
     . exact .inl (if_neg hb)
   . by_cases hb:b=a
     . have z':=(if_pos hb).symm.trans z
       cases z'
       subst hb
       exact ⟨ha,by rw [List.length_map];exact hl,vs,_,rv,ha⟩
     . have z':=(if_neg hb).symm.trans z
       cases z'
   . by_cases hb:b=a
     . exact hb
     . exact absurd (if_neg hb) z
end L2
namespace L2
open PySem PySem.Spec PyProof.Rows
theorem GL {l:PySem.W.OpenLaw} {n k:Nat} {q:Program} {loose:List Str} {XP:(Str->Option Value)->Heap->Prop} {YP:World->Heap->Prop} {d:DefRec} {K:Params->PySem.W.Frag} {CX:World->uT} {sp:World->Sp} {x:Str}
   (hn:l.most=some n) (hn2:n<=sizeLine) (HW:d.params.defaults=[]) (hr:jx k callerA)
   (hY:∀ (w:World) (h:Heap),YP w h->(K w.params).In h)
   (F:∀ (w:World) (mg:Str->Option Value) (fa:Addr) (h:Heap),(K w.params).In h->h.Ns mainGlobals mg->mg d.name=some (.ref fa)->
     ∃ fd:FuncData,(∀ (s:Shared) (u:Value),BindsTo s fd ⟨[u],[]⟩ [(x,u)])/\
       ∀ base:Heap,(K w.params).In base->base.Ns mainGlobals mg->bB l.prog w (K w.params) mg base (CX w) k fa fd [x] (sp w))
   (FZ:∀ (w:World) (H:Hp) (a:Addr) (ns:List Int),ns.length<=n->GK H->bC (K w.params) H a (ns.map V.int)->sp w [.ref a] H (fun v _=>v=.bl true) fun _ _ _=>False)
   (QG:∀ (w:World) (H:Hp) (s:Shared) (e:Value) (s':Shared),CX w [] H s (fun _ _ _=>False) e s'->False):
   PySem.W.WalkO q loose XP YP l.row.toRowW d [] (fun f vs=>PySem.call f vs):=by
 refine Att.yO hn HW fun w s₀ s₁ mg mb fa o pm cd doc a vs ns G Y ho hd Cf hmg hobj hints hlen hg=>?_
 have KX:=hY w _ Y
 obtain ⟨fd,hb,hF⟩:=F w mg fa _ KX G.T.g hmg
 exact Ea KX G.T.g G.T.b G.T.builtins G.T.nolimit hg hobj hints (Nat.le_trans hlen hn2) hr hF hb (fun H hO hS=>FZ w H a ns hlen hO hS) fun H e s'=>QG w H s₁ e s'
end L2
namespace L2
open PySem PySem.Spec PyProof.Rows
def aB (s:Stmt):Arguments:=match s with
 | .FunctionDef _ a _ _ _ _ _ _ _ _=>a
 | _=>{ posonlyargs:=[],args:=[],vararg:=none,kwonlyargs:=[],kw_defaults:=[],kwarg:=none,defaults:=[] }
def ak (s:Stmt):List Stmt:=match s with
 | .FunctionDef _ _ b _ _ _ _ _ _ _=>b
 | _=>[]
def af (s:Stmt):Scope:=match s with
 | .FunctionDef _ _ _ _ _ _ sc _ _ _=>sc
 | _=>{ kind:=.function,names:=[],isGenerator:=false,isCoroutine:=false }
abbrev fC:uT:=fun _ _ _ _ _ _=>False
abbrev E0:XK:=fun _ _ _=>False
theorem HX {X:Cx}:Passes fC X E0:=fun _ _ _ _ _ _ _ h=>h.elim
structure fM (K:PySem.W.Frag) (x qual:Str) (st:Stmt) (f:Addr) (fd:FuncData):Prop where
 ex:∃ (oc:Value) (od:Option Addr) (kV doc pm:Value) (an:Option Addr) (dg ct:Value) (GA:Array (Option Value)),
   fd=PySem.W.fnOf x qual (aB st) (ak st) (af st) .none kV doc pm an dg ct/\K.lookup f=some ⟨oc,od,.func fd,GA⟩/\PySem.W.codeIn K dg qual=true
 kp:PySem.W.keepIn K (.ref f)=true
section
variable {P:Program} {w:World} {K:PySem.W.Frag} {mg:Str->Option Value} {base:Heap}
theorem fM.ok {x qual:Str} {st:Stmt} {f:Addr} {fd:FuncData} {N ps:List Str} {k:Nat} {sp:Sp} (F:fM K x qual st f fd) (S:aE N ps (af st)) (len:∀ vs H Q E,sp vs H Q E->vs.length=ps.length)
   (oB:∀ (dg:Value) (A:Around) (outer:List Env) (s:Shared) (H:Hp) (vs:List V) (Q:VK) (E:XK),jx k (A.deeper (envOfC qual (af st) s.heap.objs.size f dg))->sp vs H Q E->
     ∃ t,zS (mF fC P w K mg base N qual (af st) f dg A outer s H E).KY (ak st) t/\t { nx:=fun _ H'=>Q .cY H',rt:=Q } (start N vs) H):bB P w K mg base fC (k + 1) f fd ps sp:=by
 obtain ⟨oc,od,kV,doc,pm,an,dg,ct,GA,rfl,lk,Cf⟩:=F.ex
 refine HQ lk Cf S len fun A outer s H vs Q E hr FZ=>?_
 obtain ⟨t,h,q⟩:=oB dg A outer s H vs Q E hr FZ
 exact ⟨t,h.KY,q⟩
theorem fM.binds {x qual:Str} {st:Stmt} {f:Addr} {fd:FuncData} {ps:List Str} (F:fM K x qual st f fd)
   (h:∀ (kV doc pm:Value) (an:Option Addr) (dg ct:Value) (us:List Value),us.length=ps.length->bindArgs (PySem.W.fnOf x qual (aB st) (ak st) (af st) .none kV doc pm an dg ct) ⟨us,[]⟩=pure (ps.zip us)):Binds K fd ps []:=by
 obtain ⟨oc,od,kV,doc,pm,an,dg,ct,GA,rfl,lk,Cf⟩:=F.ex
 exact .all (h kV doc pm an dg ct)
theorem aS {x qual:Str} {st:Stmt} {f:Addr} {oc:Value} {od an:Option Addr} {GA:Array (Option Value)} {kV doc pm dg ct:Value} (l:K.lookup f=some ⟨oc,od,.func (PySem.W.fnOf x qual (aB st) (ak st) (af st) .none kV doc pm an dg ct),GA⟩)
   (c:PySem.W.codeIn K dg qual=true) (k:PySem.W.keepIn K (.ref f)=true):fM K x qual st f (PySem.W.fnOf x qual (aB st) (ak st) (af st) .none kV doc pm an dg ct):=⟨⟨oc,od,kV,doc,pm,an,dg,ct,GA,rfl,l,c⟩,k⟩
end
theorem CB {n:Nat} (h:n<=1000):n < sizeLine:=Nat.lt_of_le_of_lt h (by decide)
section
variable {X:Cx}
end
theorem Af {A B:Prop} (h:A):if true=true then A else B:=by
 rw [if_pos rfl]
 exact h
theorem cQ {c A B:Prop} [Decidable c] (h1:c->A) (h2:¬ c->B):if c then A else B:=by
 by_cases h:c
 . rw [if_pos h]
   exact h1 h
 . rw [if_neg h]
   exact h2 h
def oO (H H':Hp):Prop:=∀ b o,H b=some o->H' b=some o
theorem oO.refl (H:Hp):oO H H:=fun _ _ h=>h
theorem oO.trans {H H1 H2:Hp} (a:oO H H1) (b:oO H1 H2):oO H H2:=fun c o h=>b c o (a c o h)
theorem oO.free {H H':Hp} (e:oO H H') {l:Addr} (h:H' l=Option.none):H l=Option.none:=by
 cases q:H l with
 | none=>rfl
 | some o=>
   rw [e l o q] at h
   cases h
theorem oO.seq {K:PySem.W.Frag} {H H':Hp} {a:Addr} {xs:List V} (e:oO H H') (h:bC K H a xs):bC K H' a xs:=by
 rcases h with (h | ⟨o,h⟩) | h
 . exact .inl (.inl (e _ _ h))
 . exact .inl (.inr ⟨o,e _ _ h⟩)
 . exact .inr h
section
variable {X:Cx}
theorem CC:gE X (.builtin "len") (fun xs H Q=>∃ a kvs,xs=[V.ref a]/\H a=some (.dK kvs)/\Q (.int kvs.length) H):=by
 intro pins s σ H xs us Q I r h
 obtain ⟨a,kvs,rfl,ha,q⟩:=h
 obtain ⟨u,rfl,ru⟩:=vals1 r
 cases ru
 exact LK I (.inl ha) fun t s' I'=>⟨.int kvs.length,H,I',⟨t,rfl⟩,q⟩
end
section
variable {κ:Type} [DecidableEq κ]
end
end L2
set_option Elab.async false
set_option linter.all false
set_option maxRecDepth 100000
namespace L2
open PySem PySem.Spec PyProof.Rows
section
variable {X:Cx}
def N7 (_ j:Int):Prop:=0 < j/\j < 10 ^ 100
theorem oQ:kU X (binaryOp .FloorDiv) (rI N7 fun i j=>.int (i / j)):=NZ fun i j _ _ _ _ _ hc q=>by
 have h0:0 < j:=hc.1
 have h1:j < 10 ^ 100:=hc.2
 refine floordiv_int (by omega) ?_ (.inl (PyProof.noPylong_of_log2 ?_))
 . rw [Int.fdiv_eq_ediv_of_nonneg _ (by omega)]
   exact q
 . have h2:j.natAbs < 10 ^ 100:=by omega
   have h3:(10:Nat) ^ 100<=2 ^ 9000:=by decide +kernel
   exact (Nat.log2_lt (by omega)).mpr (Nat.lt_of_lt_of_le h2 h3)
end
structure Callee (P:Program) (w:World) (K:PySem.W.Frag) (mg:Str->Option Value) (base:Heap) (x:Str) (k:Nat) (ps:List Str) (sp:Sp):Prop where
 ex:∃ (f:Addr) (fd:FuncData),bB P w K mg base fC k f fd ps sp/\Binds K fd ps []/\PySem.W.keepIn K (.ref f)=true/\mg x=some (.ref f)
section
variable {X:Cx} {x:Str} {k:Nat} {ps:List Str} {sp:Sp} {e:Expr} {es:List Expr} {t:TA} {p pos:Pos}
theorem Eb (C:Callee X.prog X.w X.K X.mg X.base x k ps sp) (hr:jx k X.A) (hg:Gl X x) (ha:PA X (e::es) t)
   (uU:(x==("__debug__":Str))=false:=by decide) (he:starEach (e::es) X.env=(false,eval e X.env)::starEach es X.env:=by rfl) (yh:(backTo pos (starEach es X.env)).any (·.1)=false:=by rfl):
   PE X (.Call (.Name x p) (e::es) [] pos) (mE sp [] E0 t):=by
 intro pins s σ H Q I h
 obtain ⟨f,fd,F,b,kp,m⟩:=C.ex
 have G:bB X.prog X.w X.K X.mg X.base (fun _ _ _ _ _ _=>False) k f fd ps sp:=F
 exact Gz F hr hg m kp b .nil HX ha uU he yh pins s σ H Q I h
end
end L2
namespace L2
open PySem PySem.Spec PyProof.Rows
def LM (t u:TS):TS:=fun D σ H=>∃ J:St->Hp->Prop,t { D with nx:=J } σ H/\∀ σ1 H1,J σ1 H1->u D σ1 H1
section
variable {X:Cx} {st:Stmt} {rest:List Stmt} {t u:TS}
theorem GN (h1:PS X st t) (h2:zS X rest u):zS X (st::rest) (LM t u):=by
 intro pins s σ H D I h
 obtain ⟨J,h,hJ⟩:=h
 refine wpAny_execs_cons (dZ (h1 pins s σ H { D with nx:=J } I h) fun f s1 q=>?_)
 cases f with
 | next=>
   obtain ⟨σ',H',I',q⟩:=q
   exact h2 pins s1 σ' H' D I' (hJ _ _ q)
 | ret v=>exact q
 | brk=>exact q
 | cont=>exact q
end
section
variable {α:Type} {a b c d:α} {r:List α}
theorem nH:pU (a::r) 0=some a:=oH (j:=0) rfl
theorem Ec:pU (a::b::r) 1=some b:=oH (j:=1) rfl
theorem Ed:pU (a::b::c::r) 2=some c:=oH (j:=2) rfl
theorem Ef:pU (a::b::c::d::r) 3=some d:=oH (j:=3) rfl
end
def sI (H:Hp) (p:Addr):Option (List V):=match H p with
 | some (.lst xs)=>some xs
 | some (.tup xs)=>some xs
 | some (.mh _ (.lst xs))=>some xs
 | _=>none
theorem CD {H:Hp} {p:Addr} {xs:List V} (h:H p=some (.lst xs)):sI H p=some xs:=by unfold sI;rw [h]
theorem CG {H:Hp} {p:Addr} {xs:List V} (h:H p=some (.tup xs)):sI H p=some xs:=by unfold sI;rw [h]
section
variable {X:Cx}
def Jj:R2:=fun x y H Q=>∃ p i xs v,x=.ref p/\y=.int i/\sI H p=some xs/\pU xs i=some v/\Q v H
theorem jL:gE X (.type "int") (fun xs H Q=>∃ k,xs=[.bl k]/\Q (.int (if k=true then 1 else 0)) H):=by
 intro pins s σ H xs us Q I r h
 obtain ⟨k,rfl,q⟩:=h
 exact Cp pins s σ H _ us Q I r (.inr ⟨k,rfl,q⟩)
end
end L2
namespace L2
open PySem PySem.Spec PyProof.Rows
theorem bN:bootBuiltins "len"=some (.builtin "len"):=by decide +kernel
theorem aA:bootBuiltins "isinstance"=some (.builtin "isinstance"):=by decide +kernel
theorem Jk:bootBuiltins "max"=some (.builtin "max"):=by decide +kernel
theorem Jl:bootBuiltins "min"=some (.builtin "min"):=by decide +kernel
theorem mO:bootBuiltins "all"=some (.builtin "all"):=by decide +kernel
theorem kI:bootBuiltins "int"=some (.type "int"):=by decide +kernel
theorem By:bootBuiltins "bool"=some (.type "bool"):=by decide +kernel
theorem fN:bootBuiltins "str"=some (.type "str"):=by decide +kernel
theorem lF:bootBuiltins "list"=some (.type "list"):=by decide +kernel
theorem iO:bootBuiltins "tuple"=some (.type "tuple"):=by decide +kernel
theorem vU:bootBuiltins "dict"=some (.type "dict"):=by decide +kernel
theorem vV:bootBuiltins "enumerate"=some (.type "enumerate"):=by decide +kernel
theorem Jm:bootBuiltins "zip"=some (.type "zip"):=by decide +kernel
end L2
namespace L2
open PySem PySem.Spec PyProof.Rows
theorem QI {CX:uT} {P:Program} {w:World} {K:PySem.W.Frag} {mg:Str->Option Value} {base:Heap} {N:List Str} {qual:Str} {scope:Scope} {f:Addr} {cd:Value} {A:Around} {outer:List Env} {s:Shared} {H:Hp} {E:XK}:
   (mF CX P w K mg base N qual scope f cd A outer s H E).K=K:=rfl
end L2
namespace L2
open PySem PySem.Spec PyProof.Rows
theorem Ag:Bp 1 0=some 0:=rfl
theorem Ah:Bp 2 0=some 0:=rfl
theorem Ai:Bp 2 1=some 1:=rfl
theorem Aj:Bp 3 0=some 0:=rfl
theorem Ak:Bp 3 1=some 1:=rfl
theorem Al:Bp 3 2=some 2:=rfl
theorem nV {H:Hp} {p:Addr} {xs:List V}:sI (upd H p (.lst xs)) p=some xs:=CD ah
theorem nW {H:Hp} {p:Addr} {xs:List V}:sI (upd H p (.tup xs)) p=some xs:=CG ah
theorem mP {α:Type} {xs:List α} {k:Int} (h0:0<=k) (h1:k < (xs.length:Int)):∃ v,pU xs k=some v/\v∈xs:=by
 have hk:k.toNat < xs.length:=by omega
 have e:k=((k.toNat:Nat):Int):=by omega
 have q:pU xs ((k.toNat:Nat):Int)=some xs[k.toNat]:=oH (List.getElem?_eq_getElem hk)
 rw [<- e] at q
 exact ⟨_,q,List.getElem_mem hk⟩
theorem Eg {n:Nat} (h:n<=1000):n<=sizeLine:=Nat.le_of_lt (CB h)
end L2
namespace L2
open PySem PySem.Spec PyProof.Rows
structure QJ (Q:VK):Type where
 n:Nat
def Cal (sp:Sp) (vs:List V) (H:Hp) (Q:VK) (_:QJ Q) (E:XK):Prop:=sp vs H Q E
theorem Am {sp:Sp} {yg:List V} {E:XK} {t:TA} {σ:St} {H:Hp} {Q:VK}:mE sp yg E t σ H Q=t σ H (fun vs H1=>Cal sp (vs++yg) H1 Q ⟨0⟩ E):=rfl
section
variable {X:Cx} {pos p1 p2:Pos} {j1 j2:Nat}
theorem GO {a b:Int} (v:Int) (h:decide (0<=b/\b<=1000000/\a.natAbs < 2 ^ 64/\a ^ b.toNat=v)=true:=by decide +kernel):PE X (.BinOp (.Constant (.int a) j1 p1) .Pow (.Constant (.int b) j2 p2) pos) (tC (.int v)):=by
 intro pins s σ H Q I q
 obtain ⟨h1,h2,h3,h4⟩:=of_decide_eq_true h
 refine HN IQ zT zT pins s σ H Q I ⟨a,b,rfl,rfl,⟨h1,h2,h3⟩,?_⟩
 show Q (V.int (a ^ b.toNat)) H
 rw [h4]
 exact q
end
end L2
namespace L2
open PySem PySem.Spec PyProof.Rows
theorem oR {H:Hp} {a b:Addr} {o:HO}:upd H a o b=none↔b≠a/\H b=none:=by
 unfold upd
 by_cases h:b=a
 . simp [h]
 . simp [h]
end L2
namespace L2
open PySem PySem.Spec PyProof.Rows
def Loop (J:It) (g:TG) (tb:TS) (D:Ends) (σ:St) (H:Hp):Prop:=∃ W:Nat->Nat->St->Hp->Prop,(∃ m,W 0 m σ H)/\∀ i m σ H,W i m σ H->
 (J.stop i H/\D.nx σ H)∨(J.go i H/\∃ N:St->Hp->Prop,(∀ σ' H',N σ' H'->∃ m',m' < m/\W (i + 1) m' σ' H')/\∀ x H',J.HL i H x H'->g x σ H' fun σ2 H2=>tb { D with nx:=N,ct:=N,bk:=D.nx } σ2 H2)
section
variable {K:PySem.W.Frag} {ta:TA} {tl:TE} {g:TG} {tb:TS} {D:Ends} {σ:St} {H:Hp} {a:Addr} {xs:List V} {lo:Int} {n:Nat}
theorem p7:uo (Bg ta) g tb D σ H=ta σ H (fun vs H1=>∃ j:Int,vs=[.int j]/\-(2 ^ 62)<=j/\j < 2 ^ 62/\Loop (Be 0 j.toNat) g tb D σ H1):=rfl
theorem p8:uo (HM ta) g tb D σ H=ta σ H (fun vs H1=>∃ i j:Int,vs=[.int i,.int j]/\(-(2 ^ 62)<=i/\i < 2 ^ 62/\-(2 ^ 62)<=j/\j < 2 ^ 62)/\Loop (Be i (j - i).toNat) g tb D σ H1):=rfl
theorem qf:uo (Bf K tl) g tb D σ H=tl σ H (fun x H1=>∃ a,x=.ref a/\(∃ xs,bC K H1 a xs)/\Loop (zW K a) g tb D σ H1):=rfl
theorem sJ:uo (Gn K tl) g tb D σ H=tl σ H (fun x H1=>∃ a,x=.ref a/\(∃ xs,mw K H1 a xs)/\Loop (KZ K a) g tb D σ H1):=rfl
theorem sL (Pv:Nat->St->Hp->Prop) (h0:Pv 0 σ H)
   (hs:∀ i σ H,i < n->Pv i σ H->g (.int (lo + i)) σ H fun σ2 H2=>tb { D with nx:=Pv (i + 1),ct:=Pv (i + 1),bk:=D.nx } σ2 H2) (hd:∀ σ H,Pv n σ H->D.nx σ H):Loop (Be lo n) g tb D σ H:=Ck Pv h0 hs hd
theorem jM (Pv:Nat->St->Hp->Prop) (h0:Pv 0 σ H) (hl:∀ i σ H,i<=xs.length->Pv i σ H->bC K H a xs)
   (hs:∀ i x σ H,xs[i]?=some x->Pv i σ H->g x σ H fun σ2 H2=>tb { D with nx:=Pv (i + 1),ct:=Pv (i + 1),bk:=D.nx } σ2 H2) (hd:∀ σ H,Pv xs.length σ H->D.nx σ H):Loop (zW K a) g tb D σ H:=DL Pv h0 hl hs hd
end
end L2
set_option Elab.async false
set_option linter.all false
set_option maxRecDepth 100000
namespace L2
open PySem PySem.Spec PyProof.Rows
structure JE (X:Cx) (e:Expr) (t:TE):Prop where h:PE X e t
structure JT (X:Cx) (e:Expr) (t:TT):Prop where h:PT X e t
structure JW (X:Cx) (e:Expr) (t:TT):Prop where h:PW X e t
structure JA (X:Cx) (es:List Expr) (t:TA):Prop where h:PA X es t
structure JS (X:Cx) (st:Stmt) (t:TS):Prop where h:PS X st t
structure JB (X:Cx) (st:List Stmt) (t:TS):Prop where h:zS X st t
structure JG (X:Cx) (e:Expr) (t:TG):Prop where h:PG X e t
structure K2 (X:Cx) (es:List Expr) (t:zV):Prop where h:Lr X es t
structure JI (X:Cx) (tg e:Expr) (t:TI):Prop where h:PI X tg e t
structure JO (X:Cx) (e:Option Expr) (t:TO):Prop where h:PO X e t
section
variable {X:Cx} {a b c e o:Expr} {es rest:List Expr} {ta tb tc te to:TE} {t tl:TA} {tA Gg:TT} {pos p p':Pos} {st:Stmt} {HY LN:List Stmt} {u v:TS}
theorem ev (i:Nat) {x:Str} (hN:X.N[i]?=some x:=by rfl) (hv:NV X.env.scope x:=by first | exact Or.inl rfl | exact Or.inr (Or.inl rfl) | exact Or.inr (Or.inr rfl)) (hd:(x==("__debug__":Str))=false:=by decide)
   (Cf:(x==("__classdict__":Str))=false:=by decide):JE X (.Name x pos) (qR i):=⟨Iv hN hv hd Cf⟩
theorem ei {i j}:JE X (.Constant (.int i) j pos) (tC (.int i)):=⟨zT⟩
theorem yi {b j}:JE X (.Constant (.bool b) j pos) (tC (.bl b)):=⟨Lm⟩
theorem bZ {j}:JE X (.Constant .none j pos) (tC .cY):=⟨Iw⟩
theorem bg {x j}:JE X (.Constant (.str x) j pos) (tC (.str x)):=⟨Du⟩
theorem kW {x:Str} {v:V} {u:Value} (hg:Gl X x) (hm:X.mg x=some u) (r:RelV v u) (hd:(x==("__debug__":Str))=false:=by decide):JE X (.Name x pos) (tC v):=⟨Ge hg hm r hd⟩
theorem iL {x:Str} {n:String} (hg:Gl X x) (hm:X.mg x=none) (hv:bootBuiltins x=some (.type n)) (hn:x≠"__name__":=by decide) (hd:(x==("__debug__":Str))=false:=by decide):JE X (.Name x pos) (tC (.ty n)):=⟨Gf hg hm hv rfl hn hd⟩
theorem dB {op:Operator} {r:R2} (ho:kU X (binaryOp op) r) (ha:JE X a ta) (hb:JE X b tb):JE X (.BinOp a op b pos) (DM r ta tb):=⟨HN ho ha.h hb.h⟩
theorem gW {a b:Int} {j1 j2:Nat} {p1 p2:Pos} (v:Int) (h:decide (0<=b/\b<=1000000/\a.natAbs < 2 ^ 64/\a ^ b.toNat=v)=true:=by decide +kernel):JE X (.BinOp (.Constant (.int a) j1 p1) .Pow (.Constant (.int b) j2 p2) pos) (tC (.int v)):=⟨GO v h⟩
theorem QK {op:UnaryOp} {r:V->Hp->VK->Prop} (ho:NY X (unaryOp op) r) (ha:JE X a ta):JE X (.UnaryOp op a pos) (Ls r ta):=⟨Lu ho ha.h⟩
theorem Jo (ha:JE X a ta):JE X (.UnaryOp .Not a pos) (yq ta):=⟨ID ha.h⟩
theorem jY {op} (h:JE X a ta):JE X (.BoolOp op [a] pos) ta:=⟨IB h.h⟩
theorem iP (ha:JE X a ta) (hb:JE X (.BoolOp .And (b::rest) pos) tb):JE X (.BoolOp .And (a::b::rest) pos) (yp ta tb):=⟨IC ha.h hb.h⟩
theorem eor (ha:JE X a ta) (hb:JE X (.BoolOp .Or (b::rest) pos) tb):JE X (.BoolOp .Or (a::b::rest) pos) (DA ta tb):=⟨Lo ha.h hb.h⟩
theorem K3 (hc:JT X c tA) (ha:JE X a ta) (hb:JE X b tb):JE X (.IfExp c a b pos) (Lp tA ta tb):=⟨DB hc.h ha.h hb.h⟩
theorem jq {op:CmpOp} {r:R2} (ho:kU X (compareOp op) r) (ha:JE X a ta) (hb:JE X b tb) (hm:behindInMarks op b=false):JE X (.Compare a [op] [b] pos) (DM r ta tb):=⟨Gu ho ha.h hb.h hm⟩
theorem Jp {op IS:CmpOp} {r r':R2} (ho:kU X (compareOp op) r) (Ds:kU X (compareOp IS) r') (ha:JE X a ta) (hb:JE X b tb) (hc:JE X c tc)
   (hm:lastMarks [op,IS] [b,c]=false:=by with_unfolding_all rfl):JE X (.Compare a [op,IS] [b,c] pos) (sE r r' ta tb tc):=⟨DP ho Ds ha.h hb.h hc.h hm⟩
theorem dW {r:R2} (hr:K0 X r) (ha:JE X a ta) (hb:JE X b tb) (hs:Br b):JE X (.Subscript a b pos) (DM r ta tb):=⟨LB hr ha.h hb.h hs⟩
theorem bS {r:V->Option Int->Option Int->Hp->VK->Prop} {lo hi:Option Expr} {tl th:TO} (hr:N3 X r) (he:JE X e te) (hl:JO X lo tl) (hu:JO X hi th):JE X (.Subscript e (.Slice lo hi none p) pos) (LA r te tl th):=⟨DU hr he.h hl.h hu.h⟩
theorem ay {x:Str} {k:Nat} {ps:List Str} {sp:Sp} (C:Callee X.prog X.w X.K X.mg X.base x k ps sp) (hr:jx k X.A) (hg:Gl X x) (ha:JA X (e::es) t)
   (uU:(x==("__debug__":Str))=false:=by decide) (he:starEach (e::es) X.env=(false,eval e X.env)::starEach es X.env:=by rfl) (yh:(backTo pos (starEach es X.env)).any (·.1)=false:=by rfl):
   JE X (.Call (.Name x p) (e::es) [] pos) (mE sp [] E0 t):=⟨Eb C hr hg ha.h uU he yh⟩
theorem aI {x:Str} {id:String} {r:List V->Hp->VK->Prop} (hc:gE X (.builtin id) r) (hg:Gl X x) (hm:X.mg x=none) (hv:bootBuiltins x=some (.builtin id)) (ha:JA X (e::es) t) (hn:x≠"__name__":=by decide) (uU:(x==("__debug__":Str))=false:=by decide)
   (he:starEach (e::es) X.env=(false,eval e X.env)::starEach es X.env:=by rfl) (yh:(backTo pos (starEach es X.env)).any (·.1)=false:=by rfl):JE X (.Call (.Name x p) (e::es) [] pos) (Ja r t):=⟨DT hc hg hm hv ha.h hn uU he yh⟩
theorem cZ {x:Str} {T:String} {r:List V->Hp->VK->Prop} (hc:gE X (.type T) r) (hg:Gl X x) (hm:X.mg x=none) (hv:bootBuiltins x=some (.type T)) (ha:JA X (e::es) t) (hn:x≠"__name__":=by decide) (uU:(x==("__debug__":Str))=false:=by decide)
   (he:starEach (e::es) X.env=(false,eval e X.env)::starEach es X.env:=by rfl) (yh:(backTo pos (starEach es X.env)).any (·.1)=false:=by rfl):JE X (.Call (.Name x p) (e::es) [] pos) (Ja r t):=⟨Ct hc hg hm hv ha.h hn uU he yh⟩
theorem LO {T id:String} {name:Str} {r:V->List V->Hp->VK->Prop} {apos jX:Pos} (pa:PlainAttrs T) (slot:Slot T name id) (Bu:typeOf (.builtin id)=pure (.type "method_descriptor")) (hm:DV X id r) (ho:JE X o to)
   (sG:attributeBase o name X.env (eval o X.env)=eval o X.env:=by rfl) (sH:(apos.endLine==jX.line)=true:=by rfl):JE X (.Call (.Attribute o name apos) [] [] jX) (DY X.K T r to):=⟨Je pa slot Bu hm ho.h sG sH⟩
theorem lY {T id:String} {name:Str} {r:V->List V->Hp->VK->Prop} {apos jX:Pos} (pa:PlainAttrs T) (slot:Slot T name id) (Bu:typeOf (.builtin id)=pure (.type "method_descriptor")) (hm:DV X id r) (ho:JE X o to) (ha:JA X (e::es) t)
   (sG:attributeBase o name X.env (eval o X.env)=eval o X.env:=by rfl)
   (Jf:((backTo jX (starEach (e::es) X.env)).all (fun x=>!x.1)&&(backToKw jX (keywordEach [] X.env)).all (fun x=>x.1.isSome)
     &&decide ((e::es).length + ([]:List Keyword).length + (if ([]:List Keyword).isEmpty then 0 else 1) < 30))=true:=by rfl)
   (sH:(apos.endLine==jX.line)=true:=by rfl) (hs:starEach (e::es) X.env=(false,eval e X.env)::starEach es X.env:=by rfl) (Ad:(backTo jX (starEach es X.env)).any (·.1)=false:=by rfl):
   JE X (.Call (.Attribute o name apos) (e::es) [] jX) (LD X.K T r to t):=⟨LF pa slot Bu hm ho.h ha.h sG Jf sH hs Ad⟩
theorem aj:JA X [] yC:=⟨DR⟩
theorem aa (ha:JE X e te) (hr:JA X es t) (hs:starEach (e::es) X.env=(false,eval e X.env)::starEach es X.env:=by rfl):JA X (e::es) (mD te t):=⟨Bm ha.h hr.h hs⟩
theorem aV {op:CmpOp} {r:R2} (ho:kU X (compareOp op) r) (ha:JE X a ta) (hb:JE X b tb) (hm:behindInMarks op b=false):JT X (.Compare a [op] [b] pos) (yz (DM r ta tb)):=⟨Gv ho ha.h hb.h hm⟩
theorem gK (h:JE X e te) (he:∀ whole,isTrue e X.env whole=(do let v <- whole;standAt e.pos;holding [v] (truthy v)):=by intro _;rfl):JT X e (tB te):=⟨Iz h.h he⟩
theorem Jq (ha:JE X a ta) (he:∀ whole,isTrue a X.env whole=(do let v <- whole;standAt a.pos;holding [v] (truthy v))):
   JT X a (fun σ H Q=>ta σ H fun x H'=>∃ k,IT X.K x H' k/\Q k H'):=⟨DQ ha.h he⟩
theorem jZ (ha:JT X a tA):JT X (.UnaryOp .Not a pos) (Dz tA):=⟨IA ha.h⟩
theorem tw (h:JW X e tA):JT X e tA:=⟨PW.pt h.h⟩
theorem jP (ha:JT X a tA):JW X (.BoolOp .And [a] pos) tA:=⟨pw_and1 ha.h⟩
theorem je (ha:JT X a tA):JW X (.BoolOp .Or [a] pos) tA:=⟨pw_or1 ha.h⟩
theorem nX (ha:JT X a tA) (hb:JW X (.BoolOp .And (b::rest) pos) Gg):JW X (.BoolOp .And (a::b::rest) pos) (Dy tA Gg):=⟨pw_and ha.h hb.h⟩
theorem lB (ha:JT X a tA) (hb:JW X (.BoolOp .Or (b::rest) pos) Gg):JW X (.BoolOp .Or (a::b::rest) pos) (Ln tA Gg):=⟨pw_or ha.h hb.h⟩
theorem bF:JB X [] yt:=⟨Gh⟩
theorem aq (h1:JS X st u) (h2:JB X HY v):JB X (st::HY) (DC u v):=⟨DE h1.h h2.h⟩
theorem aH (h1:JS X st u):JB X [st] u:=⟨Gi h1.h⟩
theorem nF (h1:JS X st u) (h2:JB X HY v):JB X (st::HY) (LM u v):=⟨GN h1.h h2.h⟩
theorem mQ (he:JE X e te) (hs:swapsWith e none pos.line X.env=pure false:=by rfl):JS X (.Expr e pos) (yu te):=⟨Gj he.h hs⟩
theorem aR (he:JE X e te):JS X (.Return (some e) pos) (DF te):=⟨IE he.h⟩
theorem d8 (hc:JT X c tA) (ha:JB X HY u) (hb:JB X LN v):JS X (.If c HY LN pos) (DH tA u v):=⟨Lq hc.h ha.h hb.h⟩
theorem sset {i:Nat} {x:Str} (hN:X.N.Nodup) (hi:X.N[i]?=some x) (hx:Loc X.env.scope x) (he:JE X e te) (hs:swapsWith e (some (.Name x p)) pos.line X.env=pure false:=by rfl) (hf:X.fn x=true∨X.env.scope.names.lookup x=some .local:=by first | exact .inl rfl | exact .inr rfl | assumption):
   JS X (.Assign [.Name x p] e pos) (yv te (dw i)):=⟨IK hN hi hx he.h hs hf⟩
theorem kX {tg:Expr} {g:TG} (he:JE X e te) (hg:JG X tg g) (hs:swapsWithSole [tg] e pos.line X.env=pure false:=by rfl) (hw:swappedStores [tg] e X.env=pure none:=by rfl)
   (h1:(assignEach [tg] X.env).map (·.2)=[assign tg X.env]:=by rfl):JS X (.Assign [tg] e pos) (yv te g):=⟨IJ he.h hg.h hs hw h1⟩
theorem vW {tg iter:Expr} {wi:TI} {g:TG} (hp:PassesOwn (model X.prog X.w) X.A X.env X.xe) (hc:X.calm=true) (hi:JI X tg iter wi) (hg:JG X tg g) (hb:JB X HY u)
   (hs:∀ x,foldedSetIterable iter X.env x=pure x:=by intro _;rfl):JS X (.For tg iter HY [] pos) (uo wi g u):=⟨IM hp hc hi.h hg.h hb.h hs⟩
theorem aM {i:Nat} {x:Str} (hN:X.N.Nodup) (hi:X.N[i]?=some x) (hx:Loc X.env.scope x) (hf:X.fn x=true∨X.env.scope.names.lookup x=some .local:=by first | exact .inl rfl | exact .inr rfl | assumption):JG X (.Name x pos) (dw i):=⟨Bd hN hi hx hf⟩
theorem Jr {i:Expr} {ti:TE} {t:Gk} (ho:JE X o to) (hi:JE X i ti) (hs:IF X t)
   (ha:∀ v,assign (.Subscript o i pos) X.env v=(do
     let ov <- holding [v] (eval o X.env)
     let iv <- holding [v,ov] (eval i X.env)
     standAt pos
     holding [v,ov,iv] (setItem ov iv v)
     release [v,ov,iv] []):=by intro _;rfl):JG X (.Subscript o i pos) (DJ to ti t):=⟨II ho.h hi.h hs ha⟩
theorem jA:K2 X [] vN:=⟨Gm⟩
theorem bf {t:TG} {u:zV} (h1:JG X e t) (h2:K2 X es u) (hs:(assignEach (e::es) X.env).map (·.2)=assign e X.env::(assignEach es X.env).map (·.2):=by rfl):K2 X (e::es) (kQ t u):=⟨DI h1.h h2.h hs⟩
theorem rO {tg:Expr} (hg:Gl X "range") (hm:X.mg "range"=none) (ha:JA X [a] t) (hs:starEach [a] X.env=[(false,eval a X.env)]:=by rfl):JI X tg (.Call (.Name "range" p) [a] [] pos) (Bg t):=⟨Ci hg hm ha.h hs⟩
theorem d9 {tg l:Expr} (hl:JE X l te):JI X tg l (Bf X.K te):=⟨Gp hl.h⟩
theorem QL {tg l:Expr} (hl:JE X l te):JI X tg l (Gn X.K te):=⟨IL hl.h⟩
theorem dS:JO X none oE:=⟨GB⟩
theorem cz (h:JE X e te):JO X (some e) (yH te):=⟨GC h.h⟩
end
section
variable {P:Program} {w:World} {K:PySem.W.Frag} {mg:Str->Option Value} {base:Heap}
theorem fM.iM {x qual:Str} {st:Stmt} {f:Addr} {fd:FuncData} {N ps:List Str} {k:Nat} {sp:Sp} (F:fM K x qual st f fd) (S:aE N ps (af st)) (len:∀ vs H Q E,sp vs H Q E->vs.length=ps.length)
   (oB:∀ (dg:Value) (A:Around) (outer:List Env) (s:Shared) (H:Hp) (vs:List V) (Q:VK) (E:XK),jx k (A.deeper (envOfC qual (af st) s.heap.objs.size f dg))->sp vs H Q E->
     ∃ t,JB (mF fC P w K mg base N qual (af st) f dg A outer s H E).KY (ak st) t/\t { nx:=fun _ H'=>Q .cY H',rt:=Q } (start N vs) H):bB P w K mg base fC (k + 1) f fd ps sp:=
 F.ok S len fun dg A outer s H vs Q E hr h=>let ⟨t,a,b⟩:=oB dg A outer s H vs Q E hr h;⟨t,a.h,b⟩
end
end L2
set_option Elab.async false
set_option linter.all false
set_option maxRecDepth 100000
namespace L2
open PySem PySem.Spec PyProof.Rows
mutual
def Is (K:PySem.W.Frag) (H:Hp):PyData->V->Prop
 | .none,v=>v=.cY
 | .bool b,v=>v=.bl b
 | .int i,v=>v=.int i
 | .str x,v=>v=.str x
 | .list ds,v=>∃ a vs,v=.ref a/\bC K H a vs/\cj K H ds vs
 | .tuple ds,v=>∃ a vs,v=.ref a/\mw K H a vs/\cj K H ds vs
 | .dict _,_=>False
def cj (K:PySem.W.Frag) (H:Hp):List PyData->List V->Prop
 | [],vs=>vs=[]
 | d::ds,vs=>∃ v r,vs=v::r/\Is K H d v/\cj K H ds r
end
section
variable {X:Cx} {pins:List (Addr×Obj)} {σ:St} {H:Hp} {s:Shared}
mutual
theorem Is.reads (I:Inv X pins σ H s):∀ {d:PyData} {v:V} {u:Value},Is X.K H d v->RelV v u->∃ as,Reads s.heap u d as
 | .none,v,u,h,r=>by unfold Is at h;subst h;cases r;exact ⟨_,.none⟩
 | .bool b,v,u,h,r=>by unfold Is at h;subst h;cases r;exact ⟨_,.bool b⟩
 | .int i,v,u,h,r=>by unfold Is at h;subst h;obtain ⟨t,rfl⟩:=r;exact ⟨_,.int i t⟩
 | .str x,v,u,h,r=>by unfold Is at h;subst h;obtain ⟨t,rfl⟩:=r;exact ⟨_,.str x t⟩
 | .list ds,v,u,h,r=>by
   unfold Is at h
   obtain ⟨a,vs,rfl,hs,ha⟩:=h
   cases r
   obtain ⟨its,rv,⟨o,n,e,hc,_,hd⟩,_⟩:=I.list hs
   obtain ⟨as,q⟩:=cj.reads I ha rv
   exact ⟨_,.list e hc hd (by simpa using q)⟩
 | .tuple ds,v,u,h,r=>by
   unfold Is at h
   obtain ⟨a,vs,rfl,hs,ha⟩:=h
   cases r
   obtain ⟨its,rv,⟨o,e,hc,n,hd⟩,_⟩:=I.tuple hs
   obtain ⟨as,q⟩:=cj.reads I ha rv
   exact ⟨_,.tuple e hc hd (by simpa using q)⟩
 | .dict _,v,u,h,r=>by unfold Is at h;exact h.elim
theorem cj.reads (I:Inv X pins σ H s):∀ {ds:List PyData} {vs:List V} {us:List Value},cj X.K H ds vs->Vals vs us->∃ as,ReadsAll s.heap us ds as
 | [],vs,us,h,r=>by unfold cj at h;subst h;cases r;exact ⟨_,.nil⟩
 | d::ds,vs,us,h,r=>by
   unfold cj at h
   obtain ⟨v,rs,rfl,h1,h2⟩:=h
   cases r with
   | cons r1 r2=>
     obtain ⟨as,q1⟩:=Is.reads I h1 r1
     obtain ⟨bs,q2⟩:=cj.reads I h2 r2
     exact ⟨_,.cons q1 q2⟩
end
end
section
variable {X:Cx}
def Eh (K:PySem.W.Frag) (neg:Bool):R2:=fun x y H Q=>∃ d e,Is K H d x/\Is K H e y/\SeqAt.shaped d=true/\SeqAt.shaped e=true/\Q (.bl (if neg=true then !PyData.eqv d e else PyData.eqv d e)) H
theorem An (hu:X.A.units + 64 < cLine):kU X (compareOp .Eq) (Eh X.K false):=by
 intro pins s σ H x y v u Q I rx ry h
 obtain ⟨d,e,hd,he,sd,se,q⟩:=h
 obtain ⟨as,ra⟩:=hd.reads I rx
 obtain ⟨bs,rb⟩:=he.reads I ry
 exact SeqAt.compareEq_shaped ra rb sd se hu ⟨.bl _,H,I,rfl,q⟩
theorem Js (hu:X.A.units + 64 < cLine):kU X (compareOp .NotEq) (Eh X.K true):=by
 intro pins s σ H x y v u Q I rx ry h
 obtain ⟨d,e,hd,he,sd,se,q⟩:=h
 obtain ⟨as,ra⟩:=hd.reads I rx
 obtain ⟨bs,rb⟩:=he.reads I ry
 exact SeqAt.compareNe_shaped ra rb sd se hu ⟨.bl _,H,I,rfl,q⟩
end
mutual
theorem Is.same {K:PySem.W.Frag} {H H':Hp} (h:oO H H'):∀ {d:PyData} {v:V},Is K H d v->Is K H' d v
 | .none,v,q=>by unfold Is at q ⊢;exact q
 | .bool b,v,q=>by unfold Is at q ⊢;exact q
 | .int i,v,q=>by unfold Is at q ⊢;exact q
 | .str x,v,q=>by unfold Is at q ⊢;exact q
 | .list ds,v,q=>by
   unfold Is at q ⊢
   obtain ⟨a,vs,e,hs,ha⟩:=q
   exact ⟨a,vs,e,h.seq hs,cj.same h ha⟩
 | .tuple ds,v,q=>by
   unfold Is at q ⊢
   obtain ⟨a,vs,e,hs,ha⟩:=q
   refine ⟨a,vs,e,?_,cj.same h ha⟩
   rcases hs with (hs | ⟨o,hs⟩) | hs
   . exact .inl (.inl (h _ _ hs))
   . exact .inl (.inr ⟨o,h _ _ hs⟩)
   . exact .inr hs
 | .dict _,v,q=>by unfold Is at q;exact q.elim
theorem cj.same {K:PySem.W.Frag} {H H':Hp} (h:oO H H'):∀ {ds:List PyData} {vs:List V},cj K H ds vs->cj K H' ds vs
 | [],vs,q=>by unfold cj at q ⊢;exact q
 | d::ds,vs,q=>by
   unfold cj at q ⊢
   obtain ⟨v,r,e,h1,h2⟩:=q
   exact ⟨v,r,e,Is.same h h1,cj.same h h2⟩
end
end L2
set_option Elab.async false
set_option linter.all false
set_option maxRecDepth 100000
namespace L2
open PySem PySem.Spec PyProof.Rows
theorem Ei:∀ {u:Value} {x:V},yr u=some x->RelV x u:=by
 intro u x h
 cases u <;> simp only [yr,Option.some.injEq] at h <;> first | (subst h;first | rfl | exact ⟨_,rfl⟩) | cases h
theorem Ej:∀ {us:List Value} {xs:List V},us.mapM yr=some xs->Vals xs us:=by
 intro us
 induction us with
 | nil=>intro xs h;simp at h;subst h;exact .nil
 | cons u us ih=>
   intro xs h
   rw [List.mapM_cons] at h
   cases e1:yr u with
   | none=>rw [e1] at h;simp at h
   | some x=>
     cases e2:us.mapM yr with
     | none=>rw [e1,e2] at h;simp at h
     | some ys=>
       rw [e1,e2] at h
       simp at h
       subst h
       exact .cons (Ei e1) (ih e2)
def lG (K:PySem.W.Frag) (a:Addr):Option (List V):=match K.lookup a with
 | some ⟨.type n,_,.seq its _,_⟩=>if n="tuple" then (if its.size<=sizeLine then its.toList.mapM yr else none) else none
 | _=>none
theorem BA {K:PySem.W.Frag} {H:Hp} {a:Addr} {xs:List V} (h:lG K a=some xs):mw K H a xs:=by
 unfold lG at h
 split at h
 . next n dd its k sl e=>
   by_cases h1:n="tuple"
   . rw [if_pos h1] at h
     by_cases h2:its.size<=sizeLine
     . rw [if_pos h2] at h
       subst h1
       exact .inr ⟨_,its,k,e,rfl,rfl,h2,Ej h⟩
     . rw [if_neg h2] at h;cases h
   . rw [if_neg h1] at h;cases h
 . cases h
def tupQ (K:PySem.W.Frag) (H:Hp) (a:Addr):Option (List V):=match H a with
 | some (.tup xs)=>some xs
 | some _=>none
 | none=>lG K a
def oS (K:PySem.W.Frag) (H:Hp) (a:Addr):Option (List V):=match H a with
 | some (.lst xs)=>some xs
 | some (.tup xs)=>some xs
 | some (.mh _ (.lst xs))=>some xs
 | some _=>none
 | none=>lG K a
section
variable {K:PySem.W.Frag} {H H':Hp} {a b:Addr} {xs:List V} {o:HO}
theorem fc (h:tupQ K H a=some xs):mw K H a xs:=by
 unfold tupQ at h
 split at h
 . next e=>cases h;exact .inl (.inl e)
 . cases h
 . exact BA h
theorem rP (h:oS K H a=some xs):bC K H a xs∨mw K H a xs:=by
 unfold oS at h
 split at h
 . next e=>cases h;exact .inl (.inl (.inl e))
 . next e=>cases h;exact .inr (.inl (.inl e))
 . next e=>cases h;exact .inl (.inl (.inr ⟨_,e⟩))
 . cases h
 . exact .inr (BA h)
theorem br (h:tupQ K H a=some xs):oS K H a=some xs:=by
 unfold tupQ at h
 unfold oS
 split at h
 . next e=>rw [e];exact h
 . cases h
 . next e=>rw [e];exact h
theorem aX (h:H a=some (.lst xs)):oS K H a=some xs:=by unfold oS;rw [h]
theorem Ek (h:H a=some (.tup xs)):oS K H a=some xs:=by unfold oS;rw [h]
theorem El (h:H a=some (.tup xs)):tupQ K H a=some xs:=by unfold tupQ;rw [h]
theorem qg:oS K (upd H a (.lst xs)) a=some xs:=aX ah
theorem qh:oS K (upd H a (.tup xs)) a=some xs:=Ek ah
theorem aN:tupQ K (upd H a (.tup xs)) a=some xs:=El ah
structure Ext (K:PySem.W.Frag) (H H':Hp):Prop where
 same:oO H H'
 mod:∀ a xs,H a=none->lG K a=some xs->H' a=none
theorem Ext.refl:Ext K H H:=⟨oO.refl H,fun _ _ h _=>h⟩
theorem Ext.trans {H1 H2:Hp} (x:Ext K H H1) (y:Ext K H1 H2):Ext K H H2:=⟨x.same.trans y.same,fun a xs h k=>y.mod a xs (x.mod a xs h k) k⟩
theorem Ext.tup (x:Ext K H H') (h:tupQ K H a=some xs):tupQ K H' a=some xs:=by
 unfold tupQ at h ⊢
 split at h
 . next e=>rw [x.same _ _ e];exact h
 . cases h
 . next e=>rw [x.mod a xs e h];exact h
end
section
variable {X:Cx}
def GP (K:PySem.W.Frag):R2:=fun x y H Q=>∃ p i xs v,x=.ref p/\y=.int i/\oS K H p=some xs/\pU xs i=some v/\Q v H
theorem bI:K0 X (GP X.K):=by
 intro value slice pins s σ H x y v u Q I rx ry h hs
 obtain ⟨p,i,xs,z,rfl,rfl,hq,he,q⟩:=h
 rcases rP (K:=X.K) hq with h1 | h1
 . exact Bs value slice pins s σ H _ _ v u Q I rx ry ⟨p,xs,i,z,rfl,rfl,h1,he,q⟩ hs
 . exact Jb value slice pins s σ H _ _ v u Q I rx ry ⟨p,xs,i,z,rfl,rfl,h1,he,q⟩ hs
theorem bE:gE X (.builtin "len") (fun xs H Q=>∃ p ys,xs=[.ref p]/\oS X.K H p=some ys/\Q (.int ys.length) H):=by
 intro pins s σ H xs us Q I r h
 obtain ⟨p,ys,rfl,hq,q⟩:=h
 exact lE pins s σ H _ us Q I r ⟨p,ys,rfl,rP hq,q⟩
end
end L2
namespace L2
open PySem PySem.Spec PyProof.Rows
def new (K:PySem.W.Frag) (H:Hp) (p:Addr):Prop:=H p=none/\lG K p=none
theorem rQ {K:PySem.W.Frag} {H:Hp} {a p:Addr} {o:HO}:new K (upd H a o) p↔p≠a/\new K H p:=by
 unfold new
 rw [oR,and_assoc]
theorem u7 {K:PySem.W.Frag} {a:Addr} (h:K.lookup a=none):lG K a=none:=by unfold lG;rw [h]
section
variable {X:Cx} {es:List Expr} {t:TA} {pos:Pos} {pins:List (Addr×Obj)} {σ:St} {H:Hp} {s:Shared}
theorem Inv.new (I:Inv X pins σ H s):L2.new X.K H s.heap.objs.size:=by
 refine ⟨I.cX.fresh (Nat.le_refl _),u7 ?_⟩
 cases e:X.K.lookup s.heap.objs.size with
 | none=>rfl
 | some o=>exact absurd (Heap.lt_size (I.qG _ o e)) (Nat.lt_irrefl _)
def yQ (K:PySem.W.Frag) (t:TA):TE:=fun σ H Q=>t σ H fun xs H1=>xs.length<=sizeLine/\∀ p,L2.new K H1 p->Q (.ref p) (upd H1 p (.tup xs))
def BB (K:PySem.W.Frag) (t:TA):TE:=fun σ H Q=>t σ H fun xs H1=>xs.length<=sizeLine/\∀ p,L2.new K H1 p->Q (.ref p) (upd H1 p (.lst xs))
theorem cJ {k} (h:JA X es t):JE X (.Tuple es k pos) (yQ X.K t):=⟨by
 intro pins s σ H Q I hq
 refine wpAny_Tuple_spliced (dZ (h.h pos pins s σ H _ I hq) fun us s1 ⟨xs,H1,I1,r,z,q⟩=>⟨by rw [<- r.length];exact z,?_⟩)
 refine ⟨.ref s1.heap.objs.size,upd H1 s1.heap.objs.size (.tup xs),I1.laid (t':=s1.toks) (fun b u e=>Heap.get?_push_of_some _ e) (Nat.le_refl _) ?_,rfl,q _ I1.new⟩
 exact ⟨z,us,r,⟨_,Heap.get?_push_size _ rfl,rfl,_,rfl⟩⟩⟩
theorem cK (h:JA X es t):JE X (.List es pos) (BB X.K t):=⟨by
 intro pins s σ H Q I hq
 refine wpAny_List_spliced (dZ (h.h pos pins s σ H _ I hq) fun us s1 ⟨xs,H1,I1,r,z,q⟩=>⟨by rw [<- r.length];exact z,?_⟩)
 refine ⟨.ref s1.heap.objs.size,upd H1 s1.heap.objs.size (.lst xs),I1.laid (t':=s1.toks) (fun b u e=>Heap.get?_push_of_some _ e) (Nat.le_refl _) ?_,rfl,q _ I1.new⟩
 exact ⟨z,us,0,r,Heap.get?_push_size _ rfl⟩⟩
def BC (K:PySem.W.Frag):R2:=fun x y H Q=>∃ l b xs zs,x=.ref l/\y=.ref b/\H l=some (.lst xs)/\H b=some (.lst zs)/\xs.length + zs.length<=sizeLine/\∀ p,L2.new K H p->Q (.ref p) (upd H p (.lst (xs++zs)))
theorem jl:kU X (binaryOp .Add) (BC X.K):=by
 intro pins s σ H x y v u Q I rx ry h
 obtain ⟨l,b,xs,zs,rfl,rfl,hH,hB,hz,q⟩:=h
 cases rx
 cases ry
 obtain ⟨z,its,n,r,hl,e⟩:=I.DZ hH
 obtain ⟨z2,its2,n2,r2,N4,e2⟩:=I.DZ hB
 refine PySem.P.add_list e e2 ?_ (by rw [List.size_toArray,List.size_toArray];omega)
 have ea:its.toArray++its2.toArray=(its++its2).toArray:=by simp
 rw [ea]
 exact ⟨.ref _,_,I.LH (t':=s.toks) (r.append r2) (by rw [List.length_append];omega),rfl,q _ I.new⟩
end
structure Kp (K:PySem.W.Frag) (p:Addr) (H H':Hp):Prop where
 keep:∀ q o,H q=some o->q≠p->H' q=some o
 mod:∀ a xs,H a=none->lG K a=some xs->H' a=none
section
variable {K:PySem.W.Frag} {p a:Addr} {H H' H1 H2:Hp} {xs ys:List V} {o:HO}
theorem Kp.refl:Kp K p H H:=⟨fun _ _ h _=>h,fun _ _ h _=>h⟩
theorem Kp.trans (x:Kp K p H H1) (y:Kp K p H1 H2):Kp K p H H2:=⟨fun q o h n=>y.keep q o (x.keep q o h n) n,fun a xs h k=>y.mod a xs (x.mod a xs h k) k⟩
theorem Kp.upd (h:H p=some (.lst xs)):Kp K p H (upd H p o):=⟨fun q u e n=>by rw [aJ n];exact e,fun b ys e _=>by rw [aJ (fun z=>by rw [z,h] at e;cases e)];exact e⟩
theorem Kp.new {q:Addr} (h:L2.new K H q):Kp K p H (L2.upd H q o):=⟨fun r u e _=>by rw [aJ (aW e h.1)];exact e,fun b ys e k=>by rw [aJ (fun z=>by rw [z,h.2] at k;cases k)];exact e⟩
theorem Kp.tup (x:Kp K p H H') (hp:H p=some (.lst ys)) (h:tupQ K H a=some xs):tupQ K H' a=some xs:=by
 unfold tupQ at h ⊢
 split at h
 . next e=>rw [x.keep _ _ e (HF e hp (by intro z;cases z))];exact h
 . cases h
 . next e=>rw [x.mod a xs e h];exact h
theorem Ext.new {q:Addr} (h:L2.new K H q):Ext K H (L2.upd H q o):=⟨fun b u e=>by rw [aJ (aW e h.1)];exact e,fun b ys e k=>by rw [aJ (fun z=>by rw [z,h.2] at k;cases k)];exact e⟩
theorem Kp.ext (x:Kp K p (L2.upd H p o) H') (h:L2.new K H p):Ext K H H':=by
 refine ⟨fun b u e=>?_,fun b ys e k=>?_⟩
 . have n:b≠p:=aW e h.1
   exact x.keep b u (by rw [aJ n];exact e) n
 . exact x.mod b ys (by rw [aJ (fun z=>by rw [z,h.2] at k;cases k)];exact e) k
theorem Ext.kp (x:Ext K H H'):Kp K p H H':=⟨fun q o e _=>x.same q o e,x.mod⟩
end
end L2
namespace L2
open PySem PySem.Spec PyProof.Rows
section
variable {K:PySem.W.Frag} {p a:Addr} {H H':Hp} {xs:List V}
end
end L2
namespace L2
open PySem PySem.Spec PyProof.Rows
def BD (K:PySem.W.Frag) (H:Hp) (x:V) (t:Value):Prop:=pY K H x t∨∃ a xs,x=.ref a/\tupQ K H a=some xs/\t=.type "tuple"
theorem BD.tup {K:PySem.W.Frag} {H:Hp} {a:Addr} {xs:List V} (h:tupQ K H a=some xs):BD K H (.ref a) (.type "tuple"):=.inr ⟨a,xs,rfl,h,rfl⟩
section
variable {X:Cx}
theorem aK:gE X (.builtin "isinstance") (fun xs H Q=>∃ x n t b,xs=[x,.ty n]/\BD X.K H x t/\PySem.W.kitOne X.K t (.type n)=some b/\Q (.bl b) H):=by
 intro pins s σ H xs us Q I r h
 obtain ⟨x,n,t,b,rfl,ty,e,q⟩:=h
 obtain ⟨u,w',rfl,ru,rw'⟩:=vals2 r
 cases rw'
 rcases ty with ty | ⟨a,ys,rfl,hq,rfl⟩
 . exact Cr I ru ty e fun tk=>⟨.bl b,H,I.tok tk,rfl,q⟩
 . cases (show u=Value.ref a from ru)
   obtain ⟨its,_,⟨o,h1,h2,_⟩,_⟩:=I.tuple (fc hq)
   exact PySem.W.kia_one PySem.W.kitx_tuple I.qG ⟨o,h1,h2⟩ e (fun z=>nomatch z) fun tk=>⟨.bl b,H,I.tok tk,rfl,q⟩
end
end L2
namespace L2
open PySem PySem.Spec PyProof.Rows
section
variable {X:Cx}
def Em (K:PySem.W.Frag) (neg:Bool):R2:=fun x y H Q=>∃ p xs,y=.ref p/\oS K H p=some xs/\mH x=true/\xs.all mH=true/\Q (.bl (if neg=true then !HR x xs else HR x xs)) H
theorem Jt:kU X (compareOp .In) (Em X.K false):=by
 intro pins s σ H x y v u Q I rx ry h
 obtain ⟨p,xs,rfl,hq,fx,fs,q⟩:=h
 exact Cu pins s σ H x _ v u Q I rx ry ⟨p,xs,rfl,rP hq,fx,fs,q⟩
theorem CH:kU X (compareOp .NotIn) (Em X.K true):=by
 intro pins s σ H x y v u Q I rx ry h
 obtain ⟨p,xs,rfl,hq,fx,fs,q⟩:=h
 exact vQ pins s σ H x _ v u Q I rx ry ⟨p,xs,rfl,rP hq,fx,fs,q⟩
end
end L2
namespace L2
open PySem PySem.Spec PyProof.Rows
def lH (K:PySem.W.Frag) (H:Hp):Prop:=∀ b xs,lG K b=some xs->H b=none
theorem u9 {K:PySem.W.Frag} {a:Addr} {xs:List V} (h:lG K a=some xs):∃ o,K.lookup a=some o:=by
 cases e:K.lookup a with
 | none=>rw [u7 e] at h;cases h
 | some o=>exact ⟨o,rfl⟩
theorem bB.mod {P:Program} {w:World} {K:PySem.W.Frag} {mg:Str->Option Value} {base:Heap} {CX:uT} {k:Nat} {f:Addr} {fd:FuncData} {ps:List Str} {sp:Sp} (len:∀ vs H Q E,sp vs H Q E->vs.length=ps.length)
   (F:bB P w K mg base CX k f fd ps (fun vs H Q E=>sp vs H Q E/\lH K H)):bB P w K mg base CX k f fd ps sp:=
 ⟨len,fun A outer s H args us vs Q E hr e0 hb r h=>F.run A outer s H args us vs Q E hr e0 hb r ⟨h,fun b xs hk=>by
   obtain ⟨o,e⟩:=u9 hk
   exact (e0.bs b o (e0.mod.HG b o e)).2⟩⟩
section
variable {P:Program} {w:World} {K:PySem.W.Frag} {mg:Str->Option Value} {base:Heap}
theorem fM.okM {x qual:Str} {st:Stmt} {f:Addr} {fd:FuncData} {N ps:List Str} {k:Nat} {sp:Sp} (F:fM K x qual st f fd) (S:aE N ps (af st)) (len:∀ vs H Q E,sp vs H Q E->vs.length=ps.length)
   (oB:∀ (dg:Value) (A:Around) (outer:List Env) (s:Shared) (H:Hp) (vs:List V) (Q:VK) (E:XK),jx k (A.deeper (envOfC qual (af st) s.heap.objs.size f dg))->lH K H->sp vs H Q E->
     ∃ t,JB (mF fC P w K mg base N qual (af st) f dg A outer s H E).KY (ak st) t/\t { nx:=fun _ H'=>Q .cY H',rt:=Q } (start N vs) H):bB P w K mg base fC (k + 1) f fd ps sp:=
 bB.mod len (F.iM S (fun vs H Q E h=>len vs H Q E h.1) fun dg A outer s H vs Q E hr h=>oB dg A outer s H vs Q E hr h.2 h.1)
end
theorem lH.tup {K:PySem.W.Frag} {H:Hp} {a:Addr} {xs:List V} (m:lH K H) (h:lG K a=some xs):tupQ K H a=some xs:=by
 unfold tupQ
 rw [m a xs h]
 exact h
theorem lH.ext {K:PySem.W.Frag} {H H':Hp} (m:lH K H) (x:Ext K H H'):lH K H':=fun b xs h=>x.mod b xs (m b xs h) h
end L2
namespace L2
open PySem PySem.Spec PyProof.Rows
def LP (lo st:Int) (n:Nat):It:=⟨fun i _=>i < n,fun i H x H'=>H'=H/\x=.int (lo + i * st),fun i _=>n<=i⟩
section
variable {X:Cx} {tg:Expr}
def LQ (ta:TA):TI:=fun σ H R=>ta σ H fun vs H1=>∃ (i j c:Int) (n:Nat),vs=[.int i,.int j,.int c]/\c≠0/\c.natAbs < 1073741824/\Builtin.Range.small i j c=true/\Builtin.Range.rangeSize i j c=(n:Int)/\R (LP i c n) H1
end
section
variable {K:PySem.W.Frag} {ta:TA} {g:TG} {tb:TS} {D:Ends} {σ:St} {H:Hp} {lo stp:Int} {n:Nat}
theorem qi:uo (LQ ta) g tb D σ H=ta σ H (fun vs H1=>∃ (i j c:Int) (n:Nat),vs=[.int i,.int j,.int c]/\c≠0/\c.natAbs < 1073741824/\Builtin.Range.small i j c=true/\Builtin.Range.rangeSize i j c=(n:Int)/\Loop (LP i c n) g tb D σ H1):=rfl
end
end L2
namespace L2
open PySem PySem.Spec PyProof.Rows
section
variable {X:Cx}
def GQ (K:PySem.W.Frag):V->Option Int->Option Int->Hp->VK->Prop:=fun x lo hi H Q=>∃ a xs,x=.ref a/\bC K H a xs/\∀ p,L2.new K H p->Q (.ref p) (upd H p (.lst (iK xs lo hi)))
theorem dI:N3 X (GQ X.K):=by
 intro pins s σ H x v vl vu lo hi sl Q I rx hs pl pu h
 obtain ⟨a,xs,rfl,hx,q⟩:=h
 cases rx
 obtain ⟨its,r,ht,hz⟩:=I.list hx
 have hlen:=r.length
 refine ⟨"list",_,slot_list_getitem.lookup,ht.isList.typeIs,?_⟩
 refine wpAny_getItem_list_slice ht.isList hs pl pu .none (by simp) ?_ (by rw [List.size_toArray] <;> omega)
 rw [uq,<- hlen]
 refine ⟨.ref s.heap.objs.size,_,I.laid (t':=s.toks) (o:=.lst (iK xs lo hi)) (fun b ob q=>Heap.get?_push_of_some _ q) (Nat.le_refl _) ?_,rfl,q _ I.new⟩
 exact ⟨Nat.le_trans (j3 xs lo hi) hz,_,0,(r.drop (HT.yF xs.length 0 lo)).take (HT.yF xs.length xs.length hi - HT.yF xs.length 0 lo),Heap.get?_push_size _ rfl⟩
end
end L2
set_option Elab.async false
set_option linter.all false
set_option maxRecDepth 100000
namespace L2
open PySem PySem.Spec PyProof.Rows
section
variable {X:Cx} {es:List Expr} {pos:Pos}
def oU (K:PySem.W.Frag) (n:Nat) (t:zV):TG:=fun v σ H Q=>∃ a xs,v=.ref a/\tupQ K H a=some xs/\xs.length=n/\t xs σ H Q
theorem jQ {k:Nat} {t:zV} {n:Nat} (hc:X.calm=true) (h:K2 X es t) (hn:(assignEach es X.env).length=n:=by rfl) (um:(assignEach es X.env).findIdx? (·.1)=none:=by rfl):JG X (.Tuple es k pos) (oU X.K n t):=
 ⟨fun pins s σ H v u Q I r ⟨a,xs,e,h1,h2,h3⟩=>IG hc h.h hn um pins s σ H v u Q I r ⟨a,xs,e,fc h1,h2,h3⟩⟩
end
theorem aO {c:Prop} [Decidable c] {a b:Prop} (h:c) (x:a):if c then a else b:=by rw [if_pos h];exact x
theorem aF {c:Prop} [Decidable c] {a b:Prop} (h:¬ c) (x:b):if c then a else b:=by rw [if_neg h];exact x
theorem GR {K:PySem.W.Frag} {a:Addr} {d:Option Addr} {its:Array Value} {k:Nat} {sl:Array (Option Value)} {xs:List V} (h:K.lookup a=some ⟨.type "tuple",d,.seq its k,sl⟩) (hz:its.size<=1000) (e:its.toList.mapM yr=some xs):lG K a=some xs:=by
 unfold lG
 rw [h]
 simp only [if_true]
 rw [if_pos (Eg hz)]
 exact e
end L2
namespace L2
open PySem PySem.Spec PyProof.Rows
theorem vX (xs:List V) (k:Nat):iK xs none (some (k:Int))=xs.take k:=by
 unfold iK
 rw [HT.yG,HT.Bo,List.drop_zero,Nat.sub_zero]
 by_cases h:k<=xs.length
 . rw [Nat.min_eq_left h]
 . rw [Nat.min_eq_right (by omega),List.take_of_length_le (Nat.le_refl _),List.take_of_length_le (by omega)]
theorem qj (xs:List V) (k:Nat):iK xs (some (k:Int)) none=xs.drop k:=by
 unfold iK
 rw [HT.yG,HT.Bo]
 by_cases h:k<=xs.length
 . rw [Nat.min_eq_left h,List.take_of_length_le (by rw [List.length_drop];exact Nat.le_refl _)]
 . rw [Nat.min_eq_right (by omega),List.drop_of_length_le (Nat.le_refl _),List.drop_of_length_le (by omega)];simp
end L2
namespace L2
open PySem PySem.Spec PyProof.Rows
theorem Ext.at {K:PySem.W.Frag} {H H':Hp} {a:Addr} {o:HO} (x:Ext K H H') (h:H a=some o):H' a=some o:=x.same _ _ h
end L2
namespace L2
open PySem PySem.Spec PyProof.Rows
structure j4 (K:PySem.W.Frag) (p q:Addr) (H H':Hp):Prop where
 keep:∀ r o,H r=some o->r≠p->r≠q->H' r=some o
 mod:∀ a xs,H a=none->lG K a=some xs->H' a=none
section
variable {K:PySem.W.Frag} {p q:Addr} {H H' H1 H2:Hp} {o o':HO}
theorem Kp.l (x:Kp K p H H'):j4 K p q H H':=⟨fun r o h n _=>x.keep r o h n,x.mod⟩
theorem Kp.r (x:Kp K q H H'):j4 K p q H H':=⟨fun r o h _ n=>x.keep r o h n,x.mod⟩
theorem Ext.kp2 (x:Ext K H H'):j4 K p q H H':=⟨fun r o h _ _=>x.same r o h,x.mod⟩
theorem j4.trans (x:j4 K p q H H1) (y:j4 K p q H1 H2):j4 K p q H H2:=⟨fun r o h n m=>y.keep r o (x.keep r o h n m) n m,fun a xs h k=>y.mod a xs (x.mod a xs h k) k⟩
theorem j4.ext (x:j4 K p q (L2.upd (L2.upd H p o) q o') H') (hp:L2.new K H p) (hq:L2.new K (L2.upd H p o) q):Ext K H H':=by
 have y:Ext K H (L2.upd (L2.upd H p o) q o'):=(Ext.new hp).trans (Ext.new hq)
 refine ⟨fun b u e=>?_,fun b ys e k=>x.mod b ys (y.mod b ys e k) k⟩
 have n:b≠p:=aW e hp.1
 have m:b≠q:=aW ((Ext.new hp).at e) hq.1
 exact x.keep b u (y.at e) n m
end
end L2
set_option Elab.async false
set_option linter.all false
set_option maxRecDepth 100000
namespace L2
open PySem PySem.Spec PyProof.Rows
def jR (env:Env):List (Str×NameKind)->List (Str×Addr)->List (Str×Addr)
 | [],cs=>cs
 | (n,k)::r,cs=>jR env r (if (k==NameKind.free)=true then (match env.cells.lookup n with | some a=>(n,a)::cs | none=>cs) else cs)
theorem kJ {scope:Scope} {env:Env} (h:∀ x∈scope.names,x.2=.free->∃ c,env.cells.lookup x.1=some c):closureFor scope env=pure (jR env scope.names []):=by
 unfold closureFor
 generalize scope.names=names at h ⊢
 generalize ([]:List (Str×Addr))=cs
 induction names generalizing cs with
 | nil=>rfl
 | cons x r ih=>
   obtain ⟨n,k⟩:=x
   have ih':=fun cs=>ih (cs:=cs) fun x hx=>h x (List.mem_cons_of_mem _ hx)
   simp only [List.forIn_cons]
   cases hk:(k==NameKind.free) with
   | false=>
     simp only [jR,hk]
     exact ih' cs
   | true=>
     obtain ⟨c,hc⟩:=h (n,k) (List.mem_cons_self) (by simpa using hk)
     simp only [jR,hk,hc,cellOf]
     exact ih' _
theorem vc {env:Env}:∀ {names:List (Str×NameKind)} {cs:List (Str×Addr)} {n:Str} {c:Addr},(n,c)∈jR env names cs->(n,c)∈cs∨env.cells.lookup n=some c
 | [],cs,n,c,h=>.inl h
 | (m,k)::r,cs,n,c,h=>by
   rw [jR] at h
   rcases vc h with h | h
   . split at h
     . split at h
       . next a e=>
         rcases List.mem_cons.mp h with z | z
         . cases z;exact .inr e
         . exact .inl z
       . exact .inl h
     . exact .inl h
   . exact .inr h
theorem ve {env:Env}:∀ {names:List (Str×NameKind)} {cs:List (Str×Addr)} {p:Str×Addr},p∈cs->p∈jR env names cs
 | [],cs,p,h=>h
 | (m,k)::r,cs,p,h=>by
   rw [jR]
   refine ve ?_
   split
   . split
     . exact List.mem_cons_of_mem _ h
     . exact h
   . exact h
theorem vf {env:Env}:∀ {names:List (Str×NameKind)} {cs:List (Str×Addr)} {n:Str} {c:Addr},(n,NameKind.free)∈names->env.cells.lookup n=some c->(n,c)∈jR env names cs
 | (m,k)::r,cs,n,c,h,e=>by
   rw [jR]
   rcases List.mem_cons.mp h with z | z
   . cases z
     rw [if_pos (by decide),e]
     exact ve List.mem_cons_self
   . exact vf z e
theorem lookup_mem {α:Type}:∀ {l:List (Str×α)} {n:Str} {c:α},l.lookup n=some c->(n,c)∈l
 | (m,d)::r,n,c,h=>by
   rw [List.lookup_cons] at h
   cases e:n==m with
   | true=>
     rw [e] at h
     cases h
     rw [eq_of_beq e]
     exact List.mem_cons_self
   | false=>
     rw [e] at h
     exact List.mem_cons_of_mem _ (lookup_mem h)
theorem mem_lookup {α:Type}:∀ {l:List (Str×α)} {n:Str} {c:α},(n,c)∈l->∃ d,l.lookup n=some d
 | (m,d)::r,n,c,h=>by
   rw [List.lookup_cons]
   cases e:n==m with
   | true=>exact ⟨d,rfl⟩
   | false=>
     rcases List.mem_cons.mp h with z | z
     . cases z
       rw [beq_self_eq_true] at e;cases e
     . exact mem_lookup z
theorem gX {env:Env} {names:List (Str×NameKind)} {n:Str} {c:Addr} (h:(jR env names []).lookup n=some c):env.cells.lookup n=some c:=by
 rcases vc (lookup_mem h) with z | z
 . cases z
 . exact z
theorem yR {env:Env} {names:List (Str×NameKind)} {n:Str} {c:Addr} (h:(n,NameKind.free)∈names) (e:env.cells.lookup n=some c):(jR env names []).lookup n=some c:=by
 obtain ⟨d,hd⟩:=mem_lookup (vf (cs:=[]) h e)
 rw [hd]
 exact (gX hd).symm.trans e ▸ rfl
theorem oW {env:Env}:∀ {names:List (Str×NameKind)} {x:Str},names.lookup x=some .free->
   (names.map fun (n,k)=>if (k==NameKind.free&&env.scope.kind==.function&&env.kindOf n==some .cell) then (n,NameKind.cell) else (n,k)).lookup x=some .cell∨
   (names.map fun (n,k)=>if (k==NameKind.free&&env.scope.kind==.function&&env.kindOf n==some .cell) then (n,NameKind.cell) else (n,k)).lookup x=some .free
 | [],_,h=>by simp at h
 | (n,k)::r,x,h=>by
   have ih:=@oW env r x
   show List.lookup x ((if (k==NameKind.free&&env.scope.kind==.function&&env.kindOf n==some .cell)=true then (n,NameKind.cell) else (n,k))::_)=_∨List.lookup x ((if (k==NameKind.free&&env.scope.kind==.function&&env.kindOf n==some .cell)=true then (n,NameKind.cell) else (n,k))::_)=_
   cases hx:x==n with
   | true=>
     simp only [List.lookup_cons,hx] at h
     cases h
     split
     . simp [List.lookup_cons,hx]
     . simp [List.lookup_cons,hx]
   | false=>
     simp only [List.lookup_cons,hx] at h
     split
     . simp only [List.lookup_cons,hx];exact ih h
     . simp only [List.lookup_cons,hx];exact ih h
theorem mR {env:Env}:∀ {names:List (Str×NameKind)} {x:Str} {kk:NameKind},(∀ y∈names,y.2≠.cell)->
   (names.map fun (n,k)=>if (k==NameKind.free&&env.scope.kind==.function&&env.kindOf n==some .cell) then (n,NameKind.cell) else (n,k)).lookup x=some kk->kk=.cell∨kk=.free->(x,NameKind.free)∈names
 | [],_,_,_,h,_=>by simp at h
 | (n,k)::r,x,kk,hc,h,hk=>by
   have ih:=@mR env r x kk fun y hy=>hc y (List.mem_cons_of_mem _ hy)
   change List.lookup x ((if (k==NameKind.free&&env.scope.kind==.function&&env.kindOf n==some .cell)=true then (n,NameKind.cell) else (n,k))::_)=_ at h
   cases hx:x==n with
   | true=>
     have e:=eq_of_beq hx
     subst e
     split at h
     . next q=>
       simp only [Bool.and_eq_true,beq_iff_eq] at q
       rw [q.1.1]
       exact List.mem_cons_self
     . simp only [List.lookup_cons,hx] at h
       cases h
       rcases hk with z | z
       . exact absurd z (hc _ List.mem_cons_self)
       . rw [z];exact List.mem_cons_self
   | false=>
     refine List.mem_cons_of_mem _ (ih ?_ hk)
     split at h
     . simp only [List.lookup_cons,hx] at h;exact h
     . simp only [List.lookup_cons,hx] at h;exact h
def Cx.comp (X:Cx) (N:List Str) (scope:Scope) (C:Addr) (s:Shared) (H:Hp) (fp:List Addr):Cx:=
 { X with N:=N,s₀:=s,H₀:=H,env:=compEnvC scope (jR X.env scope.names []) C X.env,outer:=X.stack,ex:=fp,fn:=fun _=>false,pn:=[],xe:=fun _ _=>False }
def pick (σ:St) (src:List (Option Nat)):St:=src.map fun o=>match o with | none=>none | some j=>(σ[j]?).join
def vg (NX:List Str) (N8 sc:Scope) (N:List Str) (src:List (Option Nat)):Bool:=
 sc.names.all (fun x=>x.2 !=.cell)&&sc.names.all (fun x=>x.2 !=.local||sc.names.lookup x.1==some .local)&&
 sc.names.all (fun x=>x.2 !=.free||(N8.names.lookup x.1==some .cell||N8.names.lookup x.1==some .free))&&N.length==src.length&&
 (N.zip src).all (fun p=>match p.2 with | none=>true | some j=>NX[j]?==some p.1&&(N8.names.lookup p.1==some .cell||N8.names.lookup p.1==some .free)&&sc.names.lookup p.1==some .free)
structure j5 (X:Cx) (sc:Scope) (N:List Str) (src:List (Option Nat)):Prop where
 kind:sc.kind=.function
 ok:vg X.N X.env.scope sc N src=true
section
variable {X:Cx} {sc:Scope} {N:List Str} {src:List (Option Nat)}
theorem j5.cell (c:j5 X sc N src):∀ y∈sc.names,y.2≠.cell:=fun y hy=>by
 have h:=c.ok
 simp only [vg,Bool.and_eq_true,List.all_eq_true] at h
 simpa using h.1.1.1.1 y hy
theorem j5.names (c:j5 X sc N src):∀ y∈sc.names,y.2=.local->sc.names.lookup y.1=some .local:=fun y hy e=>by
 have h:=c.ok
 simp only [vg,Bool.and_eq_true,List.all_eq_true] at h
 have q:=h.1.1.1.2 y hy
 rw [e] at q
 simpa using q
theorem j5.free (c:j5 X sc N src) {x:Str} (hx:(x,NameKind.free)∈sc.names):X.env.kindOf x=some .cell∨X.env.kindOf x=some .free:=by
 have h:=c.ok
 simp only [vg,Bool.and_eq_true,List.all_eq_true] at h
 have q:=h.1.1.2 _ hx
 simpa [Env.kindOf] using q
theorem j5.len (c:j5 X sc N src):N.length=src.length:=by
 have h:=c.ok
 simp only [vg,Bool.and_eq_true,List.all_eq_true] at h
 simpa using h.1.2
theorem j5.at_ (c:j5 X sc N src) {i j:Nat} {x:Str} (h1:N[i]?=some x) (h2:src[i]?=some (some j)):X.N[j]?=some x/\(X.env.kindOf x=some .cell∨X.env.kindOf x=some .free)/\sc.names.lookup x=some .free:=by
 have h:=c.ok
 simp only [vg,Bool.and_eq_true,List.all_eq_true] at h
 have m:(x,some j)∈N.zip src:=by
   refine List.mem_of_getElem? (i:=i) ?_
   rw [List.getElem?_zip_eq_some]
   exact ⟨h1,h2⟩
 have q:=h.2 _ m
 simp only [Bool.and_eq_true,Bool.or_eq_true,beq_iff_eq] at q
 exact ⟨q.1.1,q.1.2,q.2⟩
theorem CI {σ:St} {i:Nat} {v:V} (h:(pick σ src)[i]?=some (some v)):∃ j,src[i]?=some (some j)/\σ[j]?=some (some v):=by
 unfold pick at h
 rw [List.getElem?_map] at h
 cases e:src[i]? with
 | none=>rw [e] at h;cases h
 | some o=>
   rw [e] at h
   cases o with
   | none=>simp at h
   | some j=>
     refine ⟨j,rfl,?_⟩
     simp only [Option.map_some,Option.some.injEq] at h
     cases e2:σ[j]? with
     | none=>rw [e2] at h;cases h
     | some w=>
       rw [e2] at h
       simp only [Option.join] at h
       exact congrArg some h
theorem Cx.Ok.comp {pins:List (Addr×Obj)} {σ:St} {H:Hp} {s:Shared} {fp:List Addr} {C:Addr} (I:Inv X pins σ H s) (c:j5 X sc N src) (hf:∀ b∈fp,oA X pins H b) (ho:∀ b∈fp,∃ o,s.heap.get? b=some o) (hC:s.heap.objs.size<=C):(X.comp N sc C s H fp).Ok where
 mod:=I.ok.mod
 kind:=c.kind
 glob:=I.ok.glob
 blt:=I.ok.blt
 above:=hC
 inj:=fun x y a h h'=>I.ok.inj x y a (gX h) (gX h')
 has:=fun x h=>by
   have m:(x,NameKind.free)∈sc.names:=by
     rcases h with h | h
     . exact mR c.cell h (.inl rfl)
     . exact mR c.cell h (.inr rfl)
   obtain ⟨a,ha⟩:=I.ok.has x (c.free m)
   exact ⟨a,yR m ha⟩
 Gb:=fun _ _ h=>nomatch h
 hd:=I.ok.hd
 frames:=I.ok.frames
 HH:=.inl rfl
 KU:=fun b hb=>by
   obtain ⟨o,e⟩:=ho b hb
   exact ⟨Nat.ne_of_lt (Nat.lt_of_lt_of_le (Heap.lt_size e) hC),fun x a h=>(hf b hb).2.2.2.2.1 x a (gX h)⟩
 bs:=I.bs
 Dm:=Nat.le_trans I.ok.Dm I.sz
 vL:=fun b o e hb=>by
   rcases (hf b hb).2.2.2.1 with z | z
   . exact I.ok.vL b o e z
   . exact absurd (Nat.lt_of_lt_of_le (Heap.lt_size e) (Nat.le_trans I.ok.Dm z)) (Nat.lt_irrefl _)
 ym:=fun b hb z=>by
   rcases List.mem_cons.mp (I.sq b z) with q | q
   . exact (hf b hb).2.1 q
   . exact (hf b hb).2.2.1 q
 mj:=I.stack
 Dr:=I.rK
theorem Inv.block {pins:List (Addr×Obj)} {σ:St} {H:Hp} {s:Shared} {fp:List Addr} {C D:Addr} {h1:Heap} {t':Nat} (I:Inv X pins σ H s) (c:j5 X sc N src) (hf:∀ b∈fp,oA X pins H b) (ho:∀ b∈fp,∃ o,s.heap.get? b=some o)
   (hD:s.heap.objs.size<=D) (hC:s.heap.objs.size<=C) (N9:D≠C) (k:∀ b u,s.heap.get? b=some u->h1.get? b=some u) (hn:h1.Ns C fun _=>none) (new:dH X.prog X.w (upd H D (.lst [])) h1 D (.lst [])):
   Inv (X.comp N sc C s H fp) [] (pick σ src) (upd H D (.lst [])) { s with heap:=h1,toks:=t' } where
 ok:=Cx.Ok.comp I c hf ho hC
 os:=rfl
 bare:=I.bare
 base:=Un.laid k hD (I.cX.fresh hD)
 loc:=by
   refine ⟨_,hn,fun i x v e1 e2 e3=>?_⟩
   obtain ⟨j,ej,es⟩:=CI e2
   obtain ⟨n1,n2,n3⟩:=c.at_ e1 ej
   obtain ⟨m,_,hl⟩:=I.loc
   have vis:NV X.env.scope x:=n2.elim (fun z=>.inr (.inl z)) fun z=>.inr (.inr z)
   obtain ⟨u,r,q⟩:=hl j x v n1 es vis
   refine ⟨u,r,.inr ⟨oW n3,?_⟩⟩
   rcases q with ⟨z,_⟩ | ⟨_,a,ha,z⟩
   . rcases n2 with n2 | n2 <;> rw [n2] at z <;> cases z
   . obtain ⟨o,e,d⟩:=z
     exact ⟨a,yR (lookup_mem n3) ha,o,k _ _ e,d⟩
 cell:=fun x a e=>by
   obtain ⟨v,o,e,d⟩:=I.cell x a (gX e)
   exact ⟨v,o,k _ _ e,d⟩
 free:=by
   show upd H D (.lst []) C=none
   rw [aJ N9.symm]
   exact I.cX.fresh hC
 iN:=fun x a e=>by
   obtain ⟨v,o,e',d⟩:=I.cell x a (gX e)
   rw [aJ (Nat.ne_of_lt (Nat.lt_of_lt_of_le (Heap.lt_size e') hD))]
   exact I.iN x a (gX e)
 pin:=fun p hp=>nomatch hp
 cX:=I.cX.laid k hD new
 len:=by
   show (pick σ src).length=N.length
   rw [c.len,pick,List.length_map]
theorem Inv.vY {pins:List (Addr×Obj)} {σ σ':St} {H H':Hp} {s s':Shared} {fp:List Addr} {C:Addr} {h':Heap} (I:Inv X pins σ H s) (hf:∀ b∈fp,oA X pins H b) (hC:s.heap.objs.size<=C)
   (J:Inv (X.comp N sc C s H fp) [] σ' H' s') (hs:∀ b,b≠C->h'.get? b=s'.heap.get? b):Inv X pins σ H' { s' with heap:=h' }:=by
 have ne:∀ b o,s.heap.get? b=some o->b≠C:=fun b o e=>Nat.ne_of_lt (Nat.lt_of_lt_of_le (Heap.lt_size e) hC)
 have u:Un (nh X.stack) fp H H' s.heap s'.heap:=J.base
 have u':Un (nh X.stack) fp H H' s.heap h':=⟨fun b o e n a x=>(hs b (ne b o e)).trans (u.keep b o e n a x),fun b o e n a x=>by
     obtain ⟨sl,q⟩:=u.slot b o e n a x
     exact ⟨sl,(hs b (ne b o e)).trans q⟩,u.free,fun b o e x=>by
     obtain ⟨o',q⟩:=u.there b o e x
     exact ⟨o',(hs b (ne b o e)).trans q⟩,u.lW,u.kO,u.lX⟩
 refine I.HK (s':={ s' with heap:=h' }) J.os u' (fun b ob e=>?_) J.bare fun b hb=>⟨(hf b hb).2.2.2.1,(hf b hb).2.1,(hf b hb).2.2.2.2.1,(hf b hb).2.2.2.2.2⟩
 have fr:H' C=none:=J.free
 refine (J.cX b ob e).nQ (fun a w' ha q=>(hs a ?_).trans q) (fun _ q=>q) fun _ _ q=>q
 rintro rfl
 rcases ha with rfl | ha
 . rw [fr] at e;cases e
 . rw [fr] at ha;cases ha
end
abbrev F0:Value->Shared->Prop:=fun _ _=>False
section
variable {prog:Program} {w:World} {A:Around} {R:Result->Shared->Prop} {s:Shared}
theorem vZ {elt target iter:Expr} {ifs:List Expr} {scope:Scope} {pos:Pos} {it acc:Value} {env:Env} (I:Nat->Shared->Prop)
   (turn:∀ n s,I n s->wpAny (model prog w) A (pyNext it) (fun r s₁=>match r with
     | none=>R (.ok .next) s₁
     | some v=>wpAny (model prog w) A (letOwnedTupleGo target it v) (fun _ s₁'=>wpAny (model prog w) A (assign target env v) (fun _ s₂=>
         wpAny (model prog w) A (forIn ifs true fun c r=>if r=true then do let ok <- isTrue c env (eval c env);pure (ForInStep.yield ok) else pure (ForInStep.yield r)) (fun ok s₃=>
           if ok=true then wpAny (model prog w) A (eval elt env) (fun x s₄=>
             wpAny (model prog w) A (call (.builtin "list.append") [acc,x]) (fun _ s₅=>∃ m,m < n/\I m s₅) F0 s₄) F0 s₃
           else ∃ m,m < n/\I m s₃) F0 s₂) F0 s₁') F0 s₁) F0 s)
   (n:Nat) (h:I n s):
   codeAny (model prog w) A (.compLoop (.ListComp elt [⟨target,iter,ifs,0⟩] scope pos) 0 it acc env) R s:=by
 refine codeAny_loop rfl I (fun n s hI=>?_) n h
 show wpAny _ A ((compTurn (.ListComp elt [⟨target,iter,ifs,0⟩] scope pos) 0 it acc env).onRaise (fun x=>do noteFrame x env;theTreesLotGoes x)) _ _ s
 refine wpAny_noted ?_
 rw [compTurn_list]
 refine wpAny_bind (wpAny_standAt (wpAny_bind (wpAny_mono (turn n s hI) (fun r s₁ h₁=>?_) fun _ _ h'=>h'.elim)))
 cases r with
 | none=>exact wpAny_pure h₁
 | some v=>
   refine wpAny_bind (wpAny_mono h₁ (fun _ s₁' h₁'=>?_) fun _ _ h'=>h'.elim)
   refine wpAny_bind (wpAny_mono h₁' (fun _ s₂ h₂=>wpAny_bind (wpAny_mono h₂ (fun ok s₃ h₃=>?_) fun _ _ h'=>h'.elim)) fun _ _ h'=>h'.elim)
   cases ok with
   | false=>exact wpAny_pure ⟨rfl,h₃⟩
   | true=>
     exact wpAny_bind (wpAny_bind (wpAny_mono h₃ (fun x s₄ h₄=>wpAny_bind (wpAny_mono h₄ (fun _ s₅ h₅=>wpAny_pure (wpAny_pure ⟨rfl,h₅⟩)) fun _ _ h'=>h'.elim)) fun _ _ h'=>h'.elim))
end
def PF (X:Cx) (ifs:List Expr) (t:TT):Prop:=
 ∀ (pins:List (Addr×Obj)) (s:Shared) (σ:St) (H:Hp) (Q:Bool->Hp->Prop),Inv X pins σ H s->t σ H Q->
   wpAny (model X.prog X.w) X.A (forIn ifs true fun c r=>if r=true then do let ok <- isTrue c X.env (eval c X.env);pure (ForInStep.yield ok) else pure (ForInStep.yield r)) (TP X pins σ Q) X.xe s
structure JF (X:Cx) (ifs:List Expr) (t:TT):Prop where h:PF X ifs t
def jB:TT:=fun _ H Q=>Q true H
theorem eB {X:Cx}:JF X [] jB:=⟨fun _ _ _ H _ I h=>wpAny_tests_nil ⟨H,I,h⟩⟩
theorem QM {X:Cx} {c:Expr} {t:TT} (h:JT X c t):JF X [c] t:=⟨fun pins s σ H Q I q=>wpAny_tests_one (h.h pins s σ H Q I q)⟩
def cA (J:It) (g:TG) (tt:TT) (te:TE) (D:Addr) (Q:Hp->Prop) (σ:St) (H:Hp):Prop:=∃ W:Nat->Nat->List V->St->Hp->Prop,(∃ m,W 0 m [] σ H)/\∀ i m acc σ H,W i m acc σ H->
 (J.stop i H/\Q H)∨(J.go i H/\∃ N:List V->St->Hp->Prop,(∀ acc' σ' H',N acc' σ' H'->∃ m',m' < m/\W (i + 1) m' acc' σ' H')/\∀ x H',J.HL i H x H'->g x σ H' fun σ2 H2=>tt σ2 H2 fun b H3=>
   if b=true then te σ2 H3 fun v H4=>H4 D=some (.lst acc)/\acc.length < sizeLine/\N (acc++[v]) σ2 (upd H4 D (.lst (acc++[v])))
   else N acc σ2 H3)
def HZ (K:PySem.W.Frag) (wi:TI) (src:List (Option Nat)) (g:TG) (tt:TT) (te:TE):TE:=fun σ H Q=>wi σ H fun J H1=>∀ D,L2.new K H1 D->cA J g tt te D (fun H'=>Q (.ref D) H') (pick σ src) (upd H1 D (.lst []))
section
variable {X:Cx} {sc:Scope} {N:List Str} {src:List (Option Nat)} {tg iter elt:Expr} {ifs:List Expr} {wi:TI} {g:TG} {tt:TT} {te:TE} {pos:Pos}
theorem sM {R:Value->Addr->Result->Shared->Prop} {E:Value->Shared->Prop} (c:j5 X sc N src) (hc:X.calm=true)
   (hg:∀ C s H fp,JG (X.comp N sc C s H fp) tg g) (ht:∀ C s H fp,JF (X.comp N sc C s H fp) ifs tt) (he:∀ C s H fp,JE (X.comp N sc C s H fp) elt te)
   {pins:List (Addr×Obj)} {σ:St} {H:Hp} {s:Shared} {it:Addr} {fp:List Addr} {tn:Nat->Heap->Prop} {J:It} {Q:V->Hp->Prop} (I:Inv X pins σ H s) (T:Turn X.prog X.w X.K tg J fp it tn) (st:tn 0 s.heap) (hf:∀ b∈fp,oA X pins H b)
   (h:∀ D,L2.new X.K H D->cA J g tt te D (fun H'=>Q (.ref D) H') (pick σ src) (upd H D (.lst [])))
   (hR:∀ D C s' σ' H',s.heap.objs.size<=C->Inv (X.comp N sc C s H fp) [] σ' H' s'->Q (.ref D) H'->R (.ref D) C (.ok .next) s'):
   wpAny (model X.prog X.w) X.A (newList []) (fun acc s₃=>wpAny (model X.prog X.w) X.A (newFunctionEnv sc X.env.globals (jR X.env sc.names []) [] X.env.qual none .none (some X.env)) (fun cenv s₄=>
     codeAny (model X.prog X.w) X.A (.compStart (.ListComp elt [⟨tg,iter,ifs,0⟩] sc pos) 0 (.ref it) acc { cenv with scope:=relabel sc X.env }) (R acc cenv.locals) s₄) E s₃) E s:=by
 refine wpAny_newObj_type (wpAny_newFunctionEnv c.cell (by intro y hy;simp at hy) (fun h₁ hns₁ hsb₁=>?_) c.kind)
 dsimp only at hns₁ hsb₁ ⊢
 generalize hH2:s.heap.push { cls:=.type "list",dict:=none,data:=.seq ([]:List Value).toArray }=H2 at hns₁ hsb₁ ⊢
 have hC:H2.objs.size=s.heap.objs.size + 1:=by rw [<- hH2,Heap.size_push]
 have N9:s.heap.objs.size≠H2.objs.size:=by rw [hC];exact Nat.ne_of_lt (Nat.lt_succ_self _)
 have LR:s.heap.objs.size<=H2.objs.size:=by rw [hC];exact Nat.le_succ _
 have below:∀ b,b < s.heap.objs.size->b≠H2.objs.size:=fun b hb=>by rw [hC];exact Nat.ne_of_lt (Nat.lt_succ_of_lt hb)
 have old:∀ b o,s.heap.get? b=some o->h₁.get? b=some o:=fun b o e=>hsb₁.extBut b o (below b (Heap.lt_size e)) (Heap.get?_push_of_some _ (hH2 ▸ Heap.get?_push_of_some _ e))
 have QN:h₁.get? s.heap.objs.size=some { cls:=.type "list",dict:=none,data:=.seq ([]:List Value).toArray }:=hsb₁.extBut _ _ N9 (Heap.get?_push_of_some _ (hH2 ▸ Heap.get?_push_size _ rfl))
 have ho:∀ b∈fp,∃ o,s.heap.get? b=some o:=fun b hb=>let ⟨o,e,_⟩:=T.obj _ _ st b hb;⟨o,e⟩
 have I0:=I.block (t':=s.toks + ([]:List (Str×Value)).length) c hf ho (Nat.le_refl _) LR N9 old hns₁ ⟨Nat.zero_le _,[],0,.nil,QN⟩
 have st0:tn 0 h₁:=T.keep _ _ _ st fun b hb o e=>old b o e
 obtain ⟨W,⟨m0,w0⟩,turn⟩:=h _ I.new
 have zZ:∀ {H':Hp},(∀ b∈fp,H' b=none)->∀ b∈fp,oA (X.comp N sc H2.objs.size s H fp) [] H' b:=fun hn b hb=>by
   obtain ⟨f0,f1,f2,f3,f4,f5⟩:=hf b hb
   obtain ⟨o,e⟩:=ho b hb
   refine ⟨hn b hb,below b (Heap.lt_size e),fun z=>?_,.inl hb,fun x a q=>f4 x a (gX q),fun p hp=>nomatch hp⟩
   rcases List.mem_cons.mp (I.sq b z) with q | q
   . exact f1 q
   . exact f2 q
 have fr0:∀ b∈fp,(upd H s.heap.objs.size (.lst [])) b=none:=fun b hb=>by
   obtain ⟨o,e⟩:=ho b hb
   rw [aJ (Nat.ne_of_lt (Heap.lt_size e))]
   exact (hf b hb).1
 have loop:∀ s₃:Shared,s₃={ s with heap:=h₁,toks:=s.toks + ([]:List (Str×Value)).length }->
     codeAny (model X.prog X.w) X.A (.compLoop (.ListComp elt [⟨tg,iter,ifs,0⟩] sc pos) 0 (.ref it) (.ref s.heap.objs.size) (compEnvC sc (jR X.env sc.names []) H2.objs.size X.env)) (R (.ref s.heap.objs.size) H2.objs.size) s₃:=by
   rintro s₃ rfl
   refine vZ (fun n s'=>∃ i acc σ' H',Inv (X.comp N sc H2.objs.size s H fp) [] σ' H' s'/\tn i s'.heap/\(∀ b∈fp,H' b=none)/\W i n acc σ' H') ?_ m0 ⟨0,_,_,_,I0,st0,fr0,w0⟩
   rintro n s3 ⟨i,acc,σ3,H3,I3,st3,fr3,w3⟩
   rcases turn i n acc σ3 H3 w3 with ⟨stop,qn⟩ | ⟨go,NN,hNN,step⟩
   . refine dZ (T.done (X.comp N sc H2.objs.size s H fp) rfl rfl rfl hc i [] s3 σ3 H3 F0 I3 (zZ fr3) st3 stop) fun r s4 ⟨hr,I4⟩=>?_
     subst hr
     exact hR _ _ _ _ _ LR I4 qn
   . refine dZ (T.item (X.comp N sc H2.objs.size s H fp) rfl rfl rfl hc i [] s3 σ3 H3 F0 I3 (zZ fr3) st3 go) fun r s4 ⟨u,hr,h4⟩=>?_
     subst hr
     refine dZ h4 fun _ s5 ⟨x,H5,I5,r5,y5,st5,fr5⟩=>?_
     have Qy:=I5.pinned (zZ fr5) (T.obj _ _ st5)
     refine dZ ((hg _ _ _ _).h _ s5 σ3 H5 x u _ Qy r5 (step x H5 y5)) fun _ s6 ⟨σ6,H6,I6,q6⟩=>?_
     refine dZ ((ht _ _ _ _).h _ s6 σ6 H6 _ I6 q6) fun b s7 ⟨H7,I7,q7⟩=>?_
     have again:∀ {Ju:List V} {s8:Shared} {H8:Hp},Inv (X.comp N sc H2.objs.size s H fp) ([]++sA fp s5.heap) σ6 H8 s8->NN Ju σ6 H8->∃ m,m < n/\∃ i acc σ' H',Inv (X.comp N sc H2.objs.size s H fp) [] σ' H' s8/\tn i s8.heap/\(∀ b∈fp,H' b=none)/\W i m acc σ' H':=fun {Ju s8 H8} I8 w=>by
       obtain ⟨m',hm,w8⟩:=hNN _ _ _ w
       refine ⟨m',hm,i + 1,Ju,σ6,H8,I8.mC,T.keep _ _ _ st5 fun b hb o e=>(I8.pin (b,o) (List.mem_append_right _ (List.mem_append_right _ (lD hb e)))).1,fun b hb=>?_,w8⟩
       obtain ⟨o,e,d⟩:=T.obj _ _ st5 b hb
       exact (I8.pin (b,o) (List.mem_append_right _ (List.mem_append_right _ (lD hb e)))).2.1
     cases b with
     | false=>exact again I7 q7
     | true=>
       refine dZ ((he _ _ _ _).h _ s7 σ6 H7 _ I7 q7) fun y s8 ⟨v,H8,I8,r8,q8⟩=>?_
       obtain ⟨hx,hz,w8⟩:=q8
       refine dZ (d7 (X:=X.comp N sc H2.objs.size s H fp) _ s8 σ6 H8 (.ref s.heap.objs.size) [v] (.ref s.heap.objs.size) [y] (fun _ H9=>H9=upd H8 s.heap.objs.size (.lst (acc++[v]))) I8 rfl (.cons r8 .nil) ⟨_,acc,v,rfl,rfl,hx,hz,rfl⟩) fun _ s9 ⟨_,H9,I9,_,q9⟩=>?_
       subst q9
       exact again I9 w8
 exact codeAny_compStart_list (loop _ rfl) (T.self _ 0 _ _ _ st0 (loop _ rfl))
theorem ur (c:j5 X sc N src) (hc:X.calm=true) (hi:JI X tg iter wi)
   (hg:∀ C s H fp,JG (X.comp N sc C s H fp) tg g) (ht:∀ C s H fp,JF (X.comp N sc C s H fp) ifs tt) (he:∀ C s H fp,JE (X.comp N sc C s H fp) elt te)
   (hs:∀ x,foldedSetIterable iter X.env x=pure x:=by intro _;rfl):JE X (.ListComp elt [⟨tg,iter,ifs,0⟩] sc pos) (HZ X.K wi src g tt te):=⟨by
 intro pins s σ H Q I h
 rw [eval_ListComp]
 refine wpAny_comprehension_free (use:=none) rfl hs (kJ fun x hx hk=>?_) c.kind c.names ?_
 . obtain ⟨n,k⟩:=x
   cases hk
   exact I.ok.has _ (c.free hx)
 refine dZ (hi.h pins s σ H _ I h) fun v s1 h1=>dZ h1 fun NW s2 h2=>?_
 obtain ⟨it,fp,tn,J,H2,e,I2,T,st2,f2,h2⟩:=h2
 subst e
 refine sM (R:=fun acc C=>compPost (model X.prog X.w) X.A X.xe none (EP X pins σ Q) acc C) (Q:=Q) c hc hg ht he I2 T st2 f2 h2 fun D C s' σ' H' hC I' q=>?_
 obtain ⟨m,hn,_⟩:=id I'.loc
 refine ⟨m,hn,fun h' sb=>?_⟩
 exact ⟨.ref D,H',I2.vY f2 hC I' fun b hb=>sb.2 b hb,rfl,q⟩⟩
theorem K4 {i:Nat} {y:Str} {py GS:Pos} (hN:X.N.Nodup) (hy:X.N[i]?=some y) (hx:Loc X.env.scope y) (c:j5 X sc N src) (hc:X.calm=true) (hi:JI X tg iter wi)
   (hg:∀ C s H fp,JG (X.comp N sc C s H fp) tg g) (ht:∀ C s H fp,JF (X.comp N sc C s H fp) ifs tt) (he:∀ C s H fp,JE (X.comp N sc C s H fp) elt te)
   (hsw:swapsWith (.ListComp elt [⟨tg,iter,ifs,0⟩] sc pos) (some (.Name y py)) GS.line X.env=pure true:=by rfl)
   (hf:X.fn y=true∨X.env.scope.names.lookup y=some .local:=by first | exact .inl rfl | exact .inr rfl | assumption)
   (hs:∀ x,foldedSetIterable iter X.env x=pure x:=by intro _;rfl):JS X (.Assign [.Name y py] (.ListComp elt [⟨tg,iter,ifs,0⟩] sc pos) GS) (yv (HZ X.K wi src g tt te) (dw i)):=⟨by
 intro pins s σ H D I h
 rw [exec_Assign_Name_used _ _ _ _ hsw]
 refine wpAny_bind (wpAny_standAt (wpAny_bind ?_))
 show wpAny _ X.A (do let _ <- comprehension (.ListComp elt [⟨tg,iter,ifs,0⟩] sc pos) sc X.env _ (newList []) false (eval iter X.env) (some (assign (.Name y py) X.env))) _ _ s
 refine wpAny_bind (wpAny_mono (wpAny_comprehension_free (use:=some (assign (.Name y py) X.env)) (Q:=fun _ s'=>SP X pins D .next s') rfl hs (kJ fun x hx hk=>?_) c.kind c.names ?_) (fun _ s' hq=>wpAny_pure (wpAny_pure hq)) fun _ _ e=>e)
 . obtain ⟨n,k⟩:=x
   cases hk
   exact I.ok.has _ (c.free hx)
 refine dZ (hi.h pins s σ H _ I h) fun v s1 h1=>dZ h1 fun NW s2 h2=>?_
 obtain ⟨it,fp,tn,J,H2,e,I2,T,st2,f2,h2⟩:=h2
 subst e
 refine sM (R:=fun acc C=>compPost (model X.prog X.w) X.A X.xe (some (assign (.Name y py) X.env)) (fun _ s'=>SP X pins D .next s') acc C) (Q:=fun v H'=>D.nx (σ.set i (some v)) H') c hc hg ht he I2 T st2 f2 h2 fun L C s' σ' H' hC I' q=>?_
 obtain ⟨m,hn,_⟩:=id I'.loc
 obtain ⟨o,es,ep,ho,r⟩:=id hn
 have I3:Inv X pins σ H' s':=I2.vY (h':=s'.heap) f2 hC I' fun _ _=>rfl
 have cL:C≠X.env.locals:=Nat.ne_of_gt (Nat.lt_of_lt_of_le I2.lt hC)
 have cC:∀ x a,X.env.cells.lookup x=some a->a≠C:=fun x a e=>by
   obtain ⟨v,o,e',_⟩:=I2.cell x a e
   exact Nat.ne_of_lt (Nat.lt_of_lt_of_le (Heap.lt_size e') hC)
 have cP:∀ p∈X.pn++pins,p.1≠C:=fun p hp=>Nat.ne_of_lt (Nat.lt_of_lt_of_le (Heap.lt_size (I2.pin p hp).1) hC)
 have fr:H' C=none:=I'.free
 have I4:Inv X (pins++[(C,o)]) σ H' s':=I3.vM fun p hp=>(List.mem_append.mp hp).elim (fun z=>I3.pin p (List.mem_append_right _ z)) fun z=>by
   have e:p=(C,o):=by simpa using z
   subst e
   exact ⟨ho,fr,cL,I2.Lk hC,fun v z=>by
     have r1:=r
     simp_all⟩
 show wpAny (model X.prog X.w) X.A (assign (.Name y py) X.env (.ref L)) _ _ s'
 refine dZ (Bd (pos:=py) hN hy hx hf _ s' σ H' (.ref L) (.ref L) (fun σ1 H1=>D.nx σ1 H1/\H1=H') I4 rfl ⟨q,rfl⟩) fun _ s5 ⟨σ5,H5,I5,q5,e5⟩=>?_
 subst e5
 have pC:=(I5.pin (C,o) (List.mem_append_right _ (List.mem_append_right _ (by simp)))).1
 refine ⟨m,⟨o,es,ep,pC,r⟩,fun h' sb=>?_⟩
 exact ⟨σ5,H5,I5.mC.turned (t':=s5.toks) (fun b u hb e=>(sb.2 b hb).trans e) fr cL (.inr (Nat.le_trans I2.sz hC)) cC cP,q5⟩⟩
end
end L2
namespace L2
open PySem PySem.Spec PyProof.Rows
theorem sN {σ:St}:pick σ []=[]:=rfl
theorem sO {σ:St} {r:List (Option Nat)}:pick σ (none::r)=none::pick σ r:=rfl
theorem sP {σ:St} {j:Nat} {r:List (Option Nat)}:pick σ (some j::r)=(σ[j]?).join::pick σ r:=rfl
theorem join_some {α:Type} {o:Option α}:(some o).join=o:=rfl
section
variable {K:PySem.W.Frag} {g:TG} {tt:TT} {te:TE} {D a:Addr} {Q:Hp->Prop} {σ:St} {H:Hp} {xs:List V} {lo:Int} {n:Nat}
theorem mS {J:It} (Pv:Nat->List V->St->Hp->Prop) (h0:Pv 0 [] σ H) (hgo:∀ i acc σ H,i < n->Pv i acc σ H->J.go i H) (um:∀ acc σ H,Pv n acc σ H->J.stop n H)
   (hs:∀ i acc σ H x H',i < n->Pv i acc σ H->J.HL i H x H'->g x σ H' fun σ2 H2=>tt σ2 H2 fun b H3=>if b=true then te σ2 H3 fun v H4=>H4 D=some (.lst acc)/\acc.length < sizeLine/\Pv (i + 1) (acc++[v]) σ2 (upd H4 D (.lst (acc++[v]))) else Pv (i + 1) acc σ2 H3)
   (hd:∀ acc σ H,Pv n acc σ H->Q H):cA J g tt te D Q σ H:=by
 refine ⟨fun i m acc σ H=>Pv i acc σ H/\i<=n/\m=n - i,⟨n,h0,Nat.zero_le _,by omega⟩,fun i m acc σ H ⟨h,hi,hm⟩=>?_⟩
 by_cases c:i < n
 . right
   exact ⟨hgo i acc σ H c h,Pv (i + 1),fun acc' σ' H' q=>⟨n - (i + 1),by omega,q,by omega,rfl⟩,fun x H' hy=>hs i acc σ H x H' c h hy⟩
 . left
   have e:i=n:=by omega
   subst e
   exact ⟨um acc σ H h,hd acc σ H h⟩
theorem En (Pv:Nat->List V->St->Hp->Prop) (h0:Pv 0 [] σ H)
   (hs:∀ i acc σ H,i < n->Pv i acc σ H->g (.int (lo + i)) σ H fun σ2 H2=>tt σ2 H2 fun b H3=>if b=true then te σ2 H3 fun v H4=>H4 D=some (.lst acc)/\acc.length < sizeLine/\Pv (i + 1) (acc++[v]) σ2 (upd H4 D (.lst (acc++[v]))) else Pv (i + 1) acc σ2 H3)
   (hd:∀ acc σ H,Pv n acc σ H->Q H):cA (Be lo n) g tt te D Q σ H:=by
 refine mS (n:=n) Pv h0 (fun i _ _ _ h _=>h) (fun _ _ _ _=>Nat.le_refl _) (fun i acc σ H x H' hi h hy=>?_) hd
 obtain ⟨rfl,rfl⟩:=hy
 exact hs i acc σ _ hi h
theorem nj (Pv:Nat->List V->St->Hp->Prop) (h0:Pv 0 [] σ H) (hl:∀ i acc σ H,i<=xs.length->Pv i acc σ H->bC K H a xs)
   (hs:∀ i x acc σ H,xs[i]?=some x->Pv i acc σ H->g x σ H fun σ2 H2=>tt σ2 H2 fun b H3=>if b=true then te σ2 H3 fun v H4=>H4 D=some (.lst acc)/\acc.length < sizeLine/\Pv (i + 1) (acc++[v]) σ2 (upd H4 D (.lst (acc++[v]))) else Pv (i + 1) acc σ2 H3)
   (hd:∀ acc σ H,Pv xs.length acc σ H->Q H):cA (zW K a) g tt te D Q σ H:=by
 refine mS (n:=xs.length) Pv h0 (fun i acc σ H hi h=>⟨xs,_,hl i acc σ H (Nat.le_of_lt hi) h,List.getElem?_eq_getElem hi⟩) (fun acc σ H h=>⟨xs,hl _ acc σ H (Nat.le_refl _) h,Nat.le_refl _⟩) (fun i acc σ H x H' hi h hy=>?_) hd
 obtain ⟨rfl,hy⟩:=hy
 exact hs i x acc σ _ (hy xs (hl i acc σ _ (Nat.le_of_lt hi) h)) h
theorem Jv (Pv:Nat->List V->St->Hp->Prop) (h0:Pv 0 [] σ H) (hl:∀ i acc σ H,i<=xs.length->Pv i acc σ H->mw K H a xs)
   (hs:∀ i x acc σ H,xs[i]?=some x->Pv i acc σ H->g x σ H fun σ2 H2=>tt σ2 H2 fun b H3=>if b=true then te σ2 H3 fun v H4=>H4 D=some (.lst acc)/\acc.length < sizeLine/\Pv (i + 1) (acc++[v]) σ2 (upd H4 D (.lst (acc++[v]))) else Pv (i + 1) acc σ2 H3)
   (hd:∀ acc σ H,Pv xs.length acc σ H->Q H):cA (KZ K a) g tt te D Q σ H:=by
 refine mS (n:=xs.length) Pv h0 (fun i acc σ H hi h=>⟨xs,_,hl i acc σ H (Nat.le_of_lt hi) h,List.getElem?_eq_getElem hi⟩) (fun acc σ H h=>⟨xs,hl _ acc σ H (Nat.le_refl _) h,Nat.le_refl _⟩) (fun i acc σ H x H' hi h hy=>?_) hd
 obtain ⟨rfl,hy⟩:=hy
 exact hs i x acc σ _ (hy xs (hl i acc σ _ (Nat.le_of_lt hi) h)) h
theorem sQ {ta:TA} {src:List (Option Nat)} {Q:VK}:HZ K (Bg ta) src g tt te σ H Q=ta σ H (fun vs H1=>∃ j:Int,vs=[.int j]/\-(2 ^ 62)<=j/\j < 2 ^ 62/\∀ D,L2.new K H1 D->cA (Be 0 j.toNat) g tt te D (fun H'=>Q (.ref D) H') (pick σ src) (upd H1 D (.lst []))):=rfl
theorem sR {ta:TA} {src:List (Option Nat)} {Q:VK}:HZ K (HM ta) src g tt te σ H Q=ta σ H (fun vs H1=>∃ i j:Int,vs=[.int i,.int j]/\(-(2 ^ 62)<=i/\i < 2 ^ 62/\-(2 ^ 62)<=j/\j < 2 ^ 62)/\∀ D,L2.new K H1 D->cA (Be i (j - i).toNat) g tt te D (fun H'=>Q (.ref D) H') (pick σ src) (upd H1 D (.lst []))):=rfl
theorem sS {tl:TE} {src:List (Option Nat)} {Q:VK}:HZ K (Bf K tl) src g tt te σ H Q=tl σ H (fun x H1=>∃ a,x=.ref a/\(∃ xs,bC K H1 a xs)/\∀ D,L2.new K H1 D->cA (zW K a) g tt te D (fun H'=>Q (.ref D) H') (pick σ src) (upd H1 D (.lst []))):=rfl
theorem wc {tl:TE} {src:List (Option Nat)} {Q:VK}:HZ K (Gn K tl) src g tt te σ H Q=tl σ H (fun x H1=>∃ a,x=.ref a/\(∃ xs,mw K H1 a xs)/\∀ D,L2.new K H1 D->cA (KZ K a) g tt te D (fun H'=>Q (.ref D) H') (pick σ src) (upd H1 D (.lst []))):=rfl
end
end L2
namespace L2
open PySem PySem.Spec PyProof.Rows
section
variable {X:Cx} {es:List Expr} {t:TA} {pos:Pos} (K:PySem.W.Frag)
theorem Jw {k} (h:JA X es t) (hk:X.K=K:=by rfl):JE X (.Tuple es k pos) (yQ K t):=by subst hk;exact cJ h
theorem sU {k:Nat} {t:zV} {n:Nat} (hc:X.calm=true) (h:K2 X es t) (hn:(assignEach es X.env).length=n:=by rfl) (um:(assignEach es X.env).findIdx? (·.1)=none:=by rfl) (hk:X.K=K:=by rfl):JG X (.Tuple es k pos) (oU K n t):=by subst hk;exact jQ hc h hn um
end
end L2
namespace L2
open PySem PySem.Spec PyProof.Rows
section
variable {X:Cx} {pins:List (Addr×Obj)} {σ:St} {H:Hp} {s:Shared}
theorem Inv.nZ (I:Inv X pins σ H s) {a:Addr} {o:HO} (h:H a=some o):lG X.K a=none:=by
 cases e:lG X.K a with
 | none=>rfl
 | some xs=>
   obtain ⟨ob,q⟩:=u9 e
   rw [(I.bs a ob (I.ok.mod.HG a ob q)).2] at h
   cases h
end
theorem j4.kp {K:PySem.W.Frag} {p D:Addr} {H H':Hp} {o:HO} (k:j4 K p D (upd H D o) H') (n:L2.new K H D):Kp K p H H':=by
 refine ⟨fun q u e m=>?_,fun b ys e m=>k.mod b ys ((Ext.new n).mod b ys e m) m⟩
 have d:q≠D:=aW e n.1
 exact k.keep q u (by rw [aJ d];exact e) m d
theorem j4.refl {K:PySem.W.Frag} {p D:Addr} {H:Hp}:j4 K p D H H:=⟨fun _ _ h _ _=>h,fun _ _ h _=>h⟩
end L2
set_option Elab.async false
set_option linter.all false
set_option maxRecDepth 100000
namespace L2
open PySem PySem.Spec PyProof.Rows
def gk {α:Type} (n m:Nat) (us ws:List α):List α:=if us.length=n/\ws.length=m then us++ws else []
theorem Eo {α:Type} {a b:α}:gk 1 1 [a] [b]=[a,b]:=rfl
theorem Ep {α:Type} {a b c d:α}:gk 3 1 [a,b,c] [d]=[a,b,c,d]:=rfl
section
variable {X:Cx} {x:Str} {k n m:Nat} {ps ks:List Str} {yg:List V} {sp:Sp} {e:Expr} {es:List Expr} {kws:List Keyword} {t tk:TA} {te:TE} {p pos QB:Pos} {nm:Option Str}
theorem we {gV:List V->List V->List V} {E:XK} {σ:St} {H:Hp} {Q:VK}:IY sp gV E t tk σ H Q=t σ H (fun vs H1=>tk σ H1 fun zs H2=>Cal sp (gV vs zs) H2 Q ⟨0⟩ E):=rfl
end
end L2
namespace L2
open PySem PySem.Spec PyProof.Rows
end L2
namespace L2
open PySem PySem.Spec PyProof.Rows
section
variable {K:PySem.W.Frag} {s:Shared} {fd:FuncData} {args:Args} {binds:List (Str×Value)} {d:Addr} {name:Str} {v cls:Value} {es:Array DictEntry} {ep:Nat} {od:Option Addr} {sl:Array (Option Value)} {α β:Type}
end
end L2
set_option Elab.async false
set_option linter.all false
set_option maxRecDepth 100000
namespace L2
open PySem PySem.Spec PyProof.Rows
section
variable {X:Cx} {o lo hi e:Expr} {to tl th te:TE} {p pos:Pos}
theorem yS:∀ {xs:List V} {us:List Value},Vals xs us->Vals xs.reverse us.reverse
 | _,_,.nil=>.nil
 | _,_,.cons r rr=>by rw [List.reverse_cons,List.reverse_cons];exact (yS rr).append (.cons r .nil)
def GU (K:PySem.W.Frag) (te:TE):TE:=fun σ H Q=>te σ H fun x H1=>∃ a xs,x=.ref a/\bC K H1 a xs/\∀ p,L2.new K H1 p->Q (.ref p) (upd H1 p (.lst xs.reverse))
theorem QO {j1:Nat} {p1 p2 p3:Pos} (he:JE X e te):JE X (.Subscript e (.Slice none none (some (.UnaryOp .USub (.Constant (.int 1) j1 p1) p2)) p3) pos) (GU X.K te):=⟨by
 intro pins s σ H Q I h
 refine Subscript_ (dZ (he.h pins s σ H _ I h) fun v s1 ⟨x,H1,I1,r1,q1⟩=>?_)
 refine wpAny_Slice ?_
 rw [evalPart_none]
 refine wpAny_pure (wpAny_pure ?_)
 rw [evalPart_some]
 refine dZ ((QK (pos:=p2) z8 (ei (X:=X) (i:=1) (j:=j1) (pos:=p1))).h pins s1 σ H1 (fun y H2=>y=.int (-1)/\H2=H1) I1 ⟨1,rfl,rfl,rfl⟩) fun vs s2 ⟨y,H2,I2,r2,q2,q3⟩=>?_
 subst q2 q3
 obtain ⟨tk,rfl⟩:=r2
 obtain ⟨a,xs,rfl,hx,q⟩:=q1
 cases r1
 have I4:Inv X pins σ H2 { s2 with heap:=s2.heap.push { cls:=.type "slice",data:=.fields #[.none,.none,.int (-1) tk] } }:=I2.kept (t':=s2.toks) fun b ob q=>Heap.get?_push_of_some _ q
 obtain ⟨its,r,ht,hz⟩:=I4.list hx
 have hlen:=r.length
 show wpAny (model X.prog X.w) X.A (subscriptTail e (.Slice none none (some (.UnaryOp .USub (.Constant (.int 1) j1 p1) p2)) p3) (.ref a) (.ref s2.heap.objs.size)) (EP X pins σ Q) X.xe { s2 with heap:=s2.heap.push { cls:=.type "slice",data:=.fields #[.none,.none,.int (-1) tk] } }
 refine tail_any (ops:=[.ref a,.ref s2.heap.objs.size]) ht.isList.typeIs slot_list_getitem.lookup ?_ (by with_unfolding_all rfl)
 refine wpAny_getItem_list_slice ht.isList (Heap.IsSliceOf.new ..) .none .none (.int _ _) (by decide) ?_ (by rw [List.size_toArray] <;> omega)
 rw [PySem.W.krv_pick]
 exact ⟨.ref _,_,I4.LH (t':=s2.toks) (yS r) (by rw [List.length_reverse];exact hz),rfl,q _ I4.new⟩⟩
end
end L2
namespace L2
open PySem PySem.Spec PyProof.Rows
section
variable {X:Cx}
end
end L2
set_option Elab.async false
set_option linter.all false
set_option maxRecDepth 100000
namespace L2
open PySem PySem.Spec PyProof.Rows
section
variable {elt tg iter tg1 Ia:Expr} {ifs LS:List Expr} {scope:Scope} {pos:Pos} {it acc:Value} {env:Env}
variable {prog:Program} {w:World} {A:Around} {R:Result->Shared->Prop} {s:Shared}
end
section
variable {Y:Cx} {elt tg iter tg1 Ia:Expr} {ifs LS:List Expr} {scope:Scope} {pos:Pos} {g:TG} {tt:TT} {te:TE}
end
section
variable {X:Cx} {sc:Scope} {N:List Str} {src:List (Option Nat)} {tg iter tg1 Ia elt:Expr} {ifs LS:List Expr} {wi wi1:TI} {g g1:TG} {tt tt1:TT} {te:TE} {pos:Pos}
end
section
variable {K:PySem.W.Frag} {g:TG} {tt:TT} {body:TBd} {a:Addr} {aew:List V} {F:List V->St->Hp->Prop} {σ:St} {H:Hp} {xs:List V} {n:Nat}
end
end L2
set_option Elab.async false
set_option linter.all false
set_option maxRecDepth 100000
namespace L2
open PySem PySem.Spec PyProof.Rows
theorem GV {xs:List V} {us:List Value} (h:Vals xs us):∀ {i:Nat} {u:Value},us[i]?=some u->∃ x,xs[i]?=some x/\RelV x u:=by
 induction h with
 | nil=>intro i u e;simp at e
 | cons r rr ih=>
   intro i u e
   cases i with
   | zero=>simp only [List.getElem?_cons_zero,Option.some.injEq] at e ⊢;exact ⟨_,rfl,e ▸ r⟩
   | succ i=>simp only [List.getElem?_cons_succ] at e ⊢;exact ih e
section
variable {X:Cx}
theorem range_all {bs:List Bool}:(List.range bs.length).all (fun i=>bs.getD i true)=bs.all id:=by
 induction bs with
 | nil=>rfl
 | cons b bs ih=>
   rw [List.length_cons,List.range_succ_eq_map,List.all_cons,List.all_map,List.all_cons]
   have e:((fun i=>(b::bs).getD i true) ∘ Nat.succ)=fun i=>bs.getD i true:=by funext i;simp
   rw [e,ih]
   rfl
theorem yU {P:Program} {w:World} {A:Around} {bs:List Bool} {us:List Value} (r:Vals (bs.map V.bl) us):TruthOf P w A (fun i v=>us.toArray[i]?=some v) (fun i=>bs.getD i true):=by
 intro i v s Q E hv hQ
 rw [List.getElem?_toArray] at hv
 obtain ⟨x,hx,rx⟩:=GV r hv
 rw [List.getElem?_map] at hx
 obtain ⟨b,hb,rfl⟩:=Option.map_eq_some_iff.mp hx
 cases rx
 have e:bs.getD i true=b:=by rw [List.getD_eq_getElem?_getD,hb];rfl
 dsimp only at hQ
 rw [e] at hQ
 exact wpAny_truthy_bool hQ
theorem kept_iter {s:Shared} {l:Addr} {h':Heap} (hk:∀ b o,b∉[s.heap.objs.size]->(s.heap.push { cls:=.type "list_iterator",data:=.fields #[.ref l,.int 0 0] }).get? b=some o->h'.get? b=some o):∀ b o,s.heap.get? b=some o->h'.get? b=some o:=fun b o e=>by
 refine hk b o (fun m=>?_) (Heap.get?_push_of_some _ e)
 have q:b=s.heap.objs.size:=by simpa using m
 exact Nat.lt_irrefl _ (q ▸ Heap.lt_size e)
theorem gY (hc:X.calm=true):gE X (.builtin "all") (fun xs H Q=>∃ (p:Addr) (bs:List Bool),xs=[.ref p]/\bC X.K H p (bs.map V.bl)/\Q (.bl (bs.all id)) H):=by
 intro pins s σ H xs us Q I r h
 obtain ⟨p,bs,rfl,hx,q⟩:=h
 obtain ⟨u,rfl,ru⟩:=vals1 r
 cases ru
 obtain ⟨its,rv,ht,hz⟩:=I.list hx
 have hl:s.heap.IsList p its.toArray:=ht.isList
 have ug:p < s.heap.objs.size:=by obtain ⟨_,e,_⟩:=hl;exact Heap.lt_size e
 refine call_all_walk (wpAny_pyIter_list hl ?_)
 refine ⟨_,_,_,_,_,_,fun i=>bs.getD i true,rfl,Walks.list (A:=X.A.in1) (I.ok.hd hc) _ p (Nat.ne_of_lt ug) its.toArray,⟨⟨_,Heap.get?_push_size _ rfl,rfl,rfl⟩,hl.push _⟩,yU rv,fun h' tk hk=>?_⟩
 have el:its.toArray.size=bs.length:=by rw [List.size_toArray,<- rv.length,List.length_map]
 rw [el,range_all]
 exact ⟨.bl _,H,I.kept (kept_iter hk),rfl,q⟩
end
section
variable {P:Program} {w:World} {A:Around} {E:Value->Shared->Prop} {s:Shared} {b0:Array Keyed}
end
section
variable {X:Cx}
def qk (K:PySem.W.Frag) (t:TA):TE:=fun σ H Q=>t σ H fun vs H1=>∃ (p:Addr) (ns:List Int),vs=[.ref p]/\bC K H1 p (ns.map V.int)/\ns.Pairwise (·≥·)/\∀ D,L2.new K H1 D->Q (.ref D) (upd H1 D (.lst (ns.map V.int)))
end
end L2
set_option Elab.async false
set_option linter.all false
set_option maxRecDepth 100000
namespace L2
open PySem PySem.Spec PyProof.Rows
def QS (xs:Array Nat):Prop:=xs.toList.Pairwise (· < ·)
structure Er (t:SetTable):Prop where
 bare:t.dummies=#[]
 rise:QS t.place
section
variable {xs:Array Nat} {j:Nat}
end
theorem Er.slot {t:SetTable} (h:Er t) {j:Nat} (e:t.slot j=.empty):t.place[SetTable.below t.place j]?≠some j:=by
 intro c
 unfold SetTable.slot at e
 simp only [c,beq_self_eq_true,if_true] at e
 cases e
def LU (es:Array (Int×Value)):List Int:=es.toList.map fun e=>numOf e.2
structure LV (P:Program) (w:World) (h:Heap) (a:Addr) (L:Bool) (M:Int->Prop) (n:Nat) (es:Array (Int×Value)) (ep:Nat) (t:SetTable):Prop where
 at_:∃ o,h.get? a=some o/\o.ExactSet/\o.data=.set es ep t
 elems:ElemsOf (intKind P w) es.toList
 nd:(LU es).Nodup
 mem:∀ k,k∈LU es↔M k
 len:es.size<=n
 fits:t.fits es.size=true
 tab:Er t
 led:t.led=L
def Jx (P:Program) (w:World) (h:Heap) (a:Addr) (L:Bool) (M:Int->Prop) (n:Nat):Prop:=∃ es ep t,LV P w h a L M n es ep t
section
variable {P:Program} {w:World} {A:Around} {E:Value->Shared->Prop} {s:Shared}
theorem Jx.keep {h h':Heap} {a:Addr} {L:Bool} {M:Int->Prop} {n:Nat} (q:Jx P w h a L M n) (k:∀ o,h.get? a=some o->h'.get? a=some o):Jx P w h' a L M n:=by
 obtain ⟨es,ep,t,x⟩:=q
 obtain ⟨o,h1,h2⟩:=x.at_
 exact ⟨es,ep,t,⟨⟨o,k o h1,h2⟩,x.elems,x.nd,x.mem,x.len,x.fits,x.tab,x.led⟩⟩
end
section
variable {P:Program} {w:World} {A:Around} {R:Result->Shared->Prop} {I S:Addr} {fp wr:List Addr} {G:Array GenState->Array GenState->Prop} {n:Nat} {Pv:Nat->Value->Prop} {St:Nat->Shared->Prop} {L:Bool}
end
section
variable {P:Program} {w:World} {A:Around} {E:Value->Shared->Prop} {s:Shared}
end
end L2
set_option Elab.async false
set_option linter.all false
set_option maxRecDepth 100000
namespace L2
open PySem PySem.Spec PyProof.Rows
def Jy (h:Heap) (S:Addr) (es:Array (Int×Value)) (ep:Nat) (t:SetTable):Prop:=∃ o,h.get? S=some o/\o.data=.set es ep t
section
variable {P:Program} {w:World} {A:Around} {E:Value->Shared->Prop} {s:Shared} {it S:Addr} {es:Array (Int×Value)} {ep i n:Nat} {t:SetTable} {R:Option Value->Shared->Prop}
end
section
variable {P:Program} {w:World} {A:Around} {it S T:Addr} {es:Array (Int×Value)} {ep:Nat} {t:SetTable}
theorem Jy.keep {h h':Heap} (x:Jy h S es ep t) (k:∀ o,h.get? S=some o->h'.get? S=some o):Jy h' S es ep t:=by
 obtain ⟨o,g,d⟩:=x
 exact ⟨o,k o g,d⟩
end
section
variable {P:Program} {w:World} {A:Around} {E:Value->Shared->Prop} {s:Shared} {S:Addr} {L:Bool} {M:Int->Prop} {n:Nat} {es:Array (Int×Value)} {ep:Nat} {t:SetTable}
end
end L2
set_option Elab.async false
set_option linter.all false
set_option maxRecDepth 100000
namespace L2
open PySem PySem.Spec PyProof.Rows
section
variable {P:Program} {w:World} {A:Around} {E:Value->Shared->Prop} {s:Shared} {S:Addr} {M:Int->Prop} {n:Nat}
end
section
variable {X:Cx} {pins:List (Addr×Obj)} {σ:St} {H:Hp} {s:Shared}
end
end L2
set_option Elab.async false
set_option linter.all false
set_option maxRecDepth 100000
namespace L2
open PySem PySem.Spec PyProof.Rows
theorem Inv.wg {X:Cx} {pins:List (Addr×Obj)} {σ:St} {H:Hp} {s:Shared} {h':Heap} {ch:List Addr} {T:Addr} {o:HO} {t':Nat} (I:Inv X pins σ H s) (k:∀ b u,b∉ch->s.heap.get? b=some u->h'.get? b=some u) (hf:∀ b∈ch,oA X pins H b)
   (hp:s.heap.objs.size<=T) (new:dH X.prog X.w (upd H T o) h' T o):Inv X pins σ (upd H T o) { s with heap:=h',toks:=t' }:=by
 have fr:=I.cX.fresh hp
 have out:∀ b u,H b=some u->b∉ch:=fun b u e z=>by rw [(hf b z).1] at e;cases e
 refine I.step (g':=s.gens) (d':=s.drawn) (ch:=ch) (fun b hb=>⟨(hf b hb).2.2.2.1,(hf b hb).2.1,(hf b hb).2.2.2.2.1,(hf b hb).2.2.2.2.2⟩) (fun b u _ _ hc e _=>k b u hc e) (fun b u _ _ hc e _=>⟨u.slots,k b u hc e⟩)
   (fun b u _ e z=>by rw [aJ (Nat.ne_of_lt (Nat.lt_of_lt_of_le (Heap.lt_size e) hp))];exact z) (fun b u hc e=>⟨u,k b u hc e⟩) (fun b xs e=>by rw [aJ (aW e fr)];exact e) (fun b u v e=>by rw [aJ (aW e fr)];exact e)
   (fun b ps e=>⟨#[],by rw [aJ (aW e fr),e];simp⟩) (fun m hm=>?_) (fun b u e=>?_) I.bare
 . obtain ⟨ob,es,ep,ho,r⟩:=hm
   exact ⟨ob,es,ep,k _ ob (fun z=>(hf _ z).2.1 rfl) ho,r⟩
 . by_cases hb:b=T
   . subst hb
     rw [ah] at e
     cases e
     exact new
   . rw [aJ hb] at e
     refine (I.cX b u e).nQ (fun c v hc q=>k c v ?_ q) (fun c q=>by rw [aJ (aW q fr)];exact q) fun c xs q=>by rw [aJ (aW q fr)];exact q
     rcases hc with z | z
     . rw [z];exact out b u e
     . exact out c _ z
section
variable {X:Cx}
end
section
variable {K:PySem.W.Frag} {g:TG} {tt:TT} {te:TE} {D a:Addr} {Q:Hp->Prop} {σ:St} {H:Hp} {xs:List V}
end
section
variable {X:Cx}
end
end L2
set_option Elab.async false
set_option linter.all false
set_option maxRecDepth 100000
namespace L2
open PySem PySem.Spec PyProof.Rows
theorem Inv.BE {X:Cx} {pins:List (Addr×Obj)} {σ:St} {H:Hp} {s:Shared} {h':Heap} {ch:List Addr} {t':Nat} (I:Inv X pins σ H s) (k:∀ b u,b∉ch->s.heap.get? b=some u->h'.get? b=some u) (hf:∀ b∈ch,oA X pins H b):
   Inv X pins σ H { s with heap:=h',toks:=t' }:=by
 have out:∀ b u,H b=some u->b∉ch:=fun b u e z=>by rw [(hf b z).1] at e;cases e
 refine I.step (g':=s.gens) (d':=s.drawn) (ch:=ch) (fun b hb=>⟨(hf b hb).2.2.2.1,(hf b hb).2.1,(hf b hb).2.2.2.2.1,(hf b hb).2.2.2.2.2⟩) (fun b u _ _ hc e _=>k b u hc e) (fun b u _ _ hc e _=>⟨u.slots,k b u hc e⟩)
   (fun _ _ _ _ z=>z) (fun b u hc e=>⟨u,k b u hc e⟩) (fun _ _ e=>e) (fun _ _ _ e=>e)
   (fun b ps e=>⟨#[],by rw [e];simp⟩) (fun m hm=>?_) (fun b u e=>?_) I.bare
 . obtain ⟨ob,es,ep,ho,r⟩:=hm
   exact ⟨ob,es,ep,k _ ob (fun z=>(hf _ z).2.1 rfl) ho,r⟩
 . refine (I.cX b u e).nQ (fun c v hc q=>k c v ?_ q) (fun _ q=>q) fun _ _ q=>q
   rcases hc with z | z
   . rw [z];exact out b u e
   . exact out c _ z
def Ib (K:PySem.W.Frag) (a b:Addr):It:=⟨fun i H=>∃ xs ys x y,bC K H a xs/\bC K H b ys/\xs[i]?=some x/\ys[i]?=some y,fun i H x H'=>∃ T v u,L2.new K H T/\(∀ xs,bC K H a xs->xs[i]?=some v)/\(∀ ys,bC K H b ys->ys[i]?=some u)/\x=.ref T/\H'=upd H T (.tup [v,u]),fun i H=>∃ xs ys,bC K H a xs/\bC K H b ys/\(xs.length<=i∨ys.length<=i)⟩
theorem Es {P:Program} {w:World} {K:PySem.W.Frag} {es:List Expr} {k:Nat} {tp:Pos} (a b z TI TO i1 i2:Addr) (D:ZipApart z TI TO i1 i2 a b):Turn P w K (.Tuple es k tp) (Ib K a b) [z,TI,TO,i1,i2] z
   (fun i h=>IsZip h z TI TO .none/\IsPair h TI (.ref i1) (.ref i2)/\(∃ p q,IsPair h TO p q)/\h.IsListIter i1 a i/\h.IsListIter i2 b i) where
 mem:=by simp
 obj:=fun i h st c hc=>by
   obtain ⟨g1,g2,⟨p,q,g3⟩,⟨o4,g4,c4,d4⟩,⟨o5,g5,c5,d5⟩⟩:=st
   simp only [List.mem_cons,List.not_mem_nil,or_false] at hc
   rcases hc with rfl | rfl | rfl | rfl | rfl
   . exact ⟨_,g1,fun v z=>by cases z⟩
   . exact ⟨_,g2,fun v z=>by cases z⟩
   . exact ⟨_,g3,fun v z=>by cases z⟩
   . exact ⟨o4,g4,fun v z=>by rw [d4] at z;cases z⟩
   . exact ⟨o5,g5,fun v z=>by rw [d5] at z;cases z⟩
 keep:=fun i h h' st kk=>by
   obtain ⟨g1,g2,⟨p,q,g3⟩,g4,g5⟩:=st
   exact ⟨kk z (by simp) _ g1,kk TI (by simp) _ g2,⟨p,q,kk TO (by simp) _ g3⟩,g4.at fun o g=>kk i1 (by simp) o g,g5.at fun o g=>kk i2 (by simp) o g⟩
 item:=by
   intro X hP hw hK hc i pins s σ H E I hf st hg
   subst hP hw hK
   obtain ⟨xs,ys,x,y,hq,hq',hx,hy⟩:=hg
   obtain ⟨its,rv,p,hz⟩:=I.list hq
   obtain ⟨its',rv',p',hz'⟩:=I.list hq'
   obtain ⟨u,hu,ru⟩:=rv.get hx
   obtain ⟨u',hu',ru'⟩:=rv'.get hy
   obtain ⟨g1,g2,⟨a',b',g3⟩,g4,g5⟩:=st
   refine wpAny_pyNext_zip_item D g1 g2 g3 g4 g5 p.isList p'.isList (x:=u) (y:=u') (by simpa using hu) (by simpa using hu') fun h1 hz1 hTO1 hi1 hi2 gT sz kp=>?_
   refine ⟨_,rfl,wpAny_letOwnedTupleGo_zip hz1 fun h2 hz2 sb=>?_⟩
   have ltZ:z < s.heap.objs.size:=Heap.lt_size g1
   have LW:h2.get? s.heap.objs.size=some { cls:=.type "tuple",data:=.seq #[u,u'] }:=(sb.2 _ (Nat.ne_of_gt ltZ)).trans gT
   have I1:Inv X pins σ (upd H s.heap.objs.size (.tup [x,y])) { s with heap:=h2,toks:=s.toks }:=by
     refine I.wg (ch:=[z,TI,TO,i1,i2]) (fun b o hb g=>?_) hf (Nat.le_refl _) ⟨(show 2<=sizeLine by decide),[u,u'],.cons ru (.cons ru' .nil),_,LW,rfl,_,rfl⟩
     simp only [List.mem_cons,List.not_mem_nil,or_false,not_or] at hb
     exact (sb.2 b hb.1).trans (kp b o hb.1 hb.2.2.1 hb.2.2.2.1 hb.2.2.2.2 g)
   have kT:∀ c o,c≠z->h1.get? c=some o->h2.get? c=some o:=fun c o n g=>(sb.2 c n).trans g
   refine ⟨.ref s.heap.objs.size,_,I1,rfl,⟨_,x,y,⟨I.cX.fresh (Nat.le_refl _),I1.nZ ah⟩,fun ys hy=>by rw [I.sy hy hq];exact hx,fun zs hy'=>by rw [I.sy hy' hq'];exact hy,rfl,rfl⟩,
     ⟨hz2,kT _ _ D.TIz (kp _ _ D.TIz D.TITO D.TIi1 D.TIi2 g2),⟨_,_,kT _ _ D.TOz hTO1⟩,hi1.at fun o g=>kT _ o D.i1z g,hi2.at fun o g=>kT _ o D.i2z g⟩,fun c hc=>?_⟩
   have QT:c < s.heap.objs.size:=by
     obtain ⟨o4,e4,_⟩:=g4
     obtain ⟨o5,e5,_⟩:=g5
     simp only [List.mem_cons,List.not_mem_nil,or_false] at hc
     rcases hc with rfl | rfl | rfl | rfl | rfl
     . exact ltZ
     . exact Heap.lt_size g2
     . exact Heap.lt_size g3
     . exact Heap.lt_size e4
     . exact Heap.lt_size e5
   rw [aJ (Nat.ne_of_lt QT)]
   exact (hf c hc).1
 done:=by
   intro X hP hw hK hc i pins s σ H E I hf st hg
   subst hP hw hK
   obtain ⟨xs,ys,hq,hq',hx⟩:=hg
   obtain ⟨its,rv,p,hz⟩:=I.list hq
   obtain ⟨its',rv',p',hz'⟩:=I.list hq'
   obtain ⟨g1,g2,⟨a',b',g3⟩,g4,g5⟩:=st
   have hl:=rv.length
   have hl':=rv'.length
   refine wpAny_pyNext_zip_end (I.ok.hd hc) D g1 g2 g3 g4 g5 p.isList p'.isList ?_ fun h' kp=>⟨rfl,I.BE (t':=s.toks) (ch:=[z,TI,TO,i1,i2]) (fun b o hb g=>?_) hf⟩
   . rcases hx with e | e
     . exact .inl (by simp;omega)
     . exact .inr (by simp;omega)
   . simp only [List.mem_cons,List.not_mem_nil,or_false,not_or] at hb
     exact kp b o hb.1 hb.2.2.1 hb.2.2.2.1 hb.2.2.2.2 g
 self:=fun _ _ _ _ _ st h=>wpAny_pyIter_zip st.1 h
section
variable {X:Cx}
end
section
variable {K:PySem.W.Frag} {ta:TA} {g:TG} {tb:TS} {D:Ends} {σ:St} {H:Hp} {a b:Addr} {xs ys:List V}
end
section
variable {X:Cx}
end
mutual
def bare:PyData->Bool
 | .none=>true
 | .int i=>decide (i.natAbs.log2 < 1920)
 | .list ds=>wj ds
 | .tuple ds=>wj ds
 | _=>false
def wj:List PyData->Bool
 | []=>true
 | d::ds=>bare d&&wj ds
end
section
variable {X:Cx}
end
end L2
set_option Elab.async false
set_option linter.all false
set_option maxRecDepth 100000
namespace PySem
open Sem (wp)
theorem sV:typeLookup (.type "list") "keys"=pure none:=am_miss_of_fast (by decide +kernel)
theorem oh {prog:Program} {w:World} {A:Around} {E:Value->Shared->Prop} {s:Shared} {a:Addr} {o:Obj} {xs:Array Value} {k:Nat} {name:Str} {Q:Option Value->Shared->Prop}
   (hx:s.heap.get? a=some o) (hc:o.cls=.type "list") (uu:o.data=.seq xs k) (hd:o.dict=none) (LX:typeLookup (.type "list") name=pure none) (LY:(["__module__","__name__","__qualname__","__doc__","__annotations__"]:List Str).contains name=false) (hA:A.handled=none)
   (h:∀ h' tk e,Heap.NewExcOf s.heap h' e "AttributeError"->Q none { s with heap:=h',toks:=tk }) (hsz:name.length + 100<=sizeLine:=by size_fits):
   wpAny (model prog w) A (getAttr? (.ref a) name) Q E s:=by
 obtain ⟨c,dct,dat,sl⟩:=o
 simp only at hc uu hd
 subst hc uu hd
 obtain ⟨hp,g,d,tk,os⟩:=s
 have hT:∀ tk',(⟨hp,g,d,tk',os⟩:Shared).TypeIs (.ref a) "list":=fun _=>⟨_,hx,rfl⟩
 have f1:=sub_AttributeError
 have f3:=F.slot_list_getattribute.lookup
 have f4:=F.slot_list_getattribute.bind (.ref a)
 have f5:=am_list_getattr_none
 unfold getAttr? getAttrBy? getAttrBy
 repeat (any_goals (first | assumption | exact hT _ | ((with_reducible show wpAny _ _ (call (Value.builtin "list.__getattribute__") _ _) _ _ _);refine call_meets F.slot_list_getattribute (hT _) am_entry_list_getattribute (F.args_list_getattribute_2 _ _) (meets_getattribute_miss_list a xs k sl name _ LX LY hsz) ⟨hx,hA,fun h' tk' e hx'=>?_⟩) | wp_step))
 obtain ⟨t',u',he⟩:=hx'.there
 show wpAny _ _ (getattributeRaised _ _ _ _ _ _ _) _ _ _
 unfold getattributeRaised
 repeat (any_goals (first | assumption | wp_step))
 exact h _ _ _ hx'.of
end PySem
namespace PySem
namespace F
theorem iQ:entryFor table "dict.update.loop"=some Builtin.«dict.update.loop»:=entryFor_of_tree (by kernel_rfl)
theorem dj:plainId "dict.update.loop"=true:=by decide +kernel
end F
section
variable {prog:Program} {w:World} {A:Around} {E:Value->Shared->Prop} {s:Shared}
theorem qT {t:Addr} {k v:Value} {Q:List Value->Shared->Prop} (h:∃ o,s.heap.get? t=some o/\o.cls=.type "tuple"/\∃ n,o.data=.seq #[k,v] n) (q:Q [k,v] s):wpAny (model prog w) A (Builtin.Dict.pairItems (.ref t)) Q E s:=by
 obtain ⟨o,ho,hc,n,hd⟩:=h
 obtain ⟨c,dct,dat,sl⟩:=o
 simp only at hc hd
 subst hc hd
 obtain ⟨hp,g,d,tk,os⟩:=s
 have hT:(⟨hp,g,d,tk,os⟩:Shared).TypeIs (.ref t) "tuple":=⟨_,ho,rfl⟩
 unfold Builtin.Dict.pairItems
 refine wpAny_bind (wpAny_typeOf hT ?_)
 rw [if_pos (by decide)]
 refine wpAny_bind (wpAny_seqItems ho rfl ?_)
 exact wpAny_pure q
end
section
variable {prog:Program} {w:World} {A:Around} {R:Result->Shared->Prop} {I:Addr} {fp wr:List Addr} {G:Array GenState->Array GenState->Prop} {n:Nat} {P:Nat->Value->Prop} {St:Nat->Shared->Prop} {K:Type} [DecidableEq K] {knd:KeyKind prog w K}
end
end PySem
namespace PySem
section
variable {prog:Program} {w:World} {K:Type} [DecidableEq K] {knd:KeyKind prog w K} {A:Around} {E:Value->Shared->Prop} {s:Shared}
end
end PySem
namespace L2
open PySem PySem.Spec PyProof.Rows
section
variable {X:Cx}
theorem Et (hu:X.A.units + 64 < cLine):kU X (compareOp .In) (fun x y H Q=>∃ (a:Addr) (kvs:List (Key×V)) (k:Int),y=.ref a/\x=.int k/\H a=some (.dK kvs)/\Q (.bl (gH kvs (.inl k)).isSome) H):=by
 intro pins s σ H x y v u Q I rx ry h
 obtain ⟨a,kvs,k,rfl,rfl,e,q⟩:=h
 cases ry
 exact QD (by omega) I (oM.k (k:=.inl k) e) rx fun s' I'=>⟨.bl _,H,I',rfl,q⟩
theorem BF {o i:Expr} {td ty:TE} {pos:Pos} (hu:X.A.units + 64 < cLine) (ho:JE X o td) (hi:JE X i ty) (hs:Jh i):JE X (.Subscript o i pos) (yM td ty):=⟨GH (by omega) ho.h hi.h hs⟩
end
end L2
set_option Elab.async false
set_option linter.all false
set_option maxRecDepth 100000
namespace L2
open PySem PySem.Spec PyProof.Rows
theorem LZ {P:Program} {w:World} {k:Key} {u:Value} (h:(dM P w).is k u=true):RelV (kV k) u:=by
 rcases dm h with ⟨i,t,rfl,rfl⟩ | ⟨x,t,rfl,rfl⟩
 . exact ⟨t,rfl⟩
 . exact ⟨t,rfl⟩
section
variable {X:Cx} {pins:List (Addr×Obj)} {σ:St} {H:Hp} {s:Shared}
theorem Inv.swap {d:Addr} {u0 u1:HO} (I:Inv X pins σ H s) (e:H d=some u0) (m0:∀ xs,u0≠.tup xs) (m1:∀ o u,X.H₀ d≠some (.mh o u)) (m2:∀ ps,u0≠.Cd ps) (m3:∀ x,u0≠.own x) (new:dH X.prog X.w (upd H d u1) s.heap d u1):Inv X pins σ (upd H d u1) s where
 ok:=I.ok
 os:=I.os
 bare:=I.bare
 base:=⟨I.base.keep,I.base.slot,fun b o g n x=>by
     have z:=I.base.free b o g n x
     rw [aJ (fun q=>by rw [q,e] at z;cases z)]
     exact z,I.base.there,fun b xs g=>by
     have z:=I.base.lW b xs g
     rw [aJ (fun q=>by rw [q,e] at z;exact m0 xs (Option.some.inj z))]
     exact z,fun b o u g=>by
     have z:=I.base.kO b o u g
     rw [aJ (fun q=>by rw [q] at g;exact m1 o u g)]
     exact z,fun b ps g=>by
     obtain ⟨more,z⟩:=I.base.lX b ps g
     refine ⟨more,?_⟩
     rw [aJ (fun q=>by rw [q,e] at z;exact m2 _ (Option.some.inj z))]
     exact z⟩
 loc:=I.loc
 cell:=I.cell
 free:=by
   have z:=I.free
   rw [aJ (fun q=>by rw [q,e] at z;cases z)]
   exact z
 iN:=fun x c g=>by
   have z:=I.iN x c g
   rw [aJ (fun q=>by rw [q,e] at z;cases z)]
   exact z
 pin:=fun p hp=>by
   obtain ⟨a1,a2,a3⟩:=I.pin p hp
   refine ⟨a1,?_,a3⟩
   rw [aJ (fun q=>by rw [q,e] at a2;cases a2)]
   exact a2
 cX:=fun a o g=>by
   by_cases q:a=d
   . subst q
     rw [ah] at g
     cases g
     exact new
   . rw [aJ q] at g
     refine (I.cX a o g).nQ (fun _ _ _ z=>z) (fun b z=>?_) fun b xs z=>?_
     . rw [aJ (fun q=>by rw [q,e] at z;exact m3 _ (Option.some.inj z))]
       exact z
     . rw [aJ (fun q=>by rw [q,e] at z;exact m0 _ (Option.some.inj z))]
       exact z
 len:=I.len
theorem Inv.Eu {d:Addr} {kvs:List (Key×V)} (I:Inv X pins σ H s) (e:H d=some (.dK kvs)):∀ o u,X.H₀ d≠some (.mh o u):=fun o u z=>by
 have q:=I.base.kO d o u z
 rw [e] at q
 cases q
theorem Inv.freeze {d:Addr} {kvs:List (Key×V)} {od:Obj} (I:Inv X pins σ H s) (e:H d=some (.dK kvs)) (g:s.heap.get? d=some od):Inv X pins σ (upd H d (.mh od (.dK kvs))) s:=
 I.swap e (fun _=>nofun) (I.Eu e) (fun _=>nofun) (fun _=>nofun) ⟨g,I.cX d _ e⟩
theorem Inv.QU {d:Addr} {kvs:List (Key×V)} {od:Obj} (I:Inv X pins σ H s) (e:H d=some (.mh od (.dK kvs))) (m:∀ o u,X.H₀ d≠some (.mh o u)):Inv X pins σ (upd H d (.dK kvs)) s:=
 I.swap e (fun _=>nofun) m (fun _=>nofun) (fun _=>nofun) (I.cX d _ e).2
end
def Itd (d:Addr) (od:Obj) (kvs:List (Key×V)):It:=
 ⟨fun i H=>H d=some (.mh od (.dK kvs))/\i < kvs.length,fun i H x H'=>H'=H/\∃ p,kvs[i]?=some p/\x=kV p.1,fun i H=>H d=some (.mh od (.dK kvs))/\kvs.length<=i⟩
theorem L0 {kvs:List (Key×V)} {vs:List (Key×Value)} (r:KV kvs vs):∀ {i:Nat} {p:Key×V},kvs[i]?=some p->∃ v,vs[i]?=some (p.1,v):=by
 unfold KV at r
 induction r with
 | nil=>intro i p h;simp at h
 | @cons a b as bs h t ih=>
   intro i p e
   cases i with
   | zero=>
     simp only [List.getElem?_cons_zero,Option.some.injEq] at e ⊢
     subst e
     exact ⟨b.2,by rw [h.1]⟩
   | succ i=>
     simp only [List.getElem?_cons_succ] at e ⊢
     exact ih e
theorem Ew {P:Program} {w:World} {H:Hp} {h:Heap} {d:Addr} {od:Obj} {kvs:List (Key×V)} {es:Array DictEntry} {ep:Nat} (uu:od.data=.dict es ep) (x:dH P w H h d (.mh od (.dK kvs))):∃ vs,KV kvs vs/\h.DictAt (dM P w) d vs ep:=by
 obtain ⟨g,z,hd,vs,rel,o,es',ep',g',r1,r2,r3⟩:=x
 rw [g] at g'
 cases g'
 rw [uu] at r2
 cases r2
 exact ⟨vs,rel,od,es,g,r1,uu,r3⟩
theorem CJ {P:Program} {w:World} {K:PySem.W.Frag} {tg:Expr} {d it:Addr} {od:Obj} {kvs:List (Key×V)} {es:Array DictEntry} {ep:Nat} (uu:od.data=.dict es ep):Turn P w K tg (Itd d od kvs) [it] it (fun i h=>h.IsKeyIter it d i kvs.length ep) where
 mem:=by simp
 obj:=fun i h st b hb=>by
   have e:b=it:=by simpa using hb
   subst e
   obtain ⟨o,e,c,d⟩:=st
   exact ⟨o,e,fun v z=>by rw [d] at z;cases z⟩
 keep:=fun i h h' st k=>st.at fun o e=>k it (by simp) o e
 item:=by
   intro X hP hw hK hc i pins s σ H E I hf st hg
   subst hP hw hK
   obtain ⟨e,lt⟩:=hg
   obtain ⟨vs,rel,da⟩:=Ew uu (I.cX d _ e)
   obtain ⟨p,ep⟩:∃ p,kvs[i]?=some p:=⟨_,List.getElem?_eq_getElem lt⟩
   obtain ⟨v,ev⟩:=L0 rel ep
   obtain ⟨f0,f1,f2,f3,f4,f5⟩:=hf it (by simp)
   refine wpAny_pyNext_dict_item (kvs:=vs) (by rw [<- rel.length];exact st) da ev fun key h' hk st' sb=>?_
   have I1:Inv X pins σ H { s with heap:=h' }:=I.turned (t':=s.toks) (fun b o hb e=>(sb.2 b hb).trans e) f0 f1 f3 f4 f5
   rw [<- rel.length] at st'
   obtain ⟨o,e,c,d⟩:=id st'
   exact ⟨key,rfl,yx (s:={ s with heap:=h' }) e c d (by decide) ⟨kV p.1,H,I1,LZ hk,⟨rfl,p,ep,rfl⟩,st',fun b hb=>(hf b hb).1⟩⟩
 done:=by
   intro X hP hw hK hc i pins s σ H E I hf st hg
   subst hP hw hK
   obtain ⟨e,le⟩:=hg
   obtain ⟨vs,rel,da⟩:=Ew uu (I.cX d _ e)
   obtain ⟨f0,f1,f2,f3,f4,f5⟩:=hf it (by simp)
   exact wpAny_pyNext_dict_end (kvs:=vs) (I.ok.hd hc) (by rw [<- rel.length];exact st) da (List.getElem?_eq_none (by rw [<- rel.length];exact le)) fun h' eb=>⟨rfl,I.turned (t':=s.toks) (fun b o hb e=>eb b o hb e) f0 f1 f3 f4 f5⟩
 self:=fun _ _ _ _ _ st h=>wpAny_pyIter_keyiter st h
def GW (K:PySem.W.Frag) (td:TE) (src:List (Option Nat)) (g:TG) (tt:TT) (te:TE):TE:=fun σ H Q=>td σ H fun x H1=>∃ a kvs,x=.ref a/\H1 a=some (.dK kvs)/\∀ od D,L2.new K (upd H1 a (.mh od (.dK kvs))) D->
 cA (Itd a od kvs) g tt te D (fun H'=>H' a=some (.mh od (.dK kvs))/\Q (.ref D) (upd H' a (.dK kvs))) (pick σ src) (upd (upd H1 a (.mh od (.dK kvs))) D (.lst []))
section
variable {X:Cx} {sc:Scope} {N:List Str} {src:List (Option Nat)} {tg iter elt:Expr} {ifs:List Expr} {td:TE} {g:TG} {tt:TT} {te:TE} {pos:Pos}
theorem QV (c:j5 X sc N src) (hc:X.calm=true) (hi:JE X iter td)
   (hg:∀ C s H fp,JG (X.comp N sc C s H fp) tg g) (ht:∀ C s H fp,JF (X.comp N sc C s H fp) ifs tt) (he:∀ C s H fp,JE (X.comp N sc C s H fp) elt te)
   (hs:∀ x,foldedSetIterable iter X.env x=pure x:=by intro _;rfl):JE X (.ListComp elt [⟨tg,iter,ifs,0⟩] sc pos) (GW X.K td src g tt te):=⟨by
 intro pins s σ H Q I h
 rw [eval_ListComp]
 refine wpAny_comprehension_free (use:=none) rfl hs (kJ fun x hx hk=>?_) c.kind c.names ?_
 . obtain ⟨n,k⟩:=x
   cases hk
   exact I.ok.has _ (c.free hx)
 refine dZ (hi.h pins s σ H _ I h) fun v s1 ⟨x,H1,I1,r1,q1⟩=>?_
 obtain ⟨a,kvs,rfl,e,q⟩:=q1
 cases r1
 obtain ⟨z,hsys,vs,rel,dd⟩:=HV I1.cX e
 obtain ⟨ep,da⟩:=dd.dictAt
 obtain ⟨od,es,god,r1,uu,r⟩:=id da
 refine wpAny_pyIter_dict hsys da ?_
 have If:=I1.freeze e god
 have lt:a < s1.heap.objs.size:=Heap.lt_size god
 have I2:Inv X pins σ (upd H1 a (.mh od (.dK kvs))) { s1 with heap:=s1.heap.push { cls:=.type "dict_keyiterator",data:=.fields #[.ref a,.int 0 0,.int vs.length 0,.int ep 0] } }:=If.kept (t':=s1.toks) fun b o e=>Heap.get?_push_of_some _ e
 have f2:∀ b∈[s1.heap.objs.size],oA X pins (upd H1 a (.mh od (.dK kvs))) b:=fun b hb=>by
   have e:b=s1.heap.objs.size:=by simpa using hb
   subst e
   exact If.yw (Nat.le_refl _) (If.cX.fresh (Nat.le_refl _))
 refine sM (R:=fun acc C=>compPost (model X.prog X.w) X.A X.xe none (EP X pins σ Q) acc C) (Q:=fun v H'=>H' a=some (.mh od (.dK kvs))/\Q v (upd H' a (.dK kvs))) c hc hg ht he I2 (CJ uu) ⟨_,Heap.get?_push_size _ rfl,rfl,by rw [rel.length];rfl⟩ f2 (fun D nD=>q od D nD) fun D C s' σ' H' hC I' q=>?_
 obtain ⟨m,hn,_⟩:=id I'.loc
 refine ⟨m,hn,fun h' sb=>?_⟩
 have I3:=I2.vY f2 hC I' fun b hb=>sb.2 b hb
 exact ⟨.ref D,_,I3.QU q.1 (I1.Eu e),rfl,q.2⟩⟩
end
section
variable {prog:Program} {w:World} {A:Around} {R:Result->Shared->Prop} {s:Shared}
end
section
variable {X:Cx} {sc:Scope} {N:List Str} {src:List (Option Nat)} {tg iter kx vx:Expr} {ifs:List Expr} {wi:TI} {g:TG} {tt:TT} {tk tv:TE} {pos:Pos}
end
end L2
set_option Elab.async false
set_option linter.all false
set_option maxRecDepth 100000
set_option maxHeartbeats 4000000
namespace L2
open PySem PySem.Spec PyProof.Rows
section
variable {P:Program} {w:World} {A:Around} {E:Value->Shared->Prop} {s:Shared} {S:Addr} {vs:List (Key×Value)} {ep:Nat}
end
section
variable {X:Cx}
theorem Ex {o i value:Expr} {td ty tv:TE} {pos pos':Pos} (hu:X.A.units + 64 < cLine) (ho:JE X o td) (hi:JE X i ty) (hv:JE X value tv) (hs:swapsWith value (some (.Subscript o i pos')) pos.line X.env=pure false:=by rfl):JS X (.Assign [.Subscript o i pos'] value pos) (yN td ty tv):=⟨GI (by omega) ho.h hi.h hv.h hs⟩
end
end L2
set_option Elab.async false
set_option linter.all false
set_option maxRecDepth 100000
set_option maxHeartbeats 4000000
namespace L2
open PySem PySem.Spec PyProof.Rows
section
variable {X:Cx}
def BG (K:PySem.W.Frag):V->List V->Hp->VK->Prop:=fun x vs H Q=>∃ a b,x=.str a/\vs=[.str b]/\(b.length==0)=false/\a.length<=sizeLine/\∀ D,L2.new K H D->Q (.ref D) (upd H D (.tup [.str (Txt.partition a b).1,.str (Txt.partition a b).2.1,.str (Txt.partition a b).2.2]))
theorem gj:DV X "str.partition" (BG X.K):=by
 intro pins s σ H x vs v us Q I rx rv h
 obtain ⟨a,b,rfl,rfl,hb,ha,q⟩:=h
 obtain ⟨t,rfl⟩:=rx
 obtain ⟨u,rfl,ru⟩:=vals1 rv
 obtain ⟨t2,rfl⟩:=ru
 refine call_meets PySem.F.slot_str_partition (typeIs_str _ _ _) PySem.F.entry_str_partition (PySem.F.args_str_partition_2 _ _) (meets_str_partition a b t t2 hb ha) ?_
 have fin:∀ {p1 p2 p3:Str} {u1 u2 u3:Tok} {k:Nat},(Txt.partition a b).1=p1->(Txt.partition a b).2.1=p2->(Txt.partition a b).2.2=p3->EP X pins σ Q (.ref s.heap.objs.size) { s with toks:=k,heap:=s.heap.push { cls:=.type "tuple",data:=.seq [.str p1 u1,.str p2 u2,.str p3 u3].toArray } }:=fun {p1 p2 p3 u1 u2 u3 k} e1 e2 e3=>by
   subst e1 e2 e3
   have I2:Inv X pins σ (upd H s.heap.objs.size (.tup [.str (Txt.partition a b).1,.str (Txt.partition a b).2.1,.str (Txt.partition a b).2.2])) { s with toks:=k,heap:=s.heap.push { cls:=.type "tuple",data:=.seq [.str (Txt.partition a b).1 u1,.str (Txt.partition a b).2.1 u2,.str (Txt.partition a b).2.2 u3].toArray } }:=
     I.laid (t':=k) (fun b ob q=>Heap.get?_push_of_some _ q) (Nat.le_refl _) ⟨by show 3<=sizeLine;decide,_,.cons ⟨u1,rfl⟩ (.cons ⟨u2,rfl⟩ (.cons ⟨u3,rfl⟩ .nil)),IsTup.new _ _⟩
   exact ⟨.ref s.heap.objs.size,_,I2,rfl,q _ ⟨I.cX.fresh (Nat.le_refl _),I2.nZ ah⟩⟩
 cases e:Builtin.Str.occurrences a b 0 a.length 1 with
 | nil=>exact fin (by simp only [Txt.partition,e]) (by simp only [Txt.partition,e]) (by simp only [Txt.partition,e])
 | cons i r=>exact fin (by simp only [Txt.partition,e]) (by simp only [Txt.partition,e]) (by simp only [Txt.partition,e])
def GX:V->Option Int->Option Int->Hp->VK->Prop:=fun x lo hi H Q=>∃ a,x=.str a/\a.length<=sizeLine/\Q (.str (Txt.slice a lo hi)) H
theorem fh:N3 X GX:=by
 intro pins s σ H x v vl vu lo hi sl Q I rx hs pl pu h
 obtain ⟨a,rfl,ha,q⟩:=h
 obtain ⟨t,rfl⟩:=rx
 refine ⟨"str",_,PySem.F.slot_str_getitem.lookup,typeIs_str _ _ _,?_⟩
 have fin:∀ t' k,EP X pins σ Q (.str (Txt.slice a lo hi) t') { s with toks:=k }:=fun t' k=>⟨.str _,H,I.tok k,⟨t',rfl⟩,q⟩
 have le:=Nat.le_trans (Txt.slice_le a lo hi) ha
 cases pl with
 | none=>
   cases pu with
   | none=>exact wpAny_getItem_str_slice (l:=none) (u:=none) (st:=none) hs rfl (post_val_or_str ⟨le,fun t' k=>fin t' k⟩)
   | int j uj=>exact wpAny_getItem_str_slice (l:=none) (u:=some (j,uj)) (st:=none) hs rfl (post_val_or_str ⟨le,fun t' k=>fin t' k⟩)
 | int i ui=>
   cases pu with
   | none=>exact wpAny_getItem_str_slice (l:=some (i,ui)) (u:=none) (st:=none) hs rfl (post_val_or_str ⟨le,fun t' k=>fin t' k⟩)
   | int j uj=>exact wpAny_getItem_str_slice (l:=some (i,ui)) (u:=some (j,uj)) (st:=none) hs rfl (post_val_or_str ⟨le,fun t' k=>fin t' k⟩)
theorem Ao:kU X (binaryOp .Mult) (fun x y H Q=>∃ a n,x=.str a/\y=.int n/\MulOk a n/\Q (.str (Txt.mul a n)) H):=by
 intro pins s σ H x y v u Q I rx ry h
 obtain ⟨a,n,rfl,rfl,ok,q⟩:=h
 obtain ⟨t,rfl⟩:=rx
 obtain ⟨t2,rfl⟩:=ry
 exact SB.mul ok fun t' k=>⟨.str _,H,I.tok k,⟨t',rfl⟩,q⟩
theorem BH:∀ {ts:List Str} {its:List Value},Vals (ts.map V.str) its->∃ l:List (Str×Tok),its=strValues l/\l.map (·.1)=ts
 | [],_,r=>by rw [List.map_nil] at r;cases r;exact ⟨[],rfl,rfl⟩
 | t::ts,_,r=>by
   rw [List.map_cons] at r
   cases r with
   | cons h hr=>
     obtain ⟨u,rfl⟩:=h
     obtain ⟨l,rfl,e⟩:=BH hr
     exact ⟨(t,u)::l,rfl,by rw [List.map_cons,e]⟩
def oi (sep:Str) (ts:List Str):Nat:=ts.foldl (fun n x=>n + x.length + sep.length) 0
def rJoin (K:PySem.W.Frag):V->List V->Hp->VK->Prop:=fun x vs H Q=>∃ (sep:Str) (p:Addr) (ts:List Str),x=.str sep/\vs=[.ref p]/\bC K H p (ts.map V.str)/\oi sep ts<=sizeLine/\(Str.join sep ts).length<=sizeLine/\Q (.str (Str.join sep ts)) H
theorem lI:DV X "str.join" (rJoin X.K):=by
 intro pins s σ H x vs v us Q I rx rv h
 obtain ⟨sep,p,ts,rfl,rfl,hx,hl,hj,q⟩:=h
 obtain ⟨t,rfl⟩:=rx
 obtain ⟨u,rfl,ru⟩:=vals1 rv
 cases ru
 obtain ⟨its,r,pl,hz⟩:=I.list hx
 obtain ⟨l,rfl,el⟩:=BH r
 refine call_meets PySem.F.slot_str_join (typeIs_str _ _ _) PySem.F.entry_str_join (PySem.F.args_str_join_2 _ _) (meets_str_join_list sep t p l ?_) ⟨pl.isList,?_⟩
 . rw [el]
   unfold Builtin.Str.tooLong
   rw [List.foldl_toArray]
   simpa [oi] using hl
 . have fin:∀ t' k,EP X pins σ Q (.str (Str.join sep ts) t') { s with toks:=k }:=fun t' k=>⟨.str _,H,I.tok k,⟨t',rfl⟩,q⟩
   have eg:∀ l':List (Str×Tok),Builtin.Str.glued sep (l'.map (·.1))=Str.join sep (l'.map (·.1)):=fun l'=>StrLaws.glued_eq_join sep _
   match l,el with
   | [],el=>
     have e:=eg []
     rw [el] at e
     show _/\_
     rw [el,e]
     exact ⟨hj,fin _ _⟩
   | [pp],el=>
     have e:pp.1=Str.join sep ts:=by rw [<- el];rfl
     show wants (EP X pins σ Q) X.xe (Except.ok (Flow.ret (Value.str pp.1 pp.2))) s
     rw [e]
     exact fin _ _
   | a::b::r,el=>
     show _/\_
     rw [show Builtin.Str.glued sep ((a::b::r).map (·.1))=Str.join sep ts from by rw [<- el];exact eg _]
     exact ⟨hj,fin _ _⟩
def wk (K:PySem.W.Frag) (t:TA):TE:=fun σ H Q=>t σ H fun vs H1=>∃ j:Int,vs=[.int j]/\0<=j/\j < 100000/\∀ D,L2.new K H1 D->Q (.ref D) (upd H1 D (.lst ((List.range j.toNat).map fun i:Nat=>V.int (i:Int))))
end
end L2
set_option Elab.async false
set_option linter.all false
set_option maxRecDepth 100000
set_option maxHeartbeats 4000000
namespace L2
open PySem PySem.Spec PyProof.Rows
def Ey:Str:=Str.ofString " "
theorem CK:Ey=⟨#[32]⟩:=by decide +kernel
theorem str_len (a:Str):a.length=a.cps.toList.length:=by simp [Str.length]
theorem fP (a b:Str):(a++b).cps.toList=a.cps.toList++b.cps.toList:=by rw [Str.cps_append,Array.toList_append]
theorem Ez {x:Str} {n:Nat} (h:n<=x.length):(Txt.slice x none (some (n:Int))).cps.toList=x.cps.toList.take n:=by
 have e:Txt.slice x none (some (n:Int))=StrLaws.sliceText x none (some (n:Int)):=rfl
 rw [e,StrLaws.sliceText_to ⟨by omega,by rw [str_len] at h;omega⟩]
 simp
theorem vh:Ey.length=1:=by rw [CK];rfl
section
variable {X:Cx}
def Aq (K:PySem.W.Frag) (tk tv:TE):TE:=fun σ H Q=>∀ p,L2.new K H p->tk σ (upd H p (.dK [])) fun x H1=>tv σ H1 fun y H2=>H2 p=some (.dK [])/\∃ kv:Key×V,[(x,y)]=[(kV kv.1,kv.2)]/\Q (.ref p) (upd H2 p (.dK [kv]))
end
end L2
set_option Elab.async false
set_option linter.all false
set_option maxRecDepth 100000
set_option maxHeartbeats 4000000
namespace L2
open PySem PySem.Spec PyProof.Rows
section
variable {X:Cx}
def wm:V->List V->Hp->VK->Prop:=fun x vs H Q=>∃ (a:Addr) (kvs:List (Key×V)),x=.ref a/\vs=[]/\H a=some (.dK kvs)/\Q .cY (upd H a (.dK []))
theorem CL:gE X (.type "str") (fun xs H Q=>(∃ i,xs=[.int i]/\i.natAbs.log2 < 1920/\Q (.str (toString i)) H)∨(xs=[.cY]/\Q (.str "None") H)):=by
 intro pins s σ H xs us Q I r h
 rcases h with h | ⟨rfl,q⟩
 . exact cy pins s σ H xs us Q I r h
 . obtain ⟨u,rfl,r1⟩:=vals1 r
   cases r1
   exact PySem.P.str_of_none ⟨.str _,H,I.tok _,⟨_,rfl⟩,q⟩
end
end L2
set_option Elab.async false
set_option linter.all false
set_option maxRecDepth 100000
set_option maxHeartbeats 4000000
namespace L2
open PySem PySem.Spec PyProof.Rows
def wo (K:PySem.W.Frag):TE:=fun _ H Q=>∀ p,L2.new K H p->Q (.ref p) (upd H p (.dK []))
theorem sW {X:Cx} {pos:Pos}:JE X (.Dict [] [] pos) (wo X.K):=⟨fun pins s σ H Q I h=>
 wpAny_Dict_empty ⟨.ref s.heap.objs.size,_,I.laid (a:=s.heap.objs.size) (o:=.dK []) (t':=s.toks) (fun _ _ q=>Heap.get?_push_of_some _ q) (Nat.le_refl _) (D9 s.heap I.big),rfl,h _ I.new⟩⟩
end L2
namespace L2
open PySem PySem.Spec PyProof.Rows
section
variable {prog:Program} {w:World} {A:Around} {E:Value->Shared->Prop} {s:Shared}
theorem nextT {it t:Addr} {k:Nat} {xs:Array Value} {x:Value} {Q:Value->Shared->Prop} (hi:IsTupIter s.heap it t k) (ht:IsTup s.heap t xs) (hx:xs[k]?=some x)
   (q:∀ g,IsTupIter g it t (k + 1)->Heap.SameBut it s.heap g->Q x { s with heap:=g }):wpAny (model prog w) A (Builtin.SmallTypes.nextOf (.ref it)) Q E s:=by
 have ty:=hi.typeIs
 obtain ⟨o1,g1,c1,d1⟩:=hi
 obtain ⟨o2,g2,_,n2,d2⟩:=ht
 unfold Builtin.SmallTypes.nextOf
 refine wpAny_bind (wpAny_callSpecial?_slot (name:=Str.ofString "__next__") ty slot_tupleiter_next (wpAny_call_entry slot_tupleiter_next ty entry_tupleiter_next ?_ (args_tupleiter_next _)))
 show wpAny (model prog w) _ (field (.ref it) 0 >>=_) _ _ s
 refine wpAny_bind (wpAny_field g1 d1 (x:=Value.ref t) rfl ?_)
 show wpAny (model prog w) _ (if (Value.ref t==Value.none)=true then _ else _) _ _ s
 rw [if_neg (fun h=>by cases h)]
 show wpAny (model prog w) _ (field (.ref it) 1 >>=_) _ _ s
 refine wpAny_bind (wpAny_field g1 d1 (x:=Value.int k 0) rfl ?_)
 show wpAny (model prog w) _ (seqItems? (.ref t) >>=_) _ _ s
 refine wpAny_bind (wpAny_seqItems g2 d2 ?_)
 simp only [hx,Int.toNat_natCast]
 refine wpAny_bind (wpAny_setField g1 d1 (by simp) (wpAny_pure ⟨x,rfl,wpAny_pure (q _ ⟨_,Heap.get?_update_self _ g1 (Obj.isFreed_of_fields (Obj.data_mapFields d1 _)),(Obj.cls_mapFields ..).trans c1,?_⟩ (Heap.SameBut.update ..))⟩))
 rw [Obj.data_mapFields d1]
 simp [rawInt]
theorem CM {it t:Addr} {k:Nat} {xs:Array Value} {Q:Value->Shared->Prop} (calm:A.handled=none) (hi:IsTupIter s.heap it t k) (ht:IsTup s.heap t xs) (hx:xs[k]?=none)
   (q:∀ g e,Heap.ExtBut it s.heap g->(∃ o,g.get? e=some o/\o.cls=.type "StopIteration")->E (.ref e) { s with heap:=g }):wpAny (model prog w) A (Builtin.SmallTypes.nextOf (.ref it)) Q E s:=by
 have ty:=hi.typeIs
 obtain ⟨o1,g1,c1,d1⟩:=hi
 obtain ⟨o2,g2,_,n2,d2⟩:=ht
 unfold Builtin.SmallTypes.nextOf
 refine wpAny_bind (wpAny_callSpecial?_slot (name:=Str.ofString "__next__") ty slot_tupleiter_next (wpAny_call_entry slot_tupleiter_next ty entry_tupleiter_next ?_ (args_tupleiter_next _)))
 show wpAny (model prog w) _ (field (.ref it) 0 >>=_) _ _ s
 refine wpAny_bind (wpAny_field g1 d1 (x:=Value.ref t) rfl ?_)
 show wpAny (model prog w) _ (if (Value.ref t==Value.none)=true then _ else _) _ _ s
 rw [if_neg (fun h=>by cases h)]
 show wpAny (model prog w) _ (field (.ref it) 1 >>=_) _ _ s
 refine wpAny_bind (wpAny_field g1 d1 (x:=Value.int k 0) rfl ?_)
 show wpAny (model prog w) _ (seqItems? (.ref t) >>=_) _ _ s
 refine wpAny_bind (wpAny_seqItems g2 d2 ?_)
 simp only [hx,Int.toNat_natCast]
 refine wpAny_bind (wpAny_rule (wpAny_bind (wpAny_setField g1 d1 (by simp) ?_)))
 show wpAny (model prog w) _ (newExc (.type "StopIteration") [] >>=_) _ _ _
 refine wpAny_bind ?_
 simp only [newTuple,newExc]
 refine wpAny_bind (wpAny_newObj_type (wpAny_bind (m:=firstArgMember _ _) (wpAny_of_eq (a:=Value.none) (by first | rfl | (simp only [firstArgMember];rfl)) (wpAny_newObj_type ?_ (by size_fits)))) (by size_fits))
 simp only [raiseNew]
 refine wpAny_bind (wpAny_handled ?_)
 rw [show A.in1.handled=none from calm]
 exact wpAny_bind (wpAny_pure (wpAny_throw (q _ _ (((Heap.SameBut.update ..).extBut.push _).push _) ⟨_,Heap.get?_push_size _ rfl,rfl⟩)))
structure ZT (g:Heap) (z ti to p1 p2 t1 t2:Addr) (out:Value) (k1 k2:Nat):Prop where
 zip:IsZip g z ti to out
 its:IsPair g ti (.ref p1) (.ref p2)
 fst:IsTupIter g p1 t1 k1
 snd:IsTupIter g p2 t2 k2
theorem CN {z ti to p1 p2 t1 t2:Addr} {k1 k2:Nat} {xs ys:Array Value} {x y u v:Value} {Q:Option Value->Shared->Prop} (D:ZipApart z ti to p1 p2 t1 t2) (Z:ZT s.heap z ti to p1 p2 t1 t2 .none k1 k2) (ho:IsPair s.heap to u v)
   (h1:IsTup s.heap t1 xs) (h2:IsTup s.heap t2 ys) (hx:xs[k1]?=some x) (hy:ys[k2]?=some y)
   (q:∀ g,ZT g z ti to p1 p2 t1 t2 (rawInt s.heap.objs.size) (k1 + 1) (k2 + 1)->IsPair g to x y->IsPair g s.heap.objs.size x y->g.objs.size=s.heap.objs.size + 1->
     (∀ c o,c≠z->c≠to->c≠p1->c≠p2->s.heap.get? c=some o->g.get? c=some o)->Q (some (.ref s.heap.objs.size)) { s with heap:=g }):
   wpAny (model prog w) A (pyNext (.ref z)) Q E s:=by
 have ty:s.TypeIs (.ref z) "zip":=⟨_,Z.zip,rfl⟩
 unfold pyNext
 refine wpAny_bind (wpAny_attempt (wpAny_callSpecial?_slot (name:=Str.ofString "__next__") ty F.slot_zip_next (wpAny_call_entry F.slot_zip_next ty F.entry_zip_next ?_ (F.args_zip_next_1 _))))
 show wpAny (model prog w) _ (field (.ref z) 2 >>=_) _ _ _
 refine wpAny_bind (wpAny_field Z.zip rfl (x:=Value.bool false) rfl ?_)
 show wpAny (model prog w) _ (field (.ref z) 3 >>=_) _ _ _
 refine wpAny_bind (wpAny_field Z.zip rfl (x:=Value.ref ti) rfl (wpAny_bind (wpAny_seqItems Z.its rfl ?_)))
 show wpAny (model prog w) _ (Builtin.SmallTypes.ownedTupleIsFree (.ref z) >>=_) _ _ _
 refine wpAny_bind ?_
 unfold Builtin.SmallTypes.ownedTupleIsFree
 refine wpAny_bind (wpAny_field Z.zip rfl (x:=Value.none) rfl (wpAny_pure ?_))
 rw [if_pos rfl]
 refine wpAny_bind (wpAny_rule (wpAny_bind (wpAny_field Z.zip rfl (x:=Value.ref to) rfl (wpAny_bind (wpAny_setField_rec Z.zip (by simp) fun a1 az as=>?_)))))
 replace az:IsZip a1 z ti to .ellipsis:=az
 refine wpAny_bind ?_
 simp only [List.forIn_nil,List.forIn_cons,List.zipIdx_nil,List.zipIdx_cons]
 refine wpAny_bind (wpAny_bind (wpAny_onRaise ?_))
 show wpAny (model prog w) _ (Builtin.SmallTypes.nextOf (.ref p1) >>=_) _ _ _
 refine wpAny_bind (nextT (Z.fst.extBut as.extBut D.i1z) (h1.extBut as.extBut D.l1z) hx fun a2 bi bs=>wpAny_pure ?_)
 have bo:IsPair a2 to u v:=bs.extBut _ _ D.TOi1 (as.extBut _ _ D.TOz ho)
 refine wpAny_bind (wpAny_seqItems bo rfl (wpAny_bind (wpAny_updateSeq_pair bo fun a3 co cs=>?_)))
 replace co:IsPair a3 to x v:=co
 refine wpAny_bind (wpAny_letGo (wpAny_pure (wpAny_bind (wpAny_bind (wpAny_onRaise ?_)))))
 show wpAny (model prog w) _ (Builtin.SmallTypes.nextOf (.ref p2) >>=_) _ _ _
 refine wpAny_bind (nextT (((Z.snd.extBut as.extBut D.i2z).extBut bs.extBut D.i12.symm).extBut cs.extBut D.TOi2.symm) (((h2.extBut as.extBut D.l2z).extBut bs.extBut D.l2i1).extBut cs.extBut D.l2TO) hy fun a4 di ds=>wpAny_pure ?_)
 have dO:IsPair a4 to x v:=ds.extBut _ _ D.TOi2 co
 refine wpAny_bind (wpAny_seqItems dO rfl (wpAny_bind (wpAny_updateSeq_pair dO fun a5 eo es=>?_)))
 replace eo:IsPair a5 to x y:=eo
 refine wpAny_bind (wpAny_letGo (wpAny_pure (wpAny_pure (wpAny_bind (wpAny_seqItems eo rfl (wpAny_bind (wpAny_newTuple ?_)))))))
 have n5:a5.objs.size=s.heap.objs.size:=by rw [es.1,ds.1,cs.1,bs.1,as.1]
 have ez:IsZip a5 z ti to .ellipsis:=es.extBut _ _ D.TOz.symm (ds.extBut _ _ D.i2z.symm (cs.extBut _ _ D.TOz.symm (bs.extBut _ _ D.i1z.symm az)))
 have Ic:∀ c o,c≠z->c≠to->c≠p1->c≠p2->s.heap.get? c=some o->a5.get? c=some o:=fun c o e1 e2 e3 e4 e=>
   es.extBut _ _ e2 (ds.extBut _ _ e4 (cs.extBut _ _ e2 (bs.extBut _ _ e3 (as.extBut _ _ e1 e))))
 have f5:IsTupIter a5 p1 t1 (k1 + 1):=((bi.extBut cs.extBut D.TOi1.symm).extBut ds.extBut D.i12).extBut es.extBut D.TOi1.symm
 have s5:IsTupIter a5 p2 t2 (k2 + 1):=di.extBut es.extBut D.TOi2.symm
 have lz:z < a5.objs.size:=Heap.lt_size ez
 show wpAny (model prog w) _ (Builtin.SmallTypes.ownedTupleHandOut (.ref z) (.ref a5.objs.size) >>=_) _ _ _
 refine wpAny_bind ?_
 unfold Builtin.SmallTypes.ownedTupleHandOut
 refine wpAny_bind (wpAny_setField_rec (show IsZip (a5.push { cls:=.type "tuple",data:=.seq #[x,y] }) z ti to .ellipsis from Heap.get?_push_of_some _ ez) (by simp) fun a7 gz gs=>?_)
 replace gz:IsZip a7 z ti to (rawInt a5.objs.size):=gz
 refine wpAny_setField_rec gz (by simp) fun a8 iz js=>?_
 replace iz:IsZip a8 z ti to (rawInt a5.objs.size):=iz
 have on:∀ c o,c≠z->a5.get? c=some o->a8.get? c=some o:=fun c o ne e=>js.extBut _ _ ne (gs.extBut _ _ ne (Heap.get?_push_of_some _ e))
 have T8:IsPair a8 a5.objs.size x y:=js.extBut _ _ (Nat.ne_of_gt lz) (gs.extBut _ _ (Nat.ne_of_gt lz) (Heap.get?_push_size _ rfl))
 have n8:a8.objs.size=a5.objs.size + 1:=by rw [js.1,gs.1,Heap.size_push]
 rw [n5] at iz T8 n8
 refine wpAny_pure ⟨_,rfl,wpAny_pure ?_⟩
 show Q (some (.ref a5.objs.size)) _
 rw [n5]
 have at_:∀ {p t:Addr} {k:Nat},p≠z->IsTupIter a5 p t k->IsTupIter a8 p t k:=fun ne h=>let ⟨o,e,r⟩:=h;⟨o,on _ o ne e,r⟩
 exact q a8 ⟨iz,on _ _ D.TIz (Ic _ _ D.TIz D.TITO D.TIi1 D.TIi2 Z.its),at_ D.i1z f5,at_ D.i2z s5⟩ (on _ _ D.TOz eo) T8 n8 fun c o e1 e2 e3 e4 e=>on c o e1 (Ic c o e1 e2 e3 e4 e)
theorem EA {z ti to p1 p2 t1 t2:Addr} {k1 k2:Nat} {xs:Array Value} {u v:Value} {Q:Option Value->Shared->Prop} (calm:A.handled=none) (D:ZipApart z ti to p1 p2 t1 t2) (Z:ZT s.heap z ti to p1 p2 t1 t2 .none k1 k2) (ho:IsPair s.heap to u v)
   (h1:IsTup s.heap t1 xs) (hx:xs[k1]?=none) (q:∀ g,(∀ c o,c≠z->c≠p1->s.heap.get? c=some o->g.get? c=some o)->Q none { s with heap:=g }):wpAny (model prog w) A (pyNext (.ref z)) Q E s:=by
 have ty:s.TypeIs (.ref z) "zip":=⟨_,Z.zip,rfl⟩
 unfold pyNext
 refine wpAny_bind (wpAny_attempt (wpAny_callSpecial?_slot (name:=Str.ofString "__next__") ty F.slot_zip_next (wpAny_call_entry F.slot_zip_next ty F.entry_zip_next ?_ (F.args_zip_next_1 _))))
 show wpAny (model prog w) _ (field (.ref z) 2 >>=_) _ _ _
 refine wpAny_bind (wpAny_field Z.zip rfl (x:=Value.bool false) rfl ?_)
 show wpAny (model prog w) _ (field (.ref z) 3 >>=_) _ _ _
 refine wpAny_bind (wpAny_field Z.zip rfl (x:=Value.ref ti) rfl (wpAny_bind (wpAny_seqItems Z.its rfl ?_)))
 show wpAny (model prog w) _ (Builtin.SmallTypes.ownedTupleIsFree (.ref z) >>=_) _ _ _
 refine wpAny_bind ?_
 unfold Builtin.SmallTypes.ownedTupleIsFree
 refine wpAny_bind (wpAny_field Z.zip rfl (x:=Value.none) rfl (wpAny_pure ?_))
 rw [if_pos rfl]
 refine wpAny_bind (wpAny_rule (wpAny_bind (wpAny_field Z.zip rfl (x:=Value.ref to) rfl (wpAny_bind (wpAny_setField_rec Z.zip (by simp) fun a1 az as=>?_)))))
 replace az:IsZip a1 z ti to .ellipsis:=az
 refine wpAny_bind ?_
 simp only [List.forIn_nil,List.forIn_cons,List.zipIdx_nil,List.zipIdx_cons]
 refine wpAny_bind (wpAny_bind (wpAny_onRaise ?_))
 show wpAny (model prog w) _ (Builtin.SmallTypes.nextOf (.ref p1) >>=_) _ _ _
 refine wpAny_bind (CM calm (Z.fst.extBut as.extBut D.i1z) (h1.extBut as.extBut D.l1z) hx fun a2 e bs he=>?_)
 obtain ⟨oe,ge,ce⟩:=he
 have bz:IsZip a2 z ti to .ellipsis:=bs _ _ D.i1z.symm az
 have ez:e≠z:=fun z'=>by subst z';rw [bz] at ge;cases ge;simp at ce
 refine wpAny_setField_rec bz (by simp) fun a3 _ cs=>wpAny_bind (wpAny_isInstance (T:="StopIteration") (b:=true) ⟨oe,cs.extBut _ _ ez ge,ce⟩ isSubtype_stop (wpAny_pure (q a3 fun c o e1 e2 e=>cs.extBut _ _ e1 (bs _ _ e2 (as.extBut _ _ e1 e)))))
abbrev yV (t:Addr):Obj:={ cls:=.type "tuple_iterator",data:=.fields #[.ref t,.int 0 0] }
abbrev Oa (h:Heap) (t1 t2:Addr):Heap:=(h.push (yV t1)).push (yV t2)
abbrev Ob (h:Heap) (t1 t2:Addr):Heap:=(Oa h t1 t2).push { cls:=.type "tuple",data:=.seq #[.ref h.objs.size,.ref (h.push (yV t1)).objs.size] }
abbrev Oc (h:Heap) (t1 t2:Addr):Heap:=(Ob h t1 t2).push { cls:=.type "tuple",data:=.seq #[.none,.none] }
abbrev K5 (h:Heap) (t1 t2:Addr):Heap:=(Oc h t1 t2).push { cls:=.type "zip",data:=.fields #[.none,.bool false,.bool false,.ref (Oa h t1 t2).objs.size,.ref (Ob h t1 t2).objs.size] }
theorem EB (t1 t2:Addr) (xs ys:Array Value):Meets (Builtin.«zip.__new__» ⟨[.type "zip",.ref t1,.ref t2],[]⟩) (fun _ R s=>IsTup s.heap t1 xs/\IsTup s.heap t2 ys/\R (.ok (.ret (.ref (Oc s.heap t1 t2).objs.size))) { s with heap:=K5 s.heap t1 t2 }):=
 .of_wp fun prog w A R s h=>by
   obtain ⟨h0,gn,dr,tk,os⟩:=s
   obtain ⟨e1,e2,h⟩:=h
   have sub:=sub_zip
   have f1:IsTup (Shared.heap ⟨h0,gn,dr,tk,os⟩) t1 xs:=e1
   have f2:IsTup (Shared.heap ⟨h0.push (yV t1),gn,dr,tk,os⟩) t2 ys:=e2.push _
   wp_walk using iter_tuple f1,iter_tuple f2
   exact ⟨_,rfl,h⟩
theorem CO {t1 t2:Addr} {xs ys:Array Value} {Q:Value->Shared->Prop} (h1:IsTup s.heap t1 xs) (h2:IsTup s.heap t2 ys)
   (q:∀ g,ZT g (s.heap.objs.size + 4) (s.heap.objs.size + 2) (s.heap.objs.size + 3) s.heap.objs.size (s.heap.objs.size + 1) t1 t2 .none 0 0->IsPair g (s.heap.objs.size + 3) .none .none->(∀ c o,s.heap.get? c=some o->g.get? c=some o)->Q (.ref (s.heap.objs.size + 4)) { s with heap:=g }):
   wpAny (model prog w) A (call (.type "zip") [.ref t1,.ref t2]) Q E s:=by
 refine callType_new F.called_zip (by decide) (F.typeCall_zip_2 _ _) (F.newCall_zip_2 _ _) (fun o=>F.args_object_init_3 o _ _) F.entry_zip_new (EB t1 t2 xs ys) ⟨h1,h2,?_⟩
 have z1:(s.heap.push (yV t1)).objs.size=s.heap.objs.size + 1:=Heap.size_push ..
 have z2:(Oa s.heap t1 t2).objs.size=s.heap.objs.size + 2:=by rw [Heap.size_push,Heap.size_push]
 have z3:(Ob s.heap t1 t2).objs.size=s.heap.objs.size + 3:=by rw [Heap.size_push,z2]
 have z4:(Oc s.heap t1 t2).objs.size=s.heap.objs.size + 4:=by rw [Heap.size_push,z3]
 have e5:(K5 s.heap t1 t2).get? (Oc s.heap t1 t2).objs.size=some _:=Heap.get?_push_size _ rfl
 have e4:(K5 s.heap t1 t2).get? (Ob s.heap t1 t2).objs.size=some _:=Heap.get?_push_of_some _ (Heap.get?_push_size _ rfl)
 have e3:(K5 s.heap t1 t2).get? (Oa s.heap t1 t2).objs.size=some _:=Heap.get?_push_of_some _ (Heap.get?_push_of_some _ (Heap.get?_push_size _ rfl))
 have e2:(K5 s.heap t1 t2).get? (s.heap.push (yV t1)).objs.size=some (yV t2):=Heap.get?_push_of_some _ (Heap.get?_push_of_some _ (Heap.get?_push_of_some _ (Heap.get?_push_size _ rfl)))
 have e1:(K5 s.heap t1 t2).get? s.heap.objs.size=some (yV t1):=Heap.get?_push_of_some _ (Heap.get?_push_of_some _ (Heap.get?_push_of_some _ (Heap.get?_push_of_some _ (Heap.get?_push_size _ rfl))))
 rw [z2,z3,z4] at e5
 rw [z1,z2] at e3
 rw [z3] at e4
 rw [z1] at e2
 show _/\_
 rw [z4]
 exact ⟨⟨_,e5,rfl⟩,q _ ⟨e5,e3,⟨_,e1,rfl,rfl⟩,⟨_,e2,rfl,rfl⟩⟩ e4 fun c o x=>Heap.get?_push_of_some _ (Heap.get?_push_of_some _ (Heap.get?_push_of_some _ (Heap.get?_push_of_some _ (Heap.get?_push_of_some _ x))))⟩
end
def Ar (K:PySem.W.Frag) (a b:Addr):It:=⟨fun i H=>∃ xs ys x y,mw K H a xs/\mw K H b ys/\xs[i]?=some x/\ys[i]?=some y,fun i H x H'=>∃ T v u,L2.new K H T/\(∀ xs,mw K H a xs->xs[i]?=some v)/\(∀ ys,mw K H b ys->ys[i]?=some u)/\x=.ref T/\H'=upd H T (.tup [v,u]),fun i H=>∃ xs,mw K H a xs/\xs.length<=i⟩
theorem CP {P:Program} {w:World} {K:PySem.W.Frag} {es:List Expr} {k:Nat} {tp:Pos} (a b z ti to p1 p2:Addr) (D:ZipApart z ti to p1 p2 a b):Turn P w K (.Tuple es k tp) (Ar K a b) [z,ti,to,p1,p2] z
   (fun i h=>ZT h z ti to p1 p2 a b .none i i/\∃ p q,IsPair h to p q) where
 mem:=by simp
 obj:=fun i h st c hc=>by
   obtain ⟨⟨g1,g2,⟨o4,g4,c4,d4⟩,⟨o5,g5,c5,d5⟩⟩,p,q,g3⟩:=st
   simp only [List.mem_cons,List.not_mem_nil,or_false] at hc
   rcases hc with rfl | rfl | rfl | rfl | rfl
   . exact ⟨_,g1,fun v z=>by cases z⟩
   . exact ⟨_,g2,fun v z=>by cases z⟩
   . exact ⟨_,g3,fun v z=>by cases z⟩
   . exact ⟨o4,g4,fun v z=>by rw [d4] at z;cases z⟩
   . exact ⟨o5,g5,fun v z=>by rw [d5] at z;cases z⟩
 keep:=fun i h h' st kk=>by
   obtain ⟨⟨g1,g2,⟨o4,g4,r4⟩,⟨o5,g5,r5⟩⟩,p,q,g3⟩:=st
   exact ⟨⟨kk z (by simp) _ g1,kk ti (by simp) _ g2,⟨o4,kk p1 (by simp) _ g4,r4⟩,⟨o5,kk p2 (by simp) _ g5,r5⟩⟩,p,q,kk to (by simp) _ g3⟩
 item:=by
   intro X hP hw hK hc i pins s σ H E I hf st hg
   subst hP hw hK
   obtain ⟨xs,ys,x,y,hq,hq',hx,hy⟩:=hg
   obtain ⟨its,rv,p,hz⟩:=I.tuple hq
   obtain ⟨its',rv',p',hz'⟩:=I.tuple hq'
   obtain ⟨u,hu,ru⟩:=rv.get hx
   obtain ⟨u',hu',ru'⟩:=rv'.get hy
   obtain ⟨Z,a',b',g3⟩:=st
   refine CN D Z g3 p p' (x:=u) (y:=u') (by simpa using hu) (by simpa using hu') fun h1 Z1 hO gT sz kp=>?_
   refine ⟨_,rfl,wpAny_letOwnedTupleGo_zip Z1.zip fun h2 hz2 sb=>?_⟩
   have ltZ:z < s.heap.objs.size:=Heap.lt_size Z.zip
   have LW:h2.get? s.heap.objs.size=some { cls:=.type "tuple",data:=.seq #[u,u'] }:=(sb.2 _ (Nat.ne_of_gt ltZ)).trans gT
   have I1:Inv X pins σ (upd H s.heap.objs.size (.tup [x,y])) { s with heap:=h2,toks:=s.toks }:=by
     refine I.wg (ch:=[z,ti,to,p1,p2]) (fun b o hb g=>?_) hf (Nat.le_refl _) ⟨(show 2<=sizeLine by decide),[u,u'],.cons ru (.cons ru' .nil),_,LW,rfl,_,rfl⟩
     simp only [List.mem_cons,List.not_mem_nil,or_false,not_or] at hb
     exact (sb.2 b hb.1).trans (kp b o hb.1 hb.2.2.1 hb.2.2.2.1 hb.2.2.2.2 g)
   have kT:∀ c o,c≠z->h1.get? c=some o->h2.get? c=some o:=fun c o n g=>(sb.2 c n).trans g
   have itT:∀ {p t:Addr} {k:Nat},p≠z->IsTupIter h1 p t k->IsTupIter h2 p t k:=fun ne h=>let ⟨o,e,r⟩:=h;⟨o,kT _ o ne e,r⟩
   refine ⟨.ref s.heap.objs.size,_,I1,rfl,⟨_,x,y,⟨I.cX.fresh (Nat.le_refl _),I1.nZ ah⟩,fun ys hy=>by rw [I.pW hy hq];exact hx,fun zs hy'=>by rw [I.pW hy' hq'];exact hy,rfl,rfl⟩,
     ⟨⟨hz2,kT _ _ D.TIz Z1.its,itT D.i1z Z1.fst,itT D.i2z Z1.snd⟩,_,_,kT _ _ D.TOz hO⟩,fun c hc=>?_⟩
   have QT:c < s.heap.objs.size:=by
     obtain ⟨_,g2,⟨o4,e4,_⟩,⟨o5,e5,_⟩⟩:=Z
     simp only [List.mem_cons,List.not_mem_nil,or_false] at hc
     rcases hc with rfl | rfl | rfl | rfl | rfl
     . exact ltZ
     . exact Heap.lt_size g2
     . exact Heap.lt_size g3
     . exact Heap.lt_size e4
     . exact Heap.lt_size e5
   rw [aJ (Nat.ne_of_lt QT)]
   exact (hf c hc).1
 done:=by
   intro X hP hw hK hc i pins s σ H E I hf st hg
   subst hP hw hK
   obtain ⟨xs,hq,hx⟩:=hg
   obtain ⟨its,rv,p,hz⟩:=I.tuple hq
   obtain ⟨Z,a',b',g3⟩:=st
   have hl:=rv.length
   refine EA (I.ok.hd hc) D Z g3 p (by simp;omega) fun h' kp=>⟨rfl,I.BE (t':=s.toks) (ch:=[z,ti,to,p1,p2]) (fun b o hb g=>?_) hf⟩
   simp only [List.mem_cons,List.not_mem_nil,or_false,not_or] at hb
   exact kp b o hb.1 hb.2.2.2.1 g
 self:=fun _ _ _ _ _ st h=>wpAny_pyIter_zip st.1.zip h
section
variable {X:Cx}
def EC (K:PySem.W.Frag) (tl:TA):TI:=fun σ H R=>tl σ H fun vs H1=>∃ a b,vs=[.ref a,.ref b]/\(((∃ xs,bC K H1 a xs)/\(∃ ys,bC K H1 b ys)/\R (Ib K a b) H1)∨((∃ xs,mw K H1 a xs)/\(∃ ys,mw K H1 b ys)/\R (Ar K a b) H1))
theorem Ie {K:PySem.W.Frag} {l l':Expr} {t:TA} {es:List Expr} {k:Nat} {p pos tp:Pos} (hg:Gl X "zip") (hm:X.mg "zip"=none) (ha:JA X [l,l'] t) (hs:starEach [l,l'] X.env=(false,eval l X.env)::starEach [l'] X.env:=by rfl) (hs2:(backTo pos (starEach [l'] X.env)).any (·.1)=false:=by rfl) (hk:X.K=K:=by rfl):
   JI X (.Tuple es k tp) (.Call (.Name "zip" p) [l,l'] [] pos) (EC K t):=⟨by
 subst hk
 intro pins s σ H R I h
 refine Call_ (pV I hg hm Jm (PyProof.Rows.callWith_type1 (dZ (ha.h pos pins s σ H _ I h) fun us s1 ⟨vs,H1,I1,r1,q1⟩=>?_) hs hs2))
 have Od:∀ b,b∈[s1.heap.objs.size + 4,s1.heap.objs.size + 2,s1.heap.objs.size + 3,s1.heap.objs.size,s1.heap.objs.size + 1]->s1.heap.objs.size<=b:=by
   intro b hb
   simp only [List.mem_cons,List.not_mem_nil,or_false] at hb
   omega
 obtain ⟨a,b,rfl,⟨⟨xs,hx⟩,⟨ys,hy⟩,q⟩ | ⟨⟨xs,hx⟩,⟨ys,hy⟩,q⟩⟩:=q1
 . obtain ⟨u,u',rfl,ru,ru'⟩:=vals2 r1
   cases ru
   cases ru'
   obtain ⟨its,rv,ht,hz⟩:=I1.list hx
   obtain ⟨its',rv',ht',hz'⟩:=I1.list hy
   have la:a < s1.heap.objs.size:=by obtain ⟨_,e,_⟩:=ht.isList;exact Heap.lt_size e
   have lb:b < s1.heap.objs.size:=by obtain ⟨_,e,_⟩:=ht'.isList;exact Heap.lt_size e
   refine call_zip_2 ht.isList ht'.isList fun h2 g1 g2 g3 g4 g5 sz kp=>?_
   exact wpAny_pyIter_zip g1 ⟨_,[s1.heap.objs.size + 4,s1.heap.objs.size + 2,s1.heap.objs.size + 3,s1.heap.objs.size,s1.heap.objs.size + 1],_,Ib X.K a b,H1,rfl,I1.kept (t':=s1.toks) kp,Es a b _ _ _ _ _ (zipApart_new la lb),⟨g1,g2,⟨_,_,g3⟩,g4,g5⟩,fun b hb=>I1.yw (Od b hb) (I1.cX.fresh (Od b hb)),q⟩
 . obtain ⟨u,u',rfl,ru,ru'⟩:=vals2 r1
   cases ru
   cases ru'
   obtain ⟨its,rv,ht,hz⟩:=I1.tuple hx
   obtain ⟨its',rv',ht',hz'⟩:=I1.tuple hy
   refine CO ht ht' fun h2 Z g3 kp=>?_
   exact wpAny_pyIter_zip Z.zip ⟨_,[s1.heap.objs.size + 4,s1.heap.objs.size + 2,s1.heap.objs.size + 3,s1.heap.objs.size,s1.heap.objs.size + 1],_,Ar X.K a b,H1,rfl,I1.kept (t':=s1.toks) kp,CP a b _ _ _ _ _ (zipApart_new ht.lt ht'.lt),⟨Z,_,_,g3⟩,fun b hb=>I1.yw (Od b hb) (I1.cX.fresh (Od b hb)),q⟩⟩
end
section
variable {K:PySem.W.Frag} {g:TG} {tt:TT} {te:TE} {D:Addr} {σ:St} {H:Hp} {Q:Hp->Prop} {a b:Addr} {xs ys:List V}
theorem sX {ta:TA} {src:List (Option Nat)} {Q:VK}:HZ K (EC K ta) src g tt te σ H Q=ta σ H (fun vs H1=>∃ a b,vs=[.ref a,.ref b]/\(((∃ xs,bC K H1 a xs)/\(∃ ys,bC K H1 b ys)/\∀ D,L2.new K H1 D->cA (Ib K a b) g tt te D (fun H'=>Q (.ref D) H') (pick σ src) (upd H1 D (.lst [])))∨
   ((∃ xs,mw K H1 a xs)/\(∃ ys,mw K H1 b ys)/\∀ D,L2.new K H1 D->cA (Ar K a b) g tt te D (fun H'=>Q (.ref D) H') (pick σ src) (upd H1 D (.lst []))))):=rfl
theorem Jz (Pv:Nat->List V->St->Hp->Prop) (el:xs.length=ys.length) (h0:Pv 0 [] σ H) (hl:∀ i acc σ H,i<=xs.length->Pv i acc σ H->bC K H a xs/\bC K H b ys)
   (hs:∀ i x y acc σ H T,xs[i]?=some x->ys[i]?=some y->Pv i acc σ H->L2.new K H T->g (.ref T) σ (upd H T (.tup [x,y])) fun σ2 H2=>tt σ2 H2 fun b H3=>if b=true then te σ2 H3 fun v H4=>H4 D=some (.lst acc)/\acc.length < sizeLine/\Pv (i + 1) (acc++[v]) σ2 (upd H4 D (.lst (acc++[v]))) else Pv (i + 1) acc σ2 H3)
   (hd:∀ acc σ H,Pv xs.length acc σ H->Q H):cA (Ib K a b) g tt te D Q σ H:=by
 refine mS (n:=xs.length) Pv h0 (fun i acc σ H hi h=>?_) (fun acc σ H h=>?_) (fun i acc σ H x H' hi h hy=>?_) hd
 . obtain ⟨q1,q2⟩:=hl i acc σ H (Nat.le_of_lt hi) h
   exact ⟨xs,ys,xs[i],ys[i]'(by omega),q1,q2,by simp [hi],by simp [<- el,hi]⟩
 . obtain ⟨q1,q2⟩:=hl _ acc σ H (Nat.le_refl _) h
   exact ⟨xs,ys,q1,q2,.inl (Nat.le_refl _)⟩
 . obtain ⟨q1,q2⟩:=hl i acc σ H (Nat.le_of_lt hi) h
   obtain ⟨T,v,u,nT,hv,hu,rfl,rfl⟩:=hy
   exact hs i v u acc σ H T (hv xs q1) (hu ys q2) h nT
theorem GY (Pv:Nat->List V->St->Hp->Prop) (el:xs.length=ys.length) (h0:Pv 0 [] σ H) (hl:∀ i acc σ H,i<=xs.length->Pv i acc σ H->mw K H a xs/\mw K H b ys)
   (hs:∀ i x y acc σ H T,xs[i]?=some x->ys[i]?=some y->Pv i acc σ H->L2.new K H T->g (.ref T) σ (upd H T (.tup [x,y])) fun σ2 H2=>tt σ2 H2 fun b H3=>if b=true then te σ2 H3 fun v H4=>H4 D=some (.lst acc)/\acc.length < sizeLine/\Pv (i + 1) (acc++[v]) σ2 (upd H4 D (.lst (acc++[v]))) else Pv (i + 1) acc σ2 H3)
   (hd:∀ acc σ H,Pv xs.length acc σ H->Q H):cA (Ar K a b) g tt te D Q σ H:=by
 refine mS (n:=xs.length) Pv h0 (fun i acc σ H hi h=>?_) (fun acc σ H h=>?_) (fun i acc σ H x H' hi h hy=>?_) hd
 . obtain ⟨q1,q2⟩:=hl i acc σ H (Nat.le_of_lt hi) h
   exact ⟨xs,ys,xs[i],ys[i]'(by omega),q1,q2,by simp [hi],by simp [<- el,hi]⟩
 . obtain ⟨q1,q2⟩:=hl _ acc σ H (Nat.le_refl _) h
   exact ⟨xs,q1,Nat.le_refl _⟩
 . obtain ⟨q1,q2⟩:=hl i acc σ H (Nat.le_of_lt hi) h
   obtain ⟨T,v,u,nT,hv,hu,rfl,rfl⟩:=hy
   exact hs i v u acc σ H T (hv xs q1) (hu ys q2) h nT
end
section
variable {X:Cx}
theorem ql:gE X (.builtin "len") (fun xs H Q=>(∃ p ys,xs=[.ref p]/\oS X.K H p=some ys/\Q (.int ys.length) H)∨∃ a kvs,xs=[V.ref a]/\H a=some (.dK kvs)/\Q (.int kvs.length) H):=by
 intro pins s σ H xs us Q I r h
 rcases h with h | h
 . exact bE pins s σ H xs us Q I r h
 . exact CC pins s σ H xs us Q I r h
end
end L2
set_option Elab.async false
set_option linter.all false
set_option maxRecDepth 100000
set_option maxHeartbeats 4000000
namespace L2
open PySem PySem.Spec PyProof.Rows
def BI (P:Program) (w:World):uT:=fun outer H s E e s'=>∃ (a:Addr) (cls a0:Value) (B:Heap) (H':Hp),e=.ref a/\s'.os=s.os/\AllBare s'.gens/\Heap.FlyingW B outer a cls a0 s'.heap/\Un (nh outer) [] H H' s.heap s'.heap/\
 (∀ b o,s.heap.get? b=some o->H b=none->b∉nh outer->B.get? b=some o)/\(∀ b o,s.heap.get? b=some o->b∉nh outer->∃ o',B.get? b=some o')/\nE P w H' B/\s.heap.get? a=none/\E cls none H'
theorem JC {P:Program} {w:World} {H:Hp} {h:Heap} {a:Addr} {o:HO} (x:dH P w H h a o):∃ u,h.get? a=some u:=by
 cases o with
 | lst xs=>obtain ⟨_,_,_,_,e⟩:=x;exact ⟨_,e⟩
 | tup xs=>obtain ⟨_,_,_,u,e,_⟩:=x;exact ⟨_,e⟩
 | dK kvs=>obtain ⟨_,_,_,_,o,_,_,e,_⟩:=x;exact ⟨_,e⟩
 | dT kvs=>obtain ⟨_,_,_,_,o,_,_,e,_⟩:=x;exact ⟨_,e⟩
 | set S n=>obtain ⟨o,_,_,_,e,_⟩:=x;exact ⟨_,e⟩
 | ins C dx fs=>obtain ⟨_,_,_,e,_⟩:=x;exact ⟨_,e⟩
 | own y=>exact x
 | xd fs=>obtain ⟨_,⟨_,_,_,e,_⟩,_⟩:=x;exact ⟨_,e⟩
 | NT lo hi=>obtain ⟨_,_,_,e⟩:=x;exact ⟨_,e⟩
 | mh ob u=>obtain ⟨e,_⟩:=x;exact ⟨_,e⟩
 | Cd ps=>exact ⟨_,(show h.get? a=some _ from x)⟩
 | met f y=>exact ⟨_,(show h.get? a=some _ from x)⟩
 | ext φ=>exact x.2.1
section
variable {X:Cx} {E:XK}
theorem GZ {pins:List (Addr×Obj)} {σ:St} {H H':Hp} {s:Shared} {h1 h2 B:Heap} {a:Addr} {cls a0:Value} {os:OsState} {g:Array GenState} {d:Drawn} {t:Nat} (um:X.stack=X.env::X.outer) (hex:X.ex=[])
   (I:Inv X pins σ H s) (ho:os=s.os) (hg:AllBare g) (fl:Heap.FlyingW B X.outer a cls a0 h2) (up:h1.UpToSlots h2)
   (un:Un (nh X.stack) [] H H' s.heap h1) (kb:∀ b o,s.heap.get? b=some o->H b=none->b∉nh X.stack->B.get? b=some o)
   (tb:∀ b o,s.heap.get? b=some o->b∉nh X.stack->∃ o',B.get? b=some o') (cX:nE X.prog X.w H' B) (na:s.heap.get? a=none) (hE:E cls none H'):
   BI X.prog X.w X.outer X.H₀ X.s₀ E (.ref a) ⟨h2,g,d,t,os⟩:=by
 have nx:∀ b:Addr,b∉X.ex:=fun b=>by rw [hex];simp
 have ne:∀ b o,X.s₀.heap.get? b=some o->b∉nh X.outer->b∉nh X.stack:=fun b o e n z=>by
   rcases List.mem_cons.mp (I.sq b z) with q | q
   . have h1:=I.ok.above
     rw [<- q] at h1
     exact absurd (Nat.lt_of_lt_of_le (Heap.lt_size e) h1) (Nat.lt_irrefl _)
   . exact n q
 have inS:∀ b,b∈nh X.outer->b∈nh X.stack:=fun b hb=>by
   rw [um]
   unfold nh at hb ⊢
   rw [List.filterMap_cons]
   split
   . exact hb
   . exact List.mem_cons_of_mem _ hb
 refine ⟨a,cls,a0,B,H',rfl,ho.trans I.os,hg,fl,⟨fun b o e n hb _=>?_,fun b o e n hb _=>?_,fun b o e n _=>?_,fun b o e _=>?_,fun b xs e=>un.lW b xs (I.base.lW b xs e),fun b o xs e=>un.kO b o xs (I.base.kO b o xs e),fun b ps e=>?_⟩,
   fun b o e n hb=>kb b o (I.base.keep b o e n hb (nx b)) (I.base.free b o e n (nx b)) (ne b o e hb),fun b o e hb=>?_,cX,?_,hE⟩
 . exact fl.1 b o (kb b o (I.base.keep b o e n hb (nx b)) (I.base.free b o e n (nx b)) (ne b o e hb))
 . obtain ⟨sl,e1⟩:=I.base.slot b o e n hb (nx b)
   obtain ⟨sl',e2⟩:=un.slot b _ e1 (I.base.free b o e n (nx b)) (inS b hb) (by simp)
   obtain ⟨_,o',e3,nf⟩:=I.mj.mem hb
   rw [e1] at e3
   cases e3
   obtain ⟨sl'',e4⟩:=up b _ e2 nf
   exact ⟨sl'',e4⟩
 . obtain ⟨o',e1⟩:=I.base.there b o e (nx b)
   exact un.free b o' e1 (I.base.free b o e n (nx b)) (by simp)
 . by_cases hb:b∈nh X.outer
   . have n:X.H₀ b=none:=I.ok.Dr b hb
     obtain ⟨sl,e1⟩:=I.base.slot b o e n hb (nx b)
     obtain ⟨sl',e2⟩:=un.slot b _ e1 (I.base.free b o e n (nx b)) (inS b hb) (by simp)
     obtain ⟨_,o',e3,nf⟩:=I.mj.mem hb
     rw [e1] at e3
     cases e3
     obtain ⟨sl'',e4⟩:=up b _ e2 nf
     exact ⟨_,e4⟩
   . obtain ⟨o1,e1⟩:=I.base.there b o e (nx b)
     obtain ⟨o2,e2⟩:=tb b o1 e1 (ne b o e hb)
     exact ⟨o2,fl.1 b o2 e2⟩
 . obtain ⟨m1,e1⟩:=I.base.lX b ps e
   obtain ⟨m2,e2⟩:=un.lX b _ e1
   exact ⟨m1++m2,by rw [e2,Array.append_assoc]⟩
 . obtain ⟨o1,e1⟩:=I.base.there b o e (nx b)
   exact tb b o1 e1 (ne b o e hb)
 . cases q:X.s₀.heap.get? a with
   | none=>rfl
   | some o=>
     obtain ⟨o1,e1⟩:=I.base.there a o q (nx a)
     rw [na] at e1
     cases e1
end
section
variable {P:Program} {w:World} {K:PySem.W.Frag} {mg:Str->Option Value} {base:Heap} {N:List Str} {qual:Str} {scope:Scope} {f:Addr} {cd:Value} {A:Around} {outer:List Env} {s0:Shared} {H0:Hp} {E:XK} {CX:uT}
def wu (E:XK) (c:Value):TS:=fun _ _ H=>E c none H
structure Exc (K:PySem.W.Frag) (C:Addr):Prop where
 is:PySem.W.excIn K C [.type "ValueError",.type "Exception",.type "BaseException",.type "object"] "ValueError.__new__"=true
theorem Exc.obj {h:Heap} {C:Addr} (X:K.In h) (e:Exc K C):∃ bm Nn nm q bs hdct sn sub ab col dd k0 k1 k2 k3 k5 mN,h.get? C=some (excClassObj nm q C Nn bs bm hdct sn sub ab col dd k0 k1 k2 k3 k5 "ValueError.__new__")/\h.Ns Nn mN/\mN "__init__"=none/\OwnTail h [.type "ValueError",.type "Exception",.type "BaseException",.type "object"] bm:=by
 have q:=e.is
 unfold PySem.W.excIn at q
 split at q
 . rename_i dd cd sl ho
   split at q
   . rename_i C' bm k0 k1 k2 k3 n k5 hm hs
     simp only [Bool.and_eq_true,beq_iff_eq,Bool.not_eq_true'] at q
     obtain ⟨⟨⟨⟨⟨rfl,rfl⟩,hdel⟩,ht⟩,cX⟩,hni⟩:=q
     obtain ⟨nm,bs,mro,ns,qn,hd,sn,sub,ab,col,del⟩:=cd
     have e1:mro=.ref C'::bm:=hm
     have e2:del=false:=hdel
     subst e1 e2
     obtain ⟨l⟩:=sl
     have e3:l=[k0,k1,k2,k3,some (.builtin "ValueError.__new__"),k5]:=hs
     subst e3
     exact ⟨bm,ns,nm,qn,bs,hd,sn,sub,ab,col,dd,k0,k1,k2,k3,k5,_,X _ _ ho,.of_isNs (PySem.W.isNs_of_in X cX),PySem.W.nsMap_none_of_in X cX hni,PySem.W.tail_of_in X ht⟩
   . cases q
 . cases q
theorem ED {C:Addr} {x y:Str} {np jX pos sp:Pos} {j:Nat} (hC:Exc K C) (hm:mg x=some (.ref C)) (hd:A.handled=none) (hg:Gl (mF (BI P w) P w K mg base N qual scope f cd A outer s0 H0 E) x) (uU:(x==("__debug__":Str))=false:=by decide):
   JS (mF (BI P w) P w K mg base N qual scope f cd A outer s0 H0 E) (.Raise (some (.Call (.Name x np) [.Constant (.str y) j sp] [] jX)) none pos) (wu E (.ref C)):=⟨by
 intro pins s σ H D I h
 obtain ⟨bm,Nn,nm,q,bs,hdct,sn,sub,ab,col,dd,k0,k1,k2,k3,k5,mN,hCo,hN,hni,T⟩:=hC.obj I.mod.HG
 refine wpAny_Raise_call_subT (C:=C) (nm:=nm) (q:=q) (N:=Nn) (bs:=bs) (bm:=bm) (hdct:=hdct) (sn:=sn) (sub:=sub) (ab:=ab) (col:=col) (dd:=dd) (k0:=k0) (k1:=k1) (k2:=k2) (k3:=k3) (k5:=k5) PySem.F.excBase_ValueError (mN:=mN) (T.hasType PySem.F.excBase_ValueError.hasBase) hd rfl hni (rL I hg hm ⟨rfl,?_⟩ uU)
 have pa:=Bm (X:=mF (BI P w) P w K mg base N qual scope f cd A outer s0 H0 E) (Du (x:=y) (j:=j) (pos:=sp)) DR
 refine Calls.evalArgs_plain (wpAny_mono (pa jX pins s σ H (fun vs H2=>vs.length=1/\H2=H) I ⟨rfl,rfl⟩) (fun us s2 z=>?_) fun _ _ z=>z)
 obtain ⟨vs,H2,I2,r2,l2,rfl⟩:=z
 refine ⟨rfl,?_,I2.bk _ _ hCo,hN.keeps I2.bk,T.keeps I2.bk,fun h' e hx=>?_⟩
 . show us.length<=_
   rw [<- r2.length,l2]
   decide
 have nf:∀ b u,H2 b=some u->b∉nh (mF (BI P w) P w K mg base N qual scope f cd A outer s0 H0 E).stack:=fun b u e z=>by
   rw [I2.rK b z] at e
   cases e
 refine wpAny_leaves_madeW (base:=PySem.W.hideAll s2.heap (nh (mF (BI P w) P w K mg base N qual scope f cd A outer s0 H0 E).stack)) (h:=s2.heap) I2.ok.frames rfl (fun b o q=>PySem.W.of_hideAll _ q) (PySem.W.funFrames_hide I2.stack fun env he b hb=>List.mem_filterMap.mpr ⟨env,he,hb⟩) hx fun h2 t fl _ _ up=>?_
 refine GZ (X:=mF (BI P w) P w K mg base N qual scope f cd A outer s0 H0 E) (H':=H2) (h1:=h') (s:=s2) rfl rfl I2 rfl I2.bare fl up (Un.kept hx.keeps) (fun b o e _ n=>PySem.W.hideAll_get _ e n) (fun b o e n=>⟨o,PySem.W.hideAll_get _ e n⟩) (fun b o e=>(I2.cX b o e).nQ (fun c u hc q=>PySem.W.hideAll_get _ q ?_) (fun _ q=>q) fun _ _ q=>q) hx.new h
 rcases hc with z | z
 . subst z
   exact nf _ _ e
 . exact nf _ _ z⟩
end
end L2
namespace L2
open PySem PySem.Spec PyProof.Rows PySem.W PySem.Calls PySem.Builtin PySem.Builtin.ObjectAttr PySem.Builtin.Getset_descriptor
structure oX (K:PySem.W.Frag) (C:Addr):Prop where
 ga:findIn K (.ref C) "__getattribute__"=some (some (.builtin "BaseException.__getattribute__"))
 gh:findIn K (.ref C) "__getattr__"=some none
 cl:findIn K (.ref C) "__class__"=some (some (.builtin "object.__class__"))
 mo:mroIn K C (.type "object")=some true
 mb:mroIn K C (.type "BaseException")=some true
 gt:specialIn K (.builtin "object.__class__") "__get__"=some (some (.builtin "getset_descriptor.__get__"))
 tk:takesIn K (.builtin "object.__class__")=some true
 is:(clsIn K C).isSome=true
def vj (a C:Addr) (h:Heap):Prop:=∃ o,h.get? a=some o/\o.cls=.ref C
section
variable {K:PySem.W.Frag} {prog:Program} {w:World} {A:Around} {E:Value->Shared->Prop} {s:Shared} {a C:Addr}
theorem vj.ty {M:Model} {h:Heap} (x:vj a C h):Looks M h (typeOf (.ref a)) (.ref C):=by
 obtain ⟨o,e,c⟩:=x
 exact c ▸ (Looks.ld e).andThen .now
theorem EE {R:Result->Shared->Prop} {tp:Value} (X:K.In s.heap) (x:vj a C s.heap) (F:oX K C) (h:R (.ok (.ret (.ref C))) s):codeAny (model prog w) A (.call (.builtin "getset_descriptor.__get__") ⟨[.builtin "object.__class__",.ref a,tp],[]⟩) R s:=by
 obtain ⟨h0,gn,dr,tk,os⟩:=s
 have l0:=x.ty (M:=model prog w)
 have l1:=looks_mroIn (M:=model prog w) X F.mo
 refine codeAny_call_builtin KF.slot_gs.plain KF.entry_gs (KF.slot_gs.check _ _ _ _ _ _ _ _ KF.type_class (KF.args_gs _ _ _) ?_)
 unfold Builtin.«getset_descriptor.__get__»;unfold descrGet
 rw [dga_obj]
 refine wpAny_bind (wpAny_pure ?_)
 unfold descrGetter;unfold descrCheckInstance;unfold descrNameAndClass;unfold isInstance
 simp only [KF.owner_class]
 repeat lk
 refine ⟨Code.quiet_builtin _ (by decide +kernel),codeAny_builtin KF.entry_class ?_⟩
 unfold Builtin.«object.__class__»;unfold shownTypeOf
 repeat lk
 exact h
theorem CQ {M:Model} {h:Heap} (X:K.In h) (F:oX K C):Looks M h (find (.ref a) (.ref C) "__class__") (.bind (.builtin "getset_descriptor.__get__") (.builtin "object.__class__")):=by
 have l1:=looks_findIn (M:=M) X F.cl
 have l2:=looks_specialIn (M:=M) X F.gt
 have l3:=looks_takesIn (M:=M) X F.tk
 exact l1.andThen (Looks.andThen (a:=some (Value.builtin "getset_descriptor.__get__")) l2 ((show Looks M h (dataDescriptor? (some (.builtin "object.__class__")) (some (.builtin "getset_descriptor.__get__"))) (some (.builtin "getset_descriptor.__get__",.builtin "object.__class__")) from l3.andThen .now).andThen (Looks.tag .now)))
theorem As {tk:Tok} {Q:Fin->Shared->Prop} (X:K.In s.heap) (x:vj a C s.heap) (F:oX K C) (h:Q (.done (.ret (.ref C))) s):wpAny (model prog w) A (Builtin.«object.__getattribute__» ⟨[.ref a,.str "__class__" tk],[]⟩) Q E s:=by
 obtain ⟨h0,gn,dr,tk,os⟩:=s
 have l0:=x.ty (M:=model prog w)
 have l1:=CQ (M:=model prog w) (a:=a) X F
 unfold Builtin.«object.__getattribute__»
 refine wpAny_bind (wpAny_pure ?_)
 refine wpAny_bind (wpAny_pure ?_)
 refine wpAny_bind (l0.at ?_)
 refine wpAny_bind (l1.at ?_)
 show wpAny (model prog w) A (bindTo (.builtin "getset_descriptor.__get__") (.builtin "object.__class__") (.ref a) (.ref C)) _ _ _
 unfold bindTo
 show wpAny (model prog w) A (holding [.builtin "object.__class__"] (call (.builtin "getset_descriptor.__get__") [.builtin "object.__class__",.ref a,.ref C]) >>=ret) _ _ _
 exact wpAny_bind (wpAny_holding (wpAny_call (EE (s:=⟨h0,gn,dr,tk,os⟩) X x F (wpAny_pure h))))
theorem CS {tk:Tok} {R:Result->Shared->Prop} (X:K.In s.heap) (x:vj a C s.heap) (F:oX K C) (h:R (.ok (.ret (.ref C))) s):codeAny (model prog w) A (.call (.builtin "BaseException.__getattribute__") ⟨[.ref a,.str "__class__" tk],[]⟩) R s:=by
 refine codeAny_call_builtin PySem.F.attr_ValueError.ga.plain PySem.F.entry_bexc_ga ?_
 have hk:builtinKind "BaseException.__getattribute__"=some .slot:=by decide +kernel
 have hp:splitId "BaseException.__getattribute__"=some ("BaseException","__getattribute__"):=by decide +kernel
 have ha:=PySem.F.args_bexc_ga (.ref a) (.str "__class__" tk)
 have l0:=x.ty (M:=model prog w)
 have l1:=looks_mroIn (M:=model prog w) X F.mb
 have l2:Looks (model prog w) s.heap (isInstance (.ref a) (.type "BaseException")) true:=l0.andThen l1
 simp only [checkBuiltinCall,hk,hp]
 refine wpAny_bind (l2.at ?_)
 rw [if_neg (by decide)]
 exact wpAny_of_eq ha (As X x F h)
theorem G0 {tk:Tok} {Q:Value->Shared->Prop} (X:K.In s.heap) (x:vj a C s.heap) (F:oX K C) (h:Q (.ref C) s):wpAny (model prog w) A (getAttrBy (.ref a) (.str "__class__" tk) false) Q E s:=by
 have l0:=x.ty (M:=model prog w)
 have l1:=looks_findIn (M:=model prog w) X F.ga
 have l2:=looks_findIn (M:=model prog w) X F.gh
 have f3:=PySem.F.attr_ValueError.ga.bind (.ref a)
 unfold getAttrBy
 refine wpAny_holding (wpAny_bind (l0.at (wpAny_bind (l1.at ?_))))
 dsimp only
 have nb:(onTheHeap (Value.ref C)&&Value.builtin "BaseException.__getattribute__"==Value.builtin "object.__getattribute__")=false:=by
   rw [show (Value.builtin "BaseException.__getattribute__"==Value.builtin "object.__getattribute__")=false by decide +kernel,Bool.and_false]
 rw [nb,if_neg (by decide)]
 unfold getAttrByItsOwn
 refine wpAny_bind ?_
 show wpAny (model prog w) A (typeLookup (.ref C) "__getattr__") _ _ _
 refine l2.at (wpAny_bind (wpAny_attempt (wpAny_holding ?_)))
 show wpAny (model prog w) A (boundAndCalled (.builtin "BaseException.__getattribute__") (.ref a) (.str "__class__" tk)) _ _ _
 unfold boundAndCalled
 refine wpAny_bind (wpAny_of_eq f3 ?_)
 refine wpAny_call (CS (s:=s) X x F ?_)
 exact wpAny_pure h
theorem CT {Q:Option Value->Shared->Prop} (X:K.In s.heap) (x:vj a C s.heap) (F:oX K C) (h:Q (some (.ref C)) { s with toks:=s.toks + 1 }):wpAny (model prog w) A (getAttr? (.ref a) "__class__") Q E s:=by
 unfold getAttr?;unfold getAttrBy?
 exact wpAny_bind (wpAny_mkText (wpAny_bind (wpAny_attempt (G0 (s:={ s with toks:=s.toks + 1 }) X x F (wpAny_pure h)))))
theorem yW (F:oX K C):KitX K (.ref a) (.ref C) (vj a C) where
 ty:=fun _ _ _ x=>x.ty
 it:=fun _ _ X _=>by
   have q:=F.is
   unfold clsIn at q
   split at q
   . rename_i ho
     intro A' Q' E' s' k z
     unfold isType loadHead
     exact wpAny_bind (wpAny_loadPart (k _ _ (X _ _ ho)) (wpAny_pure z))
   . cases q
 ne:=fun h tp dd its n sl X e=>by
   have q:=F.is
   refine Bool.eq_false_iff.mpr fun z=>?_
   cases beq_iff_eq.mp z
   unfold clsIn at q
   split at q
   . rename_i ho
     have z:=(X _ _ ho).symm.trans e
     cases z
   . cases q
 ca:=fun X x k=>CT X x F k
end
end L2
set_option Elab.async false
set_option linter.all false
set_option maxRecDepth 100000
set_option maxHeartbeats 4000000
namespace L2
open PySem PySem.Spec PyProof.Rows
def Cx.vm (X:Cx) (xe:Value->Shared->Prop) (pn:List (Addr×Obj)):Cx:={ X with xe:=xe,pn:=pn }
def Cx.sY (X:Cx) (a:Addr) (xe:Value->Shared->Prop) (pn:List (Addr×Obj)):Cx:={ X with A:=X.A.mark (some (.ref a)),calm:=false,xe:=xe,pn:=pn }
section
variable {X:Cx} {pins EF:List (Addr×Obj)} {σ:St} {H H':Hp} {s:Shared} {xe:Value->Shared->Prop}
theorem Inv.vm (I:Inv X pins σ H s):Inv (X.vm xe (X.pn++pins)) [] σ H s:=
 ⟨⟨I.ok.mod,I.ok.kind,I.ok.glob,I.ok.blt,I.ok.above,I.ok.inj,I.ok.has,I.ok.Gb,I.ok.hd,I.ok.frames,I.ok.HH,I.ok.KU,I.ok.bs,I.ok.Dm,I.ok.vL,I.ok.ym,I.ok.mj,I.ok.Dr⟩,I.os,I.bare,I.base,I.loc,I.cell,I.free,I.iN,fun p hp=>I.pin p (by rw [List.append_nil] at hp;exact hp),I.cX,I.len⟩
theorem Inv.oY (I:Inv (X.vm xe (X.pn++pins)) EF σ H s):Inv X pins σ H s:=
 ⟨⟨I.ok.mod,I.ok.kind,I.ok.glob,I.ok.blt,I.ok.above,I.ok.inj,I.ok.has,I.ok.Gb,I.ok.hd,I.ok.frames,I.ok.HH,I.ok.KU,I.ok.bs,I.ok.Dm,I.ok.vL,I.ok.ym,I.ok.mj,I.ok.Dr⟩,I.os,I.bare,I.base,I.loc,I.cell,I.free,I.iN,fun p hp=>I.pin p (List.mem_append_left _ hp),I.cX,I.len⟩
theorem Inv.sY {a:Addr} (I:Inv X pins σ H s):Inv (X.sY a xe (X.pn++pins)) [] σ H s:=
 ⟨⟨I.ok.mod,I.ok.kind,I.ok.glob,I.ok.blt,I.ok.above,I.ok.inj,I.ok.has,I.ok.Gb,(fun z=>nomatch z),I.ok.frames,I.ok.HH,I.ok.KU,I.ok.bs,I.ok.Dm,I.ok.vL,I.ok.ym,I.ok.mj,I.ok.Dr⟩,I.os,I.bare,I.base,I.loc,I.cell,I.free,I.iN,fun p hp=>I.pin p (by rw [List.append_nil] at hp;exact hp),I.cX,I.len⟩
theorem Inv.uncaught {a:Addr} (ok:X.Ok) (I:Inv (X.sY a xe (X.pn++pins)) EF σ H s):Inv X pins σ H s:=
 ⟨ok,I.os,I.bare,I.base,I.loc,I.cell,I.free,I.iN,fun p hp=>I.pin p (List.mem_append_left _ hp),I.cX,I.len⟩
theorem Inv.L1 {a:Addr} {o:HO} (I:Inv X pins σ H s) (hn:H a=none) (ha:X.s₀.heap.get? a=none) (hl:a≠X.env.locals) (hc:∀ x c,X.env.cells.lookup x=some c->c≠a) (hp:∀ p∈X.pn++pins,p.1≠a) (ok:dH X.prog X.w (upd H a o) s.heap a o):Inv X pins σ (upd H a o) s:=by
 have ne:∀ b u,H b=some u->b≠a:=fun b u e=>aW e hn
 refine ⟨I.ok,I.os,I.bare,⟨I.base.keep,I.base.slot,fun b u e n hx=>?_,I.base.there,fun b xs e=>?_,fun b u xs e=>?_,fun b ps e=>?_⟩,I.loc,I.cell,?_,fun x c e=>?_,fun p q=>?_,fun b u e=>?_,I.len⟩
 . rw [aJ (fun z=>by rw [z,ha] at e;cases e)]
   exact I.base.free b u e n hx
 . have:=I.base.lW b xs e
   rw [aJ (ne _ _ this)]
   exact this
 . have:=I.base.kO b u xs e
   rw [aJ (ne _ _ this)]
   exact this
 . obtain ⟨m,this⟩:=I.base.lX b ps e
   exact ⟨m,by rw [aJ (ne _ _ this)];exact this⟩
 . rw [aJ hl.symm]
   exact I.free
 . rw [aJ (hc x c e)]
   exact I.iN x c e
 . obtain ⟨e,n,r⟩:=I.pin p q
   exact ⟨e,by rw [aJ (hp p q)];exact n,r⟩
 . by_cases z:b=a
   . subst z
     rw [ah] at e
     cases e
     exact ok
   . rw [aJ z] at e
     exact (I.cX b u e).nQ (fun _ _ _ q=>q) (fun c q=>by rw [aJ (ne _ _ q)];exact q) fun c xs q=>by rw [aJ (ne _ _ q)];exact q
end
theorem L4 {st:List Env} {base h h1 h2 B:Heap} {H H':Hp} (ff:h.FunFrames base st) (fr:∀ b∈nh st,H b=none) (un:Un (nh st) [] H H' h h1) (kb:∀ b o,h.get? b=some o->H b=none->b∉nh st->B.get? b=some o)
   (tb:∀ b o,h.get? b=some o->b∉nh st->∃ o',B.get? b=some o') (ks:B.StaysIn h2) (up:h1.UpToSlots h2):Un (nh st) [] H H' h h2:=by
 have sl:∀ b o,h.get? b=some o->H b=none->b∈nh st->∃ sl,h2.get? b=some { o with slots:=sl }:=fun b o e n hb=>by
   obtain ⟨s1,e1⟩:=un.slot b o e n hb (by simp)
   obtain ⟨_,o',e3,nf⟩:=ff.mem hb
   rw [e] at e3
   cases e3
   obtain ⟨s2,e2⟩:=up b _ e1 nf
   exact ⟨s2,e2⟩
 refine ⟨fun b o e n hb _=>ks b o (kb b o e n hb),fun b o e n hb _=>sl b o e n hb,un.free,fun b o e _=>?_,un.lW,un.kO,un.lX⟩
 by_cases hb:b∈nh st
 . obtain ⟨_,e1⟩:=sl b o e (fr b hb) hb
   exact ⟨_,e1⟩
 . obtain ⟨o',e1⟩:=tb b o e hb
   exact ⟨o',ks b o' e1⟩
def Ends.gone (D:Ends) (i:Nat):Ends:={ nx:=fun σ H=>D.nx (σ.set i none) H,rt:=D.rt,bk:=fun σ H=>D.bk (σ.set i none) H,ct:=fun σ H=>D.ct (σ.set i none) H }
theorem name_goes {X:Cx} {pins:List (Addr×Obj)} {σ:St} {H:Hp} {s:Shared} {M:Model} {A:Around} {E:Value->Shared->Prop} {Q:Unit->Shared->Prop} {n:Str} {i:Nat} {pos:Pos} (I:Inv X pins σ H s) (hN:X.N.Nodup) (hi:X.N[i]?=some n) (hl:X.env.kindOf n=some .local)
   (h:∀ s',Inv X pins (σ.set i none) H s'->Q () s'):wpAny M A (do bindName X.env n .none;unbindBehindTheSuite X.env n pos) Q E s:=by
 obtain ⟨m,hn,hv⟩:=id I.loc
 obtain ⟨oL,_,_,hoL,_⟩:=id hn
 have ne:∀ b o,X.s₀.heap.get? b=some o->b≠X.env.locals:=fun b o e=>Nat.ne_of_lt (Nat.lt_of_lt_of_le (Heap.lt_size e) I.ok.above)
 refine wpAny_nameGoes_keeps hl hn (by rw [I.ok.kind];rfl) fun h' v hn' hs=>?_
 refine h _ ⟨I.ok,I.os,I.bare,⟨fun b o e n hb hx=>(hs.2 b (ne b o e)).trans (I.base.keep b o e n hb hx),fun b o e n hb hx=>?_,I.base.free,fun b o e hx=>?_,I.base.lW,I.base.kO,I.base.lX⟩,⟨_,hn',fun j y u e1 e2 e3=>?_⟩,fun y c e=>?_,I.free,I.iN,fun p hp=>?_,fun b u e=>?_,by simpa using I.len⟩
 . obtain ⟨sl,e1⟩:=I.base.slot b o e n hb hx
   exact ⟨sl,(hs.2 b (ne b o e)).trans e1⟩
 . obtain ⟨o',e1⟩:=I.base.there b o e hx
   exact ⟨o',(hs.2 b (ne b o e)).trans e1⟩
 . by_cases hj:j=i
   . subst hj
     have:j < σ.length:=by rw [I.len];exact (List.getElem?_eq_some_iff.mp hi).1
     rw [List.getElem?_set_self this] at e2
     cases e2
   . rw [List.getElem?_set_ne (Ne.symm hj)] at e2
     obtain ⟨u',r',q⟩:=hv j y u e1 e2 e3
     refine ⟨u',r',?_⟩
     rcases q with ⟨k,e⟩ | ⟨k,c,e,z⟩
     . refine .inl ⟨k,?_⟩
       have:y≠n:=fun e=>hj (su hN e1 (e ▸ hi))
       show (if y=n then v else m y)=_
       rw [if_neg this]
       exact e
     . exact .inr ⟨k,c,e,z.sameBut hs (I.Gd y c e)⟩
 . obtain ⟨w',z⟩:=I.cell y c e
   exact ⟨w',z.sameBut hs (I.Gd y c e)⟩
 . obtain ⟨e,n,ne,r⟩:=I.pin p hp
   exact ⟨(hs.2 p.1 ne).trans e,n,ne,r⟩
 . refine (I.cX b u e).nQ (fun c w' hc q=>(hs.2 c ?_).trans q) (fun _ q=>q) fun _ _ q=>q
   rintro rfl
   rcases hc with z | z
   . rw [<- z,I.free] at e
     cases e
   . rw [I.free] at z
     cases z
section
variable {X:Cx}
def JD (K:PySem.W.Frag) (CF:Addr) (len i:Nat) (tb:XK->TS) (ts:TS):TS:=fun D σ H=>
 tb (fun cls _ H'=>∃ C,cls=.ref C/\oX K C/\PySem.W.exmOne K (.ref C) (.ref CF)=some true/\∀ a,L2.new K H' a->ts (D.gone i) ((List.replicate len none).set i (some (.ref a))) (upd H' a (.ext (vj a C)))) D σ H
end
end L2
set_option Elab.async false
set_option linter.all false
set_option maxRecDepth 100000
set_option maxHeartbeats 4000000
namespace L2
open PySem PySem.Spec PyProof.Rows
section
variable {P:Program} {w:World} {K:PySem.W.Frag} {mg:Str->Option Value} {base:Heap} {N:List Str} {name qual:Str} {scope:Scope} {f c':Addr} {A:Around} {outer:List Env} {s:Shared} {H:Hp} {E:XK} {cl:List (Str×Addr)} {params:Arguments} {body:Expr} {pm ctv:Value} {σ:St} {Q:VK} {k:Nat} {te:TE}
end
section
variable {X:Cx} {N:List Str} {name qual:Str} {scope:Scope} {f c':Addr} {E:XK} {cl:List (Str×Addr)} {params:Arguments} {body:Expr} {pm ctv:Value} {σl:St} {k i:Nat} {te:TE} {x:Str} {p pos:Pos}
end
end L2
set_option Elab.async false
set_option linter.all false
set_option maxRecDepth 100000
set_option maxHeartbeats 4000000
namespace L2
open PySem PySem.Spec PyProof.Rows
def G4 (H:Hp) (ps:Array Value) (qual:Str):Prop:=TriplesOk ps.toList/\∀ q v,codeAmong q ps.toList=some v->∃ c',v=.ref c'/\H c'=some (.ext fun h=>h.CodeRec (.ref c') qual)
section
variable {X:Cx} {pins:List (Addr×Obj)} {σ:St} {H:Hp} {s:Shared} {c P:Addr} {ps:Array Value} {params:Arguments} {body:Expr} {scope:Scope} {pos:Pos} {A:Around} {E:Value->Shared->Prop} {Q:Value->Shared->Prop}
end
section
variable {X:Cx} {pins:List (Addr×Obj)} {σ:St} {H H':Hp} {s':Shared} {P f c':Addr} {qual:Str} {params:Arguments} {body:Expr} {scope:Scope} {pm ctv:Value} {N:List Str} {src:List (Option Nat)}
end
section
variable {P:Program} {w:World} {K:PySem.W.Frag} {mg:Str->Option Value} {base:Heap} {x qual:Str} {st:Stmt} {f:Addr} {fd:FuncData} {N ps:List Str} {k:Nat}
theorem fM.okX {sp:Sp} (F:fM K x qual st f fd) (S:aE N ps (af st)) (len:∀ vs H Q E,sp vs H Q E->vs.length=ps.length)
   (oB:∀ (dg:Value) (A:Around) (outer:List Env) (s:Shared) (H:Hp) (vs:List V) (Q:VK) (E:XK),jx k (A.deeper (envOfC qual (af st) s.heap.objs.size f dg))->sp vs H Q E->
     ∃ t,JB (mF (BI P w) P w K mg base N qual (af st) f dg A outer s H E) (ak st) t/\t { nx:=fun _ H'=>Q .cY H',rt:=Q } (start N vs) H):bB P w K mg base (BI P w) (k + 1) f fd ps sp:=by
 obtain ⟨oc,od,kV,doc,pm,an,dg,ct,GA,rfl,lk,Cf⟩:=F.ex
 refine HQ lk Cf S len fun A outer s H vs Q E hr FZ=>?_
 obtain ⟨t,h,q⟩:=oB dg A outer s H vs Q E hr FZ
 exact ⟨t,h.h,q⟩
structure oZ (P:Program) (w:World) (K:PySem.W.Frag) (mg:Str->Option Value) (base:Heap) (x:Str) (k:Nat) (ps:List Str) (sp:Sp):Prop where
 ex:∃ (f:Addr) (fd:FuncData),bB P w K mg base (BI P w) k f fd ps sp/\Binds K fd ps []/\PySem.W.keepIn K (.ref f)=true/\mg x=some (.ref f)
end
end L2
set_option Elab.async false
set_option linter.all false
set_option maxRecDepth 100000
set_option maxHeartbeats 4000000
namespace L2
open PySem PySem.Spec PyProof.Rows
section
variable {X:Cx}
theorem Au:gE X (.builtin "isinstance") (fun xs H Q=>∃ a C D b,xs=[.ref a,.ref D]/\H a=some (.ext (vj a C))/\oX X.K C/\PySem.W.kitOne X.K (.ref C) (.ref D)=some b/\Q (.bl b) H):=by
 rintro pins s σ H xs us Q I r ⟨a,C,D,b,rfl,hx,F,e,q⟩
 obtain ⟨u,w',rfl,ru,rw'⟩:=vals2 r
 cases (show w'=Value.ref D from rw')
 cases (show u=Value.ref a from ru)
 exact PySem.W.kia_one (yW F) I.qG (I.cX a _ hx).1 e (fun z=>nomatch z) fun tk=>⟨.bl b,H,I.tok tk,rfl,q⟩
end
end L2
set_option Elab.async false
set_option linter.all false
set_option maxRecDepth 100000
set_option maxHeartbeats 4000000
namespace L2
open PySem PySem.Spec PyProof.Rows
end L2
set_option Elab.async false
set_option linter.all false
set_option maxRecDepth 100000
set_option maxHeartbeats 4000000
namespace L2
open PySem PySem.Spec PyProof.Rows HT
section
variable {prog:Program} {w:World} {A:Around} {E:Value->Shared->Prop} {s:Shared}
end
theorem bq {X:Cx} {all rest:List Stmt} {t2:TS} {G:TS->Prop} (h2:JB X rest t2) (k:∀ r,JB X rest r->r=t2->∃ t,JB X all t/\G t):∃ t,JB X all t/\G t:=k t2 h2 rfl
theorem QW {CX:uT} {P:Program} {w:World} {K:PySem.W.Frag} {mg:Str->Option Value} {base:Heap} {N:List Str} {qual:Str} {scope:Scope} {f:Addr} {cd:Value} {A:Around} {outer:List Env} {s:Shared} {H:Hp} {E:XK}:(mF CX P w K mg base N qual scope f cd A outer s H E).N=N:=rfl
section
variable {X:Cx}
def EG (K:PySem.W.Frag):V->Option Int->Option Int->Hp->VK->Prop:=fun x lo hi H Q=>∃ a xs,x=.ref a/\tupQ K H a=some xs/\∀ q H',tupQ K H' q=some (iK xs lo hi)->Ext K H H'->Q (.ref q) H'
def Av (K:PySem.W.Frag):R2:=fun x y H Q=>∃ a b xs ys,x=.ref a/\y=.ref b/\tupQ K H a=some xs/\tupQ K H b=some ys/\xs≠[]/\xs.length + ys.length<=sizeLine/\∀ q H',tupQ K H' q=some (xs++ys)->Ext K H H'->Q (.ref q) H'
theorem qI (K:PySem.W.Frag) (hk:X.K=K:=by rfl):gE X (.builtin "isinstance") (fun xs H Q=>∃ a C D b,xs=[.ref a,.ref D]/\H a=some (.ext (vj a C))/\oX K C/\PySem.W.kitOne K (.ref C) (.ref D)=some b/\Q (.bl b) H):=by subst hk;exact Au
end
structure XT (K:PySem.W.Frag) (T:Addr) (q:Str) (H H':Hp):Prop where
 QX:∃ ps,H T=some (.Cd ps)
 tab:∃ ps,H' T=some (.Cd ps)/\G4 H' ps q
 keep:∀ b o,H b=some o->b≠T->H' b=some o
 mod:∀ b xs,H b=none->lG K b=some xs->H' b=none
section
variable {K:PySem.W.Frag} {T:Addr} {q:Str} {H H1 H2:Hp}
theorem G4.ext {ps:Array Value} (h:G4 H ps q) (x:∀ b o,H b=some o->(∀ ps,o≠.Cd ps)->H1 b=some o):G4 H1 ps q:=⟨h.1,fun p v e=>by
 obtain ⟨c,rfl,hc⟩:=h.2 p v e
 exact ⟨c,rfl,x _ _ hc nofun⟩⟩
theorem XT.trans (x:XT K T q H H1) (y:XT K T q H1 H2):XT K T q H H2:=⟨x.QX,y.tab,fun b o e n=>y.keep b o (x.keep b o e n) n,fun b xs e k=>y.mod b xs (x.mod b xs e k) k⟩
theorem XT.ext (x:XT K T q H H1) (y:Ext K H1 H2):XT K T q H H2:=by
 obtain ⟨ps,e,c⟩:=x.tab
 exact ⟨x.QX,⟨ps,y.same _ _ e,c.ext fun b o h _=>y.same b o h⟩,fun b o e n=>y.same _ _ (x.keep b o e n),fun b xs e k=>y.mod b xs (x.mod b xs e k) k⟩
theorem XT.at (x:XT K T q H H1) {b:Addr} {o:HO} (h:H b=some o) (n:∀ ps,o≠.Cd ps):H1 b=some o:=x.keep b o h fun z=>by
 obtain ⟨ps,e⟩:=x.QX
 rw [z,e] at h
 cases h
 exact n _ rfl
theorem XT.tup (x:XT K T q H H1) {a:Addr} {vs:List V} (h:tupQ K H a=some vs):tupQ K H1 a=some vs:=by
 unfold tupQ at h ⊢
 split at h
 . next e=>rw [x.at e nofun];exact h
 . cases h
 . next e=>rw [x.mod a vs e h];exact h
end
end L2
set_option Elab.async false
set_option linter.all false
set_option maxRecDepth 100000
set_option maxHeartbeats 4000000
namespace L2
open PySem PySem.Spec PyProof.Rows
section
variable {X:Cx}
end
section
variable {X:Cx}
def wz (K:PySem.W.Frag):R2:=fun x y H Q=>∃ a b xs ys,x=.ref a/\y=.ref b/\tupQ K H a=some xs/\tupQ K H b=some ys/\xs.length + ys.length<=sizeLine/\∀ q H',tupQ K H' q=some (xs++ys)->Ext K H H'->Q (.ref q) H'
end
end L2
set_option Elab.async false
set_option linter.all false
set_option maxRecDepth 100000
set_option maxHeartbeats 4000000
namespace L2
open PySem PySem.Spec PyProof.Rows
section
variable {X:Cx} {o e value:Expr} {f:Str} {pos pos' Lw p:Pos} {ta tv te:TE}
end
section
variable {P:Program} {w:World} {K:PySem.W.Frag} {mg:Str->Option Value} {base:Heap} {x qual:Str} {st:Stmt} {f:Addr} {fd:FuncData} {N ps:List Str} {k:Nat} {sp:Sp}
end
section
variable {X:Cx} {CX:uT} {k:Nat} {f C:Addr} {fd:FuncData} {ps:List Str} {sp:Sp} {yg:List V} {ds:List Value} {E:XK} {y:Str} {p pos:Pos} {e:Expr} {es:List Expr} {t:TA}
end
section
variable {X:Cx} {a:Addr} {vs:List (Key×Value)} {o i:Expr} {to ti:TE} {pos:Pos}
end
section
variable {X:Cx}
end
section
variable {X:Cx}
end
end L2
set_option Elab.async false
set_option linter.all false
set_option maxRecDepth 100000
set_option maxHeartbeats 4000000
namespace HT
open PySem PySem.Spec PyProof.Rows
section
variable {prog:Program} {w:World} {A:Around} {E:Value->Shared->Prop} {s:Shared}
end
end HT
namespace L2
open PySem PySem.Spec PyProof.Rows
section
variable {X:Cx} {e:Expr} {te:TE} {pos:Pos}
end
end L2
set_option Elab.async false
set_option linter.all false
set_option maxRecDepth 100000
set_option maxHeartbeats 4000000
namespace L2
open PySem PySem.Spec PyProof.Rows
section
variable {X:Cx} {k:Nat} {C:Addr} {ps:List Str} {sp:Sp} {yg:List V} {E:XK} {m y:Str} {apos pos p:Pos} {o e value:Expr} {es:List Expr} {t:TA} {ta tv:TE} {pl:Sem Bool}
end
section
variable {P:Program} {w:World} {K:PySem.W.Frag} {mg:Str->Option Value} {base:Heap} {x qual:Str} {st:Stmt} {f:Addr} {fd:FuncData} {N ps:List Str} {k:Nat} {sp:Sp}
end
section
variable {X:Cx}
end
end L2
set_option Elab.async false
set_option linter.all false
set_option maxRecDepth 100000
set_option maxHeartbeats 4000000
namespace L2
open PySem PySem.Spec PyProof.Rows
section
variable {X:Cx}
def G5 (K:PySem.W.Frag):R2:=fun x y H Q=>∃ l b xs,x=.ref l/\y=.ref b/\bC K H l xs/\bC K H b []/\Q (.bl (!xs.isEmpty)) H
theorem Aw (hu:X.A.units < cLine):kU X (compareOp .NotEq) (G5 X.K):=by
 intro pins s σ H x y v u Q I rx ry h
 obtain ⟨l,b,xs,rfl,rfl,h1,h2,q⟩:=h
 cases rx
 cases ry
 obtain ⟨its,rv,p,_⟩:=I.list h1
 obtain ⟨its2,rv2,p2,_⟩:=I.list h2
 cases rv2
 have fin:∀ k:Bool,k=(!xs.isEmpty)->EP X pins σ Q (.bool k) s:=fun k e=>⟨.bl k,H,I,rfl,by rw [e];exact q⟩
 cases rv with
 | nil=>exact SeqAt.RcNeAt.lists (e:=fun _=>true) p.isList p2.isList rfl hu (fun j h1=>by simp at h1) X.prog X.w X.xe _ (fin _ (by simp))
 | cons a b=>exact SeqAt.RcNeAt.lists_lengths p.isList p2.isList (by simp) hu X.prog X.w X.xe _ (fin _ rfl)
end
section
variable {P:Program} {w:World} {A:Around} {E:Value->Shared->Prop} {s:Shared} {S:Addr} {vs:List (Key×Value)} {ep:Nat}
end
section
variable {X:Cx}
end
end L2
set_option Elab.async false
set_option linter.all false
set_option maxRecDepth 100000
set_option maxHeartbeats 4000000
namespace L2
open PySem PySem.Spec PyProof.Rows
section
variable {X:Cx}
theorem yX (K:PySem.W.Frag) (hk:X.K=K:=by rfl):gE X (.builtin "isinstance") (fun xs H Q=>∃ a C n b,xs=[.ref a,.ty n]/\H a=some (.ext (vj a C))/\oX K C/\PySem.W.kitOne K (.ref C) (.type n)=some b/\Q (.bl b) H):=by
 subst hk
 rintro pins s σ H xs us Q I r ⟨a,C,D,b,rfl,hx,F,e,q⟩
 obtain ⟨u,w',rfl,ru,rw'⟩:=vals2 r
 cases (show w'=Value.type D from rw')
 cases (show u=Value.ref a from ru)
 exact PySem.W.kia_one (yW F) I.qG (I.cX a _ hx).1 e (fun z=>nomatch z) fun tk=>⟨.bl b,H,I.tok tk,rfl,q⟩
theorem uv:bootBuiltins "ValueError"=some (.type "ValueError"):=by decide +kernel
end
end L2
set_option Elab.async false
set_option linter.all false
set_option maxRecDepth 100000
set_option maxHeartbeats 4000000
namespace L2
open PySem PySem.Spec PyProof.Rows
section
variable {X:Cx}
def o8:V->List V->Hp->VK->Prop:=fun x vs H Q=>∃ a,x=.str a/\vs=[]/\Q (.bl (Txt.isascii a)) H
theorem Ax:DV X "str.isascii" o8:=by
 intro pins s σ H x vs v us Q I rx rv h
 obtain ⟨a,rfl,rfl,q⟩:=h
 obtain ⟨t,rfl⟩:=rx
 cases rv
 exact call_meets PySem.F.slot_str_isascii (typeIs_str _ _ _) PySem.F.entry_str_isascii (PySem.F.args_str_isascii_1 _) (gives_str_isascii a t).meets (show (Made.val _).post _ s from ⟨.bl _,H,I,rfl,q⟩)
def o9:V->List V->Hp->VK->Prop:=fun x vs H Q=>∃ a,x=.str a/\vs=[]/\Q (.bl (Txt.isdigit a)) H
theorem Ay:DV X "str.isdigit" o9:=by
 intro pins s σ H x vs v us Q I rx rv h
 obtain ⟨a,rfl,rfl,q⟩:=h
 obtain ⟨t,rfl⟩:=rx
 cases rv
 exact call_meets PySem.F.slot_str_isdigit (typeIs_str _ _ _) PySem.F.entry_str_isdigit (PySem.F.args_str_isdigit_1 _) (gives_str_isdigit a t).meets (show (Made.val _).post _ s from ⟨.bl _,H,I,rfl,q⟩)
def rR:V->List V->Hp->VK->Prop:=fun x vs H Q=>∃ a b,x=.str a/\vs=[.str b]/\a.length<=sizeLine/\Q (.str (Txt.removeprefix a b)) H
theorem qU:DV X "str.removeprefix" rR:=by
 intro pins s σ H x vs v us Q I rx rv h
 obtain ⟨a,b,rfl,rfl,ha,q⟩:=h
 obtain ⟨t,rfl⟩:=rx
 obtain ⟨u,rfl,ru⟩:=vals1 rv
 obtain ⟨t2,rfl⟩:=ru
 exact call_meets PySem.F.slot_str_removeprefix (typeIs_str _ _ _) PySem.F.entry_str_removeprefix (PySem.F.args_str_removeprefix_2 _ _) (gives_str_removeprefix a b t t2).meets (post_affix ha _ fun t' k=>⟨.str _,H,I.tok k,⟨t',rfl⟩,q⟩)
theorem vn:∀ (ts:List Str) (k:Nat),Vals (ts.map V.str) (strsFrom k ts)
 | [],_=>.nil
 | t::ts,k=>.cons ⟨_,rfl⟩ (vn ts (k + 1))
def wA (K:PySem.W.Frag):V->List V->Hp->VK->Prop:=fun x vs H Q=>∃ a b,x=.str a/\vs=[.str b]/\(b.length==0)=false/\a.length<=sizeLine/\(Txt.split a b).length<=sizeLine/\∀ D,L2.new K H D->Q (.ref D) (upd H D (.lst ((Txt.split a b).map V.str)))
theorem fU:DV X "str.split" (wA X.K):=by
 intro pins s σ H x vs v us Q I rx rv h
 obtain ⟨a,b,rfl,rfl,hb,ha,hn,q⟩:=h
 obtain ⟨t,rfl⟩:=rx
 obtain ⟨u,rfl,ru⟩:=vals1 rv
 obtain ⟨t2,rfl⟩:=ru
 have fin:∀ {its:List Value} {k:Nat},Vals ((Txt.split a b).map V.str) its->EP X pins σ Q (.ref s.heap.objs.size) { s with toks:=k,heap:=s.heap.push { cls:=.type "list",data:=.seq its.toArray } }:=fun {its k} vv=>by
   have I2:Inv X pins σ (upd H s.heap.objs.size (.lst ((Txt.split a b).map V.str))) { s with toks:=k,heap:=s.heap.push { cls:=.type "list",data:=.seq its.toArray } }:=
     I.laid (t':=k) (fun b ob q=>Heap.get?_push_of_some _ q) (Nat.le_refl _) ⟨by rw [List.length_map];exact hn,its,0,vv,Heap.get?_push_size _ rfl⟩
   exact ⟨.ref s.heap.objs.size,_,I2,rfl,q _ ⟨I.cX.fresh (Nat.le_refl _),I2.nZ ah⟩⟩
 have e1:∀ {ts:List Str},Txt.split a b=ts->∀ {its:List Value} {k:Nat},Vals (ts.map V.str) its->EP X pins σ Q (.ref s.heap.objs.size) { s with toks:=k,heap:=s.heap.push { cls:=.type "list",data:=.seq its.toArray } }:=fun {ts} e {its k} vv=>fin (by rw [e];exact vv)
 have one:Vals ([a].map V.str) [.str a t]:=.cons ⟨t,rfl⟩ .nil
 cases h1:(decide (a.length < b.length)||decide (Builtin.Str.strKind a < Builtin.Str.strKind b)) with
 | true=>exact call_meets PySem.F.slot_str_split (typeIs_str _ _ _) PySem.F.entry_str_split (PySem.F.args_str_split_2 _ _) (meets_str_split_cannot_occur a b t t2 h1) (e1 (by unfold Txt.split;rw [if_pos h1]) (its:=[.str a t]) (k:=s.toks) one)
 | false=>
   cases h2:(Builtin.Str.occurrences a b 0 a.length (a.length + 1)).isEmpty with
   | true=>exact call_meets PySem.F.slot_str_split (typeIs_str _ _ _) PySem.F.entry_str_split (PySem.F.args_str_split_2 _ _) (meets_str_split_not_found a b t t2 h1 hb h2) (e1 (by unfold Txt.split;rw [h1,h2,if_neg (by decide),if_pos rfl]) (its:=[.str a t]) (k:=s.toks) one)
   | false=>
     have e2:Txt.split a b=Builtin.Str.partsBetween a (Builtin.Str.occurrences a b 0 a.length (a.length + 1)) b.length:=by unfold Txt.split;rw [h1,h2,if_neg (by decide),if_neg (by decide)]
     exact call_meets PySem.F.slot_str_split (typeIs_str _ _ _) PySem.F.entry_str_split (PySem.F.args_str_split_2 _ _) (meets_str_split_sep a b t t2 h1 hb h2 ha (e2 ▸ hn)) (e1 e2 (vn _ _))
theorem vo:gE X (.type "int") (fun xs H Q=>∃ a n,xs=[.str a]/\PySem.intText? a=some n/\a.length<=640/\Q (.int n) H):=by
 intro pins s σ H xs us Q I r h
 obtain ⟨a,n,rfl,hn,hl,q⟩:=h
 obtain ⟨u,rfl,ru⟩:=vals1 r
 obtain ⟨t,rfl⟩:=ru
 exact PySem.W.KIN.call_text hn hl ⟨.int n,H,I.tok _,⟨_,rfl⟩,q⟩
end
end L2
set_option Elab.async false
set_option linter.all false
set_option maxRecDepth 100000
set_option maxHeartbeats 4000000
namespace L2
open PySem PySem.Spec PyProof.Rows PySem.W
section
variable {prog:Program} {w:World} {A:Around} {E:Value->Shared->Prop} {s:Shared}
end
section
variable {X:Cx} {es:List Expr} {pos:Pos} {e:Expr}
def Az (K:PySem.W.Frag) (n i:Nat) (t:zV):TG:=fun v σ H Q=>∃ a xs,v=.ref a/\bC K H a xs/\n<=xs.length + 1/\
 ∀ D,L2.new K H D->t (xs.take i++.ref D::(xs.drop i).drop (xs.length + 1 - n)) σ (upd H D (.lst ((xs.drop i).take (xs.length + 1 - n)))) Q
end
end L2
set_option Elab.async false
set_option linter.all false
set_option maxRecDepth 100000
set_option maxHeartbeats 4000000
namespace L2
open PySem PySem.Spec PyProof.Rows
def cB:List Nat->List Nat
 | 45::cs=>cs
 | l=>l
def jS (c:Nat):Bool:=decide (48<=c)&&decide (c<=57)
def mT (l:List Nat):Bool:=!(cB l).isEmpty&&(cB l).all jS&&decide ((cB l).length<=60)&&!(decide ((cB l).head?=some 48)&&decide (l≠[48]))
def G6 (l:List Nat):Int:=match l with
 | 45::cs=>-((NumText.digitsVal cs:Nat):Int)
 | l=>((NumText.digitsVal l:Nat):Int)
def ao (t:Str):Option Int:=if mT t.cps.toList=true then some (G6 t.cps.toList) else none
theorem mU {l:List Nat} (h:l.head?≠some 45):cB l=l:=by
 unfold cB
 split
 . exact absurd rfl h
 . rfl
theorem G7 {l:List Nat} (h:l.head?≠some 45):G6 l=((NumText.digitsVal l:Nat):Int):=by
 unfold G6
 split
 . exact absurd rfl h
 . rfl
theorem vp:(Str.ofString "-").cps.toList=[45]:=by decide +kernel
theorem sZ (t:Str):(Txt.removeprefix t "-").cps.toList=cB t.cps.toList:=by
 rw [StrLaws.removeprefix_eq t "-",StrLaws.subAt_eq,vp,show (Str.ofString "-").length=1 from by decide +kernel]
 have hl:t.length=t.cps.toList.length:=by simp [Str.length]
 rw [hl]
 cases e:t.cps.toList with
 | nil=>simp [cB,e]
 | cons c r=>
   by_cases z:c=45
   . subst z
     simp [cB]
   . rw [mU (by simp [z])]
     simp [z,e]
theorem digit_ascii:∀ c,c < 128->Unicode.isDigit c=jS c:=by decide +kernel
theorem G8 (b:Str):(Txt.isascii b&&Txt.isdigit b)=(!(b.cps.toList).isEmpty&&b.cps.toList.all jS):=by
 unfold Txt.isascii Txt.isdigit
 have hl:b.length=b.cps.toList.length:=by simp [Str.length]
 rw [hl,<- Array.all_toList,<- Array.all_toList]
 generalize b.cps.toList=l
 rw [Bool.eq_iff_iff]
 simp only [Bool.and_eq_true,List.all_eq_true,decide_eq_true_eq,Bool.not_eq_true',List.isEmpty_eq_false_iff,ne_eq]
 constructor
 . rintro ⟨h1,h2,h3⟩
   refine ⟨fun e=>by subst e;simp at h2,fun c hc=>?_⟩
   rw [<- digit_ascii c (h1 c hc)]
   exact h3 c hc
 . rintro ⟨h1,h2⟩
   have lt:∀ c∈l,c < 128:=fun c hc=>by
     have:=h2 c hc
     simp only [jS,Bool.and_eq_true,decide_eq_true_eq] at this
     omega
   refine ⟨lt,List.length_pos_iff.mpr h1,fun c hc=>?_⟩
   rw [digit_ascii c (lt c hc)]
   exact h2 c hc
theorem CU {cs:List Nat} (h:cs.all jS=true):NumText.AllDigits cs:=by
 intro c hc
 have:=List.all_eq_true.mp h c hc
 unfold jS at this
 simpa using this
theorem BJ {l:List Nat} (h:mT l=true):cB l≠[]/\NumText.AllDigits (cB l)/\(cB l).length<=60/\((cB l).head?=some 48->l=[48]):=by
 simp only [mT,Bool.and_eq_true,Bool.not_eq_true',List.isEmpty_eq_false_iff,decide_eq_true_eq,Bool.and_eq_false_imp,decide_eq_false_iff_not,ne_eq,Classical.not_not] at h
 exact ⟨h.1.1.1,CU h.1.1.2,h.1.2,h.2⟩
theorem wB {t:Str} (h:mT t.cps.toList=true):t.length<=61:=by
 obtain ⟨h1,h2,h3,h4⟩:=BJ h
 have hl:t.length=t.cps.toList.length:=by simp [Str.length]
 rw [hl]
 cases e:t.cps.toList with
 | nil=>simp
 | cons c r=>
   by_cases z:c=45
   . subst z
     rw [e] at h3
     simp only [cB] at h3
     rw [List.length_cons];omega
   . rw [e,mU (by simp [z])] at h3
     omega
theorem BK {t:Str} (h:mT t.cps.toList=true):PySem.intText? t=some (G6 t.cps.toList):=by
 have hlen:=wB h
 obtain ⟨h1,h2,h3,h4⟩:=BJ h
 cases e:t.cps.toList with
 | nil=>rw [e] at h1;exact absurd rfl h1
 | cons c r=>
   by_cases z:c=45
   . subst z
     rw [e] at h1 h2
     exact PySem.intText_neg e h2 h1 (by omega)
   . have n45:(c::r).head?≠some 45:=by simp [z]
     rw [G7 n45,<- e]
     rw [e,mU n45,<- e] at h2
     exact PySem.intText_digits h2 (by rw [e];simp) (by omega)
end L2
set_option Elab.async false
set_option linter.all false
set_option maxRecDepth 100000
set_option maxHeartbeats 4000000
namespace L2
open PySem PySem.Spec PyProof.Rows
end L2
set_option Elab.async false
set_option linter.all false
set_option maxRecDepth 100000
set_option maxHeartbeats 4000000
namespace L2
open PySem PySem.Spec PyProof.Rows PySem.W PySem.AutoSeq1 PySem.MeetsSeq
section
variable {P:Program} {w:World} {A:Around} {E:Value->Shared->Prop} {s:Shared} {K:PySem.W.Frag} {x C:Addr} {ox:Obj} {od:Option Obj}
end
section
variable {X:Cx} {pins:List (Addr×Obj)} {σ:St} {H:Hp} {s:Shared} {A:Around} {E:Value->Shared->Prop} {x C dx:Addr} {fs:List (Str×V)}
end
section
variable {X:Cx}
end
end L2
set_option Elab.async false
set_option linter.all false
set_option maxRecDepth 100000
set_option maxHeartbeats 4000000
namespace L2
open PySem PySem.Spec PyProof.Rows
def JH (x:Str):It:=⟨fun i _=>i < x.cps.size,fun i H v H'=>H'=H/\∃ c,x.cps[i]?=some c/\v=.str ⟨#[c]⟩,fun i _=>x.cps.size<=i⟩
theorem CV {P:Program} {w:World} {K:PySem.W.Frag} {tg:Expr} (x:Str) (t:Tok) (it:Addr) (ty:String) (Bu:ty="str_ascii_iterator"∨ty="str_iterator"):Turn P w K tg (JH x) [it] it (fun i h=>h.IsStrIter it ty x t i) where
 mem:=by simp
 obj:=fun i h st b hb=>by
   have e:b=it:=by simpa using hb
   subst e
   obtain ⟨o,e,c,d⟩:=st
   exact ⟨o,e,fun v z=>by rw [d] at z;cases z⟩
 keep:=fun i h h' st k=>by
   obtain ⟨o,e,c,d⟩:=st
   exact ⟨o,k it (by simp) o e,c,d⟩
 item:=by
   intro X hP hw hK hc i pins s σ H E I hf st hg
   subst hP hw hK
   obtain ⟨f0,f1,f2,f3,f4,f5⟩:=hf it (by simp)
   have hx:x.cps[i]?=some (x.cps[i]'hg):=Array.getElem?_eq_getElem hg
   have fin:∀ h',h'.IsStrIter it ty x t (i + 1)->Heap.SameBut it s.heap h'->∃ u,some (Value.str ⟨#[x.cps[i]'hg]⟩ s.toks)=some u/\
     wpAny (model X.prog X.w) X.A (letOwnedTupleGo tg (.ref it) u) (fun _ s2=>∃ y H',Inv X pins σ H' s2/\RelV y u/\(JH x).HL i H y H'/\s2.heap.IsStrIter it ty x t (i + 1)/\∀ b∈[it],H' b=none) E { s with heap:=h',toks:=s.toks + 1 }:=fun h' st' sb=>by
     have I1:Inv X pins σ H { s with heap:=h',toks:=s.toks + 1 }:=I.turned (fun b o hb e=>(sb.2 b hb).trans e) f0 f1 f3 f4 f5
     obtain ⟨o,e,c,d⟩:=id st'
     exact ⟨_,rfl,yx (s:={ s with heap:=h',toks:=s.toks + 1 }) e c d (by rcases Bu with rfl | rfl <;> decide) ⟨.str ⟨#[x.cps[i]'hg]⟩,H,I1,⟨_,rfl⟩,⟨rfl,_,hx,rfl⟩,st',fun b hb=>(hf b hb).1⟩⟩
   rcases Bu with rfl | rfl
   . exact wpAny_pyNext_ascii_item st hx fin
   . exact wpAny_pyNext_wide_item st hx fin
 done:=by
   intro X hP hw hK hc i pins s σ H E I hf st hg
   subst hP hw hK
   obtain ⟨f0,f1,f2,f3,f4,f5⟩:=hf it (by simp)
   have hx:x.cps[i]?=none:=Array.getElem?_eq_none hg
   rcases Bu with rfl | rfl
   . exact wpAny_pyNext_ascii_end (I.ok.hd hc) st hx fun h' eb=>⟨rfl,I.turned (t':=s.toks) (fun b o hb e=>eb b o hb e) f0 f1 f3 f4 f5⟩
   . exact wpAny_pyNext_wide_end (I.ok.hd hc) st hx fun h' eb=>⟨rfl,I.turned (t':=s.toks) (fun b o hb e=>eb b o hb e) f0 f1 f3 f4 f5⟩
 self:=fun _ _ _ _ _ st h=>by
   rcases Bu with rfl | rfl
   . exact wpAny_pyIter_striter_ascii st h
   . exact wpAny_pyIter_striter_wide st h
section
variable {X:Cx}
def EH (tl:TE):TI:=fun σ H R=>tl σ H fun v H1=>∃ x:Str,v=.str x/\R (JH x) H1
theorem L5 {tg l:Expr} {tl:TE} (hl:JE X l tl):JI X tg l (EH tl):=⟨by
 intro pins s σ H R I h
 refine dZ (hl.h pins s σ H _ I h) fun v s1 ⟨y,H1,I1,r1,q1⟩=>?_
 obtain ⟨x,rfl,q⟩:=q1
 obtain ⟨t,rfl⟩:=r1
 have fin:∀ ty,(ty="str_ascii_iterator"∨ty="str_iterator")->Qx X pins σ tg R (.ref s1.heap.objs.size) { s1 with heap:=s1.heap.push { cls:=.type ty,data:=.fields #[.str x t,.int 0 0] } }:=fun ty Bu=>
   ⟨s1.heap.objs.size,[s1.heap.objs.size],_,_,H1,rfl,I1.kept (t':=s1.toks) fun b o e=>Heap.get?_push_of_some _ e,CV x t _ ty Bu,⟨_,Heap.get?_push_size _ rfl,rfl,rfl⟩,fun b hb=>by
     have e:b=s1.heap.objs.size:=by simpa using hb
     subst e
     exact I1.yw (Nat.le_refl _) (I1.cX.fresh (Nat.le_refl _)),q⟩
 cases ha:x.cps.all (· < 128) with
 | true=>exact wpAny_pyIter_ascii ha (fin _ (.inl rfl))
 | false=>exact wpAny_pyIter_wide ha (fin _ (.inr rfl))⟩
theorem JJ:kU X (compareOp .In) (fun x y H Q=>∃ a b,x=.str a/\y=.str b/\Q (.bl (Txt.contains b a)) H):=by
 intro pins s σ H x y v u Q I rx ry h
 obtain ⟨a,b,rfl,rfl,q⟩:=h
 obtain ⟨t,rfl⟩:=rx
 obtain ⟨t2,rfl⟩:=ry
 exact SB.contains ⟨.bl _,H,I,rfl,q⟩
theorem qm:kU X (compareOp .NotIn) (fun x y H Q=>∃ a b,x=.str a/\y=.str b/\Q (.bl (!Txt.contains b a)) H):=by
 intro pins s σ H x y v u Q I rx ry h
 obtain ⟨a,b,rfl,rfl,q⟩:=h
 obtain ⟨t,rfl⟩:=rx
 obtain ⟨t2,rfl⟩:=ry
 exact SB.notContains ⟨.bl _,H,I,rfl,q⟩
end
section
variable {K:PySem.W.Frag} {g:TG} {tt:TT} {te:TE} {D:Addr} {Q:Hp->Prop} {σ:St} {H:Hp} {x:Str} {tb:TS} {DD:Ends}
theorem tD {tl:TE} {src:List (Option Nat)} {Q:VK}:HZ K (EH tl) src g tt te σ H Q=tl σ H (fun v H1=>∃ x:Str,v=.str x/\∀ D,L2.new K H1 D->cA (JH x) g tt te D (fun H'=>Q (.ref D) H') (pick σ src) (upd H1 D (.lst []))):=rfl
theorem qo {tl:TE}:uo (EH tl) g tb DD σ H=tl σ H (fun v H1=>∃ x:Str,v=.str x/\Loop (JH x) g tb DD σ H1):=rfl
theorem G9 (Pv:Nat->List V->St->Hp->Prop) (h0:Pv 0 [] σ H)
   (hs:∀ i c acc σ H,x.cps.toList[i]?=some c->Pv i acc σ H->g (.str ⟨#[c]⟩) σ H fun σ2 H2=>tt σ2 H2 fun b H3=>if b=true then te σ2 H3 fun v H4=>H4 D=some (.lst acc)/\acc.length < sizeLine/\Pv (i + 1) (acc++[v]) σ2 (upd H4 D (.lst (acc++[v]))) else Pv (i + 1) acc σ2 H3)
   (hd:∀ acc σ H,Pv x.cps.toList.length acc σ H->Q H):cA (JH x) g tt te D Q σ H:=by
 refine mS (n:=x.cps.toList.length) Pv h0 (fun i acc σ H hi h=>by show i < x.cps.size;simpa using hi) (fun acc σ H h=>by show x.cps.size<=_;simp) (fun i acc σ H v H' hi h hy=>?_) hd
 obtain ⟨rfl,c,hc,rfl⟩:=hy
 exact hs i c acc σ _ (by rw [Array.getElem?_toList];exact hc) h
theorem EI {p:Nat->Bool} {v0:Option V} {rest:St} (nD:new K H D) (hz:x.length<=16777216)
   (test:∀ c∈x.cps.toList,∀ H' (R:Bool->Hp->Prop),R (p c) H'->tt (some (.str ⟨#[c]⟩)::rest) H' R)
   (elt:∀ c∈x.cps.toList,∀ H' (R:VK),R (.str ⟨#[c]⟩) H'->te (some (.str ⟨#[c]⟩)::rest) H' R)
   (fin:∀ H',H' D=some (.lst ((x.cps.toList.filter p).map fun c=>V.str ⟨#[c]⟩))->Ext K H H'->Q H'):cA (JH x) (dw 0) tt te D Q (v0::rest) (upd H D (.lst [])):=by
 refine G9 (fun i acc σ' H'=>∃ (v0:Option V),σ'=v0::rest/\H' D=some (.lst acc)/\acc=((x.cps.toList.take i).filter p).map (fun c=>V.str ⟨#[c]⟩)/\Kp K D (upd H D (.lst [])) H') ?_ ?_ ?_
 . exact ⟨_,rfl,ah,rfl,Kp.refl⟩
 . rintro i c acc σ' H' hc ⟨v0,rfl,hD,rfl,k⟩
   have mc:=List.mem_of_getElem? hc
   have hlen:(((x.cps.toList.take i).filter p).map fun c=>V.str ⟨#[c]⟩).length < sizeLine:=by
     rw [List.length_map]
     have h1:=List.length_filter_le p (x.cps.toList.take i)
     have h2:i < x.cps.toList.length:=(List.getElem?_eq_some_iff.mp hc).1
     have h3:x.length=x.cps.toList.length:=by simp [Str.length]
     have h4:=sizeLine_eq
     rw [List.length_take] at h1
     omega
   unfold dw
   refine test c mc H' _ ?_
   rw [List.take_add_one,hc,Option.toList_some,List.filter_append]
   cases e:p c with
   | true=>
     rw [if_pos rfl]
     refine elt c mc H' _ ⟨hD,hlen,_,rfl,ah,?_,k.trans (Kp.upd hD)⟩
     rw [List.map_append]
     simp [e]
   | false=>
     rw [if_neg (by decide)]
     exact ⟨_,rfl,hD,by simp [e],k⟩
 . rintro acc σ' H' ⟨v0,rfl,hD,rfl,k⟩
   rw [List.take_length] at hD
   exact fin H' hD (k.ext nD)
end
theorem bB.quiet {P:Program} {w:World} {K:PySem.W.Frag} {mg:Str->Option Value} {base:Heap} {k:Nat} {f:Addr} {fd:FuncData} {ps:List Str} {sp HP:Sp} (F:bB P w K mg base (BI P w) k f fd ps sp)
   (h:∀ vs H Q E,HP vs H Q E->sp vs H Q fun _ _ _=>False):bB P w K mg base fC k f fd ps HP:=
 ⟨fun vs H Q E q=>F.len vs H Q _ (h _ _ _ _ q),fun A outer s H args us vs Q E hr he hb hv hs=>codeAny_mono (F.run A outer s H args us vs Q _ hr he hb hv (h _ _ _ _ hs)) fun r s' z=>by
   cases r with
   | ok fl=>cases fl <;> exact z
   | error e=>
     obtain ⟨_,_,_,_,_,_,_,_,_,_,_,_,_,_,q⟩:=z
     exact q⟩
theorem oZ.quiet {P:Program} {w:World} {K:PySem.W.Frag} {mg:Str->Option Value} {base:Heap} {x:Str} {k:Nat} {ps:List Str} {sp HP:Sp} (C:oZ P w K mg base x k ps sp)
   (h:∀ vs H Q E,HP vs H Q E->sp vs H Q fun _ _ _=>False):Callee P w K mg base x k ps HP:=by
 obtain ⟨f,fd,F,b,kp,m⟩:=C.ex
 exact ⟨f,fd,F.quiet h,b,kp,m⟩
end L2
set_option Elab.async false
set_option linter.all false
set_option maxRecDepth 100000
set_option maxHeartbeats 4000000
namespace L2
open PySem PySem.Spec PyProof.Rows
structure FnAt (P:Program) (w:World) (K:PySem.W.Frag) (mg:Str->Option Value) (base:Heap) (k:Nat) (ps:List Str) (sp:Sp) (f:Addr):Prop where
 ex:∃ fd:FuncData,bB P w K mg base fC k f fd ps sp/\Binds K fd ps []/\PySem.W.keepIn K (.ref f)=true
def wC (f:Addr) (sp:Sp) (te:TE) (t:TA):TE:=fun σ H Q=>te σ H fun v H1=>v=.ref f/\t σ H1 fun vs H2=>sp vs H2 Q E0
section
variable {X:Cx}
theorem JK {y:Str} {k:Nat} {ps:List Str} {sp:Sp} {f:Addr} {e:Expr} {es:List Expr} {te:TE} {t:TA} {p pos:Pos} (C:FnAt X.prog X.w X.K X.mg X.base k ps sp f) (hr:jx k X.A) (hn:JE X (.Name y p) te) (ha:JA X (e::es) t)
   (he:starEach (e::es) X.env=(false,eval e X.env)::starEach es X.env:=by rfl) (yh:(backTo pos (starEach es X.env)).any (·.1)=false:=by rfl):
   JE X (.Call (.Name y p) (e::es) [] pos) (wC f sp te t):=⟨by
 intro pins s σ H Q I h
 obtain ⟨fd,F,hb,hk⟩:=C.ex
 refine wpAny_Call_Name_kw (dZ (hn.h pins s σ H _ I h) fun u s1 ⟨v,H1,I1,r,e1,q⟩=>?_)
 subst e1
 cases r
 refine PySem.W.callWith_K (h₀:=X.base) I1.ok.mod.HG hk (dZ (ha.h pos pins s1 σ H1 _ I1 q) fun us s2 ⟨vs,H2,I2,r,q⟩=>⟨I2.qG,?_⟩) he yh
 exact DS F hr hb .nil HX I2 r (by simpa using q)⟩
def rS:V->List V->Hp->VK->Prop:=fun x vs H Q=>∃ a b,x=.str a/\vs=[.str b]/\Q (.bl (Txt.startswith a b)) H
theorem uw:DV X "str.startswith" rS:=by
 intro pins s σ H x vs v us Q I rx rv h
 obtain ⟨a,b,rfl,rfl,q⟩:=h
 obtain ⟨t,rfl⟩:=rx
 obtain ⟨u,rfl,ru⟩:=vals1 rv
 obtain ⟨t2,rfl⟩:=ru
 exact call_meets PySem.F.slot_str_startswith (typeIs_str _ _ _) PySem.F.entry_str_startswith (PySem.F.args_str_startswith_2 _ _) (gives_str_startswith a b t t2).meets (show (Made.val _).post _ s from ⟨.bl _,H,I,rfl,q⟩)
end
def EJ (K:PySem.W.Frag) (x:Str):It:=⟨fun i _=>i < x.cps.size,fun i H v H'=>∃ T c,L2.new K H T/\x.cps[i]?=some c/\v=.ref T/\H'=upd H T (.tup [.int i,.str ⟨#[c]⟩]),fun i _=>i=x.cps.size⟩
theorem AA {P:Program} {w:World} {K:PySem.W.Frag} {es:List Expr} {k:Nat} {tp:Pos} (x:Str) (t:Tok) (e it:Addr) (ne:e≠it):Turn P w K (.Tuple es k tp) (EJ K x) [e,it] e (fun i h=>(∃ old,IsEnum h e it ((i:Nat):Int) old)/\h.IsStrIter it (strIterType x) x t i) where
 mem:=by simp
 obj:=fun i h st b hb=>by
   simp only [List.mem_cons,List.not_mem_nil,or_false] at hb
   rcases hb with rfl | rfl
   . obtain ⟨⟨old,g⟩,_⟩:=st
     exact ⟨_,g,fun v z=>by cases z⟩
   . obtain ⟨_,o,g,c,d⟩:=st
     exact ⟨o,g,fun v z=>by rw [d] at z;cases z⟩
 keep:=fun i h h' st kk=>⟨let ⟨old,g⟩:=st.1;⟨old,kk e (by simp) _ g⟩,let ⟨o,g,r⟩:=st.2;⟨o,kk it (by simp) o g,r⟩⟩
 item:=by
   intro X hP hw hK hc i pins s σ H E I hf st hg
   subst hP hw hK
   obtain ⟨⟨old,he⟩,hit⟩:=st
   have D:Draws X.prog X.w X.A.in1 it [it] x.cps.size (fun i v=>∃ c u,x.cps[i]?=some c/\v=.str ⟨#[c]⟩ u) (fun i h=>h.IsStrIter it (strIterType x) x t i):=by
     unfold strIterType
     split
     . exact Draws.strAscii (show X.A.in1.handled=none from I.ok.hd hc) it x t
     . exact Draws.strWide (show X.A.in1.handled=none from I.ok.hd hc) it x t
   refine wpAny_pyNext_enum_itemD D he hit hg ne (by simpa using ne) fun u h1 tk hu he1 hit1 gT sz kp=>?_
   obtain ⟨c,tu,hc',rfl⟩:=hu
   refine ⟨_,rfl,wpAny_letOwnedTupleGo_enum he1 fun h2 he2 sb=>?_⟩
   have ltE:e < s.heap.objs.size:=Heap.lt_size he
   have LW:h2.get? s.heap.objs.size=some { cls:=.type "tuple",data:=.seq #[.int i tk,.str ⟨#[c]⟩ tu] }:=(sb.2 _ (Nat.ne_of_gt ltE)).trans gT
   have I1:Inv X pins σ (upd H s.heap.objs.size (.tup [.int i,.str ⟨#[c]⟩])) { s with heap:=h2,toks:=tk + 1 }:=by
     refine I.wg (ch:=[e,it]) (fun b o hb g=>?_) hf (Nat.le_refl _) ⟨(show 2<=sizeLine by decide),[.int i tk,.str ⟨#[c]⟩ tu],.cons ⟨_,rfl⟩ (.cons ⟨_,rfl⟩ .nil),_,LW,rfl,_,rfl⟩
     simp only [List.mem_cons,List.not_mem_nil,or_false,not_or] at hb
     exact (sb.2 b hb.1).trans (kp b o hb.1 hb.2 g)
   refine ⟨.ref s.heap.objs.size,_,I1,rfl,⟨_,c,⟨I.cX.fresh (Nat.le_refl _),I1.nZ ah⟩,hc',rfl,rfl⟩,⟨⟨_,by simpa using he2⟩,let ⟨o,g,r⟩:=hit1;⟨o,(sb.2 it (Ne.symm ne)).trans g,r⟩⟩,fun b hb=>?_⟩
   have ltb:b < s.heap.objs.size:=by
     simp only [List.mem_cons,List.not_mem_nil,or_false] at hb
     rcases hb with rfl | rfl
     . exact ltE
     . obtain ⟨o,g,_⟩:=hit
       exact Heap.lt_size g
   rw [aJ (Nat.ne_of_lt ltb)]
   exact (hf b hb).1
 done:=by
   intro X hP hw hK hc i pins s σ H E I hf st hg
   subst hP hw hK
   obtain ⟨⟨old,he⟩,hit⟩:=st
   obtain ⟨f0,f1,f2,f3,f4,f5⟩:=hf it (by simp)
   have D:Draws X.prog X.w X.A.in1 it [it] x.cps.size (fun i v=>∃ c u,x.cps[i]?=some c/\v=.str ⟨#[c]⟩ u) (fun i h=>h.IsStrIter it (strIterType x) x t i):=by
     unfold strIterType
     split
     . exact Draws.strAscii (show X.A.in1.handled=none from I.ok.hd hc) it x t
     . exact Draws.strWide (show X.A.in1.handled=none from I.ok.hd hc) it x t
   obtain rfl:i=x.cps.size:=hg
   exact wpAny_pyNext_enum_endD D he hit fun h' eb=>⟨rfl,I.turned (t':=s.toks) (fun b o hb g=>eb b o hb g) f0 f1 f3 f4 f5⟩
 self:=fun _ _ _ _ _ st h=>let ⟨_,g⟩:=st.1;wpAny_pyIter_enum g h
section
variable {X:Cx}
def EK (K:PySem.W.Frag) (tl:TA):TI:=fun σ H R=>tl σ H fun vs H1=>∃ x:Str,vs=[.str x]/\R (EJ K x) H1
theorem JL {l:Expr} {t:TA} {es:List Expr} {k:Nat} {p pos tp:Pos} (hg:Gl X "enumerate") (hm:X.mg "enumerate"=none) (ha:JA X [l] t) (hs:starEach [l] X.env=(false,eval l X.env)::starEach [] X.env:=by rfl):
   JI X (.Tuple es k tp) (.Call (.Name "enumerate" p) [l] [] pos) (EK X.K t):=⟨by
 intro pins s σ H R I h
 refine Call_ (pV I hg hm vV (PyProof.Rows.callWith_type1 (dZ (ha.h pos pins s σ H _ I h) fun us s1 ⟨vs,H1,I1,r1,q1⟩=>?_) hs rfl))
 obtain ⟨x,rfl,q⟩:=q1
 obtain ⟨u,rfl,ru⟩:=vals1 r1
 obtain ⟨tk,rfl⟩:=ru
 refine call_enumerate_str fun h2 he hit sz kp=>?_
 have I2:Inv X pins σ H1 { s1 with heap:=h2 }:=I1.kept (t':=s1.toks) kp
 refine wpAny_pyIter_enum he ⟨_,[s1.heap.objs.size + 1,s1.heap.objs.size],_,EJ X.K x,H1,rfl,I2,AA x tk _ _ (Nat.succ_ne_self _),⟨⟨_,he⟩,hit⟩,fun b hb=>?_,q⟩
 simp only [List.mem_cons,List.not_mem_nil,or_false] at hb
 have le:s1.heap.objs.size<=b:=by
   rcases hb with rfl | rfl
   . exact Nat.le_succ _
   . exact Nat.le_refl _
 exact I1.yw le (I1.cX.fresh le)⟩
end
section
variable {K:PySem.W.Frag} {g:TG} {tb:TS} {DD:Ends} {σ:St} {H:Hp} {x:Str}
theorem oj {ta:TA}:uo (EK K ta) g tb DD σ H=ta σ H (fun vs H1=>∃ x:Str,vs=[.str x]/\Loop (EJ K x) g tb DD σ H1):=rfl
end
section
variable {prog:Program} {w:World} {A:Around} {E:Value->Shared->Prop} {s:Shared}
theorem yY {l:Addr} {items:Array Value} {Q:List Value->Shared->Prop} (hh:A.handled=none) (hl:s.heap.IsList l items)
   (hQ:∀ h',Heap.ExtBut s.heap.objs.size s.heap h'->Q items.toList { s with heap:=h' }):wpAny (model prog w) A (unpackItems (.ref l) items.size none) Q E s:=by
 have ug:l≠s.heap.objs.size:=by obtain ⟨o,ho,_⟩:=hl;exact Nat.ne_of_lt (Heap.lt_size ho)
 unfold unpackItems
 refine wpAny_bind ?_
 unfold notIterableAtAll
 refine wpAny_bind (wpAny_specialOf hl.typeIs slot_list_iter.lookup ?_)
 refine wpAny_pure ?_
 simp only [Bool.false_eq_true,if_false]
 refine wpAny_bind (wpAny_holding (wpAny_pyIter_list hl ?_))
 refine wpAny_bind (wpAny_holding (PySem.W.kun_draw ug items.size 0 _ _ ⟨_,Heap.get?_push_size _ rfl,rfl,rfl⟩ (hl.push _) (by omega) fun h₁ hit₁ hs₁=>?_))
 have Ji:List.take items.size (List.drop 0 items.toList)=items.toList:=by
   rw [List.drop_zero];exact List.take_of_length_le (by simp)
 rw [Ji,if_neg (by simp)]
 have hl₁:h₁.IsList l items:=(hl.push _).extBut hs₁.extBut ug
 refine wpAny_bind (wpAny_holding (wpAny_pyNext_list_end hh hit₁ hl₁ (by simp) fun h₂ he₂=>?_))
 simp only [Option.isSome_none,Bool.false_eq_true,if_false]
 exact wpAny_pure (hQ h₂ fun b o hb e=>he₂ b o hb (hs₁.extBut b o hb (Heap.get?_push_of_some _ e)))
end
section
variable {X:Cx} {es:List Expr} {pos:Pos}
def BL (K:PySem.W.Frag) (n:Nat) (t:zV):TG:=fun v σ H Q=>∃ a xs,v=.ref a/\bC K H a xs/\xs.length=n/\t xs σ H Q
theorem yZ {k:Nat} {t:zV} {n:Nat} (hc:X.calm=true) (h:K2 X es t)
   (hn:(assignEach es X.env).length=n:=by rfl) (um:(assignEach es X.env).findIdx? (·.1)=none:=by rfl):JG X (.Tuple es k pos) (BL X.K n t):=⟨by
 intro pins s σ H v u Q I r hw
 obtain ⟨a,xs,e1,hq,hl,hw⟩:=hw
 subst e1
 cases r
 obtain ⟨its,rv,ht,hz⟩:=I.list hq
 rw [assign_Tuple]
 refine wpAny_bind (wpAny_standAt ?_)
 unfold unpack
 rw [um,show (assignEach es X.env).length=its.toArray.size from by simp [hn,<- hl,rv.length]]
 refine wpAny_bind (wpAny_holding (yY (I.ok.hd hc) ht.isList fun h' hx=>?_))
 have I1:Inv X pins σ H { s with heap:=h' }:=I.kept (t':=s.toks) fun b o e=>hx b o (Nat.ne_of_lt (Heap.lt_size e)) e
 exact h.h pins _ σ H xs _ Q I1 (by simpa using rv) hw⟩
end
section
variable {K:PySem.W.Frag} {ta:TA} {g:TG} {tb:TS} {DD:Ends} {σ:St} {H:Hp} {a b D:Addr} {xs ys:List V} {tt:TT} {te:TE} {Q:Hp->Prop} {n:Nat}
theorem qp:uo (EC K ta) g tb DD σ H=ta σ H (fun vs H1=>∃ a b,vs=[.ref a,.ref b]/\(((∃ xs,bC K H1 a xs)/\(∃ ys,bC K H1 b ys)/\Loop (Ib K a b) g tb DD σ H1)∨((∃ xs,mw K H1 a xs)/\(∃ ys,mw K H1 b ys)/\Loop (Ar K a b) g tb DD σ H1))):=rfl
theorem Hf (Pv:Nat->List V->St->Hp->Prop) (e1:n<=xs.length) (e2:n<=ys.length) (e3:xs.length<=n∨ys.length<=n) (h0:Pv 0 [] σ H) (hl:∀ i acc σ H,i<=n->Pv i acc σ H->bC K H a xs/\bC K H b ys)
   (hs:∀ i x y acc σ H T,xs[i]?=some x->ys[i]?=some y->Pv i acc σ H->L2.new K H T->g (.ref T) σ (upd H T (.tup [x,y])) fun σ2 H2=>tt σ2 H2 fun b H3=>if b=true then te σ2 H3 fun v H4=>H4 D=some (.lst acc)/\acc.length < sizeLine/\Pv (i + 1) (acc++[v]) σ2 (upd H4 D (.lst (acc++[v]))) else Pv (i + 1) acc σ2 H3)
   (hd:∀ acc σ H,Pv n acc σ H->Q H):cA (Ib K a b) g tt te D Q σ H:=by
 refine mS (n:=n) Pv h0 (fun i acc σ H hi h=>?_) (fun acc σ H h=>?_) (fun i acc σ H x H' hi h hy=>?_) hd
 . obtain ⟨q1,q2⟩:=hl i acc σ H (Nat.le_of_lt hi) h
   exact ⟨xs,ys,xs[i],ys[i]'(by omega),q1,q2,List.getElem?_eq_getElem _,List.getElem?_eq_getElem _⟩
 . obtain ⟨q1,q2⟩:=hl _ acc σ H (Nat.le_refl _) h
   exact ⟨xs,ys,q1,q2,e3⟩
 . obtain ⟨q1,q2⟩:=hl i acc σ H (Nat.le_of_lt hi) h
   obtain ⟨T,v,u,nT,hv,hu,rfl,rfl⟩:=hy
   exact hs i v u acc σ H T (hv xs q1) (hu ys q2) h nT
end
section
variable {K:PySem.W.Frag} {g:TG} {tb:TS} {DD:Ends} {σ:St} {H:Hp} {x:Str}
theorem AB (Pv:Nat->St->Hp->Prop) (h0:Pv 0 σ H)
   (hs:∀ i c σ H T,x.cps.toList[i]?=some c->Pv i σ H->L2.new K H T->g (.ref T) σ (upd H T (.tup [.int i,.str ⟨#[c]⟩])) fun σ2 H2=>tb { DD with nx:=Pv (i + 1),ct:=Pv (i + 1),bk:=DD.nx } σ2 H2) (hd:∀ σ H,Pv x.cps.toList.length σ H->DD.nx σ H):Loop (EJ K x) g tb DD σ H:=by
 refine ⟨fun i m σ H=>m=x.cps.toList.length - i/\i<=x.cps.toList.length/\Pv i σ H,⟨x.cps.toList.length,by simp,Nat.zero_le _,h0⟩,?_⟩
 rintro i m σ H ⟨rfl,hi,p⟩
 by_cases ug:i < x.cps.toList.length
 . refine .inr ⟨by show i < x.cps.size;simpa using ug,Pv (i + 1),fun σ' H' p'=>⟨x.cps.toList.length - (i + 1),by omega,rfl,ug,p'⟩,fun v H' y=>?_⟩
   obtain ⟨T,c,nT,hc,rfl,rfl⟩:=y
   exact hs i c σ _ T (by rw [Array.getElem?_toList];exact hc) p nT
 . have e:i=x.cps.toList.length:=by omega
   subst e
   exact .inl ⟨by show x.cps.toList.length=x.cps.size;simp,hd σ H p⟩
end
end L2
set_option Elab.async false
set_option linter.all false
set_option maxRecDepth 100000
set_option maxHeartbeats 4000000
namespace L2
open PySem PySem.Spec PyProof PyProof.Rows
def tH (CX:uT) (X:Cx) (E:XK) (σ:St):Prop:=∀ (pins:List (Addr×Obj)) (H:Hp) (s:Shared) (e:Value) (s':Shared),Inv X pins σ H s->CX X.stack H s E e s'->X.xe e s'
def JM (K:PySem.W.Frag) (C:Addr) (D:Ends) (σ:St) (H:Hp):List (Addr×Nat×TS)->Prop
 | []=>False
 | (CF,i,ts)::r=>(PySem.W.exmOne K (.ref C) (.ref CF)=some true/\∀ a,L2.new K H a->ts (D.gone i) (σ.set i (some (.ref a))) (upd H a (.ext (vj a C))))∨(PySem.W.exmOne K (.ref C) (.ref CF)=some false/\JM K C D σ H r)
inductive AD (X:Cx):List ExceptHandler->List (Addr×Nat×TS)->Prop
 | nil:AD X [] []
 | cons {x n:Str} {CF:Addr} {i:Nat} {np hp:Pos} {EL:List Stmt} {b0:Stmt} {ts:TS} {r:List ExceptHandler} {rs:List (Addr×Nat×TS)} (hi:X.N[i]?=some n) (hl:X.env.kindOf n=some .local) (hg:Gl X x) (hm:X.mg x=some (.ref CF))
     (hs:∀ (a:Addr) (xe:Value->Shared->Prop) (pn:List (Addr×Obj)),JB (X.sY a xe pn) (b0::EL) ts) (hr:AD X r rs) (uU:(x==("__debug__":Str))=false:=by decide):AD X (.ExceptHandler (some (.Name x np)) (some n) (b0::EL) hp::r) ((CF,i,ts)::rs)
section
variable {X:Cx}
def BN (K:PySem.W.Frag) (hs:List (Addr×Nat×TS)) (tb:St->XK->TS):TS:=fun D σ H=>
 tb σ (fun cls _ H'=>∃ C,cls=.ref C/\oX K C/\JM K C D σ H' hs) D σ H
theorem AE {pins:List (Addr×Obj)} {σ:St} {H1 H':Hp} {s1:Shared} {h':Heap} {B:Heap} {a C:Addr} {a0:Value} {D:Ends} (hN:X.N.Nodup) (um:X.stack=X.env::X.outer/\X.env.frame=some X.env.locals) (hex:X.ex=[])
   {g':_} {d':_} {t':_} {Gy:_} (J:Inv X pins σ H1 s1) (na:s1.heap.get? a=none) (cX:nE X.prog X.w H' B) (F:oX X.K C)
   (mk:∀ {h6:Heap},Heap.FlyingW B (X.env::X.outer) a (.ref C) a0 h6->h'.UpToSlots h6->Inv X pins σ H' ⟨h6,g',d',t',Gy⟩):
   ∀ {JN:List ExceptHandler} {hs:List (Addr×Nat×TS)},AD X JN hs->JM X.K C D σ H' hs->∀ {h5:Heap},Heap.FlyingW B (X.env::X.outer) a (.ref C) a0 h5->h'.UpToSlots h5->wpAny (model X.prog X.w) X.A (handleBy (.ref a) X.env JN) (SP X pins D) X.xe ⟨h5,g',d',t',Gy⟩:=by
 intro JN hs hh
 induction hh with
 | nil=>intro k;exact k.elim
 | @cons x n CF i np hp EL b0 ts r rs hi hl hg hm hsu hr uU ih=>
   intro k h5 fl5 up5
   have J5:=mk fl5 up5
   have xa:∀ {h6:Heap},Heap.FlyingW B (X.env::X.outer) a (.ref C) a0 h6->vj a C h6:=fun fl6=>fl6.there
   refine wpAny_handleBy_cons (codeAny_handlers_test (Calls.Name_function_global J5.ok.kind hg (Calls.loadGlobal_global (by rw [J5.ok.glob];exact J5.mod.glob.keeps J5.bk) hm ?_) uU)) (by intro q;cases q)
   rcases k with ⟨hx,k⟩ | ⟨hx,k⟩
   . refine (PySem.W.exm_one J5.qG (xa fl5).ty hx).at ?_
     show codeAny _ _ _ _ _
     refine codeAny_handlers_suite_as ?_
     refine lands_againW fl5 fun h6 fl6 up6=>?_
     have J6:=mk fl6 (up5.trans up6)
     have ex:∀ b o,s1.heap.get? b=some o->b≠a:=fun b o e z=>by rw [z,na] at e;cases e
     have aL:X.env.locals≠a:=by
       obtain ⟨m,⟨o,_,_,e,_⟩,_⟩:=J.loc
       exact ex _ o e
     have aC:∀ y c,X.env.cells.lookup y=some c->c≠a:=fun y c e=>by
       obtain ⟨v,o,q,_⟩:=J.cell y c e
       exact ex c o q
     have hH:H' a=none:=by
       cases q:H' a with
       | none=>rfl
       | some u=>
         obtain ⟨o,e⟩:=JC (cX a u q)
         have:=fl5.2.1
         rw [this] at e
         cases e
     refine uR J6 hN hi (.inl hl) (v:=.ref a) rfl (fun s7 J7 sm=>?_) (.inr hl)
     have x7:vj a C s7.heap:=by
       obtain ⟨b,sb,hb⟩:=sm
       obtain ⟨o,e,c⟩:=xa fl6
       refine ⟨o,(sb.2 a ?_).trans e,c⟩
       rcases hb with rfl | hb
       . exact aL.symm
       . exact (aC _ _ hb).symm
     have J9:=J7.L1 (a:=a) (o:=.ext (vj a C)) hH (by
       cases q:X.s₀.heap.get? a with
       | none=>rfl
       | some o=>
         obtain ⟨o',e⟩:=J.base.there a o q (by rw [hex];simp)
         exact absurd rfl (ex a o' e)) aL.symm aC (fun p hp=>ex p.1 p.2 (J.pin p hp).1) ⟨x7,(let ⟨o,e,_⟩:=x7;⟨o,e⟩),fun h1 h2 ⟨o,e,c⟩ k=>⟨o,k o e,c⟩⟩
     have nw:=k a ⟨hH,J9.nZ ah⟩
     refine wpAny_mono ((hsu a _ (X.pn++pins)).h [] s7 _ _ (D.gone i) (J9.sY (a:=a)) nw) (fun f s8 q=>?_) fun _ _ z=>z
     cases f with
     | next=>
       obtain ⟨σ',H2,JA,q⟩:=q
       exact name_goes (JA.uncaught J.ok) hN hi hl fun s' JB=>⟨_,_,JB,q⟩
     | brk=>
       obtain ⟨σ',H2,JA,q⟩:=q
       exact name_goes (JA.uncaught J.ok) hN hi hl fun s' JB=>⟨_,_,JB,q⟩
     | cont=>
       obtain ⟨σ',H2,JA,q⟩:=q
       exact name_goes (JA.uncaught J.ok) hN hi hl fun s' JB=>⟨_,_,JB,q⟩
     | ret u=>
       obtain ⟨v,σ',H2,JA,r,q⟩:=q
       exact name_goes (JA.uncaught J.ok) hN hi hl fun s' JB=>⟨_,_,_,JB,r,q⟩
   . refine (PySem.W.exm_one J5.qG (xa fl5).ty hx).at ?_
     show wpAny _ _ _ _ _ _
     exact ih k fl5 up5
theorem L6 {pos:Pos} {body:List Stmt} {h0:ExceptHandler} {JN:List ExceptHandler} {hs:List (Addr×Nat×TS)} {tb:St->XK->TS} (hN:X.N.Nodup) (um:X.stack=X.env::X.outer/\X.env.frame=some X.env.locals) (hex:X.ex=[])
   (hb:∀ (σ:St) (E1:XK) (xe:Value->Shared->Prop) (pn:List (Addr×Obj)),tH (BI X.prog X.w) (X.vm xe pn) E1 σ->JB (X.vm xe pn) body (tb σ E1)) (hh:AD X (h0::JN) hs):
   JS X (.Try body (h0::JN) [] [] pos) (BN X.K hs tb):=⟨by
 intro pins s σ H D I h
 refine wpAny_Try_except (wpAny_mono ((hb σ _ (fun e s₁=>wpAny (model X.prog X.w) X.A (noteFrame e X.env) (fun _ s₂=>wpAny (model X.prog X.w) X.A (setFlight e none) (fun _ s₃=>wpAny (model X.prog X.w) X.A (handleBy e X.env (h0::JN)) (SP X pins D) X.xe s₃) X.xe s₂) X.xe s₁) (X.pn++pins) ?_).h [] s σ H D (I.vm (pins:=pins)) h) (fun f s1 q=>?_) fun _ _ z=>z)
 . rintro EF H1 s1 e ⟨h',g',d',t',Gy⟩ J ⟨a,cls,a0,B,H',rfl,os,bare,fl,un,kb,tb,cX,na,C,rfl,F,k⟩
   have J:=J.oY
   have fr:X.A.frames=some (X.env::X.outer):=by rw [<- um.1];exact J.ok.frames
   have fl:Heap.FlyingW B (X.env::X.outer) a (.ref C) a0 h':=by rw [<- um.1];exact fl
   refine wpAny_looks_onW fr um.2 fl fun h4 held4 up4=>wpAny_landsW held4 fun h5 fl5 up5=>?_
   have QY:=up4.trans up5
   have mk:∀ {h6:Heap},Heap.FlyingW B (X.env::X.outer) a (.ref C) a0 h6->h'.UpToSlots h6->Inv X pins σ H' ⟨h6,g',d',t',Gy⟩:=fun {h6} fl6 up6=>
     J.HK (s':=⟨h6,g',d',t',Gy⟩) (ch:=[]) os (L4 J.stack J.rK un kb tb fl6.1 up6) (cX.kept fl6.1) bare (fun b z=>absurd z (by simp))
   exact AE hN um hex J na cX F mk hh k fl5 QY
 . cases f with
   | next=>
     obtain ⟨σ',H',J,q⟩:=q
     exact wpAny_execs_nil ⟨σ',H',J.oY,q⟩
   | brk=>
     obtain ⟨σ',H',J,q⟩:=q
     exact ⟨σ',H',J.oY,q⟩
   | cont=>
     obtain ⟨σ',H',J,q⟩:=q
     exact ⟨σ',H',J.oY,q⟩
   | ret u=>
     obtain ⟨v,σ',H',J,r,q⟩:=q
     exact ⟨v,σ',H',J.oY,r,q⟩⟩
def tAt (σ0:St) (te:TE):TE:=fun σ H Q=>σ=σ0/\te σ H Q
theorem JP {CX:uT} {k:Nat} {f:Addr} {fd:FuncData} {ps:List Str} {sp:Sp} {yg:List V} {ds:List Value} {E:XK} {pins:List (Addr×Obj)} {σ:St} {H:Hp} {s:Shared} {Q:VK} {us:List Value} {vs:List V} (F:bB X.prog X.w X.K X.mg X.base CX k f fd ps sp)
   (hr:jx k X.A) (hb:Binds X.K fd ps ds) (hd:Vals yg ds) (hx:tH CX X E σ) (I:Inv X pins σ H s) (r:Vals vs us) (h:sp (vs++yg) H Q E):wpAny (model X.prog X.w) X.A (call (.ref f) us) (EP X pins σ Q) X.xe s:=by
 have r2:=r.append hd
 have hl:(us++ds).length=ps.length:=r2.length ▸ F.len _ _ _ _ h
 refine wpAny_call (codeAny_mono (F.run _ _ s H ⟨us,[]⟩ _ _ Q E hr I.Lx (hb s us I.qG hl) r2 h) fun r s' hq=>?_)
 match r,hq with
 | .error e,hq=>exact hx pins H s e s' I hq
 | .ok (.ret u),hq=>exact I.after hq
theorem Hg {E:XK} {sp:Sp} {k:Nat} {ps:List Str} {σ0:St} {e:Expr} {es:List Expr} {t:TA} {p pos:Pos} {y:Str} (C:oZ X.prog X.w X.K X.mg X.base y k ps sp) (hx:tH (BI X.prog X.w) X E σ0) (hr:jx k X.A) (hg:Gl X y) (ha:JA X (e::es) t)
   (uU:(y==("__debug__":Str))=false:=by decide) (he:starEach (e::es) X.env=(false,eval e X.env)::starEach es X.env:=by rfl) (yh:(backTo pos (starEach es X.env)).any (·.1)=false:=by rfl):
   JE X (.Call (.Name y p) (e::es) [] pos) (tAt σ0 (mE sp [] E t)):=⟨by
 obtain ⟨f,fd,F,b,kp,m⟩:=C.ex
 rintro pins s σ H Q I ⟨rfl,h⟩
 refine wpAny_Call_Name_kw (rL I hg m ?_ uU)
 refine PySem.W.callWith_K (h₀:=X.base) I.ok.mod.HG kp (dZ (ha.h pos pins s σ H _ I h) fun us s1 ⟨vs,H1,I1,r,q⟩=>⟨I1.qG,?_⟩) he yh
 exact JP F hr b .nil hx I1 r q⟩
end
end L2
set_option Elab.async false
set_option linter.all false
set_option maxRecDepth 100000
set_option maxHeartbeats 4000000
namespace L2
open PySem PySem.Spec PyProof.Rows
section
variable {X:Cx}
end
section
variable {X:Cx}
end
section
variable {K:PySem.W.Frag} {g:TG} {tb:TS} {D:Ends} {σ:St} {H:Hp} {a:Addr} {xs:List V}
end
end L2
set_option Elab.async false
set_option linter.all false
set_option maxRecDepth 100000
set_option maxHeartbeats 4000000
namespace L2
open PySem PySem.Spec PyProof.Rows
section
variable {X:Cx}
end
section
variable {X:Cx} {k:Nat} {f C:Addr} {fd:FuncData} {ps ks:List Str} {is:List Nat} {sp:Sp} {yg:List V} {ds:List Value} {E:XK}
end
end L2
set_option Elab.async false
set_option linter.all false
set_option maxRecDepth 100000
set_option maxHeartbeats 4000000
namespace PySem
section
variable {K:Type} [DecidableEq K]
def nJ (key:Nat->K) (val:Nat->Value) (i:Nat):List (K×Value):=(List.range i).foldl (fun d j=>stored d (key j) (val j)) []
theorem om (key:Nat->K) (val:Nat->Value) (i:Nat):nJ key val (i + 1)=stored (nJ key val i) (key i) (val i):=by
 unfold nJ
 rw [List.range_succ,List.foldl_append]
 rfl
theorem vq (key:Nat->K) (val:Nat->Value):∀ i,(nJ key val i).length<=i
 | 0=>Nat.le_refl _
 | i + 1=>by
   rw [om]
   have:=stored_length_le (nJ key val i) (key i) (val i)
   have:=vq key val i
   omega
end
section
variable {prog:Program} {w:World} {A:Around} {R:Result->Shared->Prop} {I:Addr} {fp wr:List Addr} {G:Array GenState->Array GenState->Prop} {n:Nat} {P:Nat->Value->Prop} {St:Nat->Shared->Prop} {K:Type} [DecidableEq K] {knd:KeyKind prog w K}
theorem qt (W:WalksS prog w A.in1 I fp wr G n P St) (d:Addr) (HW:d∉fp) (key:Nat->K) (val:Nat->Value) (tp:Nat->Addr) (hP:∀ i v,i < n->P i v->v=.ref (tp i)) (ht:∀ i,i < n->tp i∉d::wr) (hn:n<=16000000):
   ∀ (k i:Nat) (s:Shared) (c:Int) (u:Tok),n - i=k->i<=n->St i s->s.heap.DictOf knd d (nJ key val i)->
     (∀ j,j < n->∃ kv,(∃ o,s.heap.get? (tp j)=some o/\o.cls=.type "tuple"/\∃ n,o.data=.seq #[kv,val j] n)/\knd.is (key j) kv=true)->
     (∀ s',Moved (d::wr) G s s'->s'.heap.DictOf knd d (nJ key val n)->R (.ok (.ret .none)) s')->
     codeAny (model prog w) A (.builtin "dict.update.loop" ⟨[.ref d,.ref I,.int c u,.none],[]⟩) R s:=by
 have hdw:d∉wr:=fun h=>HW (W.sub _ h)
 have JQ:∀ b∈wr,b∈d::wr:=fun b hb=>List.mem_cons_of_mem _ hb
 intro k
 induction k with
 | zero=>
   intro i s c u hk hi um hD _ hR
   have hin:i=n:=by omega
   subst hin
   refine codeAny_builtin F.iQ ?_
   rw [Around.under_plainId F.dj _]
   show wpAny _ A.in1 (pyNext (.ref I) >>=_) _ _ s
   refine wpAny_bind (W.done s _ _ um fun s' hm=>?_)
   show wpAny _ A.in1 (Builtin.Dict.addKeywords d [] >>=_) _ _ s'
   refine wpAny_bind (wpAny_pure ?_)
   show wpAny _ A.in1 (ret Value.none) _ _ s'
   exact wpAny_pure (hR s' (hm.mono JQ) (by
     obtain ⟨o,es,ep,ho,rest⟩:=hD
     exact ⟨o,es,ep,hm.heap d _ hdw ho,rest⟩))
 | succ k ih=>
   intro i s c u hk hi um hD hT hR
   have ug:i < n:=by omega
   refine codeAny_builtin F.iQ ?_
   rw [Around.under_plainId F.dj _]
   show wpAny _ A.in1 (pyNext (.ref I) >>=_) _ _ s
   refine wpAny_bind (W.item i s _ _ ug um fun v s' hPv hst' hm=>?_)
   obtain rfl:=hP i v ug hPv
   have Hh:s'.heap.DictOf knd d (nJ key val i):=by
     obtain ⟨o,es,ep,ho,rest⟩:=hD
     exact ⟨o,es,ep,hm.heap d _ hdw ho,rest⟩
   have hT':∀ j,j < n->∃ kv,(∃ o,s'.heap.get? (tp j)=some o/\o.cls=.type "tuple"/\∃ n,o.data=.seq #[kv,val j] n)/\knd.is (key j) kv=true:=fun j hj=>by
     obtain ⟨kv,⟨o,ho,r⟩,q⟩:=hT j hj
     exact ⟨kv,⟨o,hm.heap _ _ (fun z=>ht j hj (JQ _ z)) ho,r⟩,q⟩
   obtain ⟨kv,ho,hkv⟩:=hT' i ug
   show wpAny _ A.in1 (holding [Value.ref (tp i)] _ >>=_) _ _ s'
   refine wpAny_bind (wpAny_holding ?_)
   refine wpAny_bind (wpAny_tryCatch (qT ho ?_))
   show wpAny _ A.in1 (holding [kv,val i] (dictSet d kv (val i))) _ _ s'
   refine wpAny_holding (wpAny_dictSet_pairs hkv Hh (fun h' hd' hsb=>?_) (by have:=vq key val i;simp only [sizeLine_eq];omega))
   rw [<- om] at hd'
   refine wpAny_pure ⟨plainId_quiet F.dj _,ih (i + 1) _ _ _ (by omega) ug (W.frame _ s' _ _ hst' (Nat.le_succ _) fun b hb o e=>?_) hd' (fun j hj=>?_) fun s'' hm'' hD''=>?_⟩
   . rw [hsb.2 b (fun h:b=d=>HW (by rw [<- h];exact hb))];exact e
   . obtain ⟨kv,⟨o,ho,r⟩,q⟩:=hT' j hj
     exact ⟨kv,⟨o,(hsb.2 _ (fun z=>ht j hj (by rw [z];exact List.mem_cons_self))).trans ho,r⟩,q⟩
   . refine hR s'' (Moved.trans W.gtrans ((hm.mono JQ).then_heap (Nat.le_succ _) fun b o hb e=>?_) hm'') hD''
     rw [hsb.2 b (fun h:b=d=>hb (by rw [h];exact List.mem_cons_self))];exact e
end
section
variable {prog:Program} {w:World} {K:Type} [DecidableEq K] {knd:KeyKind prog w K} {A:Around} {E:Value->Shared->Prop} {s:Shared}
theorem ux {l:Addr} {o:Obj} {items:Array Value} {m:Nat} {Q:Value->Shared->Prop} (hA:A.handled=none) (hl:s.heap.get? l=some o) (hc:o.cls=.type "list") (Oe:o.dict=none) (hd:o.data=.seq items m)
   (key:Nat->K) (val:Nat->Value) (tp:Nat->Addr) (hit:∀ i,i < items.size->items[i]?=some (.ref (tp i))) (hn:items.size<=16000000)
   (hT:∀ j,j < items.size->∃ kv,(∃ o,s.heap.get? (tp j)=some o/\o.cls=.type "tuple"/\∃ n,o.data=.seq #[kv,val j] n)/\knd.is (key j) kv=true)
   (h:∀ h' tk,h'.DictOf knd s.heap.objs.size (nJ key val items.size)->(∀ b o,s.heap.get? b=some o->h'.get? b=some o)->Q (.ref s.heap.objs.size) { s with heap:=h',toks:=tk }):
   wpAny (model prog w) A (call (.type "dict") [.ref l]) Q E s:=by
 refine callType_codes (Q₁:=fun obj s₁=>obj=.ref s.heap.objs.size/\s₁={ s with heap:=s.heap.push { cls:=.type "dict",data:=.dict #[] } }) F.kt_called_dict (F.kt_typeCall_dict_1 _) F.entry_dict_init (kt_code_dict_new _ ⟨rfl,rfl⟩) ?_
 rintro obj s₁ ⟨rfl,rfl⟩
 have JR:(s.heap.push { cls:=.type "dict",data:=.dict #[] }).DictOf knd s.heap.objs.size []:=Heap.DictOf.new s.heap
 have K6:(s.heap.push { cls:=.type "dict",data:=.dict #[] }).get? l=some o:=Heap.get?_push_of_some _ hl
 refine ⟨JR.typeIs,F.args_dict_init_2 _ _,?_⟩
 unfold Builtin.«dict.__init__»
 refine wpAny_bind ?_
 unfold Builtin.Dict.selfAndRest
 refine wpAny_bind (wpAny_notOrdered_dict JR.typeIs ?_)
 show wpAny _ _ (pure (s.heap.objs.size,[Value.ref l])) _ _ _
 refine wpAny_pure ?_
 show wpAny _ _ (Builtin.Dict.updateFrom "dict.__init__" s.heap.objs.size (.ref l) [] .none) _ _ _
 unfold Builtin.Dict.updateFrom
 refine wpAny_bind (wpAny_typeOf (T:="list") ⟨o,K6,hc⟩ ?_)
 rw [if_pos (by decide)]
 refine wpAny_bind ?_
 refine oh (A:=A.in1.in1) K6 hc hd Oe sV (by decide +kernel) (by simpa using hA) fun h1 tk1 e hx=>?_
 rw [if_pos (by rfl)]
 refine wpAny_bind (wpAny_rule ?_)
 have kp1:∀ b o,s.heap.get? b=some o->h1.get? b=some o:=fun b o e=>hx.keeps b o (Heap.get?_push_of_some _ e)
 have hL1:h1.IsList l items:=⟨o,hx.keeps _ _ K6,hc,m,hd⟩
 refine wpAny_bind (wpAny_pyIter_list hL1 ?_)
 have ug:l < s.heap.objs.size:=Heap.lt_size hl
 have y9:h1.DictOf knd s.heap.objs.size []:=by
   obtain ⟨o,es,ep,ho,rest⟩:=JR
   exact ⟨o,es,ep,hx.keeps _ _ ho,rest⟩
 have Of:s.heap.objs.size < h1.objs.size:=by
   obtain ⟨o,es,ep,ho,rest⟩:=y9
   exact Heap.lt_size ho
 have hne:l≠h1.objs.size:=Nat.ne_of_lt (Nat.lt_trans ug Of)
 refine wpAny_pure ⟨plainId_quiet F.dj _,?_⟩
 refine qt (knd:=knd) (A:=A.in1) ((Walks.list (A:=A.in1.in1) (by simpa using hA) h1.objs.size l hne items).toS) s.heap.objs.size ?_ key val tp (fun i v hi hv=>by rw [hit i hi] at hv;cases hv;rfl) (fun i hi=>?_) hn items.size 0 _ _ _ (by omega) (Nat.zero_le _) ⟨⟨_,Heap.get?_push_size _ rfl,rfl,rfl⟩,hL1.push _⟩ ?_ (fun j hj=>?_) fun s' hm Hh=>?_
 . simp only [List.mem_cons,List.not_mem_nil,or_false,not_or]
   exact ⟨Nat.ne_of_lt Of,Nat.ne_of_gt ug⟩
 . obtain ⟨kv,⟨o,ho,_⟩,_⟩:=hT i hi
   have lt:=Heap.lt_size ho
   simp only [List.mem_cons,List.not_mem_nil,or_false,not_or]
   exact ⟨Nat.ne_of_lt lt,Nat.ne_of_lt (Nat.lt_trans lt Of)⟩
 . exact y9.push _
 . obtain ⟨kv,⟨o,ho,r⟩,q⟩:=hT j hj
   exact ⟨kv,⟨o,Heap.get?_push_of_some _ (kp1 _ _ ho),r⟩,q⟩
 . obtain ⟨h',g',d',tk',Gy⟩:=s'
   have eg:g'=s.gens:=hm.gens
   have ed:d'=s.drawn:=hm.drawn
   have eo:Gy=s.os:=hm.os
   subst eg ed eo
   refine ⟨rfl,h h' tk' Hh fun b o e=>hm.heap b o ?_ (Heap.get?_push_of_some _ (kp1 b o e))⟩
   have lt:=Heap.lt_size e
   simp only [List.mem_cons,List.not_mem_nil,or_false,not_or]
   exact ⟨Nat.ne_of_lt lt,Nat.ne_of_lt (Nat.lt_trans lt Of)⟩
end
end PySem
namespace L2
open PySem PySem.Spec PyProof.Rows
def jr (L:List (Int×V)):List (Key×V):=L.foldl (fun d q=>putK d (.inl q.1) q.2) []
theorem nk (L:List (Int×V)) (q:Int×V):jr (L++[q])=putK (jr L) (.inl q.1) q.2:=by
 unfold jr
 rw [List.foldl_append]
 rfl
theorem EM (kvs:List (Key×V)) (k:Key) (v:V):(putK kvs k v).length<=kvs.length + 1:=by
 unfold putK
 split
 . simp
 . simp
theorem mV (L:List (Int×V)):(jr L).length<=L.length:=by
 have key:∀ (L:List (Int×V)) (d:List (Key×V)),(L.foldl (fun d q=>putK d (.inl q.1) q.2) d).length<=d.length + L.length:=by
   intro L
   induction L with
   | nil=>intro d;simp
   | cons q L ih=>
     intro d
     rw [List.foldl_cons,List.length_cons]
     have:=ih (putK d (.inl q.1) q.2)
     have:=EM d (.inl q.1) q.2
     omega
 have:=key L []
 simpa [jr] using this
theorem EN {L:List (Int×V)} {key:Nat->Key} {val:Nat->Value} (h:∀ i (hi:i < L.length),key i=.inl L[i].1/\RelV L[i].2 (val i)):∀ i,i<=L.length->KV (jr (L.take i)) (nJ key val i)
 | 0,_=>by
   rw [List.take_zero]
   exact .nil
 | i + 1,hi=>by
   have ih:=EN h i (by omega)
   obtain ⟨h1,h2⟩:=h i (by omega)
   rw [List.take_add_one,List.getElem?_eq_getElem (by omega),Option.toList_some,nk,om,h1]
   exact ih.put _ h2
section
variable {X:Cx}
theorem AF (hc:X.calm=true):gE X (.type "dict") (fun xs H Q=>∃ (p:Addr) (L:List (V×Int×V)),xs=[.ref p]/\bC X.K H p (L.map (·.1))/\(∀ q∈L,∃ t,q.1=.ref t/\tupQ X.K H t=some [.int q.2.1,q.2.2])/\L.length<=16000000/\
   ∀ D,L2.new X.K H D->Q (.ref D) (upd H D (.dK (jr (L.map (·.2)))))):=by
 intro pins s σ H xs us Q I r h
 obtain ⟨p,L,rfl,hx,hT,hl,q⟩:=h
 obtain ⟨u,rfl,ru⟩:=vals1 r
 cases ru
 obtain ⟨its,rv,⟨o,n,e,hcl,Oe,hd⟩,_⟩:=I.list hx
 have li:its.length=L.length:=by rw [<- rv.length,List.length_map]
 obtain ⟨f,hf⟩:∃ f:Nat->Addr×Value×Value,∀ i,i < L.length->its[i]?=some (.ref (f i).1)/\(∃ o,s.heap.get? (f i).1=some o/\o.cls=.type "tuple"/\∃ n,o.data=.seq #[(f i).2.1,(f i).2.2] n)/\∃ q,L[i]?=some q/\RelV (.int q.2.1) (f i).2.1/\RelV q.2.2 (f i).2.2:=by
   have P:∀ i,∃ x:Addr×Value×Value,i < L.length->its[i]?=some (.ref x.1)/\(∃ o,s.heap.get? x.1=some o/\o.cls=.type "tuple"/\∃ n,o.data=.seq #[x.2.1,x.2.2] n)/\∃ q,L[i]?=some q/\RelV (.int q.2.1) x.2.1/\RelV q.2.2 x.2.2:=fun i=>by
     by_cases hi:i < L.length
     . have ei:L[i]?=some L[i]:=List.getElem?_eq_getElem hi
       obtain ⟨t,e1,e2⟩:=hT L[i] (List.getElem_mem hi)
       have e3:(L.map (·.1))[i]?=some (.ref t):=by rw [List.getElem?_map,ei,<- e1];rfl
       obtain ⟨u,hu,ru⟩:=rv.get e3
       cases ru
       obtain ⟨its2,rv2,⟨o2,g2,c2,n2,d2⟩,_⟩:=I.tuple (fc e2)
       obtain ⟨kv,vv,rfl,rk,rvv⟩:=vals2 rv2
       exact ⟨(t,kv,vv),fun _=>⟨hu,⟨o2,g2,c2,n2,d2⟩,L[i],ei,rk,rvv⟩⟩
     . exact ⟨(0,.none,.none),fun z=>absurd z hi⟩
   exact ⟨fun i=>(P i).choose,fun i=>(P i).choose_spec⟩
 have ks:∀ i,i < L.length->(dM X.prog X.w).is ((.inl ((L[i]?).elim 0 (·.2.1)):Key)) (f i).2.1=true:=fun i hi=>by
   obtain ⟨_,_,q,eq,rk,_⟩:=hf i hi
   rw [eq]
   exact yJ (k:=.inl q.2.1) rk
 refine ux (knd:=dM X.prog X.w) (I.ok.hd hc) e hcl Oe hd (fun i=>.inl ((L[i]?).elim 0 (·.2.1))) (fun i=>(f i).2.2) (fun i=>(f i).1) (fun i hi=>?_) (by simp;omega) (fun j hj=>?_) fun h' tk hD hk=>?_
 . have hi:i < L.length:=by simp at hi;omega
   simpa using (hf i hi).1
 . have hj:j < L.length:=by simp at hj;omega
   exact ⟨_,(hf j hj).2.1,ks j hj⟩
 . have sz:its.toArray.size=L.length:=by simp [li]
   rw [sz] at hD
   have rel:=EN (L:=L.map (·.2)) (key:=fun j=>((.inl ((L[j]?).elim 0 (·.2.1)):Key))) (val:=fun j=>(f j).2.2) (fun i hi=>by
     have hi:i < L.length:=by simpa using hi
     obtain ⟨_,_,q,eq,rk,rvv⟩:=hf i hi
     have:L[i]=q:=(List.getElem?_eq_some_iff.mp eq).2
     rw [List.getElem_map,this]
     show (Sum.inl ((L[i]?).elim 0 (·.2.1)):Key)=.inl q.2.1/\RelV q.2.2 (f i).2.2
     rw [eq]
     exact ⟨rfl,rvv⟩) L.length (by simp)
   rw [List.take_of_length_le (by simp)] at rel
   have ln:=mV (L.map (·.2))
   rw [List.length_map] at ln
   have I2:Inv X pins σ (upd H s.heap.objs.size (.dK (jr (L.map (·.2))))) { s with heap:=h',toks:=tk }:=
     I.laid (t':=tk) hk (Nat.le_refl _) (D8 (by rw [sizeLine_eq];omega) (beq_eq_false_iff_ne.mpr (Ne.symm (Nat.ne_of_lt I.big))) rel hD)
   exact ⟨.ref s.heap.objs.size,_,I2,rfl,q _ ⟨I.cX.fresh (Nat.le_refl _),I2.nZ ah⟩⟩
def gm:PyData->Bool
 | .none=>true
 | _=>false
def nq:Value->Bool
 | .none=>true
 | _=>false
def Hi (K:PySem.W.Frag):R2:=fun x y H Q=>∃ (p:Addr) (xs:List V) (ds:List PyData),x=.cY/\y=.ref p/\(bC K H p xs∨mw K H p xs)/\cj K H ds xs/\Q (.bl (ds.any gm)) H
theorem Is.tK {X:Cx} {pins:List (Addr×Obj)} {σ:St} {H:Hp} {s:Shared} {A:Around} (hu:A.units < cLine) (I:Inv X pins σ H s) {d:PyData} {v:V} {u:Value} (h:Is X.K H d v) (r:RelV v u):SeqAt.EqAt A s u .none (nq u)/\nq u=gm d:=by
 obtain ⟨as,q⟩:=h.reads I r
 cases q with
 | none=>exact ⟨SeqAt.EqAt.same _,rfl⟩
 | bool b=>exact ⟨SeqAt.EqAt.bool_none b,rfl⟩
 | int i t=>exact ⟨SeqAt.EqAt.int_none i t,rfl⟩
 | str x t=>exact ⟨SeqAt.EqAt.str_none x t,rfl⟩
 | list k1 k2 k3 k4=>exact ⟨SeqAt.EqAt.list_none ⟨_,k1,k2,_,k3⟩ hu,rfl⟩
 | tuple k1 k2 k3 k4=>exact ⟨SeqAt.EqAt.tuple_none ⟨_,k1,k2,_,k3⟩ hu,rfl⟩
 | dict=>exact absurd h (by unfold Is;exact id)
theorem cj.tK {X:Cx} {pins:List (Addr×Obj)} {σ:St} {H:Hp} {s:Shared} {A:Around} (hu:A.units < cLine) (I:Inv X pins σ H s):∀ {ds:List PyData} {vs:List V} {us:List Value},cj X.K H ds vs->Vals vs us->(∀ u∈us,SeqAt.EqAt A s u .none (nq u))/\us.any nq=ds.any gm
 | [],vs,us,h,r=>by
   unfold cj at h
   subst h
   cases r
   exact ⟨fun _ h=>(nomatch h),rfl⟩
 | d::ds,vs,us,h,r=>by
   unfold cj at h
   obtain ⟨v,rs,rfl,h1,h2⟩:=h
   cases r with
   | cons r1 r2=>
     obtain ⟨a1,a2⟩:=Is.tK hu I h1 r1
     obtain ⟨b1,b2⟩:=cj.tK hu I h2 r2
     refine ⟨fun u hu'=>?_,by rw [List.any_cons,List.any_cons,a2,b2]⟩
     rcases List.mem_cons.mp hu' with rfl | hu'
     . exact a1
     . exact b1 u hu'
theorem tL (hu:X.A.units + 64 < cLine):kU X (compareOp .In) (Hi X.K):=by
 intro pins s σ H x y v u Q I rx ry h
 obtain ⟨p,xs,ds,rfl,rfl,hp,hd,q⟩:=h
 cases ry
 cases (show v=Value.none from rx)
 have hu1:X.A.in1.units < cLine:=by show X.A.units + 1 < cLine;omega
 rcases hp with hp | hp
 . obtain ⟨its,rv,⟨o,n,e,hcl,Oe,hdd⟩,_⟩:=I.list hp
   obtain ⟨a,b⟩:=cj.tK hu1 I hd rv
   refine SeqAt.in_listAt nq ⟨o,e,hcl,n,hdd⟩ (fun w hw=>a w (List.mem_toArray.mp hw)) ⟨.bl _,H,I,rfl,?_⟩
   rw [List.any_toArray,b]
   exact q
 . obtain ⟨its,rv,⟨o,e,hcl,n,hdd⟩,_⟩:=I.tuple hp
   obtain ⟨a,b⟩:=cj.tK hu1 I hd rv
   refine SeqAt.in_tupleAt nq ⟨o,e,hcl,n,hdd⟩ (fun w hw=>a w (List.mem_toArray.mp hw)) ⟨.bl _,H,I,rfl,?_⟩
   rw [List.any_toArray,b]
   exact q
end
end L2
set_option Elab.async false
set_option linter.all false
set_option maxRecDepth 100000
set_option maxHeartbeats 4000000
namespace qQ
open PySem L2
local macro_rules | `(tactic| walk_at "rd")=>`(tactic| simp only [DC,yt,DH,yv,dw,DJ,DF,DG,yu,qR,tC,DM,Ls,DN,rI,rU,yz,tB,yp,DA,yq,Dy,Ln,Dz,Lp,sE,Ja,mD,yC,IX,IW,Am,List.getElem?_cons_zero,List.getElem?_cons_succ,List.set_cons_zero,List.set_cons_succ,Option.some.injEq,V.int.injEq,V.bl.injEq,V.ref.injEq,V.ty.injEq,V.str.injEq,List.cons.injEq,exists_eq_left',exists_eq_left,exists_and_left,and_true,true_and,and_assoc,QI,Jj,Bt,N1,N2,z9,HO.lst.injEq,HO.tup.injEq,oR,Ag,Ah,Ai,Aj,Ak,Al,ah,nV,nW,nH,Ec,Ed,Ef,decide_eq_true_eq,L2.start,List.map_cons,List.map_nil,List.length_cons,List.length_nil,Nat.reduceAdd,Nat.reduceSub,List.replicate_succ,List.replicate_zero,List.cons_append,List.nil_append,List.append_nil,p7,p8,qf,sJ,N7,Cm,Gr,sizeLine_eq,Int.reduceLE,Int.reduceLT,Int.reducePow,Int.reduceToNat,Int.reduceAdd,Int.reduceSub,Int.reduceMul,Int.reduceNeg,Nat.reduceLeDiff,Nat.reducePow,Nat.reduceLT,Int.reduceEq,true_or,or_true,ite_true,ite_false,if_true,if_false,Bool.not_true,Bool.not_false,Bool.false_eq_true,decide_true,decide_false,GP,qg,qh,aN,LA,oE,yH,GQ,BC,yQ,BB,rQ,zU,Eh,Em,oU,kQ,vN,LD,DY,rM,Ae,rN,BG,GX,rJoin,GD,wk,Aq,K1,yM,wm,GU,qi,sQ,sR,sS,wc,sN,sO,sP,join_some,jB,we,Eo,Ep,qk,wo,yN,sX,GW,EG,Av,wz,QW,mE,wu,JD,Ends.gone,tD,G5,o8,o9,rR,wA,rS,Az,BL,wC,oj,qo,qp,Hi,BN])
local macro_rules | `(tactic| walk_at "rn")=>`(tactic| simp only [DC,yt,DH,yv,dw,DJ,DF,DG,yu,qR,tC,DM,Ls,DN,rI,rU,yz,tB,yp,DA,yq,Dy,Ln,Dz,Lp,sE,Ja,mD,yC,IX,IW,Am,List.getElem?_cons_zero,List.getElem?_cons_succ,List.set_cons_zero,List.set_cons_succ,Option.some.injEq,V.int.injEq,V.bl.injEq,V.ref.injEq,V.ty.injEq,V.str.injEq,List.cons.injEq,exists_eq_left',exists_eq_left,exists_and_left,and_true,true_and,and_assoc,QI,Jj,Bt,N1,N2,z9,HO.lst.injEq,HO.tup.injEq,oR,Ag,Ah,Ai,Aj,Ak,Al,ah,nV,nW,nH,Ec,Ed,Ef,decide_eq_true_eq,L2.start,List.map_cons,List.map_nil,List.length_cons,List.length_nil,Nat.reduceAdd,Nat.reduceSub,List.replicate_succ,List.replicate_zero,List.cons_append,List.nil_append,List.append_nil,p7,p8,qf,sJ,N7,Cm,Gr,sizeLine_eq,Int.reduceLE,Int.reduceLT,Int.reducePow,Int.reduceToNat,Int.reduceAdd,Int.reduceSub,Int.reduceMul,Int.reduceNeg,Nat.reduceLeDiff,Nat.reducePow,Nat.reduceLT,Int.reduceEq,true_or,or_true,ite_true,ite_false,if_true,if_false,Bool.not_true,Bool.not_false,Bool.false_eq_true,decide_true,decide_false,GP,qg,qh,aN,LA,oE,yH,GQ,BC,yQ,BB,zU,Eh,Em,oU,kQ,vN,LD,DY,rM,Ae,rN,BG,GX,rJoin,GD,wk,Aq,K1,yM,wm,GU,qi,sQ,sR,sS,wc,sN,sO,sP,join_some,jB,we,Eo,Ep,qk,wo,yN,sX,GW,EG,Av,wz,QW,mE,wu,JD,Ends.gone,tD,G5,o8,o9,rR,wA,rS,Az,BL,wC,oj,qo,qp,Hi,BN])
local macro_rules | `(tactic| simp_arith [$hs,*])=>`(tactic| simp only [DC,yt,DH,yv,dw,DJ,DF,DG,yu,qR,tC,DM,Ls,DN,rI,rU,yz,tB,yp,DA,yq,Dy,Ln,Dz,Lp,sE,Ja,mD,yC,IX,IW,Am,List.getElem?_cons_zero,List.getElem?_cons_succ,List.set_cons_zero,List.set_cons_succ,Option.some.injEq,V.int.injEq,V.bl.injEq,V.ref.injEq,V.ty.injEq,V.str.injEq,List.cons.injEq,exists_eq_left',exists_eq_left,exists_and_left,and_true,true_and,and_assoc,QI,Jj,Bt,N1,N2,z9,HO.lst.injEq,HO.tup.injEq,oR,Ag,Ah,Ai,Aj,Ak,Al,ah,nV,nW,nH,Ec,Ed,Ef,decide_eq_true_eq,L2.start,List.map_cons,List.map_nil,List.length_cons,List.length_nil,Nat.reduceAdd,Nat.reduceSub,List.replicate_succ,List.replicate_zero,List.cons_append,List.nil_append,List.append_nil,p7,p8,qf,sJ,N7,Cm,Gr,sizeLine_eq,Int.reduceLE,Int.reduceLT,Int.reducePow,Int.reduceToNat,Int.reduceAdd,Int.reduceSub,Int.reduceMul,Int.reduceNeg,Nat.reduceLeDiff,Nat.reducePow,Nat.reduceLT,Int.reduceEq,true_or,or_true,ite_true,ite_false,if_true,if_false,Bool.not_true,Bool.not_false,Bool.false_eq_true,decide_true,decide_false,GP,qg,qh,aN,LA,oE,yH,GQ,BC,yQ,BB,zU,Eh,Em,oU,kQ,vN,LD,DY,rM,Ae,rN,BG,GX,rJoin,GD,wk,Aq,K1,yM,wm,GU,qi,sQ,sR,sS,wc,sN,sO,sP,join_some,jB,we,Eo,Ep,qk,wo,yN,sX,GW,EG,Av,wz,QW,mE,wu,JD,Ends.gone,tD,G5,o8,o9,rR,wA,rS,Az,BL,wC,oj,qo,qp,Hi,BN,$hs,*])
def top (i:Nat):Stmt:=PySem.Challenge.pw_notefall_k72_rooms_read.main.body.getD i (.Pass ⟨0,0,0,0⟩)
abbrev gZ:Stmt:=top 6
abbrev jf:Stmt:=top 7
abbrev dN:Stmt:=top 8
abbrev kY:Stmt:=top 9
abbrev gp:Stmt:=top 10
abbrev jN:Stmt:=top 13
abbrev g8:Stmt:=top 14
abbrev fG:Stmt:=top 17
abbrev eE:Stmt:=top 18
abbrev jO:Stmt:=top 20
abbrev g9:Stmt:=top 22
abbrev gq:Stmt:=top 23
abbrev gr:Stmt:=top 24
abbrev eN:Stmt:=top 25
abbrev kZ:Stmt:=top 26
abbrev jg:Stmt:=top 27
abbrev ia:Stmt:=top 28
abbrev jh:Stmt:=top 29
abbrev eO:Stmt:=top 30
abbrev dP:Stmt:=top 31
abbrev ic:Stmt:=top 33
abbrev eT:Stmt:=top 34
abbrev eU:Stmt:=top 35
abbrev ji:Stmt:=top 36
abbrev ie:Stmt:=top 37
abbrev ig:Stmt:=top 38
abbrev ir:Stmt:=top 39
abbrev iu:Stmt:=top 40
abbrev gu:Stmt:=top 41
abbrev cI:Stmt:=top 42
abbrev iw:Stmt:=top 43
abbrev eV:Stmt:=top 45
abbrev gv:Stmt:=top 46
abbrev cE:Stmt:=top 47
abbrev fH:Stmt:=top 48
abbrev gw:Stmt:=top 49
abbrev fJ:Stmt:=top 50
abbrev iy:Stmt:=top 51
abbrev dQ:Stmt:=top 52
abbrev iA:Stmt:=top 53
abbrev iB:Stmt:=top 54
abbrev iC:Stmt:=top 55
abbrev iD:Stmt:=top 56
abbrev iE:Stmt:=top 57
abbrev dR:Stmt:=top 58
abbrev dD:Stmt:=top 59
abbrev bT:Stmt:=top 60
abbrev gx:Stmt:=top 61
abbrev gy:Stmt:=top 62
abbrev eW:Stmt:=top 63
abbrev bJ:Stmt:=top 64
abbrev dz:Stmt:=top 65
abbrev eX:Stmt:=top 66
abbrev bX:Stmt:=top 67
abbrev iF:Stmt:=top 68
abbrev fK:Stmt:=top 69
abbrev iG:Stmt:=top 70
abbrev bA:Stmt:=top 71
abbrev bW:Stmt:=top 72
abbrev bP:Stmt:=top 73
abbrev bG:Stmt:=top 74
abbrev pe:Stmt:=top 75
structure XC (K:PySem.W.Frag) (C cF cR:Addr):Prop where
 x:Exc K C
 i:oX K C
 m:PySem.W.exmOne K (.ref C) (.ref cF)=some true
 k0:PySem.W.kitOne K (.ref C) (.ref C)=some true
 k1:PySem.W.kitOne K (.ref C) (.type "ValueError")=some true
 k2:PySem.W.kitOne K (.ref C) (.ref cR)=some false
structure B (K:PySem.W.Frag) (mg:Str->Option Value) (aG cF cR cN:Addr) (tE tF:Tok):Prop where
 len:mg "len"=none
 isinstance:mg "isinstance"=none
 int:mg "int"=none
 bool:mg "bool"=none
 tuple:mg "tuple"=none
 str:mg "str"=none
 list:mg "list"=none
 all:mg "all"=none
 zip:mg "zip"=none
 enumerate:mg "enumerate"=none
 range:mg "range"=none
 dict:mg "dict"=none
 max:mg "max"=none
 min:mg "min"=none
 ValueError:mg "ValueError"=none
 L7:mg "GONE"=some (.ref aG)
 QZ:mg "END"=some (.int 1000000000000 tE)
 wD:mg "MOST_FIGURES"=some (.int 60 tF)
 CW:mg "FallError"=some (.ref cF)
 JU:mg "NoDeed"=some (.ref cR)
 AG:mg "NoPage"=some (.ref cN)
 kG:lG K aG=some [.str "gone"]
 xN:XC K cN cF cR
section
variable {K:PySem.W.Frag} {mg:Str->Option Value} {aG cF cR cN:Addr} {tE tF:Tok}
theorem B.BO (_:B K mg aG cF cR cN tE tF):RelV (.ref aG) (.ref aG):=rfl
theorem B.AH (_:B K mg aG cF cR cN tE tF):RelV (.int 1000000000000) (.int 1000000000000 tE):=⟨tE,rfl⟩
theorem B.qV (_:B K mg aG cF cR cN tE tF):RelV (.int 60) (.int 60 tF):=⟨tF,rfl⟩
theorem B.CY (_:B K mg aG cF cR cN tE tF):RelV (.ref cR) (.ref cR):=rfl
theorem B.CZ (_:B K mg aG cF cR cN tE tF):RelV (.ref cN) (.ref cN):=rfl
theorem B.za (b:B K mg aG cF cR cN tE tF):Exc K cN:=b.xN.x
end
def on:Option Int->V
 | none=>.cY
 | some i=>.int i
def wO (lo hi:Int):Option Int->Bool
 | some i=>decide (lo<=i/\i<=hi)
 | none=>false
def fO (lo:Int):Option Int->Bool
 | some i=>decide (lo<=i)
 | none=>false
section
variable {P:Program} {w:World} {K:PySem.W.Frag} {mg:Str->Option Value} {base:Heap}
def lJ:Sp:=fun vs H Q _=>∃ o,vs=[on o]/\Q (.bl o.isSome) H
def pq:Sp:=fun vs H Q _=>∃ o lo hi,vs=[on o,.int lo,.int hi]/\Q (.bl (wO lo hi o)) H
def rT:Sp:=fun vs H Q _=>∃ o lo,vs=[on o,.int lo]/\Q (.bl (fO lo o)) H
theorem wF:aE ["thing"] ["thing"] (af gZ):=⟨rfl,rfl,rfl,by decide +kernel,rfl,by decide +kernel,by decide +kernel⟩
theorem wG {f:Addr} {fd:FuncData} (F:fM K "is_number" "is_number" gZ f fd) {aG cF cR cN:Addr} {tE tF:Tok} (B:B K mg aG cF cR cN tE tF):bB P w K mg base fC 1 f fd ["thing"] lJ:=by
 refine F.iM wF (fun vs H Q E h=>?_) (fun dg A outer s H vs Q E hr h=>?_)
 . obtain ⟨o,rfl,_⟩:=h
   rfl
 obtain ⟨o,rfl,q⟩:=h
 refine ⟨_,(aH (aR (iP (aI aK rfl B.isinstance aA (aa (ev 0) (aa (iL rfl B.int kI) aj))) (jY (Jo (aI aK rfl B.isinstance aA (aa (ev 0) (aa (iL rfl B.bool By) aj)))))))),?_⟩
 try walk_at "rn"
 cases o with
 | none=>exact ⟨_,.inl .cY,false,rfl,q⟩
 | some i=>exact ⟨_,.inl (.int i),true,rfl,_,.inl (.int i),false,rfl,q⟩
theorem zb:aE ["thing","low","high"] ["thing","low","high"] (af jf):=⟨rfl,rfl,rfl,by decide +kernel,rfl,by decide +kernel,by decide +kernel⟩
theorem zc {f:Addr} {fd:FuncData} (F:fM K "is_whole" "is_whole" jf f fd) {aG cF cR cN:Addr} {tE tF:Tok} (B:B K mg aG cF cR cN tE tF) (aQ:Callee P w K mg base "is_number" 1 ["thing"] lJ):bB P w K mg base fC 2 f fd ["thing","low","high"] pq:=by
 refine F.iM zb (fun vs H Q E h=>?_) (fun dg A outer s H vs Q E hr h=>?_)
 . obtain ⟨o,lo,hi,rfl,_⟩:=h
   rfl
 obtain ⟨o,lo,hi,rfl,q⟩:=h
 refine ⟨_,(aH (aR (iP (ay aQ (hr.mono (by decide)) rfl (aa (ev 0) aj)) (jY (Jp Bl Bl (ev 1) (ev 0) (ev 2)))))),?_⟩
 try walk_at "rn"
 refine ⟨o,rfl,_,rfl,?_⟩
 cases o with
 | none=>exact aF (by decide) q
 | some i=>
   refine aO rfl ⟨_,rfl,?_⟩
   simp only [wO] at q
   split
   . rename_i c
     simp only [c,true_and] at q
     exact ⟨_,rfl,q⟩
   . rename_i c
     simp only [c,false_and,decide_false] at q
     exact q
theorem qu:aE ["thing","low"] ["thing","low"] (af dN):=⟨rfl,rfl,rfl,by decide +kernel,rfl,by decide +kernel,by decide +kernel⟩
theorem qv {f:Addr} {fd:FuncData} (F:fM K "is_whole_from" "is_whole_from" dN f fd) {aG cF cR cN:Addr} {tE tF:Tok} (B:B K mg aG cF cR cN tE tF) (aQ:Callee P w K mg base "is_number" 1 ["thing"] lJ):bB P w K mg base fC 2 f fd ["thing","low"] rT:=by
 refine F.iM qu (fun vs H Q E h=>?_) (fun dg A outer s H vs Q E hr h=>?_)
 . obtain ⟨o,lo,rfl,_⟩:=h
   rfl
 obtain ⟨o,lo,rfl,q⟩:=h
 refine ⟨_,(aH (aR (iP (ay aQ (hr.mono (by decide)) rfl (aa (ev 0) aj)) (jY (jq Bl (ev 1) (ev 0) (au _)))))),?_⟩
 try walk_at "rn"
 refine ⟨o,rfl,_,rfl,?_⟩
 cases o with
 | none=>exact aF (by decide) q
 | some i=>exact aO rfl ⟨_,rfl,q⟩
end
theorem EO {α:Type} {K:PySem.W.Frag} {c D:Addr} {L:List α} {f g:α->V} {te:TE} {v0:Option V} {rest:St} {H:Hp} {Q:Hp->Prop} (hk:tupQ K H c=some (L.map f)) (nD:new K H D) (hz:L.length<=1000)
   (elt:∀ q∈L,∀ H' (Q:VK),Ext K H H'->(∀ jW,Ext K H' jW->Q (g q) jW)->te (some (f q)::rest) H' Q)
   (fin:∀ H',H' D=some (.lst (L.map g))->Ext K H H'->Q H'):cA (KZ K c) (dw 0) jB te D Q (v0::rest) (upd H D (.lst [])):=by
 refine Jv (xs:=L.map f) (fun i acc σ' H'=>∃ (v0:Option V),σ'=v0::rest/\H' D=some (.lst acc)/\acc=(L.take i).map g/\Kp K D (upd H D (.lst [])) H') ?_ ?_ ?_ ?_
 . exact ⟨_,rfl,ah,rfl,Kp.refl⟩
 . rintro i acc σ' H' _ ⟨v0,rfl,hD,rfl,k⟩
   exact fc ((k.ext nD).tup hk)
 . rintro i x acc σ' H' hx ⟨v0,rfl,hD,rfl,k⟩
   rw [List.getElem?_map] at hx
   obtain ⟨q,ek,rfl⟩:=Option.map_eq_some_iff.mp hx
   have hlen:((L.take i).map g).length<=1000:=by rw [List.length_map,List.length_take];omega
   unfold dw jB
   refine Af ?_
   refine elt q (List.mem_of_getElem? ek) H' _ (k.ext nD) fun jW x''=>⟨x''.at hD,Nat.lt_of_le_of_lt hlen (by decide),_,rfl,ah,?_,k.trans (x''.kp.trans (Kp.upd (x''.at hD)))⟩
   rw [List.take_add_one,ek,Option.toList_some,List.map_append]
   rfl
 . rintro acc σ' H' ⟨v0,rfl,hD,rfl,k⟩
   rw [List.length_map,List.take_length] at hD
   exact fin H' hD (k.ext nD)
def cS (i:Int):Str:=Str.ofString (toString i)
theorem bK {i:Int} (h:i.natAbs < 10 ^ 100):(cS i).length<=101:=by
 unfold cS
 rw [PySem.ofString_length]
 exact int_text_length_le10 (by decide) h
theorem fQ {i:Int} (h:i.natAbs < 10 ^ 100):i.natAbs.log2 < 1920:=by
 by_cases e:i.natAbs=0
 . rw [e];decide
 . exact Nat.lt_trans ((Nat.log2_lt (k:=400) e).2 (Nat.lt_trans h (by decide))) (by decide)
theorem nu {sep:Str} {m:Nat} (ts:List Str) (h:∀ t∈ts,t.length<=m):oi sep ts<=ts.length * (m + sep.length):=by
 have e:∀ (ts:List Str) (k:Nat),(∀ t∈ts,t.length<=m)->ts.foldl (fun n x=>n + x.length + sep.length) k<=k + ts.length * (m + sep.length):=by
   intro ts
   induction ts with
   | nil=>intro k _;simp
   | cons x r ih=>
     intro k h
     rw [List.foldl_cons,List.length_cons,Nat.add_mul]
     have h1:=ih (k + x.length + sep.length) fun t m=>h t (List.mem_cons_of_mem _ m)
     have h2:=h x List.mem_cons_self
     omega
 have:=e ts 0 h
 unfold oi
 omega
theorem join_le {sep:Str} {m:Nat}:∀ (ts:List Str),(∀ t∈ts,t.length<=m)->(Str.join sep ts).length<=ts.length * (m + sep.length)
 | [],_=>by simp [Str.join,Str.empty,Str.length]
 | [x],h=>by
   have:=h x List.mem_cons_self
   show x.length<=1 * (m + sep.length)
   omega
 | x::y::r,h=>by
   have e:=join_le (sep:=sep) (y::r) fun t m=>h t (List.mem_cons_of_mem _ m)
   have h2:=h x List.mem_cons_self
   show (x++sep++Str.join sep (y::r)).length<=_
   rw [Str.length_append,Str.length_append,List.length_cons (a:=x),Nat.add_mul]
   omega
theorem jm {x y:Str} (h:x.cps.toList=y.cps.toList):x=y:=by
 cases x;cases y
 simp only at h
 rw [Array.toList_inj.mp h]
theorem ER (c:Nat) (x y:Str) (r:List Str):(Str.join ⟨#[c]⟩ (x::y::r)).cps.toList=x.cps.toList++c::(Str.join ⟨#[c]⟩ (y::r)).cps.toList:=by
 show (x++⟨#[c]⟩++Str.join ⟨#[c]⟩ (y::r)).cps.toList=_
 rw [fP,fP]
 simp
theorem tM (x:Str) (c:Nat):Txt.split x ⟨#[c]⟩≠[]:=by
 unfold Txt.split
 split
 . simp
 . split
   . simp
   . rw [StrLaws.partsBetween_eq]
     cases Builtin.Str.occurrences x ⟨#[c]⟩ 0 x.length (x.length + 1) <;> simp [StrLaws.partsFrom]
theorem tN:Str.ofString " "=⟨#[32]⟩:=by decide +kernel
theorem zd {c:Nat}:∀ {ps:List Str},ps.length<=(Str.join ⟨#[c]⟩ ps).length + 1/\∀ p∈ps,p.length<=(Str.join ⟨#[c]⟩ ps).length
 | []=>by simp
 | [x]=>by
   refine ⟨by simp,fun p hp=>?_⟩
   rw [List.mem_singleton.mp hp]
   exact Nat.le_refl _
 | x::y::r=>by
   obtain ⟨h1,h2⟩:=zd (c:=c) (ps:=y::r)
   have e:(Str.join ⟨#[c]⟩ (x::y::r)).length=x.length + 1 + (Str.join ⟨#[c]⟩ (y::r)).length:=by
     show (x++⟨#[c]⟩++Str.join ⟨#[c]⟩ (y::r)).length=_
     rw [Str.length_append,Str.length_append]
     rfl
   rw [e,List.length_cons]
   refine ⟨by omega,fun p hp=>?_⟩
   rcases List.mem_cons.mp hp with rfl | hp
   . omega
   . have:=h2 p hp
     omega
theorem jC {α:Type} {K:PySem.W.Frag} {c D:Addr} {L:List α} {f g:α->V} {te:TE} {v0:Option V} {rest:St} {H:Hp} {Q:Hp->Prop} (hk:bC K H c (L.map f)) (nD:new K H D) (hz:L.length<=16000000)
   (elt:∀ q∈L,∀ H' (Q:VK),Ext K H H'->(∀ jW,Ext K H' jW->Q (g q) jW)->te (some (f q)::rest) H' Q)
   (fin:∀ H',H' D=some (.lst (L.map g))->Ext K H H'->Q H'):cA (zW K c) (dw 0) jB te D Q (v0::rest) (upd H D (.lst [])):=by
 refine nj (xs:=L.map f) (fun i acc σ' H'=>∃ (v0:Option V),σ'=v0::rest/\H' D=some (.lst acc)/\acc=(L.take i).map g/\Kp K D (upd H D (.lst [])) H') ?_ ?_ ?_ ?_
 . exact ⟨_,rfl,ah,rfl,Kp.refl⟩
 . rintro i acc σ' H' _ ⟨v0,rfl,hD,rfl,k⟩
   exact (k.ext nD).same.seq hk
 . rintro i x acc σ' H' hx ⟨v0,rfl,hD,rfl,k⟩
   rw [List.getElem?_map] at hx
   obtain ⟨q,ek,rfl⟩:=Option.map_eq_some_iff.mp hx
   have hlen:((L.take i).map g).length<=16000000:=by rw [List.length_map,List.length_take];omega
   unfold dw jB
   refine Af ?_
   refine elt q (List.mem_of_getElem? ek) H' _ (k.ext nD) fun jW x''=>⟨x''.at hD,Nat.lt_of_le_of_lt hlen (by decide),_,rfl,ah,?_,k.trans (x''.kp.trans (Kp.upd (x''.at hD)))⟩
   rw [List.take_add_one,ek,Option.toList_some,List.map_append]
   rfl
 . rintro acc σ' H' ⟨v0,rfl,hD,rfl,k⟩
   rw [List.length_map,List.take_length] at hD
   exact fin H' hD (k.ext nD)
theorem fV:Str.ofString ","=⟨#[44]⟩:=by decide +kernel
theorem cG (t:Str) (c:Nat):(Txt.split t ⟨#[c]⟩).length<=t.length + 1/\∀ p∈Txt.split t ⟨#[c]⟩,p.length<=t.length:=by
 have:=zd (c:=c) (ps:=Txt.split t ⟨#[c]⟩)
 rw [StrLaws.join_split] at this
 exact this
section
variable {P:Program} {w:World} {K:PySem.W.Frag} {mg:Str->Option Value} {base:Heap}
def ES:Sp:=fun vs H Q _=>∃ t:Str,vs=[.str t]/\t.length<=16777216/\Q (.bl (Txt.isascii t&&Txt.isdigit t&&decide (t.length<=60))) H
def qW:Sp:=fun vs H Q _=>∃ t:Str,vs=[.str t]/\t.length<=16777216/\Q (on (ao t)) H
theorem tO:aE ["text"] ["text"] (af fG):=⟨rfl,rfl,rfl,by decide +kernel,rfl,by decide +kernel,by decide +kernel⟩
theorem tP {f:Addr} {fd:FuncData} (F:fM K "are_figures" "are_figures" fG f fd) {aG cF cR cN:Addr} {tE tF:Tok} (B:B K mg aG cF cR cN tE tF):bB P w K mg base fC 1 f fd ["text"] ES:=by
 refine F.iM tO (fun vs H Q E h=>?_) (fun dg A outer s H vs Q E hr h=>?_)
 . obtain ⟨t,rfl,_⟩:=h
   rfl
 obtain ⟨t,rfl,hl,q⟩:=h
 refine ⟨_,(aH (aR (iP (LO PySem.F.plainAttrs_str PySem.F.slot_str_isascii PySem.F.type_str_isascii Ax (ev 0)) (iP (LO PySem.F.plainAttrs_str PySem.F.slot_str_isdigit PySem.F.type_str_isdigit Ay (ev 0)) (jY (jq Bl (aI gi rfl B.len bN (aa (ev 0) aj)) (kW rfl B.wD B.qV) (au _))))))),?_⟩
 try walk_at "rn"
 cases h1:Txt.isascii t
 . rw [h1] at q
   exact aF (by decide) q
 cases h2:Txt.isdigit t
 . rw [h1,h2] at q
   exact aO rfl (aF (by decide) q)
 . rw [h1,h2] at q
   refine aO rfl (aO rfl ⟨hl,?_⟩)
   rw [show decide ((t.length:Int)<=60)=(true&&true&&decide (t.length<=60)) from by simp only [Bool.true_and];exact decide_eq_decide.mpr (by omega)]
   exact q
theorem ze (t:Str):(Txt.removeprefix t (Str.ofString "-")).length=(cB t.cps.toList).length:=by rw [<- sZ];simp [Str.length]
theorem zf:∀ l:List Nat,(cB l).length<=l.length:=by
 intro l
 unfold cB
 split
 . simp
 . exact Nat.le_refl _
theorem JV (t:Str):(Txt.isascii (Txt.removeprefix t (Str.ofString "-"))&&Txt.isdigit (Txt.removeprefix t (Str.ofString "-"))&&decide ((Txt.removeprefix t (Str.ofString "-")).length<=60))=(!(cB t.cps.toList).isEmpty&&(cB t.cps.toList).all jS&&decide ((cB t.cps.toList).length<=60)):=by
 rw [G8,sZ,ze]
theorem rV {c:Nat}:(⟨#[c]⟩:Str)=Str.ofString "0"↔c=48:=by
 constructor
 . intro h
   have:=congrArg (fun s:Str=>s.cps.toList) h
   have h0:(Str.ofString "0").cps.toList=[48]:=by decide +kernel
   simp only [h0] at this
   simpa using this
 . intro h
   subst h
   exact jm (by decide +kernel)
theorem BP {t:Str}:t.cps.toList=[48]↔t=Str.ofString "0":=by
 constructor
 . intro h
   exact jm (by rw [h];decide +kernel)
 . intro h
   subst h
   decide +kernel
theorem lS:aE ["text","bare"] ["text"] (af eE):=⟨rfl,rfl,rfl,by decide +kernel,rfl,by decide +kernel,by decide +kernel⟩
theorem lT {f:Addr} {fd:FuncData} (F:fM K "read_figures" "read_figures" eE f fd) {aG cF cR cN:Addr} {tE tF:Tok} (B:B K mg aG cF cR cN tE tF) (fL:Callee P w K mg base "are_figures" 1 ["text"] ES):bB P w K mg base fC 2 f fd ["text"] qW:=by
 refine F.iM lS (fun vs H Q E h=>?_) (fun dg A outer s H vs Q E hr h=>?_)
 . obtain ⟨t,rfl,_⟩:=h
   rfl
 obtain ⟨t,rfl,ht,q⟩:=h
 have hbl:=ze t
 have hle:=zf t.cps.toList
 have hl:t.length=t.cps.toList.length:=by simp [Str.length]
 refine ⟨_,(aq (d8 (jZ (gK (aI aK rfl B.isinstance aA (aa (ev 0) (aa (iL rfl B.str fN) aj))))) (aH (aR bZ)) bF)
     (aq (sset (i:=1) lS.nd rfl (Or.inl rfl) (lY PySem.F.plainAttrs_str PySem.F.slot_str_removeprefix PySem.F.type_str_removeprefix qU (ev 0) (aa bg aj)))
     (aq (d8 (jZ (gK (ay fL (hr.mono (by decide)) rfl (aa (ev 1) aj)))) (aH (aR bZ)) bF)
     (aq (d8 (tw (nX (aV bH (dW mG (ev 1) ei (fun _ _=>rfl)) bg (au _)) (jP (aV ja (ev 0) bg (au _))))) (aH (aR bZ)) bF)
     (aH (aR (cZ vo rfl B.int kI (aa (ev 0) aj)))))))),?_⟩
 try walk_at "rn"
 refine ⟨_,.inl (.str _),true,rfl,aF (by decide) ⟨by omega,_,rfl,by omega,_,rfl,?_⟩⟩
 rw [JV]
 unfold ao at q
 cases ca:(!(cB t.cps.toList).isEmpty&&(cB t.cps.toList).all jS&&decide ((cB t.cps.toList).length<=60))
 . refine aO (by decide) ?_
   rw [if_neg (by unfold mT;rw [ca];simp)] at q
   exact q
 refine aF (by decide) ?_
 have ne:cB t.cps.toList≠[]:=by
   simp only [Bool.and_eq_true,Bool.not_eq_true',List.isEmpty_eq_false_iff] at ca
   exact ca.1.1
 have fin:mT t.cps.toList=true->∃ x,intText? t=some x/\t.length<=640/\Q (V.int x) H:=fun hf=>by
   rw [if_pos hf] at q
   exact ⟨_,BK hf,by have:=wB hf;omega,q⟩
 refine ⟨by omega,?_⟩
 rw [sZ]
 cases e:cB t.cps.toList with
 | nil=>exact absurd e ne
 | cons c r=>
   refine ⟨c,nH,?_⟩
   by_cases hc:c=48
   . rw [if_pos (rV.mpr hc)]
     by_cases hz:t=Str.ofString "0"
     . rw [decide_eq_true hz]
       exact aF (by decide) (fin (by unfold mT;rw [ca,BP.mpr hz];decide))
     . rw [decide_eq_false hz]
       refine aO (by decide) ?_
       rw [if_neg (by unfold mT;rw [ca,e,hc];simp [show t.cps.toList≠[48] from fun z=>hz (BP.mp z)])] at q
       exact q
   . rw [if_neg (fun z=>hc (rV.mp z))]
     exact fin (by unfold mT;rw [ca,e];simp [hc])
end
def fD (sep:Str) (ts:List Str):Str:=if ts=[] then Str.ofString "-" else Str.join sep ts
theorem jt {sep:Str} {m:Nat} (ts:List Str) (h:∀ t∈ts,t.length<=m):(fD sep ts).length<=ts.length * (m + sep.length) + 1:=by
 unfold fD
 split
 . rename_i e
   rw [e]
   show (Str.ofString "-").length<=_
   have:(Str.ofString "-").length=1:=by decide +kernel
   omega
 . exact Nat.le_succ_of_le (join_le ts h)
theorem wH {α:Type} {K:PySem.W.Frag} {c D:Addr} {L:List α} {f g:α->V} {te:TE} {v0:Option V} {rest:St} {H:Hp} {Q:Hp->Prop} (hk:H c=some (.lst (L.map f))) (nD:new K H D) (hz:L.length<=1000)
   (elt:∀ q∈L,∀ H' (Q:VK),Ext K H H'->Q (g q) H'->te (some (f q)::rest) H' Q)
   (fin:∀ H',H' D=some (.lst (L.map g))->Ext K H H'->Q H'):cA (zW K c) (dw 0) jB te D Q (v0::rest) (upd H D (.lst [])):=by
 refine nj (xs:=L.map f) (fun i acc σ' H'=>∃ (v0:Option V),σ'=v0::rest/\H' D=some (.lst acc)/\acc=(L.take i).map g/\Kp K D (upd H D (.lst [])) H') ?_ ?_ ?_ ?_
 . exact ⟨_,rfl,ah,rfl,Kp.refl⟩
 . rintro i acc σ' H' _ ⟨v0,rfl,hD,rfl,k⟩
   exact bC.of ((k.ext nD).at hk)
 . rintro i x acc σ' H' hx ⟨v0,rfl,hD,rfl,k⟩
   rw [List.getElem?_map] at hx
   obtain ⟨q,ek,rfl⟩:=Option.map_eq_some_iff.mp hx
   have hlen:((L.take i).map g).length<=1000:=by rw [List.length_map,List.length_take];omega
   unfold dw jB
   refine Af ?_
   refine elt q (List.mem_of_getElem? ek) H' _ (k.ext nD) ⟨hD,Nat.lt_of_le_of_lt hlen (by decide),_,rfl,ah,?_,k.trans (Kp.upd hD)⟩
   rw [List.take_add_one,ek,Option.toList_some,List.map_append]
   rfl
 . rintro acc σ' H' ⟨v0,rfl,hD,rfl,k⟩
   rw [List.length_map,List.take_length] at hD
   exact fin H' hD (k.ext nD)
theorem BQ {α:Type} {K:PySem.W.Frag} {c D:Addr} {L:List α} {f g:α->V} {te:TE} {v0:Option V} {rest:St} {H:Hp} {Q:Hp->Prop} (hk:H c=some (.lst (L.map f))) (nD:new K H D) (hz:L.length<=1000)
   (elt:∀ q∈L,∀ H' (Q:VK),Ext K H H'->(∀ jW,Ext K H' jW->Q (g q) jW)->te (some (f q)::rest) H' Q)
   (fin:∀ H',H' D=some (.lst (L.map g))->Ext K H H'->Q H'):cA (zW K c) (dw 0) jB te D Q (v0::rest) (upd H D (.lst [])):=by
 refine nj (xs:=L.map f) (fun i acc σ' H'=>∃ (v0:Option V),σ'=v0::rest/\H' D=some (.lst acc)/\acc=(L.take i).map g/\Kp K D (upd H D (.lst [])) H') ?_ ?_ ?_ ?_
 . exact ⟨_,rfl,ah,rfl,Kp.refl⟩
 . rintro i acc σ' H' _ ⟨v0,rfl,hD,rfl,k⟩
   exact bC.of ((k.ext nD).at hk)
 . rintro i x acc σ' H' hx ⟨v0,rfl,hD,rfl,k⟩
   rw [List.getElem?_map] at hx
   obtain ⟨q,ek,rfl⟩:=Option.map_eq_some_iff.mp hx
   have hlen:((L.take i).map g).length<=1000:=by rw [List.length_map,List.length_take];omega
   unfold dw jB
   refine Af ?_
   refine elt q (List.mem_of_getElem? ek) H' _ (k.ext nD) fun jW x''=>⟨x''.at hD,Nat.lt_of_le_of_lt hlen (by decide),_,rfl,ah,?_,k.trans (x''.kp.trans (Kp.upd (x''.at hD)))⟩
   rw [List.take_add_one,ek,Option.toList_some,List.map_append]
   rfl
 . rintro acc σ' H' ⟨v0,rfl,hD,rfl,k⟩
   rw [List.length_map,List.take_length] at hD
   exact fin H' hD (k.ext nD)
section
variable {P:Program} {w:World} {K:PySem.W.Frag} {mg:Str->Option Value} {base:Heap}
def L8:Option Int->Str
 | none=>Str.ofString "x"
 | some i=>cS i
def pA (p:Int×Option Int):Str:=cS p.1++Str.ofString ":"++L8 p.2
def oV:Option Int->V
 | some i=>.int i
 | none=>.cY
def okO (o:Option Int):Prop:=∀ i,o=some i->i.natAbs < 10 ^ 100
def mW (K:PySem.W.Frag) (H:Hp) (u:V) (p:Int×Option Int):Prop:=∃ t,u=.ref t/\tupQ K H t=some [.int p.1,oV p.2]
def tQ (p:Int×Option Int):Prop:=p.1.natAbs < 10 ^ 100/\okO p.2
theorem zg {o:Option Int} (h:okO o):(L8 o).length<=101:=by
 cases o with
 | none=>exact (by decide +kernel:(Str.ofString "x").length<=101)
 | some i=>exact bK (h i rfl)
theorem zh {p:Int×Option Int} (h:tQ p):(pA p).length<=203:=by
 unfold pA
 have h1:=bK h.1
 have h2:=zg h.2
 have h3:(Str.ofString ":").length=1:=by decide +kernel
 rw [Str.length_append,Str.length_append]
 omega
structure Row where
 k:Int
 a:Addr
 vs:List (V×(Int×Option Int))
def pB (k:Int) (ws:List (Int×Option Int)):Str:=cS k++Str.ofString "="++fD (Str.ofString ",") (ws.map pA)
def vt (K:PySem.W.Frag) (H:Hp) (u:V) (r:Row):Prop:=∃ t,u=.ref t/\tupQ K H t=some [.int r.k,.ref r.a]/\H r.a=some (.lst (r.vs.map (·.1)))/\∀ q∈r.vs,mW K H q.1 q.2
def BR (r:Row):Prop:=r.k.natAbs < 10 ^ 100/\(∀ q∈r.vs,tQ q.2)/\r.vs.length<=8
theorem zj {r:Row} (ok:BR r):(pB r.k (r.vs.map (·.2))).length<=1800:=by
 have h1:=bK ok.1
 have h3:(Str.ofString "=").length=1:=by decide +kernel
 have hl:∀ t∈(r.vs.map (·.2)).map pA,t.length<=203:=by
   intro t ht
   obtain ⟨p,hp,rfl⟩:=List.mem_map.1 ht
   obtain ⟨q0,hq,rfl⟩:=List.mem_map.1 hp
   exact zh (ok.2.1 q0 hq)
 have h4:=jt (sep:=Str.ofString ",") _ hl
 have h5:(Str.ofString ",").length=1:=by decide +kernel
 have h6:=ok.2.2
 rw [List.length_map,List.length_map,h5] at h4
 unfold pB
 rw [Str.length_append,Str.length_append]
 omega
inductive cg where
 | plus (n:Int) | is (n:Int) | gone
def cg.v:cg->List V
 | .plus n=>[.str "plus",.int n]
 | .is n=>[.str "is",.int n]
 | .gone=>[.str "gone"]
def cg.t:cg->Str
 | .plus n=>Str.ofString "+"++cS n
 | .is n=>Str.ofString "="++cS n
 | .gone=>Str.ofString "x"
def cg.ok:cg->Prop
 | .plus n=>n.natAbs < 10 ^ 100
 | .is n=>n.natAbs < 10 ^ 100
 | .gone=>True
theorem cg.len {h:cg} (ok:h.ok):h.t.length<=102:=by
 cases h with
 | plus n=>
   have h1:=bK (i:=n) ok
   have h3:(Str.ofString "+").length=1:=by decide +kernel
   show (Str.ofString "+"++cS n).length<=_
   rw [Str.length_append];omega
 | is n=>
   have h1:=bK (i:=n) ok
   have h3:(Str.ofString "=").length=1:=by decide +kernel
   show (Str.ofString "="++cS n).length<=_
   rw [Str.length_append];omega
 | gone=>exact (by decide +kernel:(Str.ofString "x").length<=102)
theorem s5:¬ (("inner":Str)="leaf"):=by decide +kernel
def cg.hd:cg->PyData
 | .plus n=>.tuple [.str "plus",.int n]
 | .is n=>.tuple [.str "is",.int n]
 | .gone=>.tuple [.str "gone"]
theorem cg.BS {K:PySem.W.Frag} {H:Hp} {r:Addr} {h:cg} (e:tupQ K H r=some h.v):Is K H h.hd (.ref r):=by
 cases h with
 | plus n=>simp only [cg.hd,Is,cj];exact ⟨r,_,rfl,fc e,_,_,rfl,rfl,_,_,rfl,rfl,rfl⟩
 | is n=>simp only [cg.hd,Is,cj];exact ⟨r,_,rfl,fc e,_,_,rfl,rfl,_,_,rfl,rfl,rfl⟩
 | gone=>simp only [cg.hd,Is,cj];exact ⟨r,_,rfl,fc e,_,_,rfl,rfl,rfl⟩
theorem cg.shaped (h:cg):SeqAt.shaped h.hd=true:=by
 cases h <;> simp only [SeqAt.shaped,cg.hd,PyData.canLay0,PyData.canLayAll0,PyData.depth,PyData.depthAll] <;> decide +kernel
theorem cg.zk (h:cg):PyData.eqv h.hd cg.gone.hd=(match h with | .gone=>true | _=>false):=by
 cases h <;> rfl
def JX (K:PySem.W.Frag) (H:Hp) (u:V) (h:cg):Prop:=∃ t,u=.ref t/\tupQ K H t=some h.v
structure Nt where
 n:Int
 lo:Int
 hi:Int
 t:cg
 m:cg
def Nt.ok (e:Nt):Prop:=e.n.natAbs < 10 ^ 100/\e.lo.natAbs < 10 ^ 100/\e.hi.natAbs < 10 ^ 100/\e.t.ok/\e.m.ok
def Nt.x (e:Nt):Str:=Str.join (Str.ofString ".") [cS e.n,cS e.lo,cS e.hi,e.t.t,e.m.t]
def oq (K:PySem.W.Frag) (H:Hp) (v:V) (e:Nt):Prop:=∃ a w r s,v=.ref a/\tupQ K H a=some [.int e.n,.int e.lo,.int e.hi,.ref w]/\tupQ K H w=some [.ref r,.ref s]/\tupQ K H r=some e.t.v/\tupQ K H s=some e.m.v
theorem Nt.le {e:Nt} (ok:e.ok):∀ t∈[cS e.n,cS e.lo,cS e.hi,e.t.t,e.m.t],t.length<=102:=by
 have h1:=bK ok.1
 have h2:=bK ok.2.1
 have h3:=bK ok.2.2.1
 have h4:=cg.len ok.2.2.2.1
 have h5:=cg.len ok.2.2.2.2
 intro t ht
 simp only [List.mem_cons,List.not_mem_nil,or_false] at ht
 rcases ht with rfl | rfl | rfl | rfl | rfl <;> omega
theorem Nt.len {e:Nt} (ok:e.ok):e.x.length<=600:=by
 have l2:=join_le (sep:=Str.ofString ".") _ (Nt.le ok)
 have h5:(Str.ofString ".").length=1:=by decide +kernel
 rw [h5] at l2
 simp only [List.length_cons,List.length_nil] at l2
 unfold Nt.x
 omega
theorem oq.ext {H H':Hp} {v:V} {e:Nt} (h:oq K H v e) (x:Ext K H H'):oq K H' v e:=by
 obtain ⟨a,w,r,s,rfl,h1,h2,h3,h4⟩:=h
 exact ⟨a,w,r,s,rfl,x.tup h1,x.tup h2,x.tup h3,x.tup h4⟩
theorem vt.ext {H H':Hp} {v:V} {r:Row} (h:vt K H v r) (x:Ext K H H'):vt K H' v r:=by
 obtain ⟨t,rfl,h1,h2,h3⟩:=h
 exact ⟨t,rfl,x.tup h1,x.at h2,fun q hq=>let ⟨t,e,h⟩:=h3 q hq;⟨t,e,x.tup h⟩⟩
inductive Rm where
 | leaf (n:Int) (ra:Addr) (rows:List (V×Row))
 | inner (n:Int) (pa:Addr) (vz:List Int) (ca:Addr) (ch:List Int) (ta:Addr) (fT:List (V×Nt))
def lg (pl:Int->Int) (c:Int):Str:=cS c++Str.ofString "@"++cS (pl c)
def Rm.x (pl:Int->Int):Rm->Str
 | .leaf n _ rows=>Str.join (Str.ofString " ") [Str.ofString "leaf",cS n,fD (Str.ofString ";") (rows.map fun q=>pB q.2.k (q.2.vs.map (·.2)))]
 | .inner n _ vz _ ch _ fT=>Str.join (Str.ofString " ") [Str.ofString "inner",cS n,fD (Str.ofString ",") (vz.map cS),fD (Str.ofString ",") (ch.map (lg pl)),fD (Str.ofString ";") (fT.map fun q=>q.2.x)]
def Rm.at (K:PySem.W.Frag) (H:Hp) (a:Addr):Rm->Prop
 | .leaf n ra rows=>tupQ K H a=some [.str "leaf",.int n,.ref ra]/\H ra=some (.lst (rows.map (·.1)))/\∀ q∈rows,vt K H q.1 q.2
 | .inner n pa vz ca ch ta fT=>tupQ K H a=some [.str "inner",.int n,.ref pa,.ref ca,.ref ta]/\H pa=some (.lst (vz.map V.int))/\H ca=some (.lst (ch.map V.int))/\H ta=some (.lst (fT.map (·.1)))/\∀ q∈fT,oq K H q.1 q.2
def Rm.ok (pl:Int->Int):Rm->Prop
 | .leaf n _ rows=>n.natAbs < 10 ^ 100/\(∀ q∈rows,BR q.2)/\rows.length<=26
 | .inner n _ vz _ ch _ fT=>n.natAbs < 10 ^ 100/\(∀ i∈vz,i.natAbs < 10 ^ 100)/\vz.length<=26/\(∀ c∈ch,c.natAbs < 10 ^ 100/\(pl c).natAbs < 10 ^ 100)/\ch.length<=26/\(∀ q∈fT,q.2.ok)/\fT.length<=26
def Rm.ch:Rm->List Int
 | .leaf _ _ _=>[]
 | .inner _ _ _ _ ch _ _=>ch
def Q0 (H:Hp) (d:Addr) (pl:Int->Int) (ch:List Int):Prop:=∃ kvs,H d=some (.dK kvs)/\∀ c∈ch,gH kvs (.inl c)=some (.int (pl c))
end
section
variable {P:Program} {w:World} {K:PySem.W.Frag} {mg:Str->Option Value} {base:Heap}
def L3 (x y z:Int):HO:=.lst [.int x,.int y,.int z]
def Wl (H:Hp) (p:Addr):Prop:=(∃ x,H p=some (.lst [.int x]))∨∃ x y z,H p=some (L3 x y z)
theorem Wl.ext {K:PySem.W.Frag} {H H':Hp} {p:Addr} (h:Wl H p) (x:Ext K H H'):Wl H' p:=by
 rcases h with ⟨u,h⟩ | ⟨u,v,z,h⟩
 . exact .inl ⟨u,x.at h⟩
 . exact .inr ⟨u,v,z,x.at h⟩
theorem Wl.ne {K:PySem.W.Frag} {H:Hp} {p b:Addr} (h:Wl H p) (n:new K H b):b≠p:=by
 rcases h with ⟨u,h⟩ | ⟨u,v,z,h⟩
 . exact (aW h n.1).symm
 . exact (aW h n.1).symm
theorem Wl.upd {H:Hp} {p b:Addr} {o:HO} (h:Wl H p) (n:p≠b):Wl (upd H b o) p:=by
 rcases h with ⟨u,h⟩ | ⟨u,v,z,h⟩
 . exact .inl ⟨u,by rw [aJ n];exact h⟩
 . exact .inr ⟨u,v,z,by rw [aJ n];exact h⟩
def AI (K:PySem.W.Frag):Sp:=fun vs H Q _=>∃ (a:Addr) (ns:List Int) (k:Int),vs=[.ref a,.int k]/\bC K H a (ns.map V.int)/\0<=k/\∀ n,Q (.int n) H
theorem qX:aE ["_law_script","_law_k"] ["_law_script","_law_k"] (af eV):=⟨rfl,rfl,rfl,by decide +kernel,rfl,by decide +kernel,by decide +kernel⟩
theorem qY {f:Addr} {fd:FuncData} (F:fM K "_law_cell_at" "_law_cell_at" eV f fd) {aG cF cR cN:Addr} {tE tF:Tok} (B:B K mg aG cF cR cN tE tF):bB P w K mg base fC 1 f fd ["_law_script","_law_k"] (AI K):=by
 refine F.iM qX (fun vs H Q E h=>?_) (fun dg A outer s H vs Q E hr h=>?_)
 . obtain ⟨a,ns,k,rfl,_⟩:=h
   rfl
 obtain ⟨a,ns,k,rfl,hs,h0,q⟩:=h
 refine ⟨_,(aq (d8 (aV uS (ev 1) (aI lE rfl B.len bN (aa (ev 0) aj)) (au _)) (aH (aR (dW Bs (ev 0) (ev 1) (fun _ _=>rfl)))) bF)
     (aH (aR ei))),?_⟩
 simp_arith [LC]
 refine ⟨_,.inl hs,?_⟩
 refine cQ (fun c=>?_) (fun c=>q 0)
 obtain ⟨v,e,m⟩:=mP h0 c
 obtain ⟨n,_,rfl⟩:=List.mem_map.mp m
 exact ⟨_,hs,_,e,q n⟩
def fj (K:PySem.W.Frag):Sp:=fun vs H Q _=>∃ p m,vs=[.ref p,.int m]/\Wl H p/\0 < m/\m < 10 ^ 100/\
 ∀ (r:Int) (H':Hp),0<=r->r < m->Wl H' p->Kp K p H H'->Q (.int r) H'
theorem gM:aE ["_law_state","_law_base","_law_cell","_law_found","_law_number_here"] ["_law_state","_law_base"] (af gv):=⟨rfl,rfl,rfl,by decide +kernel,rfl,by decide +kernel,by decide +kernel⟩
theorem uy {f:Addr} {fd:FuncData} (F:fM K "_law_digit" "_law_digit" gv f fd) {aG cF cR cN:Addr} {tE tF:Tok} (B:B K mg aG cF cR cN tE tF):bB P w K mg base fC 1 f fd ["_law_state","_law_base"] (fj K):=by
 refine F.iM gM (fun vs H Q E h=>?_) (fun dg A outer s H vs Q E hr h=>?_)
 . obtain ⟨p,m,rfl,_⟩:=h
   rfl
 obtain ⟨p,m,rfl,hp,h0,h1,q⟩:=h
 refine ⟨_,(nF (d8 (aV bH (aI bE rfl B.len bN (aa (ev 0) aj)) ei (au _)) (aq (sset (i:=2) gM.nd rfl (Or.inl rfl) (dW bI (ev 0) ei (fun _ _=>rfl)))
     (aq (kX (dW bI (cK (aa ei (aa (ev 2) aj))) (cZ jL rfl B.int kI (aa (jq sD (ev 2) (gW 1000000000000000000) (au _)) aj)) (fun _ _=>rfl)) (Jr (ev 0) ei set_list))
     (aH (mQ (lY PySem.F.plainAttrs_list PySem.F.slot_list_extend PySem.F.type_list_extend Cv (ev 0) (aa (cK (aa (dB pX (ev 2) ei) (aa ei aj))) aj)))))) bF)
     (aq (d8 (aV qH (dW bI (ev 0) ei (fun _ _=>rfl)) ei (au _)) (aq (sset (i:=3) gM.nd rfl (Or.inl rfl) (dB pX (dW bI (ev 0) ei (fun _ _=>rfl)) (ev 1)))
     (aq (kX (dB oQ (dW bI (ev 0) ei (fun _ _=>rfl)) (ev 1)) (Jr (ev 0) ei set_list))
     (aH (aR (ev 3))))) bF)
     (aq (kX (dB cu (dW bI (ev 0) ei (fun _ _=>rfl)) ei) (Jr (ev 0) ei set_list))
     (aq (sset (i:=4) gM.nd rfl (Or.inl rfl) (dB pX (dB sC (dB cu (dB cu (dW bI (ev 0) ei (fun _ _=>rfl)) (dB sC ei (dW bI (ev 0) ei (fun _ _=>rfl)))) ei) ei) ei))
     (aq (sset (i:=4) gM.nd rfl (Or.inl rfl) (dB pX (dB sC (ev 4) (dB cu (dB oQ (ev 4) ei) ei)) ei))
     (aH (aR (dB pX (dB pX (dB sC (ev 4) (dB cu (dB oQ (ev 4) ei) ei)) ei) (ev 1))))))))),?_⟩
 obtain ⟨J,eJ⟩:∃ J:St->Hp->Prop,J=fun σ1 G1=>∃ (v2:Option V) (x y z:Int),σ1=[some (.ref p),some (.int m),v2,none,none]/\G1 p=some (L3 x y z)/\Kp K p H G1:=⟨_,rfl⟩
 refine ⟨J,?_,?_⟩
 . rcases hp with ⟨x,hp⟩ | ⟨x,y,z,hp⟩
   . simp_arith [hp,aX hp,rQ]
     refine cQ (fun _=>?_) (fun c=>absurd rfl c)
     intro b nb
     have ne:b≠p:=(aW hp nb.1).symm
     obtain ⟨v,ev⟩:∃ v:Int,pU [V.int 0,V.int x] (if 1000000000000000000<=x then 1 else 0)=some (.int v):=by split <;> exact ⟨_,rfl⟩
     have x1:=Ext.new (K:=K) (o:=.lst [.int 0,.int x]) nb
     have lU:=x1.at hp
     refine ⟨_,ev,_,lU,0,rfl,.inl ⟨_,bC.of ah⟩,fun b2 nb2=>⟨_,by rw [aJ nb2.1.symm];exact ah,by show 1<=16777214;decide,?_⟩⟩
     rw [eJ]
     have k2:Kp K p _ (upd (upd H b (.lst [.int 0,.int x])) p (.lst [.int v])):=Kp.upd lU
     have n2:new K (upd (upd H b (.lst [.int 0,.int x])) p (.lst [.int v])) b2:=⟨by rw [aJ nb2.1,aJ nb2.2.1];exact nb2.2.2.1,nb2.2.2.2⟩
     have x3:=Ext.new (K:=K) (o:=.lst [.int (x % 2147483647),.int 0]) n2
     exact ⟨_,v,_,_,rfl,ah,x1.kp.trans (k2.trans (x3.kp.trans (Kp.upd (x3.at ah))))⟩
   . unfold L3 at hp
     simp_arith [hp,aX hp,rQ]
     refine cQ (fun c=>absurd c (by decide)) (fun _=>?_)
     rw [eJ]
     exact ⟨_,_,_,_,rfl,hp,Kp.refl⟩
 intro σ1 G1 h
 rw [eJ] at h
 clear eJ
 obtain ⟨v2,x,y,z,rfl,hp,k⟩:=h
 unfold L3 at hp
 simp_arith [hp,aX hp,rQ]
 have g:∀ (u v z:Int),Kp K p H (upd G1 p (L3 u v z)):=fun u v z=>k.trans (Kp.upd hp)
 refine cQ (fun c=>⟨h0,h0,by omega,?_⟩) (fun c=>?_)
 . exact q _ _ (Int.emod_nonneg _ (by omega)) (Int.emod_lt_of_pos _ h0) (.inr ⟨_,_,_,ah⟩) (g _ _ _)
 . refine ⟨?_,?_,h0,q _ _ (Int.emod_nonneg _ (by omega)) (Int.emod_lt_of_pos _ h0) (.inr ⟨_,_,_,ah⟩) (g _ _ _)⟩
   all_goals omega
theorem Wl.lst {H:Hp} {p:Addr} (h:Wl H p):∃ xs,H p=some (.lst xs):=by
 rcases h with ⟨u,h⟩ | ⟨u,v,z,h⟩
 . exact ⟨_,h⟩
 . exact ⟨_,h⟩
theorem Wl.back {K:PySem.W.Frag} {H H':Hp} {p r:Addr} (h:Wl H' p) (k:Kp K p H H') (n:H' r=none):H r=none:=by
 by_cases e:H r=none
 . exact e
 . obtain ⟨o,ho⟩:=Option.ne_none_iff_exists'.1 e
   have ne:r≠p:=fun e=>by
     obtain ⟨xs,hx⟩:=h.lst
     rw [<- e,n] at hx
     cases hx
   have:=k.keep r o ho ne
   rw [n] at this
   cases this
theorem mW.kp {K:PySem.W.Frag} {H H':Hp} {u:V} {q:Int×Option Int} {p:Addr} {xs:List V} (h:mW K H u q) (k:Kp K p H H') (hp:H p=some (.lst xs)):mW K H' u q:=by
 obtain ⟨t,e,ht⟩:=h
 exact ⟨t,e,k.tup hp ht⟩
theorem mW.ext {K:PySem.W.Frag} {H H':Hp} {u:V} {q:Int×Option Int} (h:mW K H u q) (x:Ext K H H'):mW K H' u q:=by
 obtain ⟨t,e,ht⟩:=h
 exact ⟨t,e,x.tup ht⟩
theorem nK (ns:List Int) {i:Int} (h0:0<=i) (h1:i < ns.length):∃ n,n∈ns/\pU (ns.map V.int) i=some (.int n):=by
 obtain ⟨v,ev,mv⟩:=mP (xs:=ns.map V.int) h0 (by rw [List.length_map];exact h1)
 obtain ⟨n,hn,rfl⟩:=List.mem_map.1 mv
 exact ⟨n,hn,ev⟩
def mX (K:PySem.W.Frag):Sp:=fun vs H Q _=>∃ p,vs=[.ref p]/\Wl H p/\∀ (i:Int) (H':Hp),i.natAbs < 10 ^ 60->Wl H' p->Kp K p H H'->Q (.int i) H'
theorem fW:aE ["_law_state","_law_way","_law_found"] ["_law_state"] (af fH):=⟨rfl,rfl,rfl,by decide +kernel,rfl,by decide +kernel,by decide +kernel⟩
theorem tR {f:Addr} {fd:FuncData} (F:fM K "_law_number" "_law_number" fH f fd) {aG cF cR cN:Addr} {tE tF:Tok} (B:B K mg aG cF cR cN tE tF) (ai:Callee P w K mg base "_law_digit" 1 ["_law_state","_law_base"] (fj K)):bB P w K mg base fC 2 f fd ["_law_state"] (mX K):=by
 refine F.iM fW (fun vs H Q E h=>?_) (fun dg A outer s H vs Q E hr h=>?_)
 . obtain ⟨p,rfl,_⟩:=h
   rfl
 obtain ⟨p,rfl,hp,q⟩:=h
 refine ⟨_,(aq (sset (i:=1) fW.nd rfl (Or.inl rfl) (ay ai (hr.mono (by decide)) rfl (aa (ev 0) (aa ei aj))))
     (aq (sset (i:=2) fW.nd rfl (Or.inl rfl) (ay ai (hr.mono (by decide)) rfl (aa (ev 0) (aa (dW bI (cK (aa ei (aa ei (aa (gW 1000000000) (aa (gW 1000000000000000000000000000000) (aa (gW 1000000000000000000000000000000000000000000000000000000000000) (aa (gW 1000000000) aj))))))) (ev 1) (fun _ _=>rfl)) aj))))
     (nF (d8 (aV bH (ev 1) ei (au _)) (aH (sset (i:=2) fW.nd rfl (Or.inl rfl) (dB jd (dB jd (gW 1000000000000000000000000000000000000000000000000000000000000) ei) (ev 2)))) bF)
     (nF (d8 (aV bH (ay ai (hr.mono (by decide)) rfl (aa (ev 0) (aa ei aj))) ei (au _)) (aH (sset (i:=2) fW.nd rfl (Or.inl rfl) (dB jd ei (ev 2)))) bF)
     (aH (aR (ev 2))))))),?_⟩
 try walk_at "rn"
 refine ⟨p,6,rfl,hp,by decide,by decide,fun w H1 w0 w1 lU k1=>?_⟩
 try walk_at "rn"
 intro D nD
 obtain ⟨n,hn,en⟩:=nK [1,10,10 ^ 9,10 ^ 30,10 ^ 60,10 ^ 9] (i:=w) w0 w1
 have bn:0 < n/\n<=10 ^ 60:=by
   simp only [List.mem_cons,List.not_mem_nil,or_false] at hn
   rcases hn with rfl | rfl | rfl | rfl | rfl | rfl <;> exact ⟨by decide,by decide⟩
 have x1:=Ext.new (K:=K) (o:=.lst [V.int 1,V.int 10,V.int 1000000000,V.int 1000000000000000000000000000000,V.int 1000000000000000000000000000000000000000000000000000000000000,V.int 1000000000]) nD
 refine ⟨_,en,p,n,rfl,lU.ext x1,bn.1,by omega,fun j H2 j0 j1 jz k2=>?_⟩
 have Ma:=k1.trans (x1.kp.trans k2)
 obtain ⟨J,eJ⟩:∃ J:St->Hp->Prop,J=fun σ1 G1=>∃ j:Int,σ1=[some (.ref p),some (.int w),some (.int j)]/\j.natAbs < 10 ^ 60/\Wl G1 p/\Kp K p H G1:=⟨_,rfl⟩
 refine ⟨J,?_,?_⟩
 . try walk_at "rn"
   refine cQ (fun c=>?_) (fun c=>?_)
   . rw [eJ]
     subst c
     have:n=10 ^ 9:=by
       have e:pU ([1,10,10 ^ 9,10 ^ 30,10 ^ 60,10 ^ 9].map V.int) 5=some (.int (10 ^ 9)):=rfl
       rw [e] at en
       injection en with en
       injection en with en
       exact en.symm
     exact ⟨_,rfl,by omega,jz,Ma⟩
   . rw [eJ]
     exact ⟨j,rfl,by omega,jz,Ma⟩
 intro σ1 G1 h
 rw [eJ] at h
 clear eJ
 obtain ⟨j,rfl,jb,hp3,k3⟩:=h
 obtain ⟨J,eJ⟩:∃ J:St->Hp->Prop,J=fun σ1 G1=>∃ j:Int,σ1=[some (.ref p),some (.int w),some (.int j)]/\j.natAbs < 10 ^ 60/\Wl G1 p/\Kp K p H G1:=⟨_,rfl⟩
 refine ⟨J,?_,?_⟩
 . try walk_at "rn"
   refine ⟨p,2,rfl,hp3,by decide,by decide,fun r H4 r0 r1 qJ k4=>?_⟩
   try walk_at "rn"
   refine cQ (fun c=>?_) (fun c=>?_)
   . rw [eJ]
     exact ⟨_,rfl,by omega,qJ,k3.trans k4⟩
   . rw [eJ]
     exact ⟨_,rfl,jb,qJ,k3.trans k4⟩
 intro σ1 G1 h
 rw [eJ] at h
 clear eJ
 obtain ⟨j,rfl,jb,hp3,k3⟩:=h
 try walk_at "rn"
 exact q _ _ jb hp3 k3
def pF (K:PySem.W.Frag):Sp:=fun vs H Q _=>∃ p,vs=[.ref p]/\Wl H p/\∀ (i:Int) (H':Hp),0<=i->i < 10 ^ 59->Wl H' p->Kp K p H H'->Q (.int i) H'
theorem uz:aE ["_law_state"] ["_law_state"] (af gw):=⟨rfl,rfl,rfl,by decide +kernel,rfl,by decide +kernel,by decide +kernel⟩
theorem uA {f:Addr} {fd:FuncData} (F:fM K "_law_first" "_law_first" gw f fd) {aG cF cR cN:Addr} {tE tF:Tok} (B:B K mg aG cF cR cN tE tF) (ai:Callee P w K mg base "_law_digit" 1 ["_law_state","_law_base"] (fj K)):bB P w K mg base fC 2 f fd ["_law_state"] (pF K):=by
 refine F.iM uz (fun vs H Q E h=>?_) (fun dg A outer s H vs Q E hr h=>?_)
 . obtain ⟨p,rfl,_⟩:=h
   rfl
 obtain ⟨p,rfl,hp,q⟩:=h
 refine ⟨_,(aH (aR (ay ai (hr.mono (by decide)) rfl (aa (ev 0) (aa (dW bI (cK (aa ei (aa ei (aa (gW 1000000000000) (aa (gW 100000000000000000000000000000000000000000000000000000000000) aj))))) (ay ai (hr.mono (by decide)) rfl (aa (ev 0) (aa ei aj))) (fun _ _=>rfl)) aj))))),?_⟩
 try walk_at "rn"
 intro D nD
 have x1:=Ext.new (K:=K) (o:=.lst [V.int 1,V.int 10,V.int 1000000000000,V.int 100000000000000000000000000000000000000000000000000000000000]) nD
 refine ⟨p,4,rfl,hp.ext x1,by decide,by decide,fun d H2 d0 d1 jz k2=>?_⟩
 simp_arith [aX (k2.keep D _ ah (hp.ne nD))]
 obtain ⟨n,hn,en⟩:=nK [1,10,10 ^ 12,10 ^ 59] (i:=d) d0 d1
 have bn:0 < n/\n<=10 ^ 59:=by
   simp only [List.mem_cons,List.not_mem_nil,or_false] at hn
   rcases hn with rfl | rfl | rfl | rfl <;> exact ⟨by decide,by decide⟩
 exact ⟨_,en,p,n,rfl,jz,bn.1,by omega,fun j H3 j0 j1 hp3 k3=>q _ _ j0 (by omega) hp3 (x1.kp.trans (k2.trans k3))⟩
def mY (K:PySem.W.Frag):Sp:=fun vs H Q _=>∃ (p:Addr) (n:Nat) (i:Int),vs=[.ref p,.int n,.int i]/\Wl H p/\n<=60/\0<=i/\i < 10 ^ 59/\
 ∀ (r:Addr) (ns:List Int) (H':Hp),H' r=some (.lst (ns.map V.int))->ns.length=n->(∀ j∈ns,i<=j/\j < i + 10 ^ 12)->ns.Pairwise (· < ·)->H r=none->Wl H' p->Kp K p H H'->Q (.ref r) H'
theorem fX:aE ["_law_state","_law_many","_law_first_here","_law_step","_law_found","_law_k"] ["_law_state","_law_many","_law_first_here"] (af fJ):=⟨rfl,rfl,rfl,by decide +kernel,rfl,by decide +kernel,by decide +kernel⟩
theorem tS {f:Addr} {fd:FuncData} (F:fM K "_law_rising" "_law_rising" fJ f fd) {aG cF cR cN:Addr} {tE tF:Tok} (B:B K mg aG cF cR cN tE tF) (ai:Callee P w K mg base "_law_digit" 1 ["_law_state","_law_base"] (fj K)):bB P w K mg base fC 2 f fd ["_law_state","_law_many","_law_first_here"] (mY K):=by
 refine F.iM fX (fun vs H Q E h=>?_) (fun dg A outer s H vs Q E hr h=>?_)
 . obtain ⟨p,n,i,rfl,_⟩:=h
   rfl
 obtain ⟨p,n,i,rfl,hp,n60,i0,i1,q⟩:=h
 refine ⟨_,(aq (sset (i:=3) fX.nd rfl (Or.inl rfl) (dW bI (cK (aa ei (aa ei (aa (gW 1000000000) aj)))) (ay ai (hr.mono (by decide)) rfl (aa (ev 0) (aa ei aj))) (fun _ _=>rfl)))
     (aq (sset (i:=4) fX.nd rfl (Or.inl rfl) (cK aj))
     (aq (vW PassesOwn.never rfl (rO rfl B.range (aa (ev 1) aj)) (aM (i:=5) fX.nd rfl (Or.inl rfl))
       (aq (mQ (lY PySem.F.plainAttrs_list PySem.F.slot_list_append PySem.F.type_list_append d7 (ev 4) (aa (ev 2) aj)))
     (aH (sset (i:=2) fX.nd rfl (Or.inl rfl) (dB cu (dB cu (ev 2) ei) (ay ai (hr.mono (by decide)) rfl (aa (ev 0) (aa (ev 3) aj))))))))
     (aH (aR (ev 4)))))),?_⟩
 try walk_at "rn"
 intro D nD
 have x1:=Ext.new (K:=K) (o:=.lst [V.int 1,V.int 7,V.int 1000000000]) nD
 refine ⟨p,3,rfl,hp.ext x1,by decide,by decide,fun d H2 d0 d1 jz k2=>?_⟩
 simp_arith [aX (k2.keep D _ ah (hp.ne nD))]
 obtain ⟨m,hm,em⟩:=nK [1,7,10 ^ 9] (i:=d) d0 d1
 have bm:0 < m/\m<=10 ^ 9:=by
   simp only [List.mem_cons,List.not_mem_nil,or_false] at hm
   rcases hm with rfl | rfl | rfl <;> exact ⟨by decide,by decide⟩
 refine ⟨_,em,fun R nR=>⟨by omega,by omega,?_⟩⟩
 have yj:R≠p:=jz.ne nR
 have Ma:=x1.kp.trans k2
 refine sL (fun k σ H'=>∃ (v5:Option V) (i':Int) (ns:List Int),σ=[some (.ref p),some (.int n),some (.int i'),some (.int m),some (.ref R),v5]/\H' R=some (.lst (ns.map V.int))/\ns.length=k/\(∀ j∈ns,i<=j/\j < i')/\ns.Pairwise (· < ·)/\i<=i'/\i'<=i + k * (10 ^ 9 + 1)/\Wl H' p/\j4 K p R (upd H2 R (.lst [])) H') ⟨_,i,[],rfl,ah,rfl,(fun _ h=>by cases h),.nil,by omega,by omega,jz.upd yj.symm,j4.refl⟩ ?_ ?_
 . rintro k σ H3 hk ⟨v5,i',ns,rfl,hR,ln,hb,pw,i3,i4,hp3,k3⟩
   try walk_at "rn"
   have hk':k < n:=by simpa using hk
   refine ⟨.inl ⟨_,bC.of hR⟩,_,hR,by rw [List.length_map];omega,?_⟩
   have Og:(upd H3 R (.lst (ns.map V.int++[.int i']))) R=some (.lst ((ns++[i']).map V.int)):=by rw [ah,List.map_append];rfl
   refine ⟨p,m,rfl,hp3.upd yj.symm,bm.1,by omega,fun d H5 d0 d1 uB k5=>?_⟩
   try walk_at "rn"
   refine ⟨ns++[i'],k5.keep R _ Og yj,by rw [List.length_append,ln];rfl,?_,?_,by omega,?_,uB,k3.trans ((Kp.r (Kp.upd hR)).trans k5.l)⟩
   . intro j hj
     rcases List.mem_append.1 hj with h | h
     . have:=hb j h
       omega
     . rw [List.mem_singleton] at h
       omega
   . rw [List.pairwise_append]
     refine ⟨pw,List.pairwise_singleton _ _,fun a ha b hb'=>?_⟩
     rw [List.mem_singleton] at hb'
     have:=hb a ha
     omega
   . rw [Int.natCast_add]
     omega
 . rintro σ H3 ⟨v5,i',ns,rfl,hR,ln,hb,pw,i3,i4,hp3,k3⟩
   try walk_at "rn"
   have e:(n:Int).toNat=n:=rfl
   refine q R ns H3 hR ?_ ?_ pw ?_ hp3 (Ma.trans (k3.kp nR))
   . simpa using ln
   . intro j hj
     have h1:=hb j hj
     rw [e] at i4
     have h2:(n:Int) * (10 ^ 9 + 1)<=60 * (10 ^ 9 + 1):=by omega
     omega
   . by_cases h:H R=none
     . exact h
     . obtain ⟨o,ho⟩:=Option.ne_none_iff_exists'.1 h
       have:=Ma.keep R o ho yj
       rw [nR.1] at this
       cases this
def AJ (K:PySem.W.Frag):Sp:=fun vs H Q _=>∃ (p:Addr) (n:Nat),vs=[.ref p,.int n]/\Wl H p/\n<=60/\
 ∀ (r:Addr) (ns:List Int) (H':Hp),H' r=some (.lst (ns.map V.int))->ns.length=n->(∀ j∈ns,j.natAbs < 10 ^ 60)->H r=none->Wl H' p->Kp K p H H'->Q (.ref r) H'
theorem jD:aE ["_law_state","_law_many","_law_way","_law_first_here","_law_keys_here"] ["_law_state","_law_many"] (af iy):=⟨rfl,rfl,rfl,by decide +kernel,rfl,by decide +kernel,by decide +kernel⟩
theorem wI {f:Addr} {fd:FuncData} (F:fM K "_law_keys" "_law_keys" iy f fd) {aG cF cR cN:Addr} {tE tF:Tok} (B:B K mg aG cF cR cN tE tF) (ai:Callee P w K mg base "_law_digit" 1 ["_law_state","_law_base"] (fj K)) (bQ:Callee P w K mg base "_law_rising" 2 ["_law_state","_law_many","_law_first_here"] (mY K)):bB P w K mg base fC 3 f fd ["_law_state","_law_many"] (AJ K):=by
 refine F.iM jD (fun vs H Q E h=>?_) (fun dg A outer s H vs Q E hr h=>?_)
 . obtain ⟨p,n,rfl,_⟩:=h
   rfl
 obtain ⟨p,n,rfl,hp,n60,q⟩:=h
 refine ⟨_,(aq (sset (i:=2) jD.nd rfl (Or.inl rfl) (ay ai (hr.mono (by decide)) rfl (aa (ev 0) (aa ei aj))))
     (aq (sset (i:=3) jD.nd rfl (Or.inl rfl) (ay ai (hr.mono (by decide)) rfl (aa (ev 0) (aa (dW bI (cK (aa ei (aa (gW 1000000) (aa (dB sC ei (gW 100000000000)) (aa ei aj))))) (ev 2) (fun _ _=>rfl)) aj))))
     (aq (sset (i:=4) jD.nd rfl (Or.inl rfl) (ay bQ (hr.mono (by decide)) rfl (aa (ev 0) (aa (ev 1) (aa (ev 3) aj)))))
     (aq (d8 (aV bH (ay ai (hr.mono (by decide)) rfl (aa (ev 0) (aa ei aj))) ei (au _)) (aH (aR (ur (j5.mk (N:=["_law_key"]) (src:=[none]) rfl rfl) rfl (d9 (QO (ev 4))) (fun _ _ _ _=>(aM (i:=0) (show (["_law_key"]:List Str).Nodup from by decide +kernel) rfl (Or.inl rfl))) (fun _ _ _ _=>eB) (fun _ _ _ _=>(dB jd (dB jd (gW 1000000000000) ei) (ev 0)))))) bF)
     (aH (aR (ev 4))))))),?_⟩
 try walk_at "rn"
 refine ⟨p,4,rfl,hp,by decide,by decide,fun w H1 w0 w1 lU k1=>?_⟩
 try walk_at "rn"
 intro D nD
 have x1:=Ext.new (K:=K) (o:=.lst [V.int 1,V.int 1000000,V.int 900000000000,V.int 10]) nD
 obtain ⟨m,hm,em⟩:=nK [1,10 ^ 6,9 * 10 ^ 11,10] (i:=w) w0 w1
 have bm:0 < m/\m<=10 ^ 12:=by
   simp only [List.mem_cons,List.not_mem_nil,or_false] at hm
   rcases hm with rfl | rfl | rfl | rfl <;> exact ⟨by decide,by decide⟩
 refine ⟨_,em,p,m,rfl,lU.ext x1,bm.1,by omega,fun d H2 d0 d1 jz k2=>?_⟩
 try walk_at "rn"
 refine ⟨p,n,d,rfl,jz,n60,d0,by omega,fun r ns H3 hr3 ln hb pw nr hp3 k3=>?_⟩
 have Ig:=k1.trans (x1.kp.trans (k2.trans k3))
 have nrH:H r=none:=jz.back (k1.trans (x1.kp.trans k2)) nr
 have ner:r≠p:=fun e=>by
   subst e
   rcases jz with ⟨_,h⟩ | ⟨_,_,_,h⟩ <;> rw [nr] at h <;> cases h
 try walk_at "rn"
 refine ⟨p,3,rfl,hp3,by decide,by decide,fun c H4 c0 c1 qJ k4=>?_⟩
 have Mb:=k4.keep r _ hr3 ner
 try walk_at "rn"
 refine cQ (fun e=>?_) (fun e=>?_)
 . try walk_at "rn"
   refine ⟨_,bC.of Mb,fun b nb=>⟨⟨_,bC.of ah⟩,fun D2 nD2=>?_⟩⟩
   have xb:=Ext.new (K:=K) (o:=.lst (ns.map V.int).reverse) nb
   have eb:(upd H4 b (.lst (ns.map V.int).reverse)) b=some (.lst (ns.reverse.map V.int)):=by rw [ah,List.map_reverse]
   have uB:=qJ.ext xb
   have Dn:=Ig.trans (k4.trans xb.kp)
   refine wH (L:=ns.reverse) (f:=V.int) (g:=fun k=>V.int (1000000000000 - 1 - k)) eb nD2 (by rw [List.length_reverse];omega) (fun k hk H' Q' xx qq=>?_) (fun H6 hD x6=>?_)
   . try walk_at "rn"
     exact qq
   have e2:(ns.reverse.map fun k=>V.int (1000000000000 - 1 - k))=(ns.reverse.map fun k=>1000000000000 - 1 - k).map V.int:=by rw [List.map_map];rfl
   rw [e2] at hD
   refine q D2 _ H6 hD (by rw [List.length_map,List.length_reverse];exact ln) ?_ (uB.back Dn nD2.1) (uB.ext x6) (Dn.trans x6.kp)
   intro j hj
   obtain ⟨k,hk,rfl⟩:=List.mem_map.1 hj
   have:=hb k (List.mem_reverse.1 hk)
   omega
 . exact q r ns H4 Mb ln (fun j hj=>by have:=hb j hj;omega) nrH qJ (Ig.trans k4)
def AK (K:PySem.W.Frag):Sp:=fun vs H Q _=>∃ (p:Addr) (m:Int),vs=[.ref p,.int m]/\Wl H p/\0 < m/\m<=26/\∀ (i:Int) (H':Hp),0<=i->i < 26->Wl H' p->Kp K p H H'->Q (.int i) H'
theorem wJ:aE ["_law_state","_law_most"] ["_law_state","_law_most"] (af iA):=⟨rfl,rfl,rfl,by decide +kernel,rfl,by decide +kernel,by decide +kernel⟩
theorem wK {f:Addr} {fd:FuncData} (F:fM K "_law_some" "_law_some" iA f fd) {aG cF cR cN:Addr} {tE tF:Tok} (B:B K mg aG cF cR cN tE tF) (ai:Callee P w K mg base "_law_digit" 1 ["_law_state","_law_base"] (fj K)):bB P w K mg base fC 2 f fd ["_law_state","_law_most"] (AK K):=by
 refine F.iM wJ (fun vs H Q E h=>?_) (fun dg A outer s H vs Q E hr h=>?_)
 . obtain ⟨p,m,rfl,_⟩:=h
   rfl
 obtain ⟨p,m,rfl,hp,m0,m1,q⟩:=h
 refine ⟨_,(aH (aR (ay ai (hr.mono (by decide)) rfl (aa (ev 0) (aa (dW bI (cK (aa ei (aa ei (aa ei (aa ei (aa ei (aa ei (aa ei (aa (ev 1) aj))))))))) (ay ai (hr.mono (by decide)) rfl (aa (ev 0) (aa ei aj))) (fun _ _=>rfl)) aj))))),?_⟩
 try walk_at "rn"
 intro D nD
 have x1:=Ext.new (K:=K) (o:=.lst [V.int 1,V.int 4,V.int 4,V.int 4,V.int 4,V.int 4,V.int 7,V.int m]) nD
 refine ⟨p,8,rfl,hp.ext x1,by decide,by decide,fun d H2 d0 d1 jz k2=>?_⟩
 simp_arith [aX (k2.keep D _ ah (hp.ne nD))]
 obtain ⟨n,hn,en⟩:=nK [1,4,4,4,4,4,7,m] (i:=d) d0 d1
 have bn:0 < n/\n<=26:=by
   simp only [List.mem_cons,List.not_mem_nil,or_false] at hn
   rcases hn with rfl | rfl | rfl | rfl | rfl | rfl | rfl | rfl <;> omega
 exact ⟨_,en,p,n,rfl,jz,bn.1,by omega,fun j H3 j0 j1 hp3 k3=>q _ _ j0 (by omega) hp3 (x1.kp.trans (k2.trans k3))⟩
theorem zl {H5 H7:Hp} {p R t:Addr} {L:List (V×(Int×Option Int))} {i:Int} {o:Option Int} (JY:H7 R=some (.lst (L.map (·.1)))) (nt:new K H7 t) (hL:∀ q∈L,mW K H7 q.1 q.2/\tQ q.2) (ok:tQ (i,o)) (JZ:Wl H7 p) (yj:R≠p) (k7:j4 K p R H5 H7):
   (∀ q∈L++[(V.ref t,(i,o))],mW K (upd (upd H7 t (.tup [.int i,oV o])) R (.lst (L.map (·.1)++[.ref t]))) q.1 q.2/\tQ q.2)/\Wl (upd (upd H7 t (.tup [.int i,oV o])) R (.lst (L.map (·.1)++[.ref t]))) p/\j4 K p R H5 (upd (upd H7 t (.tup [.int i,oV o])) R (.lst (L.map (·.1)++[.ref t]))):=by
 have xt:=Ext.new (K:=K) (o:=.tup [.int i,oV o]) nt
 have K7:=xt.at JY
 have kR:Kp K R _ (upd (upd H7 t (.tup [.int i,oV o])) R (.lst (L.map (·.1)++[.ref t]))):=Kp.upd K7
 refine ⟨fun q hq=>?_,(JZ.ext xt).upd yj.symm,k7.trans ((xt.kp (p:=p)).l.trans (Kp.r kR))⟩
 rcases List.mem_append.1 hq with h | h
 . exact ⟨((hL q h).1.ext xt).kp kR K7,(hL q h).2⟩
 . rw [List.mem_singleton] at h
   subst h
   exact ⟨⟨t,rfl,kR.tup K7 aN⟩,ok⟩
def ou (K:PySem.W.Frag):Sp:=fun vs H Q _=>∃ (p:Addr) (m:Int),vs=[.ref p,.int m]/\Wl H p/\3<=m/\m<=26/\
 ∀ (a:Addr) (L:List (V×(Int×Option Int))) (H':Hp),H' a=some (.lst (L.map (·.1)))->(∀ q∈L,mW K H' q.1 q.2/\tQ q.2)->0 < L.length->L.length<=8->Wl H' p->Kp K p H H'->H a=none->Q (.ref a) H'
theorem gA:aE ["_law_state","_law_most","_law_found","_law_many","_law_number_here"] ["_law_state","_law_most"] (af dQ):=⟨rfl,rfl,rfl,by decide +kernel,rfl,by decide +kernel,by decide +kernel⟩
theorem qw {f:Addr} {fd:FuncData} (F:fM K "_law_versions" "_law_versions" dQ f fd) {aG cF cR cN:Addr} {tE tF:Tok} (B:B K mg aG cF cR cN tE tF) (ai:Callee P w K mg base "_law_digit" 1 ["_law_state","_law_base"] (fj K)) (bQ:Callee P w K mg base "_law_rising" 2 ["_law_state","_law_many","_law_first_here"] (mY K)) (bM:Callee P w K mg base "_law_first" 2 ["_law_state"] (pF K)) (bL:Callee P w K mg base "_law_number" 2 ["_law_state"] (mX K)):bB P w K mg base fC 3 f fd ["_law_state","_law_most"] (ou K):=by
 refine F.iM gA (fun vs H Q E h=>?_) (fun dg A outer s H vs Q E hr h=>?_)
 . obtain ⟨p,m,rfl,_⟩:=h
   rfl
 obtain ⟨p,m,rfl,hp,m0,m1,q⟩:=h
 refine ⟨_,(aq (sset (i:=2) gA.nd rfl (Or.inl rfl) (cK aj))
     (aq (sset (i:=3) gA.nd rfl (Or.inl rfl) (dB cu ei (ay ai (hr.mono (by decide)) rfl (aa (ev 0) (aa (dW bI (cK (aa ei (aa ei (aa ei (aa (dB oQ (ev 1) ei) aj))))) (ay ai (hr.mono (by decide)) rfl (aa (ev 0) (aa ei aj))) (fun _ _=>rfl)) aj)))))
     (aq (vW PassesOwn.never rfl (d9 (ay bQ (hr.mono (by decide)) rfl (aa (ev 0) (aa (ev 3) (aa (ay bM (hr.mono (by decide)) rfl (aa (ev 0) aj)) aj))))) (aM (i:=4) gA.nd rfl (Or.inl rfl))
       (aH (d8 (aV bH (ay ai (hr.mono (by decide)) rfl (aa (ev 0) (aa ei aj))) ei (au _)) (aH (mQ (lY PySem.F.plainAttrs_list PySem.F.slot_list_append PySem.F.type_list_append d7 (ev 2) (aa (cJ (aa (ev 4) (aa bZ aj))) aj)))) (aH (mQ (lY PySem.F.plainAttrs_list PySem.F.slot_list_append PySem.F.type_list_append d7 (ev 2) (aa (cJ (aa (ev 4) (aa (ay bL (hr.mono (by decide)) rfl (aa (ev 0) aj)) aj))) aj)))))))
     (aH (aR (ev 2)))))),?_⟩
 try walk_at "rn"
 intro R nR D nD
 have xR:=Ext.new (K:=K) (o:=.lst []) nR
 have x1:=Ext.new (K:=K) (o:=.lst [V.int 1,V.int 2,V.int 3,V.int (m / 3)]) nD
 have hpR:=hp.ext xR
 have yj:R≠p:=hp.ne nR
 refine ⟨p,4,rfl,hpR.ext x1,by decide,by decide,fun d H2 d0 d1 jz k2=>?_⟩
 simp_arith [aX (k2.keep D _ ah (hpR.ne nD))]
 obtain ⟨c,hc,ec⟩:=nK [1,2,3,m / 3] (i:=d) d0 d1
 have bc:0 < c/\c<=8:=by
   simp only [List.mem_cons,List.not_mem_nil,or_false] at hc
   rcases hc with rfl | rfl | rfl | rfl <;> omega
 refine ⟨_,ec,p,c,rfl,jz,bc.1,by omega,fun j H3 j0 j1 hp3 k3=>?_⟩
 try walk_at "rn"
 refine ⟨p,rfl,hp3,fun i H4 i0 i1 qJ k4=>?_⟩
 obtain ⟨n,en⟩:=Int.eq_ofNat_of_zero_le (a:=1 + j) (by omega)
 refine ⟨p,n,i,by rw [en],qJ,by omega,i0,i1,fun a ns H5 ha ln hb pw na uB k5=>?_⟩
 have J0:=x1.kp.trans (k2.trans (k3.trans (k4.trans k5)))
 have hR5:H5 R=some (.lst []):=J0.keep R _ ah yj
 try walk_at "rn"
 refine ⟨⟨_,bC.of ha⟩,?_⟩
 have Q3:a≠R:=fun e=>by
   subst e
   have:=(k2.trans (k3.trans k4)).keep a _ (x1.at ah) yj
   rw [na] at this
   cases this
 have Q4:a≠p:=fun e=>by
   subst e
   obtain ⟨xs,hx⟩:=qJ.lst
   rw [na] at hx
   cases hx
 refine jM (xs:=ns.map V.int) (fun k σ H'=>∃ (v4:Option V) (L:List (V×(Int×Option Int))),σ=[some (.ref p),some (.int m),some (.ref R),some (.int (1 + j)),v4]/\H' R=some (.lst (L.map (·.1)))/\L.length=k/\(∀ q∈L,mW K H' q.1 q.2/\tQ q.2)/\Wl H' p/\j4 K p R H5 H') ⟨_,[],rfl,hR5,rfl,(fun _ h=>by cases h),uB,j4.refl⟩ ?_ ?_ ?_
 . rintro k σ H' _ ⟨_,_,_,_,_,_,_,kk⟩
   exact bC.of (kk.keep a _ ha Q4 Q3)
 . rintro k x σ H' hx ⟨v4,L,rfl,hR,lL,hL,hp6,k6⟩
   rw [List.getElem?_map] at hx
   obtain ⟨i',hi',rfl⟩:=Option.map_eq_some_iff.mp hx
   have hk:k < ns.length:=(List.getElem?_eq_some_iff.1 hi').1
   have bi:=hb i' (List.mem_of_getElem? hi')
   try walk_at "rn"
   refine ⟨p,3,rfl,hp6,by decide,by decide,fun c H7 c0 c1 JZ k7=>?_⟩
   have JY:=k7.keep R _ hR yj
   obtain ⟨xs6,hx6⟩:=hp6.lst
   try walk_at "rn"
   refine cQ (fun _=>?_) (fun _=>?_)
   . refine ⟨.inl ⟨_,bC.of JY⟩,fun t nt=>?_⟩
     have xt:=Ext.new (K:=K) (o:=.tup [.int i',.cY]) nt
     obtain ⟨a1,a2,a3⟩:=zl (K:=K) (i:=i') (o:=none) JY nt (fun q hq=>⟨(hL q hq).1.kp k7 hx6,(hL q hq).2⟩) ⟨by show i'.natAbs < _;omega,fun _ h=>by cases h⟩ JZ yj (k6.trans k7.l)
     exact ⟨_,xt.at JY,by rw [List.length_map];omega,L++[(V.ref t,(i',none))],by rw [List.map_append];rfl,by rw [List.length_append,lL];rfl,a1,a2,a3⟩
   . refine ⟨.inl ⟨_,bC.of JY⟩,p,rfl,JZ,fun j8 H8 b8 hp8 k8 t nt=>?_⟩
     have K7:=k8.keep R _ JY yj
     obtain ⟨xs7,hx7⟩:=JZ.lst
     have xt:=Ext.new (K:=K) (o:=.tup [.int i',.int j8]) nt
     obtain ⟨a1,a2,a3⟩:=zl (K:=K) (i:=i') (o:=some j8) K7 nt (fun q hq=>⟨((hL q hq).1.kp k7 hx6).kp k8 hx7,(hL q hq).2⟩) ⟨by show i'.natAbs < _;omega,fun i h=>by injection h with h;omega⟩ hp8 yj ((k6.trans k7.l).trans k8.l)
     exact ⟨_,xt.at K7,by rw [List.length_map];omega,L++[(V.ref t,(i',some j8))],by rw [List.map_append];rfl,by rw [List.length_append,lL];rfl,a1,a2,a3⟩
 . rintro σ H' ⟨v4,L,rfl,hR,lL,hL,hp6,k6⟩
   try walk_at "rn"
   rw [List.length_map] at lL
   exact q R L H' hR hL (by omega) (by omega) hp6 ((J0.l.trans k6).kp nR) nR.1
end
section
variable {P:Program} {w:World} {K:PySem.W.Frag} {mg:Str->Option Value} {base:Heap}
def wL (K:PySem.W.Frag):Sp:=fun vs H Q _=>∃ p,vs=[.ref p]/\Wl H p/\∀ (v:V) (e:Nt) (H':Hp),oq K H' v e->e.ok->Wl H' p->Kp K p H H'->Q v H'
theorem cT:aE ["_law_state","_law_low","_law_way","_law_high","_law_word","_law_there","_law_none"] ["_law_state"] (af iB):=⟨rfl,rfl,rfl,by decide +kernel,rfl,by decide +kernel,by decide +kernel⟩
theorem wM {f:Addr} {fd:FuncData} (F:fM K "_law_note" "_law_note" iB f fd) {aG cF cR cN:Addr} {tE tF:Tok} (B:B K mg aG cF cR cN tE tF) (ai:Callee P w K mg base "_law_digit" 1 ["_law_state","_law_base"] (fj K)) (bM:Callee P w K mg base "_law_first" 2 ["_law_state"] (pF K)) (bL:Callee P w K mg base "_law_number" 2 ["_law_state"] (mX K)):bB P w K mg base fC 3 f fd ["_law_state"] (wL K):=by
 refine F.iM cT (fun vs H Q E h=>?_) (fun dg A outer s H vs Q E hr h=>?_)
 . obtain ⟨p,rfl,_⟩:=h
   rfl
 obtain ⟨p,rfl,hp,q⟩:=h
 refine ⟨_,(aq (sset (i:=1) cT.nd rfl (Or.inl rfl) (ay ai (hr.mono (by decide)) rfl (aa (ev 0) (aa (dW bI (cK (aa ei (aa ei (aa (gW 1000000000000) aj)))) (ay ai (hr.mono (by decide)) rfl (aa (ev 0) (aa ei aj))) (fun _ _=>rfl)) aj))))
     (nF (d8 (aV bH (ay ai (hr.mono (by decide)) rfl (aa (ev 0) (aa ei aj))) ei (au _)) (aH (sset (i:=1) cT.nd rfl (Or.inl rfl) (dB jd (dB jd (gW 1000000000000) ei) (ev 1)))) bF)
     (aq (sset (i:=2) cT.nd rfl (Or.inl rfl) (ay ai (hr.mono (by decide)) rfl (aa (ev 0) (aa ei aj))))
     (aq (sset (i:=3) cT.nd rfl (Or.inl rfl) (dW bI (cK (aa (dB cu (ev 1) ei) (aa (gW 1000000000000) (aa (dB cu (ev 1) ei) aj)))) (ev 2) (fun _ _=>rfl)))
     (nF (d8 (aV bH (ev 2) ei (au _)) (aH (sset (i:=3) cT.nd rfl (Or.inl rfl) (dB cu (ev 3) (ay ai (hr.mono (by decide)) rfl (aa (ev 0) (aa (dB jd (gW 1000000000000) (ev 1)) aj)))))) bF)
     (aq (sset (i:=4) cT.nd rfl (Or.inl rfl) (dW bI (cK (aa bg (aa bg (aa bg aj)))) (ay ai (hr.mono (by decide)) rfl (aa (ev 0) (aa ei aj))) (fun _ _=>rfl)))
     (aq (sset (i:=5) cT.nd rfl (Or.inl rfl) (dW bI (cK (aa (cJ (aa (ev 4) (aa (ay bL (hr.mono (by decide)) rfl (aa (ev 0) aj)) aj))) (aa (cJ (aa bg aj)) aj))) (cZ jL rfl B.int kI (aa (jq bH (ev 4) bg (au _)) aj)) (fun _ _=>rfl)))
     (aq (sset (i:=6) cT.nd rfl (Or.inl rfl) (cJ (aa bg aj)))
     (nF (d8 (tw (nX (aV bH (dB jd (ev 3) (ev 1)) ei (au _)) (jP (aV bH (ay ai (hr.mono (by decide)) rfl (aa (ev 0) (aa ei aj))) ei (au _))))) (aH (sset (i:=6) cT.nd rfl (Or.inl rfl) (cJ (aa bg (aa (ay bL (hr.mono (by decide)) rfl (aa (ev 0) aj)) aj))))) bF)
     (aH (aR (cJ (aa (dB cu ei (ay bM (hr.mono (by decide)) rfl (aa (ev 0) aj))) (aa (ev 1) (aa (ev 3) (aa (cJ (aa (ev 5) (aa (ev 6) aj))) aj)))))))))))))))),?_⟩
 try walk_at "rn"
 intro D nD
 have x1:=Ext.new (K:=K) (o:=.lst [V.int 1,V.int 10,V.int 1000000000000]) nD
 refine ⟨p,3,rfl,hp.ext x1,by decide,by decide,fun d H2 d0 d1 jz k2=>?_⟩
 simp_arith [aX (k2.keep D _ ah (hp.ne nD))]
 obtain ⟨c,hc,ec⟩:=nK [1,10,10 ^ 12] (i:=d) d0 d1
 have bc:0 < c/\c<=10 ^ 12:=by
   simp only [List.mem_cons,List.not_mem_nil,or_false] at hc
   rcases hc with rfl | rfl | rfl <;> exact ⟨by decide,by decide⟩
 refine ⟨_,ec,p,c,rfl,jz,bc.1,by omega,fun lo H3 l0 l1 hp3 k3=>?_⟩
 have Ig:=x1.kp.trans (k2.trans k3)
 obtain ⟨J,eJ⟩:∃ J:St->Hp->Prop,J=fun σ1 G1=>∃ lo:Int,σ1=[some (.ref p),some (.int lo),none,none,none,none,none]/\0<=lo/\lo < 10 ^ 12/\Wl G1 p/\Kp K p H G1:=⟨_,rfl⟩
 refine ⟨J,?_,?_⟩
 . try walk_at "rn"
   refine ⟨p,2,rfl,hp3,by decide,by decide,fun r H4 r0 r1 qJ k4=>?_⟩
   try walk_at "rn"
   refine cQ (fun c=>?_) (fun c=>?_)
   . rw [eJ]
     exact ⟨_,rfl,by omega,by omega,qJ,Ig.trans k4⟩
   . rw [eJ]
     exact ⟨_,rfl,by omega,by omega,qJ,Ig.trans k4⟩
 clear Ig l0 l1 hp3 k3
 intro σ1 G1 h
 rw [eJ] at h
 clear eJ
 obtain ⟨lo,rfl,l0,l1,hp3,Ig⟩:=h
 try walk_at "rn"
 refine ⟨p,3,rfl,hp3,by decide,by decide,fun way H4 w0 w1 qJ k4=>?_⟩
 try walk_at "rn"
 intro D2 nD2
 have x5:=Ext.new (K:=K) (o:=.lst [V.int (lo + 1),V.int 1000000000000,V.int (lo + 1)]) nD2
 obtain ⟨hi,hh,eh⟩:=nK [lo + 1,10 ^ 12,lo + 1] (i:=way) w0 w1
 have bh:lo < hi/\hi<=10 ^ 12:=by
   simp only [List.mem_cons,List.not_mem_nil,or_false] at hh
   rcases hh with rfl | rfl | rfl <;> omega
 refine ⟨_,eh,?_⟩
 have uB:=qJ.ext x5
 have Dn:=Ig.trans (k4.trans x5.kp)
 obtain ⟨J,eJ⟩:∃ J:St->Hp->Prop,J=fun σ1 G1=>∃ hi:Int,σ1=[some (.ref p),some (.int lo),some (.int way),some (.int hi),none,none,none]/\lo < hi/\hi<=10 ^ 13/\Wl G1 p/\Kp K p H G1:=⟨_,rfl⟩
 refine ⟨J,?_,?_⟩
 . try walk_at "rn"
   refine cQ (fun c=>?_) (fun c=>?_)
   . refine ⟨p,_,rfl,uB,by omega,by omega,fun r H6 r0 r1 hp6 k6=>?_⟩
     try walk_at "rn"
     rw [eJ]
     exact ⟨_,rfl,by omega,by omega,hp6,Dn.trans k6⟩
   . rw [eJ]
     exact ⟨_,rfl,by omega,by omega,uB,Dn⟩
 clear bh hh eh
 intro σ1 G1 h
 rw [eJ] at h
 clear eJ
 obtain ⟨hi,rfl,h0,h1,hp6,Oh⟩:=h
 try walk_at "rn"
 intro Dw nDw
 have xw:=Ext.new (K:=K) (o:=.lst [V.str (Str.ofString "plus"),V.str (Str.ofString "is"),V.str (Str.ofString "gone")]) nDw
 refine ⟨p,3,rfl,hp6.ext xw,by decide,by decide,fun r H7 r0 r1 JZ k7=>?_⟩
 simp_arith [aX (k7.keep Dw _ ah (hp6.ne nDw))]
 obtain ⟨v,ev,mv⟩:=mP (xs:=[V.str (Str.ofString "plus"),V.str (Str.ofString "is"),V.str (Str.ofString "gone")]) r0 r1
 refine ⟨_,ev,p,rfl,JZ,fun n H8 nb hp8 k8 b1 n1 b2 n2 b3 n3=>?_⟩
 have y1:=Ext.new (K:=K) (o:=.tup [v,.int n]) n1
 have y2:=Ext.new (K:=K) (o:=.tup [V.str (Str.ofString "gone")]) n2
 have y3:=Ext.new (K:=K) (o:=.lst [V.ref b1,V.ref b2]) n3
 have t1:tupQ K (upd (upd (upd H8 b1 (.tup [v,.int n])) b2 (.tup [V.str (Str.ofString "gone")])) b3 (.lst [V.ref b1,V.ref b2])) b1=some [v,.int n]:=(y2.trans y3).tup aN
 have t2:tupQ K (upd (upd (upd H8 b1 (.tup [v,.int n])) b2 (.tup [V.str (Str.ofString "gone")])) b3 (.lst [V.ref b1,V.ref b2])) b2=some [V.str (Str.ofString "gone")]:=y3.tup aN
 have Mc:=hp8.ext (y1.trans (y2.trans y3))
 have K8:=Oh.trans (xw.kp.trans (k7.trans (k8.trans (y1.trans (y2.trans y3)).kp)))
 have g1:¬ (V.str (Str.ofString "plus")=V.str (Str.ofString "gone")):=by decide +kernel
 have g2:¬ (V.str (Str.ofString "is")=V.str (Str.ofString "gone")):=by decide +kernel
 obtain ⟨u,th,e1,e2,e3,e4⟩:∃ (u:Addr) (th:cg),z9 v (V.str (Str.ofString "gone"))=true/\pU [V.ref b1,V.ref b2] (if v=V.str (Str.ofString "gone") then 1 else 0)=some (.ref u)/\tupQ K (upd (upd (upd H8 b1 (.tup [v,.int n])) b2 (.tup [V.str (Str.ofString "gone")])) b3 (.lst [V.ref b1,V.ref b2])) u=some th.v/\th.ok:=by
   simp only [List.mem_cons,List.not_mem_nil,or_false] at mv
   rcases mv with rfl | rfl | rfl
   . exact ⟨b1,.plus n,rfl,by rw [if_neg g1];rfl,t1,by show n.natAbs < _;omega⟩
   . exact ⟨b1,.is n,rfl,by rw [if_neg g2];rfl,t1,by show n.natAbs < _;omega⟩
   . exact ⟨b2,.gone,rfl,by rw [if_pos rfl];rfl,t2,trivial⟩
 generalize upd (upd (upd H8 b1 (.tup [v,.int n])) b2 (.tup [V.str (Str.ofString "gone")])) b3 (.lst [V.ref b1,V.ref b2])=H9 at Mc K8 e3 ⊢
 clear t1 t2 y1 y2 y3 n1 n2 n3
 refine ⟨e1,_,e2,fun b5 n5=>?_⟩
 have y5:=Ext.new (K:=K) (o:=.tup [V.str (Str.ofString "gone")]) n5
 have Oi:=Mc.ext y5
 have K9:=K8.trans y5.kp
 have e5:=y5.tup e3
 have e6:tupQ K (upd H9 b5 (.tup [V.str (Str.ofString "gone")])) b5=some [V.str (Str.ofString "gone")]:=aN
 generalize upd H9 b5 (.tup [V.str (Str.ofString "gone")])=HA at Oi K9 e5 e6 ⊢
 obtain ⟨J,eJ⟩:∃ J:St->Hp->Prop,J=fun σ1 G1=>∃ (s:Addr) (m:cg),σ1=[some (.ref p),some (.int lo),some (.int way),some (.int hi),some v,some (.ref u),some (.ref s)]/\tupQ K G1 u=some th.v/\tupQ K G1 s=some m.v/\m.ok/\Wl G1 p/\Kp K p H G1:=⟨_,rfl⟩
 refine ⟨J,?_,?_⟩
 . try walk_at "rn"
   obtain ⟨xsA,hxA⟩:=Oi.lst
   refine cQ (fun c=>?_) (fun c=>?_)
   . refine ⟨p,2,rfl,Oi,by decide,by decide,fun r HB r0 r1 hpB kB=>?_⟩
     try walk_at "rn"
     obtain ⟨xsB,hxB⟩:=hpB.lst
     refine cQ (fun c=>?_) (fun c=>?_)
     . refine ⟨p,rfl,hpB,fun i HC ib hpC kC b nb=>?_⟩
       have xb:=Ext.new (K:=K) (o:=.tup [V.str (Str.ofString "is"),.int i]) nb
       rw [eJ]
       exact ⟨b,.is i,rfl,xb.tup (kC.tup hxB (kB.tup hxA e5)),aN,by show i.natAbs < _;omega,hpC.ext xb,K9.trans (kB.trans (kC.trans xb.kp))⟩
     . rw [eJ]
       exact ⟨b5,.gone,rfl,kB.tup hxA e5,kB.tup hxA e6,trivial,hpB,K9.trans kB⟩
   . rw [eJ]
     exact ⟨b5,.gone,rfl,e5,e6,trivial,Oi,K9⟩
 intro σ1 G1 h
 rw [eJ] at h
 clear eJ
 obtain ⟨s',m,rfl,f1,f2,f3,hpB,k0B⟩:=h
 try walk_at "rn"
 refine ⟨p,rfl,hpB,fun i HC i0 i1 hpC kC=>?_⟩
 try walk_at "rn"
 intro b nb b' nb'
 obtain ⟨xsB,hxB⟩:=hpB.lst
 have z1:=Ext.new (K:=K) (o:=.tup [V.ref u,V.ref s']) nb
 have z2:=Ext.new (K:=K) (o:=.tup [V.int (1 + i),V.int lo,V.int hi,V.ref b]) nb'
 refine q _ ⟨1 + i,lo,hi,th,m⟩ _ ⟨b',b,u,s',rfl,aN,z2.tup aN,(z1.trans z2).tup (kC.tup hxB f1),(z1.trans z2).tup (kC.tup hxB f2)⟩ ⟨?_,?_,?_,e4,f3⟩ (hpC.ext (z1.trans z2)) (k0B.trans (kC.trans (z1.trans z2).kp))
 . show (1 + i).natAbs < _
   omega
 . show lo.natAbs < _
   omega
 . show hi.natAbs < _
   omega
theorem s6:¬ (("plus":Str)="gone"):=by decide +kernel
theorem s7:¬ (("is":Str)="gone"):=by decide +kernel
theorem s8:¬ (V.str (Str.ofString "is")=V.str (Str.ofString "plus")):=by decide +kernel
theorem zm {K:PySem.W.Frag} {H:Hp}:∀ (ts:List Str),cj K H (ts.map PyData.str) (ts.map V.str)
 | []=>by simp only [List.map_nil,cj]
 | k::ks=>by simp only [List.map_cons,cj];exact ⟨_,_,rfl,by simp only [Is],zm ks⟩
theorem Hj {K:PySem.W.Frag} {H:Hp} {r:Addr} {ts:List Str} (h:H r=some (.lst (ts.map V.str))):Is K H (.list (ts.map PyData.str)) (.ref r):=by
 simp only [Is]
 exact ⟨r,_,rfl,bC.of h,zm ts⟩
def uC (t:Str):Prop:=PyData.strOk t=true
theorem kK (s:String):uC (Str.ofString s):=by
 unfold uC PyData.strOk
 rw [Str.ofString_eq_toList]
 simp only [List.all_toArray,List.all_map,List.all_eq_true,Function.comp,decide_eq_true_eq]
 intro c _
 have:=c.valid
 rcases this with h | ⟨_,h⟩
 . exact Nat.lt_trans h (by decide)
 . exact h
theorem j6 {a b:Str} (ha:uC a) (hb:uC b):uC (a++b):=by
 unfold uC PyData.strOk at *
 rw [Str.cps_append,Array.all_append,ha,hb]
 rfl
theorem tT {sep:Str} (h0:uC sep):∀ (ts:List Str),(∀ t∈ts,uC t)->uC (Str.join sep ts)
 | [],_=>by unfold uC Str.join;decide +kernel
 | [x],h=>h x List.mem_cons_self
 | x::y::r,h=>j6 (j6 (h x List.mem_cons_self) h0) (tT h0 (y::r) fun t m=>h t (List.mem_cons_of_mem _ m))
theorem ET {sep:Str} (h0:uC sep) (ts:List Str) (h:∀ t∈ts,uC t):uC (fD sep ts):=by
 unfold fD
 split
 . exact kK _
 . exact tT h0 ts h
theorem jE (i:Int):uC (cS i):=kK _
theorem zo:∀ (ts:List Str),(∀ t∈ts,uC t)->PyData.canLayAll0 (ts.map PyData.str)=true/\PyData.depthAll (ts.map PyData.str)<=2
 | [],_=>by simp [PyData.canLayAll0,PyData.depthAll]
 | k::ks,h=>by
   have ih:=zo ks fun t m=>h t (List.mem_cons_of_mem _ m)
   simp only [List.map_cons,PyData.canLayAll0,PyData.depthAll,ih.1,PyData.canLay0,PyData.depth,Bool.and_true]
   exact ⟨h k List.mem_cons_self,Nat.max_le.mpr ⟨by decide,ih.2⟩⟩
theorem qK (ts:List Str) (ok:∀ t∈ts,uC t):SeqAt.shaped (.list (ts.map PyData.str))=true:=by
 have h:=zo ts ok
 have e:(PyData.list (ts.map PyData.str)).depth=PyData.depthAll (ts.map PyData.str) + 1:=by simp only [PyData.depth]
 simp only [SeqAt.shaped,PyData.canLay0,h.1,Bool.true_and,decide_eq_true_eq]
 rw [e]
 omega
theorem C0 (ts:List Str):PyData.eqv (.list (ts.map PyData.str)) (.list [])=decide (ts=[]):=by
 cases ts with
 | nil=>rfl
 | cons p ws=>simp [PyData.eqv,PyData.eqvAll]
theorem EU {K:PySem.W.Frag} {H:Hp} {r:Addr} (h:H r=some (.lst [])):Is K H (.list []) (.ref r):=by
 simp only [Is,cj]
 exact ⟨r,_,rfl,bC.of h,rfl⟩
def wN (K:PySem.W.Frag):Sp:=fun vs H Q _=>∃ u h,vs=[u]/\JX K H u h/\h.ok/\∀ H',Ext K H H'->Q (.str h.t) H'
def wQ (K:PySem.W.Frag):Sp:=fun vs H Q _=>∃ (p:Addr) (sep:Str) (ts:List Str) (m:Nat),vs=[.ref p,.str sep]/\H p=some (.lst (ts.map V.str))/\sep.length=1/\(∀ t∈ts,t.length<=m)/\(∀ t∈ts,uC t)/\ts.length * (m + 1)<=1000000/\∀ H',Ext K H H'->Q (.str (fD sep ts)) H'
theorem wR:aE ["_law_half_here"] ["_law_half_here"] (af iD):=⟨rfl,rfl,rfl,by decide +kernel,rfl,by decide +kernel,by decide +kernel⟩
theorem wU {f:Addr} {fd:FuncData} (F:fM K "_law_half" "_law_half" iD f fd) {aG cF cR cN:Addr} {tE tF:Tok} (B:B K mg aG cF cR cN tE tF):bB P w K mg base fC 1 f fd ["_law_half_here"] (wN K):=by
 refine F.iM wR (fun vs H Q E h=>?_) (fun dg A outer s H vs Q E hr h=>?_)
 . obtain ⟨u,h,rfl,_⟩:=h
   rfl
 obtain ⟨u,h,rfl,⟨t,rfl,ht⟩,ok,q⟩:=h
 refine ⟨_,(aq (d8 (aV bH (dW bI (ev 0) ei (fun _ _=>rfl)) bg (au _)) (aH (aR bg)) bF)
     (aH (aR (dB aT (dW bI (cK (aa bg (aa bg aj))) (cZ jL rfl B.int kI (aa (jq bH (dW bI (ev 0) ei (fun _ _=>rfl)) bg (au _)) aj)) (fun _ _=>rfl)) (cZ cy rfl B.str fN (aa (dW bI (ev 0) ei (fun _ _=>rfl)) aj)))))),?_⟩
 cases h with
 | plus n=>
   simp_arith [br ht,cg.v]
   refine cQ (fun c=>absurd c s6) (fun _ b nb=>?_)
   have xb:=Ext.new (K:=K) (o:=.lst [V.str (Str.ofString "="),V.str (Str.ofString "+")]) nb
   have e:=br (xb.tup ht)
   have h1:=bK (i:=n) ok
   have h3:(Str.ofString "+").length=1:=by decide +kernel
   exact ⟨_,e,_,rfl,rfl,_,by rw [if_pos rfl];rfl,_,e,_,rfl,n,rfl,fQ ok,_,rfl,by show _ + (cS n).length<=_;omega,q _ xb⟩
 | is n=>
   simp_arith [br ht,cg.v]
   refine cQ (fun c=>absurd c s7) (fun _ b nb=>?_)
   have xb:=Ext.new (K:=K) (o:=.lst [V.str (Str.ofString "="),V.str (Str.ofString "+")]) nb
   have e:=br (xb.tup ht)
   have h1:=bK (i:=n) ok
   have h3:(Str.ofString "=").length=1:=by decide +kernel
   exact ⟨_,e,_,rfl,rfl,_,by rw [if_neg s8];rfl,_,e,_,rfl,n,rfl,fQ ok,_,rfl,by show _ + (cS n).length<=_;omega,q _ xb⟩
 | gone=>
   simp_arith [br ht,cg.v]
   exact q _ Ext.refl
theorem wV:aE ["_law_parts","_law_sign_here"] ["_law_parts","_law_sign_here"] (af iE):=⟨rfl,rfl,rfl,by decide +kernel,rfl,by decide +kernel,by decide +kernel⟩
theorem wW {f:Addr} {fd:FuncData} (F:fM K "_law_line" "_law_line" iE f fd) {aG cF cR cN:Addr} {tE tF:Tok} (B:B K mg aG cF cR cN tE tF):bB P w K mg base fC 1 f fd ["_law_parts","_law_sign_here"] (wQ K):=by
 refine F.iM wV (fun vs H Q E h=>?_) (fun dg A outer s H vs Q E hr h=>?_)
 . obtain ⟨p,sep,ts,m,rfl,_⟩:=h
   rfl
 obtain ⟨p,sep,ts,m,rfl,hs,h1,hm,ho,hz,q⟩:=h
 refine ⟨_,(aq (d8 (aV (An hr.units) (ev 0) (cK aj) (au _)) (aH (aR bg)) bF)
     (aH (aR (lY PySem.F.plainAttrs_str PySem.F.slot_str_join PySem.F.type_str_join lI (ev 1) (aa (ev 0) aj))))),?_⟩
 try walk_at "rn"
 intro b nb
 have xb:=Ext.new (K:=K) (o:=.lst []) nb
 have l1:=nu (sep:=sep) ts hm
 have l2:=join_le (sep:=sep) ts hm
 rw [h1] at l1 l2
 have qq:=q _ xb
 unfold fD at qq
 refine ⟨_,Hj (xb.at hs),_,EU ah,qK ts ho,qK [] (fun _ h=>by cases h),?_⟩
 rw [C0]
 refine cQ (fun c=>?_) (fun c=>?_)
 . rw [if_pos (of_decide_eq_true c)] at qq
   exact qq
 . rw [if_neg (fun e=>c (decide_eq_true e))] at qq
   exact ⟨ts,bC.of (xb.at hs),by omega,by omega,qq⟩
end
section
variable {P:Program} {w:World} {K:PySem.W.Frag} {mg:Str->Option Value} {base:Heap}
def AL (K:PySem.W.Frag):Sp:=fun vs H Q _=>∃ u r,vs=[u]/\vt K H u r/\BR r/\0 < r.vs.length/\∀ H',Ext K H H'->Q (.str (pB r.k (r.vs.map (·.2)))) H'
theorem gB:aE ["_law_row","_law_parts","_law_number_here","_law_value"] ["_law_row"] (af dR):=⟨rfl,rfl,rfl,by decide +kernel,rfl,by decide +kernel,by decide +kernel⟩
theorem qx {f:Addr} {fd:FuncData} (F:fM K "_law_row_text" "_law_row_text" dR f fd) {aG cF cR cN:Addr} {tE tF:Tok} (B:B K mg aG cF cR cN tE tF):bB P w K mg base fC 1 f fd ["_law_row"] (AL K):=by
 refine F.iM gB (fun vs H Q E h=>?_) (fun dg A outer s H vs Q E hr h=>?_)
 . obtain ⟨u,r,rfl,_⟩:=h
   rfl
 obtain ⟨u,r,rfl,⟨t,rfl,ht,ha,hv⟩,ok,l0,q⟩:=h
 refine ⟨_,(aq (sset (i:=1) gB.nd rfl (Or.inl rfl) (cK aj))
     (aq (vW PassesOwn.never rfl (d9 (dW bI (ev 0) ei (fun _ _=>rfl))) (jQ (n:=2) rfl (bf (aM (i:=2) gB.nd rfl (Or.inl rfl)) (bf (aM (i:=3) gB.nd rfl (Or.inl rfl)) jA)))
       (aH (mQ (lY PySem.F.plainAttrs_list PySem.F.slot_list_append PySem.F.type_list_append d7 (ev 1) (aa (dB aT (dB aT (cZ cy rfl B.str fN (aa (ev 2) aj)) bg) (dW bI (cK (aa bg (aa (cZ CL rfl B.str fN (aa (ev 3) aj)) aj))) (cZ jL rfl B.int kI (aa (jq Gs (ev 3) bZ (au _)) aj)) (fun _ _=>rfl))) aj)))))
     (aH (aR (dB aT (dB aT (cZ cy rfl B.str fN (aa (dW bI (ev 0) ei (fun _ _=>rfl)) aj)) bg) (lY PySem.F.plainAttrs_str PySem.F.slot_str_join PySem.F.type_str_join lI bg (aa (ev 1) aj))))))),?_⟩
 try walk_at "rn"
 intro R nR
 have xR:=Ext.new (K:=K) (o:=.lst []) nR
 simp_arith [br (xR.tup ht)]
 refine ⟨⟨_,bC.of (xR.at ha)⟩,?_⟩
 have yj:r.a≠R:=aW ha nR.1
 refine jM (xs:=r.vs.map (·.1)) (fun k σ H'=>∃ (v2 v3:Option V),σ=[some (.ref t),some (.ref R),v2,v3]/\H' R=some (.lst (((r.vs.take k).map fun q=>pA q.2).map V.str))/\Kp K R (upd H R (.lst [])) H') ⟨_,_,rfl,ah,Kp.refl⟩ ?_ ?_ ?_
 . rintro k σ H' _ ⟨_,_,_,_,kk⟩
   exact bC.of ((kk.ext nR).at ha)
 . rintro k x σ H' hx ⟨v2,v3,rfl,hR,kk⟩
   rw [List.getElem?_map] at hx
   obtain ⟨q0,hq,rfl⟩:=Option.map_eq_some_iff.mp hx
   have mq:=List.mem_of_getElem? hq
   have hk:k < r.vs.length:=(List.getElem?_eq_some_iff.1 hq).1
   have l4:=ok.2.2
   obtain ⟨t',e',ht'⟩:=hv q0 mq
   have Q5:=(kk.ext nR).tup ht'
   have Ka:=ok.2.1 q0 mq
   obtain ⟨u0,n,o⟩:=q0
   dsimp only at e' Q5 Ka
   subst e'
   have h1:=bK (i:=n) Ka.1
   have h2:=zg (o:=o) Ka.2
   have h3:(Str.ofString ":").length=1:=by decide +kernel
   have et:((r.vs.take k).map fun q=>pA q.2).map V.str++[V.str (pA (n,o))]=((r.vs.take (k + 1)).map fun q=>pA q.2).map V.str:=by
     rw [List.take_add_one,hq,Option.toList_some,List.map_append,List.map_append]
     rfl
   have hz:(((r.vs.take k).map fun q=>pA q.2).map V.str).length < 16777216:=by
     rw [List.length_map,List.length_map,List.length_take]
     omega
   cases o with
   | none=>
     simp_arith [Q5,oV]
     have h4:(Str.ofString "x").length=1:=by decide +kernel
     refine ⟨.inl ⟨_,bC.of hR⟩,fQ Ka.1,(by show (cS n).length + _<=_;omega),.inr fun b nb=>?_⟩
     have xb:=Ext.new (K:=K) (o:=.lst [V.str (Str.ofString "x"),V.str (Str.ofString "None")]) nb
     exact ⟨by show (cS n++Str.ofString ":").length + _<=_;rw [Str.length_append];omega,_,xb.at hR,hz,et,kk.trans (xb.kp.trans (Kp.upd (xb.at hR)))⟩
   | some i=>
     simp_arith [Q5,oV]
     have h4:=bK (Ka.2 i rfl)
     refine ⟨.inl ⟨_,bC.of hR⟩,fQ Ka.1,(by show (cS n).length + _<=_;omega),.inl ⟨fQ (Ka.2 i rfl),fun b nb=>?_⟩⟩
     have xb:=Ext.new (K:=K) (o:=.lst [V.str (Str.ofString "x"),V.str (Str.ofString (toString i))]) nb
     exact ⟨_,by rw [if_pos (by simp)];rfl,cS i,rfl,by show (cS n++Str.ofString ":").length + _<=_;rw [Str.length_append];omega,_,xb.at hR,hz,et,kk.trans (xb.kp.trans (Kp.upd (xb.at hR)))⟩
 rintro σ H' ⟨v2,v3,rfl,hR,kk⟩
 simp_arith [br ((kk.ext nR).tup ht)]
 rw [List.length_map,List.take_length] at hR
 have h1:=bK ok.1
 have h3:(Str.ofString "=").length=1:=by decide +kernel
 have h5:(Str.ofString ",").length=1:=by decide +kernel
 have l4:=ok.2.2
 have hl:∀ t∈r.vs.map fun q=>pA q.2,t.length<=203:=by
   intro t ht
   obtain ⟨q0,hq,rfl⟩:=List.mem_map.1 ht
   exact zh (ok.2.1 q0 hq)
 have m1:=nu (sep:=Str.ofString ",") _ hl
 have m2:=join_le (sep:=Str.ofString ",") _ hl
 rw [h5,List.length_map] at m1 m2
 refine ⟨fQ ok.1,by show (cS r.k).length + _<=_;omega,_,bC.of hR,by omega,by omega,by show (cS r.k++Str.ofString "=").length + _<=_;rw [Str.length_append];omega,?_⟩
 have qq:=q _ (kk.ext nR)
 unfold pB fD at qq
 have e2:(r.vs.map (·.2)).map pA=r.vs.map fun q=>pA q.2:=by rw [List.map_map];rfl
 rw [e2,if_neg (fun e=>by rw [List.map_eq_nil_iff] at e;rw [e] at l0;exact absurd l0 (by decide))] at qq
 exact qq
def tU (K:PySem.W.Frag):Sp:=fun vs H Q _=>∃ u e,vs=[u]/\oq K H u e/\e.ok/\∀ H',Ext K H H'->Q (.str e.x) H'
theorem j7:aE ["_law_note_here","_law_parts"] ["_law_note_here"] (af dD):=⟨rfl,rfl,rfl,by decide +kernel,rfl,by decide +kernel,by decide +kernel⟩
theorem pG {f:Addr} {fd:FuncData} (F:fM K "_law_note_text" "_law_note_text" dD f fd) {aG cF cR cN:Addr} {tE tF:Tok} (B:B K mg aG cF cR cN tE tF) (j9:Callee P w K mg base "_law_half" 1 ["_law_half_here"] (wN K)):bB P w K mg base fC 2 f fd ["_law_note_here"] (tU K):=by
 refine F.iM j7 (fun vs H Q E h=>?_) (fun dg A outer s H vs Q E hr h=>?_)
 . obtain ⟨u,e,rfl,_⟩:=h
   rfl
 obtain ⟨u,e,rfl,⟨a,w,r,s',rfl,h1,h2,h3,h4⟩,ok,q⟩:=h
 refine ⟨_,(aq (sset (i:=1) j7.nd rfl (Or.inl rfl) (cK (aa (cZ cy rfl B.str fN (aa (dW bI (ev 0) ei (fun _ _=>rfl)) aj)) (aa (cZ cy rfl B.str fN (aa (dW bI (ev 0) ei (fun _ _=>rfl)) aj)) (aa (cZ cy rfl B.str fN (aa (dW bI (ev 0) ei (fun _ _=>rfl)) aj)) aj)))))
     (aH (aR (lY PySem.F.plainAttrs_str PySem.F.slot_str_join PySem.F.type_str_join lI bg (aa (dB jl (ev 1) (ur (j5.mk (N:=["_law_half_here"]) (src:=[none]) rfl rfl) rfl (QL (dW bI (ev 0) ei (fun _ _=>rfl))) (fun _ _ _ _=>(aM (i:=0) (show (["_law_half_here"]:List Str).Nodup from by decide +kernel) rfl (Or.inl rfl))) (fun _ _ _ _=>eB) (fun _ _ _ _=>(ay j9 (hr.mono (by decide)) rfl (aa (ev 0) aj))))) aj))))),?_⟩
 simp_arith [br h1]
 refine ⟨fQ ok.1,fQ ok.2.1,fQ ok.2.2.1,fun b nb=>?_⟩
 have xb:=Ext.new (K:=K) (o:=.lst [V.str (Str.ofString (toString e.n)),V.str (Str.ofString (toString e.lo)),V.str (Str.ofString (toString e.hi))]) nb
 have hb:(upd H b (.lst [V.str (Str.ofString (toString e.n)),V.str (Str.ofString (toString e.lo)),V.str (Str.ofString (toString e.hi))])) b=some (.lst [V.str (Str.ofString (toString e.n)),V.str (Str.ofString (toString e.lo)),V.str (Str.ofString (toString e.hi))]):=ah
 generalize upd H b (.lst [V.str (Str.ofString (toString e.n)),V.str (Str.ofString (toString e.lo)),V.str (Str.ofString (toString e.hi))])=H1 at xb hb ⊢
 refine ⟨_,br (xb.tup h1),_,rfl,w,rfl,⟨_,fc (xb.tup h2)⟩,fun D nD=>?_⟩
 refine EO (L:=[(r,e.t),(s',e.m)]) (f:=fun q=>V.ref q.1) (g:=fun q=>V.str q.2.t) (xb.tup h2) nD (by show 2<=1000;decide) (fun q0 hq H' Q' xx qq=>?_) (fun H2 hD x2=>?_)
 . try walk_at "rn"
   simp only [List.mem_cons,List.not_mem_nil,or_false] at hq
   rcases hq with rfl | rfl
   . exact ⟨_,e.t,rfl,⟨r,rfl,(xb.trans xx).tup h3⟩,ok.2.2.2.1,qq⟩
   . exact ⟨_,e.m,rfl,⟨s',rfl,(xb.trans xx).tup h4⟩,ok.2.2.2.2,qq⟩
 refine ⟨_,x2.at hb,_,hD,by show 3 + 2<=16777216;decide,fun p np=>?_⟩
 have l1:=nu (sep:=Str.ofString ".") _ (Nt.le ok)
 have l2:=join_le (sep:=Str.ofString ".") _ (Nt.le ok)
 have h5:(Str.ofString ".").length=1:=by decide +kernel
 rw [h5] at l1 l2
 simp only [List.length_cons,List.length_nil] at l1 l2
 exact ⟨[cS e.n,cS e.lo,cS e.hi,e.t.t,e.m.t],bC.of ah,by omega,by omega,q _ (xb.trans (x2.trans (Ext.new np)))⟩
theorem Hl (p:Int×Option Int):uC (pA p):=by
 unfold pA
 refine j6 (j6 (jE _) (kK _)) ?_
 cases p.2 with
 | none=>exact kK _
 | some i=>exact jE i
theorem Ho (k:Int) (ws:List (Int×Option Int)):uC (pB k ws):=by
 unfold pB
 refine j6 (j6 (jE _) (kK _)) (ET (kK _) _ fun t ht=>?_)
 obtain ⟨p,_,rfl⟩:=List.mem_map.1 ht
 exact Hl p
theorem zp (h:cg):uC h.t:=by
 cases h with
 | plus n=>exact j6 (kK _) (jE n)
 | is n=>exact j6 (kK _) (jE n)
 | gone=>exact kK _
theorem EV (e:Nt):uC e.x:=by
 refine tT (kK _) _ fun t ht=>?_
 simp only [List.mem_cons,List.not_mem_nil,or_false] at ht
 rcases ht with rfl | rfl | rfl | rfl | rfl
 . exact jE _
 . exact jE _
 . exact jE _
 . exact zp _
 . exact zp _
def Rm.full:Rm->Prop
 | .leaf _ _ rows=>∀ q∈rows,0 < q.2.vs.length
 | .inner _ _ _ _ ch _ _=>0 < ch.length
def wX (K:PySem.W.Frag):Sp:=fun vs H Q _=>∃ (a d:Addr) (r:Rm) (pl:Int->Int),vs=[.ref a,.ref d]/\r.at K H a/\Q0 H d pl r.ch/\r.ok pl/\r.full/\∀ H',Ext K H H'->Q (.str (r.x pl)) H'
theorem fR:aE ["_law_room_here","_law_places","_law_head","_law_children","_law_pivots"] ["_law_room_here","_law_places"] (af bT):=⟨rfl,rfl,rfl,by decide +kernel,rfl,by decide +kernel,by decide +kernel⟩
theorem pH {f:Addr} {fd:FuncData} (F:fM K "_law_room_text" "_law_room_text" bT f fd) {aG cF cR cN:Addr} {tE tF:Tok} (B:B K mg aG cF cR cN tE tF) (iH:Callee P w K mg base "_law_line" 1 ["_law_parts","_law_sign_here"] (wQ K)) (gP:Callee P w K mg base "_law_row_text" 1 ["_law_row"] (AL K)) (gC:Callee P w K mg base "_law_note_text" 2 ["_law_note_here"] (tU K)):bB P w K mg base fC 3 f fd ["_law_room_here","_law_places"] (wX K):=by
 refine F.iM fR (fun vs H Q E h=>?_) (fun dg A outer s H vs Q E hr h=>?_)
 . obtain ⟨a,d,r,pl,rfl,_⟩:=h
   rfl
 obtain ⟨a,d,r,pl,rfl,hr',hp,ok,fu,q⟩:=h
 refine bq (rest:=(ak bT).drop 4) (aH (aR (dB aT (dB aT (dB aT (dB aT (dB aT (ev 2) (ev 4)) bg) (ev 3)) bg) (ay iH (hr.mono (by decide)) rfl (aa (ur (j5.mk (N:=["_law_note_here"]) (src:=[none]) rfl rfl) rfl (d9 (dW bI (ev 0) ei (fun _ _=>rfl))) (fun _ _ _ _=>(aM (i:=0) (show (["_law_note_here"]:List Str).Nodup from by decide +kernel) rfl (Or.inl rfl))) (fun _ _ _ _=>eB) (fun _ _ _ _=>(ay gC (hr.mono (by decide)) rfl (aa (ev 0) aj)))) (aa bg aj)))))) fun r4 J4 e4=>?_
 refine bq (rest:=(ak bT).drop 3) (aq (sset (i:=4) fR.nd rfl (Or.inl rfl) (ay iH (hr.mono (by decide)) rfl (aa (ur (j5.mk (N:=["_law_pivot"]) (src:=[none]) rfl rfl) rfl (d9 (dW bI (ev 0) ei (fun _ _=>rfl))) (fun _ _ _ _=>(aM (i:=0) (show (["_law_pivot"]:List Str).Nodup from by decide +kernel) rfl (Or.inl rfl))) (fun _ _ _ _=>eB) (fun _ _ _ _=>(cZ cy rfl B.str fN (aa (ev 0) aj)))) (aa bg aj))))
     J4) fun r3 J3 e3=>?_
 refine bq (rest:=(ak bT).drop 2) (aq (sset (i:=3) fR.nd rfl (Or.inl rfl) (lY PySem.F.plainAttrs_str PySem.F.slot_str_join PySem.F.type_str_join lI bg (aa (ur (j5.mk (N:=["_law_child","_law_places"]) (src:=[none,some 1]) rfl rfl) rfl (d9 (dW bI (ev 0) ei (fun _ _=>rfl))) (fun _ _ _ _=>(aM (i:=0) (show (["_law_child","_law_places"]:List Str).Nodup from by decide +kernel) rfl (Or.inl rfl))) (fun _ _ _ _=>eB) (fun _ _ _ _=>(dB aT (dB aT (cZ cy rfl B.str fN (aa (ev 0) aj)) bg) (cZ cy rfl B.str fN (aa (BF hr.units (ev 1) (ev 0) (fun _ _=>rfl)) aj))))) aj)))
     J3) fun r2 J2 e2=>?_
 refine ⟨_,(aq (sset (i:=2) fR.nd rfl (Or.inl rfl) (dB aT (dB aT (dB aT (dW bI (ev 0) ei (fun _ _=>rfl)) bg) (cZ cy rfl B.str fN (aa (dW bI (ev 0) ei (fun _ _=>rfl)) aj))) bg))
     (aq (d8 (aV bH (dW bI (ev 0) ei (fun _ _=>rfl)) bg (au _)) (aH (aR (dB aT (ev 2) (ay iH (hr.mono (by decide)) rfl (aa (ur (j5.mk (N:=["_law_row"]) (src:=[none]) rfl rfl) rfl (d9 (dW bI (ev 0) ei (fun _ _=>rfl))) (fun _ _ _ _=>(aM (i:=0) (show (["_law_row"]:List Str).Nodup from by decide +kernel) rfl (Or.inl rfl))) (fun _ _ _ _=>eB) (fun _ _ _ _=>(ay gP (hr.mono (by decide)) rfl (aa (ev 0) aj)))) (aa bg aj)))))) bF)
     J2)),?_⟩
 cases r with
 | leaf n ra rows=>
   obtain ⟨h1,h2,h3⟩:=hr'
   simp_arith [br h1,h1]
   have n1:=bK ok.1
   have b1:(Str.ofString "leaf").length=4:=by decide +kernel
   have b2:(Str.ofString " ").length=1:=vh
   refine ⟨by omega,fQ ok.1,by show _ + (cS n).length<=_;rw [Str.length_append];omega,by show (_++cS n).length + _<=_;rw [Str.length_append,Str.length_append];omega,⟨_,bC.of h2⟩,fun D nD=>?_⟩
   refine BQ (L:=rows) (f:=fun q=>q.1) (g:=fun q=>V.str (pB q.2.k (q.2.vs.map (·.2)))) h2 nD (Nat.le_trans ok.2.2 (by decide)) (fun q0 hq H' Q' xx qq=>?_) (fun H1 hD x1=>?_)
   . try walk_at "rn"
     exact ⟨_,q0.2,rfl,(h3 q0 hq).ext xx,ok.2.1 q0 hq,fu q0 hq,qq⟩
   have e:(rows.map fun q=>V.str (pB q.2.k (q.2.vs.map (·.2))))=(rows.map fun q=>pB q.2.k (q.2.vs.map (·.2))).map V.str:=by rw [List.map_map];rfl
   rw [e] at hD
   have hl:∀ t∈rows.map fun q=>pB q.2.k (q.2.vs.map (·.2)),t.length<=1800:=by
     intro t ht
     obtain ⟨q0,hq,rfl⟩:=List.mem_map.1 ht
     exact zj (ok.2.1 q0 hq)
   have l4:=jt (sep:=Str.ofString ";") _ hl
   have l5:(Str.ofString ";").length=1:=by decide +kernel
   have l6:=ok.2.2
   rw [List.length_map,l5] at l4
   refine ⟨D,_,_,1800,rfl,hD,l5,hl,?_,by rw [List.length_map];omega,fun H2 x2=>?_⟩
   . intro t ht
     obtain ⟨q0,hq,rfl⟩:=List.mem_map.1 ht
     exact Ho _ _
   refine ⟨_,rfl,?_,?_⟩
   . show (_++cS n++_).length + _<=_
     rw [Str.length_append,Str.length_append,Str.length_append]
     omega
   have qq:=q _ (x1.trans x2)
   have e2:(Rm.leaf n ra rows).x pl=Str.ofString "leaf"++Str.ofString " "++cS n++Str.ofString " "++fD (Str.ofString ";") (rows.map fun q=>pB q.2.k (q.2.vs.map (·.2))):=by
     show Str.ofString "leaf"++Str.ofString " "++(cS n++Str.ofString " "++fD (Str.ofString ";") (rows.map fun q=>pB q.2.k (q.2.vs.map (·.2))))=_
     simp only [Str.append_assoc]
   rw [e2] at qq
   exact qq
 | inner n pa vz ca ch ta fT=>
   obtain ⟨h1,h2,h3,h4,h5⟩:=hr'
   simp_arith [br h1,h1,s5]
   obtain ⟨okn,okp,lp,okc,lc,okt,lt⟩:=ok
   obtain ⟨kvs,hd,hk⟩:=hp
   have n1:=bK okn
   have b1:(Str.ofString "inner").length=5:=by decide +kernel
   have b2:(Str.ofString " ").length=1:=vh
   have c1:(Str.ofString ",").length=1:=by decide +kernel
   have c2:(Str.ofString ";").length=1:=by decide +kernel
   have c3:(Str.ofString "@").length=1:=by decide +kernel
   have K6:∀ t∈ch.map (lg pl),t.length<=203:=by
     intro t ht
     obtain ⟨c,hc,rfl⟩:=List.mem_map.1 ht
     have n1:=bK (okc c hc).1
     have n2:=bK (okc c hc).2
     unfold lg
     rw [Str.length_append,Str.length_append]
     omega
   have j1:=join_le (sep:=Str.ofString ",") _ K6
   have j2:=nu (sep:=Str.ofString ",") _ K6
   rw [List.length_map,c1] at j1 j2
   have N4:∀ t∈fT.map fun q=>q.2.x,t.length<=600:=by
     intro t ht
     obtain ⟨q0,hq,rfl⟩:=List.mem_map.1 ht
     exact Nt.len (okt q0 hq)
   have l2:=jt (sep:=Str.ofString ";") _ N4
   rw [List.length_map,c2] at l2
   have hl3:∀ t∈vz.map cS,t.length<=101:=by
     intro t ht
     obtain ⟨i,hi,rfl⟩:=List.mem_map.1 ht
     exact bK (okp i hi)
   have l3:=jt (sep:=Str.ofString ",") _ hl3
   rw [List.length_map,c1] at l3
   refine ⟨by omega,fQ okn,by show _ + (cS n).length<=_;rw [Str.length_append];omega,by show (_++cS n).length + _<=_;rw [Str.length_append,Str.length_append];omega,?_⟩
   rw [e2]
   simp_arith [br h1,h1]
   refine ⟨⟨_,bC.of h3⟩,fun D nD=>?_⟩
   refine wH (L:=ch) (f:=V.int) (g:=fun c=>V.str (lg pl c)) h3 nD (by omega) (fun c hc H' Q' xx qq=>?_) (fun H1 hD x1=>?_)
   . have n1:=bK (okc c hc).1
     have n2:=bK (okc c hc).2
     try walk_at "rn"
     refine ⟨fQ (okc c hc).1,by show (cS c).length + _<=_;omega,.int (pl c),?_,_,rfl,fQ (okc c hc).2,by show (cS c++_).length + (cS (pl c)).length<=_;rw [Str.length_append];omega,qq⟩
     rw [<- hk c hc]
     exact oM.k (k:=.inl c) (xx.at hd)
   have e:(ch.map fun c=>V.str (lg pl c))=(ch.map (lg pl)).map V.str:=by rw [List.map_map];rfl
   rw [e] at hD
   refine ⟨_,bC.of hD,by omega,by omega,?_⟩
   rw [e3]
   simp_arith [br (x1.tup h1)]
   refine ⟨⟨_,bC.of (x1.at h2)⟩,fun D2 nD2=>?_⟩
   refine wH (L:=vz) (f:=V.int) (g:=fun i=>V.str (cS i)) (x1.at h2) nD2 (by omega) (fun i hi H' Q' xx qq=>?_) (fun H2 uD x2=>?_)
   . try walk_at "rn"
     exact ⟨fQ (okp i hi),qq⟩
   have e:(vz.map fun i=>V.str (cS i))=(vz.map cS).map V.str:=by rw [List.map_map];rfl
   rw [e] at uD
   refine ⟨D2,_,_,101,rfl,uD,c1,hl3,?_,by rw [List.length_map];omega,fun H3 x3=>?_⟩
   . intro t ht
     obtain ⟨i,hi,rfl⟩:=List.mem_map.1 ht
     exact jE i
   rw [e4]
   simp_arith [br ((x1.trans (x2.trans x3)).tup h1)]
   have en:Str.ofString (toString n)=cS n:=rfl
   rw [en]
   have Hq:=x1.trans (x2.trans x3)
   refine ⟨?_,?_,?_,?_,_,rfl,ta,rfl,⟨_,bC.of (Hq.at h4)⟩,fun D3 nD3=>?_⟩
   iterate 4
     . simp only [Str.length_append]
       omega
   refine BQ (L:=fT) (f:=fun q=>q.1) (g:=fun q=>V.str q.2.x) (Hq.at h4) nD3 (by omega) (fun q0 hq H' Q' xx qq=>?_) (fun H4 hD4 x4=>?_)
   . try walk_at "rn"
     exact ⟨_,q0.2,rfl,(h5 q0 hq).ext (Hq.trans xx),okt q0 hq,qq⟩
   have e:(fT.map fun q=>V.str q.2.x)=(fT.map fun q=>q.2.x).map V.str:=by rw [List.map_map];rfl
   rw [e] at hD4
   refine ⟨D3,_,_,600,rfl,hD4,c2,N4,?_,by rw [List.length_map];omega,fun H5 x5=>?_⟩
   . intro t ht
     obtain ⟨q0,hq,rfl⟩:=List.mem_map.1 ht
     exact EV _
   refine ⟨_,rfl,?_,?_⟩
   . simp only [Str.length_append]
     omega
   have qq:=q _ (Hq.trans (x4.trans x5))
   have ec:fD (Str.ofString ",") (ch.map (lg pl))=Str.join (Str.ofString ",") (ch.map (lg pl)):=by
     unfold fD
     rw [if_neg]
     intro e
     rw [List.map_eq_nil_iff] at e
     have:0 < ch.length:=fu
     rw [e] at this
     exact absurd this (by decide)
   have e2:(Rm.inner n pa vz ca ch ta fT).x pl=Str.ofString "inner"++Str.ofString " "++cS n++Str.ofString " "++fD (Str.ofString ",") (vz.map cS)++Str.ofString " "++Str.join (Str.ofString ",") (ch.map (lg pl))++Str.ofString " "++fD (Str.ofString ";") (fT.map fun q=>q.2.x):=by
     rw [<- ec]
     show Str.ofString "inner"++Str.ofString " "++(cS n++Str.ofString " "++(fD (Str.ofString ",") (vz.map cS)++Str.ofString " "++(fD (Str.ofString ",") (ch.map (lg pl))++Str.ofString " "++fD (Str.ofString ";") (fT.map fun q=>q.2.x))))=_
     simp only [Str.append_assoc]
   rw [e2] at qq
   exact qq
end
section
variable {P:Program} {w:World} {K:PySem.W.Frag} {mg:Str->Option Value} {base:Heap}
theorem pI {α:Type} {R:V->α->Prop}:∀ vs:List V,(∀ v∈vs,∃ a,R v a)->∃ L:List (V×α),L.map (·.1)=vs/\∀ q∈L,R q.1 q.2
 | [],_=>⟨[],rfl,fun _ h=>by cases h⟩
 | v::vs,h=>by
   obtain ⟨L,e,hL⟩:=pI vs fun x m=>h x (List.mem_cons_of_mem _ m)
   obtain ⟨a,ha⟩:=h v List.mem_cons_self
   refine ⟨(v,a)::L,by rw [List.map_cons,e],fun q m=>?_⟩
   rcases List.mem_cons.1 m with rfl | m
   . exact ha
   . exact hL q m
theorem zq {S:V->Hp->Prop} {p D:Addr} {H0 H' jW:Hp} {acc:List V} {v:V} (pD:p≠D) (hD:H' D=some (.lst acc))
   (AM:∀ v H1 H2,S v H1->Wl H1 p->(∃ xs,H1 D=some (.lst xs))->j4 K p D H1 H2->S v H2)
   (hS:∀ v∈acc,S v H') (hp:Wl H' p) (k:j4 K p D H0 H') (hv:S v jW) (jz:Wl jW p) (k2:Kp K p H' jW):
   jW D=some (.lst acc)/\(∀ u∈acc++[v],S u (upd jW D (.lst (acc++[v]))))/\Wl (upd jW D (.lst (acc++[v]))) p/\j4 K p D H0 (upd jW D (.lst (acc++[v]))):=by
 have uD:=k2.keep D _ hD pD.symm
 have k3:j4 K p D jW (upd jW D (.lst (acc++[v]))):=Kp.r (Kp.upd uD)
 refine ⟨uD,fun u hu=>?_,jz.upd pD,k.trans (k2.l.trans k3)⟩
 rcases List.mem_append.1 hu with h | h
 . exact AM u _ _ (AM u _ _ (hS u h) hp ⟨_,hD⟩ k2.l) jz ⟨_,uD⟩ k3
 . rw [List.mem_singleton] at h
   subst h
   exact AM u _ _ hv jz ⟨_,uD⟩ k3
theorem EW {α:Type} {p c D:Addr} {L:List α} {f:α->V} {te:TE} {v0:Option V} {rest:St} {H:Hp} {Q:Hp->Prop} (S:V->Hp->Prop) (hk:H c=some (.lst (L.map f))) (nD:new K H D) (hp:Wl H p) (cp:c≠p) (hz:L.length<=1000)
   (AM:∀ v H1 H2,S v H1->Wl H1 p->(∃ xs,H1 D=some (.lst xs))->j4 K p D H1 H2->S v H2)
   (elt:∀ q∈L,∀ H' (Q:VK),Wl H' p->(∃ xs,H' D=some (.lst xs))->(∀ v jW,S v jW->Wl jW p->Kp K p H' jW->Q v jW)->te (some (f q)::rest) H' Q)
   (fin:∀ vs H',H' D=some (.lst vs)->vs.length=L.length->(∀ v∈vs,S v H')->Wl H' p->j4 K p D (upd H D (.lst [])) H'->Q H'):cA (zW K c) (dw 0) jB te D Q (v0::rest) (upd H D (.lst [])):=by
 have pD:p≠D:=(hp.ne nD).symm
 refine nj (xs:=L.map f) (fun i acc σ' H'=>∃ (v0:Option V),σ'=v0::rest/\H' D=some (.lst acc)/\acc.length=i/\(∀ v∈acc,S v H')/\Wl H' p/\j4 K p D (upd H D (.lst [])) H') ?_ ?_ ?_ ?_
 . exact ⟨_,rfl,ah,rfl,(fun _ h=>by cases h),hp.upd pD,j4.refl⟩
 . rintro i acc σ' H' _ ⟨v0,rfl,hD,rfl,_,_,k⟩
   have cD:c≠D:=aW hk nD.1
   exact bC.of (k.keep c _ (by rw [aJ cD];exact hk) cp cD)
 . rintro i x acc σ' H' hx ⟨v0,rfl,hD,rfl,hS,lU,k⟩
   have hi:acc.length < L.length:=by
     have:=(List.getElem?_eq_some_iff.1 hx).1
     rwa [List.length_map] at this
   rw [List.getElem?_map] at hx
   obtain ⟨q,ek,rfl⟩:=Option.map_eq_some_iff.mp hx
   unfold dw jB
   refine Af ?_
   refine elt q (List.mem_of_getElem? ek) H' _ lU ⟨_,hD⟩ fun v jW hv jz k2=>?_
   obtain ⟨a1,a2,a3,a4⟩:=zq pD hD AM hS lU k hv jz k2
   exact ⟨a1,Nat.lt_of_lt_of_le hi (Nat.le_trans hz (by decide)),_,rfl,ah,by rw [List.length_append];rfl,a2,a3,a4⟩
 . rintro acc σ' H' ⟨v0,rfl,hD,e,hS,lU,k⟩
   rw [List.length_map] at e
   exact fin acc H' hD e hS lU k
theorem vA {p D:Addr} {n:Nat} {te:TE} {v0:Option V} {rest:St} {H:Hp} {Q:Hp->Prop} (S:V->Hp->Prop) (nD:new K H D) (hp:Wl H p) (hz:n<=1000)
   (AM:∀ v H1 H2,S v H1->Wl H1 p->(∃ xs,H1 D=some (.lst xs))->j4 K p D H1 H2->S v H2)
   (elt:∀ (x:V) H' (Q:VK),Wl H' p->(∃ xs,H' D=some (.lst xs))->(∀ v jW,S v jW->Wl jW p->Kp K p H' jW->Q v jW)->te (some x::rest) H' Q)
   (fin:∀ vs H',H' D=some (.lst vs)->vs.length=n->(∀ v∈vs,S v H')->Wl H' p->j4 K p D (upd H D (.lst [])) H'->Q H'):cA (Be 0 n) (dw 0) jB te D Q (v0::rest) (upd H D (.lst [])):=by
 have pD:p≠D:=(hp.ne nD).symm
 refine En (fun i acc σ' H'=>∃ (v0:Option V),σ'=v0::rest/\H' D=some (.lst acc)/\acc.length=i/\(∀ v∈acc,S v H')/\Wl H' p/\j4 K p D (upd H D (.lst [])) H') ?_ ?_ ?_
 . exact ⟨_,rfl,ah,rfl,(fun _ h=>by cases h),hp.upd pD,j4.refl⟩
 . rintro i acc σ' H' hi ⟨v0,rfl,hD,rfl,hS,lU,k⟩
   unfold dw jB
   refine Af ?_
   refine elt _ H' _ lU ⟨_,hD⟩ fun v jW hv jz k2=>?_
   obtain ⟨a1,a2,a3,a4⟩:=zq pD hD AM hS lU k hv jz k2
   exact ⟨a1,Nat.lt_of_lt_of_le hi (Nat.le_trans hz (by decide)),_,rfl,ah,by rw [List.length_append];rfl,a2,a3,a4⟩
 . rintro acc σ' H' ⟨v0,rfl,hD,e,hS,lU,k⟩
   exact fin acc H' hD e hS lU k
theorem j4.tup {p D a:Addr} {H H':Hp} {xs ys zs:List V} (k:j4 K p D H H') (hp:H p=some (.lst ys)) (hD:H D=some (.lst zs)) (h:tupQ K H a=some xs):tupQ K H' a=some xs:=by
 unfold tupQ at h ⊢
 cases e:H a with
 | none=>
   rw [e] at h
   rw [k.mod a xs e h]
   exact h
 | some o=>
   rw [k.keep a o e (fun z=>by rw [z,hp] at e;cases e;rw [z,hp] at h;cases h) (fun z=>by rw [z,hD] at e;cases e;rw [z,hD] at h;cases h)]
   rw [e] at h
   exact h
theorem Kp.Kc {p:Addr} {H:Hp} {u o:HO} (h:H p=some u):Kp K p H (upd H p o):=⟨fun q u e n=>by rw [aJ n];exact e,fun b ys e _=>by rw [aJ (fun z=>by rw [z,h] at e;cases e)];exact e⟩
theorem EX {kvs:List (Key×V)} {k:Key} {v:V} {q:Key×V} (h:q∈putK kvs k v):q=(k,v)∨(q∈kvs/\q.1≠k):=by
 unfold putK at h
 split at h
 . obtain ⟨r,hr,rfl⟩:=List.mem_map.1 h
   by_cases e:r.1=k
   . rw [if_pos e,e]
     exact .inl rfl
   . rw [if_neg e]
     exact .inr ⟨hr,e⟩
 . rename_i c
   rcases List.mem_append.1 h with h | h
   . refine .inr ⟨h,fun e=>c ?_⟩
     rw [List.any_eq_true]
     exact ⟨q,h,decide_eq_true e⟩
   . rw [List.mem_singleton] at h
     exact .inl h
def PK (kvs:List (Key×V)):Prop:=∀ q∈kvs,∃ k i,q=(.inl k,.int i)/\gH kvs (.inl k)=some (.int i)/\i.natAbs < 10 ^ 100
theorem PK.put {kvs:List (Key×V)} (h:PK kvs) {k i:Int} (hi:i.natAbs < 10 ^ 100):PK (putK kvs (.inl k) (.int i)):=by
 intro q hq
 rcases EX hq with rfl | ⟨m,ne⟩
 . exact ⟨k,i,rfl,by rw [oK,if_pos rfl],hi⟩
 . obtain ⟨k',i',rfl,e,b⟩:=h q m
   exact ⟨k',i',rfl,by rw [oK,if_neg ne];exact e,b⟩
def Kd (kvs:List (Key×V)) (c:Int):Int:=match gH kvs (.inl c) with
 | some (.int i)=>i
 | _=>0
structure DAt (H:Hp) (d:Addr) (kvs:List (Key×V)):Prop where
 at_:H d=some (.dK kvs)
 whole:∀ q∈kvs,∃ k i,q=(.inl k,.int i)/\gH kvs (.inl k)=some (.int i)
 Ke:kvs.length<=60
def wY (K:PySem.W.Frag):Sp:=fun vs H Q _=>∃ (p:Addr) (m:Int),vs=[.ref p,.int m]/\Wl H p/\3<=m/\m<=26/\
 ∀ (t a d:Addr) (r:Rm) (pl:Int->Int) (kvs:List (Key×V)) (H':Hp),tupQ K H' t=some [.ref a,.ref d]->r.at K H' a->DAt H' d kvs->(∀ c∈r.ch,gH kvs (.inl c)=some (.int (pl c)))->r.ok pl->r.full->Wl H' p->Kp K p H H'->Q (.ref t) H'
theorem cU:aE ["_law_state","_law_most","_law_keys_here","_law_many","_law_children","_law_turn","_law_places","_law_child","_law_pivots","_law_tray"] ["_law_state","_law_most"] (af iC):=⟨rfl,rfl,rfl,by decide +kernel,rfl,by decide +kernel,by decide +kernel⟩
theorem wZ {f:Addr} {fd:FuncData} (F:fM K "_law_room" "_law_room" iC f fd) {aG cF cR cN:Addr} {tE tF:Tok} (B:B K mg aG cF cR cN tE tF) (ai:Callee P w K mg base "_law_digit" 1 ["_law_state","_law_base"] (fj K)) (bQ:Callee P w K mg base "_law_rising" 2 ["_law_state","_law_many","_law_first_here"] (mY K)) (bM:Callee P w K mg base "_law_first" 2 ["_law_state"] (pF K)) (bL:Callee P w K mg base "_law_number" 2 ["_law_state"] (mX K)) (kc:Callee P w K mg base "_law_note" 3 ["_law_state"] (wL K)) (gQ:Callee P w K mg base "_law_versions" 3 ["_law_state","_law_most"] (ou K)) (kg:Callee P w K mg base "_law_keys" 3 ["_law_state","_law_many"] (AJ K)) (ju:Callee P w K mg base "_law_some" 2 ["_law_state","_law_most"] (AK K)):bB P w K mg base fC 4 f fd ["_law_state","_law_most"] (wY K):=by
 refine F.iM cU (fun vs H Q E h=>?_) (fun dg A outer s H vs Q E hr h=>?_)
 . obtain ⟨p,m,rfl,_⟩:=h
   rfl
 obtain ⟨p,m,rfl,hp,m0,m1,q⟩:=h
 refine ⟨_,(aq (d8 (aV bH (ay ai (hr.mono (by decide)) rfl (aa (ev 0) (aa ei aj))) ei (au _)) (aq (sset (i:=2) cU.nd rfl (Or.inl rfl) (ay kg (hr.mono (by decide)) rfl (aa (ev 0) (aa (ay ju (hr.mono (by decide)) rfl (aa (ev 0) (aa (ev 1) aj))) aj))))
     (aH (aR (cJ (aa (cJ (aa bg (aa (ay bM (hr.mono (by decide)) rfl (aa (ev 0) aj)) (aa (ur (j5.mk (N:=["_law_key","_law_state","_law_most"]) (src:=[none,some 0,some 1]) rfl rfl) rfl (d9 (ev 2)) (fun _ _ _ _=>(aM (i:=0) (show (["_law_key","_law_state","_law_most"]:List Str).Nodup from by decide +kernel) rfl (Or.inl rfl))) (fun _ _ _ _=>eB) (fun _ _ _ _=>(Jw K (aa (ev 0) (aa (ay gQ (hr.mono (by decide)) rfl (aa (ev 1) (aa (ev 2) aj))) aj))))) aj)))) (aa sW aj)))))) bF)
     (aq (sset (i:=3) cU.nd rfl (Or.inl rfl) (dB cu ei (ay ai (hr.mono (by decide)) rfl (aa (ev 0) (aa (dW bI (cK (aa ei (aa ei (aa ei (aa ei (aa (ev 1) aj)))))) (ay ai (hr.mono (by decide)) rfl (aa (ev 0) (aa ei aj))) (fun _ _=>rfl)) aj)))))
     (aq (sset (i:=4) cU.nd rfl (Or.inl rfl) (ay bQ (hr.mono (by decide)) rfl (aa (ev 0) (aa (ev 3) (aa (ay bM (hr.mono (by decide)) rfl (aa (ev 0) aj)) aj)))))
     (aq (sset (i:=5) cU.nd rfl (Or.inl rfl) (ay ai (hr.mono (by decide)) rfl (aa (ev 0) (aa (ev 3) aj))))
     (aq (sset (i:=4) cU.nd rfl (Or.inl rfl) (dB jl (bS dI (ev 4) (cz (ev 5)) dS) (bS dI (ev 4) dS (cz (ev 5)))))
     (aq (sset (i:=6) cU.nd rfl (Or.inl rfl) sW)
     (aq (vW PassesOwn.never rfl (d9 (ev 4)) (aM (i:=7) cU.nd rfl (Or.inl rfl))
       (aH (Ex hr.units (ev 6) (ev 7) (ay ai (hr.mono (by decide)) rfl (aa (ev 0) (aa (dW bI (cK (aa ei (aa ei (aa (gW 1000000) (aa (gW 1000000000000000000000000000000000000000000000000000000000000) aj))))) (ay ai (hr.mono (by decide)) rfl (aa (ev 0) (aa ei aj))) (fun _ _=>rfl)) aj))))))
     (aq (K4 (i:=8) cU.nd rfl (Or.inl rfl) (j5.mk (N:=["_law_k","_law_state"]) (src:=[none,some 0]) rfl rfl) rfl (rO rfl B.range (aa (dB jd (ev 3) ei) aj)) (fun _ _ _ _=>(aM (i:=0) (show (["_law_k","_law_state"]:List Str).Nodup from by decide +kernel) rfl (Or.inl rfl))) (fun _ _ _ _=>eB) (fun _ _ _ _=>(ay bL (hr.mono (by decide)) rfl (aa (ev 1) aj))))
     (aq (K4 (i:=9) cU.nd rfl (Or.inl rfl) (j5.mk (N:=["_law_k","_law_state"]) (src:=[none,some 0]) rfl rfl) rfl (rO rfl B.range (aa (ay ju (hr.mono (by decide)) rfl (aa (ev 0) (aa (ev 1) aj))) aj)) (fun _ _ _ _=>(aM (i:=0) (show (["_law_k","_law_state"]:List Str).Nodup from by decide +kernel) rfl (Or.inl rfl))) (fun _ _ _ _=>eB) (fun _ _ _ _=>(ay kc (hr.mono (by decide)) rfl (aa (ev 1) aj))))
     (aH (aR (cJ (aa (cJ (aa bg (aa (ay bM (hr.mono (by decide)) rfl (aa (ev 0) aj)) (aa (ev 8) (aa (ev 4) (aa (ev 9) aj)))))) (aa (ev 6) aj)))))))))))))),?_⟩
 try walk_at "rn"
 refine ⟨p,2,rfl,hp,by decide,by decide,fun c H1 c0 c1 lU k1=>?_⟩
 try walk_at "rn"
 refine cQ (fun _=>?_) (fun _=>?_)
 . refine ⟨p,m,rfl,lU,by omega,by omega,fun n H2 n0 n1 jz k2=>?_⟩
   obtain ⟨n',rfl⟩:=Int.eq_ofNat_of_zero_le n0
   refine ⟨p,n',rfl,jz,by omega,fun r ns H3 hr3 ln hb nr hp3 k3=>?_⟩
   have rp:r≠p:=fun e=>by
     subst e
     obtain ⟨xs,hx⟩:=jz.lst
     rw [nr] at hx
     cases hx
   refine ⟨p,rfl,hp3,fun i H4 i0 i1 qJ k4=>?_⟩
   have Mb:=k4.keep r _ hr3 rp
   try walk_at "rn"
   refine ⟨⟨_,bC.of Mb⟩,fun D nD=>?_⟩
   refine EW (p:=p) (L:=ns) (f:=V.int) (fun v H=>∃ e:Row,vt K H v e/\BR e/\0 < e.vs.length/\e.a≠p/\e.a≠D) Mb nD qJ rp (by omega) ?_ ?_ ?_
   . rintro v H1 H2 ⟨e,⟨t,rfl,h1,h2,h3⟩,ok,l0,a1,a2⟩ hp ⟨xs,hD⟩ k
     obtain ⟨ys,hy⟩:=hp.lst
     exact ⟨e,⟨t,rfl,j4.tup k hy hD h1,k.keep _ _ h2 a1 a2,fun q hq=>let ⟨t,e,h⟩:=h3 q hq;⟨t,e,j4.tup k hy hD h⟩⟩,ok,l0,a1,a2⟩
   . intro j hj H' Q' hp' Hh qq
     try walk_at "rn"
     refine ⟨p,m,rfl,hp',m0,by omega,fun a L H5 ha hL l0 l1 uB k5 na t nt=>?_⟩
     have xt:=Ext.new (K:=K) (o:=.tup [V.int j,V.ref a]) nt
     refine qq _ _ ⟨⟨j,a,L⟩,⟨t,rfl,aN,xt.at ha,fun q hq=>(hL q hq).1.ext xt⟩,⟨?_,fun q hq=>(hL q hq).2,l1⟩,l0,?_,?_⟩ (uB.ext xt) (k5.trans xt.kp)
     . have:=hb j hj
       show j.natAbs < _
       omega
     . rintro rfl
       obtain ⟨xs,hx⟩:=hp'.lst
       rw [na] at hx
       cases hx
     . rintro rfl
       obtain ⟨xs,hx⟩:=Hh
       rw [na] at hx
       cases hx
   intro vs H5 hD5 lv hS uB k5
   obtain ⟨rows,rfl,hrows⟩:=pI vs hS
   rw [List.length_map] at lv
   have Dn:=k1.trans (k2.trans (k3.trans (k4.trans (k5.kp nD))))
   try walk_at "rn"
   intro a na d nd t nt
   have xa:=Ext.new (K:=K) (o:=.tup [V.str "leaf",V.int i,V.ref D]) na
   have xd:=Ext.new (K:=K) (o:=.dK []) nd
   have xt:=Ext.new (K:=K) (o:=.tup [V.ref a,V.ref d]) nt
   have x:=xa.trans (xd.trans xt)
   refine q t a d (.leaf i D rows) (fun _=>0) [] _ aN ⟨(xd.trans xt).tup aN,x.at hD5,fun q hq=>(hrows q hq).1.ext x⟩ ⟨xt.at ah,(fun _ h=>by cases h),by decide⟩ (fun _ h=>by cases h) ⟨?_,fun q hq=>(hrows q hq).2.1,by omega⟩ (fun q hq=>(hrows q hq).2.2.1) (uB.ext x) (Dn.trans x.kp)
   omega
 . intro D nD
   have x1:=Ext.new (K:=K) (o:=.lst [V.int 1,V.int 3,V.int 3,V.int 5,V.int m]) nD
   refine ⟨p,5,rfl,lU.ext x1,by decide,by decide,fun d H2 d0 d1 jz k2=>?_⟩
   simp_arith [aX (k2.keep D _ ah (lU.ne nD))]
   obtain ⟨b,hb,eb⟩:=nK [1,3,3,5,m] (i:=d) d0 d1
   have bb:0 < b/\b<=26:=by
     simp only [List.mem_cons,List.not_mem_nil,or_false] at hb
     rcases hb with rfl | rfl | rfl | rfl | rfl <;> omega
   refine ⟨_,eb,p,b,rfl,jz,bb.1,by omega,fun j H3 j0 j1 hp3 k3=>?_⟩
   try walk_at "rn"
   refine ⟨p,rfl,hp3,fun i H4 i0 i1 qJ k4=>?_⟩
   obtain ⟨n,en⟩:=Int.eq_ofNat_of_zero_le (a:=1 + j) (by omega)
   refine ⟨p,n,i,by rw [en],qJ,by omega,i0,i1,fun r ns H5 hr5 ln N5 pw nr uB k5=>?_⟩
   have Dn:=k1.trans (x1.kp.trans (k2.trans (k3.trans (k4.trans k5))))
   have rp:r≠p:=fun e=>by
     subst e
     obtain ⟨xs,hx⟩:=qJ.lst
     rw [nr] at hx
     cases hx
   try walk_at "rn"
   refine ⟨p,_,rfl,uB,by omega,by omega,fun u H6 u0 u1 hp6 k6=>?_⟩
   have hr6:=k6.keep r _ hr5 rp
   try walk_at "rn"
   obtain ⟨u',rfl⟩:=Int.eq_ofNat_of_zero_le u0
   refine ⟨_,bC.of hr6,fun b1 n1=>?_⟩
   have y1:=Ext.new (K:=K) (o:=.lst (iK (ns.map V.int) (some (u':Int)) none)) n1
   refine ⟨_,bC.of (y1.at hr6),fun b2 n2=>?_⟩
   have y2:=Ext.new (K:=K) (o:=.lst (iK (ns.map V.int) none (some (u':Int)))) n2
   refine ⟨_,y2.at ah,?_,fun ca nca d nd=>?_⟩
   . have h1:=j3 (ns.map V.int) (some (u':Int)) none
     have h2:=j3 (ns.map V.int) none (some (u':Int))
     rw [List.length_map] at h1 h2
     omega
   have ech:iK (ns.map V.int) (some (u':Int)) none++iK (ns.map V.int) none (some (u':Int))=(ns.drop u'++ns.take u').map V.int:=by
     rw [qj,vX,List.map_append,List.map_drop,List.map_take]
   rw [ech] at nd ⊢
   have lch:(ns.drop u'++ns.take u').length=n:=by
     rw [List.length_append,List.length_drop,List.length_take]
     omega
   have bch:∀ c∈ns.drop u'++ns.take u',c.natAbs < 10 ^ 100:=by
     intro c hc
     have hm:c∈ns:=by
       rcases List.mem_append.1 hc with h | h
       . exact List.mem_of_mem_drop h
       . exact List.mem_of_mem_take h
     have:=N5 c hm
     omega
   generalize ns.drop u'++ns.take u'=ch at nd lch bch ⊢
   clear ech
   have y3:=Ext.new (K:=K) (o:=.lst (ch.map V.int)) nca
   have y4:=Ext.new (K:=K) (o:=.dK []) nd
   have x9:=y1.trans (y2.trans (y3.trans y4))
   have Mc:=hp6.ext x9
   have Hr:=y4.at (ah (H:=upd (upd H6 b1 (.lst (iK (ns.map V.int) (some (u':Int)) none))) b2 (.lst (iK (ns.map V.int) none (some (u':Int))))) (a:=ca) (o:=.lst (ch.map V.int)))
   have K8:=Dn.trans (k6.trans x9.kp)
   have Me:ca≠p:=(hp6.ext (y1.trans y2)).ne nca
   have dp:d≠p:=(hp6.ext (y1.trans (y2.trans y3))).ne nd
   have hdn:H d=none:=(hp6.ext (y1.trans (y2.trans y3))).back (Dn.trans (k6.trans (y1.trans (y2.trans y3)).kp)) nd.1
   have cad:ca≠d:=aW ah nd.1
   have hd9:upd (upd (upd (upd H6 b1 (.lst (iK (ns.map V.int) (some (u':Int)) none))) b2 (.lst (iK (ns.map V.int) none (some (u':Int))))) ca (.lst (ch.map V.int))) d (.dK []) d=some (.dK []):=ah
   generalize upd (upd (upd (upd H6 b1 (.lst (iK (ns.map V.int) (some (u':Int)) none))) b2 (.lst (iK (ns.map V.int) none (some (u':Int))))) ca (.lst (ch.map V.int))) d (.dK [])=H9 at Mc Hr K8 hd9 ⊢
   refine ⟨⟨_,bC.of Hr⟩,?_⟩
   refine jM (xs:=ch.map V.int) (fun k σ H'=>∃ (v7:Option V) (kvs:List (Key×V)),σ=[some (.ref p),some (.int m),none,some (.int (1 + j)),some (.ref ca),some (.int u'),some (.ref d),v7,none,none]/\H' d=some (.dK kvs)/\PK kvs/\(∀ c∈ch.take k,∃ i,gH kvs (.inl c)=some (.int i))/\kvs.length<=k/\Wl H' p/\j4 K p d H9 H') ⟨_,[],rfl,hd9,(fun _ h=>by cases h),(fun _ h=>by cases h),Nat.le_refl _,Mc,j4.refl⟩ ?_ ?_ ?_
   . rintro k σ H' _ ⟨_,_,_,_,_,_,_,_,kk⟩
     exact bC.of (kk.keep ca _ Hr Me cad)
   . rintro k x σ H' hx ⟨v7,kvs,rfl,hd,pk,hc,lk,hp',kk⟩
     rw [List.getElem?_map] at hx
     obtain ⟨c,hcc,rfl⟩:=Option.map_eq_some_iff.mp hx
     have hk:k < ch.length:=(List.getElem?_eq_some_iff.1 hcc).1
     try walk_at "rn"
     intro D2 nD2
     have z1:=Ext.new (K:=K) (o:=.lst [V.int 2,V.int 10,V.int 1000000,V.int 1000000000000000000000000000000000000000000000000000000000000]) nD2
     refine ⟨p,4,rfl,hp'.ext z1,by decide,by decide,fun e H2 e0 e1 jz k2=>?_⟩
     simp_arith [aX (k2.keep D2 _ ah (hp'.ne nD2))]
     obtain ⟨b,hb,eb⟩:=nK [2,10,10 ^ 6,10 ^ 60] (i:=e) e0 e1
     have bb:0 < b/\b<=10 ^ 60:=by
       simp only [List.mem_cons,List.not_mem_nil,or_false] at hb
       rcases hb with rfl | rfl | rfl | rfl <;> exact ⟨by decide,by decide⟩
     refine ⟨_,eb,p,b,rfl,jz,bb.1,by omega,fun v H3 v0 v1 hp3 k3=>?_⟩
     have hd3:=k3.keep d _ (k2.keep d _ (z1.at hd) dp) dp
     try walk_at "rn"
     refine ⟨_,vS.k (k:=.inl c) hd3 (Nat.lt_of_le_of_lt (show kvs.length<=40 by omega) (by decide)),putK kvs (.inl c) (.int v),ah,pk.put (by omega),fun c' hc'=>?_,Nat.le_trans (mL _ _ _) (Nat.succ_le_succ lk),hp3.upd dp.symm,kk.trans (z1.kp2.trans (k2.l.trans (k3.l.trans (Kp.r (Kp.Kc hd3)))))⟩
     rw [oK]
     by_cases e:(Sum.inl c':Key)=.inl c
     . rw [if_pos e]
       exact ⟨_,rfl⟩
     . rw [if_neg e]
       rw [List.take_add_one,hcc,Option.toList_some] at hc'
       rcases List.mem_append.1 hc' with h | h
       . exact hc c' h
       . rw [List.mem_singleton] at h
         exact absurd (congrArg _ h) e
   rintro σ H' ⟨v7,kvs,rfl,hd,pk,hc,lk,hp',kk⟩
   rw [List.length_map] at hc lk
   rw [List.take_length] at hc
   have Q6:=kk.keep ca _ Hr Me cad
   try walk_at "rn"
   refine ⟨by omega,by omega,fun pa npa=>?_⟩
   have pap:pa≠p:=hp'.ne npa
   refine vA (p:=p) (fun v H=>∃ i:Int,v=.int i/\i.natAbs < 10 ^ 60) npa hp' (by omega) (fun _ _ _ h _ _ _=>h) ?_ ?_
   . intro x H2 Q2 jz uD qq
     try walk_at "rn"
     exact ⟨p,rfl,jz,fun i H3 ib hp3 k3=>qq _ _ ⟨i,rfl,ib⟩ hp3 k3⟩
   intro vs HB hpaB lpa hS hpB kB
   obtain ⟨pL,rfl,hpL⟩:=pI vs hS
   have epL:pL.map (·.1)=(pL.map (·.2)).map V.int:=by
     rw [List.map_map]
     exact List.map_congr_left fun q hq=>(hpL q hq).1
   rw [epL] at hpaB lpa
   rw [List.length_map] at lpa
   have bpL:∀ i∈pL.map (·.2),i.natAbs < 10 ^ 100:=by
     intro i hi
     obtain ⟨q0,hq,rfl⟩:=List.mem_map.1 hi
     have:=(hpL q0 hq).2
     omega
   generalize pL.map (·.2)=vz at hpaB lpa bpL
   clear epL hS hpL
   have K9:Kp K p H H':=⟨fun r o h n=>kk.keep r o (K8.keep r o h n) n (fun e=>by subst e;rw [hdn] at h;cases h),fun a xs h k=>kk.mod a xs (K8.mod a xs h k) k⟩
   have Q7:=kB.kp npa
   have Q8:=Q7.keep ca _ Q6 Me
   have hdB:=Q7.keep d _ hd dp
   refine ⟨p,m,rfl,hpB,by omega,by omega,fun e HC e0 e1 hpC kC=>?_⟩
   try walk_at "rn"
   refine ⟨by omega,by omega,fun ta nta=>?_⟩
   have tap:ta≠p:=hpC.ne nta
   refine vA (p:=p) (fun v H=>∃ e:Nt,oq K H v e/\e.ok) nta hpC (by omega) ?_ ?_ ?_
   . rintro v G1 G2 ⟨e,⟨a,w,r,s,rfl,h1,h2,h3,h4⟩,ok⟩ hp ⟨xs,hD⟩ k
     obtain ⟨ys,hy⟩:=hp.lst
     exact ⟨e,⟨a,w,r,s,rfl,j4.tup k hy hD h1,j4.tup k hy hD h2,j4.tup k hy hD h3,j4.tup k hy hD h4⟩,ok⟩
   . intro x G2 Q2 jz uD qq
     try walk_at "rn"
     exact ⟨p,rfl,jz,fun v e H3 ne oke hp3 k3=>qq _ _ ⟨e,ne,oke⟩ hp3 k3⟩
   intro vs HD htaD lta hS hpD kD
   obtain ⟨fT,rfl,htray⟩:=pI vs hS
   rw [List.length_map] at lta
   have Oj:=kC.trans (kD.kp nta)
   have Q9:=Oj.keep ca _ Q8 Me
   have hdD:=Oj.keep d _ hdB dp
   have Ra:=Oj.keep pa _ hpaB pap
   refine ⟨p,rfl,hpD,fun f HE f0 f1 hpE kE=>?_⟩
   try walk_at "rn"
   intro a na t nt
   obtain ⟨ysD,hyD⟩:=hpD.lst
   have xa:=Ext.new (K:=K) (o:=.tup [V.str "inner",V.int f,V.ref pa,V.ref ca,V.ref ta]) na
   have xt:=Ext.new (K:=K) (o:=.tup [V.ref a,V.ref d]) nt
   have x:=xa.trans xt
   refine q t a d (.inner f pa vz ca ch ta fT) (Kd kvs) kvs _ aN ⟨xt.tup aN,x.at (kE.keep pa _ Ra pap),x.at (kE.keep ca _ Q9 Me),x.at (kE.keep ta _ htaD tap),fun q hq=>?_⟩ ⟨x.at (kE.keep d _ hdD dp),fun q hq=>?_,by omega⟩ (fun c hc'=>?_) ⟨by omega,bpL,by omega,fun c hc'=>⟨bch c hc',?_⟩,by omega,fun q hq=>(htray q hq).2,by omega⟩ (show 0 < ch.length by omega) (hpE.ext x) (K9.trans (Q7.trans (Oj.trans (kE.trans x.kp))))
   . obtain ⟨a,w,r,s,e,h1,h2,h3,h4⟩:=(htray q hq).1
     exact ⟨a,w,r,s,e,x.tup (kE.tup hyD h1),x.tup (kE.tup hyD h2),x.tup (kE.tup hyD h3),x.tup (kE.tup hyD h4)⟩
   . obtain ⟨k,i,e1,e2,_⟩:=pk q hq
     exact ⟨k,i,e1,e2⟩
   . obtain ⟨i,e⟩:=hc c hc'
     rw [e]
     unfold Kd
     rw [e]
   . obtain ⟨i,e⟩:=hc c hc'
     have hm:((.inl c,.int i):Key×V)∈kvs:=by
       unfold gH at e
       obtain ⟨q,hq,e2⟩:=Option.map_eq_some_iff.mp e
       have h1:=List.find?_some hq
       have h2:=List.mem_of_find?_eq_some hq
       have h3:=of_decide_eq_true h1
       have:q=(.inl c,.int i):=Prod.ext h3 e2
       rwa [this] at h2
     obtain ⟨k',i',e1,e2,b⟩:=pk _ hm
     have:i=i':=by injection e1 with _ e1;injection e1
     unfold Kd
     rw [e]
     show i.natAbs < _
     omega
end
theorem zu {K:PySem.W.Frag} {H:Hp}:∀ (ks:List Int),cj K H (ks.map PyData.int) (ks.map V.int)
 | []=>by simp only [List.map_nil,cj]
 | k::ks=>by simp only [List.map_cons,cj];exact ⟨_,_,rfl,by simp only [Is],zu ks⟩
theorem BU {K:PySem.W.Frag} {H:Hp} {r:Addr} {ks:List Int} (h:H r=some (.lst (ks.map V.int))):Is K H (.list (ks.map PyData.int)) (.ref r):=by
 simp only [Is]
 exact ⟨r,_,rfl,bC.of h,zu ks⟩
theorem zv:∀ (ks:List Int),PyData.canLayAll0 (ks.map PyData.int)=true/\PyData.depthAll (ks.map PyData.int)<=2
 | []=>by simp [PyData.canLayAll0,PyData.depthAll]
 | k::ks=>by
   have ih:=zv ks
   simp only [List.map_cons,PyData.canLayAll0,PyData.depthAll,ih.1,PyData.canLay0,PyData.depth,Bool.and_true]
   exact ⟨trivial,Nat.max_le.mpr ⟨by decide,ih.2⟩⟩
theorem qL (ks:List Int):SeqAt.shaped (.list (ks.map PyData.int))=true:=by
 have h:=zv ks
 have e:(PyData.list (ks.map PyData.int)).depth=PyData.depthAll (ks.map PyData.int) + 1:=by simp only [PyData.depth]
 simp only [SeqAt.shaped,PyData.canLay0,h.1,Bool.true_and,decide_eq_true_eq]
 rw [e]
 omega
theorem lK {x:Str} {n:Nat} (h:n<=x.length):(Txt.slice x (some (n:Int)) none).cps.toList=x.cps.toList.drop n:=by
 have e:Txt.slice x (some (n:Int)) none=StrLaws.sliceText x (some (n:Int)) none:=rfl
 rw [e,StrLaws.sliceText_from ⟨by omega,by rw [str_len] at h;omega⟩]
 simp
 exact List.take_of_length_le (by simp)
theorem EY (c:Nat):Txt.contains (Str.ofString "0123456789") ⟨#[c]⟩=jS c:=by
 show (!(Builtin.Str.occurrences (Str.ofString "0123456789") ⟨#[c]⟩ 0 (Str.ofString "0123456789").length 1).isEmpty)=_
 rw [StrLaws.found_one,show (Str.ofString "0123456789").cps.toList=[48,49,50,51,52,53,54,55,56,57] from by decide +kernel]
 unfold jS
 rw [Bool.eq_iff_iff]
 simp only [List.mem_cons,List.not_mem_nil,or_false,decide_eq_true_eq,Bool.and_eq_true]
 omega
theorem Hs {t b:Str} (hb:b.cps.toList=cB t.cps.toList) (ne:cB t.cps.toList≠[]) (h60:(cB t.cps.toList).length<=60) (ha:(cB t.cps.toList).all jS=true):mT t.cps.toList=!(decide (t=Str.ofString "-0")||(decide (1 < b.length)&&decide (b.cps.toList.head?=some 48))):=by
 unfold mT
 rw [ha,decide_eq_true h60,show (!(cB t.cps.toList).isEmpty)=true from by simp [ne],Bool.true_and,Bool.true_and]
 congr 1
 have hl:b.length=(cB t.cps.toList).length:=by rw [str_len,hb]
 rw [hb,hl]
 have m0:(Str.ofString "-0").cps.toList=[45,48]:=by decide +kernel
 have e0:(t=Str.ofString "-0")↔t.cps.toList=[45,48]:=⟨fun z=>by rw [z,m0],fun z=>jm (by rw [z,m0])⟩
 have hd:decide (t=Str.ofString "-0")=decide (t.cps.toList=[45,48]):=decide_eq_decide.mpr e0
 rw [hd]
 clear hd hb e0 m0 hl ha h60
 generalize t.cps.toList=l at ne ⊢
 rw [Bool.eq_iff_iff]
 simp only [Bool.and_eq_true,decide_eq_true_eq,Bool.or_eq_true,ne_eq]
 rcases l with _ | ⟨c,l⟩
 . exact absurd rfl ne
 . by_cases hc:c=45
   . subst hc
     simp only [cB] at ne ⊢
     rcases l with _ | ⟨d,_ | ⟨e,l⟩⟩
     . exact absurd rfl ne
     . simp
     . simp
   . rw [mU (by simp [hc])]
     rcases l with _ | ⟨d,l⟩
     . simp [hc]
     . simp [hc]
theorem w5 (t:Str):Txt.startswith t (Str.ofString "-")=decide (t.cps.toList.head?=some 45):=by
 unfold Txt.startswith
 rw [StrLaws.subAt_eq,vp,show (Str.ofString "-").length=1 from by decide +kernel,str_len]
 cases e:t.cps.toList with
 | nil=>simp
 | cons c r=>
   simp
   rfl
section
variable {P:Program} {w:World} {K:PySem.W.Frag} {mg:Str->Option Value} {base:Heap}
def zw (K:PySem.W.Frag):Sp:=fun vs H Q _=>∃ t:Str,vs=[.str t]/\t.length<=1000000/\∀ H',Ext K H H'->Q (on (ao t)) H'
theorem kL:aE ["_law_word","_law_figures_here"] ["_law_word"] (af gx):=⟨rfl,rfl,rfl,by decide +kernel,rfl,by decide +kernel,by decide +kernel⟩
theorem uE {f:Addr} {fd:FuncData} (F:fM K "_law_whole" "_law_whole" gx f fd) {aG cF cR cN:Addr} {tE tF:Tok} (B:B K mg aG cF cR cN tE tF):bB P w K mg base fC 1 f fd ["_law_word"] (zw K):=by
 refine F.iM kL (fun vs H Q E h=>?_) (fun dg A outer s H vs Q E hr h=>?_)
 . obtain ⟨t,rfl,_⟩:=h
   rfl
 obtain ⟨t,rfl,ht,q⟩:=h
 refine ⟨_,(aq (sset (i:=1) kL.nd rfl (Or.inl rfl) (ev 0))
     (nF (d8 (Jq (lY PySem.F.plainAttrs_str PySem.F.slot_str_startswith PySem.F.type_str_startswith uw (ev 0) (aa bg aj)) (fun _=>rfl)) (aH (sset (i:=1) kL.nd rfl (Or.inl rfl) (bS fh (ev 0) (cz ei) dS))) bF)
     (aq (d8 (tw (lB (aV uS (aI gi rfl B.len bN (aa (ev 1) aj)) ei (au _)) (lB (aV qH (aI gi rfl B.len bN (aa (ev 1) aj)) ei (au _)) (je (aV (Aw (Nat.lt_of_le_of_lt (Nat.le_add_right _ 64) hr.units)) (ur (j5.mk (N:=["_law_sign_here"]) (src:=[none]) rfl rfl) rfl (L5 (ev 1)) (fun _ _ _ _=>(aM (i:=0) (show (["_law_sign_here"]:List Str).Nodup from by decide +kernel) rfl (Or.inl rfl))) (fun _ _ _ _=>(QM (aV qm (ev 0) bg (by with_unfolding_all rfl)))) (fun _ _ _ _=>(ev 0))) (cK aj) (au _)))))) (aH (aR bZ)) bF)
     (aq (d8 (tw (lB (aV bH (ev 0) bg (au _)) (je (tw (nX (aV qH (aI gi rfl B.len bN (aa (ev 1) aj)) ei (au _)) (jP (aV bH (dW mG (ev 1) ei (fun _ _=>rfl)) bg (au _)))))))) (aH (aR bZ)) bF)
     (aH (aR (cZ vo rfl B.int kI (aa (ev 0) aj)))))))),?_⟩
 try walk_at "rn"
 refine ⟨fun σ H'=>∃ b:Str,σ=[some (.str t),some (.str b)]/\H'=H/\b.cps.toList=cB t.cps.toList,?_,?_⟩
 . try walk_at "rn"
   rw [w5]
   refine ⟨_,rfl,?_⟩
   by_cases c:t.cps.toList.head?=some 45
   . refine aO (decide_eq_true c) ⟨by omega,?_⟩
     cases q':t.cps.toList with
     | nil=>rw [q'] at c;cases c
     | cons d r=>
       rw [q'] at c
       simp only [List.head?_cons,Option.some.injEq] at c
       subst c
       have:=lK (x:=t) (n:=1) (by rw [str_len,q'];simp)
       rw [q'] at this
       exact this
   . exact aF (by rw [decide_eq_false c];decide) (mU c).symm
 rintro σ H' ⟨b,rfl,rfl,hb⟩
 have hl:b.length=(cB t.cps.toList).length:=by rw [str_len,hb]
 have hle:=zf t.cps.toList
 have Mf:t.length=t.cps.toList.length:=by simp [Str.length]
 try walk_at "rn"
 unfold ao at q
 refine ⟨by omega,cQ (fun c=>?_) (fun c=>?_)⟩
 . have:=q H' Ext.refl
   have z:cB t.cps.toList=[]:=List.eq_nil_of_length_eq_zero (by omega)
   rw [if_neg (by unfold mT;rw [z];simp)] at this
   exact this
 refine ⟨by omega,cQ (fun d=>?_) (fun d=>?_)⟩
 . have:=q H' Ext.refl
   rw [if_neg (by unfold mT;rw [decide_eq_false (show ¬ (cB t.cps.toList).length<=60 by omega)];simp)] at this
   exact this
 have ne:cB t.cps.toList≠[]:=fun z=>by rw [z] at hl;simp at hl;omega
 intro D nD
 refine EI (p:=fun c=>!jS c) nD (by omega) (fun c hc H' R r=>?_) (fun c hc H' R r=>?_) (fun H1 hD x'=>?_)
 . try walk_at "rn"
   rw [EY]
   exact r
 . try walk_at "rn"
   exact r
 intro p np
 refine ⟨_,(Ext.new np).same.seq (bC.of hD),bC.of ah,?_⟩
 have xx:=x'.trans (Ext.new (K:=K) (o:=.lst []) np)
 have key:(!((b.cps.toList.filter fun c=>!jS c).map fun c=>V.str ⟨#[c]⟩).isEmpty)=!((cB t.cps.toList).all jS):=by
   rw [hb]
   congr 1
   rw [Bool.eq_iff_iff,List.isEmpty_iff,List.map_eq_nil_iff,List.filter_eq_nil_iff,List.all_eq_true]
   simp
 rw [key]
 cases ca1:(cB t.cps.toList).all jS with
 | false=>
   refine aO (by decide) ?_
   have:=q _ xx
   rw [if_neg (by unfold mT;rw [ca1];simp)] at this
   exact this
 | true=>
   refine aF (by decide) ?_
   have fl:=Hs hb ne (by omega) ca1
   have q':=q _ xx
   have fin:mT t.cps.toList=true->∃ x,intText? t=some x/\t.length<=640/\Q (V.int x) (upd H1 p (.lst [])):=fun hf=>by
     rw [if_pos hf] at q'
     exact ⟨_,BK hf,by have:=wB hf;omega,q'⟩
   have bad:mT t.cps.toList=false->Q .cY (upd H1 p (.lst [])):=fun hf=>by
     rw [if_neg (by rw [hf];decide)] at q'
     exact q'
   by_cases c0:t=Str.ofString "-0"
   . exact aO c0 (bad (by rw [fl,decide_eq_true c0];rfl))
   refine aF c0 ⟨by omega,?_⟩
   by_cases c1:1 < b.length
   . refine aO (by omega) ⟨by omega,?_⟩
     cases e:b.cps.toList with
     | nil=>rw [hb] at e;exact absurd e ne
     | cons d r=>
       refine ⟨d,nH,?_⟩
       by_cases hc:d=48
       . refine aO (rV.mpr hc) (bad ?_)
         rw [fl,decide_eq_true c1,e,hc]
         simp
       . refine aF (fun z=>hc (rV.mp z)) (fin ?_)
         rw [fl,decide_eq_false c0,e]
         simp [hc]
   . refine aF (by omega) (fin ?_)
     rw [fl,decide_eq_false c0,decide_eq_false c1]
     rfl
def cnt (t:Str):Option Int:=match ao t with
 | some i=>if 0<=i then some i else none
 | none=>none
theorem Kf {u:Str} {i:Int} (h:cnt u=some i):ao u=some i/\0<=i:=by
 unfold cnt at h
 cases h':ao u with
 | none=>rw [h'] at h;cases h
 | some j=>
   rw [h'] at h
   by_cases c:0<=j
   . simp only [if_pos c,Option.some.injEq] at h
     subst h
     exact ⟨rfl,c⟩
   . simp only [if_neg c] at h
     cases h
theorem w6 {u:Str} {i:Int} (h:ao u=some i) (c:0<=i):cnt u=some i:=by
 unfold cnt
 rw [h]
 simp [c]
def vB (K:PySem.W.Frag):Sp:=fun vs H Q _=>∃ t:Str,vs=[.str t]/\t.length<=1000000/\∀ H',Ext K H H'->Q (on (cnt t)) H'
theorem nL:aE ["_law_word","_law_found"] ["_law_word"] (af gy):=⟨rfl,rfl,rfl,by decide +kernel,rfl,by decide +kernel,by decide +kernel⟩
theorem uF {f:Addr} {fd:FuncData} (F:fM K "_law_count" "_law_count" gy f fd) {aG cF cR cN:Addr} {tE tF:Tok} (B:B K mg aG cF cR cN tE tF) (bx:Callee P w K mg base "_law_whole" 1 ["_law_word"] (zw K)):bB P w K mg base fC 2 f fd ["_law_word"] (vB K):=by
 refine F.iM nL (fun vs H Q E h=>?_) (fun dg A outer s H vs Q E hr h=>?_)
 . obtain ⟨t,rfl,_⟩:=h
   rfl
 obtain ⟨t,rfl,ht,q⟩:=h
 refine ⟨_,(aq (sset (i:=1) nL.nd rfl (Or.inl rfl) (ay bx (hr.mono (by decide)) rfl (aa (ev 0) aj)))
     (aq (d8 (tw (lB (aV dh (ev 1) bZ (au _)) (je (aV uS (ev 1) ei (au _))))) (aH (aR bZ)) bF)
     (aH (aR (ev 1))))),?_⟩
 try walk_at "rn"
 refine ⟨t,rfl,ht,fun H1 x1=>?_⟩
 have q1:=q H1 x1
 unfold cnt at q1
 cases e:ao t with
 | none=>
   rw [e] at q1
   exact aO rfl q1
 | some i=>
   rw [e] at q1
   refine aF (by simp [on]) ⟨i,rfl,cQ (fun c=>?_) (fun c=>?_)⟩
   . simp only [if_neg (show ¬ 0<=i by omega)] at q1
     exact q1
   . simp only [if_pos (show 0<=i by omega)] at q1
     exact q1
end
def BV (g:Nat):List (List Nat)->List Nat
 | []=>[]
 | [p]=>p
 | p::q::r=>p++g::BV g (q::r)
def AN:List Nat:=[59,44,46,32,58,61]
def Ht (t t':List Nat):Prop:=
 t'=t∨(∃ i c,t'=t.take i++c::t.drop (i + 1))∨(∃ i c,t'=t.take i++c::t.drop i)∨(∃ i,t'=t.take i++t.drop (i + 1))∨
 (∃ i,t'=t.take i++((t.drop (i + 1)).take 1++((t.drop i).take 1++t.drop (i + 2))))∨(∃ i n,t'=t.take i++(List.replicate n 55++t.drop i))
def Mg (t t':List Nat):Prop:=
 (∃ i,t'=t.take i)∨(∃ g∈AN,∃ ps qs:List (List Nat),t=BV g ps/\(∀ p∈ps,g∉p)/\(∀ q∈qs,q∈ps)/\t'=BV g qs)
section
variable {P:Program} {w:World} {K:PySem.W.Frag} {mg:Str->Option Value} {base:Heap}
def tV (K:PySem.W.Frag):Sp:=fun vs H Q _=>∃ t:Str,vs=[.str t]/\t.length<=1000000/\∀ D ps H',new K H D->Ext K H H'->H' D=some (.lst (List.map V.int ps))->ps.length<=t.length->(∀ p∈ps,0<=p/\p < t.length)->Q (.ref D) H'
theorem dJ:aE ["_law_text","_law_found","_law_ahead","_law_k","_law_sign_here","_law_here"] ["_law_text"] (af fK):=⟨rfl,rfl,rfl,by decide +kernel,rfl,by decide +kernel,by decide +kernel⟩
theorem tW {f:Addr} {fd:FuncData} (F:fM K "_law_starts" "_law_starts" fK f fd) {aG cF cR cN:Addr} {tE tF:Tok} (B:B K mg aG cF cR cN tE tF):bB P w K mg base fC 1 f fd ["_law_text"] (tV K):=by
 refine F.iM dJ (fun vs H Q E h=>?_) (fun dg A outer s H vs Q E hr h=>?_)
 . obtain ⟨t,rfl,_⟩:=h
   rfl
 obtain ⟨t,rfl,ht,q⟩:=h
 refine ⟨_,(aq (sset (i:=1) dJ.nd rfl (Or.inl rfl) (cK aj))
     (aq (sset (i:=2) dJ.nd rfl (Or.inl rfl) yi)
     (aq (vW PassesOwn.never rfl (JL rfl B.enumerate (aa (ev 0) aj)) (jQ (n:=2) rfl (bf (aM (i:=3) dJ.nd rfl (Or.inl rfl)) (bf (aM (i:=4) dJ.nd rfl (Or.inl rfl)) jA)))
       (aq (sset (i:=5) dJ.nd rfl (Or.inl rfl) (jq JJ (ev 4) bg (by with_unfolding_all rfl)))
     (nF (d8 (tw (nX (gK (ev 5)) (jP (jZ (gK (ev 2)))))) (aH (mQ (lY PySem.F.plainAttrs_list PySem.F.slot_list_append PySem.F.type_list_append d7 (ev 1) (aa (ev 3) aj)))) bF)
     (aH (sset (i:=2) dJ.nd rfl (Or.inl rfl) (ev 5))))))
     (aH (aR (ev 1)))))),?_⟩
 try walk_at "rn"
 intro D nD
 have Mf:t.length=t.cps.toList.length:=by simp [Str.length]
 refine AB (fun i σ H'=>∃ (ps:List Int) (b:Bool) (v3 v4 v5:Option V),σ=[some (.str t),some (.ref D),some (.bl b),v3,v4,v5]/\H' D=some (.lst (ps.map V.int))/\Kp K D (upd H D (.lst [])) H'/\ps.length<=i/\∀ p∈ps,0<=p/\p < i) ⟨[],_,_,_,_,rfl,ah,Kp.refl,by simp,by simp⟩ ?_ ?_
 . rintro i c σ H' T hc ⟨ps,b,v3,v4,v5,rfl,hD,k,hl,hb⟩ nT
   have hi:i < t.cps.toList.length:=(List.getElem?_eq_some_iff.mp hc).1
   have yT:=Ext.new (K:=K) (o:=.tup [V.int i,V.str ⟨#[c]⟩]) nT
   try walk_at "rn"
   generalize Txt.contains (Str.ofString "0123456789") ⟨#[c]⟩=h
   have uD:=yT.at hD
   have kT:=k.trans yT.kp
   generalize upd H' T (.tup [V.int i,V.str ⟨#[c]⟩])=G at uD kT ⊢
   refine ⟨fun σ G'=>∃ ps:List Int,σ=[some (.str t),some (.ref D),some (.bl b),some (.int i),some (.str ⟨#[c]⟩),some (.bl h)]/\G' D=some (.lst (ps.map V.int))/\Kp K D (upd H D (.lst [])) G'/\ps.length<=i + 1/\∀ p∈ps,0<=p/\p < ((i + 1:Nat):Int),?_,?_⟩
   . try walk_at "rn"
     have nQ:∃ ps_1,G D=some (HO.lst (List.map V.int ps_1))/\Kp K D (upd H D (.lst [])) G/\ps_1.length<=i + 1/\∀ p∈ps_1,0<=p/\p < ((i + 1:Nat):Int):=⟨ps,uD,kT,by omega,fun p hp=>by have:=hb p hp;omega⟩
     refine cQ (fun c1=>cQ (fun c2=>?_) (fun c2=>nQ)) (fun c1=>nQ)
     refine ⟨.inl ⟨_,bC.of uD⟩,_,uD,by rw [List.length_map];omega,ps++[(i:Int)],by rw [List.map_append];rfl,kT.trans (Kp.upd uD),by rw [List.length_append];simp;omega,fun p hp=>?_⟩
     rcases List.mem_append.mp hp with hp | hp
     . have:=hb p hp;omega
     . have:=List.mem_singleton.mp hp;omega
   . rintro σ G' ⟨Rb,rfl,h1,h2,h3,h4⟩
     try walk_at "rn"
     exact ⟨Rb,h1,h2,h3,h4⟩
 . rintro σ H' ⟨ps,b,v3,v4,v5,rfl,hD,k,hl,hb⟩
   try walk_at "rn"
   exact q D ps _ nD (k.ext nD) hD (by omega) (fun p hp=>by have:=hb p hp;omega)
def AO (K:PySem.W.Frag):Sp:=fun vs H Q _=>∃ p,vs=[.ref p]/\Wl H p/\∀ (c:Nat) (H':Hp),Wl H' p->Kp K p H H'->Q (.str ⟨#[c]⟩) H'
theorem jF:aE ["_law_state","_law_signs"] ["_law_state"] (af iG):=⟨rfl,rfl,rfl,by decide +kernel,rfl,by decide +kernel,by decide +kernel⟩
theorem w9 {f:Addr} {fd:FuncData} (F:fM K "_law_sign" "_law_sign" iG f fd) {aG cF cR cN:Addr} {tE tF:Tok} (B:B K mg aG cF cR cN tE tF) (ai:Callee P w K mg base "_law_digit" 1 ["_law_state","_law_base"] (fj K)):bB P w K mg base fC 2 f fd ["_law_state"] (AO K):=by
 refine F.iM jF (fun vs H Q E h=>?_) (fun dg A outer s H vs Q E hr h=>?_)
 . obtain ⟨p,rfl,_⟩:=h
   rfl
 obtain ⟨p,rfl,hp,q⟩:=h
 refine ⟨_,(aq (sset (i:=1) jF.nd rfl (Or.inl rfl) bg)
     (nF (d8 (aV bH (ay ai (hr.mono (by decide)) rfl (aa (ev 0) (aa ei aj))) ei (au _)) (aq (sset (i:=1) jF.nd rfl (Or.inl rfl) bg)
     (aH (sset (i:=1) jF.nd rfl (Or.inl rfl) (dB aT (ev 1) bg)))) bF)
     (aH (aR (dW mG (ev 1) (ay ai (hr.mono (by decide)) rfl (aa (ev 0) (aa (aI gi rfl B.len bN (aa (ev 1) aj)) aj))) (fun _ _=>rfl)))))),?_⟩
 try walk_at "rn"
 refine ⟨fun σ H'=>∃ z:Str,σ=[some (.ref p),some (.str z)]/\(0 < z.length/\z.length<=1000)/\Wl H' p/\Kp K p H H',?_,?_⟩
 . try walk_at "rn"
   refine ⟨p,2,rfl,hp,by decide,by decide,fun d H1 d0 d1 lU k1=>⟨rfl,cQ (fun c=>?_) (fun c=>?_)⟩⟩
   . exact ⟨by decide +kernel,by decide +kernel,by decide +kernel,lU,k1⟩
   . exact ⟨by decide +kernel,by decide +kernel,lU,k1⟩
 rintro σ H1 ⟨z,rfl,⟨z0,z1⟩,lU,k1⟩
 try walk_at "rn"
 refine ⟨by omega,p,(z.length:Int),rfl,lU,by omega,by omega,fun r H2 r0 r1 jz k2=>⟨_,rfl,by omega,?_⟩⟩
 obtain ⟨c,ec,_⟩:=mP (xs:=z.cps.toList) r0 (by rw [str_len] at r1;exact r1)
 exact ⟨c,ec,q c _ jz (k1.trans k2)⟩
def SL (ps:List Str):Nat:=(ps.map fun p=>p.length + 1).sum
theorem ow (ps qs:List Str):SL (ps++qs)=SL ps + SL qs:=by unfold SL;rw [List.map_append,List.sum_append]
theorem BW (ps:List Str) (k:Nat):SL (ps.take k) + SL (ps.drop k)=SL ps:=by rw [<- ow,List.take_append_drop]
theorem zx (ps:List Str) (k:Nat):SL (ps.take k)<=SL ps:=by have:=BW ps k;omega
theorem zy (ps:List Str) (k:Nat):SL (ps.drop k)<=SL ps:=by have:=BW ps k;omega
theorem C1 {g:Str} (hg:g.length=1) (ps:List Str):oi g ps=SL ps:=by
 have key:∀ (ps:List Str) (a:Nat),ps.foldl (fun n x=>n + x.length + g.length) a=a + SL ps:=by
   intro ps
   induction ps with
   | nil=>intro a;simp [SL]
   | cons p r ih=>
     intro a
     rw [List.foldl_cons,ih,hg]
     simp only [SL,List.map_cons,List.sum_cons]
     omega
 have:=key ps 0
 unfold oi
 omega
theorem xg {c:Nat}:∀ (ps:List Str),(Str.join ⟨#[c]⟩ ps).length<=SL ps/\(ps≠[]->SL ps=(Str.join ⟨#[c]⟩ ps).length + 1)
 | []=>⟨by simp [Str.join,Str.empty,Str.length,SL],fun h=>absurd rfl h⟩
 | [x]=>by
   have:(Str.join ⟨#[c]⟩ [x]).length=x.length:=rfl
   simp [SL,this]
 | x::y::r=>by
   obtain ⟨h1,h2⟩:=xg (c:=c) (y::r)
   have h2:=h2 (by simp)
   have e:(Str.join ⟨#[c]⟩ (x::y::r)).length=x.length + 1 + (Str.join ⟨#[c]⟩ (y::r)).length:=by
     show (x++⟨#[c]⟩++Str.join ⟨#[c]⟩ (y::r)).length=_
     rw [Str.length_append,Str.length_append]
     rfl
   have e2:SL (x::y::r)=x.length + 1 + SL (y::r):=by simp [SL]
   rw [e,e2]
   exact ⟨by omega,fun _=>by omega⟩
theorem oz {g:Nat}:∀ (ps:List Str),(Str.join ⟨#[g]⟩ ps).cps.toList=BV g (ps.map fun p=>p.cps.toList)
 | []=>rfl
 | [x]=>rfl
 | x::y::r=>by rw [ER,oz (y::r)];rfl
def Op (t t':Str):Prop:=Ht t.cps.toList t'.cps.toList∨Mg t.cps.toList t'.cps.toList
theorem EZ {t:Str} {g:Nat} (hg:g∈AN) {qs:List Str} (hq:∀ q∈qs,q∈Txt.split t ⟨#[g]⟩):Op t (Str.join ⟨#[g]⟩ qs):=by
 refine .inr (.inr ⟨g,hg,(Txt.split t ⟨#[g]⟩).map (fun p=>p.cps.toList),qs.map (fun p=>p.cps.toList),?_,?_,?_,oz qs⟩)
 . rw [<- oz,StrLaws.join_split]
 . intro p hp
   obtain ⟨q,h,rfl⟩:=List.mem_map.mp hp
   exact StrLaws.split_free _ _ q h
 . intro p hp
   obtain ⟨q,h,rfl⟩:=List.mem_map.mp hp
   exact List.mem_map.mpr ⟨q,hq q h,rfl⟩
theorem cut_str (ps:List Str) (lo hi:Option Int):∃ qs:List Str,iK (ps.map V.str) lo hi=qs.map V.str/\(∀ q∈qs,q∈ps)/\SL qs<=SL ps:=by
 refine ⟨_,by unfold iK;rw [<- List.map_drop,<- List.map_take],fun q h=>List.mem_of_mem_drop (List.mem_of_mem_take h),Nat.le_trans (zx _ _) (zy _ _)⟩
theorem nv (ps:List Str) (lo hi:Option Int):(iK (ps.map V.str) lo hi).length<=ps.length:=by
 have:=j3 (ps.map V.str) lo hi
 rwa [List.length_map] at this
def AQ (K:PySem.W.Frag):Sp:=fun vs H Q _=>∃ p t m,vs=[.ref p,.str t,.int m]/\Wl H p/\t.length<=200000/\∀ (t':Str) (H':Hp),Op t t'->t'.length<=4 * t.length + 6000->Wl H' p->Kp K p H H'->Q (.str t') H'
theorem sign_of {r:Int} (r0:0<=r) (r1:r < 6):∃ g∈AN,pU [V.str (Str.ofString ";"),V.str (Str.ofString ","),V.str (Str.ofString "."),V.str (Str.ofString " "),V.str (Str.ofString ":"),V.str (Str.ofString "=")] r=some (.str ⟨#[g]⟩):=by
 obtain ⟨v,ev,mv⟩:=mP (xs:=[V.str (Str.ofString ";"),V.str (Str.ofString ","),V.str (Str.ofString "."),V.str (Str.ofString " "),V.str (Str.ofString ":"),V.str (Str.ofString "=")]) r0 r1
 have e:∀ (x:Str) (g:Nat),x.cps.toList=[g]->x=⟨#[g]⟩:=fun x g h=>jm h
 simp only [List.mem_cons,List.not_mem_nil,or_false] at mv
 rcases mv with rfl | rfl | rfl | rfl | rfl | rfl
 . exact ⟨59,by decide,by rw [ev,e (Str.ofString ";") 59 (by decide +kernel)]⟩
 . exact ⟨44,by decide,by rw [ev,e (Str.ofString ",") 44 (by decide +kernel)]⟩
 . exact ⟨46,by decide,by rw [ev,e (Str.ofString ".") 46 (by decide +kernel)]⟩
 . exact ⟨32,by decide,by rw [ev,e (Str.ofString " ") 32 (by decide +kernel)]⟩
 . exact ⟨58,by decide,by rw [ev,e (Str.ofString ":") 58 (by decide +kernel)]⟩
 . exact ⟨61,by decide,by rw [ev,e (Str.ofString "=") 61 (by decide +kernel)]⟩
theorem cV:aE ["_law_state","_law_text","_law_way","_law_sign_here","_law_parts","_law_k","_law_turned"] ["_law_state","_law_text","_law_way"] (af bA):=⟨rfl,rfl,rfl,by decide +kernel,rfl,by decide +kernel,by decide +kernel⟩
theorem mZ {f:Addr} {fd:FuncData} (F:fM K "_law_parts_turned" "_law_parts_turned" bA f fd) {aG cF cR cN:Addr} {tE tF:Tok} (B:B K mg aG cF cR cN tE tF) (ai:Callee P w K mg base "_law_digit" 1 ["_law_state","_law_base"] (fj K)):bB P w K mg base fC 2 f fd ["_law_state","_law_text","_law_way"] (AQ K):=by
 refine F.iM cV (fun vs H Q E h=>?_) (fun dg A outer s H vs Q E hr h=>?_)
 . obtain ⟨p,t,m,rfl,_⟩:=h
   rfl
 obtain ⟨p,t,m,rfl,hp,ht,q⟩:=h
 refine bq (rest:=(ak bA).drop 6) (aH (aR (lY PySem.F.plainAttrs_str PySem.F.slot_str_join PySem.F.type_str_join lI (ev 3) (aa (dB jl (dB jl (bS dI (ev 4) dS (cz (ev 5))) (ev 6)) (bS dI (ev 4) (cz (dB cu (ev 5) ei)) dS)) aj)))) fun r6 J6 e6=>?_
 refine bq (rest:=(ak bA).drop 5) (aq (sset (i:=6) cV.nd rfl (Or.inl rfl) (dB jl (bS dI (ev 4) (cz (dB cu (ev 5) ei)) (cz (dB cu (ev 5) ei))) (bS dI (ev 4) (cz (ev 5)) (cz (dB cu (ev 5) ei)))))
     J6) fun r5 J5 e5=>?_
 refine bq (rest:=(ak bA).drop 4) (aq (d8 (aV bH (ev 2) ei (au _)) (aH (aR (lY PySem.F.plainAttrs_str PySem.F.slot_str_join PySem.F.type_str_join lI (ev 3) (aa (dB jl (bS dI (ev 4) dS (cz (ev 5))) (bS dI (ev 4) (cz (dB cu (ev 5) ei)) dS)) aj)))) bF)
     J5) fun r4 J4 e4=>?_
 refine bq (rest:=(ak bA).drop 3) (aq (d8 (aV bH (ev 2) ei (au _)) (aH (aR (lY PySem.F.plainAttrs_str PySem.F.slot_str_join PySem.F.type_str_join lI (ev 3) (aa (dB jl (dB jl (bS dI (ev 4) dS (cz (ev 5))) (bS dI (ev 4) (cz (ev 5)) (cz (dB cu (ev 5) ei)))) (bS dI (ev 4) (cz (ev 5)) dS)) aj)))) bF)
     J4) fun r3 J3 e3=>?_
 refine ⟨_,(aq (sset (i:=3) cV.nd rfl (Or.inl rfl) (dW bI (cK (aa bg (aa bg (aa bg (aa bg (aa bg (aa bg aj))))))) (ay ai (hr.mono (by decide)) rfl (aa (ev 0) (aa ei aj))) (fun _ _=>rfl)))
     (aq (sset (i:=4) cV.nd rfl (Or.inl rfl) (lY PySem.F.plainAttrs_str PySem.F.slot_str_split PySem.F.type_str_split fU (ev 1) (aa (ev 3) aj)))
     (aq (sset (i:=5) cV.nd rfl (Or.inl rfl) (ay ai (hr.mono (by decide)) rfl (aa (ev 0) (aa (aI bE rfl B.len bN (aa (ev 4) aj)) aj))))
     J3))),?_⟩
 try walk_at "rn"
 intro b1 n1
 have y1:=Ext.new (K:=K) (o:=.lst [V.str (Str.ofString ";"),V.str (Str.ofString ","),V.str (Str.ofString "."),V.str (Str.ofString " "),V.str (Str.ofString ":"),V.str (Str.ofString "=")]) n1
 refine ⟨p,6,rfl,hp.ext y1,by decide,by decide,fun r H1 r0 r1 lU k1=>⟨_,rfl,_,aX (k1.keep b1 _ ah (hp.ne n1)),?_⟩⟩
 obtain ⟨g,hg,eg⟩:=sign_of r0 r1
 obtain ⟨s1,s2⟩:=cG t g
 have Mh:=tM t g
 obtain ⟨_,sj⟩:=xg (c:=g) (Txt.split t ⟨#[g]⟩)
 have sj:=sj Mh
 rw [StrLaws.join_split] at sj
 refine ⟨_,eg,?_⟩
 try walk_at "rn"
 refine ⟨rfl,by omega,by omega,fun D nD=>?_⟩
 have yD:=Ext.new (K:=K) (o:=.lst (List.map V.str (Txt.split t ⟨#[g]⟩))) nD
 have GS:0 < (Txt.split t ⟨#[g]⟩).length:=List.length_pos_iff.mpr Mh
 refine ⟨p,_,rfl,lU.ext yD,by rw [List.length_map];omega,by rw [List.length_map];omega,fun k H2 k0 k2 jz kk=>?_⟩
 have hD:H2 D=some (.lst (List.map V.str (Txt.split t ⟨#[g]⟩))):=kk.keep D _ ah (lU.ne nD)
 have kA:=(y1.kp (p:=p)).trans (k1.trans ((yD.kp (p:=p)).trans kk))
 generalize eP:Txt.split t ⟨#[g]⟩=ps at *
 have fin:∀ (qs:List Str) (H':Hp),(∀ q∈qs,q∈ps)->SL qs<=4 * SL ps->Ext K H2 H'->oi ⟨#[g]⟩ qs<=16777216/\(Str.join ⟨#[g]⟩ qs).length<=16777216/\Q (.str (Str.join ⟨#[g]⟩ qs)) H':=by
   intro qs H' hq hs x
   obtain ⟨j1,_⟩:=xg (c:=g) qs
   have:=C1 (g:=⟨#[g]⟩) rfl qs
   exact ⟨by omega,by omega,q _ _ (EZ hg (by rw [eP];exact hq)) (by omega) (jz.ext x) (kA.trans x.kp)⟩
 rw [e3]
 try walk_at "rn"
 obtain ⟨qa,ea,ma,sa⟩:=cut_str ps none (some k)
 obtain ⟨qb,eb,mb,sb⟩:=cut_str ps (some k) (some (k + 1))
 have la:=nv ps none (some k)
 have lb:=nv ps (some k) (some (k + 1))
 refine cQ (fun c=>?_) (fun c=>?_)
 . obtain ⟨qc,ec,mc,sc⟩:=cut_str ps (some k) none
   have lc:=nv ps (some k) none
   rw [ea] at la
   rw [eb] at lb
   rw [ec] at lc
   refine ⟨_,bC.of hD,fun a1 z1=>?_⟩
   rw [ea]
   have x1:=Ext.new (K:=K) (o:=.lst (qa.map V.str)) z1
   refine ⟨_,bC.of (x1.at hD),fun a2 z2=>?_⟩
   rw [eb]
   have x2:=Ext.new (K:=K) (o:=.lst (qb.map V.str)) z2
   refine ⟨_,x2.at ah,by omega,fun a3 z3=>?_⟩
   have x3:=Ext.new (K:=K) (o:=.lst (qa.map V.str++qb.map V.str)) z3
   refine ⟨_,bC.of ((x1.trans (x2.trans x3)).at hD),fun a4 z4=>?_⟩
   rw [ec]
   have x4:=Ext.new (K:=K) (o:=.lst (qc.map V.str)) z4
   refine ⟨_,x4.at ah,by rw [List.length_append];omega,fun a5 z5=>?_⟩
   have x5:=Ext.new (K:=K) (o:=.lst (qa.map V.str++qb.map V.str++qc.map V.str)) z5
   refine ⟨qa++qb++qc,bC.of (by rw [ah,List.map_append,List.map_append]),fin _ _ ?_ ?_ (x1.trans (x2.trans (x3.trans (x4.trans x5))))⟩
   . intro z hz
     rcases List.mem_append.mp hz with hz | hz
     . rcases List.mem_append.mp hz with hz | hz
       . exact ma z hz
       . exact mb z hz
     . exact mc z hz
   . rw [ow,ow];omega
 rw [e4]
 try walk_at "rn"
 obtain ⟨qc,ec,mc,sc⟩:=cut_str ps (some (k + 1)) none
 have lc:=nv ps (some (k + 1)) none
 refine cQ (fun c=>?_) (fun c=>?_)
 . rw [ea] at la
   rw [ec] at lc
   refine ⟨_,bC.of hD,fun a1 z1=>?_⟩
   rw [ea]
   have x1:=Ext.new (K:=K) (o:=.lst (qa.map V.str)) z1
   refine ⟨_,bC.of (x1.at hD),fun a2 z2=>?_⟩
   rw [ec]
   have x2:=Ext.new (K:=K) (o:=.lst (qc.map V.str)) z2
   refine ⟨_,x2.at ah,by omega,fun a3 z3=>?_⟩
   have x3:=Ext.new (K:=K) (o:=.lst (qa.map V.str++qc.map V.str)) z3
   refine ⟨qa++qc,bC.of (by rw [ah,List.map_append]),fin _ _ ?_ ?_ (x1.trans (x2.trans x3))⟩
   . intro z hz
     rcases List.mem_append.mp hz with hz | hz
     . exact ma z hz
     . exact mc z hz
   . rw [ow];omega
 rw [e5]
 try walk_at "rn"
 obtain ⟨qd,ed,md,sd⟩:=cut_str ps (some (k + 1)) (some (k + 2))
 obtain ⟨qe,ee,me,se⟩:=cut_str ps (some (k + 2)) none
 have ld:=nv ps (some (k + 1)) (some (k + 2))
 have le:=nv ps (some (k + 2)) none
 rw [ea] at la
 rw [eb] at lb
 rw [ed] at ld
 rw [ee] at le
 refine ⟨_,bC.of hD,fun a1 z1=>?_⟩
 rw [ed]
 have x1:=Ext.new (K:=K) (o:=.lst (qd.map V.str)) z1
 refine ⟨_,bC.of (x1.at hD),fun a2 z2=>?_⟩
 rw [eb]
 have x2:=Ext.new (K:=K) (o:=.lst (qb.map V.str)) z2
 refine ⟨_,x2.at ah,by omega,fun a3 z3=>?_⟩
 have x3:=Ext.new (K:=K) (o:=.lst (qd.map V.str++qb.map V.str)) z3
 have h3:upd (upd (upd H2 a1 (.lst (qd.map V.str))) a2 (.lst (qb.map V.str))) a3 (.lst (qd.map V.str++qb.map V.str)) a3=some (.lst (qd.map V.str++qb.map V.str)):=ah
 have Hq:=x1.trans (x2.trans x3)
 generalize upd (upd (upd H2 a1 (.lst (qd.map V.str))) a2 (.lst (qb.map V.str))) a3 (.lst (qd.map V.str++qb.map V.str))=H3 at h3 Hq ⊢
 rw [e6]
 try walk_at "rn"
 refine ⟨_,bC.of (Hq.at hD),fun a4 z4=>?_⟩
 rw [ea]
 have x4:=Ext.new (K:=K) (o:=.lst (qa.map V.str)) z4
 refine ⟨_,x4.at h3,by rw [List.length_append];omega,fun a5 z5=>?_⟩
 have x5:=Ext.new (K:=K) (o:=.lst (qa.map V.str++(qd.map V.str++qb.map V.str))) z5
 refine ⟨_,bC.of ((Hq.trans (x4.trans x5)).at hD),fun a6 z6=>?_⟩
 rw [ee]
 have x6:=Ext.new (K:=K) (o:=.lst (qe.map V.str)) z6
 refine ⟨_,x6.at ah,by rw [List.length_append,List.length_append];omega,fun a7 z7=>?_⟩
 have x7:=Ext.new (K:=K) (o:=.lst (qa.map V.str++(qd.map V.str++qb.map V.str)++qe.map V.str)) z7
 refine ⟨qa++(qd++qb)++qe,bC.of (by rw [ah,List.map_append,List.map_append,List.map_append]),fin _ _ ?_ ?_ (Hq.trans (x4.trans (x5.trans (x6.trans x7))))⟩
 . intro z hz
   rcases List.mem_append.mp hz with hz | hz
   . rcases List.mem_append.mp hz with hz | hz
     . exact ma z hz
     . rcases List.mem_append.mp hz with hz | hz
       . exact md z hz
       . exact mb z hz
   . exact me z hz
 . rw [ow,ow,ow];omega
end
theorem BX {x:Str} {u:Option Int} {i:Nat}:Txt.slice x (some (i:Int)) u=Txt.slice x (some ((min i x.length:Nat):Int)) u:=by
 have e:Builtin.Str.strSliceIndices (some (i:Int)) u 1 x.length=Builtin.Str.strSliceIndices (some ((min i x.length:Nat):Int)) u 1 x.length:=by
   unfold Builtin.Str.strSliceIndices
   simp only [show (1:Int) > 0 by decide,if_true]
   congr 1
   split <;> split <;> omega
 unfold Txt.slice
 rw [e]
theorem BY {x:Str} {l:Option Int} {i:Nat}:Txt.slice x l (some (i:Int))=Txt.slice x l (some ((min i x.length:Nat):Int)):=by
 have e:Builtin.Str.strSliceIndices l (some (i:Int)) 1 x.length=Builtin.Str.strSliceIndices l (some ((min i x.length:Nat):Int)) 1 x.length:=by
   unfold Builtin.Str.strSliceIndices
   simp only [show (1:Int) > 0 by decide,if_true]
   congr 1
   split <;> split <;> omega
 unfold Txt.slice
 rw [e]
theorem E2 (x:Str) (n:Nat):(Txt.slice x none (some (n:Int))).cps.toList=x.cps.toList.take n:=by
 rw [BY,Ez (Nat.min_le_right _ _),str_len]
 by_cases h:n<=x.cps.toList.length
 . rw [Nat.min_eq_left h]
 . rw [Nat.min_eq_right (by omega),List.take_of_length_le (Nat.le_refl _),List.take_of_length_le (by omega)]
theorem pJ (x:Str) (n:Nat):(Txt.slice x (some (n:Int)) none).cps.toList=x.cps.toList.drop n:=by
 rw [BX,lK (Nat.min_le_right _ _),str_len]
 by_cases h:n<=x.cps.toList.length
 . rw [Nat.min_eq_left h]
 . rw [Nat.min_eq_right (by omega),List.drop_of_length_le (Nat.le_refl _),List.drop_of_length_le (by omega)]
theorem E3 (x:Str) (n:Nat):(Txt.slice x (some (n:Int)) (some ((n + 1:Nat):Int))).cps.toList=(x.cps.toList.drop n).take 1:=by
 rw [BX,BY]
 have e:∀ a b:Nat,Txt.slice x (some (a:Int)) (some (b:Int))=StrLaws.sliceText x (some (a:Int)) (some (b:Int)):=fun _ _=>rfl
 rw [e,StrLaws.sliceText_nat x (by omega) (Nat.min_le_right _ _)]
 show (x.cps.toList.drop _).take _=_
 rw [str_len]
 by_cases h:n + 1<=x.cps.toList.length
 . rw [Nat.min_eq_left h,Nat.min_eq_left (by omega)]
   congr 1
   omega
 . rw [Nat.min_eq_right (by omega),Nat.min_eq_right (by omega),List.drop_of_length_le (Nat.le_refl _),List.drop_of_length_le (by omega)]
   simp
theorem Kg {x:Str} {n:Int} (hx:x.length=1) (h0:1<=n) (h:n<=5000):MulOk x n:=by
 refine ⟨?_,fun _ _=>?_,fun _ _=>PyProof.Rows.short24 ?_⟩
 . simp only [Bool.or_eq_false_iff,decide_eq_false_iff_not]
   omega
 . have:1<=(2 ^ 63 - 1:Int) / n:=Int.le_ediv_of_mul_le (by omega) (by omega)
   omega
 . rw [hx]
   omega
theorem BZ {c:Nat} {n:Int} (h:1<=n):(Txt.mul ⟨#[c]⟩ n).cps.toList=List.replicate n.toNat c:=by
 have key:∀ (k:Nat) (a:Array Nat),((List.replicate k #[c]).foldl (·++·) a).toList=a.toList++List.replicate k c:=by
   intro k
   induction k with
   | zero=>intro a;simp
   | succ k ih=>intro a;rw [List.replicate_succ,List.foldl_cons,ih,List.replicate_succ];simp
 unfold Txt.mul
 rw [if_neg (by omega)]
 by_cases e:n=1
 . subst e;rfl
 . rw [if_neg (by
     rw [Bool.or_eq_true,beq_iff_eq]
     rintro (h | h)
     . exact e h
     . cases h)]
   exact (key n.toNat #[]).trans (by simp)
section
variable {P:Program} {w:World} {K:PySem.W.Frag} {mg:Str->Option Value} {base:Heap}
def qy (K:PySem.W.Frag):Sp:=fun vs H Q _=>∃ p t,vs=[.ref p,.str t]/\Wl H p/\t.length<=200000/\∀ (t':Str) (H':Hp),Op t t'->t'.length<=4 * t.length + 6000->Wl H' p->Kp K p H H'->Q (.str t') H'
theorem Hu {r:Int} (r0:0<=r) (r1:r < 6):∃ n:Int,0<=n/\n<=5000/\pU [V.int 0,V.int 1,V.int 58,V.int 59,V.int 60,V.int 5000] r=some (.int n):=by
 obtain ⟨v,ev,mv⟩:=mP (xs:=[V.int 0,V.int 1,V.int 58,V.int 59,V.int 60,V.int 5000]) r0 r1
 simp only [List.mem_cons,List.not_mem_nil,or_false] at mv
 rcases mv with rfl | rfl | rfl | rfl | rfl | rfl <;> exact ⟨_,by decide,by decide,ev⟩
theorem fE:aE ["_law_state","_law_text","_law_starts_here","_law_many","_law_sign_here","_law_at"] ["_law_state","_law_text"] (af bW):=⟨rfl,rfl,rfl,by decide +kernel,rfl,by decide +kernel,by decide +kernel⟩
theorem qZ {f:Addr} {fd:FuncData} (F:fM K "_law_figures" "_law_figures" bW f fd) {aG cF cR cN:Addr} {tE tF:Tok} (B:B K mg aG cF cR cN tE tF) (ai:Callee P w K mg base "_law_digit" 1 ["_law_state","_law_base"] (fj K)) (jn:Callee P w K mg base "_law_starts" 1 ["_law_text"] (tV K)):bB P w K mg base fC 2 f fd ["_law_state","_law_text"] (qy K):=by
 refine F.iM fE (fun vs H Q E h=>?_) (fun dg A outer s H vs Q E hr h=>?_)
 . obtain ⟨p,t,rfl,_⟩:=h
   rfl
 obtain ⟨p,t,rfl,hp,ht,q⟩:=h
 refine bq (rest:=(ak bW).drop 6) (aH (aR (dB aT (dB aT (bS fh (ev 1) dS (cz (ev 5))) (dB Ao bg (ev 3))) (bS fh (ev 1) (cz (ev 5)) dS)))) fun r6 J6 e6=>?_
 refine bq (rest:=(ak bW).drop 5) (aq (d8 (aV bH (ev 3) ei (au _)) (aH (aR (dB aT (dB aT (bS fh (ev 1) dS (cz (ev 5))) (dW mG bg (ev 4) (fun _ _=>rfl))) (bS fh (ev 1) (cz (ev 5)) dS)))) bF)
     J6) fun r5 J5 e5=>?_
 refine bq (rest:=(ak bW).drop 4) (aq (sset (i:=5) fE.nd rfl (Or.inl rfl) (dW bI (ev 2) (ay ai (hr.mono (by decide)) rfl (aa (ev 0) (aa (aI bE rfl B.len bN (aa (ev 2) aj)) aj))) (fun _ _=>rfl)))
     J5) fun r4 J4 e4=>?_
 refine bq (rest:=(ak bW).drop 3) (aq (d8 (aV (An hr.units) (ev 2) (cK aj) (au _)) (aH (aR (ev 1))) bF)
     J4) fun r3 J3 e3=>?_
 refine ⟨_,(aq (sset (i:=2) fE.nd rfl (Or.inl rfl) (ay jn (hr.mono (by decide)) rfl (aa (ev 1) aj)))
     (aq (sset (i:=3) fE.nd rfl (Or.inl rfl) (dW bI (cK (aa ei (aa ei (aa ei (aa ei (aa ei (aa ei aj))))))) (ay ai (hr.mono (by decide)) rfl (aa (ev 0) (aa ei aj))) (fun _ _=>rfl)))
     (aq (sset (i:=4) fE.nd rfl (Or.inl rfl) (ay ai (hr.mono (by decide)) rfl (aa (ev 0) (aa ei aj))))
     J3))),?_⟩
 try walk_at "rn"
 refine ⟨t,rfl,by omega,fun S ss H1 nS0 x1 hS sl sb=>?_⟩
 try walk_at "rn"
 intro b1 n1
 have y1:=Ext.new (K:=K) (o:=.lst [V.int 0,V.int 1,V.int 58,V.int 59,V.int 60,V.int 5000]) n1
 refine ⟨p,6,rfl,hp.ext (x1.trans y1),by decide,by decide,fun r H2 r0 r1 jz k2=>⟨_,rfl,_,aX (k2.keep b1 _ ah ((hp.ext x1).ne n1)),?_⟩⟩
 obtain ⟨n,n0,n5,en⟩:=Hu r0 r1
 refine ⟨_,en,?_⟩
 refine ⟨p,4,rfl,jz,by decide,by decide,fun r' H3 r0' r1' hp3 k3=>?_⟩
 rw [e3]
 try walk_at "rn"
 intro b2 n2
 have y2:=Ext.new (K:=K) (o:=.lst []) n2
 have nS:S≠p:=hp.ne nS0
 have hS3:H3 S=some (.lst (ss.map V.int)):=k3.keep S _ (k2.keep S _ (y1.at hS) nS) nS
 have qJ:=hp3.ext y2
 have kA:=(x1.kp (p:=p)).trans ((y1.kp (p:=p)).trans (k2.trans (k3.trans (y2.kp (p:=p)))))
 refine ⟨_,BU (y2.at hS3),_,BU (ks:=[]) (by exact ah),qL _,qL _,?_⟩
 have Rc:=y2.at hS3
 generalize upd H3 b2 (.lst [])=H4 at qJ kA Rc ⊢
 cases hs:ss with
 | nil=>exact aO rfl (q t _ (.inl (.inl rfl)) (by omega) qJ kA)
 | cons s0 sr=>
 rw [<- hs]
 have GS:0 < ss.length:=by rw [hs];simp
 refine aF (by rw [hs];simp [PyData.eqv,PyData.eqvAll]) ?_
 rw [e4]
 try walk_at "rn"
 refine ⟨_,aX Rc,p,_,rfl,qJ,by rw [List.length_map];omega,by rw [List.length_map];omega,fun i H5 i0 i1 uB k5=>⟨_,rfl,_,aX (k5.keep S _ Rc nS),?_⟩⟩
 obtain ⟨v,ev,mv⟩:=mP (xs:=ss.map V.int) i0 i1
 obtain ⟨a,ma,rfl⟩:=List.mem_map.mp mv
 obtain ⟨a0,a1⟩:=sb a ma
 obtain ⟨k,rfl⟩:∃ k:Nat,a=k:=⟨a.toNat,by omega⟩
 have kB:=kA.trans k5
 have l1:=Txt.slice_le t none (some (k:Int))
 have l2:=Txt.slice_le t (some (k:Int)) none
 refine ⟨_,ev,?_⟩
 rw [e5]
 try walk_at "rn"
 refine cQ (fun c=>?_) (fun c=>?_)
 . obtain ⟨c,ec,_⟩:=mP (xs:=(Str.ofString "0-+ ").cps.toList) (k:=r') r0' (by rw [show (Str.ofString "0-+ ").cps.toList.length=4 from by decide +kernel];exact r1')
   have l3:(⟨#[c]⟩:Str).length=1:=rfl
   refine ⟨by omega,by decide +kernel,c,ec,by omega,by omega,by rw [Str.length_append];omega,q _ _ (.inl (.inr (.inr (.inl ⟨k,c,?_⟩)))) (by rw [Str.length_append,Str.length_append];omega) uB kB⟩
   rw [fP,fP,E2,pJ,List.append_assoc]
   rfl
 rw [e6]
 try walk_at "rn"
 have e7:Str.ofString "7"=⟨#[55]⟩:=jm (by decide +kernel)
 rw [e7]
 have l3:(Txt.mul ⟨#[55]⟩ n).length=n.toNat:=by rw [str_len,BZ (by omega),List.length_replicate]
 refine ⟨by omega,Kg rfl (by omega) (by omega),by omega,by omega,by rw [Str.length_append];omega,q _ _ (.inl (.inr (.inr (.inr (.inr (.inr ⟨k,n.toNat,?_⟩)))))) (by rw [Str.length_append,Str.length_append];omega) uB kB⟩
 rw [fP,fP,E2,pJ,BZ (by omega),List.append_assoc]
theorem fY:aE ["_law_state","_law_text","_law_way","_law_at","_law_sign_here","_law_turned"] ["_law_state","_law_text"] (af bP):=⟨rfl,rfl,rfl,by decide +kernel,rfl,by decide +kernel,by decide +kernel⟩
theorem tX {f:Addr} {fd:FuncData} (F:fM K "_law_spoilt" "_law_spoilt" bP f fd) {aG cF cR cN:Addr} {tE tF:Tok} (B:B K mg aG cF cR cN tE tF) (ai:Callee P w K mg base "_law_digit" 1 ["_law_state","_law_base"] (fj K)) (ki:Callee P w K mg base "_law_sign" 2 ["_law_state"] (AO K)) (dX:Callee P w K mg base "_law_parts_turned" 2 ["_law_state","_law_text","_law_way"] (AQ K)) (iR:Callee P w K mg base "_law_figures" 2 ["_law_state","_law_text"] (qy K)):bB P w K mg base fC 3 f fd ["_law_state","_law_text"] (qy K):=by
 refine F.iM fY (fun vs H Q E h=>?_) (fun dg A outer s H vs Q E hr h=>?_)
 . obtain ⟨p,t,rfl,_⟩:=h
   rfl
 obtain ⟨p,t,rfl,hp,ht,q⟩:=h
 refine bq (rest:=(ak bP).drop 10) (aH (aR (bS fh (ev 1) dS (cz (ev 3))))) fun r10 J10 e10=>?_
 refine bq (rest:=(ak bP).drop 9) (aq (d8 (aV bH (ev 2) ei (au _)) (aq (sset (i:=5) fY.nd rfl (Or.inl rfl) (dB aT (bS fh (ev 1) (cz (dB cu (ev 3) ei)) (cz (dB cu (ev 3) ei))) (bS fh (ev 1) (cz (ev 3)) (cz (dB cu (ev 3) ei)))))
     (aH (aR (dB aT (dB aT (bS fh (ev 1) dS (cz (ev 3))) (ev 5)) (bS fh (ev 1) (cz (dB cu (ev 3) ei)) dS))))) bF)
     J10) fun r9 J9 e9=>?_
 refine bq (rest:=(ak bP).drop 8) (aq (d8 (aV bH (ev 2) ei (au _)) (aH (aR (dB aT (bS fh (ev 1) dS (cz (ev 3))) (bS fh (ev 1) (cz (dB cu (ev 3) ei)) dS)))) bF)
     J9) fun r8 J8 e8=>?_
 refine bq (rest:=(ak bP).drop 7) (aq (d8 (aV bH (ev 2) ei (au _)) (aH (aR (dB aT (dB aT (bS fh (ev 1) dS (cz (ev 3))) (ev 4)) (bS fh (ev 1) (cz (ev 3)) dS)))) bF)
     J8) fun r7 J7 e7=>?_
 refine bq (rest:=(ak bP).drop 6) (aq (d8 (aV bH (ev 2) ei (au _)) (aH (aR (dB aT (dB aT (bS fh (ev 1) dS (cz (ev 3))) (ev 4)) (bS fh (ev 1) (cz (dB cu (ev 3) ei)) dS)))) bF)
     J7) fun r6 J6 e6=>?_
 refine bq (rest:=(ak bP).drop 4) (aq (sset (i:=3) fY.nd rfl (Or.inl rfl) (ay ai (hr.mono (by decide)) rfl (aa (ev 0) (aa (dB cu (aI gi rfl B.len bN (aa (ev 1) aj)) ei) aj))))
     (aq (sset (i:=4) fY.nd rfl (Or.inl rfl) (ay ki (hr.mono (by decide)) rfl (aa (ev 0) aj)))
     J6)) fun r4 J4 e4=>?_
 refine ⟨_,(aq (sset (i:=2) fY.nd rfl (Or.inl rfl) (ay ai (hr.mono (by decide)) rfl (aa (ev 0) (aa ei aj))))
     (aq (d8 (aV bH (ev 2) ei (au _)) (aH (aR (ev 1))) bF)
     (aq (d8 (aV qH (ev 2) ei (au _)) (aH (aR (ay iR (hr.mono (by decide)) rfl (aa (ev 0) (aa (ev 1) aj))))) bF)
     (aq (d8 (aV qH (ev 2) ei (au _)) (aH (aR (ay dX (hr.mono (by decide)) rfl (aa (ev 0) (aa (ev 1) (aa (ev 2) aj)))))) bF)
     J4)))),?_⟩
 try walk_at "rn"
 refine ⟨p,11,rfl,hp,by decide,by decide,fun m H1 m0 m1 lU k1=>⟨rfl,cQ (fun c=>q t _ (.inl (.inl rfl)) (by omega) lU k1) (fun c=>⟨m,rfl,?_⟩)⟩⟩
 refine cQ (fun c=>?_) (fun c=>⟨m,rfl,?_⟩)
 . exact ⟨p,t,rfl,lU,ht,fun t' H' o l hp' k'=>q t' _ o l hp' (k1.trans k')⟩
 refine cQ (fun c=>?_) (fun c=>?_)
 . exact ⟨p,t,m,rfl,lU,ht,fun t' H' o l hp' k'=>q t' _ o l hp' (k1.trans k')⟩
 rw [e4]
 try walk_at "rn"
 refine ⟨by omega,p,_,rfl,lU,by omega,by omega,fun i H2 i0 i1 jz k2=>⟨p,rfl,jz,fun c H3 hp3 k3=>?_⟩⟩
 obtain ⟨k,rfl⟩:∃ k:Nat,i=k:=⟨i.toNat,by omega⟩
 have kA:=k1.trans (k2.trans k3)
 rw [e6]
 try walk_at "rn"
 have l0:=Txt.slice_le t none (some (k:Int))
 have l1:=Txt.slice_le t (some (k:Int)) none
 have l2:=Txt.slice_le t (some ((k:Int) + 1)) none
 have l3:=Txt.slice_le t (some ((k:Int) + 2)) none
 have l4:=Txt.slice_le t (some (k:Int)) (some ((k:Int) + 1))
 have l5:=Txt.slice_le t (some ((k:Int) + 1)) (some ((k:Int) + 2))
 have lc:(⟨#[c]⟩:Str).length=1:=rfl
 have f1:=pJ t (k + 1)
 have f2:=pJ t (k + 2)
 have f4:=E3 t k
 have f5:=E3 t (k + 1)
 rw [show ((k + 1:Nat):Int)=(k:Int) + 1 from by omega] at f1 f4 f5
 rw [show ((k + 2:Nat):Int)=(k:Int) + 2 from by omega] at f2
 rw [show ((k + 1 + 1:Nat):Int)=(k:Int) + 2 from by omega] at f5
 have f0:=E2 t k
 have f3:=pJ t k
 refine cQ (fun w=>?_) (fun w1=>?_)
 . refine ⟨by omega,by omega,by omega,by rw [Str.length_append];omega,q _ _ (.inl (.inr (.inl ⟨k,c,?_⟩))) (by rw [Str.length_append,Str.length_append];omega) hp3 kA⟩
   rw [fP,fP,f0,f1,List.append_assoc]
   rfl
 rw [e7]
 try walk_at "rn"
 refine cQ (fun w=>?_) (fun w2=>?_)
 . refine ⟨by omega,by omega,by omega,by rw [Str.length_append];omega,q _ _ (.inl (.inr (.inr (.inl ⟨k,c,?_⟩)))) (by rw [Str.length_append,Str.length_append];omega) hp3 kA⟩
   rw [fP,fP,f0,f3,List.append_assoc]
   rfl
 rw [e8]
 try walk_at "rn"
 refine cQ (fun w=>?_) (fun w3=>?_)
 . refine ⟨by omega,by omega,by omega,q _ _ (.inl (.inr (.inr (.inr (.inl ⟨k,?_⟩))))) (by rw [Str.length_append];omega) hp3 kA⟩
   rw [fP,f0,f1]
 rw [e9]
 try walk_at "rn"
 refine cQ (fun w=>?_) (fun w4=>?_)
 . refine ⟨by omega,by omega,by omega,by omega,by rw [Str.length_append];omega,by omega,by rw [Str.length_append,Str.length_append];omega,q _ _ (.inl (.inr (.inr (.inr (.inr (.inl ⟨k,?_⟩)))))) (by rw [Str.length_append,Str.length_append,Str.length_append];omega) hp3 kA⟩
   rw [fP,fP,fP,f0,f2,f4,f5,List.append_assoc,List.append_assoc]
 rw [e10]
 try walk_at "rn"
 exact ⟨by omega,q _ _ (.inr (.inl ⟨k,f0⟩)) (by omega) hp3 kA⟩
end
mutual
def bw (K:PySem.W.Frag) (H0 H:Hp):PyData->V->Prop
 | .none,v=>v=.cY
 | .int i,v=>v=.int i
 | .str x,v=>v=.str x
 | .list ds,v=>∃ a vs,v=.ref a/\new K H0 a/\H a=some (.lst vs)/\aU K H0 H ds vs
 | .tuple ds,v=>∃ a vs,v=.ref a/\tupQ K H a=some vs/\aU K H0 H ds vs
 | .bool _,_=>False
 | .dict _,_=>False
def aU (K:PySem.W.Frag) (H0 H:Hp):List PyData->List V->Prop
 | [],vs=>vs=[]
 | d::ds,vs=>∃ v r,vs=v::r/\bw K H0 H d v/\aU K H0 H ds r
end
section
variable {K:PySem.W.Frag} {H0 H1 H H':Hp}
theorem cO {H H':Hp} {T:Addr} (x:Ext K H H') (n:new K H' T):new K H T:=by
 refine ⟨?_,n.2⟩
 cases z:H T with
 | none=>rfl
 | some o=>have:=x.at z;rw [n.1] at this;cases this
mutual
theorem bw.ext (x:Ext K H H'):∀ {d:PyData} {v:V},bw K H0 H d v->bw K H0 H' d v
 | .none,v,h=>h
 | .int i,v,h=>h
 | .str s,v,h=>h
 | .list ds,v,h=>by
   unfold bw at h ⊢
   obtain ⟨a,vs,e,n,ha,hs⟩:=h
   exact ⟨a,vs,e,n,x.at ha,aU.ext x hs⟩
 | .tuple ds,v,h=>by
   unfold bw at h ⊢
   obtain ⟨a,vs,e,ha,hs⟩:=h
   exact ⟨a,vs,e,x.tup ha,aU.ext x hs⟩
 | .bool _,v,h=>h
 | .dict _,v,h=>h
theorem aU.ext (x:Ext K H H'):∀ {ds:List PyData} {vs:List V},aU K H0 H ds vs->aU K H0 H' ds vs
 | [],vs,h=>h
 | d::ds,vs,h=>by
   unfold aU at h ⊢
   obtain ⟨v,r,e,h1,h2⟩:=h
   exact ⟨v,r,e,bw.ext x h1,aU.ext x h2⟩
end
mutual
theorem bw.xh (x:∀ a,new K H0 a->new K H1 a):∀ {d:PyData} {v:V},bw K H0 H d v->bw K H1 H d v
 | .none,v,h=>h
 | .int i,v,h=>h
 | .str s,v,h=>h
 | .list ds,v,h=>by
   unfold bw at h ⊢
   obtain ⟨a,vs,e,n,ha,hs⟩:=h
   exact ⟨a,vs,e,x a n,ha,aU.xh x hs⟩
 | .tuple ds,v,h=>by
   unfold bw at h ⊢
   obtain ⟨a,vs,e,ha,hs⟩:=h
   exact ⟨a,vs,e,ha,aU.xh x hs⟩
 | .bool _,v,h=>h
 | .dict _,v,h=>h
theorem aU.xh (x:∀ a,new K H0 a->new K H1 a):∀ {ds:List PyData} {vs:List V},aU K H0 H ds vs->aU K H1 H ds vs
 | [],vs,h=>h
 | d::ds,vs,h=>by
   unfold aU at h ⊢
   obtain ⟨v,r,e,h1,h2⟩:=h
   exact ⟨v,r,e,bw.xh x h1,aU.xh x h2⟩
end
theorem bw.old (x:Ext K H1 H0) {d:PyData} {v:V} (h:bw K H0 H d v):bw K H1 H d v:=h.xh fun _ n=>cO x n
theorem aU.old (x:Ext K H1 H0) {ds:List PyData} {vs:List V} (h:aU K H0 H ds vs):aU K H1 H ds vs:=h.xh fun _ n=>cO x n
mutual
theorem bw.kp {D:Addr} {o:HO} {xs:List V} (h0:H0 D=some o) (hD:H D=some (.lst xs)) (k:Kp K D H H'):∀ {d:PyData} {v:V},bw K H0 H d v->bw K H0 H' d v
 | .none,v,h=>h
 | .int i,v,h=>h
 | .str s,v,h=>h
 | .list ds,v,h=>by
   unfold bw at h ⊢
   obtain ⟨a,vs,e,n,ha,hs⟩:=h
   exact ⟨a,vs,e,n,k.keep a _ ha (fun z=>by rw [z] at n;rw [n.1] at h0;cases h0),aU.kp h0 hD k hs⟩
 | .tuple ds,v,h=>by
   unfold bw at h ⊢
   obtain ⟨a,vs,e,ha,hs⟩:=h
   exact ⟨a,vs,e,k.tup hD ha,aU.kp h0 hD k hs⟩
 | .bool _,v,h=>h
 | .dict _,v,h=>h
theorem aU.kp {D:Addr} {o:HO} {xs:List V} (h0:H0 D=some o) (hD:H D=some (.lst xs)) (k:Kp K D H H'):∀ {ds:List PyData} {vs:List V},aU K H0 H ds vs->aU K H0 H' ds vs
 | [],vs,h=>h
 | d::ds,vs,h=>by
   unfold aU at h ⊢
   obtain ⟨v,r,e,h1,h2⟩:=h
   exact ⟨v,r,e,bw.kp h0 hD k h1,aU.kp h0 hD k h2⟩
end
mutual
theorem bw.is:∀ {d:PyData} {v:V},bw K H0 H d v->Is K H d v
 | .none,v,h=>by unfold bw at h;unfold Is;exact h
 | .int i,v,h=>by unfold bw at h;unfold Is;exact h
 | .str s,v,h=>by unfold bw at h;unfold Is;exact h
 | .list ds,v,h=>by
   unfold bw at h
   unfold Is
   obtain ⟨a,vs,e,n,ha,hs⟩:=h
   exact ⟨a,vs,e,bC.of ha,aU.is hs⟩
 | .tuple ds,v,h=>by
   unfold bw at h
   unfold Is
   obtain ⟨a,vs,e,ha,hs⟩:=h
   exact ⟨a,vs,e,fc ha,aU.is hs⟩
 | .bool _,v,h=>by unfold bw at h;exact h.elim
 | .dict _,v,h=>by unfold bw at h;exact h.elim
theorem aU.is:∀ {ds:List PyData} {vs:List V},aU K H0 H ds vs->cj K H ds vs
 | [],vs,h=>by unfold aU at h;unfold cj;exact h
 | d::ds,vs,h=>by
   unfold aU at h
   unfold cj
   obtain ⟨v,r,e,h1,h2⟩:=h
   exact ⟨v,r,e,bw.is h1,aU.is h2⟩
end
theorem aU.nil:aU K H0 H [] []:=by unfold aU;rfl
theorem aU.cons {d:PyData} {ds:List PyData} {v:V} {vs:List V} (h:bw K H0 H d v) (g:aU K H0 H ds vs):aU K H0 H (d::ds) (v::vs):=by
 unfold aU
 exact ⟨v,vs,rfl,h,g⟩
theorem aU.snoc:∀ {ds:List PyData} {vs:List V} {d:PyData} {v:V},aU K H0 H ds vs->bw K H0 H d v->aU K H0 H (ds++[d]) (vs++[v])
 | [],vs,d,v,h,g=>by
   unfold aU at h
   subst h
   exact .cons g .nil
 | e::ds,vs,d,v,h,g=>by
   unfold aU at h
   obtain ⟨w,r,rfl,h1,h2⟩:=h
   exact .cons h1 (aU.snoc h2 g)
theorem aU.len:∀ {ds:List PyData} {vs:List V},aU K H0 H ds vs->vs.length=ds.length
 | [],vs,h=>by unfold aU at h;subst h;rfl
 | e::ds,vs,h=>by
   unfold aU at h
   obtain ⟨w,r,rfl,h1,h2⟩:=h
   rw [List.length_cons,List.length_cons,aU.len h2]
theorem bw.nn {v:V}:bw K H0 H .none v↔v=.cY:=by unfold bw;exact Iff.rfl
theorem bw.ii {v:V} {i:Int}:bw K H0 H (.int i) v↔v=.int i:=by unfold bw;exact Iff.rfl
theorem bw.ss {v:V} {x:Str}:bw K H0 H (.str x) v↔v=.str x:=by unfold bw;exact Iff.rfl
theorem bw.tt {v:V} {ds:List PyData}:bw K H0 H (.tuple ds) v↔∃ a vs,v=.ref a/\tupQ K H a=some vs/\aU K H0 H ds vs:=by
 conv=>lhs;unfold bw
theorem bw.ll {v:V} {ds:List PyData}:bw K H0 H (.list ds) v↔∃ a vs,v=.ref a/\new K H0 a/\H a=some (.lst vs)/\aU K H0 H ds vs:=by
 conv=>lhs;unfold bw
theorem aU.nn {vs:List V}:aU K H0 H [] vs↔vs=[]:=by unfold aU;exact Iff.rfl
theorem aU.cc {vs:List V} {d:PyData} {ds:List PyData}:aU K H0 H (d::ds) vs↔∃ v r,vs=v::r/\bw K H0 H d v/\aU K H0 H ds r:=by
 conv=>lhs;unfold aU
def zz:Option Int->PyData
 | none=>.none
 | some i=>.int i
theorem bw.oo {v:V} {o:Option Int}:bw K H0 H (zz o) v↔v=on o:=by cases o <;> unfold zz bw on <;> exact Iff.rfl
end
def oD {α:Type} (f:α->PyData):Option α->PyData
 | none=>.none
 | some a=>f a
def cH {α:Type}:List (Option α)->Option (List α)
 | []=>some []
 | none::_=>none
 | some a::r=>(cH r).map (a::·)
theorem fk {α:Type}:∀ {os:List (Option α)} {us:List α},cH os=some us->os=us.map some
 | [],us,h=>by cases h;rfl
 | none::r,us,h=>by cases h
 | some a::r,us,h=>by
   unfold cH at h
   cases e:cH r with
   | none=>rw [e] at h;cases h
   | some ws=>rw [e] at h;cases h;rw [fk e];rfl
theorem lM {α:Type}:∀ (us:List α),cH (us.map some)=some us
 | []=>rfl
 | a::r=>by
   show (cH (r.map some)).map (a::·)=_
   rw [lM r]
   rfl
theorem jG {α:Type} {d:α->PyData} (hd:∀ a,gm (d a)=false):∀ (os:List (Option α)),(os.map (oD d)).any gm=(cH os).isNone
 | []=>rfl
 | none::r=>rfl
 | some a::r=>by
   rw [List.map_cons,List.any_cons,jG hd r]
   show (gm (d a)||_)=_
   rw [hd a,Bool.false_or]
   show _=((cH r).map (a::·)).isNone
   cases cH r <;> rfl
theorem zA {α:Type} {os:List (Option α)} {us:List α} (h:cH os=some us):us.length=os.length:=by rw [fk h,List.length_map]
def bU {α:Type} (rv:Str->Option α) (c t:Str):Option (List α):=if t=Str.ofString "-" then some [] else cH ((Txt.split t c).map rv)
theorem iI {α:Type} {rv:Str->Option α} {c:Nat} {t:Str} {us:List α} (h:bU rv ⟨#[c]⟩ t=some us):us.length<=t.length + 1:=by
 unfold bU at h
 split at h
 . cases h;simp
 . have:=zA h
   rw [List.length_map] at this
   have:=(cG t c).1
   omega
def rising:List Int->Bool
 | a::b::r=>decide (a < b)&&rising (b::r)
 | _=>true
theorem tY:∀ ns:List Int,(List.zipWith (fun a b:Int=>decide (a < b)) ns (ns.drop 1)).all id=rising ns
 | []=>rfl
 | [_]=>rfl
 | a::b::r=>by
   have:=tY (b::r)
   unfold rising
   rw [<- this]
   rfl
abbrev qM:=Int×Option Int
def m5 (t:Str):Option qM:=match ao (Txt.partition t (Str.ofString ":")).1 with
 | none=>none
 | some n=>if (Txt.partition t (Str.ofString ":")).2.2=Str.ofString "x" then some (n,none) else (ao (Txt.partition t (Str.ofString ":")).2.2).map fun v=>(n,some v)
def m6 (p:qM):PyData:=.tuple [.int p.1,zz p.2]
def jT (t:Str):Option (Int×List qM):=match ao (Txt.partition t (Str.ofString "=")).1,bU m5 (Str.ofString ",") (Txt.partition t (Str.ofString "=")).2.2 with
 | some k,some vs=>some (k,vs)
 | _,_=>none
def lZ (r:Int×List qM):PyData:=.tuple [.int r.1,.list (r.2.map m6)]
def gF (t:Str):Option (Int×Int):=match ao (Txt.partition t (Str.ofString "@")).1,ao (Txt.partition t (Str.ofString "@")).2.2 with
 | some k,some p=>some (k,p)
 | _,_=>none
def tZ (p:Int×Int):PyData:=.tuple [.int p.1,.int p.2]
def gG (t:Str):Option cg:=if t=Str.ofString "x" then some .gone else match t.cps.toList with
 | []=>none
 | c::r=>match ao ⟨r.toArray⟩ with
   | none=>none
   | some n=>if c=43 then some (.plus n) else if c=61 then some (.is n) else none
def B0:Option cg->PyData
 | none=>.none
 | some h=>h.hd
structure RN where
 n:Option Int
 lo:Option Int
 hi:Option Int
 a:Option cg
 b:Option cg
def RN.d (r:RN):PyData:=.tuple [zz r.n,zz r.lo,zz r.hi,.tuple [B0 r.a,B0 r.b]]
def fZ (t:Str):Option RN:=match Txt.split t (Str.ofString ".") with
 | [x,y,z,u,v]=>some ⟨ao x,ao y,ao z,gG u,gG v⟩
 | _=>none
def zB (ws:List Str):Option cg->Bool
 | none=>false
 | some .gone=>true
 | some (.plus _)=>decide (Str.ofString "plus"∈ws)
 | some (.is _)=>decide (Str.ofString "is"∈ws)
def PI:List Str:=[Str.ofString "plus",Str.ofString "is"]
def C2 (a b:Option Int):Bool:=wO 0 1000000000000 a&&wO 0 1000000000000 b&&(match a,b with | some x,some y=>decide (x < y) | _,_=>false)
def Kh (a b:Option Int):Bool:=match a,b with
 | some x,some y=>decide (y - x=1)
 | _,_=>false
def Kl:Option cg->Bool
 | some .gone=>true
 | _=>false
def cW (r:RN):Bool:=fO 1 r.n&&C2 r.lo r.hi&&(zB PI r.a&&zB [Str.ofString "is"] r.b)&&(Kh r.lo r.hi||Kl r.b)
def qz (ps:List qM):Bool:=!ps.isEmpty&&ps.all (fun p=>decide (0<=p.1))&&rising (ps.map (·.1))
def jc (r:Int×List qM):Bool:=decide (0<=r.1/\r.1<=999999999999)&&qz r.2
def kM (rs:List (Int×List qM)):Bool:=rs.all jc&&rising (rs.map (·.1))
inductive Rd where
 | leaf (n:Int) (rows:List (Int×List qM))
 | inner (n:Int) (pv:List Int) (sp:List (Int×Int)) (fT:List RN)
def iS (n r:Str):Option Rd:=match ao n,bU jT (Str.ofString ";") r with
 | some n,some rows=>if decide (0<=n)&&kM rows then some (.leaf n rows) else none
 | _,_=>none
def pK (n:Int) (pv:List Int) (sp:List (Int×Int)) (fT:List RN):Bool:=
 fT.all cW&&decide (sp.length=pv.length + 1)&&decide ((sp.map (·.1)).Nodup)&&decide (0<=n)&&sp.all (fun p=>decide (0<=p.1)&&decide (0<=p.2))
def fS (n p s t:Str):Option Rd:=match ao n,bU ao (Str.ofString ",") p,bU gF (Str.ofString ",") s,bU fZ (Str.ofString ";") t with
 | some n,some pv,some sp,some fT=>if pK n pv sp fT then some (.inner n pv sp fT) else none
 | _,_,_,_=>none
def gc (t:Str):Option Rd:=match Txt.split t (Str.ofString " ") with
 | [w,n,r]=>if w=Str.ofString "leaf" then iS n r else none
 | [w,n,p,s,y]=>if w=Str.ofString "inner" then fS n p s y else none
 | _=>none
def qA (K:PySem.W.Frag) (H0 H:Hp) (T:Addr):Rd->Prop
 | .leaf n rows=>∃ R D P vs,tupQ K H T=some [.ref R,.ref P]/\tupQ K H R=some [.str (Str.ofString "leaf"),.int n,.ref D]/\new K H0 D/\H D=some (.lst vs)/\aU K H0 H (rows.map lZ) vs/\new K H0 P/\H P=some (.dK [])/\D≠P
 | .inner n pv sp fT=>∃ R D C Y P vs,tupQ K H T=some [.ref R,.ref P]/\tupQ K H R=some [.str (Str.ofString "inner"),.int n,.ref D,.ref C,.ref Y]/\new K H0 D/\H D=some (.lst (pv.map V.int))/\H C=some (.lst (sp.map fun p=>V.int p.1))/\
   H Y=some (.lst vs)/\aU K H0 H (fT.map RN.d) vs/\new K H0 P/\H P=some (.dK (jr (sp.map fun p=>(p.1,V.int p.2))))/\new K H0 C/\new K H0 Y
theorem xj {α:Type} {K:PySem.W.Frag} {c D:Addr} {L:List α} {f:α->V} {g:α->PyData} {te:TE} {v0:Option V} {rest:St} {H:Hp} {Q:Hp->Prop} (hk:bC K H c (L.map f)) (nD:new K H D) (hz:L.length<=16000000)
   (elt:∀ q∈L,∀ H' (Q:VK),Ext K H H'->(∀ v jW,Ext K H' jW->bw K H' jW (g q) v->Q v jW)->te (some (f q)::rest) H' Q)
   (fin:∀ vs H',H' D=some (.lst vs)->aU K H H' (L.map g) vs->Ext K H H'->Q H'):cA (zW K c) (dw 0) jB te D Q (v0::rest) (upd H D (.lst [])):=by
 refine nj (xs:=L.map f) (fun i acc σ' H'=>∃ (v0:Option V),σ'=v0::rest/\H' D=some (.lst acc)/\aU K (upd H D (.lst [])) H' ((L.take i).map g) acc/\Kp K D (upd H D (.lst [])) H') ?_ ?_ ?_ ?_
 . exact ⟨_,rfl,ah,.nil,Kp.refl⟩
 . rintro i acc σ' H' _ ⟨v0,rfl,hD,_,k⟩
   exact (k.ext nD).same.seq hk
 . rintro i x acc σ' H' hx ⟨v0,rfl,hD,ha,k⟩
   rw [List.getElem?_map] at hx
   obtain ⟨q,ek,rfl⟩:=Option.map_eq_some_iff.mp hx
   have hlen:acc.length<=16000000:=by rw [ha.len,List.length_map,List.length_take];omega
   unfold dw jB
   refine Af ?_
   refine elt q (List.mem_of_getElem? ek) H' _ (k.ext nD) fun v jW x'' hv=>?_
   have kk:Kp K D jW (upd jW D (.lst (acc++[v]))):=Kp.upd (x''.at hD)
   have xo:∀ a,new K H' a->new K (upd H D (.lst [])) a:=fun a n=>by
     refine ⟨?_,n.2⟩
     cases z:upd H D (.lst []) a with
     | none=>rfl
     | some o=>
       by_cases e:a=D
       . have:=n.1;rw [e,hD] at this;cases this
       . have:=k.keep a o z e;rw [n.1] at this;cases this
   have Km:bw K (upd H D (.lst [])) jW (g q) v:=by
     have:=hv
     exact bw.xh xo this
   refine ⟨x''.at hD,Nat.lt_of_le_of_lt hlen (by decide),_,rfl,ah,?_,k.trans (x''.kp.trans kk)⟩
   rw [List.take_add_one,ek,Option.toList_some,List.map_append]
   exact aU.kp ah (x''.at hD) kk (aU.snoc (ha.ext x'') Km)
 . rintro acc σ' H' ⟨v0,rfl,hD,ha,k⟩
   rw [List.length_map,List.take_length] at ha
   exact fin acc H' hD (ha.old (Ext.new nD)) (k.ext nD)
section
variable {K:PySem.W.Frag} {H0 H:Hp}
theorem xm {o:Option cg} {v:V} (h:bw K H0 H (B0 o) v):(o=none/\v=.cY)∨∃ x a,o=some x/\v=.ref a/\tupQ K H a=some x.v:=by
 cases o with
 | none=>exact .inl ⟨rfl,bw.nn.mp h⟩
 | some x=>
   right
   cases x <;> (unfold B0 cg.hd at h;simp only [bw.tt,aU.cc,aU.nn,bw.ss,bw.ii] at h)
   . obtain ⟨a,vs,rfl,ha,v1,r1,rfl,rfl,v2,r2,rfl,rfl,rfl⟩:=h
     exact ⟨_,a,rfl,rfl,ha⟩
   . obtain ⟨a,vs,rfl,ha,v1,r1,rfl,rfl,v2,r2,rfl,rfl,rfl⟩:=h
     exact ⟨_,a,rfl,rfl,ha⟩
   . obtain ⟨a,vs,rfl,ha,v1,r1,rfl,rfl,rfl⟩:=h
     exact ⟨_,a,rfl,rfl,ha⟩
theorem xr {p:qM} {v:V} (h:bw K H0 H (m6 p) v):∃ a,v=.ref a/\tupQ K H a=some [.int p.1,on p.2]:=by
 unfold m6 at h
 simp only [bw.tt,aU.cc,aU.nn,bw.oo,bw.ii] at h
 obtain ⟨a,vs,rfl,ha,v1,r1,rfl,rfl,v2,r2,rfl,rfl,rfl⟩:=h
 exact ⟨a,rfl,ha⟩
theorem zC {p:Int×Int} {v:V} (h:bw K H0 H (tZ p) v):∃ a,v=.ref a/\tupQ K H a=some [.int p.1,.int p.2]:=by
 unfold tZ at h
 simp only [bw.tt,aU.cc,aU.nn,bw.ii] at h
 obtain ⟨a,vs,rfl,ha,v1,r1,rfl,rfl,v2,r2,rfl,rfl,rfl⟩:=h
 exact ⟨a,rfl,ha⟩
theorem rW {r:Int×List qM} {v:V} (h:bw K H0 H (lZ r) v):∃ a D vs,v=.ref a/\tupQ K H a=some [.int r.1,.ref D]/\H D=some (.lst vs)/\aU K H0 H (r.2.map m6) vs:=by
 unfold lZ at h
 simp only [bw.tt,aU.cc,aU.nn,bw.ll,bw.ii] at h
 obtain ⟨a,vs,rfl,ha,v1,r1,rfl,rfl,v2,r2,rfl,⟨D,ws,rfl,n,hD,hw⟩,rfl⟩:=h
 exact ⟨a,D,ws,rfl,ha,hD,hw⟩
theorem Mi {r:RN} {v:V} (h:bw K H0 H r.d v):∃ a b u1 u2,v=.ref a/\tupQ K H a=some [on r.n,on r.lo,on r.hi,.ref b]/\tupQ K H b=some [u1,u2]/\bw K H0 H (B0 r.a) u1/\bw K H0 H (B0 r.b) u2:=by
 unfold RN.d at h
 simp only [bw.tt,aU.cc,aU.nn,bw.oo] at h
 obtain ⟨a,vs,rfl,ha,v1,r1,rfl,rfl,v2,r2,rfl,rfl,v3,r3,rfl,rfl,v4,r4,rfl,⟨b,ws,rfl,hb,u1,s1,rfl,h1,u2,s2,rfl,h2,rfl⟩,rfl⟩:=h
 exact ⟨a,b,u1,u2,rfl,ha,hb,h1,h2⟩
theorem aU.zip {α:Type} {d:α->PyData}:∀ {ps:List α} {vs:List V},aU K H0 H (ps.map d) vs->∃ L:List (V×α),vs=L.map (·.1)/\ps=L.map (·.2)/\∀ q∈L,bw K H0 H (d q.2) q.1
 | [],vs,h=>⟨[],aU.nn.mp h,rfl,fun _ h=>nomatch h⟩
 | p::ps,vs,h=>by
   obtain ⟨v,r,rfl,h1,h2⟩:=aU.cc.mp h
   obtain ⟨L,rfl,rfl,hL⟩:=aU.zip h2
   refine ⟨(v,p)::L,rfl,rfl,fun q hq=>?_⟩
   rcases List.mem_cons.mp hq with rfl | hq
   . exact h1
   . exact hL q hq
def LstAt (K:PySem.W.Frag) (H0 H:Hp) {α:Type} (d:α->PyData):Option (List α)->V->Prop
 | none,v=>v=.cY
 | some l,v=>∃ D us,v=.ref D/\new K H0 D/\H D=some (.lst us)/\aU K H0 H (l.map d) us
theorem LstAt.ext {H':Hp} {α:Type} {d:α->PyData} {o:Option (List α)} {v:V} (x:Ext K H H') (h:LstAt K H0 H d o v):LstAt K H0 H' d o v:=by
 cases o with
 | none=>exact h
 | some l=>
   obtain ⟨D,us,e,n,hD,hu⟩:=h
   exact ⟨D,us,e,n,x.at hD,hu.ext x⟩
theorem LstAt.old {H1:Hp} {α:Type} {d:α->PyData} {o:Option (List α)} {v:V} (x:Ext K H1 H0) (h:LstAt K H0 H d o v):LstAt K H1 H d o v:=by
 cases o with
 | none=>exact h
 | some l=>
   obtain ⟨D,us,e,n,hD,hu⟩:=h
   exact ⟨D,us,e,cO x n,hD,hu.old x⟩
theorem aU.ints:∀ {ns:List Int} {us:List V},aU K H0 H (ns.map PyData.int) us->us=ns.map V.int
 | [],us,h=>aU.nn.mp h
 | n::ns,us,h=>by
   obtain ⟨v,r,rfl,h1,h2⟩:=aU.cc.mp h
   rw [bw.ii.mp h1,aU.ints h2]
   rfl
end
def E4:Option (List (Int×List qM))->Bool
 | none=>false
 | some l=>kM l
def E5:Option (List RN)->Bool
 | none=>false
 | some l=>l.all cW
def E6 {α:Type} (o:Option (List α)):Prop:=∀ l,o=some l->l.length<=1000000
theorem qA.old {K:PySem.W.Frag} {H1 H0 H:Hp} {T:Addr} {x:Rd} (e:Ext K H1 H0) (h:qA K H0 H T x):qA K H1 H T x:=by
 cases x with
 | leaf n rows=>
   obtain ⟨R,D,P,vs,h1,h2,n1,h3,h4,n2,h5,h6⟩:=h
   exact ⟨R,D,P,vs,h1,h2,cO e n1,h3,h4.old e,cO e n2,h5,h6⟩
 | inner n pv sp fT=>
   obtain ⟨R,D,C,Y,P,vs,h1,h2,n1,h3,h4,h5,h6,n2,h7,n3,n4⟩:=h
   exact ⟨R,D,C,Y,P,vs,h1,h2,cO e n1,h3,h4,h5,h6.old e,cO e n2,h7,cO e n3,cO e n4⟩
theorem qA.ext {K:PySem.W.Frag} {H0 H H':Hp} {T:Addr} {x:Rd} (e:Ext K H H') (h:qA K H0 H T x):qA K H0 H' T x:=by
 cases x with
 | leaf n rows=>
   obtain ⟨R,D,P,vs,h1,h2,n1,h3,h4,n2,h5,h6⟩:=h
   exact ⟨R,D,P,vs,e.tup h1,e.tup h2,n1,e.at h3,h4.ext e,n2,e.at h5,h6⟩
 | inner n pv sp fT=>
   obtain ⟨R,D,C,Y,P,vs,h1,h2,n1,h3,h4,h5,h6,n2,h7,n3,n4⟩:=h
   exact ⟨R,D,C,Y,P,vs,e.tup h1,e.tup h2,n1,e.at h3,e.at h4,e.at h5,h6.ext e,n2,e.at h7,n3,n4⟩
section
variable {P:Program} {w:World} {K:PySem.W.Frag} {mg:Str->Option Value} {base:Heap}
def AR:Sp:=fun vs H Q _=>∃ o,vs=[on o]/\Q (.bl (wO 0 999999999999 o)) H
theorem C3:aE ["thing"] ["thing"] (af kY):=⟨rfl,rfl,rfl,by decide +kernel,rfl,by decide +kernel,by decide +kernel⟩
theorem C4 {f:Addr} {fd:FuncData} (F:fM K "is_key" "is_key" kY f fd) {aG cF cR cN:Addr} {tE tF:Tok} (B:B K mg aG cF cR cN tE tF) (fm:Callee P w K mg base "is_whole" 2 ["thing","low","high"] pq):bB P w K mg base fC 3 f fd ["thing"] AR:=by
 refine F.iM C3 (fun vs H Q E h=>?_) (fun dg A outer s H vs Q E hr h=>?_)
 . obtain ⟨o,rfl,_⟩:=h
   rfl
 obtain ⟨o,rfl,q⟩:=h
 refine ⟨_,(aH (aR (ay fm (hr.mono (by decide)) rfl (aa (ev 0) (aa ei (aa (dB jd (kW rfl B.QZ B.AH) ei) aj)))))),?_⟩
 try walk_at "rn"
 exact ⟨o,_,_,rfl,q⟩
def AS:Sp:=fun vs H Q _=>∃ a b,vs=[on a,on b]/\Q (.bl (C2 a b)) H
theorem uG:aE ["low","high"] ["low","high"] (af gp):=⟨rfl,rfl,rfl,by decide +kernel,rfl,by decide +kernel,by decide +kernel⟩
theorem uH {f:Addr} {fd:FuncData} (F:fM K "is_stretch" "is_stretch" gp f fd) {aG cF cR cN:Addr} {tE tF:Tok} (B:B K mg aG cF cR cN tE tF) (fm:Callee P w K mg base "is_whole" 2 ["thing","low","high"] pq):bB P w K mg base fC 3 f fd ["low","high"] AS:=by
 refine F.iM uG (fun vs H Q E h=>?_) (fun dg A outer s H vs Q E hr h=>?_)
 . obtain ⟨a,b,rfl,_⟩:=h
   rfl
 obtain ⟨a,b,rfl,q⟩:=h
 refine ⟨_,(aH (aR (iP (ay fm (hr.mono (by decide)) rfl (aa (ev 0) (aa ei (aa (kW rfl B.QZ B.AH) aj)))) (iP (ay fm (hr.mono (by decide)) rfl (aa (ev 1) (aa ei (aa (kW rfl B.QZ B.AH) aj)))) (jY (jq uS (ev 0) (ev 1) (au _))))))),?_⟩
 try walk_at "rn"
 unfold C2 at q
 refine ⟨a,_,_,rfl,_,rfl,?_⟩
 cases c1:wO 0 1000000000000 a
 . rw [c1] at q
   exact aF (by decide) q
 refine aO rfl ⟨b,_,_,rfl,_,rfl,?_⟩
 cases c2:wO 0 1000000000000 b
 . rw [c1,c2] at q
   exact aF (by decide) q
 rw [c1,c2] at q
 cases a with
 | none=>cases c1
 | some x=>
   cases b with
   | none=>cases c2
   | some y=>exact aO rfl ⟨x,rfl,y,rfl,q⟩
def xu (K:PySem.W.Frag):Sp:=fun vs H Q _=>∃ v W o ws H0,vs=[v,.ref W]/\bw K H0 H (B0 o) v/\tupQ K H W=some (List.map V.str ws)/\∀ H',Ext K H H'->Q (.bl (zB ws o)) H'
theorem t6 (x:Str):∀ ws:List Str,HR (.str x) (ws.map V.str)=decide (x∈ws)
 | []=>rfl
 | y::ws=>by
   have ih:=t6 x ws
   unfold HR at ih ⊢
   rw [List.map_cons,List.any_cons,ih,Bool.eq_iff_iff]
   simp only [Bool.or_eq_true,decide_eq_true_eq,List.mem_cons,GF,beq_iff_eq]
   exact ⟨fun h=>h.imp_left Eq.symm,fun h=>h.imp_left Eq.symm⟩
theorem vC (ws:List Str):(ws.map V.str).all mH=true:=by rw [List.all_map];exact List.all_eq_true.mpr fun _ _=>rfl
theorem AU:aE ["thing","words"] ["thing","words"] (af jN):=⟨rfl,rfl,rfl,by decide +kernel,rfl,by decide +kernel,by decide +kernel⟩
theorem AV {f:Addr} {fd:FuncData} (F:fM K "is_half" "is_half" jN f fd) {aG cF cR cN:Addr} {tE tF:Tok} (B:B K mg aG cF cR cN tE tF) (aQ:Callee P w K mg base "is_number" 1 ["thing"] lJ):bB P w K mg base fC 2 f fd ["thing","words"] (xu K):=by
 refine F.iM AU (fun vs H Q E h=>?_) (fun dg A outer s H vs Q E hr h=>?_)
 . obtain ⟨v,W,o,ws,H0,rfl,_⟩:=h
   rfl
 obtain ⟨v,W,o,ws,H0,rfl,hv,hW,q⟩:=h
 refine ⟨_,(aq (d8 (tw (lB (jZ (gK (aI aK rfl B.isinstance aA (aa (ev 0) (aa (iL rfl B.tuple iO) aj))))) (lB (aV CH (aI bE rfl B.len bN (aa (ev 0) aj)) (cJ (aa ei (aa ei aj))) (by with_unfolding_all rfl)) (je (jZ (gK (aI aK rfl B.isinstance aA (aa (dW bI (ev 0) ei (fun _ _=>rfl)) (aa (iL rfl B.str fN) aj))))))))) (aH (aR yi)) bF)
     (aq (d8 (aV bH (aI bE rfl B.len bN (aa (ev 0) aj)) ei (au _)) (aH (aR (jq bH (dW bI (ev 0) ei (fun _ _=>rfl)) bg (au _)))) bF)
     (aH (aR (iP (jq Jt (dW bI (ev 0) ei (fun _ _=>rfl)) (ev 1) (by with_unfolding_all rfl)) (jY (ay aQ (hr.mono (by decide)) rfl (aa (dW bI (ev 0) ei (fun _ _=>rfl)) aj)))))))),?_⟩
 try walk_at "rn"
 rcases xm hv with ⟨rfl,rfl⟩ | ⟨x,a,rfl,rfl,ha⟩
 . exact ⟨_,.inl .cY,false,rfl,aO rfl (q _ Ext.refl)⟩
 refine ⟨_,.tup ha,true,rfl,aF (by decide) ⟨a,rfl,_,br ha,fun b nb=>⟨rfl,rfl,?_⟩⟩⟩
 have xb:=Ext.new (K:=K) (o:=.tup [V.int 1,V.int 2]) nb
 have Rf:=xb.tup hW
 have C5:=xb.tup ha
 generalize upd H b (.tup [V.int 1,V.int 2])=G at xb Rf C5 ⊢
 cases x with
 | gone=>
   refine aF (by decide) ⟨a,rfl,_,br C5,_,rfl,_,.inl (.str _),true,rfl,aF (by decide) ⟨a,rfl,_,br C5,aO rfl ⟨a,rfl,_,br C5,_,rfl,?_⟩⟩⟩
   exact ⟨rfl,by rw [decide_eq_true rfl];exact q _ xb⟩
 | plus n=>
   refine aF (by show ¬ ((!HR (V.int 2) [V.int 1,V.int 2])=true);decide) ⟨a,rfl,_,br C5,_,rfl,_,.inl (.str _),true,rfl,aF (by decide) ⟨a,rfl,_,br C5,aF (by show ¬ ((2:Int)=1);decide) ?_⟩⟩
   refine ⟨a,rfl,_,br C5,_,rfl,_,br Rf,rfl,vC ws,?_⟩
   rw [t6]
   cases c:decide (Str.ofString "plus"∈ws)
   . exact aF (by decide) (by have:=q _ xb;simp only [zB,c] at this;exact this)
   . exact aO rfl ⟨a,rfl,_,br C5,_,rfl,some n,rfl,by have:=q _ xb;simp only [zB,c] at this;exact this⟩
 | is n=>
   refine aF (by show ¬ ((!HR (V.int 2) [V.int 1,V.int 2])=true);decide) ⟨a,rfl,_,br C5,_,rfl,_,.inl (.str _),true,rfl,aF (by decide) ⟨a,rfl,_,br C5,aF (by show ¬ ((2:Int)=1);decide) ?_⟩⟩
   refine ⟨a,rfl,_,br C5,_,rfl,_,br Rf,rfl,vC ws,?_⟩
   rw [t6]
   cases c:decide (Str.ofString "is"∈ws)
   . exact aF (by decide) (by have:=q _ xb;simp only [zB,c] at this;exact this)
   . exact aO rfl ⟨a,rfl,_,br C5,_,rfl,some n,rfl,by have:=q _ xb;simp only [zB,c] at this;exact this⟩
def AW (K:PySem.W.Frag):Sp:=fun vs H Q _=>∃ a u1 u2 x y H0,vs=[.ref a]/\tupQ K H a=some [u1,u2]/\bw K H0 H (B0 x) u1/\bw K H0 H (B0 y) u2/\∀ H',Ext K H H'->Q (.bl (zB PI x&&zB [Str.ofString "is"] y)) H'
theorem lN:aE ["thing","there","none"] ["thing"] (af g8):=⟨rfl,rfl,rfl,by decide +kernel,rfl,by decide +kernel,by decide +kernel⟩
theorem xy {f:Addr} {fd:FuncData} (F:fM K "is_action" "is_action" g8 f fd) {aG cF cR cN:Addr} {tE tF:Tok} (B:B K mg aG cF cR cN tE tF) (lq:Callee P w K mg base "is_half" 2 ["thing","words"] (xu K)):bB P w K mg base fC 3 f fd ["thing"] (AW K):=by
 refine F.iM lN (fun vs H Q E h=>?_) (fun dg A outer s H vs Q E hr h=>?_)
 . obtain ⟨a,u1,u2,x,y,H0,rfl,_⟩:=h
   rfl
 obtain ⟨a,u1,u2,x,y,H0,rfl,ha,h1,h2,q⟩:=h
 refine ⟨_,(aq (d8 (tw (lB (jZ (gK (aI aK rfl B.isinstance aA (aa (ev 0) (aa (iL rfl B.tuple iO) aj))))) (je (aV ja (aI bE rfl B.len bN (aa (ev 0) aj)) ei (au _))))) (aH (aR yi)) bF)
     (aq (kX (ev 0) (jQ (n:=2) rfl (bf (aM (i:=1) lN.nd rfl (Or.inl rfl)) (bf (aM (i:=2) lN.nd rfl (Or.inl rfl)) jA))))
     (aH (aR (iP (ay lq (hr.mono (by decide)) rfl (aa (ev 1) (aa (cJ (aa bg (aa bg aj))) aj))) (jY (ay lq (hr.mono (by decide)) rfl (aa (ev 2) (aa (cJ (aa bg aj)) aj))))))))),?_⟩
 simp_arith [br ha,ha]
 refine ⟨_,.tup ha,true,rfl,aF (by decide) (aF (by simp) fun p np=>?_)⟩
 have xp:=Ext.new (K:=K) (o:=.tup [V.str (Str.ofString "plus"),V.str (Str.ofString "is")]) np
 refine ⟨u1,p,x,PI,H0,rfl,h1.ext xp,aN,fun H1 x1=>⟨_,rfl,?_⟩⟩
 have xx:=xp.trans x1
 cases c:zB PI x
 . exact aF (by decide) (by have:=q _ xx;rw [c] at this;exact this)
 refine aO rfl fun p2 np2=>?_
 have La:=Ext.new (K:=K) (o:=.tup [V.str (Str.ofString "is")]) np2
 exact ⟨u2,p2,y,[Str.ofString "is"],H0,rfl,h2.ext (xx.trans La),aN,fun H2 x2=>by have:=q _ (xx.trans (La.trans x2));rw [c] at this;exact this⟩
def xA (K:PySem.W.Frag):Sp:=fun vs H Q _=>∃ v r H0,vs=[v]/\bw K H0 H (RN.d r) v/\∀ H',Ext K H H'->Q (.bl (cW r)) H'
theorem jU:aE ["thing","number","low","high","action"] ["thing"] (af jO):=⟨rfl,rfl,rfl,by decide +kernel,rfl,by decide +kernel,by decide +kernel⟩
theorem AX {f:Addr} {fd:FuncData} (F:fM K "is_note" "is_note" jO f fd) {aG cF cR cN:Addr} {tE tF:Tok} (B:B K mg aG cF cR cN tE tF) (cM:Callee P w K mg base "is_whole_from" 2 ["thing","low"] rT) (jH:Callee P w K mg base "is_stretch" 3 ["low","high"] AS) (kj:Callee P w K mg base "is_action" 3 ["thing"] (AW K)):bB P w K mg base fC 4 f fd ["thing"] (xA K):=by
 refine F.okM jU (fun vs H Q E h=>?_) (fun dg A outer s H vs Q E hr hm h=>?_)
 . obtain ⟨v,r,H0,rfl,_⟩:=h
   rfl
 obtain ⟨v,r,H0,rfl,hv,q⟩:=h
 obtain ⟨a,b,u1,u2,rfl,ha,hb,h1,h2⟩:=Mi hv
 refine ⟨_,(aq (d8 (tw (lB (jZ (gK (aI aK rfl B.isinstance aA (aa (ev 0) (aa (iL rfl B.tuple iO) aj))))) (je (aV ja (aI bE rfl B.len bN (aa (ev 0) aj)) ei (au _))))) (aH (aR yi)) bF)
     (aq (kX (ev 0) (jQ (n:=4) rfl (bf (aM (i:=1) jU.nd rfl (Or.inl rfl)) (bf (aM (i:=2) jU.nd rfl (Or.inl rfl)) (bf (aM (i:=3) jU.nd rfl (Or.inl rfl)) (bf (aM (i:=4) jU.nd rfl (Or.inl rfl)) jA))))))
     (aq (d8 (tw (lB (jZ (gK (ay cM (hr.mono (by decide)) rfl (aa (ev 1) (aa ei aj))))) (lB (jZ (gK (ay jH (hr.mono (by decide)) rfl (aa (ev 2) (aa (ev 3) aj))))) (je (jZ (gK (ay kj (hr.mono (by decide)) rfl (aa (ev 4) aj)))))))) (aH (aR yi)) bF)
     (aH (aR (eor (jq bH (dB jd (ev 3) (ev 2)) ei (au _)) (jY (jq (An hr.units) (dW bI (ev 4) ei (fun _ _=>rfl)) (kW rfl B.L7 B.BO) (au _))))))))),?_⟩
 simp_arith [br ha,ha]
 refine ⟨_,.tup ha,true,rfl,aF (by decide) (aF (by simp) ⟨r.n,1,rfl,_,rfl,?_⟩)⟩
 unfold cW at q
 cases c1:fO 1 r.n
 . exact aO rfl (by have:=q _ Ext.refl;rw [c1] at this;exact this)
 refine aF (by decide) ⟨r.lo,r.hi,rfl,_,rfl,?_⟩
 cases c2:C2 r.lo r.hi
 . exact aO rfl (by have:=q _ Ext.refl;rw [c1,c2] at this;exact this)
 refine aF (by decide) ⟨b,u1,u2,r.a,r.b,H0,rfl,hb,h1,h2,fun H1 x1=>⟨_,rfl,?_⟩⟩
 have q1:=q _ x1
 rw [c1,c2] at q1
 cases c3:(zB PI r.a&&zB [Str.ofString "is"] r.b)
 . exact aO rfl (by rw [c3] at q1;exact q1)
 rw [c3] at q1
 refine aF (by decide) ?_
 have h3:=h2.ext x1
 have hb1:=x1.tup hb
 have mf:=x1.tup (hm.tup B.kG)
 clear q hm
 obtain ⟨rn,rlo,rhi,ra,rb⟩:=r
 dsimp only at c1 c2 c3 q1 h3 ⊢
 cases rlo with
 | none=>cases c2
 | some lo=>
   cases rhi with
   | none=>unfold C2 at c2;simp [wO] at c2
   | some hi=>
     refine ⟨hi,rfl,lo,rfl,cQ (fun c=>?_) (fun c=>?_)⟩
     . have e:Kh (some lo) (some hi)=true:=decide_eq_true c
       rw [e] at q1
       exact q1
     . have e:Kh (some lo) (some hi)=false:=decide_eq_false c
       rw [e] at q1
       rcases xm h3 with ⟨rfl,rfl⟩ | ⟨x,a',rfl,rfl,Rg⟩
       . rw [show zB [Str.ofString "is"] none=false from rfl,Bool.and_false] at c3
         cases c3
       . refine ⟨_,br hb1,_,rfl,x.hd,cg.BS Rg,cg.gone.hd,cg.BS (h:=.gone) mf,x.shaped,cg.shaped .gone,?_⟩
         rw [cg.zk]
         cases x <;> exact q1
def B3 (K:PySem.W.Frag):Sp:=fun vs H Q _=>∃ D ns,vs=[.ref D]/\bC K H D (List.map V.int ns)/\ns.length<=1000000/\∀ H',Ext K H H'->Q (.bl (rising ns)) H'
theorem xB:aE ["numbers"] ["numbers"] (af g9):=⟨rfl,rfl,rfl,by decide +kernel,rfl,by decide +kernel,by decide +kernel⟩
theorem xE {f:Addr} {fd:FuncData} (F:fM K "is_rising" "is_rising" g9 f fd) {aG cF cR cN:Addr} {tE tF:Tok} (B:B K mg aG cF cR cN tE tF):bB P w K mg base fC 1 f fd ["numbers"] (B3 K):=by
 refine F.iM xB (fun vs H Q E h=>?_) (fun dg A outer s H vs Q E hr h=>?_)
 . obtain ⟨D,ns,rfl,_⟩:=h
   rfl
 obtain ⟨D,ns,rfl,hD,hl,q⟩:=h
 refine ⟨_,(aH (aR (aI (gY rfl) rfl B.all mO (aa (ur (j5.mk (N:=["one","other"]) (src:=[none,none]) rfl rfl) rfl (Ie rfl B.zip (aa (ev 0) (aa (bS dI (ev 0) (cz ei) dS) aj))) (fun _ _ _ _=>(sU K (n:=2) rfl (bf (aM (i:=0) (show (["one","other"]:List Str).Nodup from by decide +kernel) rfl (Or.inl rfl)) (bf (aM (i:=1) (show (["one","other"]:List Str).Nodup from by decide +kernel) rfl (Or.inl rfl)) jA)))) (fun _ _ _ _=>eB) (fun _ _ _ _=>(jq uS (ev 0) (ev 1) (au _)))) aj)))),?_⟩
 try walk_at "rn"
 refine ⟨_,hD,fun S nS=>.inl ⟨⟨_,(Ext.new nS).same.seq hD⟩,⟨_,bC.of ah⟩,fun D1 n1=>?_⟩⟩
 have eS:iK (ns.map V.int) (some 1) none=(ns.drop 1).map V.int:=by rw [show iK (ns.map V.int) (some 1) none=(ns.map V.int).drop 1 from qj _ 1,List.map_drop]
 rw [eS] at n1 ⊢
 have xS:=Ext.new (K:=K) (o:=.lst ((ns.drop 1).map V.int)) (by exact nS)
 refine Hf (n:=ns.length - 1) (xs:=ns.map V.int) (ys:=(ns.drop 1).map V.int) (fun i acc σ' H'=>∃ v0 v1:Option V,σ'=[v0,v1]/\acc=((List.zipWith (fun a b:Int=>decide (a < b)) ns (ns.drop 1)).take i).map V.bl/\H' D1=some (.lst acc)/\Kp K D1 (upd (upd H S (.lst ((ns.drop 1).map V.int))) D1 (.lst [])) H') (by simp) (by simp) (by simp) ⟨_,_,rfl,rfl,ah,Kp.refl⟩ ?_ ?_ ?_
 . rintro i acc σ' H' _ ⟨_,_,rfl,rfl,y9,k⟩
   exact ⟨(k.ext n1).same.seq (xS.same.seq hD),bC.of ((k.ext n1).at ah)⟩
 . rintro i x y acc σ' H' T hx hy ⟨_,_,rfl,rfl,y9,k⟩ nT
   rw [List.getElem?_map] at hx hy
   obtain ⟨a,ea,rfl⟩:=Option.map_eq_some_iff.mp hx
   obtain ⟨b,eb,rfl⟩:=Option.map_eq_some_iff.mp hy
   try walk_at "rn"
   have xT:=Ext.new (K:=K) (o:=.tup [V.int a,V.int b]) nT
   have hi:i < ns.length:=(List.getElem?_eq_some_iff.mp ea).1
   refine ⟨xT.at y9,by rw [List.length_map,List.length_take];have:=sizeLine_eq;omega,?_,k.trans (xT.kp.trans (Kp.upd (xT.at y9)))⟩
   rw [List.take_add_one,List.map_append,List.getElem?_zipWith,ea,eb]
   rfl
 . rintro acc σ' H' ⟨_,_,rfl,rfl,y9,k⟩
   refine ⟨_,bC.of y9,?_⟩
   have:=q _ ((xS.trans (k.ext n1)))
   rw [<- tY] at this
   rw [List.take_of_length_le (by simp)]
   exact this
def Kn (K:PySem.W.Frag):Sp:=fun vs H Q _=>∃ v,vs=[v]/\((v=.cY/\Q (.bl false) H)∨∃ D ns,v=.ref D/\H D=some (.lst (List.map V.int ns))/\ns.length<=1000000/\∀ H',Ext K H H'->Q (.bl true) H')
theorem uI:aE ["thing"] ["thing"] (af gq):=⟨rfl,rfl,rfl,by decide +kernel,rfl,by decide +kernel,by decide +kernel⟩
theorem uJ {f:Addr} {fd:FuncData} (F:fM K "are_wholes" "are_wholes" gq f fd) {aG cF cR cN:Addr} {tE tF:Tok} (B:B K mg aG cF cR cN tE tF) (aQ:Callee P w K mg base "is_number" 1 ["thing"] lJ):bB P w K mg base fC 2 f fd ["thing"] (Kn K):=by
 refine F.iM uI (fun vs H Q E h=>?_) (fun dg A outer s H vs Q E hr h=>?_)
 . obtain ⟨v,rfl,_⟩:=h
   rfl
 obtain ⟨v,rfl,h⟩:=h
 refine ⟨_,(aH (aR (iP (aI aK rfl B.isinstance aA (aa (ev 0) (aa (iL rfl B.list lF) aj))) (jY (aI (gY rfl) rfl B.all mO (aa (ur (j5.mk (N:=["part"]) (src:=[none]) rfl rfl) rfl (d9 (ev 0)) (fun _ _ _ _=>(aM (i:=0) (show (["part"]:List Str).Nodup from by decide +kernel) rfl (Or.inl rfl))) (fun _ _ _ _=>eB) (fun _ _ _ _=>(ay aQ (hr.mono (by decide)) rfl (aa (ev 0) aj)))) aj)))))),?_⟩
 try walk_at "rn"
 rcases h with ⟨rfl,q⟩ | ⟨D,ns,rfl,hD,hl,q⟩
 . exact ⟨_,.inl .cY,false,rfl,aF (by decide) q⟩
 refine ⟨_,.inl (.lst hD),true,rfl,aO rfl ⟨D,rfl,⟨_,bC.of hD⟩,fun D1 n1=>jC (f:=V.int) (g:=fun _=>V.bl true) (bC.of hD) n1 (by omega) (fun i hi H' Q' xx qq=>?_) (fun H1 h1 x1=>?_)⟩⟩
 . try walk_at "rn"
   exact ⟨some i,rfl,qq _ Ext.refl⟩
 refine ⟨ns.map fun _=>true,bC.of (by rw [h1,List.map_map];rfl),?_⟩
 rw [show (ns.map fun _=>true).all id=true from by rw [List.all_eq_true];intro b hb;obtain ⟨_,_,rfl⟩:=List.mem_map.mp hb;rfl]
 exact q _ x1
def AY (K:PySem.W.Frag):Sp:=fun vs H Q _=>∃ v p H0,vs=[v]/\bw K H0 H (m6 p) v/\Q (.bl (decide (0<=p.1))) H
theorem kN:aE ["thing","number","value"] ["thing"] (af gr):=⟨rfl,rfl,rfl,by decide +kernel,rfl,by decide +kernel,by decide +kernel⟩
theorem uK {f:Addr} {fd:FuncData} (F:fM K "is_version" "is_version" gr f fd) {aG cF cR cN:Addr} {tE tF:Tok} (B:B K mg aG cF cR cN tE tF) (aQ:Callee P w K mg base "is_number" 1 ["thing"] lJ) (cM:Callee P w K mg base "is_whole_from" 2 ["thing","low"] rT):bB P w K mg base fC 3 f fd ["thing"] (AY K):=by
 refine F.iM kN (fun vs H Q E h=>?_) (fun dg A outer s H vs Q E hr h=>?_)
 . obtain ⟨v,p,H0,rfl,_⟩:=h
   rfl
 obtain ⟨v,p,H0,rfl,hv,q⟩:=h
 obtain ⟨a,rfl,ha⟩:=xr hv
 refine ⟨_,(aq (d8 (tw (lB (jZ (gK (aI aK rfl B.isinstance aA (aa (ev 0) (aa (iL rfl B.tuple iO) aj))))) (je (aV ja (aI bE rfl B.len bN (aa (ev 0) aj)) ei (au _))))) (aH (aR yi)) bF)
     (aq (kX (ev 0) (jQ (n:=2) rfl (bf (aM (i:=1) kN.nd rfl (Or.inl rfl)) (bf (aM (i:=2) kN.nd rfl (Or.inl rfl)) jA))))
     (aH (aR (iP (ay cM (hr.mono (by decide)) rfl (aa (ev 1) (aa ei aj))) (jY (eor (jq dh (ev 2) bZ (au _)) (jY (ay aQ (hr.mono (by decide)) rfl (aa (ev 2) aj)))))))))),?_⟩
 simp_arith [br ha,ha]
 refine ⟨_,.tup ha,true,rfl,aF (by decide) (aF (by simp) ⟨some p.1,0,rfl,_,rfl,?_⟩)⟩
 cases c:fO 0 (some p.1)
 . exact aF (by decide) (by rw [show decide (0<=p.1)=false from c] at q;exact q)
 rw [show decide (0<=p.1)=true from c] at q
 refine aO rfl ?_
 obtain ⟨n,o⟩:=p
 cases o with
 | none=>exact aO rfl q
 | some i=>exact aF (by simp [on]) ⟨some i,rfl,q⟩
theorem AZ {α:Type} {K:PySem.W.Frag} {c D:Addr} {L:List (V×α)} {k:α->Int} {u:α->V} {v0 v1:Option V} {H:Hp} {Q:Hp->Prop} (hk:bC K H c (L.map (·.1))) (hL:∀ q∈L,∃ a,q.1=.ref a/\tupQ K H a=some [.int (k q.2),u q.2]) (nD:new K H D) (hz:L.length<=16000000)
   (fin:∀ H',H' D=some (.lst ((L.map fun q=>k q.2).map V.int))->Ext K H H'->Q H'):cA (zW K c) (oU K 2 (kQ (dw 0) (kQ (dw 1) vN))) jB (qR 0) D Q [v0,v1] (upd H D (.lst [])):=by
 refine nj (xs:=L.map (·.1)) (fun i acc σ' H'=>∃ (v0 v1:Option V),σ'=[v0,v1]/\H' D=some (.lst acc)/\acc=((L.take i).map fun q=>k q.2).map V.int/\Kp K D (upd H D (.lst [])) H') ⟨_,_,rfl,ah,rfl,Kp.refl⟩ ?_ ?_ ?_
 . rintro i acc σ' H' _ ⟨v0,v1,rfl,hD,rfl,k⟩
   exact (k.ext nD).same.seq hk
 . rintro i x acc σ' H' hx ⟨v0,v1,rfl,hD,rfl,kk⟩
   rw [List.getElem?_map] at hx
   obtain ⟨q,ek,rfl⟩:=Option.map_eq_some_iff.mp hx
   obtain ⟨a,ea,ha⟩:=hL q (List.mem_of_getElem? ek)
   rw [ea]
   have Rg:=(kk.ext nD).tup ha
   have hlen:(((L.take i).map fun q=>k q.2).map V.int).length<=16000000:=by rw [List.length_map,List.length_map,List.length_take];omega
   simp_arith [Rg]
   refine ⟨hD,Nat.lt_of_le_of_lt hlen (by decide),?_,kk.trans (Kp.upd hD)⟩
   rw [List.take_add_one,ek,Option.toList_some,List.map_append,List.map_append]
   rfl
 . rintro acc σ' H' ⟨v0,v1,rfl,hD,rfl,k⟩
   rw [List.length_map,List.take_length] at hD
   exact fin H' hD (k.ext nD)
def xF (K:PySem.W.Frag):Sp:=fun vs H Q _=>∃ D us ps H0,vs=[.ref D]/\H D=some (.lst us)/\aU K H0 H (List.map m6 ps) us/\ps.length<=1000000/\∀ H',Ext K H H'->Q (.bl (qz ps)) H'
theorem rj:aE ["thing"] ["thing"] (af eN):=⟨rfl,rfl,rfl,by decide +kernel,rfl,by decide +kernel,by decide +kernel⟩
theorem rm {f:Addr} {fd:FuncData} (F:fM K "are_versions" "are_versions" eN f fd) {aG cF cR cN:Addr} {tE tF:Tok} (B:B K mg aG cF cR cN tE tF) (jI:Callee P w K mg base "is_version" 3 ["thing"] (AY K)) (eZ:Callee P w K mg base "is_rising" 1 ["numbers"] (B3 K)):bB P w K mg base fC 4 f fd ["thing"] (xF K):=by
 refine F.iM rj (fun vs H Q E h=>?_) (fun dg A outer s H vs Q E hr h=>?_)
 . obtain ⟨D,us,ps,H0,rfl,_⟩:=h
   rfl
 obtain ⟨D,us,ps,H0,rfl,hD,hu,hl,q⟩:=h
 obtain ⟨L,rfl,rfl,hL⟩:=hu.zip
 refine ⟨_,(aq (d8 (tw (lB (jZ (gK (aI aK rfl B.isinstance aA (aa (ev 0) (aa (iL rfl B.list lF) aj))))) (lB (aV bH (aI bE rfl B.len bN (aa (ev 0) aj)) ei (au _)) (je (jZ (gK (aI (gY rfl) rfl B.all mO (aa (ur (j5.mk (N:=["part"]) (src:=[none]) rfl rfl) rfl (d9 (ev 0)) (fun _ _ _ _=>(aM (i:=0) (show (["part"]:List Str).Nodup from by decide +kernel) rfl (Or.inl rfl))) (fun _ _ _ _=>eB) (fun _ _ _ _=>(ay jI (hr.mono (by decide)) rfl (aa (ev 0) aj)))) aj)))))))) (aH (aR yi)) bF)
     (aH (aR (ay eZ (hr.mono (by decide)) rfl (aa (ur (j5.mk (N:=["number","value"]) (src:=[none,none]) rfl rfl) rfl (d9 (ev 0)) (fun _ _ _ _=>(sU K (n:=2) rfl (bf (aM (i:=0) (show (["number","value"]:List Str).Nodup from by decide +kernel) rfl (Or.inl rfl)) (bf (aM (i:=1) (show (["number","value"]:List Str).Nodup from by decide +kernel) rfl (Or.inl rfl)) jA)))) (fun _ _ _ _=>eB) (fun _ _ _ _=>(ev 0))) aj))))),?_⟩
 simp_arith [aX hD]
 have hl:L.length<=1000000:=by simpa using hl
 refine ⟨_,.inl (.lst hD),true,rfl,aF (by decide) (cQ (fun c=>?_) (fun c=>?_))⟩
 . have e:L=[]:=List.eq_nil_of_length_eq_zero (by simp at c;simpa using c)
   subst e
   exact q _ Ext.refl
 have ne:(L.map (·.2)).isEmpty=false:=by cases L with
   | nil=>exact absurd rfl c
   | cons _ _=>rfl
 unfold qz at q
 rw [ne] at q
 refine ⟨⟨_,bC.of hD⟩,fun D1 n1=>jC (L:=L) (f:=fun q=>q.1) (g:=fun q=>V.bl (decide (0<=q.2.1))) (bC.of hD) n1 (by omega) (fun q hq H' Q' xx qq=>?_) (fun H1 h1 x1=>?_)⟩
 . try walk_at "rn"
   exact ⟨q.1,q.2,H0,rfl,(hL q hq).ext xx,qq _ Ext.refl⟩
 refine ⟨L.map fun q=>decide (0<=q.2.1),bC.of (by rw [h1,List.map_map];rfl),?_⟩
 have e:(L.map fun q=>decide (0<=q.2.1)).all id=(L.map (·.2)).all fun p=>decide (0<=p.1):=by rw [List.all_map,List.all_map];rfl
 rw [e]
 cases c1:(L.map (·.2)).all fun p=>decide (0<=p.1)
 . exact aO rfl (by have:=q _ x1;rw [c1] at this;exact this)
 rw [c1] at q
 refine aF (by decide) ⟨⟨_,bC.of (x1.at hD)⟩,fun D2 n2=>AZ (L:=L) (k:=fun p=>p.1) (u:=fun p=>on p.2) (bC.of (x1.at hD)) (fun q hq=>xr ((hL q hq).ext x1)) n2 (by omega) (fun H2 h2 x2=>?_)⟩
 refine ⟨D2,L.map fun q=>q.2.1,rfl,bC.of h2,by simpa using hl,fun H3 x3=>?_⟩
 have:=q _ (x1.trans (x2.trans x3))
 rw [List.map_map] at this
 exact this
def A0 (K:PySem.W.Frag):Sp:=fun vs H Q _=>∃ v r H0,vs=[v]/\bw K H0 H (lZ r) v/\r.2.length<=1000000/\∀ H',Ext K H H'->Q (.bl (jc r)) H'
theorem C6:aE ["thing"] ["thing"] (af kZ):=⟨rfl,rfl,rfl,by decide +kernel,rfl,by decide +kernel,by decide +kernel⟩
theorem C7 {f:Addr} {fd:FuncData} (F:fM K "is_row" "is_row" kZ f fd) {aG cF cR cN:Addr} {tE tF:Tok} (B:B K mg aG cF cR cN tE tF) (pM:Callee P w K mg base "is_key" 3 ["thing"] AR) (iT:Callee P w K mg base "are_versions" 4 ["thing"] (xF K)):bB P w K mg base fC 5 f fd ["thing"] (A0 K):=by
 refine F.iM C6 (fun vs H Q E h=>?_) (fun dg A outer s H vs Q E hr h=>?_)
 . obtain ⟨v,r,H0,rfl,_⟩:=h
   rfl
 obtain ⟨v,r,H0,rfl,hv,hl,q⟩:=h
 obtain ⟨a,D,us,rfl,ha,hD,hu⟩:=rW hv
 refine ⟨_,(aH (aR (iP (aI aK rfl B.isinstance aA (aa (ev 0) (aa (iL rfl B.tuple iO) aj))) (iP (jq bH (aI bE rfl B.len bN (aa (ev 0) aj)) ei (au _)) (iP (ay pM (hr.mono (by decide)) rfl (aa (dW bI (ev 0) ei (fun _ _=>rfl)) aj)) (jY (ay iT (hr.mono (by decide)) rfl (aa (dW bI (ev 0) ei (fun _ _=>rfl)) aj)))))))),?_⟩
 simp_arith [br ha,ha]
 refine ⟨_,.tup ha,true,rfl,aO rfl (aO rfl ⟨some r.1,rfl,_,rfl,?_⟩)⟩
 unfold jc at q
 rw [show decide (0<=r.1/\r.1<=999999999999)=wO 0 999999999999 (some r.1) from rfl] at q
 cases c:wO 0 999999999999 (some r.1)
 . exact aF (by decide) (by have:=q _ Ext.refl;rw [c] at this;exact this)
 rw [c] at q
 exact aO rfl ⟨_,br ha,_,rfl,D,us,r.2,H0,rfl,hD,hu,hl,q⟩
def xJ (K:PySem.W.Frag):Sp:=fun vs H Q _=>∃ v,vs=[v]/\((v=.cY/\Q (.bl false) H)∨∃ D us rs H0,v=.ref D/\H D=some (.lst us)/\aU K H0 H (List.map lZ rs) us/\rs.length<=1000000/\(∀ r∈rs,r.2.length<=1000000)/\∀ H',Ext K H H'->Q (.bl (kM rs)) H')
theorem zD:aE ["thing"] ["thing"] (af jg):=⟨rfl,rfl,rfl,by decide +kernel,rfl,by decide +kernel,by decide +kernel⟩
theorem zE {f:Addr} {fd:FuncData} (F:fM K "are_rows" "are_rows" jg f fd) {aG cF cR cN:Addr} {tE tF:Tok} (B:B K mg aG cF cR cN tE tF) (pN:Callee P w K mg base "is_row" 5 ["thing"] (A0 K)) (eZ:Callee P w K mg base "is_rising" 1 ["numbers"] (B3 K)):bB P w K mg base fC 6 f fd ["thing"] (xJ K):=by
 refine F.iM zD (fun vs H Q E h=>?_) (fun dg A outer s H vs Q E hr h=>?_)
 . obtain ⟨v,rfl,_⟩:=h
   rfl
 obtain ⟨v,rfl,h⟩:=h
 refine ⟨_,(aq (d8 (tw (lB (jZ (gK (aI aK rfl B.isinstance aA (aa (ev 0) (aa (iL rfl B.list lF) aj))))) (je (jZ (gK (aI (gY rfl) rfl B.all mO (aa (ur (j5.mk (N:=["part"]) (src:=[none]) rfl rfl) rfl (d9 (ev 0)) (fun _ _ _ _=>(aM (i:=0) (show (["part"]:List Str).Nodup from by decide +kernel) rfl (Or.inl rfl))) (fun _ _ _ _=>eB) (fun _ _ _ _=>(ay pN (hr.mono (by decide)) rfl (aa (ev 0) aj)))) aj))))))) (aH (aR yi)) bF)
     (aH (aR (ay eZ (hr.mono (by decide)) rfl (aa (ur (j5.mk (N:=["key","versions"]) (src:=[none,none]) rfl rfl) rfl (d9 (ev 0)) (fun _ _ _ _=>(sU K (n:=2) rfl (bf (aM (i:=0) (show (["key","versions"]:List Str).Nodup from by decide +kernel) rfl (Or.inl rfl)) (bf (aM (i:=1) (show (["key","versions"]:List Str).Nodup from by decide +kernel) rfl (Or.inl rfl)) jA)))) (fun _ _ _ _=>eB) (fun _ _ _ _=>(ev 0))) aj))))),?_⟩
 try walk_at "rn"
 rcases h with ⟨rfl,q⟩ | ⟨D,us,rs,H0,rfl,hD,hu,hl,hr',q⟩
 . exact ⟨_,.inl .cY,false,rfl,aO rfl q⟩
 obtain ⟨L,rfl,rfl,hL⟩:=hu.zip
 have hl:L.length<=1000000:=by simpa using hl
 unfold kM at q
 refine ⟨_,.inl (.lst hD),true,rfl,aF (by decide) ⟨D,rfl,⟨_,bC.of hD⟩,fun D1 n1=>jC (L:=L) (f:=fun q=>q.1) (g:=fun q=>V.bl (jc q.2)) (bC.of hD) n1 (by omega) (fun q hq H' Q' xx qq=>?_) (fun H1 h1 x1=>?_)⟩⟩
 . try walk_at "rn"
   exact ⟨q.1,q.2,H0,rfl,(hL q hq).ext xx,hr' q.2 (List.mem_map_of_mem hq),fun H2 x2=>qq _ x2⟩
 refine ⟨L.map fun q=>jc q.2,bC.of (by rw [h1,List.map_map];rfl),?_⟩
 have e:(L.map fun q=>jc q.2).all id=(L.map (·.2)).all jc:=by rw [List.all_map,List.all_map];rfl
 rw [e]
 cases c1:(L.map (·.2)).all jc
 . exact aO rfl (by have:=q _ x1;rw [c1] at this;exact this)
 rw [c1] at q
 refine aF (by decide) ⟨D,rfl,⟨_,bC.of (x1.at hD)⟩,fun D2 n2=>?_⟩
 obtain ⟨u,hu'⟩:∃ u:V×(Int×List qM)->V,∀ q∈L,∃ a,q.1=.ref a/\tupQ K H1 a=some [.int q.2.1,u q]:=by
   have P:∀ q:V×(Int×List qM),∃ x:V,q∈L->∃ a,q.1=.ref a/\tupQ K H1 a=some [.int q.2.1,x]:=fun q=>by
     by_cases hq:q∈L
     . obtain ⟨a,D',vs,e1,e2,_⟩:=rW ((hL q hq).ext x1)
       exact ⟨.ref D',fun _=>⟨a,e1,e2⟩⟩
     . exact ⟨.cY,fun z=>absurd z hq⟩
   exact ⟨fun q=>(P q).choose,fun q=>(P q).choose_spec⟩
 have eL:L.map (·.1)=(L.map fun q=>(q.1,q)).map (·.1):=by rw [List.map_map];rfl
 have uD:=x1.at hD
 rw [eL] at uD
 refine AZ (L:=L.map fun q=>(q.1,q)) (k:=fun q=>q.2.1) (u:=u) (bC.of uD) (fun q hq=>?_) n2 (by simp;omega) (fun H2 h2 x2=>?_)
 . obtain ⟨q',hq',rfl⟩:=List.mem_map.mp hq
   exact hu' q' hq'
 refine ⟨D2,L.map fun q=>q.2.1,rfl,bC.of (by rw [h2,List.map_map (l:=L)];rfl),by simpa using hl,fun H3 x3=>?_⟩
 have:=q _ (x1.trans (x2.trans x3))
 rw [List.map_map] at this
 exact this
def t7 (K:PySem.W.Frag):Sp:=fun vs H Q _=>∃ v,vs=[v]/\((v=.cY/\Q (.bl false) H)∨∃ D us rs H0,v=.ref D/\H D=some (.lst us)/\aU K H0 H (List.map RN.d rs) us/\rs.length<=1000000/\∀ H',Ext K H H'->Q (.bl (rs.all cW)) H')
theorem xK:aE ["thing"] ["thing"] (af ia):=⟨rfl,rfl,rfl,by decide +kernel,rfl,by decide +kernel,by decide +kernel⟩
theorem xM {f:Addr} {fd:FuncData} (F:fM K "are_notes" "are_notes" ia f fd) {aG cF cR cN:Addr} {tE tF:Tok} (B:B K mg aG cF cR cN tE tF) (ny:Callee P w K mg base "is_note" 4 ["thing"] (xA K)):bB P w K mg base fC 5 f fd ["thing"] (t7 K):=by
 refine F.iM xK (fun vs H Q E h=>?_) (fun dg A outer s H vs Q E hr h=>?_)
 . obtain ⟨v,rfl,_⟩:=h
   rfl
 obtain ⟨v,rfl,h⟩:=h
 refine ⟨_,(aH (aR (iP (aI aK rfl B.isinstance aA (aa (ev 0) (aa (iL rfl B.list lF) aj))) (jY (aI (gY rfl) rfl B.all mO (aa (ur (j5.mk (N:=["part"]) (src:=[none]) rfl rfl) rfl (d9 (ev 0)) (fun _ _ _ _=>(aM (i:=0) (show (["part"]:List Str).Nodup from by decide +kernel) rfl (Or.inl rfl))) (fun _ _ _ _=>eB) (fun _ _ _ _=>(ay ny (hr.mono (by decide)) rfl (aa (ev 0) aj)))) aj)))))),?_⟩
 try walk_at "rn"
 rcases h with ⟨rfl,q⟩ | ⟨D,us,rs,H0,rfl,hD,hu,hl,q⟩
 . exact ⟨_,.inl .cY,false,rfl,aF (by decide) q⟩
 obtain ⟨L,rfl,rfl,hL⟩:=hu.zip
 have hl:L.length<=1000000:=by simpa using hl
 refine ⟨_,.inl (.lst hD),true,rfl,aO rfl ⟨D,rfl,⟨_,bC.of hD⟩,fun D1 n1=>jC (L:=L) (f:=fun q=>q.1) (g:=fun q=>V.bl (cW q.2)) (bC.of hD) n1 (by omega) (fun q hq H' Q' xx qq=>?_) (fun H1 h1 x1=>?_)⟩⟩
 . try walk_at "rn"
   exact ⟨q.1,q.2,H0,rfl,(hL q hq).ext xx,fun H2 x2=>qq _ x2⟩
 refine ⟨L.map fun q=>cW q.2,bC.of (by rw [h1,List.map_map];rfl),?_⟩
 have e:(L.map fun q=>cW q.2).all id=(L.map (·.2)).all cW:=by rw [List.all_map,List.all_map];rfl
 rw [e]
 exact q _ x1
def xO (K:PySem.W.Frag):Sp:=fun vs H Q _=>∃ a u us x m,vs=[.ref a,.str x,.int m]/\tupQ K H a=some (.str u::us)/\Q (.bl (decide ((us.length:Int) + 1=m)&&decide (u=x))) H
theorem zF:aE ["thing","word","many"] ["thing","word","many"] (af jh):=⟨rfl,rfl,rfl,by decide +kernel,rfl,by decide +kernel,by decide +kernel⟩
theorem zG {f:Addr} {fd:FuncData} (F:fM K "has_word" "has_word" jh f fd) {aG cF cR cN:Addr} {tE tF:Tok} (B:B K mg aG cF cR cN tE tF):bB P w K mg base fC 1 f fd ["thing","word","many"] (xO K):=by
 refine F.iM zF (fun vs H Q E h=>?_) (fun dg A outer s H vs Q E hr h=>?_)
 . obtain ⟨a,u,us,x,m,rfl,_⟩:=h
   rfl
 obtain ⟨a,u,us,x,m,rfl,ha,q⟩:=h
 refine ⟨_,(aq (d8 (tw (lB (jZ (gK (aI aK rfl B.isinstance aA (aa (ev 0) (aa (iL rfl B.tuple iO) aj))))) (je (aV ja (aI bE rfl B.len bN (aa (ev 0) aj)) (ev 2) (au _))))) (aH (aR yi)) bF)
     (aH (aR (iP (aI aK rfl B.isinstance aA (aa (dW bI (ev 0) ei (fun _ _=>rfl)) (aa (iL rfl B.str fN) aj))) (jY (jq bH (dW bI (ev 0) ei (fun _ _=>rfl)) (ev 1) (au _))))))),?_⟩
 simp_arith [br ha,ha]
 refine ⟨_,.tup ha,true,rfl,aF (by decide) ?_⟩
 by_cases c:(us.length:Int) + 1=m
 . exact aF (by simp;omega) ⟨_,.inl (.str _),true,rfl,aO rfl (by rw [decide_eq_true c] at q;exact q)⟩
 . exact aO (by simp;omega) (by rw [decide_eq_false c] at q;exact q)
def xQ (K:PySem.W.Frag):Sp:=fun vs H Q _=>∃ a o v rs H0,vs=[.ref a]/\tupQ K H a=some [.str (Str.ofString "leaf"),on o,v]/\LstAt K H0 H lZ rs v/\E6 rs/\(∀ l,rs=some l->∀ r∈l,r.2.length<=1000000)/\∀ H',Ext K H H'->Q (.bl (o.isSome&&E4 rs)) H'
theorem rq:aE ["thing"] ["thing"] (af eO):=⟨rfl,rfl,rfl,by decide +kernel,rfl,by decide +kernel,by decide +kernel⟩
theorem rz {f:Addr} {fd:FuncData} (F:fM K "is_leaf_told" "is_leaf_told" eO f fd) {aG cF cR cN:Addr} {tE tF:Tok} (B:B K mg aG cF cR cN tE tF) (gf:Callee P w K mg base "has_word" 1 ["thing","word","many"] (xO K)) (aQ:Callee P w K mg base "is_number" 1 ["thing"] lJ) (lO:Callee P w K mg base "are_rows" 6 ["thing"] (xJ K)):bB P w K mg base fC 7 f fd ["thing"] (xQ K):=by
 refine F.iM rq (fun vs H Q E h=>?_) (fun dg A outer s H vs Q E hr h=>?_)
 . obtain ⟨a,o,v,rs,H0,rfl,_⟩:=h
   rfl
 obtain ⟨a,o,v,rs,H0,rfl,ha,hv,lr,lv,q⟩:=h
 refine ⟨_,(aH (aR (iP (ay gf (hr.mono (by decide)) rfl (aa (ev 0) (aa bg (aa ei aj)))) (iP (ay aQ (hr.mono (by decide)) rfl (aa (dW bI (ev 0) ei (fun _ _=>rfl)) aj)) (jY (ay lO (hr.mono (by decide)) rfl (aa (dW bI (ev 0) ei (fun _ _=>rfl)) aj))))))),?_⟩
 simp_arith [br ha,ha]
 refine ⟨a,_,_,_,_,rfl,ha,_,rfl,aO (by simp) ⟨_,br ha,_,rfl,o,rfl,_,rfl,?_⟩⟩
 cases o with
 | none=>exact aF (by decide) (q _ Ext.refl)
 | some n=>
   refine aO rfl ⟨_,br ha,_,rfl,v,rfl,?_⟩
   cases rs with
   | none=>exact .inl ⟨hv,q _ Ext.refl⟩
   | some l=>
     obtain ⟨D,us,e,n,hD,hu⟩:=hv
     exact .inr ⟨D,us,l,H0,e,hD,hu,lr l rfl,lv l rfl,q⟩
def A1 (K:PySem.W.Frag):Sp:=fun vs H Q _=>∃ a o v C cs y pv rs H0,vs=[.ref a]/\tupQ K H a=some [.str (Str.ofString "inner"),on o,v,.ref C,y]/\H C=some (.lst (List.map V.int cs))/\cs.length<=1000000/\LstAt K H0 H PyData.int pv v/\E6 pv/\LstAt K H0 H RN.d rs y/\E6 rs/\
 ∀ H',Ext K H H'->Q (.bl (o.isSome&&pv.isSome&&E5 rs)) H'
theorem dF:aE ["thing","word","number","pivots","children","tray"] ["thing"] (af dP):=⟨rfl,rfl,rfl,by decide +kernel,rfl,by decide +kernel,by decide +kernel⟩
theorem qB {f:Addr} {fd:FuncData} (F:fM K "is_inner_told" "is_inner_told" dP f fd) {aG cF cR cN:Addr} {tE tF:Tok} (B:B K mg aG cF cR cN tE tF) (gf:Callee P w K mg base "has_word" 1 ["thing","word","many"] (xO K)) (aQ:Callee P w K mg base "is_number" 1 ["thing"] lJ) (iU:Callee P w K mg base "are_wholes" 2 ["thing"] (Kn K)) (ko:Callee P w K mg base "are_notes" 5 ["thing"] (t7 K)):bB P w K mg base fC 6 f fd ["thing"] (A1 K):=by
 refine F.iM dF (fun vs H Q E h=>?_) (fun dg A outer s H vs Q E hr h=>?_)
 . obtain ⟨a,o,v,C,cs,y,pv,rs,H0,rfl,_⟩:=h
   rfl
 obtain ⟨a,o,v,C,cs,y,pv,rs,H0,rfl,ha,hC,lC,hv,lv,hy,ly,q⟩:=h
 refine ⟨_,(aq (d8 (jZ (gK (ay gf (hr.mono (by decide)) rfl (aa (ev 0) (aa bg (aa ei aj)))))) (aH (aR yi)) bF)
     (aq (kX (ev 0) (jQ (n:=5) rfl (bf (aM (i:=1) dF.nd rfl (Or.inl rfl)) (bf (aM (i:=2) dF.nd rfl (Or.inl rfl)) (bf (aM (i:=3) dF.nd rfl (Or.inl rfl)) (bf (aM (i:=4) dF.nd rfl (Or.inl rfl)) (bf (aM (i:=5) dF.nd rfl (Or.inl rfl)) jA)))))))
     (aH (aR (iP (ay aQ (hr.mono (by decide)) rfl (aa (ev 2) aj)) (iP (ay iU (hr.mono (by decide)) rfl (aa (ev 3) aj)) (iP (ay iU (hr.mono (by decide)) rfl (aa (ev 4) aj)) (jY (ay ko (hr.mono (by decide)) rfl (aa (ev 5) aj)))))))))),?_⟩
 simp_arith [br ha,ha]
 refine ⟨a,_,_,_,_,rfl,ha,_,rfl,aF (by simp) ⟨_,ha,rfl,_,_,rfl,_,_,rfl,_,_,rfl,_,_,rfl,_,_,rfl,rfl,o,rfl,_,rfl,?_⟩⟩
 cases o with
 | none=>exact aF (by decide) (q _ Ext.refl)
 | some n=>
   refine aO rfl ⟨v,rfl,?_⟩
   cases pv with
   | none=>exact .inl ⟨hv,_,rfl,aF (by decide) (q _ Ext.refl)⟩
   | some pv=>
     obtain ⟨D,us,e,_,hD,hu⟩:=hv
     rw [hu.ints] at hD
     refine .inr ⟨D,pv,e,hD,lv pv rfl,fun H1 x1=>⟨_,rfl,aO rfl ⟨_,rfl,.inr ⟨C,cs,rfl,x1.at hC,lC,fun H2 x2=>⟨_,rfl,aO rfl ⟨y,rfl,?_⟩⟩⟩⟩⟩⟩
     have Lb:=x1.trans x2
     cases rs with
     | none=>exact .inl ⟨hy,q _ Lb⟩
     | some l=>
       obtain ⟨Y,us,e,_,hY,hu⟩:=hy
       exact .inr ⟨Y,us,l,H0,e,Lb.at hY,hu.ext Lb,ly l rfl,fun H3 x3=>q _ (Lb.trans x3)⟩
end
theorem jj (x s:Str):(Txt.partition x s).1.length<=x.length/\(Txt.partition x s).2.2.length<=x.length:=by
 rcases PyProof.Rows.partition_whole x s with ⟨h,hn⟩ | ⟨i,h,hi,hn⟩
 . rw [h]
   exact ⟨Nat.le_refl _,Nat.zero_le _⟩
 . rw [h]
   exact ⟨strSub_length_le _ _ _,strSub_length_le _ _ _⟩
theorem E7 {c:Nat} {s:Str} {k:Nat} (h:s.cps.toList=[k]):(⟨#[c]⟩:Str)=s↔c=k:=by
 constructor
 . intro e
   rw [<- e] at h
   simpa using h
 . intro e
   subst e
   exact jm (by rw [h])
theorem Mj:ao (Str.ofString "x")=none:=by decide +kernel
section
variable {P:Program} {w:World} {K:PySem.W.Frag} {mg:Str->Option Value} {base:Heap}
def vD (K:PySem.W.Frag) {α:Type} (rv:Str->Option α) (d:α->PyData):Sp:=fun vs H Q _=>∃ t:Str,vs=[.str t]/\t.length<=1000000/\∀ v H',Ext K H H'->bw K H H' (oD d (rv t)) v->Q v H'
theorem Rh {vs:List V} {H:Hp} {Q:VK} {E:XK} (h:vD K ao PyData.int vs H Q E):qW vs H Q E:=by
 obtain ⟨t,rfl,ht,q⟩:=h
 refine ⟨t,rfl,by omega,q _ _ Ext.refl ?_⟩
 cases ao t with
 | none=>exact bw.nn.mpr rfl
 | some i=>exact bw.ii.mpr rfl
def rA (K:PySem.W.Frag) {α:Type} (rv:Str->Option α) (d:α->PyData) (sep:Str) (fr:Addr):Sp:=fun vs H Q _=>∃ t:Str,vs=[.str t,.str sep,.ref fr]/\t.length<=1000000/\∀ v H',Ext K H H'->LstAt K H H' d (bU rv sep t) v->Q v H'
theorem pO:aE ["text","sign","read","told"] ["text","sign","read"] (af ic):=⟨rfl,rfl,rfl,by decide +kernel,rfl,by decide +kernel,by decide +kernel⟩
theorem iV {α:Type} {rv:Str->Option α} {d:α->PyData} {n c:Nat} {sep:Str} {f fr:Addr} {fd:FuncData} (F:fM K "read_list" "read_list" ic f fd) {aG cF cR cN:Addr} {tE tF:Tok} (B:B K mg aG cF cR cN tE tF) (hs:sep=⟨#[c]⟩) (hd:∀ a,gm (d a)=false) (zH:FnAt P w K mg base n ["text"] (vD K rv d) fr):bB P w K mg base fC (n + 1) f fd ["text","sign","read"] (rA K rv d sep fr):=by
 refine F.iM pO (fun vs H Q E h=>?_) (fun dg A outer s H vs Q E hr h=>?_)
 . obtain ⟨t,rfl,_⟩:=h
   rfl
 obtain ⟨t,rfl,ht,q⟩:=h
 obtain ⟨s1,s2⟩:=cG t c
 rw [<- hs] at s1 s2
 refine ⟨_,(aq (d8 (aV bH (ev 0) bg (au _)) (aH (aR (cK aj))) bF)
     (aq (K4 (i:=3) pO.nd rfl (Or.inl rfl) (j5.mk (N:=["piece","read"]) (src:=[none,some 2]) rfl rfl) rfl (d9 (lY PySem.F.plainAttrs_str PySem.F.slot_str_split PySem.F.type_str_split fU (ev 0) (aa (ev 1) aj))) (fun _ _ _ _=>(aM (i:=0) (show (["piece","read"]:List Str).Nodup from by decide +kernel) rfl (Or.inl rfl))) (fun _ _ _ _=>eB) (fun _ _ _ _=>(JK zH (hr.mono (Nat.le_refl _)) (ev 1) (aa (ev 0) aj))))
     (aH (aR (K3 (aV (tL hr.units) bZ (ev 3) (by with_unfolding_all rfl)) bZ (ev 3)))))),?_⟩
 try walk_at "rn"
 unfold bU at q
 refine cQ (fun c=>fun D nD=>?_) (fun c=>?_)
 . rw [if_pos c] at q
   exact q _ _ (Ext.new nD) ⟨D,[],rfl,nD,ah,.nil⟩
 rw [if_neg c] at q
 refine ⟨by rw [hs];rfl,by omega,by omega,fun D nD=>⟨⟨_,bC.of ah⟩,fun D1 n1=>?_⟩⟩
 have xD:=Ext.new (K:=K) (o:=.lst ((Txt.split t sep).map V.str)) nD
 refine xj (f:=V.str) (g:=fun p=>oD d (rv p)) (bC.of ah) n1 (by omega) (fun p hp H' Q' xx qq=>?_) (fun us H1 h1 hu x1=>?_)
 . try walk_at "rn"
   exact ⟨p,rfl,by have:=s2 p hp;omega,qq⟩
 have xx:=xD.trans x1
 rw [show (Txt.split t sep).map (fun p=>oD d (rv p))=((Txt.split t sep).map rv).map (oD d) from by rw [List.map_map];rfl] at hu
 refine ⟨us,.inl (bC.of h1),_,hu.is,?_⟩
 rw [jG hd]
 cases e:cH ((Txt.split t sep).map rv) with
 | none=>
   rw [e] at q
   exact aO rfl (q _ _ xx rfl)
 | some l=>
   rw [e] at q
   rw [fk e,List.map_map] at hu
   exact aF (by simp) (q _ _ xx ⟨D1,us,rfl,cO xD n1,h1,hu.old xD⟩)
def A2 (K:PySem.W.Frag) (fr:Addr):Sp:=fun vs H Q E=>∃ t:Str,vs=[.str t]/\rA K ao PyData.int (Str.ofString ",") fr [.str t,.str (Str.ofString ","),.ref fr] H Q E
theorem rB:aE ["text"] ["text"] (af eT):=⟨rfl,rfl,rfl,by decide +kernel,rfl,by decide +kernel,by decide +kernel⟩
theorem rC {f fr:Addr} {fd:FuncData} (F:fM K "read_numbers" "read_numbers" eT f fd) {aG cF cR cN:Addr} {tE tF:Tok} (B:B K mg aG cF cR cN tE tF) (Mk:mg "read_figures"=some (.ref fr)) (kq:Callee P w K mg base "read_list" 3 ["text","sign","read"] (rA K ao PyData.int (Str.ofString ",") fr)):bB P w K mg base fC 4 f fd ["text"] (A2 K fr):=by
 refine F.iM rB (fun vs H Q E h=>?_) (fun dg A outer s H vs Q E hr h=>?_)
 . obtain ⟨t,rfl,_⟩:=h
   rfl
 obtain ⟨t,rfl,q⟩:=h
 refine ⟨_,(aH (aR (ay kq (hr.mono (by decide)) rfl (aa (ev 0) (aa bg (aa (kW rfl Mk (show RelV (.ref fr) (.ref fr) from rfl)) aj)))))),?_⟩
 try walk_at "rn"
 exact q
theorem gR:aE ["text","number","colon","value"] ["text"] (af eU):=⟨rfl,rfl,rfl,by decide +kernel,rfl,by decide +kernel,by decide +kernel⟩
theorem lV {f:Addr} {fd:FuncData} (F:fM K "read_version" "read_version" eU f fd) {aG cF cR cN:Addr} {tE tF:Tok} (B:B K mg aG cF cR cN tE tF) (av:Callee P w K mg base "read_figures" 2 ["text"] qW):bB P w K mg base fC 3 f fd ["text"] (vD K m5 m6):=by
 refine F.iM gR (fun vs H Q E h=>?_) (fun dg A outer s H vs Q E hr h=>?_)
 . obtain ⟨t,rfl,_⟩:=h
   rfl
 obtain ⟨t,rfl,ht,q⟩:=h
 obtain ⟨p1,p2⟩:=jj t (Str.ofString ":")
 refine ⟨_,(aq (kX (lY PySem.F.plainAttrs_str PySem.F.slot_str_partition PySem.F.type_str_partition gj (ev 0) (aa bg aj)) (jQ (n:=3) rfl (bf (aM (i:=1) gR.nd rfl (Or.inl rfl)) (bf (aM (i:=2) gR.nd rfl (Or.inl rfl)) (bf (aM (i:=3) gR.nd rfl (Or.inl rfl)) jA)))))
     (aq (d8 (tw (lB (aV dh (ay av (hr.mono (by decide)) rfl (aa (ev 1) aj)) bZ (au _)) (je (tw (nX (aV ja (ev 3) bg (au _)) (jP (aV dh (ay av (hr.mono (by decide)) rfl (aa (ev 3) aj)) bZ (au _)))))))) (aH (aR bZ)) bF)
     (aH (aR (cJ (aa (ay av (hr.mono (by decide)) rfl (aa (ev 1) aj)) (aa (ay av (hr.mono (by decide)) rfl (aa (ev 3) aj)) aj))))))),?_⟩
 try walk_at "rn"
 refine ⟨by decide +kernel,by omega,fun D nD=>⟨_,rfl,by omega,?_⟩⟩
 have xD:=Ext.new (K:=K) (o:=.tup [V.str (Txt.partition t (Str.ofString ":")).1,V.str (Txt.partition t (Str.ofString ":")).2.1,V.str (Txt.partition t (Str.ofString ":")).2.2]) nD
 generalize upd H D (.tup [V.str (Txt.partition t (Str.ofString ":")).1,V.str (Txt.partition t (Str.ofString ":")).2.1,V.str (Txt.partition t (Str.ofString ":")).2.2])=G at xD ⊢
 unfold m5 at q
 have fin:∀ (n:Int) (o:Option Int),ao (Txt.partition t (Str.ofString ":")).1=some n->ao (Txt.partition t (Str.ofString ":")).2.2=o->(∀ v H',Ext K H H'->bw K H H' (m6 (n,o)) v->Q v H')->qW [V.str (Txt.partition t (Str.ofString ":")).1] G (fun x H1=>qW [V.str (Txt.partition t (Str.ofString ":")).2.2] H1 (fun x_1 H1=>∀ (p:Addr),new K H1 p->Q (V.ref p) (upd H1 p (HO.tup [x,x_1]))) E0) E0:=by
   intro n o en eo qq
   refine ⟨_,rfl,by omega,_,rfl,by omega,fun p np=>qq _ _ (xD.trans (Ext.new np)) ?_⟩
   rw [en,eo]
   unfold m6
   exact bw.tt.mpr ⟨p,_,rfl,aN,.cons (bw.ii.mpr rfl) (.cons (bw.oo.mpr rfl) .nil)⟩
 cases e1:ao (Txt.partition t (Str.ofString ":")).1 with
 | none=>
   rw [e1] at q
   exact aO rfl (q _ _ xD (bw.nn.mpr rfl))
 | some n=>
   rw [e1] at q
   refine aF (by simp [on]) ?_
   by_cases c:(Txt.partition t (Str.ofString ":")).2.2=Str.ofString "x"
   . dsimp only at q
     rw [if_pos c] at q
     exact aF (by simp [c]) (fin n none e1 (by rw [c,Mj]) q)
   . dsimp only at q
     rw [if_neg c] at q
     refine aO (by simp [c]) ⟨_,rfl,by omega,?_⟩
     cases e2:ao (Txt.partition t (Str.ofString ":")).2.2 with
     | none=>
       rw [e2] at q
       exact aO rfl (q _ _ xD (bw.nn.mpr rfl))
     | some i=>
       rw [e2] at q
       exact aF (by simp [on]) (fin n (some i) e1 e2 q)
theorem jv:aE ["text","key","sign","versions","told"] ["text"] (af ji):=⟨rfl,rfl,rfl,by decide +kernel,rfl,by decide +kernel,by decide +kernel⟩
theorem qN {f fv:Addr} {fd:FuncData} (F:fM K "read_row" "read_row" ji f fd) {aG cF cR cN:Addr} {tE tF:Tok} (B:B K mg aG cF cR cN tE tF) (av:Callee P w K mg base "read_figures" 2 ["text"] qW) (Ko:mg "read_version"=some (.ref fv)) (lu:Callee P w K mg base "read_list" 4 ["text","sign","read"] (rA K m5 m6 (Str.ofString ",") fv)):bB P w K mg base fC 5 f fd ["text"] (vD K jT lZ):=by
 refine F.iM jv (fun vs H Q E h=>?_) (fun dg A outer s H vs Q E hr h=>?_)
 . obtain ⟨t,rfl,_⟩:=h
   rfl
 obtain ⟨t,rfl,ht,q⟩:=h
 obtain ⟨p1,p2⟩:=jj t (Str.ofString "=")
 refine ⟨_,(aq (kX (lY PySem.F.plainAttrs_str PySem.F.slot_str_partition PySem.F.type_str_partition gj (ev 0) (aa bg aj)) (jQ (n:=3) rfl (bf (aM (i:=1) jv.nd rfl (Or.inl rfl)) (bf (aM (i:=2) jv.nd rfl (Or.inl rfl)) (bf (aM (i:=3) jv.nd rfl (Or.inl rfl)) jA)))))
     (aq (sset (i:=4) jv.nd rfl (Or.inl rfl) (cJ (aa (ay av (hr.mono (by decide)) rfl (aa (ev 1) aj)) (aa (ay lu (hr.mono (by decide)) rfl (aa (ev 3) (aa bg (aa (kW rfl Ko (show RelV (.ref fv) (.ref fv) from rfl)) aj)))) aj))))
     (aH (aR (K3 (aV (tL hr.units) bZ (ev 4) (by with_unfolding_all rfl)) bZ (ev 4)))))),?_⟩
 try walk_at "rn"
 refine ⟨by decide +kernel,by omega,fun D nD=>⟨_,rfl,by omega,_,rfl,by omega,fun v H1 x1 hv p np=>?_⟩⟩
 have xD:=Ext.new (K:=K) (o:=.tup [V.str (Txt.partition t (Str.ofString "=")).1,V.str (Txt.partition t (Str.ofString "=")).2.1,V.str (Txt.partition t (Str.ofString "=")).2.2]) nD
 have hv:=hv.old xD
 have x1:=xD.trans x1
 have xp:=Ext.new (K:=K) (o:=.tup [on (ao (Txt.partition t (Str.ofString "=")).1),v]) np
 have xx:=x1.trans xp
 have hv:=hv.ext xp
 unfold jT at q
 have tp:mw K (upd H1 p (.tup [on (ao (Txt.partition t (Str.ofString "=")).1),v])) p [on (ao (Txt.partition t (Str.ofString "=")).1),v]:=fc aN
 have tq:tupQ K (upd H1 p (.tup [on (ao (Txt.partition t (Str.ofString "=")).1),v])) p=some [on (ao (Txt.partition t (Str.ofString "=")).1),v]:=aN
 generalize upd H1 p (.tup [on (ao (Txt.partition t (Str.ofString "=")).1),v])=G at *
 cases e2:bU m5 (Str.ofString ",") (Txt.partition t (Str.ofString "=")).2.2 with
 | none=>
   rw [e2] at hv q
   refine ⟨_,.inr tp,[zz (ao (Txt.partition t (Str.ofString "=")).1),.none],(aU.cons (H0:=H) (bw.oo.mpr rfl) (.cons (bw.nn.mpr hv) .nil)).is,aO (by simp [gm]) ?_⟩
   cases e1:ao (Txt.partition t (Str.ofString "=")).1 with
   | none=>rw [e1] at q;exact q _ _ xx (bw.nn.mpr rfl)
   | some k=>rw [e1] at q;exact q _ _ xx (bw.nn.mpr rfl)
 | some l=>
   rw [e2] at hv q
   obtain ⟨D1,us,rfl,n1,h1,hu⟩:=hv
   have hl:bw K H G (.list (l.map m6)) (.ref D1):=bw.ll.mpr ⟨D1,us,rfl,n1,h1,hu⟩
   refine ⟨_,.inr tp,[zz (ao (Txt.partition t (Str.ofString "=")).1),.list (l.map m6)],(aU.cons (H0:=H) (bw.oo.mpr rfl) (.cons hl .nil)).is,?_⟩
   cases e1:ao (Txt.partition t (Str.ofString "=")).1 with
   | none=>rw [e1] at q;exact aO rfl (q _ _ xx (bw.nn.mpr rfl))
   | some k=>
     rw [e1] at q tq
     refine aF (by simp [gm,zz]) (q _ _ xx ?_)
     exact bw.tt.mpr ⟨p,_,rfl,tq,.cons (bw.ii.mpr rfl) (.cons hl .nil)⟩
theorem pP:aE ["text","number"] ["text"] (af ie):=⟨rfl,rfl,rfl,by decide +kernel,rfl,by decide +kernel,by decide +kernel⟩
theorem xU {f:Addr} {fd:FuncData} (F:fM K "read_half" "read_half" ie f fd) {aG cF cR cN:Addr} {tE tF:Tok} (B:B K mg aG cF cR cN tE tF) (av:Callee P w K mg base "read_figures" 2 ["text"] qW):bB P w K mg base fC 3 f fd ["text"] (vD K gG cg.hd):=by
 refine F.okM pP (fun vs H Q E h=>?_) (fun dg A outer s H vs Q E hr hm h=>?_)
 . obtain ⟨t,rfl,_⟩:=h
   rfl
 obtain ⟨t,rfl,ht,q⟩:=h
 refine ⟨_,(aq (d8 (aV bH (ev 0) bg (au _)) (aH (aR (kW rfl B.L7 B.BO))) bF)
     (aq (sset (i:=1) pP.nd rfl (Or.inl rfl) (ay av (hr.mono (by decide)) rfl (aa (bS fh (ev 0) (cz ei) dS) aj)))
     (aq (d8 (tw (lB (aV dh (ev 1) bZ (au _)) (je (aV qm (dW mG (ev 0) ei (fun _ _=>rfl)) bg (by with_unfolding_all rfl))))) (aH (aR bZ)) bF)
     (aH (aR (cJ (aa (K3 (aV bH (dW mG (ev 0) ei (fun _ _=>rfl)) bg (au _)) bg bg) (aa (ev 1) aj)))))))),?_⟩
 try walk_at "rn"
 unfold gG at q
 refine cQ (fun c=>?_) (fun c=>?_)
 . rw [if_pos c] at q
   exact q _ _ Ext.refl (bw.tt.mpr ⟨aG,_,rfl,hm.tup B.kG,.cons (bw.ss.mpr rfl) .nil⟩)
 rw [if_neg c] at q
 have ls:=Txt.slice_le t (some 1) none
 refine ⟨by omega,_,rfl,by omega,?_⟩
 cases e0:t.cps.toList with
 | nil=>
   have et:t=Str.ofString "":=jm (by rw [e0];decide +kernel)
   subst et
   rw [e0] at q
   refine aO (by decide +kernel) (q _ _ Ext.refl (bw.nn.mpr rfl))
 | cons x r=>
   have es:Txt.slice t (some 1) none=⟨r.toArray⟩:=jm (by
     have:=lK (x:=t) (n:=1) (by rw [str_len,e0];simp)
     rw [e0] at this
     simpa using this)
   rw [es]
   rw [e0] at q
   dsimp only at q
   cases e1:ao ⟨r.toArray⟩ with
   | none=>
     rw [e1] at q
     exact aO rfl (q _ _ Ext.refl (bw.nn.mpr rfl))
   | some n=>
     rw [e1] at q
     dsimp only at q
     have hp:(⟨#[x]⟩:Str)=Str.ofString "+"↔x=43:=E7 (by decide +kernel)
     have hc:Txt.contains (Str.ofString "+=") ⟨#[x]⟩=decide (x=43∨x=61):=by
       show (!(Builtin.Str.occurrences (Str.ofString "+=") ⟨#[x]⟩ 0 (Str.ofString "+=").length 1).isEmpty)=_
       rw [StrLaws.found_one,show (Str.ofString "+=").cps.toList=[43,61] from by decide +kernel]
       simp
     refine aF (by simp [on]) ⟨by omega,x,nH,?_⟩
     rw [hc]
     by_cases c1:x=43
     . rw [if_pos c1] at q
       refine aF (by simp [c1]) ⟨by omega,x,nH,aO (hp.mpr c1) fun p np=>q _ _ (Ext.new np) ?_⟩
       exact bw.tt.mpr ⟨p,_,rfl,aN,.cons (bw.ss.mpr rfl) (.cons (bw.ii.mpr rfl) .nil)⟩
     rw [if_neg c1] at q
     by_cases c2:x=61
     . rw [if_pos c2] at q
       refine aF (by simp [c2]) ⟨by omega,x,nH,aF (fun z=>c1 (hp.mp z)) fun p np=>q _ _ (Ext.new np) ?_⟩
       exact bw.tt.mpr ⟨p,_,rfl,aN,.cons (bw.ss.mpr rfl) (.cons (bw.ii.mpr rfl) .nil)⟩
     . rw [if_neg c2] at q
       exact aO (by simp [c1,c2]) (q _ _ Ext.refl (bw.nn.mpr rfl))
theorem zI {t:Str} (h:(Txt.split t (Str.ofString ".")).length≠5):fZ t=none:=by
 unfold fZ
 split
 . rename_i e
   rw [e] at h
   exact absurd rfl h
 . rfl
theorem E8:Str.ofString "."=⟨#[46]⟩:=by decide +kernel
theorem fq:aE ["text","pieces","number","low","high","there","none"] ["text"] (af ig):=⟨rfl,rfl,rfl,by decide +kernel,rfl,by decide +kernel,by decide +kernel⟩
theorem pQ {f:Addr} {fd:FuncData} (F:fM K "read_note" "read_note" ig f fd) {aG cF cR cN:Addr} {tE tF:Tok} (B:B K mg aG cF cR cN tE tF) (av:Callee P w K mg base "read_figures" 2 ["text"] qW) (iJ:Callee P w K mg base "read_half" 3 ["text"] (vD K gG cg.hd)):bB P w K mg base fC 4 f fd ["text"] (vD K fZ RN.d):=by
 refine F.iM fq (fun vs H Q E h=>?_) (fun dg A outer s H vs Q E hr h=>?_)
 . obtain ⟨t,rfl,_⟩:=h
   rfl
 obtain ⟨t,rfl,ht,q⟩:=h
 refine ⟨_,(aq (sset (i:=1) fq.nd rfl (Or.inl rfl) (lY PySem.F.plainAttrs_str PySem.F.slot_str_split PySem.F.type_str_split fU (ev 0) (aa bg aj)))
     (aq (d8 (aV ja (aI bE rfl B.len bN (aa (ev 1) aj)) ei (au _)) (aH (aR bZ)) bF)
     (aq (kX (ur (j5.mk (N:=["piece"]) (src:=[none]) rfl rfl) rfl (d9 (bS dI (ev 1) dS (cz ei))) (fun _ _ _ _=>(aM (i:=0) (show (["piece"]:List Str).Nodup from by decide +kernel) rfl (Or.inl rfl))) (fun _ _ _ _=>eB) (fun _ _ _ _=>(ay av (hr.mono (by decide)) rfl (aa (ev 0) aj)))) (yZ (n:=3) rfl (bf (aM (i:=2) fq.nd rfl (Or.inl rfl)) (bf (aM (i:=3) fq.nd rfl (Or.inl rfl)) (bf (aM (i:=4) fq.nd rfl (Or.inl rfl)) jA)))))
     (aq (kX (ur (j5.mk (N:=["piece"]) (src:=[none]) rfl rfl) rfl (d9 (bS dI (ev 1) (cz ei) dS)) (fun _ _ _ _=>(aM (i:=0) (show (["piece"]:List Str).Nodup from by decide +kernel) rfl (Or.inl rfl))) (fun _ _ _ _=>eB) (fun _ _ _ _=>(ay iJ (hr.mono (by decide)) rfl (aa (ev 0) aj)))) (yZ (n:=2) rfl (bf (aM (i:=5) fq.nd rfl (Or.inl rfl)) (bf (aM (i:=6) fq.nd rfl (Or.inl rfl)) jA))))
     (aH (aR (cJ (aa (ev 2) (aa (ev 3) (aa (ev 4) (aa (cJ (aa (ev 5) (aa (ev 6) aj))) aj))))))))))),?_⟩
 try walk_at "rn"
 obtain ⟨s1,s2⟩:=cG t 46
 rw [<- E8] at s1 s2
 refine ⟨by decide +kernel,by omega,by omega,fun D nD=>?_⟩
 have xD:=Ext.new (K:=K) (o:=.lst ((Txt.split t (Str.ofString ".")).map V.str)) nD
 by_cases hl:(Txt.split t (Str.ofString ".")).length=5
 case neg=>
   refine aO (by simp;omega) (q _ _ xD ?_)
   rw [zI hl]
   exact bw.nn.mpr rfl
 refine aF (by simp;omega) ?_
 obtain ⟨x,y,z,u,v,e⟩:∃ x y z u v,Txt.split t (Str.ofString ".")=[x,y,z,u,v]:=by
   rcases h:Txt.split t (Str.ofString ".") with _ | ⟨x,_ | ⟨y,_ | ⟨z,_ | ⟨u,_ | ⟨v,_ | ⟨w',r⟩⟩⟩⟩⟩⟩ <;> rw [h] at hl <;> simp only [List.length_cons,List.length_nil] at hl <;> first | omega | exact ⟨_,_,_,_,_,rfl⟩
 have en:fZ t=some ⟨ao x,ao y,ao z,gG u,gG v⟩:=by unfold fZ;rw [e]
 rw [en] at q
 rw [e] at xD s2 ⊢
 have hD:upd H D (.lst ([x,y,z,u,v].map V.str)) D=some (.lst ([x,y,z,u,v].map V.str)):=ah
 generalize upd H D (.lst ([x,y,z,u,v].map V.str))=G at xD hD ⊢
 refine ⟨_,bC.of hD,fun p np=>?_⟩
 have ep:iK ([x,y,z,u,v].map V.str) none (some 3)=[x,y,z].map V.str:=by rw [show iK ([x,y,z,u,v].map V.str) none (some 3)=([x,y,z,u,v].map V.str).take 3 from vX _ 3];rfl
 rw [ep]
 have xp:=Ext.new (K:=K) (o:=.lst ([x,y,z].map V.str)) np
 refine ⟨⟨_,bC.of ah⟩,fun D1 n1=>?_⟩
 refine jC (L:=[x,y,z]) (f:=V.str) (g:=fun p=>on (ao p)) (bC.of ah) n1 (by simp) (fun p hp H' Q' xx qq=>?_) (fun G1 h1 x1=>?_)
 . try walk_at "rn"
   refine ⟨p,rfl,?_,qq _ Ext.refl⟩
   have:=s2 p (by simp only [List.mem_cons,List.not_mem_nil,or_false] at hp ⊢;rcases hp with h | h | h <;> simp [h])
   omega
 have X1:=xp.trans x1
 refine ⟨_,bC.of h1,rfl,_,_,rfl,_,_,rfl,_,_,rfl,rfl,_,bC.of (X1.at hD),fun p2 np2=>?_⟩
 have ep2:iK ([x,y,z,u,v].map V.str) (some 3) none=[u,v].map V.str:=by rw [show iK ([x,y,z,u,v].map V.str) (some 3) none=([x,y,z,u,v].map V.str).drop 3 from qj _ 3];rfl
 rw [ep2]
 have La:=Ext.new (K:=K) (o:=.lst ([u,v].map V.str)) np2
 refine ⟨⟨_,bC.of ah⟩,fun D2 n2=>?_⟩
 refine xj (L:=[u,v]) (f:=V.str) (g:=fun p=>oD cg.hd (gG p)) (bC.of ah) n2 (by simp) (fun p hp H' Q' xx qq=>?_) (fun us G2 h2 hu x2=>?_)
 . try walk_at "rn"
   refine ⟨p,rfl,?_,qq⟩
   have:=s2 p (by simp only [List.mem_cons,List.not_mem_nil,or_false] at hp ⊢;rcases hp with h | h <;> simp [h])
   omega
 obtain ⟨v1,r1,rfl,a1,hu⟩:=aU.cc.mp hu
 obtain ⟨v2,r2,rfl,a2,hu⟩:=aU.cc.mp hu
 cases aU.nn.mp hu
 refine ⟨_,bC.of h2,rfl,_,_,rfl,_,_,rfl,rfl,fun p3 np3 p4 np4=>?_⟩
 have XX:=xD.trans (X1.trans La)
 have x3:=Ext.new (K:=K) (o:=.tup [v1,v2]) np3
 have x4:=Ext.new (K:=K) (o:=.tup [on (ao x),on (ao y),on (ao z),V.ref p3]) np4
 have hO:∀ o:Option cg,oD cg.hd o=B0 o:=fun o=>by cases o <;> rfl
 have a1:=a1.old XX
 have a2:=a2.old XX
 have a1:bw K H G2 (B0 (gG u)) v1:=by rw [<- hO];exact a1
 have a2:bw K H G2 (B0 (gG v)) v2:=by rw [<- hO];exact a2
 refine q _ _ (XX.trans (x2.trans (x3.trans x4))) (bw.tt.mpr ⟨p4,_,rfl,aN,.cons (bw.oo.mpr rfl) (.cons (bw.oo.mpr rfl) (.cons (bw.oo.mpr rfl) (.cons (bw.tt.mpr ⟨p3,_,rfl,x4.tup aN,.cons (a1.ext (x3.trans x4)) (.cons (a2.ext (x3.trans x4)) .nil)⟩) .nil)))⟩)
theorem iW:aE ["text","child","sign","place","told"] ["text"] (af ir):=⟨rfl,rfl,rfl,by decide +kernel,rfl,by decide +kernel,by decide +kernel⟩
theorem pR {f:Addr} {fd:FuncData} (F:fM K "read_spot" "read_spot" ir f fd) {aG cF cR cN:Addr} {tE tF:Tok} (B:B K mg aG cF cR cN tE tF) (av:Callee P w K mg base "read_figures" 2 ["text"] qW):bB P w K mg base fC 3 f fd ["text"] (vD K gF tZ):=by
 refine F.iM iW (fun vs H Q E h=>?_) (fun dg A outer s H vs Q E hr h=>?_)
 . obtain ⟨t,rfl,_⟩:=h
   rfl
 obtain ⟨t,rfl,ht,q⟩:=h
 obtain ⟨p1,p2⟩:=jj t (Str.ofString "@")
 refine ⟨_,(aq (kX (lY PySem.F.plainAttrs_str PySem.F.slot_str_partition PySem.F.type_str_partition gj (ev 0) (aa bg aj)) (jQ (n:=3) rfl (bf (aM (i:=1) iW.nd rfl (Or.inl rfl)) (bf (aM (i:=2) iW.nd rfl (Or.inl rfl)) (bf (aM (i:=3) iW.nd rfl (Or.inl rfl)) jA)))))
     (aq (sset (i:=4) iW.nd rfl (Or.inl rfl) (cJ (aa (ay av (hr.mono (by decide)) rfl (aa (ev 1) aj)) (aa (ay av (hr.mono (by decide)) rfl (aa (ev 3) aj)) aj))))
     (aH (aR (K3 (aV (tL hr.units) bZ (ev 4) (by with_unfolding_all rfl)) bZ (ev 4)))))),?_⟩
 try walk_at "rn"
 refine ⟨by decide +kernel,by omega,fun D nD=>⟨_,rfl,by omega,_,rfl,by omega,fun p np=>?_⟩⟩
 have xD:=Ext.new (K:=K) (o:=.tup [V.str (Txt.partition t (Str.ofString "@")).1,V.str (Txt.partition t (Str.ofString "@")).2.1,V.str (Txt.partition t (Str.ofString "@")).2.2]) nD
 generalize upd H D (.tup [V.str (Txt.partition t (Str.ofString "@")).1,V.str (Txt.partition t (Str.ofString "@")).2.1,V.str (Txt.partition t (Str.ofString "@")).2.2])=H1 at *
 have xp:=Ext.new (K:=K) (o:=.tup [on (ao (Txt.partition t (Str.ofString "@")).1),on (ao (Txt.partition t (Str.ofString "@")).2.2)]) np
 have xx:=xD.trans xp
 unfold gF at q
 have tq:tupQ K (upd H1 p (.tup [on (ao (Txt.partition t (Str.ofString "@")).1),on (ao (Txt.partition t (Str.ofString "@")).2.2)])) p=some [on (ao (Txt.partition t (Str.ofString "@")).1),on (ao (Txt.partition t (Str.ofString "@")).2.2)]:=aN
 generalize upd H1 p (.tup [on (ao (Txt.partition t (Str.ofString "@")).1),on (ao (Txt.partition t (Str.ofString "@")).2.2)])=G at *
 refine ⟨_,.inr (fc tq),[zz (ao (Txt.partition t (Str.ofString "@")).1),zz (ao (Txt.partition t (Str.ofString "@")).2.2)],(aU.cons (H0:=H) (bw.oo.mpr rfl) (.cons (bw.oo.mpr rfl) .nil)).is,?_⟩
 cases e1:ao (Txt.partition t (Str.ofString "@")).1 with
 | none=>rw [e1] at q;exact aO rfl (q _ _ xx (bw.nn.mpr rfl))
 | some k=>
   cases e2:ao (Txt.partition t (Str.ofString "@")).2.2 with
   | none=>rw [e1,e2] at q;exact aO (by simp [gm,zz]) (q _ _ xx (bw.nn.mpr rfl))
   | some l=>
     rw [e1,e2] at q tq
     exact aF (by simp [gm,zz]) (q _ _ xx (bw.tt.mpr ⟨p,_,rfl,tq,.cons (bw.ii.mpr rfl) (.cons (bw.ii.mpr rfl) .nil)⟩))
def xV (K:PySem.W.Frag):Sp:=fun vs H Q _=>∃ p n r,vs=[.ref p]/\H p=some (.lst [.str (Str.ofString "leaf"),.str n,.str r])/\n.length<=1000000/\r.length < 1000000/\(iS n r=none->∀ H',Ext K H H'->Q .cY H')/\(∀ x,iS n r=some x->∀ T H',Ext K H H'->qA K H H' T x->Q (.ref T) H')
theorem lP:Str.ofString ";"=⟨#[59]⟩:=by decide +kernel
theorem zJ {r:Str} {l:List (Int×List qM)} (h:bU jT (Str.ofString ";") r=some l) (hr:r.length < 1000000):l.length<=1000000/\∀ x∈l,x.2.length<=1000000:=by
 rw [lP] at h
 refine ⟨by have:=iI h;omega,fun x hx=>?_⟩
 unfold bU at h
 split at h
 . cases h;cases hx
 . have:=fk h
   have hm:some x∈(Txt.split r ⟨#[59]⟩).map jT:=by rw [this];exact List.mem_map_of_mem hx
   obtain ⟨p,hp,e⟩:=List.mem_map.mp hm
   have lp:=(cG r 59).2 p hp
   unfold jT at e
   split at e
   . rename_i k vs e1 e2
     cases e
     rw [fV] at e2
     have:=iI e2
     have:=(jj p (Str.ofString "=")).2
     show vs.length<=_
     omega
   . cases e
theorem iX:aE ["pieces","word","number","rows","leaf"] ["pieces"] (af iu):=⟨rfl,rfl,rfl,by decide +kernel,rfl,by decide +kernel,by decide +kernel⟩
theorem xW {f fw:Addr} {fd:FuncData} (F:fM K "read_leaf" "read_leaf" iu f fd) {aG cF cR cN:Addr} {tE tF:Tok} (B:B K mg aG cF cR cN tE tF) (av:Callee P w K mg base "read_figures" 2 ["text"] qW) (Ml:mg "read_row"=some (.ref fw)) (pS:Callee P w K mg base "read_list" 6 ["text","sign","read"] (rA K jT lZ (Str.ofString ";") fw)) (iY:Callee P w K mg base "is_leaf_told" 7 ["thing"] (xQ K)):bB P w K mg base fC 8 f fd ["pieces"] (xV K):=by
 refine F.iM iX (fun vs H Q E h=>?_) (fun dg A outer s H vs Q E hr h=>?_)
 . obtain ⟨p,n,r,rfl,_⟩:=h
   rfl
 obtain ⟨p,n,r,rfl,hp,ln,lr,qn,q⟩:=h
 refine ⟨_,(aq (kX (ev 0) (yZ (n:=3) rfl (bf (aM (i:=1) iX.nd rfl (Or.inl rfl)) (bf (aM (i:=2) iX.nd rfl (Or.inl rfl)) (bf (aM (i:=3) iX.nd rfl (Or.inl rfl)) jA)))))
     (aq (sset (i:=4) iX.nd rfl (Or.inl rfl) (cJ (aa (ev 1) (aa (ay av (hr.mono (by decide)) rfl (aa (ev 2) aj)) (aa (ay pS (hr.mono (by decide)) rfl (aa (ev 3) (aa bg (aa (kW rfl Ml (show RelV (.ref fw) (.ref fw) from rfl)) aj)))) aj)))))
     (aH (aR (K3 (tw (nX (gK (ay iY (hr.mono (by decide)) rfl (aa (ev 4) aj))) (jP (aV sD (dW bI (ev 4) ei (fun _ _=>rfl)) ei (au _))))) (cJ (aa (ev 4) (aa sW aj))) bZ))))),?_⟩
 simp_arith [aX hp,hp]
 refine ⟨_,bC.of hp,rfl,_,_,rfl,_,_,rfl,_,_,rfl,rfl,n,rfl,by omega,r,rfl,by omega,fun v H1 x1 hv a na=>?_⟩
 have xa:=Ext.new (K:=K) (o:=.tup [V.str (Str.ofString "leaf"),on (ao n),v]) na
 have ha:tupQ K (upd H1 a (.tup [V.str (Str.ofString "leaf"),on (ao n),v])) a=some [V.str (Str.ofString "leaf"),on (ao n),v]:=aN
 generalize upd H1 a (.tup [V.str (Str.ofString "leaf"),on (ao n),v])=H2 at xa ha ⊢
 have hv:=hv.ext xa
 have Ke:∀ l,bU jT (Str.ofString ";") r=some l->l.length<=1000000/\∀ x∈l,x.2.length<=1000000:=fun l e=>zJ e lr
 refine ⟨a,ao n,v,_,H,rfl,ha,hv,fun l e=>(Ke l e).1,fun l e=>(Ke l e).2,fun H3 x3=>⟨_,rfl,?_⟩⟩
 have XX:=x1.trans (xa.trans x3)
 unfold iS at qn q
 cases e1:ao n with
 | none=>
   rw [e1] at qn
   exact aF (by simp [E4]) (qn rfl _ XX)
 | some i=>
   rw [e1] at qn q ha
   cases e2:bU jT (Str.ofString ";") r with
   | none=>
     rw [e2] at qn
     exact aF (by simp [E4]) (qn rfl _ XX)
   | some l=>
     rw [e2] at qn q hv
     dsimp only at qn q
     cases c:kM l
     . refine aF (by show ¬ ((true&&kM l)=true);rw [c];decide) (qn ?_ _ XX)
       rw [c,Bool.and_false]
       rfl
     refine aO (by show (true&&kM l)=true;rw [c];rfl) ⟨_,br (x3.tup ha),_,rfl,i,rfl,cQ (fun c0=>?_) (fun c0=>?_)⟩
     . intro P nP T nT
       have xP:=Ext.new (K:=K) (o:=.dK []) nP
       have xT:=Ext.new (K:=K) (o:=.tup [V.ref a,V.ref P]) nT
       obtain ⟨D,us,rfl,nD,hD,hu⟩:=hv
       have y:=x3.trans (xP.trans xT)
       rw [c,decide_eq_true c0] at q
       have Ri:=y.at hD
       have hP:upd (upd H3 P (.dK [])) T (.tup [V.ref a,V.ref P]) P=some (.dK []):=xT.at ah
       refine q _ (if_pos rfl) T _ (XX.trans (xP.trans xT)) ⟨a,D,P,us,aN,y.tup ha,nD,Ri,hu.ext y,cO XX nP,hP,fun z=>?_⟩
       rw [z,hP] at Ri
       cases Ri
     . refine qn ?_ _ XX
       rw [decide_eq_false c0]
       rfl
theorem zK (L:List (Int×V)) (k:Int):(gH (jr L) (.inl k)).isSome=decide (k∈L.map (·.1)):=by
 have key:∀ n,n<=L.length->(gH (jr (L.take n)) (.inl k)).isSome=decide (k∈(L.take n).map (·.1)):=by
   intro n
   induction n with
   | zero=>intro _;rfl
   | succ n ih=>
     intro h
     rw [List.take_add_one,List.getElem?_eq_getElem (by omega),Option.toList_some,nk,oK,List.map_append]
     have ih:=ih (by omega)
     by_cases c:k=L[n].1
     . rw [if_pos (by rw [c])]
       simp [c]
     . rw [if_neg (fun z=>c (Sum.inl.inj z)),ih]
       exact decide_eq_decide.mpr (by simp [c])
 have:=key L.length (Nat.le_refl _)
 rwa [List.take_length] at this
theorem t8 {L:List (Int×V)}:((L.map (·.1)).Nodup->jr L=L.map fun q=>(.inl q.1,q.2))/\(¬ (L.map (·.1)).Nodup->(jr L).length≠L.length):=by
 have key:∀ n,n<=L.length->(((L.take n).map (·.1)).Nodup->jr (L.take n)=(L.take n).map fun q=>(.inl q.1,q.2))/\(¬ ((L.take n).map (·.1)).Nodup->(jr (L.take n)).length < n):=by
   intro n
   induction n with
   | zero=>intro _;exact ⟨fun _=>rfl,fun h=>absurd List.nodup_nil h⟩
   | succ n ih=>
     intro h
     have ih:=ih (by omega)
     have l1:(jr (L.take n)).length<=n:=by have:=mV (L.take n);rw [List.length_take] at this;omega
     rw [List.take_add_one,List.getElem?_eq_getElem (by omega),Option.toList_some,nk,List.map_append,List.map_append]
     generalize L[n]=q
     have hh:=zK (L.take n) q.1
     rw [<- mK] at hh
     by_cases c:q.1∈(L.take n).map (·.1)
     . rw [decide_eq_true c] at hh
       refine ⟨fun z=>?_,fun _=>?_⟩
       . rw [List.nodup_append] at z
         exact absurd rfl (z.2.2 q.1 c q.1 (by simp))
       . unfold putK
         rw [if_pos hh,List.length_map]
         omega
     . rw [decide_eq_false c] at hh
       unfold putK
       rw [if_neg (by rw [hh];decide)]
       refine ⟨fun z=>?_,fun z=>?_⟩
       . rw [List.nodup_append] at z
         rw [ih.1 z.1]
         rfl
       . rw [List.length_append]
         have:¬ ((L.take n).map (·.1)).Nodup:=fun y=>z (by
           rw [List.nodup_append]
           refine ⟨y,by simp,fun a ha b hb e=>c ?_⟩
           simp only [List.map_cons,List.map_nil,List.mem_singleton] at hb
           rw [<- hb,<- e]
           exact ha)
         have:=ih.2 this
         simp only [List.length_singleton]
         omega
 have:=key L.length (Nat.le_refl _)
 rw [List.take_length] at this
 exact ⟨this.1,fun h=>Nat.ne_of_lt (this.2 h)⟩
theorem t9 {p:Int×Int}:∀ {L:List (Int×Int)},(L.map (·.1)).Nodup->p∈L->gH (L.map fun q=>((.inl q.1:Key),V.int q.2)) (.inl p.1)=some (V.int p.2)
 | [],_,h=>nomatch h
 | q::L,nd,h=>by
   rw [List.map_cons,List.nodup_cons] at nd
   rcases List.mem_cons.mp h with rfl | h
   . exact fz (p:=((.inl p.1:Key),V.int p.2)) rfl
   . rw [List.map_cons,fB (fun z=>nd.1 (by
       have:q.1=p.1:=Sum.inl.inj z
       rw [this]
       exact List.mem_map_of_mem h))]
     exact t9 nd.2 h
def A3 (K:PySem.W.Frag):Sp:=fun vs H Q _=>∃ a n v D pv C sp y P,vs=[.ref a,.ref P]/\tupQ K H a=some [.str (Str.ofString "inner"),.int n,.ref D,.ref C,y]/\v=V.ref D/\H D=some (.lst (List.map V.int pv))/\H C=some (.lst (List.map (fun p:Int×Int=>V.int p.1) sp))/\H P=some (.dK (jr (List.map (fun p:Int×Int=>(p.1,V.int p.2)) sp)))/\sp.length<=1000000/\pv.length<=1000000/\
 ∀ H',Ext K H H'->Q (.bl (decide (sp.length=pv.length + 1)&&decide ((sp.map (·.1)).Nodup)&&decide (0<=n)&&sp.all (fun p=>decide (0<=p.1)&&decide (0<=p.2)))) H'
theorem bY:aE ["inner","places","word","number","pivots","children","tray"] ["inner","places"] (af cI):=⟨rfl,rfl,rfl,by decide +kernel,rfl,by decide +kernel,by decide +kernel⟩
theorem m7 {f:Addr} {fd:FuncData} (F:fM K "is_inner_writable" "is_inner_writable" cI f fd) {aG cF cR cN:Addr} {tE tF:Tok} (B:B K mg aG cF cR cN tE tF):bB P w K mg base fC 1 f fd ["inner","places"] (A3 K):=by
 refine F.iM bY (fun vs H Q E h=>?_) (fun dg A outer s H vs Q E hr h=>?_)
 . obtain ⟨a,n,v,D,pv,C,sp,y,P,rfl,_⟩:=h
   rfl
 obtain ⟨a,n,v,D,pv,C,sp,y,P,rfl,ha,rfl,hD,hC,hP,ls,lp,q⟩:=h
 refine ⟨_,(aq (kX (ev 0) (jQ (n:=5) rfl (bf (aM (i:=2) bY.nd rfl (Or.inl rfl)) (bf (aM (i:=3) bY.nd rfl (Or.inl rfl)) (bf (aM (i:=4) bY.nd rfl (Or.inl rfl)) (bf (aM (i:=5) bY.nd rfl (Or.inl rfl)) (bf (aM (i:=6) bY.nd rfl (Or.inl rfl)) jA)))))))
     (aq (d8 (tw (lB (aV ja (aI bE rfl B.len bN (aa (ev 5) aj)) (dB cu (aI bE rfl B.len bN (aa (ev 4) aj)) ei) (au _)) (je (aV ja (aI ql rfl B.len bN (aa (ev 1) aj)) (aI bE rfl B.len bN (aa (ev 5) aj)) (au _))))) (aH (aR yi)) bF)
     (aH (aR (aI (gY rfl) rfl B.all mO (aa (ur (j5.mk (N:=["part"]) (src:=[none]) rfl rfl) rfl (d9 (dB jl (dB jl (cK (aa (ev 3) aj)) (ev 5)) (ur (j5.mk (N:=["child","places"]) (src:=[none,some 1]) rfl rfl) rfl (d9 (ev 5)) (fun _ _ _ _=>(aM (i:=0) (show (["child","places"]:List Str).Nodup from by decide +kernel) rfl (Or.inl rfl))) (fun _ _ _ _=>eB) (fun _ _ _ _=>(BF hr.units (ev 1) (ev 0) (fun _ _=>rfl)))))) (fun _ _ _ _=>(aM (i:=0) (show (["part"]:List Str).Nodup from by decide +kernel) rfl (Or.inl rfl))) (fun _ _ _ _=>eB) (fun _ _ _ _=>(jq sD (ev 0) ei (au _)))) aj)))))),?_⟩
 simp_arith [aX hD,aX hC,br ha,ha]
 have eK:(sp.map fun p=>(p.1,V.int p.2)).map (·.1)=sp.map (·.1):=by rw [List.map_map];rfl
 have Rj:=t8 (L:=sp.map fun p=>(p.1,V.int p.2))
 rw [eK,List.length_map] at Rj
 by_cases c1:sp.length=pv.length + 1
 case neg=>
   refine aO (by simp;omega) ?_
   have:=q _ Ext.refl
   rw [decide_eq_false c1] at this
   exact this
 refine aF (by simp;omega) (.inr ⟨_,hP,?_⟩)
 by_cases c2:(sp.map (·.1)).Nodup
 case neg=>
   have:=Rj.2 c2
   refine aO (by simp;omega) ?_
   have:=q _ Ext.refl
   rw [decide_eq_false c2,Bool.and_false] at this
   exact this
 have ef:=Rj.1 c2
 rw [List.map_map] at ef
 refine aF (by rw [ef];simp) fun p np=>?_
 have xp:=Ext.new (K:=K) (o:=.lst [V.int n]) np
 refine ⟨_,xp.at hC,by simp;omega,fun p1 np1=>?_⟩
 have xp1:=Ext.new (K:=K) (o:=.lst (V.int n::sp.map fun p=>V.int p.1)) np1
 have X1:=xp.trans xp1
 have lU:upd (upd H p (.lst [V.int n])) p1 (.lst (V.int n::sp.map fun p=>V.int p.1)) p1=some (.lst (V.int n::sp.map fun p=>V.int p.1)):=ah
 refine ⟨⟨_,bC.of (X1.at hC)⟩,fun D1 n1=>?_⟩
 refine jC (L:=sp) (f:=fun p=>V.int p.1) (g:=fun p=>V.int p.2) (bC.of (X1.at hC)) n1 (by omega) (fun s hs H' Q' xx qq=>?_) (fun H1 h1 x1=>?_)
 . try walk_at "rn"
   have hd:=oM.k (k:=.inl s.1) ((X1.trans xx).at hP)
   rw [ef] at hd
   have hv:=t9 c2 hs
   refine ⟨V.int s.2,?_,qq _ Ext.refl⟩
   rw [<- hv]
   exact hd
 refine ⟨_,x1.at lU,_,h1,by simp;omega,fun p2 np2=>?_⟩
 have La:=Ext.new (K:=K) (o:=.lst ((V.int n::sp.map fun p=>V.int p.1)++sp.map fun p=>V.int p.2)) np2
 have eL:(V.int n::sp.map fun p=>V.int p.1)++(sp.map fun p=>V.int p.2)=(n::(sp.map (·.1)++sp.map (·.2))).map V.int:=by rw [List.map_cons,List.map_append,List.map_map,List.map_map];rfl
 have h2:upd H1 p2 (.lst ((V.int n::sp.map fun p=>V.int p.1)++sp.map fun p=>V.int p.2)) p2=some (.lst ((n::(sp.map (·.1)++sp.map (·.2))).map V.int)):=by rw [ah,eL]
 refine ⟨⟨_,bC.of ah⟩,fun D2 n2=>?_⟩
 refine jC (L:=n::(sp.map (·.1)++sp.map (·.2))) (f:=V.int) (g:=fun i=>V.bl (decide (0<=i))) (bC.of h2) n2 (by simp;omega) (fun s hs H' Q' xx qq=>?_) (fun H2 h2 x2=>?_)
 . try walk_at "rn"
   exact qq _ Ext.refl
 refine ⟨(n::(sp.map (·.1)++sp.map (·.2))).map fun i=>decide (0<=i),bC.of (by rw [h2,List.map_map];rfl),?_⟩
 have:=q _ (X1.trans (x1.trans (La.trans x2)))
 rw [decide_eq_true c1,decide_eq_true c2] at this
 have e3:((n::(sp.map (·.1)++sp.map (·.2))).map fun i=>decide (0<=i)).all id=(true&&true&&decide (0<=n)&&sp.all fun p=>decide (0<=p.1)&&decide (0<=p.2)):=by
   rw [Bool.eq_iff_iff]
   simp only [List.all_map,List.all_cons,List.all_append,Bool.and_eq_true,List.all_eq_true,Function.comp,id,decide_eq_true_eq,true_and]
   exact ⟨fun h=>⟨h.1,fun p hp=>⟨h.2.1 p hp,h.2.2 p hp⟩⟩,fun h=>⟨h.1,fun p hp=>(h.2 p hp).1,fun p hp=>(h.2 p hp).2⟩⟩
 rw [e3]
 exact this
def A4 (K:PySem.W.Frag):Sp:=fun vs H Q _=>∃ p n pv sp y,vs=[.ref p]/\H p=some (.lst [.str (Str.ofString "inner"),.str n,.str pv,.str sp,.str y])/\n.length<=1000000/\pv.length < 1000000/\sp.length < 1000000/\y.length < 1000000/\(fS n pv sp y=none->∀ H',Ext K H H'->Q .cY H')/\(∀ x,fS n pv sp y=some x->∀ T H',Ext K H H'->qA K H H' T x->Q (.ref T) H')
theorem ck:aE ["pieces","word","number","pivots","spots","tray","pairs","children","inner","places"] ["pieces"] (af gu):=⟨rfl,rfl,rfl,by decide +kernel,rfl,by decide +kernel,by decide +kernel⟩
theorem uL {f fr fs fn:Addr} {fd:FuncData} (F:fM K "read_inner" "read_inner" gu f fd) {aG cF cR cN:Addr} {tE tF:Tok} (B:B K mg aG cF cR cN tE tF) (av:Callee P w K mg base "read_figures" 2 ["text"] qW) (iZ:Callee P w K mg base "read_numbers" 4 ["text"] (A2 K fr)) (Mm:mg "read_spot"=some (.ref fs)) (nA:Callee P w K mg base "read_list" 4 ["text","sign","read"] (rA K gF tZ (Str.ofString ",") fs)) (Mn:mg "read_note"=some (.ref fn)) (nB:Callee P w K mg base "read_list" 5 ["text","sign","read"] (rA K fZ RN.d (Str.ofString ";") fn)) (gS:Callee P w K mg base "is_inner_told" 6 ["thing"] (A1 K)) (dY:Callee P w K mg base "is_inner_writable" 1 ["inner","places"] (A3 K)):bB P w K mg base fC 7 f fd ["pieces"] (A4 K):=by
 refine F.iM ck (fun vs H Q E h=>?_) (fun dg A outer s H vs Q E hr h=>?_)
 . obtain ⟨p,n,pv,sp,y,rfl,_⟩:=h
   rfl
 obtain ⟨p,n,pv,sp,y,rfl,hp,ln,lp,ls,ly,qn,q⟩:=h
 refine ⟨_,(aq (kX (ev 0) (yZ (n:=5) rfl (bf (aM (i:=1) ck.nd rfl (Or.inl rfl)) (bf (aM (i:=2) ck.nd rfl (Or.inl rfl)) (bf (aM (i:=3) ck.nd rfl (Or.inl rfl)) (bf (aM (i:=4) ck.nd rfl (Or.inl rfl)) (bf (aM (i:=5) ck.nd rfl (Or.inl rfl)) jA)))))))
     (aq (sset (i:=6) ck.nd rfl (Or.inl rfl) (ay nA (hr.mono (by decide)) rfl (aa (ev 4) (aa bg (aa (kW rfl Mm (show RelV (.ref fs) (.ref fs) from rfl)) aj)))))
     (aq (d8 (aV dh (ev 6) bZ (au _)) (aH (aR bZ)) bF)
     (aq (K4 (i:=7) ck.nd rfl (Or.inl rfl) (j5.mk (N:=["child","place"]) (src:=[none,none]) rfl rfl) rfl (d9 (ev 6)) (fun _ _ _ _=>(sU K (n:=2) rfl (bf (aM (i:=0) (show (["child","place"]:List Str).Nodup from by decide +kernel) rfl (Or.inl rfl)) (bf (aM (i:=1) (show (["child","place"]:List Str).Nodup from by decide +kernel) rfl (Or.inl rfl)) jA)))) (fun _ _ _ _=>eB) (fun _ _ _ _=>(ev 0)))
     (aq (sset (i:=8) ck.nd rfl (Or.inl rfl) (cJ (aa (ev 1) (aa (ay av (hr.mono (by decide)) rfl (aa (ev 2) aj)) (aa (ay iZ (hr.mono (by decide)) rfl (aa (ev 3) aj)) (aa (ev 7) (aa (ay nB (hr.mono (by decide)) rfl (aa (ev 5) (aa bg (aa (kW rfl Mn (show RelV (.ref fn) (.ref fn) from rfl)) aj)))) aj)))))))
     (aq (sset (i:=9) ck.nd rfl (Or.inl rfl) (cZ (AF rfl) rfl B.dict vU (aa (ev 6) aj)))
     (aH (aR (K3 (tw (nX (gK (ay gS (hr.mono (by decide)) rfl (aa (ev 8) aj))) (jP (gK (ay dY (hr.mono (by decide)) rfl (aa (ev 8) (aa (ev 9) aj))))))) (cJ (aa (ev 8) (aa (ev 9) aj))) bZ))))))))),?_⟩
 simp_arith [aX hp,hp]
 refine ⟨_,bC.of hp,rfl,_,_,rfl,_,_,rfl,_,_,rfl,_,_,rfl,_,_,rfl,rfl,sp,rfl,by omega,fun v H1 x1 hv=>?_⟩
 cases e3:bU gF (Str.ofString ",") sp with
 | none=>
   rw [e3] at hv
   cases hv
   refine aO rfl (qn ?_ _ x1)
   unfold fS
   rw [e3]
   cases ao n <;> cases bU ao (Str.ofString ",") pv <;> rfl
 | some l=>
 rw [e3] at hv
 obtain ⟨D0,us,rfl,n0,h0,hu⟩:=hv
 obtain ⟨L,rfl,rfl,hL⟩:=hu.zip
 have ll:L.length<=1000000:=by
   rw [fV] at e3
   have:=iI e3
   rw [List.length_map] at this
   omega
 refine aF (by simp) ⟨D0,rfl,⟨_,bC.of h0⟩,fun C nC=>AZ (L:=L) (k:=fun p=>p.1) (u:=fun p=>V.int p.2) (bC.of h0) (fun q hq=>zC (hL q hq)) nC (by omega) (fun H2 hC x2=>?_)⟩
 refine ⟨n,rfl,by omega,pv,rfl,pv,rfl,by omega,fun v2 H3 x3 Km=>⟨y,rfl,by omega,fun v3 H4 x4 Ih a na=>?_⟩⟩
 have xa:=Ext.new (K:=K) (o:=.tup [V.str (Str.ofString "inner"),on (ao n),v2,V.ref C,v3]) na
 have ha:tupQ K (upd H4 a (.tup [V.str (Str.ofString "inner"),on (ao n),v2,V.ref C,v3])) a=some [V.str (Str.ofString "inner"),on (ao n),v2,V.ref C,v3]:=aN
 generalize upd H4 a (.tup [V.str (Str.ofString "inner"),on (ao n),v2,V.ref C,v3])=H5 at xa ha ⊢
 have X12:=x1.trans x2
 have X13:=X12.trans x3
 have X14:=X13.trans x4
 have X25:=x2.trans (x3.trans (x4.trans xa))
 refine ⟨D0,rfl,L.map fun q=>(q.1,q.2.1,V.int q.2.2),?_,?_,by rw [List.length_map];omega,fun P nP=>?_⟩
 . have:=X25.at h0
   exact bC.of (by rw [this,List.map_map];rfl)
 . intro q hq
   obtain ⟨q',hq',rfl⟩:=List.mem_map.mp hq
   exact zC ((hL q' hq').ext X25)
 rw [show (L.map fun q=>(q.1,q.2.1,V.int q.2.2)).map (·.2)=(L.map (·.2)).map fun p=>(p.1,V.int p.2) from by rw [List.map_map,List.map_map];rfl]
 have xP:=Ext.new (K:=K) (o:=.dK (jr ((L.map (·.2)).map fun p=>(p.1,V.int p.2)))) nP
 have hP:=ah (H:=H5) (a:=P) (o:=.dK (jr ((L.map (·.2)).map fun p=>(p.1,V.int p.2))))
 have ha:=xP.tup ha
 have Mp:new K H P:=cO (X14.trans xa) nP
 have Y:Ext K H2 (upd H5 P (.dK (jr ((L.map (·.2)).map fun p=>(p.1,V.int p.2))))):=x3.trans (x4.trans (xa.trans xP))
 have hC:=Y.at hC
 have Km:=(Km.old X12).ext (x4.trans (xa.trans xP))
 have Ih:=(Ih.old X13).ext (xa.trans xP)
 have X16:=X14.trans (xa.trans xP)
 generalize upd H5 P (.dK (jr ((L.map (·.2)).map fun p=>(p.1,V.int p.2))))=H6 at *
 have fp:E6 (bU ao (Str.ofString ",") pv):=fun l e=>by rw [fV] at e;have:=iI e;omega
 have fy:E6 (bU fZ (Str.ofString ";") y):=fun l e=>by rw [lP] at e;have:=iI e;omega
 have eC:(L.map fun q=>q.2.1).map V.int=(L.map (·.2)).map fun p=>V.int p.1:=by rw [List.map_map,List.map_map];rfl
 refine ⟨a,ao n,v2,C,L.map fun q=>q.2.1,v3,_,_,H,rfl,ha,hC,by rw [List.length_map];omega,Km,fp,Ih,fy,fun H7 x7=>⟨_,rfl,?_⟩⟩
 have Mq:=X16.trans x7
 unfold fS at qn q
 rw [e3] at qn q
 cases e1:ao n with
 | none=>
   rw [e1] at qn
   exact aF (by simp) (qn rfl _ Mq)
 | some i=>
 rw [e1] at qn q ha
 cases e2:bU ao (Str.ofString ",") pv with
 | none=>
   rw [e2] at qn
   exact aF (by simp) (qn rfl _ Mq)
 | some ps=>
 rw [e2] at qn q Km
 cases e4:bU fZ (Str.ofString ";") y with
 | none=>
   rw [e4] at qn
   exact aF (by simp [E5]) (qn rfl _ Mq)
 | some ts=>
 rw [e4] at qn q Ih
 dsimp only at qn q
 unfold pK at qn q
 cases c1:ts.all cW with
 | false=>
   rw [c1] at qn
   exact aF (by show ¬ ((true&&true&&ts.all cW)=true);rw [c1];decide) (qn rfl _ Mq)
 | true=>
 rw [c1] at qn q
 refine aO (by show (true&&true&&ts.all cW)=true;rw [c1];rfl) ?_
 obtain ⟨D,us2,rfl,nD,hD,hu2⟩:=Km
 have Hh:=hD
 rw [hu2.ints] at Hh
 rw [eC] at hC
 refine ⟨a,i,_,D,ps,C,L.map (·.2),v3,P,rfl,x7.tup ha,rfl,x7.at Hh,x7.at hC,x7.at hP,by rw [List.length_map];omega,fp ps e2,fun H8 x8=>⟨_,rfl,?_⟩⟩
 have X18:=Mq.trans x8
 rw [Bool.true_and] at qn q
 refine cQ (fun c=>fun T nT=>?_) (fun c=>?_)
 . have xT:=Ext.new (K:=K) (o:=.tup [V.ref a,V.ref P]) nT
   obtain ⟨Y',us3,rfl,nY,hY,hu3⟩:=Ih
   have y:=x7.trans (x8.trans xT)
   refine q _ (if_pos c) T _ (X18.trans xT) ⟨a,D,C,Y',P,us3,aN,y.tup ha,nD,y.at Hh,y.at hC,y.at hY,hu3.ext y,Mp,y.at hP,cO x1 nC,nY⟩
 . exact qn (if_neg c) _ X18
def Res (K:PySem.W.Frag) (H0 H:Hp) (o:Option Rd) (v:V):Prop:=match o with
 | none=>v=.cY
 | some x=>∃ T,v=.ref T/\qA K H0 H T x
def rX (K:PySem.W.Frag) (cN:Addr):Sp:=fun vs H Q E=>∃ t:Str,vs=[.str t]/\t.length < 1000000/\(gc t=none->∀ H',Ext K H H'->E (.ref cN) none H')/\(∀ x,gc t=some x->∀ T H',Ext K H H'->qA K H H' T x->Q (.ref T) H')
theorem i6:aE ["text","pieces","told"] ["text"] (af iw):=⟨rfl,rfl,rfl,by decide +kernel,rfl,by decide +kernel,by decide +kernel⟩
theorem xX {f:Addr} {fd:FuncData} (F:fM K "read_room" "read_room" iw f fd) {aG cF cR cN:Addr} {tE tF:Tok} (B:B K mg aG cF cR cN tE tF) (kr:Callee P w K mg base "read_leaf" 8 ["pieces"] (xV K)) (jJ:Callee P w K mg base "read_inner" 7 ["pieces"] (A4 K)):bB P w K mg base (BI P w) 9 f fd ["text"] (rX K cN):=by
 refine F.okX i6 (fun vs H Q E h=>?_) (fun dg A outer s H vs Q E hr h=>?_)
 . obtain ⟨t,rfl,_⟩:=h
   rfl
 obtain ⟨t,rfl,ht,qn,q⟩:=h
 obtain ⟨s1,s2⟩:=cG t 32
 have Mh:=tM t 32
 rw [<- tN] at s1 s2 Mh
 refine ⟨_,(aq (d8 (jZ (gK (aI aK rfl B.isinstance aA (aa (ev 0) (aa (iL rfl B.str fN) aj))))) (aH (ED B.za B.AG hr.hd rfl)) bF)
     (aq (sset (i:=1) i6.nd rfl (Or.inl rfl) (lY PySem.F.plainAttrs_str PySem.F.slot_str_split PySem.F.type_str_split fU (ev 0) (aa bg aj)))
     (aq (sset (i:=2) i6.nd rfl (Or.inl rfl) bZ)
     (nF (d8 (tw (nX (aV bH (dW bI (ev 1) ei (fun _ _=>rfl)) bg (au _)) (jP (aV bH (aI bE rfl B.len bN (aa (ev 1) aj)) ei (au _))))) (aH (sset (i:=2) i6.nd rfl (Or.inl rfl) (ay kr (hr.mono (by decide)) rfl (aa (ev 1) aj)))) bF)
     (nF (d8 (tw (nX (aV bH (dW bI (ev 1) ei (fun _ _=>rfl)) bg (au _)) (jP (aV bH (aI bE rfl B.len bN (aa (ev 1) aj)) ei (au _))))) (aH (sset (i:=2) i6.nd rfl (Or.inl rfl) (ay jJ (hr.mono (by decide)) rfl (aa (ev 1) aj)))) bF)
     (aq (d8 (aV dh (ev 2) bZ (au _)) (aH (ED B.za B.AG hr.hd rfl)) bF)
     (aH (aR (ev 2))))))))),?_⟩
 try walk_at "rn"
 refine ⟨_,.inl (.str _),true,rfl,aF (by decide) ⟨by decide +kernel,by omega,by omega,fun D nD=>?_⟩⟩
 obtain ⟨w0,rest,e⟩:∃ w0 rest,Txt.split t (Str.ofString " ")=w0::rest:=by
   cases h:Txt.split t (Str.ofString " ") with
   | nil=>exact absurd h Mh
   | cons x r=>exact ⟨x,r,rfl⟩
 have xG:=Ext.new (K:=K) (o:=.lst (List.map V.str (Txt.split t (Str.ofString " ")))) nD
 have hD:=ah (H:=H) (a:=D) (o:=.lst (List.map V.str (Txt.split t (Str.ofString " "))))
 rw [e] at hD xG s2 ⊢
 generalize upd H D (.lst (List.map V.str (w0::rest)))=G at xG hD ⊢
 have lt:∀ p∈rest,p.length < 1000000:=fun p hp=>Nat.lt_of_le_of_lt (s2 p (List.mem_cons_of_mem _ hp)) ht
 obtain ⟨J,eJ⟩:∃ J:St->Hp->Prop,J=fun σ G'=>∃ v,σ=[some (V.str t),some (V.ref D),some v]/\Ext K G G'/\(∀ n r,w0=Str.ofString "leaf"->rest=[n,r]->Res K G G' (iS n r) v)/\(¬ (w0=Str.ofString "leaf"/\rest.length=2)->v=.cY):=⟨_,rfl⟩
 refine ⟨J,?_,?_⟩
 . simp_arith [aX hD]
   rw [eJ]
   refine cQ (fun c=>cQ (fun c2=>?_) (fun c2=>?_)) (fun c=>?_)
   . obtain ⟨n,r,rfl⟩:∃ n r,rest=[n,r]:=by
       rcases rest with _ | ⟨x,_ | ⟨y,_ | ⟨u,rest⟩⟩⟩ <;> simp at c2 <;> first | omega | exact ⟨x,y,rfl⟩
     subst c
     refine ⟨D,n,r,rfl,hD,Nat.le_of_lt (lt n (by simp)),lt r (by simp),fun en H' x'=>?_,fun x en T H' x' hx=>?_⟩
     . exact ⟨_,rfl,x',fun n' r' _ e'=>by cases e';rw [en];rfl,fun _=>rfl⟩
     . exact ⟨_,rfl,x',fun n' r' _ e'=>by cases e';rw [en];exact ⟨T,rfl,hx⟩,fun z=>absurd ⟨rfl,rfl⟩ z⟩
   . exact ⟨_,rfl,Ext.refl,fun n' r' _ e'=>absurd (by rw [e'];rfl) c2,fun _=>rfl⟩
   . exact ⟨_,rfl,Ext.refl,fun n' r' e' _=>absurd e' c,fun _=>rfl⟩
 intro σ G1 hJ
 rw [eJ] at hJ
 clear eJ
 obtain ⟨v,rfl,x1,r1,r2⟩:=hJ
 obtain ⟨J,eJ⟩:∃ J:St->Hp->Prop,J=fun σ G'=>∃ v,σ=[some (V.str t),some (V.ref D),some v]/\Ext K H G'/\Res K H G' (gc t) v:=⟨_,rfl⟩
 refine ⟨J,?_,?_⟩
 . simp_arith [aX (x1.at hD)]
   rw [eJ]
   have hl:∀ (b:Prop),(¬ (w0=Str.ofString "inner"/\rest.length=4))->Res K H G1 (gc t) v:=fun _ z=>by
     by_cases c:w0=Str.ofString "leaf"/\rest.length=2
     . obtain ⟨rfl,c2⟩:=c
       obtain ⟨n,r,rfl⟩:∃ n r,rest=[n,r]:=by
         rcases rest with _ | ⟨x,_ | ⟨y,_ | ⟨u,rest⟩⟩⟩ <;> simp at c2 <;> first | omega | exact ⟨x,y,rfl⟩
       have:=r1 n r rfl rfl
       have er:gc t=iS n r:=by unfold gc;rw [e];exact if_pos rfl
       rw [er]
       cases ex:iS n r with
       | none=>rw [ex] at this;exact this
       | some x=>
         rw [ex] at this
         obtain ⟨T,e1,h1⟩:=this
         exact ⟨T,e1,h1.old xG⟩
     . have er:gc t=none:=by
         unfold gc
         rw [e]
         split
         . rename_i w n r e'
           cases e'
           exact if_neg fun z'=>c ⟨z',rfl⟩
         . rename_i w n p s' y e'
           cases e'
           exact if_neg fun z'=>z ⟨z',rfl⟩
         . rfl
       rw [er]
       exact r2 c
   refine cQ (fun c=>cQ (fun c2=>?_) (fun c2=>?_)) (fun c=>?_)
   . obtain ⟨n,p,s',y,rfl⟩:∃ n p s' y,rest=[n,p,s',y]:=by
       rcases rest with _ | ⟨x,_ | ⟨y,_ | ⟨z,_ | ⟨u,_ | ⟨u',rest⟩⟩⟩⟩⟩ <;> simp at c2 <;> first | omega | exact ⟨_,_,_,_,rfl⟩
     subst c
     have er:gc t=fS n p s' y:=by unfold gc;rw [e];exact if_pos rfl
     refine ⟨D,n,p,s',y,rfl,x1.at hD,Nat.le_of_lt (lt n (by simp)),lt p (by simp),lt s' (by simp),lt y (by simp),fun en H' x'=>?_,fun x en T H' x' hx=>?_⟩
     . exact ⟨_,rfl,xG.trans (x1.trans x'),by rw [er,en];rfl⟩
     . exact ⟨_,rfl,xG.trans (x1.trans x'),by rw [er,en];exact ⟨T,rfl,hx.old (xG.trans x1)⟩⟩
   . exact ⟨_,rfl,xG.trans x1,hl True fun z=>c2 (by simp [z.2])⟩
   . exact ⟨_,rfl,xG.trans x1,hl True fun z=>c z.1⟩
 intro σ G2 hJ
 rw [eJ] at hJ
 obtain ⟨v,rfl,x2,r3⟩:=hJ
 try walk_at "rn"
 cases er:gc t with
 | none=>
   rw [er] at r3
   cases r3
   exact aO rfl (qn er _ x2)
 | some x=>
   rw [er] at r3
   obtain ⟨T,rfl,hx⟩:=r3
   exact aF (by simp) (q x er T _ x2 hx)
end
def B4:Stmt->List Stmt
 | .For _ _ b _ _=>b
 | _=>[]
def jk (b:Bool) (t:Str):Option cg:=match gG t with
 | some (.plus n)=>if b=true then some (.plus n) else none
 | o=>o
def gJ (t:Str):Option RN:=match fZ t with
 | some r=>if cW r=true then some r else none
 | none=>none
def qO (t:Str):Option (Int×List qM):=match jT t with
 | some r=>if jc r=true then some r else none
 | none=>none
theorem eY {t:Str} {i:Int}:cnt t=some i↔ao t=some i/\0<=i:=⟨Kf,fun h=>w6 h.1 h.2⟩
theorem xY {b:Bool} {t:Str} {h:cg} (e:jk b t=some h):gG t=some h:=by
 unfold jk at e
 split at e
 . rename_i n e'
   split at e
   . rw [e',<- e]
   . cases e
 . exact e
theorem E9 (x y z u v:Str):cW ⟨ao x,ao y,ao z,gG u,gG v⟩=true↔∃ n lo hi a b,cnt x=some n/\cnt y=some lo/\cnt z=some hi/\jk true u=some a/\jk false v=some b/\1<=n/\lo < hi/\hi<=1000000000000/\(hi - lo=1∨b=.gone)/\ao x=some n/\ao y=some lo/\ao z=some hi/\gG u=some a/\gG v=some b:=by
 unfold cW C2
 constructor
 . intro h
   simp only [Bool.and_eq_true,Bool.or_eq_true] at h
   obtain ⟨⟨⟨h1,⟨h2,h3⟩,h4⟩,h5,h6⟩,h7⟩:=h
   cases ex:ao x with
   | none=>rw [ex] at h1;cases h1
   | some n=>
   cases ey:ao y with
   | none=>rw [ey] at h2;cases h2
   | some lo=>
   cases ez:ao z with
   | none=>rw [ez] at h3;cases h3
   | some hi=>
   rw [ex] at h1
   rw [ey] at h2 h4 h7
   rw [ez] at h3 h4 h7
   have h1:1<=n:=of_decide_eq_true h1
   have h2:0<=lo/\lo<=1000000000000:=of_decide_eq_true h2
   have h3:0<=hi/\hi<=1000000000000:=of_decide_eq_true h3
   have h4:lo < hi:=of_decide_eq_true h4
   cases eu:gG u with
   | none=>rw [eu] at h5;cases h5
   | some a=>
   cases ev:gG v with
   | none=>rw [ev] at h6;cases h6
   | some b=>
   rw [ev] at h6 h7
   refine ⟨n,lo,hi,a,b,eY.mpr ⟨ex,by omega⟩,eY.mpr ⟨ey,h2.1⟩,eY.mpr ⟨ez,h3.1⟩,?_,?_,h1,h4,h3.2,?_,rfl,rfl,rfl,rfl,rfl⟩
   . unfold jk
     rw [eu]
     cases a <;> rfl
   . unfold jk
     rw [ev]
     cases b with
     | plus n=>exact absurd h6 (by simp only [zB];decide +kernel)
     | is n=>rfl
     | gone=>rfl
   . rcases h7 with h7 | h7
     . exact .inl (of_decide_eq_true h7)
     . right
       cases b with
       | gone=>rfl
       | plus n=>cases h7
       | is n=>cases h7
 . rintro ⟨n,lo,hi,a,b,e1,e2,e3,e4,e5,b1,b2,b3,b4,f1,f2,f3,f4,f5⟩
   have g2:=(eY.mp e2).2
   rw [f1,f2,f3,f4,f5]
   simp only [Bool.and_eq_true,Bool.or_eq_true]
   refine ⟨⟨⟨decide_eq_true b1,⟨decide_eq_true ⟨g2,by omega⟩,decide_eq_true ⟨by omega,b3⟩⟩,decide_eq_true b2⟩,?_,?_⟩,?_⟩
   . cases a with
     | gone=>rfl
     | plus n=>exact by simp only [zB];decide +kernel
     | is n=>exact by simp only [zB];decide +kernel
   . cases b with
     | gone=>rfl
     | plus n=>unfold jk at e5;rw [f5] at e5;cases e5
     | is n=>exact by simp only [zB];decide +kernel
   . rcases b4 with b4 | rfl
     . exact .inl (decide_eq_true b4)
     . exact .inr rfl
theorem m8:∀ {ms:List Int} {m:Int},rising ms=true->(∀ x,ms.getLast?=some x->x < m)->rising (ms++[m])=true
 | [],m,_,_=>rfl
 | [a],m,_,h=>by
   have:=h a rfl
   show (decide (a < m)&&true)=true
   rw [decide_eq_true this]
   rfl
 | a::b::r,m,hr,h=>by
   unfold rising at hr
   rw [Bool.and_eq_true] at hr
   show (decide (a < b)&&rising (b::r++[m]))=true
   rw [hr.1,m8 hr.2 (fun x hx=>h x (by simpa using hx))]
   rfl
theorem ua:∀ {l:List Int} {j:Nat} {a b:Int},rising l=true->l[j]?=some a->l[j + 1]?=some b->a < b
 | [],j,a,b,_,h,_=>by cases h
 | [x],j,a,b,_,_,h=>by simp at h
 | x::y::r,0,a,b,hr,h1,h2=>by
   unfold rising at hr
   rw [Bool.and_eq_true] at hr
   cases h1
   cases h2
   exact of_decide_eq_true hr.1
 | x::y::r,j + 1,a,b,hr,h1,h2=>by
   unfold rising at hr
   rw [Bool.and_eq_true] at hr
   exact ua (l:=y::r) (j:=j) hr.2 (by simpa using h1) (by simpa using h2)
def vE {α:Type} (k:α->Int) (l:List α) (x:Int):Prop:=∀ y,l.getLast?=some y->k y < x
theorem C8 {α:Type} {l:List α} {i:Nat} {y:α} (hi:i<=l.length) (h:(l.take i).getLast?=some y):∃ j,i=j + 1/\l[j]?=some y:=by
 cases i with
 | zero=>cases h
 | succ j=>
   refine ⟨j,rfl,?_⟩
   rw [List.take_add_one,List.getElem?_eq_getElem (by omega),Option.toList_some,List.getLast?_append] at h
   rw [List.getElem?_eq_getElem (by omega)]
   simpa using h
theorem zL {α:Type} {rv:Str->Option α} {k:α->Int} {ok:α->Bool} {pieces:List Str} {ps:List α} {i:Nat} {p:Str} (e:(pieces.take i).map rv=ps.map some) (hp:pieces[i]?=some p) (bad:∀ w,rv p=some w->ok w=true->vE k ps (k w)->False):
   ∀ vs:List α,pieces.map rv=vs.map some->vs.all ok=true->rising (vs.map k)=true->False:=by
 intro vs ev ha hr
 have hlen:pieces.length=vs.length:=by have:=congrArg List.length ev;simpa using this
 have hi:=(List.getElem?_eq_some_iff.mp hp).1
 have et:ps=vs.take i:=by
   have h1:(pieces.take i).map rv=(vs.take i).map some:=by rw [List.map_take,ev,List.map_take]
   exact (List.map_inj_right fun _ _=>Option.some.inj).mp (e.symm.trans h1)
 have ew:rv p=some (vs[i]'(by omega)):=by
   have h1:(pieces.map rv)[i]?=some (rv p):=by rw [List.getElem?_map,hp];rfl
   rw [ev,List.getElem?_map,List.getElem?_eq_getElem (by omega)] at h1
   exact (Option.some.inj h1).symm
 refine bad _ ew (List.all_eq_true.mp ha _ (List.getElem_mem _)) fun y hy=>?_
 rw [et] at hy
 obtain ⟨j,rfl,hj⟩:=C8 (by omega) hy
 refine ua (j:=j) hr ?_ ?_
 . rw [List.getElem?_map,hj];rfl
 . rw [List.getElem?_map,List.getElem?_eq_getElem (by omega)];rfl
theorem C9:m5 (Str.ofString "-")=none:=by decide +kernel
theorem qP:Txt.split (Str.ofString "-") (Str.ofString ",")=[Str.ofString "-"]:=by decide +kernel
def uc (p:qM):Bool:=decide (0<=p.1)
theorem Fb {t:Str} (h:∀ vs:List qM,(Txt.split (Txt.partition t (Str.ofString "=")).2.2 (Str.ofString ",")).map m5=vs.map some->vs.all uc=true->rising (vs.map (·.1))=true->False):qO t=none:=by
 unfold qO jT
 split
 . rename_i r e
   refine if_neg fun ok=>?_
   split at e
   . rename_i k vs e1 e2
     cases e
     unfold jc qz at ok
     simp only [Bool.and_eq_true] at ok
     obtain ⟨_,⟨o1,o2⟩,o3⟩:=ok
     unfold bU at e2
     split at e2
     . cases e2;cases o1
     . exact h vs (fk e2) o2 o3
   . cases e
 . rfl
theorem Fc {t:Str} {ps:List qM} (h:(Txt.split (Txt.partition t (Str.ofString "=")).2.2 (Str.ofString ",")).map m5=ps.map some) (h1:ps.all uc=true) (h2:rising (ps.map (·.1))=true):
   qO t=match cnt (Txt.partition t (Str.ofString "=")).1 with
     | some k=>if 1000000000000<=k then none else some (k,ps)
     | none=>none:=by
 have ne:¬ (Txt.partition t (Str.ofString "=")).2.2=Str.ofString "-":=fun z=>by
   rw [z,qP] at h
   simp only [List.map_cons,List.map_nil,C9] at h
   cases ps <;> cases h
 have el:bU m5 (Str.ofString ",") (Txt.partition t (Str.ofString "=")).2.2=some ps:=by
   unfold bU
   rw [if_neg ne,h,lM]
 have e0:ps≠[]:=fun z=>by
   rw [z,List.map_nil,List.map_eq_nil_iff] at h
   have:=tM (Txt.partition t (Str.ofString "=")).2.2 44
   rw [<- fV] at this
   exact this h
 have ev:qz ps=true:=by
   unfold qz
   rw [h2,show (ps.all fun p=>decide (0<=p.1))=true from h1]
   cases ps with
   | nil=>exact absurd rfl e0
   | cons _ _=>rfl
 unfold qO jT cnt
 rw [el]
 cases e1:ao (Txt.partition t (Str.ofString "=")).1 with
 | none=>rfl
 | some k=>
   dsimp only
   unfold jc
   dsimp only
   rw [ev,Bool.and_true]
   by_cases c1:0<=k
   . rw [if_pos c1]
     dsimp only
     by_cases c2:1000000000000<=k
     . rw [if_pos c2,if_neg (by simp;omega)]
     . rw [if_neg c2,if_pos (by simp;omega)]
   . rw [if_neg c1,if_neg (by simp;omega)]
section
variable {P:Program} {w:World} {K:PySem.W.Frag} {mg:Str->Option Value} {base:Heap}
def sgn (b:Bool):Str:=if b=true then Str.ofString "+=" else Str.ofString "="
def Fd (K:PySem.W.Frag):Sp:=fun vs H Q _=>∃ (t:Str) (b:Bool),vs=[.str t,.str (sgn b)]/\t.length<=1000000/\∀ v H',Ext K H H'->bw K H H' (B0 (jk b t)) v->Q v H'
theorem rD:aE ["_law_word","_law_signs"] ["_law_word","_law_signs"] (af eW):=⟨rfl,rfl,rfl,by decide +kernel,rfl,by decide +kernel,by decide +kernel⟩
theorem rE {f:Addr} {fd:FuncData} (F:fM K "_law_half_in" "_law_half_in" eW f fd) {aG cF cR cN:Addr} {tE tF:Tok} (B:B K mg aG cF cR cN tE tF) (bx:Callee P w K mg base "_law_whole" 1 ["_law_word"] (zw K)):bB P w K mg base fC 2 f fd ["_law_word","_law_signs"] (Fd K):=by
 refine F.iM rD (fun vs H Q E h=>?_) (fun dg A outer s H vs Q E hr h=>?_)
 . obtain ⟨t,b,rfl,_⟩:=h
   rfl
 obtain ⟨t,b,rfl,ht,q⟩:=h
 refine ⟨_,(aq (d8 (aV bH (ev 0) bg (au _)) (aH (aR (cJ (aa bg aj)))) bF)
     (aq (d8 (tw (lB (aV bH (ev 0) bg (au _)) (lB (aV qm (dW mG (ev 0) ei (fun _ _=>rfl)) (ev 1) (by with_unfolding_all rfl)) (je (aV dh (ay bx (hr.mono (by decide)) rfl (aa (bS fh (ev 0) (cz ei) dS) aj)) bZ (au _)))))) (aH (aR bZ)) bF)
     (aH (aR (cJ (aa (dW bI (cK (aa bg (aa bg aj))) (cZ jL rfl B.int kI (aa (jq bH (dW mG (ev 0) ei (fun _ _=>rfl)) bg (au _)) aj)) (fun _ _=>rfl)) (aa (ay bx (hr.mono (by decide)) rfl (aa (bS fh (ev 0) (cz ei) dS) aj)) aj))))))),?_⟩
 try walk_at "rn"
 unfold jk gG at q
 refine cQ (fun c=>fun p np=>?_) (fun c=>?_)
 . rw [if_pos c] at q
   exact q _ _ (Ext.new np) (bw.tt.mpr ⟨p,_,rfl,aN,.cons (bw.ss.mpr rfl) .nil⟩)
 rw [if_neg c] at q
 cases e0:t.cps.toList with
 | nil=>
   rw [e0] at q
   exact aO (jm (by rw [e0];decide +kernel)) (q _ _ Ext.refl (bw.nn.mpr rfl))
 | cons x r=>
   rw [e0] at q
   dsimp only at q
   have es:Txt.slice t (some 1) none=⟨r.toArray⟩:=jm (by
     have:=lK (x:=t) (n:=1) (by rw [str_len,e0];simp)
     rw [e0] at this
     simpa using this)
   have ls:=Txt.slice_le t (some 1) none
   rw [es] at ls ⊢
   have hp:(⟨#[x]⟩:Str)=Str.ofString "+"↔x=43:=E7 (by decide +kernel)
   have hc:Txt.contains (sgn b) ⟨#[x]⟩=decide ((b=true/\x=43)∨x=61):=by
     show (!(Builtin.Str.occurrences (sgn b) ⟨#[x]⟩ 0 (sgn b).length 1).isEmpty)=_
     rw [StrLaws.found_one]
     cases b
     . rw [show (sgn false).cps.toList=[61] from by decide +kernel]
       simp
     . rw [show (sgn true).cps.toList=[43,61] from by decide +kernel]
       simp
   refine aF (fun z=>by rw [z] at e0;cases e0) ⟨by omega,x,nH,?_⟩
   rw [hc]
   have fin:∀ (wd:Str) (h:Int->cg) (H0:Hp),(if (⟨#[x]⟩:Str)=Str.ofString "+" then (1:Int) else 0)=(if wd=Str.ofString "plus" then 1 else 0)->(wd=Str.ofString "plus"∨wd=Str.ofString "is")->(∀ n,(h n).hd=.tuple [.str wd,.int n])->(∀ n,ao ⟨r.toArray⟩=some n->∀ v H',Ext K H H'->bw K H H' (h n).hd v->Q v H')->(ao ⟨r.toArray⟩=none->∀ H',Ext K H H'->Q .cY H')->zw K [V.str ⟨r.toArray⟩] H (fun x_1 H1=>if x_1=V.cY then Q V.cY H1 else ∀ (p:Addr),new K H1 p->t.length<=16777216/\∃ x_2,pU (x::r) 0=some x_2/\∃ x_3,pU [V.str (Str.ofString "is"),V.str (Str.ofString "plus")] (if (⟨#[x_2]⟩:Str)=Str.ofString "+" then 1 else 0)=some x_3/\t.length<=16777216/\zw K [V.str ⟨r.toArray⟩] (upd H1 p (HO.lst [V.str (Str.ofString "is"),V.str (Str.ofString "plus")])) (fun x_4 H1=>∀ (p:Addr),new K H1 p->Q (V.ref p) (upd H1 p (HO.tup [x_3,x_4]))) E0) E0:=by
     intro wd h _ ew ww eh qs qn
     refine ⟨_,rfl,by omega,fun H1 x1=>?_⟩
     cases e1:ao ⟨r.toArray⟩ with
     | none=>exact aO rfl (qn e1 _ x1)
     | some n=>
       refine aF (by simp [on]) fun p np=>⟨by omega,x,nH,.str wd,?_,by omega,_,rfl,by omega,fun H2 x2 p2 np2=>?_⟩
       . rw [ew]
         rcases ww with rfl | rfl
         . rfl
         . rfl
       . refine qs n e1 _ _ (x1.trans ((Ext.new np).trans (x2.trans (Ext.new np2)))) ?_
         rw [eh,e1]
         exact bw.tt.mpr ⟨p2,_,rfl,aN,.cons (bw.ss.mpr rfl) (.cons (bw.ii.mpr rfl) .nil)⟩
   by_cases c1:x=43
   . cases b with
     | false=>
       refine aO (by simp [c1]) (q _ _ Ext.refl ?_)
       cases e1:ao ⟨r.toArray⟩ with
       | none=>exact bw.nn.mpr rfl
       | some n=>dsimp only;rw [if_pos c1];exact bw.nn.mpr rfl
     | true=>
       refine aF (by simp [c1]) ⟨by omega,fin (Str.ofString "plus") .plus H (by rw [if_pos (hp.mpr c1),if_pos rfl]) (.inl rfl) (fun _=>rfl) (fun n e1=>?_) (fun e1=>?_)⟩
       . rw [e1] at q
         dsimp only at q
         rw [if_pos c1] at q
         exact q
       . rw [e1] at q
         exact fun H' x'=>q _ _ x' (bw.nn.mpr rfl)
   by_cases c2:x=61
   . refine aF (by simp [c2]) ⟨by omega,fin (Str.ofString "is") .is H (by rw [if_neg (fun z=>c1 (hp.mp z)),if_neg (by decide +kernel)]) (.inr rfl) (fun _=>rfl) (fun n e1=>?_) (fun e1=>?_)⟩
     . rw [e1] at q
       dsimp only at q
       rw [if_neg c1,if_pos c2] at q
       exact q
     . rw [e1] at q
       exact fun H' x'=>q _ _ x' (bw.nn.mpr rfl)
   . refine aO (by simp [c1,c2]) (q _ _ Ext.refl ?_)
     cases e1:ao ⟨r.toArray⟩ with
     | none=>exact bw.nn.mpr rfl
     | some n=>dsimp only;rw [if_neg c1,if_neg c2];exact bw.nn.mpr rfl
def Fe (K:PySem.W.Frag):Sp:=vD K gJ RN.d
theorem dc:aE ["_law_word","_law_parts","_law_number_here","_law_low","_law_high","_law_there","_law_none"] ["_law_word"] (af bJ):=⟨rfl,rfl,rfl,by decide +kernel,rfl,by decide +kernel,by decide +kernel⟩
theorem rF {f:Addr} {fd:FuncData} (F:fM K "_law_note_in" "_law_note_in" bJ f fd) {aG cF cR cN:Addr} {tE tF:Tok} (B:B K mg aG cF cR cN tE tF) (bu:Callee P w K mg base "_law_count" 2 ["_law_word"] (vB K)) (gg:Callee P w K mg base "_law_half_in" 2 ["_law_word","_law_signs"] (Fd K)):bB P w K mg base fC 3 f fd ["_law_word"] (Fe K):=by
 refine F.iM dc (fun vs H Q E h=>?_) (fun dg A outer s H vs Q E hr h=>?_)
 . obtain ⟨t,rfl,_⟩:=h
   rfl
 obtain ⟨t,rfl,ht,q⟩:=h
 obtain ⟨s1,s2⟩:=cG t 46
 rw [<- E8] at s1 s2
 refine bq (rest:=(ak bJ).drop 7) (aH (aR (cJ (aa (ev 2) (aa (ev 3) (aa (ev 4) (aa (cJ (aa (ev 5) (aa (ev 6) aj))) aj))))))) fun r7 J7 e7=>?_
 refine bq (rest:=(ak bJ).drop 6) (aq (d8 (tw (lB (aV uS (ev 2) ei (au _)) (lB (aV sD (ev 3) (ev 4) (au _)) (lB (aV qH (ev 4) (gW 1000000000000) (au _)) (je (tw (nX (aV qH (dB jd (ev 4) (ev 3)) ei (au _)) (jP (aV (Js hr.units) (ev 6) (cJ (aa bg aj)) (au _)))))))))) (aH (aR bZ)) bF)
     J7) fun r6 J6 e6=>?_
 refine bq (rest:=(ak bJ).drop 5) (aq (d8 (tw (lB (aV dh (ev 2) bZ (au _)) (lB (aV dh (ev 3) bZ (au _)) (lB (aV dh (ev 4) bZ (au _)) (lB (aV dh (ev 5) bZ (au _)) (je (aV dh (ev 6) bZ (au _)))))))) (aH (aR bZ)) bF)
     J6) fun r5 J5 e5=>?_
 refine bq (rest:=(ak bJ).drop 4) (aq (sset (i:=6) dc.nd rfl (Or.inl rfl) (ay gg (hr.mono (by decide)) rfl (aa (dW bI (ev 1) ei (fun _ _=>rfl)) (aa bg aj))))
     J5) fun r4 J4 e4=>?_
 refine bq (rest:=(ak bJ).drop 3) (aq (sset (i:=5) dc.nd rfl (Or.inl rfl) (ay gg (hr.mono (by decide)) rfl (aa (dW bI (ev 1) ei (fun _ _=>rfl)) (aa bg aj))))
     J4) fun r3 J3 e3=>?_
 refine bq (rest:=(ak bJ).drop 2) (aq (kX (ur (j5.mk (N:=["_law_piece"]) (src:=[none]) rfl rfl) rfl (d9 (bS dI (ev 1) dS (cz ei))) (fun _ _ _ _=>(aM (i:=0) (show (["_law_piece"]:List Str).Nodup from by decide +kernel) rfl (Or.inl rfl))) (fun _ _ _ _=>eB) (fun _ _ _ _=>(ay bu (hr.mono (by decide)) rfl (aa (ev 0) aj)))) (yZ (n:=3) rfl (bf (aM (i:=2) dc.nd rfl (Or.inl rfl)) (bf (aM (i:=3) dc.nd rfl (Or.inl rfl)) (bf (aM (i:=4) dc.nd rfl (Or.inl rfl)) jA)))))
     J3) fun r2 J2 e2=>?_
 refine ⟨_,(aq (sset (i:=1) dc.nd rfl (Or.inl rfl) (lY PySem.F.plainAttrs_str PySem.F.slot_str_split PySem.F.type_str_split fU (ev 0) (aa bg aj)))
     (aq (d8 (aV ja (aI bE rfl B.len bN (aa (ev 1) aj)) ei (au _)) (aH (aR bZ)) bF)
     J2)),?_⟩
 try walk_at "rn"
 refine ⟨by decide +kernel,by omega,by omega,fun D nD=>?_⟩
 have xD:=Ext.new (K:=K) (o:=.lst ((Txt.split t (Str.ofString ".")).map V.str)) nD
 by_cases hl:(Txt.split t (Str.ofString ".")).length=5
 case neg=>
   refine aO (by simp;omega) (q _ _ xD ?_)
   unfold gJ
   rw [zI hl]
   exact bw.nn.mpr rfl
 refine aF (by simp;omega) ?_
 obtain ⟨x,y,z,u,v,e⟩:∃ x y z u v,Txt.split t (Str.ofString ".")=[x,y,z,u,v]:=by
   rcases h:Txt.split t (Str.ofString ".") with _ | ⟨x,_ | ⟨y,_ | ⟨z,_ | ⟨u,_ | ⟨v,_ | ⟨w',r⟩⟩⟩⟩⟩⟩ <;> rw [h] at hl <;> simp only [List.length_cons,List.length_nil] at hl <;> first | omega | exact ⟨_,_,_,_,_,rfl⟩
 have en:fZ t=some ⟨ao x,ao y,ao z,gG u,gG v⟩:=by unfold fZ;rw [e]
 unfold gJ at q
 rw [en] at q
 dsimp only at q
 rw [e] at xD s2 ⊢
 have lp:∀ p∈[x,y,z,u,v],p.length<=1000000:=fun p hp=>Nat.le_trans (s2 p hp) ht
 have hD:upd H D (.lst ([x,y,z,u,v].map V.str)) D=some (.lst ([x,y,z,u,v].map V.str)):=ah
 generalize upd H D (.lst ([x,y,z,u,v].map V.str))=G at xD hD ⊢
 rw [e2]
 try walk_at "rn"
 refine ⟨_,bC.of hD,fun p np=>?_⟩
 have ep:iK ([x,y,z,u,v].map V.str) none (some 3)=[x,y,z].map V.str:=by rw [show iK ([x,y,z,u,v].map V.str) none (some 3)=([x,y,z,u,v].map V.str).take 3 from vX _ 3];rfl
 rw [ep]
 have xp:=Ext.new (K:=K) (o:=.lst ([x,y,z].map V.str)) np
 refine ⟨⟨_,bC.of ah⟩,fun D1 n1=>?_⟩
 refine jC (L:=[x,y,z]) (f:=V.str) (g:=fun p=>on (cnt p)) (bC.of ah) n1 (by simp) (fun p hp H' Q' xx qq=>?_) (fun G1 h1 x1=>?_)
 . try walk_at "rn"
   exact ⟨p,rfl,lp p (by simp only [List.mem_cons,List.not_mem_nil,or_false] at hp ⊢;rcases hp with h | h | h <;> simp [h]),fun jW x''=>qq _ x''⟩
 have X1:=xp.trans x1
 refine ⟨_,bC.of h1,rfl,_,_,rfl,_,_,rfl,_,_,rfl,rfl,?_⟩
 rw [e3]
 simp_arith [aX (X1.at hD)]
 refine ⟨u,true,rfl,lp u (by simp),fun va G2 x2 ha=>?_⟩
 have X2:=X1.trans x2
 rw [e4]
 simp_arith [aX (X2.at hD)]
 refine ⟨_,rfl,v,false,rfl,lp v (by simp),fun vb G3 x3 hb=>?_⟩
 rw [e5]
 try walk_at "rn"
 have XX:=xD.trans (X2.trans x3)
 have ha:=(ha.old (xD.trans X1)).ext x3
 have hb:=hb.old (xD.trans X2)
 have ni:=E9 x y z u v
 have done:∀ (n lo hi:Int) (a b:cg) (H4:Hp) (p1 p2:Addr),Ext K G3 H4->cnt x=some n->cnt y=some lo->cnt z=some hi->jk true u=some a->jk false v=some b->1<=n->lo < hi->hi<=1000000000000->(hi - lo=1∨b=.gone)->new K H4 p1->new K (upd H4 p1 (.tup [va,vb])) p2->Q (.ref p2) (upd (upd H4 p1 (.tup [va,vb])) p2 (.tup [on (some n),on (some lo),on (some hi),.ref p1])):=by
   intro n lo hi a b H4 p1 p2 x4 c1 c2 c3 c4 c5 c6 c7 c8 c9 n1 n2
   have y1:=Ext.new (K:=K) (o:=.tup [va,vb]) n1
   have y2:=Ext.new (K:=K) (o:=.tup [on (some n),on (some lo),on (some hi),.ref p1]) n2
   rw [if_pos (ni.mpr ⟨n,lo,hi,a,b,c1,c2,c3,c4,c5,c6,c7,c8,c9,(eY.mp c1).1,(eY.mp c2).1,(eY.mp c3).1,xY c4,xY c5⟩)] at q
   refine q _ _ (XX.trans (x4.trans (y1.trans y2))) ?_
   rw [(eY.mp c1).1,(eY.mp c2).1,(eY.mp c3).1,xY c4,xY c5]
   rw [c4] at ha
   rw [c5] at hb
   exact bw.tt.mpr ⟨p2,_,rfl,aN,.cons (bw.ii.mpr rfl) (.cons (bw.ii.mpr rfl) (.cons (bw.ii.mpr rfl) (.cons (bw.tt.mpr ⟨p1,_,rfl,y2.tup aN,.cons (ha.ext (x4.trans (y1.trans y2))) (.cons (hb.ext (x4.trans (y1.trans y2))) .nil)⟩) .nil)))⟩
 have no:(¬ ∃ n lo hi a b,cnt x=some n/\cnt y=some lo/\cnt z=some hi/\jk true u=some a/\jk false v=some b/\1<=n/\lo < hi/\hi<=1000000000000/\(hi - lo=1∨b=.gone))->∀ H',Ext K G3 H'->Q .cY H':=by
   intro c H' x'
   rw [if_neg (fun z=>by
     obtain ⟨n,lo,hi,a,b,e1,e2,e3,e4,e5,b1,b2,b3,b4,_⟩:=ni.mp z
     exact c ⟨n,lo,hi,a,b,e1,e2,e3,e4,e5,b1,b2,b3,b4⟩)] at q
   exact q _ _ (XX.trans x') (bw.nn.mpr rfl)
 clear q ni
 cases ex:cnt x with
 | none=>exact aO rfl (no (by rintro ⟨_,_,_,_,_,h,_⟩;rw [ex] at h;cases h) _ Ext.refl)
 | some n=>
 refine aF (by simp [on]) ?_
 cases ey:cnt y with
 | none=>exact aO rfl (no (by rintro ⟨_,_,_,_,_,_,h,_⟩;rw [ey] at h;cases h) _ Ext.refl)
 | some lo=>
 refine aF (by simp [on]) ?_
 cases ez:cnt z with
 | none=>exact aO rfl (no (by rintro ⟨_,_,_,_,_,_,_,h,_⟩;rw [ez] at h;cases h) _ Ext.refl)
 | some hi=>
 refine aF (by simp [on]) ?_
 rcases xm ha with ⟨ea,rfl⟩ | ⟨a,p5,ea,rfl,ta⟩
 . exact aO rfl (no (by rintro ⟨_,_,_,_,_,_,_,_,h,_⟩;rw [ea] at h;cases h) _ Ext.refl)
 refine aF (by simp) ?_
 rcases xm hb with ⟨eb,rfl⟩ | ⟨b,p6,eb,rfl,tb⟩
 . exact aO rfl (no (by rintro ⟨_,_,_,_,_,_,_,_,_,h,_⟩;rw [eb] at h;cases h) _ Ext.refl)
 refine aF (by simp) ?_
 rw [e6]
 try walk_at "rn"
 refine ⟨n,rfl,?_⟩
 have un:∀ (bad:¬ (1<=n/\lo < hi/\hi<=1000000000000/\(hi - lo=1∨b=.gone))) H',Ext K G3 H'->Q .cY H':=fun bad=>no (by
   rintro ⟨n',Rk,hi',a',b',e1,e2,e3,e4,e5,b1⟩
   rw [ex] at e1
   rw [ey] at e2
   rw [ez] at e3
   rw [eb] at e5
   cases e1
   cases e2
   cases e3
   cases e5
   exact bad b1)
 refine cQ (fun c=>un (by omega) _ Ext.refl) (fun c1=>⟨lo,rfl,hi,rfl,?_⟩)
 refine cQ (fun c=>un (by omega) _ Ext.refl) (fun c2=>⟨hi,rfl,?_⟩)
 refine cQ (fun c=>un (by omega) _ Ext.refl) (fun c3=>⟨hi,rfl,lo,rfl,?_⟩)
 refine cQ (fun c=>fun p np=>?_) (fun c=>?_)
 . have xq:=Ext.new (K:=K) (o:=.tup [V.str (Str.ofString "gone")]) np
   refine ⟨b.hd,cg.BS (xq.tup tb),cg.gone.hd,cg.BS (h:=.gone) aN,b.shaped,cg.shaped .gone,?_⟩
   rw [cg.zk]
   cases b with
   | gone=>
     refine aF (by decide) ?_
     rw [e7]
     try walk_at "rn"
     exact fun p1 n1 p2 n2=>done n lo hi a .gone _ p1 p2 xq ex ey ez ea eb (by omega) (by omega) (by omega) (.inr rfl) n1 n2
   | plus m=>exact aO rfl (un (by rintro ⟨_,_,_,h | h⟩;omega;cases h) _ xq)
   | is m=>exact aO rfl (un (by rintro ⟨_,_,_,h | h⟩;omega;cases h) _ xq)
 . rw [e7]
   try walk_at "rn"
   exact fun p1 n1 p2 n2=>done n lo hi a b _ p1 p2 Ext.refl ex ey ez ea eb (by omega) (by omega) (by omega) (.inl (by omega)) n1 n2
theorem B5 {α:Type} {d:α->PyData} {H0 H:Hp} {ps:List α} {vs:List V} {v:V} (h:aU K H0 H (ps.map d) vs) (e:vs.getLast?=some v):∃ p,ps.getLast?=some p/\bw K H0 H (d p) v:=by
 obtain ⟨L,rfl,rfl,hL⟩:=h.zip
 rw [List.getLast?_map] at e ⊢
 obtain ⟨q,hq,rfl⟩:=Option.map_eq_some_iff.mp e
 exact ⟨q.2,by rw [hq];rfl,hL q (List.mem_of_getLast? hq)⟩
theorem zM {vs:List V} {v:V} (e:vs.getLast?=some v):pU vs (-1)=some v:=by
 cases vs with
 | nil=>cases e
 | cons a r=>
   rw [List.getLast?_eq_getElem?] at e
   unfold pU Bp
   rw [if_neg (by omega),if_pos (by simp only [List.length_cons];omega),show ((-1:Int) + ((a::r).length:Nat)).toNat=(a::r).length - 1 from by simp only [List.length_cons];omega]
   exact e
theorem _root_.L2.Ext.lA {K:PySem.W.Frag} {H G H':Hp} {R:Addr} (x:Ext K H G) (k:Kp K R G H') (n:new K H R):Ext K H H':=
 ⟨fun q o e=>k.keep q o (x.at e) (aW e n.1),fun q xs e m=>k.mod q xs (x.mod q xs e m) m⟩
def Ff (K:PySem.W.Frag):Sp:=vD K qO lZ
theorem bO:aE ["_law_word","_law_key","_law_sign_here","_law_rest","_law_found","_law_piece","_law_number_here","_law_value"] ["_law_word"] (af dz):=⟨rfl,rfl,rfl,by decide +kernel,rfl,by decide +kernel,by decide +kernel⟩
theorem ud {f:Addr} {fd:FuncData} (F:fM K "_law_row_in" "_law_row_in" dz f fd) {aG cF cR cN:Addr} {tE tF:Tok} (B:B K mg aG cF cR cN tE tF) (bx:Callee P w K mg base "_law_whole" 1 ["_law_word"] (zw K)) (bu:Callee P w K mg base "_law_count" 2 ["_law_word"] (vB K)):bB P w K mg base fC 3 f fd ["_law_word"] (Ff K):=by
 refine F.iM bO (fun vs H Q E h=>?_) (fun dg A outer s H vs Q E hr h=>?_)
 . obtain ⟨t,rfl,_⟩:=h
   rfl
 obtain ⟨t,rfl,ht,q⟩:=h
 obtain ⟨p1,p2⟩:=jj t (Str.ofString "=")
 refine bq (rest:=(B4 ((ak dz).getD 2 (.Pass ⟨0,0,0,0⟩))).drop 4) (aH (d8 (aV bH (ev 7) bg (au _)) (aH (mQ (lY PySem.F.plainAttrs_list PySem.F.slot_list_append PySem.F.type_list_append d7 (ev 4) (aa (cJ (aa (ev 6) (aa bZ aj))) aj)))) (aH (mQ (lY PySem.F.plainAttrs_list PySem.F.slot_list_append PySem.F.type_list_append d7 (ev 4) (aa (cJ (aa (ev 6) (aa (ay bx (hr.mono (by decide)) rfl (aa (ev 7) aj)) aj))) aj)))))) fun r4 J4 e4=>?_
 refine bq (rest:=(B4 ((ak dz).getD 2 (.Pass ⟨0,0,0,0⟩))).drop 3) (aq (d8 (tw (nX (aV ja (ev 7) bg (au _)) (jP (aV dh (ay bx (hr.mono (by decide)) rfl (aa (ev 7) aj)) bZ (au _))))) (aH (aR bZ)) bF)
     J4) fun r3 J3 e3=>?_
 refine ⟨_,(aq (kX (lY PySem.F.plainAttrs_str PySem.F.slot_str_partition PySem.F.type_str_partition gj (ev 0) (aa bg aj)) (jQ (n:=3) rfl (bf (aM (i:=1) bO.nd rfl (Or.inl rfl)) (bf (aM (i:=2) bO.nd rfl (Or.inl rfl)) (bf (aM (i:=3) bO.nd rfl (Or.inl rfl)) jA)))))
     (aq (sset (i:=4) bO.nd rfl (Or.inl rfl) (cK aj))
     (aq (vW PassesOwn.never rfl (d9 (lY PySem.F.plainAttrs_str PySem.F.slot_str_split PySem.F.type_str_split fU (ev 3) (aa bg aj))) (aM (i:=5) bO.nd rfl (Or.inl rfl))
       (aq (kX (lY PySem.F.plainAttrs_str PySem.F.slot_str_partition PySem.F.type_str_partition gj (ev 5) (aa bg aj)) (jQ (n:=3) rfl (bf (aM (i:=6) bO.nd rfl (Or.inl rfl)) (bf (aM (i:=2) bO.nd rfl (Or.inl rfl)) (bf (aM (i:=7) bO.nd rfl (Or.inl rfl)) jA)))))
     (aq (sset (i:=6) bO.nd rfl (Or.inl rfl) (ay bu (hr.mono (by decide)) rfl (aa (ev 6) aj)))
     (aq (d8 (tw (lB (aV dh (ev 6) bZ (au _)) (je (tw (nX (aV (Aw (Nat.lt_of_le_of_lt (Nat.le_add_right _ 64) hr.units)) (ev 4) (cK aj) (au _)) (jP (aV sD (dW bI (dW bI (ev 4) (QK z8 ei) (fun _ _=>rfl)) ei (fun _ _=>rfl)) (ev 6) (au _)))))))) (aH (aR bZ)) bF)
     J3))))
     (aq (sset (i:=1) bO.nd rfl (Or.inl rfl) (ay bu (hr.mono (by decide)) rfl (aa (ev 1) aj)))
     (aq (d8 (tw (lB (aV dh (ev 1) bZ (au _)) (je (aV sD (ev 1) (gW 1000000000000) (au _))))) (aH (aR bZ)) bF)
     (aH (aR (cJ (aa (ev 1) (aa (ev 4) aj)))))))))),?_⟩
 try walk_at "rn"
 obtain ⟨s1,s2⟩:=cG (Txt.partition t (Str.ofString "=")).2.2 44
 rw [<- fV] at s1 s2
 refine ⟨by decide +kernel,by omega,fun D nD R nR=>⟨by decide +kernel,by omega,by omega,fun D1 n1=>⟨⟨_,bC.of ah⟩,?_⟩⟩⟩
 have xD:=Ext.new (K:=K) (o:=.tup [V.str (Txt.partition t (Str.ofString "=")).1,V.str (Txt.partition t (Str.ofString "=")).2.1,V.str (Txt.partition t (Str.ofString "=")).2.2]) nD
 have xR:=Ext.new (K:=K) (o:=.lst []) nR
 have x1:=Ext.new (K:=K) (o:=.lst ((Txt.split (Txt.partition t (Str.ofString "=")).2.2 (Str.ofString ",")).map V.str)) n1
 have Kq:=cO xD nR
 have Hv:=x1.at (ah (H:=upd H D (.tup [V.str (Txt.partition t (Str.ofString "=")).1,V.str (Txt.partition t (Str.ofString "=")).2.1,V.str (Txt.partition t (Str.ofString "=")).2.2])) (a:=R) (o:=.lst []))
 have y9:=ah (H:=upd (upd H D (.tup [V.str (Txt.partition t (Str.ofString "=")).1,V.str (Txt.partition t (Str.ofString "=")).2.1,V.str (Txt.partition t (Str.ofString "=")).2.2])) R (.lst [])) (a:=D1) (o:=.lst ((Txt.split (Txt.partition t (Str.ofString "=")).2.2 (Str.ofString ",")).map V.str))
 have X:=xD.trans (xR.trans x1)
 have yj:D1≠R:=fun z=>by
   have:=n1.1
   rw [z,ah] at this
   cases this
 generalize upd (upd (upd H D (.tup [V.str (Txt.partition t (Str.ofString "=")).1,V.str (Txt.partition t (Str.ofString "=")).2.1,V.str (Txt.partition t (Str.ofString "=")).2.2])) R (.lst [])) D1 (.lst ((Txt.split (Txt.partition t (Str.ofString "=")).2.2 (Str.ofString ",")).map V.str))=G at Hv y9 X ⊢
 have pn:=Fb (t:=t)
 have Rb:=fun ps=>Fc (t:=t) (ps:=ps)
 have lk:(Txt.partition t (Str.ofString "=")).1.length<=1000000:=by omega
 generalize (Txt.partition t (Str.ofString "=")).1=key at *
 generalize (Txt.partition t (Str.ofString "=")).2.1=mid at *
 generalize (Txt.partition t (Str.ofString "=")).2.2=rest at *
 generalize Txt.split rest (Str.ofString ",")=pieces at *
 obtain ⟨J,eJ⟩:∃ J:Nat->St->Hp->Prop,J=fun i σ H'=>∃ (v2 v5 v6 v7:Option V) (ps:List qM) (acc:List V),σ=[some (.str t),some (.str key),v2,some (.str rest),some (.ref R),v5,v6,v7]/\H' R=some (.lst acc)/\aU K G H' (ps.map m6) acc/\Kp K R G H'/\(pieces.take i).map m5=ps.map some/\ps.all uc=true/\rising (ps.map (·.1))=true/\ps.length=i:=⟨_,rfl⟩
 refine jM (xs:=pieces.map V.str) J (by rw [eJ];exact ⟨_,_,_,_,[],[],rfl,Hv,.nil,Kp.refl,rfl,rfl,rfl,rfl⟩) ?_ ?_ ?_
 . intro i σ H' _ h
   rw [eJ] at h
   obtain ⟨v2,v5,v6,v7,ps,acc,rfl,hR,ha,k,_⟩:=h
   exact bC.of (k.keep D1 _ y9 yj)
 . intro i x σ H1 hx h
   rw [eJ] at h
   obtain ⟨v2,v5,v6,v7,ps,acc,rfl,hR,ha,k,et,h1,h2,hl⟩:=h
   rw [List.getElem?_map] at hx
   obtain ⟨p,hp,rfl⟩:=Option.map_eq_some_iff.mp hx
   have lp:=s2 p (List.mem_of_getElem? hp)
   obtain ⟨l1,l2⟩:=jj p (Str.ofString ":")
   have X1:Ext K H H1:=X.lA k Kq
   have fail:∀ H',Ext K H1 H'->(∀ w,m5 p=some w->uc w=true->vE (·.1) ps w.1->False)->Q .cY H':=fun H' x' bad=>by
     have:=q .cY H' (X1.trans x')
     rw [pn (zL et hp bad)] at this
     exact this (bw.nn.mpr rfl)
   try walk_at "rn"
   refine ⟨by decide +kernel,by omega,fun D' nD'=>⟨_,rfl,by omega,fun H2 x2=>?_⟩⟩
   have Mr:=Ext.new (K:=K) (o:=.tup [V.str (Txt.partition p (Str.ofString ":")).1,V.str (Txt.partition p (Str.ofString ":")).2.1,V.str (Txt.partition p (Str.ofString ":")).2.2]) nD'
   have X2:=Mr.trans x2
   have ev:m5 p=match ao (Txt.partition p (Str.ofString ":")).1 with
     | none=>none
     | some n=>if (Txt.partition p (Str.ofString ":")).2.2=Str.ofString "x" then some (n,none) else (ao (Txt.partition p (Str.ofString ":")).2.2).map fun v=>(n,some v):=rfl
   clear Mr x2 nD'
   generalize (Txt.partition p (Str.ofString ":")).1=na at *
   generalize (Txt.partition p (Str.ofString ":")).2.1=md at *
   generalize (Txt.partition p (Str.ofString ":")).2.2=vl at *
   have hR2:=X2.at hR
   have C5:=ha.ext X2
   cases ec:cnt na with
   | none=>
     refine aO rfl (fail _ X2 fun w' e1 e2 _=>?_)
     rw [ev] at e1
     cases er:ao na with
     | none=>rw [er] at e1;cases e1
     | some n=>
       rw [er] at e1
       have:w'.1=n:=by
         dsimp only at e1
         split at e1
         . cases e1;rfl
         . obtain ⟨_,_,rfl⟩:=Option.map_eq_some_iff.mp e1;rfl
       unfold uc at e2
       rw [this] at e2
       rw [w6 er (of_decide_eq_true e2)] at ec
       cases ec
   | some n=>
   obtain ⟨er,n0⟩:=eY.mp ec
   rw [er] at ev
   dsimp only at ev
   have w1:∀ w',m5 p=some w'->w'.1=n:=fun w' e1=>by
     rw [ev] at e1
     split at e1
     . cases e1;rfl
     . obtain ⟨_,_,rfl⟩:=Option.map_eq_some_iff.mp e1;rfl
   refine aF (by simp [on]) fun p9 n9=>⟨acc,(Ext.new n9).same.seq (bC.of hR2),bC.of ah,?_⟩
   have x9:=Ext.new (K:=K) (o:=.lst []) n9
   have X3:=X2.trans x9
   have zR:=X3.at hR
   have Kr:=ha.ext X3
   generalize upd H2 p9 (.lst [])=H3 at X3 zR Kr ⊢
   have la:acc.length=ps.length:=by rw [ha.len,List.length_map]
   have app:∀ (o:Option Int) (H4:Hp) (t':Addr),vE (·.1) ps n->Ext K H3 H4->m5 p=some (n,o)->new K H4 t'->J (i + 1) [some (.str t),some (.str key),some (.str md),some (.str rest),some (.ref R),some (.str p),some (on (some n)),some (.str vl)] (upd (upd H4 t' (.tup [.int n,on o])) R (.lst (acc++[.ref t']))):=by
     intro o H4 t' lk' x4 ew nt
     have xt:=Ext.new (K:=K) (o:=.tup [.int n,on o]) nt
     have Og:=(x4.trans xt).at zR
     have kR:Kp K R _ (upd (upd H4 t' (.tup [.int n,on o])) R (.lst (acc++[.ref t']))):=Kp.upd Og
     rw [eJ]
     refine ⟨_,_,_,_,ps++[(n,o)],acc++[.ref t'],rfl,ah,?_,k.trans ((X3.trans (x4.trans xt)).kp.trans kR),?_,?_,?_,by rw [List.length_append,hl];rfl⟩
     . rw [List.map_append]
       refine aU.kp (o:=.lst []) Hv Og kR (aU.snoc (Kr.ext (x4.trans xt)) ?_)
       exact bw.tt.mpr ⟨t',_,rfl,aN,.cons (bw.ii.mpr rfl) (.cons (bw.oo.mpr rfl) .nil)⟩
     . rw [List.take_add_one,hp,Option.toList_some,List.map_append,et,List.map_append,List.map_cons,ew]
       rfl
     . rw [List.all_append,h1]
       show (true&&(decide (0<=n)&&true))=true
       rw [decide_eq_true n0]
       rfl
     . rw [List.map_append]
       refine m8 h2 fun y hy=>?_
       rw [List.getLast?_map] at hy
       obtain ⟨y',hy',rfl⟩:=Option.map_eq_some_iff.mp hy
       exact lk' y' hy'
   have rest:vE (·.1) ps n->∀ bk ct,r3 { nx:=J (i + 1),rt:=Q,bk:=bk,ct:=ct } [some (.str t),some (.str key),some (.str md),some (.str rest),some (.ref R),some (.str p),some (on (some n)),some (.str vl)] H3:=by
     intro lk' bk ct
     rw [e3]
     try walk_at "rn"
     by_cases cx:vl=Str.ofString "x"
     . rw [if_pos cx] at ev
       refine aF (by simp [cx]) ?_
       rw [e4]
       try walk_at "rn"
       exact aO cx ⟨.inl ⟨_,bC.of zR⟩,fun t' nt=>⟨_,(Ext.new nt).at zR,by rw [la,hl];have:=(List.getElem?_eq_some_iff.mp hp).1;omega,app none H3 t' lk' Ext.refl ev nt⟩⟩
     . rw [if_neg cx] at ev
       refine aO (by simp [cx]) ⟨vl,rfl,by omega,fun H4 x4=>?_⟩
       cases el:ao vl with
       | none=>
         refine aO rfl (fail _ (X3.trans x4) fun w' e1 _ _=>?_)
         rw [ev,el] at e1
         cases e1
       | some j=>
         rw [el] at ev
         refine aF (by simp [on]) ?_
         rw [e4]
         try walk_at "rn"
         refine aF cx ⟨.inl ⟨_,bC.of (x4.at zR)⟩,vl,rfl,by omega,fun H5 x5 t' nt=>?_⟩
         rw [el]
         exact ⟨_,(x4.trans (x5.trans (Ext.new nt))).at zR,by rw [la,hl];have:=(List.getElem?_eq_some_iff.mp hp).1;omega,app (some j) H5 t' lk' (x4.trans x5) ev nt⟩
   cases acc with
   | nil=>
     refine aF (by decide) (rest (fun y hy=>?_) _ _)
     have:ps=[]:=List.eq_nil_of_length_eq_zero (by rw [<- la];rfl)
     rw [this] at hy
     cases hy
   | cons a0 ar=>
     refine aO rfl ⟨_,aX zR,?_⟩
     obtain ⟨lv,elv⟩:∃ lv,(a0::ar).getLast?=some lv:=⟨_,List.getLast?_eq_some_getLast (by simp)⟩
     obtain ⟨lw,elw,hlw⟩:=B5 Kr elv
     obtain ⟨tl,rfl,Mf⟩:=xr hlw
     refine ⟨.ref tl,zM elv,tl,rfl,_,br Mf,_,rfl,_,rfl,n,rfl,cQ (fun c=>?_) (fun c=>?_)⟩
     . refine fail _ X3 fun w' e1 _ e3'=>?_
       have h9:lw.1 < w'.1:=e3' lw elw
       rw [w1 w' e1] at h9
       omega
     . refine rest (fun y hy=>?_) _ _
       rw [elw] at hy
       cases hy
       show lw.1 < n
       omega
 . intro σ H1 h
   rw [eJ] at h
   obtain ⟨v2,v5,v6,v7,ps,acc,rfl,hR,ha,k,et,h1,h2,hl⟩:=h
   rw [List.length_map,List.take_of_length_le (Nat.le_refl _)] at et
   have X1:Ext K H H1:=X.lA k Kq
   try walk_at "rn"
   have er:=Rb ps et h1 h2
   refine ⟨key,rfl,lk,fun H2 x2=>?_⟩
   cases ec:cnt key with
   | none=>
     rw [ec] at er
     have:=q .cY _ (X1.trans x2)
     rw [er] at this
     exact aO rfl (this (bw.nn.mpr rfl))
   | some kk=>
     rw [ec] at er
     dsimp only at er
     refine aF (by simp [on]) ⟨kk,rfl,cQ (fun c=>?_) (fun c=>fun p np=>?_)⟩
     . have:=q .cY _ (X1.trans x2)
       rw [er,if_pos c] at this
       exact this (bw.nn.mpr rfl)
     . have y:=Ext.new (K:=K) (o:=.tup [on (some kk),V.ref R]) np
       have:=q (.ref p) _ (X1.trans (x2.trans y))
       rw [er,if_neg c] at this
       exact this (bw.tt.mpr ⟨p,_,rfl,aN,.cons (bw.ii.mpr rfl) (.cons (bw.ll.mpr ⟨R,acc,rfl,Kq,(x2.trans y).at hR,(ha.ext (x2.trans y)).old X⟩) .nil)⟩)
theorem vF {H:Hp} {a b:Addr} {xs:List V} {k:List (Key×V)} (h1:H a=some (.lst xs)) (h2:H b=some (.dK k)):a≠b:=fun z=>by
 subst z
 rw [h1] at h2
 cases h2
theorem Ks {G H1:Hp} {R a:Addr} {o:HO} (k:Kp K R G H1) (hR:H1 R=some o) (n:new K H1 a):new K G a:=by
 refine ⟨?_,n.2⟩
 cases z:G a with
 | none=>rfl
 | some o'=>
   by_cases e:a=R
   . have:=n.1;rw [e,hR] at this;cases this
   . have:=k.keep a o' z e;rw [n.1] at this;cases this
theorem Fg {p:Str} {r:Int×List qM}:qO p=some r↔jT p=some r/\jc r=true:=by
 unfold qO
 constructor
 . intro h
   split at h
   . rename_i r' e
     split at h
     . rename_i ok
       cases h
       exact ⟨e,ok⟩
     . cases h
   . cases h
 . rintro ⟨e,ok⟩
   rw [e]
   exact if_pos ok
theorem Dc {n r:Str} (ne:r≠Str.ofString "-") (h:∀ rows:List (Int×List qM),(Txt.split r (Str.ofString ";")).map jT=rows.map some->rows.all jc=true->rising (rows.map (·.1))=true->False):iS n r=none:=by
 unfold iS
 split
 . rename_i k rows e1 e2
   refine if_neg fun ok=>?_
   unfold kM at ok
   simp only [Bool.and_eq_true] at ok
   unfold bU at e2
   rw [if_neg ne] at e2
   exact h rows (fk e2) ok.2.1 ok.2.2
 . rfl
theorem Dd {n r:Str} {rows:List (Int×List qM)} (h:bU jT (Str.ofString ";") r=some rows) (h1:rows.all jc=true) (h2:rising (rows.map (·.1))=true):iS n r=(cnt n).map fun i=>.leaf i rows:=by
 unfold iS cnt
 rw [h]
 cases e:ao n with
 | none=>rfl
 | some i=>
   dsimp only
   rw [show kM rows=true from by unfold kM;rw [h1,h2];rfl,Bool.and_true]
   by_cases c:0<=i
   . rw [if_pos c,decide_eq_true c];rfl
   . rw [if_neg c,decide_eq_false c];rfl
def Fi (K:PySem.W.Frag):Sp:=fun vs H Q _=>∃ n r:Str,vs=[.str n,.str r]/\n.length<=1000000/\r.length<=1000000/\∀ v H',Ext K H H'->Res K H H' (iS n r) v->Q v H'
theorem fF:aE ["_law_number_here","_law_rows","_law_found","_law_word","_law_row"] ["_law_number_here","_law_rows"] (af eX):=⟨rfl,rfl,rfl,by decide +kernel,rfl,by decide +kernel,by decide +kernel⟩
theorem rG {f:Addr} {fd:FuncData} (F:fM K "_law_leaf_in" "_law_leaf_in" eX f fd) {aG cF cR cN:Addr} {tE tF:Tok} (B:B K mg aG cF cR cN tE tF) (bu:Callee P w K mg base "_law_count" 2 ["_law_word"] (vB K)) (jo:Callee P w K mg base "_law_row_in" 3 ["_law_word"] (Ff K)):bB P w K mg base fC 4 f fd ["_law_number_here","_law_rows"] (Fi K):=by
 refine F.iM fF (fun vs H Q E h=>?_) (fun dg A outer s H vs Q E hr h=>?_)
 . obtain ⟨n,r,rfl,_⟩:=h
   rfl
 obtain ⟨n,r,rfl,ln,lr,q⟩:=h
 obtain ⟨s1,s2⟩:=cG r 59
 rw [<- lP] at s1 s2
 refine ⟨_,(aq (sset (i:=0) fF.nd rfl (Or.inl rfl) (ay bu (hr.mono (by decide)) rfl (aa (ev 0) aj)))
     (aq (sset (i:=2) fF.nd rfl (Or.inl rfl) (cK aj))
     (nF (d8 (aV ja (ev 1) bg (au _)) (aH (vW PassesOwn.never rfl (d9 (lY PySem.F.plainAttrs_str PySem.F.slot_str_split PySem.F.type_str_split fU (ev 1) (aa bg aj))) (aM (i:=3) fF.nd rfl (Or.inl rfl))
       (aq (sset (i:=4) fF.nd rfl (Or.inl rfl) (ay jo (hr.mono (by decide)) rfl (aa (ev 3) aj)))
     (aq (d8 (tw (lB (aV dh (ev 4) bZ (au _)) (je (tw (nX (aV (Aw (Nat.lt_of_le_of_lt (Nat.le_add_right _ 64) hr.units)) (ev 2) (cK aj) (au _)) (jP (aV sD (dW bI (dW bI (ev 2) (QK z8 ei) (fun _ _=>rfl)) ei (fun _ _=>rfl)) (dW bI (ev 4) ei (fun _ _=>rfl)) (au _)))))))) (aH (aR bZ)) bF)
     (aH (mQ (lY PySem.F.plainAttrs_list PySem.F.slot_list_append PySem.F.type_list_append d7 (ev 2) (aa (ev 4) aj)))))))) bF)
     (aq (d8 (aV dh (ev 0) bZ (au _)) (aH (aR bZ)) bF)
     (aH (aR (cJ (aa (cJ (aa bg (aa (ev 0) (aa (ev 2) aj)))) (aa sW aj))))))))),?_⟩
 try walk_at "rn"
 refine ⟨n,rfl,ln,fun H0 x0 R nR=>?_⟩
 have xR:=Ext.new (K:=K) (o:=.lst []) nR
 have Kq:=cO x0 nR
 have XG:=x0.trans xR
 have Hv:=ah (H:=H0) (a:=R) (o:=.lst [])
 generalize upd H0 R (.lst [])=G at XG Hv ⊢
 obtain ⟨J,eJ⟩:∃ J:St->Hp->Prop,J=fun σ H'=>∃ (v3 v4:Option V) (rows:List (Int×List qM)) (acc:List V),σ=[some (on (cnt n)),some (.str r),some (.ref R),v3,v4]/\H' R=some (.lst acc)/\aU K G H' (rows.map lZ) acc/\Kp K R G H'/\bU jT (Str.ofString ";") r=some rows/\rows.all jc=true/\rising (rows.map (·.1))=true:=⟨_,rfl⟩
 refine ⟨J,?_,?_⟩
 . try walk_at "rn"
   by_cases cm:r=Str.ofString "-"
   . refine aF (by simp [cm]) ?_
     rw [eJ]
     exact ⟨_,_,[],[],rfl,Hv,.nil,Kp.refl,by unfold bU;rw [if_pos cm],rfl,rfl⟩
   refine aO (by simp [cm]) ⟨by decide +kernel,by omega,by omega,fun D1 n1=>⟨⟨_,bC.of ah⟩,?_⟩⟩
   have x1:=Ext.new (K:=K) (o:=.lst ((Txt.split r (Str.ofString ";")).map V.str)) n1
   have y9:=ah (H:=G) (a:=D1) (o:=.lst ((Txt.split r (Str.ofString ";")).map V.str))
   have hR1:=x1.at Hv
   have yj:D1≠R:=fun z=>by
     have:=n1.1
     rw [z,Hv] at this
     cases this
   have k1:=x1.kp (p:=R)
   generalize upd G D1 (.lst ((Txt.split r (Str.ofString ";")).map V.str))=G1 at y9 hR1 k1 ⊢
   have pn:=Dc (n:=n) cm
   have el:bU jT (Str.ofString ";") r=cH ((Txt.split r (Str.ofString ";")).map jT):=by unfold bU;rw [if_neg cm]
   generalize Txt.split r (Str.ofString ";")=pieces at *
   obtain ⟨J1,eJ1⟩:∃ J1:Nat->St->Hp->Prop,J1=fun i σ H'=>∃ (v3 v4:Option V) (rows:List (Int×List qM)) (acc:List V),σ=[some (on (cnt n)),some (.str r),some (.ref R),v3,v4]/\H' R=some (.lst acc)/\H' D1=some (.lst (pieces.map V.str))/\aU K G H' (rows.map lZ) acc/\Kp K R G H'/\(pieces.take i).map jT=rows.map some/\rows.all jc=true/\rising (rows.map (·.1))=true/\rows.length=i:=⟨_,rfl⟩
   refine jM (xs:=pieces.map V.str) J1 (by rw [eJ1];exact ⟨_,_,[],[],rfl,hR1,y9,.nil,k1,rfl,rfl,rfl,rfl⟩) ?_ ?_ ?_
   . intro i σ H' _ h
     rw [eJ1] at h
     obtain ⟨v3,v4,rows,acc,rfl,hR,hD,_⟩:=h
     exact bC.of hD
   . intro i x σ H1 hx h
     rw [eJ1] at h
     obtain ⟨v3,v4,rows,acc,rfl,hR,hD,ha,k,et,h1,h2,hl⟩:=h
     rw [List.getElem?_map] at hx
     obtain ⟨p,hp,rfl⟩:=Option.map_eq_some_iff.mp hx
     have lp:=s2 p (List.mem_of_getElem? hp)
     have hi:=(List.getElem?_eq_some_iff.mp hp).1
     have X1:Ext K H H1:=XG.lA k Kq
     have fail:∀ H',Ext K H1 H'->(∀ w,jT p=some w->jc w=true->vE (·.1) rows w.1->False)->Q .cY H':=fun H' x' bad=>by
       have:=q .cY H' (X1.trans x')
       rw [pn (zL et hp bad)] at this
       exact this rfl
     try walk_at "rn"
     refine ⟨p,rfl,by omega,fun v H2 x2 hv=>?_⟩
     have la:acc.length=rows.length:=by rw [ha.len,List.length_map]
     cases er:qO p with
     | none=>
       rw [er] at hv
       refine aO (bw.nn.mp hv) (fail _ x2 fun w' e1 e2 _=>?_)
       rw [Fg.mpr ⟨e1,e2⟩] at er
       cases er
     | some wr=>
     rw [er] at hv
     obtain ⟨erw,okw⟩:=Fg.mp er
     have hv':bw K G H2 (lZ wr) v:=bw.xh (fun _ n=>Ks k hR n) hv
     obtain ⟨tv,Dv,vsv,rfl,htv,_,_⟩:=rW hv
     refine aF (by simp) fun p9 n9=>⟨acc,(Ext.new n9).same.seq (bC.of (x2.at hR)),bC.of ah,?_⟩
     have x9:=Ext.new (K:=K) (o:=.lst []) n9
     have X3:=x2.trans x9
     have zR:=X3.at hR
     have Kr:=ha.ext X3
     have Ih:=hv'.ext x9
     have Ms:=x9.tup htv
     generalize upd H2 p9 (.lst [])=H3 at X3 zR Kr Ih Ms ⊢
     have app:vE (·.1) rows wr.1->J1 (i + 1) [some (on (cnt n)),some (.str r),some (.ref R),some (.str p),some (.ref tv)] (upd H3 R (.lst (acc++[.ref tv]))):=by
       intro lk'
       have kR:Kp K R _ (upd H3 R (.lst (acc++[.ref tv]))):=Kp.upd zR
       rw [eJ1]
       refine ⟨_,_,rows++[wr],acc++[.ref tv],rfl,ah,kR.keep D1 _ (X3.at hD) yj,?_,k.trans (X3.kp.trans kR),?_,?_,?_,by rw [List.length_append,hl];rfl⟩
       . rw [List.map_append]
         exact aU.kp (o:=.lst []) Hv zR kR (aU.snoc Kr Ih)
       . rw [List.take_add_one,hp,Option.toList_some,List.map_append,et,List.map_append,List.map_cons,erw]
         rfl
       . rw [List.all_append,h1]
         show (true&&(jc wr&&true))=true
         rw [okw]
         rfl
       . rw [List.map_append]
         refine m8 h2 fun y hy=>?_
         rw [List.getLast?_map] at hy
         obtain ⟨y',hy',rfl⟩:=Option.map_eq_some_iff.mp hy
         exact lk' y' hy'
     cases acc with
     | nil=>
       refine aF (by decide) ⟨.inl ⟨_,bC.of zR⟩,_,zR,by simp,app fun y hy=>?_⟩
       have:rows=[]:=List.eq_nil_of_length_eq_zero (by rw [<- la];rfl)
       rw [this] at hy
       cases hy
     | cons a0 ar=>
       refine aO rfl ⟨_,aX zR,?_⟩
       obtain ⟨lv,elv⟩:∃ lv,(a0::ar).getLast?=some lv:=⟨_,List.getLast?_eq_some_getLast (by simp)⟩
       obtain ⟨lw,elw,hlw⟩:=B5 Kr elv
       obtain ⟨tl,Dl,vl,rfl,Mf,_,_⟩:=rW hlw
       refine ⟨.ref tl,zM elv,tl,rfl,_,br Mf,_,rfl,tv,rfl,_,br Ms,_,rfl,lw.1,rfl,wr.1,rfl,cQ (fun c=>?_) (fun c=>?_)⟩
       . refine fail _ X3 fun w' e1 _ e3'=>?_
         have h9:lw.1 < w'.1:=e3' lw elw
         rw [erw] at e1
         cases e1
         omega
       . refine ⟨.inl ⟨_,bC.of zR⟩,_,zR,by rw [la,hl];omega,app fun y hy=>?_⟩
         rw [elw] at hy
         cases hy
         show lw.1 < wr.1
         omega
   . intro σ H1 h
     rw [eJ1] at h
     obtain ⟨v3,v4,rows,acc,rfl,hR,hD,ha,k,et,h1,h2,hl⟩:=h
     rw [List.length_map,List.take_of_length_le (Nat.le_refl _)] at et
     try walk_at "rn"
     rw [eJ]
     exact ⟨_,_,rows,acc,rfl,hR,ha,k,by rw [el,et,lM],h1,h2⟩
 intro σ H1 h
 rw [eJ] at h
 obtain ⟨v3,v4,rows,acc,rfl,hR,ha,k,el,h1,h2⟩:=h
 have X1:Ext K H H1:=XG.lA k Kq
 have er:=Dd (n:=n) el h1 h2
 try walk_at "rn"
 cases ec:cnt n with
 | none=>
   rw [ec] at er
   have:=q .cY _ X1
   rw [er] at this
   exact aO rfl (this rfl)
 | some i=>
   rw [ec] at er
   refine aF (by simp [on]) fun a na P nP T nT=>?_
   have ya:=Ext.new (K:=K) (o:=.tup [V.str (Str.ofString "leaf"),on (some i),V.ref R]) na
   have yP:=Ext.new (K:=K) (o:=.dK []) nP
   have yT:=Ext.new (K:=K) (o:=.tup [V.ref a,V.ref P]) nT
   have:=q (.ref T) _ (X1.trans (ya.trans (yP.trans yT)))
   rw [er] at this
   have hP:=yT.at (ah (H:=upd H1 a (.tup [V.str (Str.ofString "leaf"),on (some i),V.ref R])) (a:=P) (o:=.dK []))
   have hR':=(ya.trans (yP.trans yT)).at hR
   refine this ⟨T,rfl,a,R,P,acc,aN,(yP.trans yT).tup aN,Kq,hR',(ha.ext (ya.trans (yP.trans yT))).old XG,cO (X1.trans ya) nP,hP,vF hR' hP⟩
theorem Hw {p:Str} {r:RN}:gJ p=some r↔fZ p=some r/\cW r=true:=by
 unfold gJ
 constructor
 . intro h
   split at h
   . rename_i r' e
     split at h
     . rename_i ok
       cases h
       exact ⟨e,ok⟩
     . cases h
   . cases h
 . rintro ⟨e,ok⟩
   rw [e]
   exact if_pos ok
theorem vG:∀ (L:List Str),cH (L.map gJ)=match cH (L.map fZ) with
   | some ts=>if ts.all cW=true then some ts else none
   | none=>none
 | []=>rfl
 | p::L=>by
   have ih:=vG L
   cases e:fZ p with
   | none=>
     have:gJ p=none:=by unfold gJ;rw [e]
     rw [List.map_cons,List.map_cons,this,e]
     rfl
   | some r=>
     rw [List.map_cons,List.map_cons,e]
     show _=match (cH (L.map fZ)).map (r::·) with
       | some ts=>if ts.all cW=true then some ts else none
       | none=>none
     cases c:cW r with
     | false=>
       have:gJ p=none:=by unfold gJ;rw [e];exact if_neg (by rw [c];decide)
       rw [this]
       cases cH (L.map fZ) with
       | none=>rfl
       | some ts=>
         show none=if (cW r&&ts.all cW)=true then some (r::ts) else none
         rw [c]
         rfl
     | true=>
       rw [Hw.mpr ⟨e,c⟩]
       show (cH (L.map gJ)).map (r::·)=_
       rw [ih]
       cases cH (L.map fZ) with
       | none=>rfl
       | some ts=>
         show _=if (cW r&&ts.all cW)=true then some (r::ts) else none
         rw [c,Bool.true_and]
         dsimp only
         by_cases h:ts.all cW=true
         . rw [if_pos h,if_pos h];rfl
         . rw [if_neg h,if_neg h];rfl
theorem De (y:Str):bU gJ (Str.ofString ";") y=match bU fZ (Str.ofString ";") y with
   | some ts=>if ts.all cW=true then some ts else none
   | none=>none:=by
 unfold bU
 by_cases c:y=Str.ofString "-"
 . rw [if_pos c,if_pos c];rfl
 . rw [if_neg c,if_neg c];exact vG _
def xZ (p:Int×Int):Bool:=decide (0<=p.1)&&decide (0<=p.2)
theorem A5:gF (Str.ofString "-")=none:=by decide +kernel
theorem A6 {n pv sp y:Str} (h:∀ ss:List (Int×Int),(Txt.split sp (Str.ofString ",")).map gF=ss.map some->ss.all xZ=true->(ss.map (·.1)).Nodup->False):fS n pv sp y=none:=by
 unfold fS
 split
 . rename_i i ps ss ts e1 e2 e3 e4
   refine if_neg fun ok=>?_
   unfold pK at ok
   simp only [Bool.and_eq_true,decide_eq_true_eq] at ok
   obtain ⟨⟨⟨⟨o1,o2⟩,o3⟩,o4⟩,o5⟩:=ok
   unfold bU at e3
   split at e3
   . cases e3;simp at o2
   . refine h ss (fk e3) ?_ o3
     rw [List.all_eq_true] at o5 ⊢
     intro p hp
     have:=o5 p hp
     unfold xZ
     simpa using this
 . rfl
theorem A7 {n pv sp y:Str} {ss:List (Int×Int)} (h:(Txt.split sp (Str.ofString ",")).map gF=ss.map some) (h1:ss.all xZ=true) (h2:(ss.map (·.1)).Nodup):
   fS n pv sp y=match cnt n,bU ao (Str.ofString ",") pv,bU gJ (Str.ofString ";") y with
     | some i,some ps,some ts=>if ss.length=ps.length + 1 then some (.inner i ps ss ts) else none
     | _,_,_=>none:=by
 have ne:¬ sp=Str.ofString "-":=fun z=>by
   rw [z,qP] at h
   simp only [List.map_cons,List.map_nil,A5] at h
   cases ss <;> cases h
 have el:bU gF (Str.ofString ",") sp=some ss:=by
   unfold bU
   rw [if_neg ne,h,lM]
 unfold fS cnt
 rw [el,De]
 cases e1:ao n with
 | none=>rfl
 | some i=>
 cases e2:bU ao (Str.ofString ",") pv with
 | none=>
   dsimp only
   by_cases c:0<=i
   . rw [if_pos c]
   . rw [if_neg c]
 | some ps=>
 cases e4:bU fZ (Str.ofString ";") y with
 | none=>
   dsimp only
   by_cases c:0<=i
   . rw [if_pos c]
   . rw [if_neg c]
 | some ts=>
 dsimp only
 unfold pK
 rw [decide_eq_true h2,show (ss.all fun p=>decide (0<=p.1)&&decide (0<=p.2))=true from h1,Bool.and_true,Bool.and_true]
 by_cases c:0<=i
 . rw [if_pos c,decide_eq_true c,Bool.and_true]
   cases ct:ts.all cW with
   | false=>rfl
   | true=>
     rw [Bool.true_and,if_pos rfl]
     dsimp only
     by_cases cl:ss.length=ps.length + 1
     . rw [if_pos cl,if_pos (by simp [cl])]
     . rw [if_neg cl,if_neg (by simp [cl])]
 . rw [if_neg c,decide_eq_false c,Bool.and_false]
   rfl
theorem _root_.L2.Ext.vH {K:PySem.W.Frag} {H G H':Hp} {R S:Addr} (x:Ext K H G) (k:j4 K R S G H') (n:new K H R) (m:new K H S):Ext K H H':=
 ⟨fun q o e=>k.keep q o (x.at e) (aW e n.1) (aW e m.1),fun q xs e m=>k.mod q xs (x.mod q xs e m) m⟩
theorem Df {pieces:List Str} {ss:List (Int×Int)} {i:Nat} {p:Str} (e:(pieces.take i).map gF=ss.map some) (hp:pieces[i]?=some p) (bad:∀ w,gF p=some w->xZ w=true->w.1∉ss.map (·.1)->False):
   ∀ vs:List (Int×Int),pieces.map gF=vs.map some->vs.all xZ=true->(vs.map (·.1)).Nodup->False:=by
 intro vs ev ha nd
 have hlen:pieces.length=vs.length:=by have:=congrArg List.length ev;simpa using this
 have hi:=(List.getElem?_eq_some_iff.mp hp).1
 have et:ss=vs.take i:=by
   have h1:(pieces.take i).map gF=(vs.take i).map some:=by rw [List.map_take,ev,List.map_take]
   exact (List.map_inj_right fun _ _=>Option.some.inj).mp (e.symm.trans h1)
 have ew:gF p=some (vs[i]'(by omega)):=by
   have h1:(pieces.map gF)[i]?=some (gF p):=by rw [List.getElem?_map,hp];rfl
   rw [ev,List.getElem?_map,List.getElem?_eq_getElem (by omega)] at h1
   exact (Option.some.inj h1).symm
 refine bad _ ew (List.all_eq_true.mp ha _ (List.getElem_mem _)) fun hm=>?_
 rw [et,List.map_take] at hm
 obtain ⟨j,hj,ej⟩:=List.mem_take_iff_getElem.mp hm
 have hj':j < i:=by omega
 have:=List.pairwise_iff_getElem.mp nd j i (by simp;omega) (by simp;omega) hj'
 apply this
 rw [ej]
 simp
theorem Ku (l:List Int):(l.map some).map on=l.map V.int:=by rw [List.map_map];rfl
def B6 (K:PySem.W.Frag):Sp:=fun vs H Q _=>∃ W n pv sp y,vs=[.ref W]/\H W=some (.lst [.str (Str.ofString "inner"),.str n,.str pv,.str sp,.str y])/\n.length<=1000000/\pv.length<=1000000/\sp.length<=1000000/\y.length<=1000000/\∀ v H',Ext K H H'->Res K H H' (fS n pv sp y) v->Q v H'
theorem aZ:aE ["_law_words","_law_number_here","_law_children","_law_places","_law_word","_law_child","_law_sign_here","_law_place","_law_pivots","_law_tray"] ["_law_words"] (af bX):=⟨rfl,rfl,rfl,by decide +kernel,rfl,by decide +kernel,by decide +kernel⟩
theorem qC {f:Addr} {fd:FuncData} (F:fM K "_law_inner_in" "_law_inner_in" bX f fd) {aG cF cR cN:Addr} {tE tF:Tok} (B:B K mg aG cF cR cN tE tF) (bx:Callee P w K mg base "_law_whole" 1 ["_law_word"] (zw K)) (bu:Callee P w K mg base "_law_count" 2 ["_law_word"] (vB K)) (i7:Callee P w K mg base "_law_note_in" 3 ["_law_word"] (Fe K)):bB P w K mg base fC 4 f fd ["_law_words"] (B6 K):=by
 refine F.iM aZ (fun vs H Q E h=>?_) (fun dg A outer s H vs Q E hr h=>?_)
 . obtain ⟨W,n,pv,sp,y,rfl,_⟩:=h
   rfl
 obtain ⟨W,n,pv,sp,y,rfl,hW,ln,lp,ls,ly,q⟩:=h
 obtain ⟨s1,s2⟩:=cG sp 44
 rw [<- fV] at s1 s2
 refine bq (rest:=(ak bX).drop 8) (aq (d8 (tw (lB (aV dh (ev 1) bZ (au _)) (lB (aV (tL hr.units) bZ (ev 8) (by with_unfolding_all rfl)) (lB (aV (tL hr.units) bZ (ev 9) (by with_unfolding_all rfl)) (je (aV ja (dB cu (aI bE rfl B.len bN (aa (ev 8) aj)) ei) (aI bE rfl B.len bN (aa (ev 2) aj)) (au _))))))) (aH (aR bZ)) bF)
     (aH (aR (cJ (aa (cJ (aa bg (aa (ev 1) (aa (ev 8) (aa (ev 2) (aa (ev 9) aj)))))) (aa (ev 3) aj)))))) fun r8 J8 e8=>?_
 refine bq (rest:=(ak bX).drop 6) (aq (sset (i:=9) aZ.nd rfl (Or.inl rfl) (cK aj))
     (nF (d8 (aV ja (dW bI (ev 0) ei (fun _ _=>rfl)) bg (au _)) (aH (K4 (i:=9) aZ.nd rfl (Or.inl rfl) (j5.mk (N:=["_law_word"]) (src:=[none]) rfl rfl) rfl (d9 (lY PySem.F.plainAttrs_str PySem.F.slot_str_split PySem.F.type_str_split fU (dW bI (ev 0) ei (fun _ _=>rfl)) (aa bg aj))) (fun _ _ _ _=>(aM (i:=0) (show (["_law_word"]:List Str).Nodup from by decide +kernel) rfl (Or.inl rfl))) (fun _ _ _ _=>eB) (fun _ _ _ _=>(ay i7 (hr.mono (by decide)) rfl (aa (ev 0) aj))))) bF)
     J8)) fun r6 J6 e6=>?_
 refine bq (rest:=(ak bX).drop 4) (aq (sset (i:=8) aZ.nd rfl (Or.inl rfl) (cK aj))
     (nF (d8 (aV ja (dW bI (ev 0) ei (fun _ _=>rfl)) bg (au _)) (aH (K4 (i:=8) aZ.nd rfl (Or.inl rfl) (j5.mk (N:=["_law_word"]) (src:=[none]) rfl rfl) rfl (d9 (lY PySem.F.plainAttrs_str PySem.F.slot_str_split PySem.F.type_str_split fU (dW bI (ev 0) ei (fun _ _=>rfl)) (aa bg aj))) (fun _ _ _ _=>(aM (i:=0) (show (["_law_word"]:List Str).Nodup from by decide +kernel) rfl (Or.inl rfl))) (fun _ _ _ _=>eB) (fun _ _ _ _=>(ay bx (hr.mono (by decide)) rfl (aa (ev 0) aj))))) bF)
     J6)) fun r4 J4 e4=>?_
 refine ⟨_,(aq (sset (i:=1) aZ.nd rfl (Or.inl rfl) (ay bu (hr.mono (by decide)) rfl (aa (dW bI (ev 0) ei (fun _ _=>rfl)) aj)))
     (aq (sset (i:=2) aZ.nd rfl (Or.inl rfl) (cK aj))
     (aq (sset (i:=3) aZ.nd rfl (Or.inl rfl) sW)
     (aq (vW PassesOwn.never rfl (d9 (lY PySem.F.plainAttrs_str PySem.F.slot_str_split PySem.F.type_str_split fU (dW bI (ev 0) ei (fun _ _=>rfl)) (aa bg aj))) (aM (i:=4) aZ.nd rfl (Or.inl rfl))
       (aq (kX (lY PySem.F.plainAttrs_str PySem.F.slot_str_partition PySem.F.type_str_partition gj (ev 4) (aa bg aj)) (jQ (n:=3) rfl (bf (aM (i:=5) aZ.nd rfl (Or.inl rfl)) (bf (aM (i:=6) aZ.nd rfl (Or.inl rfl)) (bf (aM (i:=7) aZ.nd rfl (Or.inl rfl)) jA)))))
     (aq (sset (i:=5) aZ.nd rfl (Or.inl rfl) (ay bu (hr.mono (by decide)) rfl (aa (ev 5) aj)))
     (aq (sset (i:=7) aZ.nd rfl (Or.inl rfl) (ay bu (hr.mono (by decide)) rfl (aa (ev 7) aj)))
     (aq (d8 (tw (lB (aV dh (ev 5) bZ (au _)) (lB (aV dh (ev 7) bZ (au _)) (je (aV (Et hr.units) (ev 5) (ev 3) (by with_unfolding_all rfl)))))) (aH (aR bZ)) bF)
     (aq (mQ (lY PySem.F.plainAttrs_list PySem.F.slot_list_append PySem.F.type_list_append d7 (ev 2) (aa (ev 5) aj)))
     (aH (Ex hr.units (ev 3) (ev 5) (ev 7)))))))))
     J4)))),?_⟩
 simp_arith [aX hW]
 refine ⟨n,rfl,ln,fun H0 x0 C nC P nP=>?_⟩
 have xC:=Ext.new (K:=K) (o:=.lst []) nC
 have xP:=Ext.new (K:=K) (o:=.dK []) nP
 have X:=x0.trans (xC.trans xP)
 have hW0:=X.at hW
 refine ⟨_,aX hW0,_,rfl,trivial,sp,rfl,by decide +kernel,by omega,by omega,fun D1 n1=>⟨⟨_,bC.of ah⟩,?_⟩⟩
 have x1:=Ext.new (K:=K) (o:=.lst ((Txt.split sp (Str.ofString ",")).map V.str)) n1
 have Rl:=cO x0 nC
 have Mp:=cO (x0.trans xC) nP
 have hC0:=(xP.trans x1).at (ah (H:=H0) (a:=C) (o:=.lst []))
 have hP0:=x1.at (ah (H:=upd H0 C (.lst [])) (a:=P) (o:=.dK []))
 have y9:=ah (H:=upd (upd H0 C (.lst [])) P (.dK [])) (a:=D1) (o:=.lst ((Txt.split sp (Str.ofString ",")).map V.str))
 have XG:=X.trans x1
 have hWG:=XG.at hW
 have KW:D1≠C:=fun z=>by have:=n1.1;rw [z,xP.at ah] at this;cases this
 have Mt:D1≠P:=fun z=>by have:=n1.1;rw [z,ah] at this;cases this
 have nCP:C≠P:=fun z=>by have:=nP.1;rw [<- z,ah] at this;cases this
 generalize upd (upd (upd H0 C (.lst [])) P (.dK [])) D1 (.lst ((Txt.split sp (Str.ofString ",")).map V.str))=G at hC0 hP0 y9 XG hWG ⊢
 have pn:=A6 (n:=n) (pv:=pv) (sp:=sp) (y:=y)
 have zN:=fun ss=>A7 (n:=n) (pv:=pv) (sp:=sp) (y:=y) (ss:=ss)
 clear hW0 X x1 xP xC n1 nP nC
 generalize Txt.split sp (Str.ofString ",")=pieces at *
 obtain ⟨J,eJ⟩:∃ J:Nat->St->Hp->Prop,J=fun i σ H'=>∃ (v4 v5 v6 v7 v8 v9:Option V) (ss:List (Int×Int)),σ=[some (.ref W),some (on (cnt n)),some (.ref C),some (.ref P),v4,v5,v6,v7,v8,v9]/\H' C=some (.lst (ss.map fun p=>V.int p.1))/\H' P=some (.dK (jr (ss.map fun p=>(p.1,V.int p.2))))/\j4 K C P G H'/\(pieces.take i).map gF=ss.map some/\ss.all xZ=true/\(ss.map (·.1)).Nodup/\ss.length=i:=⟨_,rfl⟩
 refine jM (xs:=pieces.map V.str) J (by rw [eJ];exact ⟨_,_,_,_,_,_,[],rfl,hC0,hP0,j4.refl,rfl,rfl,List.nodup_nil,rfl⟩) ?_ ?_ ?_
 . intro i σ H' _ h
   rw [eJ] at h
   obtain ⟨v4,v5,v6,v7,v8,v9,ss,rfl,hC,hP,k,_⟩:=h
   exact bC.of (k.keep D1 _ y9 KW Mt)
 . intro i x σ H1 hx h
   rw [eJ] at h
   obtain ⟨v4,v5,v6,v7,v8,v9,ss,rfl,hC,hP,k,et,h1,h2,hl⟩:=h
   rw [List.getElem?_map] at hx
   obtain ⟨p,hp,rfl⟩:=Option.map_eq_some_iff.mp hx
   have lp':=s2 p (List.mem_of_getElem? hp)
   have hi:=(List.getElem?_eq_some_iff.mp hp).1
   obtain ⟨l1,l2⟩:=jj p (Str.ofString "@")
   have X1:Ext K H H1:=XG.vH k Rl Mp
   have fail:∀ H',Ext K H1 H'->(∀ w,gF p=some w->xZ w=true->w.1∉ss.map (·.1)->False)->Q .cY H':=fun H' x' bad=>by
     have:=q .cY H' (X1.trans x')
     rw [pn (Df et hp bad)] at this
     exact this rfl
   try walk_at "rn"
   refine ⟨by decide +kernel,by omega,fun D' nD'=>⟨_,rfl,by omega,fun H2 x2=>⟨_,rfl,by omega,fun H3 x3=>?_⟩⟩⟩
   have Mr:=Ext.new (K:=K) (o:=.tup [V.str (Txt.partition p (Str.ofString "@")).1,V.str (Txt.partition p (Str.ofString "@")).2.1,V.str (Txt.partition p (Str.ofString "@")).2.2]) nD'
   have X3:=Mr.trans (x2.trans x3)
   have ev:gF p=match ao (Txt.partition p (Str.ofString "@")).1,ao (Txt.partition p (Str.ofString "@")).2.2 with
     | some k,some p=>some (k,p)
     | _,_=>none:=rfl
   clear Mr x2 nD' x3
   generalize (Txt.partition p (Str.ofString "@")).1=na at *
   generalize (Txt.partition p (Str.ofString "@")).2.1=md at *
   generalize (Txt.partition p (Str.ofString "@")).2.2=vl at *
   cases ec:cnt na with
   | none=>
     refine aO rfl (fail _ X3 fun w' e1 e2 _=>?_)
     rw [ev] at e1
     split at e1
     . rename_i a b ea eb
       cases e1
       unfold xZ at e2
       simp only [Bool.and_eq_true,decide_eq_true_eq] at e2
       rw [w6 ea e2.1] at ec
       cases ec
     . cases e1
   | some a=>
   refine aF (by simp [on]) ?_
   cases ed:cnt vl with
   | none=>
     refine aO rfl (fail _ X3 fun w' e1 e2 _=>?_)
     rw [ev] at e1
     split at e1
     . rename_i a b ea eb
       cases e1
       unfold xZ at e2
       simp only [Bool.and_eq_true,decide_eq_true_eq] at e2
       rw [w6 eb e2.2] at ed
       cases ed
     . cases e1
   | some b=>
   obtain ⟨ea,a0⟩:=eY.mp ec
   obtain ⟨eb,b0⟩:=eY.mp ed
   rw [ea,eb] at ev
   dsimp only at ev
   have Rn:=X3.at hC
   have hP3:=X3.at hP
   refine aF (by simp [on]) ⟨_,a,rfl,hP3,?_⟩
   rw [zK,show (ss.map fun p=>(p.1,V.int p.2)).map (·.1)=ss.map (·.1) from by rw [List.map_map];rfl]
   refine cQ (fun c=>?_) (fun c=>?_)
   . refine fail _ X3 fun w' e1 _ e3'=>?_
     rw [ev] at e1
     cases e1
     exact e3' (of_decide_eq_true c)
   . have c:a∉ss.map (·.1):=fun z=>c (decide_eq_true z)
     refine ⟨.inl ⟨_,bC.of Rn⟩,_,Rn,by rw [List.length_map,hl];omega,?_⟩
     have hP4:upd H3 C (.lst (ss.map (fun p=>V.int p.1)++[V.int a])) P=some (.dK (jr (ss.map fun p=>(p.1,V.int p.2)))):=by rw [aJ nCP.symm];exact hP3
     have kC:Kp K C H3 (upd H3 C (.lst (ss.map (fun p=>V.int p.1)++[V.int a]))):=Kp.upd Rn
     have kP:Kp K P _ (upd (upd H3 C (.lst (ss.map (fun p=>V.int p.1)++[V.int a]))) P (.dK (putK (jr (ss.map fun p=>(p.1,V.int p.2))) (.inl a) (V.int b)))):=Kp.Kc hP4
     refine ⟨_,vS.k (k:=.inl a) hP4 (by have:=mV (ss.map fun p=>(p.1,V.int p.2));rw [List.length_map] at this;have:=sizeLine_eq;omega),?_⟩
     rw [eJ]
     refine ⟨_,_,_,_,_,_,ss++[(a,b)],rfl,?_,?_,k.trans (X3.kp.l.trans (kC.l.trans kP.r)),?_,?_,?_,by rw [List.length_append,hl];rfl⟩
     . rw [aJ nCP,ah,List.map_append]
       rfl
     . rw [ah,List.map_append,List.map_cons,List.map_nil,nk]
       rfl
     . rw [List.take_add_one,hp,Option.toList_some,List.map_append,et,List.map_append,List.map_cons,ev]
       rfl
     . rw [List.all_append,h1]
       show (true&&(decide (0<=a)&&decide (0<=b)&&true))=true
       rw [decide_eq_true a0,decide_eq_true b0]
       rfl
     . rw [List.map_append,List.nodup_append]
       refine ⟨h2,by simp,fun x hx y hy e=>c ?_⟩
       simp only [List.map_cons,List.map_nil,List.mem_singleton] at hy
       rw [<- hy,<- e]
       exact hx
 . intro σ H1 h
   rw [eJ] at h
   obtain ⟨v4,v5,v6,v7,v8,v9,ss,rfl,hC,hP,k,et,h1,h2,hl⟩:=h
   rw [List.length_map,List.take_of_length_le (Nat.le_refl _)] at et
   have X1:Ext K H H1:=XG.vH k Rl Mp
   have zN:=zN ss et h1 h2
   have lss:ss.length<=1000001:=by have:=congrArg List.length et;rw [List.length_map,List.length_map] at this;omega
   clear pn eJ J
   rw [e4]
   try walk_at "rn"
   intro D2 nD2
   have y2:=Ext.new (K:=K) (o:=.lst []) nD2
   have X2:=X1.trans y2
   obtain ⟨J,eJ⟩:∃ J:St->Hp->Prop,J=fun σ H'=>∃ (v4 v5 v6 v7 v9:Option V) (Dp:Addr) (os:List (Option Int)),σ=[some (.ref W),some (on (cnt n)),some (.ref C),some (.ref P),v4,v5,v6,v7,some (.ref Dp),v9]/\Ext K H1 H'/\new K H Dp/\H' Dp=some (.lst (os.map on))/\cH os=bU ao (Str.ofString ",") pv:=⟨_,rfl⟩
   refine ⟨J,?_,?_⟩
   . simp_arith [aX (X2.at hW)]
     rw [eJ]
     by_cases cm:pv=Str.ofString "-"
     . refine aF (by simp [cm]) ⟨_,_,_,_,_,D2,[],rfl,y2,cO X1 nD2,ah,?_⟩
       unfold bU
       rw [if_pos cm]
       rfl
     obtain ⟨t1,t2⟩:=cG pv 44
     rw [<- fV] at t1 t2
     refine aO (by simp [cm]) ⟨by decide +kernel,by omega,by omega,fun D3 n3=>⟨⟨_,bC.of ah⟩,fun D4 n4=>?_⟩⟩
     have y3:=Ext.new (K:=K) (o:=.lst ((Txt.split pv (Str.ofString ",")).map V.str)) n3
     refine jC (f:=V.str) (g:=fun p=>on (ao p)) (bC.of ah) n4 (by omega) (fun p hp H' Q' xx qq=>?_) (fun H5 h5 x5=>?_)
     . try walk_at "rn"
       exact ⟨p,rfl,by have:=t2 p hp;omega,fun jW x''=>qq _ x''⟩
     refine ⟨_,_,_,_,_,D4,(Txt.split pv (Str.ofString ",")).map ao,rfl,y2.trans (y3.trans x5),cO (X2.trans y3) n4,by rw [h5,List.map_map];rfl,?_⟩
     unfold bU
     rw [if_neg cm]
   intro σ H3 h
   rw [eJ] at h
   obtain ⟨v4,v5,v6,v7,v9,Dp,os,rfl,x3,nDp,hDp,eos⟩:=h
   clear eJ J
   have X3:=X1.trans x3
   rw [e6]
   try walk_at "rn"
   intro D4 nD4
   have y4:=Ext.new (K:=K) (o:=.lst []) nD4
   obtain ⟨J,eJ⟩:∃ J:St->Hp->Prop,J=fun σ H'=>∃ (v4 v5 v6 v7:Option V) (Dt:Addr) (os:List (Option RN)) (acc:List V),σ=[some (.ref W),some (on (cnt n)),some (.ref C),some (.ref P),v4,v5,v6,v7,some (.ref Dp),some (.ref Dt)]/\Ext K H3 H'/\new K H Dt/\H' Dt=some (.lst acc)/\aU K H H' (os.map (oD RN.d)) acc/\cH os=bU gJ (Str.ofString ";") y:=⟨_,rfl⟩
   refine ⟨J,?_,?_⟩
   . simp_arith [aX ((X3.trans y4).at hW)]
     rw [eJ]
     refine ⟨_,rfl,rfl,?_⟩
     by_cases cm:y=Str.ofString "-"
     . refine aF (by simp [cm]) ⟨_,_,_,_,D4,[],[],rfl,y4,cO X3 nD4,ah,.nil,?_⟩
       unfold bU
       rw [if_pos cm]
       rfl
     obtain ⟨t1,t2⟩:=cG y 59
     rw [<- lP] at t1 t2
     refine aO (by simp [cm]) ⟨_,rfl,trivial,y,rfl,by decide +kernel,by omega,by omega,fun D5 n5=>⟨⟨_,bC.of ah⟩,fun D6 n6=>?_⟩⟩
     have y5:=Ext.new (K:=K) (o:=.lst ((Txt.split y (Str.ofString ";")).map V.str)) n5
     refine xj (f:=V.str) (g:=fun p=>oD RN.d (gJ p)) (bC.of ah) n6 (by omega) (fun p hp H' Q' xx qq=>?_) (fun us H7 h7 hu x7=>?_)
     . try walk_at "rn"
       exact ⟨p,rfl,by have:=t2 p hp;omega,qq⟩
     refine ⟨_,_,_,_,D6,(Txt.split y (Str.ofString ";")).map gJ,us,rfl,y4.trans (y5.trans x7),cO (X3.trans (y4.trans y5)) n6,h7,?_,?_⟩
     . rw [List.map_map]
       exact hu.old (X3.trans (y4.trans y5))
     . unfold bU
       rw [if_neg cm]
   intro σ H5 h
   rw [eJ] at h
   obtain ⟨v4,v5,v6,v7,Dt,ot,acc,rfl,x5,nDt,hDt,haT,eot⟩:=h
   clear eJ J
   rw [e8]
   try walk_at "rn"
   have X5:=X3.trans x5
   have hC5:=(x3.trans x5).at hC
   have hP5:=(x3.trans x5).at hP
   have Hy:=x5.at hDp
   rw [<- eos,<- eot] at zN
   have out:fS n pv sp y=none->Q .cY H5:=fun e=>by
     have:=q .cY _ X5
     rw [e] at this
     exact this rfl
   have nI:∀ a:Int,gm (PyData.int a)=false:=fun _=>rfl
   have nN:∀ a:RN,gm a.d=false:=fun _=>rfl
   cases ec:cnt n with
   | none=>
     rw [ec] at zN
     exact aO rfl (out zN)
   | some i=>
   rw [ec] at zN
   have isO:cj K H5 (os.map zz) (os.map on):=by
     have:∀ os:List (Option Int),aU K H H5 (os.map zz) (os.map on):=fun os=>by
       induction os with
       | nil=>exact .nil
       | cons o os ih=>exact .cons (bw.oo.mpr rfl) ih
     exact (this os).is
   have eD:zz=oD PyData.int:=by funext o;cases o <;> rfl
   refine aF (by simp [on]) ⟨_,.inl (bC.of Hy),_,isO,?_⟩
   rw [eD,jG nI]
   cases eo:cH os with
   | none=>
     rw [eo] at zN
     exact aO rfl (out zN)
   | some ps=>
   rw [eo] at zN
   refine aF (by simp) ⟨_,.inl (bC.of hDt),_,haT.is,?_⟩
   rw [jG nN]
   cases et':cH ot with
   | none=>
     rw [et'] at zN
     exact aO rfl (out zN)
   | some ts=>
   rw [et'] at zN
   dsimp only at zN
   rw [fk eo,Ku] at Hy
   rw [fk et',List.map_map] at haT
   refine aF (by simp) ⟨_,aX Hy,_,aX hC5,?_⟩
   by_cases cl:ss.length=ps.length + 1
   . rw [if_pos cl] at zN
     refine aF (by simp;omega) fun a na T nT=>?_
     have ya:=Ext.new (K:=K) (o:=.tup [V.str (Str.ofString "inner"),on (some i),V.ref Dp,V.ref C,V.ref Dt]) na
     have yT:=Ext.new (K:=K) (o:=.tup [V.ref a,V.ref P]) nT
     have:=q (.ref T) _ (X5.trans (ya.trans yT))
     rw [zN] at this
     have yy:=ya.trans yT
     exact this ⟨T,rfl,a,Dp,C,Dt,P,acc,aN,yT.tup aN,nDp,yy.at Hy,yy.at hC5,yy.at hDt,haT.ext yy,Mp,yy.at hP5,Rl,nDt⟩
   . rw [if_neg cl] at zN
     exact aO (by simp;omega) (out zN)
def Fj (K:PySem.W.Frag):Sp:=fun vs H Q _=>∃ t:Str,vs=[.str t]/\t.length<=1000000/\∀ v H',Ext K H H'->Res K H H' (gc t) v->Q v H'
theorem Res.old {H1 H0 H:Hp} {o:Option Rd} {v:V} (e:Ext K H1 H0) (h:Res K H0 H o v):Res K H1 H o v:=by
 cases o with
 | none=>exact h
 | some x=>
   obtain ⟨T,e1,h1⟩:=h
   exact ⟨T,e1,h1.old e⟩
theorem pT:aE ["_law_text","_law_words"] ["_law_text"] (af iF):=⟨rfl,rfl,rfl,by decide +kernel,rfl,by decide +kernel,by decide +kernel⟩
theorem yb {f:Addr} {fd:FuncData} (F:fM K "_law_read" "_law_read" iF f fd) {aG cF cR cN:Addr} {tE tF:Tok} (B:B K mg aG cF cR cN tE tF) (i8:Callee P w K mg base "_law_leaf_in" 4 ["_law_number_here","_law_rows"] (Fi K)) (gU:Callee P w K mg base "_law_inner_in" 4 ["_law_words"] (B6 K)):bB P w K mg base fC 5 f fd ["_law_text"] (Fj K):=by
 refine F.iM pT (fun vs H Q E h=>?_) (fun dg A outer s H vs Q E hr h=>?_)
 . obtain ⟨t,rfl,_⟩:=h
   rfl
 obtain ⟨t,rfl,ht,q⟩:=h
 obtain ⟨s1,s2⟩:=cG t 32
 rw [<- tN] at s1 s2
 refine ⟨_,(aq (sset (i:=1) pT.nd rfl (Or.inl rfl) (lY PySem.F.plainAttrs_str PySem.F.slot_str_split PySem.F.type_str_split fU (ev 0) (aa bg aj)))
     (aq (d8 (tw (nX (aV bH (aI bE rfl B.len bN (aa (ev 1) aj)) ei (au _)) (jP (aV bH (dW bI (ev 1) ei (fun _ _=>rfl)) bg (au _))))) (aH (aR (ay i8 (hr.mono (by decide)) rfl (aa (dW bI (ev 1) ei (fun _ _=>rfl)) (aa (dW bI (ev 1) ei (fun _ _=>rfl)) aj))))) bF)
     (aq (d8 (tw (nX (aV bH (aI bE rfl B.len bN (aa (ev 1) aj)) ei (au _)) (jP (aV bH (dW bI (ev 1) ei (fun _ _=>rfl)) bg (au _))))) (aH (aR (ay gU (hr.mono (by decide)) rfl (aa (ev 1) aj)))) bF)
     (aH (aR bZ))))),?_⟩
 try walk_at "rn"
 refine ⟨by decide +kernel,by omega,by omega,fun D nD=>?_⟩
 have xD:=Ext.new (K:=K) (o:=.lst ((Txt.split t (Str.ofString " ")).map V.str)) nD
 have hD:=ah (H:=H) (a:=D) (o:=.lst ((Txt.split t (Str.ofString " ")).map V.str))
 generalize upd H D (.lst ((Txt.split t (Str.ofString " ")).map V.str))=G at xD hD ⊢
 have ev:gc t=match Txt.split t (Str.ofString " ") with
   | [w,n,r]=>if w=Str.ofString "leaf" then iS n r else none
   | [w,n,p,s,y]=>if w=Str.ofString "inner" then fS n p s y else none
   | _=>none:=rfl
 generalize Txt.split t (Str.ofString " ")=ws at *
 have lw:∀ p∈ws,p.length<=1000000:=fun p hp=>Nat.le_trans (s2 p hp) ht
 have out:gc t=none->Q .cY G:=fun e=>by
   have:=q .cY _ xD
   rw [e] at this
   exact this rfl
 have Mu:ws.length≠3∨(∃ w0 n r,ws=[w0,n,r]/\w0≠Str.ofString "leaf")->if ((ws.map V.str).length:Int)=5 then ∃ x,pU (ws.map V.str) 0=some x/\z9 x (V.str (Str.ofString "inner"))=true/\(if x=V.str (Str.ofString "inner") then B6 K [V.ref D] G Q E0 else Q V.cY G) else Q V.cY G:=by
   intro h3
   refine cQ (fun c5=>?_) (fun c5=>?_)
   . obtain ⟨w0,n,p,s',y,rfl⟩:∃ w0 n p s' y,ws=[w0,n,p,s',y]:=by
       rcases ws with _ | ⟨w0,_ | ⟨x,_ | ⟨y,_ | ⟨z,_ | ⟨u,_ | ⟨u',rest⟩⟩⟩⟩⟩⟩ <;> simp at c5 <;> first | omega | exact ⟨_,_,_,_,_,rfl⟩
     refine ⟨_,rfl,rfl,cQ (fun c=>?_) (fun c=>?_)⟩
     . cases c
       exact ⟨D,n,p,s',y,rfl,hD,lw n (by simp),lw p (by simp),lw s' (by simp),lw y (by simp),fun v H' x' hv=>q v H' (xD.trans x') (by rw [ev];dsimp only;rw [if_pos rfl];exact hv.old xD)⟩
     . refine out ?_
       rw [ev]
       exact if_neg fun z=>c (by rw [z])
   . refine out ?_
     rw [ev]
     split
     . rename_i w0 n r
       rcases h3 with h3 | ⟨w1,n',r',e,ne⟩
       . exact absurd rfl h3
       . cases e
         exact if_neg ne
     . exact absurd rfl c5
     . rfl
 refine cQ (fun c3=>?_) (fun c3=>?_)
 . obtain ⟨w0,n,r,rfl⟩:∃ w0 n r,ws=[w0,n,r]:=by
     rcases ws with _ | ⟨w0,_ | ⟨x,_ | ⟨y,_ | ⟨u,rest⟩⟩⟩⟩ <;> simp at c3 <;> first | omega | exact ⟨_,_,_,rfl⟩
   refine ⟨_,rfl,rfl,cQ (fun c=>?_) (fun c=>?_)⟩
   . cases c
     exact ⟨_,rfl,_,rfl,n,r,rfl,lw n (by simp),lw r (by simp),fun v H' x' hv=>q v H' (xD.trans x') (by rw [ev];dsimp only;rw [if_pos rfl];exact hv.old xD)⟩
   . exact Mu (.inr ⟨w0,n,r,rfl,fun z=>c (by rw [z])⟩)
 . exact Mu (.inl fun z=>c3 (by simp [z]))
end
structure Kv (H:Hp) (d:Addr) (kvs:List (Key×V)):Prop where
 at_:H d=some (.dK kvs)
 whole:∀ q∈kvs,∃ k i,q=(.inl k,.int i)/\gH kvs (.inl k)=some (.int i)
 Ke:kvs.length<=1000000
section
variable {P:Program} {w:World} {K:PySem.W.Frag} {mg:Str->Option Value} {base:Heap}
def uM (K:PySem.W.Frag) (H:Hp):Nat->V->V->Prop
 | 0,_,_=>False
 | n + 1,u,v=>(u=v/\((∃ i,v=.int i)∨v=.cY∨∃ s,v=.str s))∨
   (∃ a b xs ys,u=.ref a/\v=.ref b/\H a=some (.lst xs)/\H b=some (.lst ys)/\xs.length=ys.length/\xs.length<=1000000/\∀ (i:Nat) x y,xs[i]?=some x->ys[i]?=some y->uM K H n x y)∨
   (∃ a b xs ys,u=.ref a/\v=.ref b/\tupQ K H a=some xs/\tupQ K H b=some ys/\xs.length=ys.length/\xs.length<=1000000/\∀ (i:Nat) x y,xs[i]?=some x->ys[i]?=some y->uM K H n x y)∨
   (∃ a b kvs,u=.ref a/\v=.ref b/\a≠b/\Kv H a kvs/\Kv H b kvs/\0 < n)
theorem uM.ext {H H':Hp} (x:Ext K H H'):∀ {n:Nat} {u v:V},uM K H n u v->uM K H' n u v
 | 0,_,_,h=>h
 | n + 1,u,v,h=>by
   rcases h with h | ⟨a,b,xs,ys,rfl,rfl,h1,h2,l1,l2,h⟩ | ⟨a,b,xs,ys,rfl,rfl,h1,h2,l1,l2,h⟩ | ⟨a,b,kvs,rfl,rfl,ne,h1,h2,l⟩
   . exact .inl h
   . exact .inr (.inl ⟨a,b,xs,ys,rfl,rfl,x.at h1,x.at h2,l1,l2,fun i p q e f=>(h i p q e f).ext x⟩)
   . exact .inr (.inr (.inl ⟨a,b,xs,ys,rfl,rfl,x.tup h1,x.tup h2,l1,l2,fun i p q e f=>(h i p q e f).ext x⟩))
   . exact .inr (.inr (.inr ⟨a,b,kvs,rfl,rfl,ne,⟨x.at h1.at_,h1.whole,h1.Ke⟩,⟨x.at h2.at_,h2.whole,h2.Ke⟩,l⟩))
theorem uM.int {H:Hp} {n:Nat} {i:Int}:uM K H (n + 1) (.int i) (.int i):=.inl ⟨rfl,.inl ⟨_,rfl⟩⟩
theorem uM.str {H:Hp} {n:Nat} {s:Str}:uM K H (n + 1) (.str s) (.str s):=.inl ⟨rfl,.inr (.inr ⟨_,rfl⟩)⟩
inductive Each (R:V->V->Prop):List V->List V->Prop where
 | nil:Each R [] []
 | cons {x y:V} {xs ys:List V}:R x y->Each R xs ys->Each R (x::xs) (y::ys)
theorem Each.len {R:V->V->Prop} {xs ys:List V} (h:Each R xs ys):xs.length=ys.length:=by
 induction h with
 | nil=>rfl
 | cons _ _ ih=>rw [List.length_cons,List.length_cons,ih]
theorem Each.get {R:V->V->Prop} {xs ys:List V} (h:Each R xs ys):∀ (i:Nat) x y,xs[i]?=some x->ys[i]?=some y->R x y:=by
 induction h with
 | nil=>intro i x y e;cases e
 | cons r _ ih=>
   intro i x y e f
   cases i with
   | zero=>cases e;cases f;exact r
   | succ i=>exact ih i x y e f
theorem Each.map {α:Type} {R:V->V->Prop} {f g:α->V}:∀ (L:List α),(∀ q∈L,R (f q) (g q))->Each R (L.map f) (L.map g)
 | [],_=>.nil
 | q::L,h=>.cons (h q List.mem_cons_self) (Each.map L fun p m=>h p (List.mem_cons_of_mem _ m))
theorem uM.lst {H:Hp} {n:Nat} {a b:Addr} {xs ys:List V} (h1:H a=some (.lst xs)) (h2:H b=some (.lst ys)) (hl:xs.length<=1000000) (h:Each (uM K H n) xs ys):uM K H (n + 1) (.ref a) (.ref b):=
 .inr (.inl ⟨a,b,xs,ys,rfl,rfl,h1,h2,h.len,hl,h.get⟩)
theorem uM.tup {H:Hp} {n:Nat} {a b:Addr} {xs ys:List V} (h1:tupQ K H a=some xs) (h2:tupQ K H b=some ys) (hl:xs.length<=1000000) (h:Each (uM K H n) xs ys):uM K H (n + 1) (.ref a) (.ref b):=
 .inr (.inr (.inl ⟨a,b,xs,ys,rfl,rfl,h1,h2,h.len,hl,h.get⟩))
end
section
variable {P:Program} {w:World} {K:PySem.W.Frag} {mg:Str->Option Value} {base:Heap}
def nM (K:PySem.W.Frag) (n:Nat):Sp:=fun vs H Q _=>∃ u v,vs=[u,v]/\uM K H n u v/\∀ H',Ext K H H'->Q (.bl true) H'
theorem nO {H:Hp} {v:V} {t:Value} {n:String} {b:Bool} {R:Bool->Prop} (h:BD K H v t) (e:PySem.W.kitOne K t (.type n)=some b) (r:R b):∃ x,BD K H v x/\∃ y,PySem.W.kitOne K x (.type n)=some y/\R y:=⟨t,h,b,e,r⟩
theorem jy {a b:Prop} (h:b):if false=true then a else b:=by rw [if_neg (by decide)];exact h
theorem qD {a b:Prop} (h:a):if true=true then a else b:=by rw [if_pos rfl];exact h
theorem Kw {a b:Prop} (h:a):if (!false)=true then a else b:=by rw [Bool.not_false,if_pos rfl];exact h
theorem rY {x:Bool} {a b:Prop} (h:b):if (!decide (x=x))=true then a else b:=by rw [decide_eq_true rfl];exact jy h
theorem Fl (n:Nat):(List.replicate n true).map V.bl=List.replicate n (.bl true):=by rw [List.map_replicate]
theorem qE (n:Nat):(List.replicate n true).all id=true:=by
 rw [List.all_eq_true]
 intro b hb
 rw [(List.mem_replicate.1 hb).2]
 rfl
theorem zO {n:Nat} {H H':Hp} {D T:Addr} {i:Nat} {x y:V} {R:List V->St->Hp->Prop} {Z:St->Hp->Prop} {v0 v1:Option V} (hn:uM K H n x y) (xH:Ext K H H') (hD:H' D=some (.lst (List.replicate i (.bl true)))) (hi:i < 1000000) (nT:new K H' T)
   (r:∀ H2,Kp K D H' H2->H2 D=some (.lst (List.replicate (i + 1) (.bl true)))->R (List.replicate i (.bl true)++[.bl true]) [some x,some y] H2):
   oU K 2 (kQ (dw 0) (kQ (dw 1) vN)) (.ref T) [v0,v1] (upd H' T (.tup [x,y])) fun σ2 H2=>jB σ2 H2 fun b H3=>if b=true then mE (nM K n) [] E0 (mD (qR 0) (mD (qR 1) yC)) σ2 H3 fun v H4=>H4 D=some (.lst (List.replicate i (.bl true)))/\(List.replicate i (V.bl true)).length < sizeLine/\R (List.replicate i (.bl true)++[v]) σ2 (upd H4 D (.lst (List.replicate i (.bl true)++[v]))) else Z σ2 H3:=by
 simp_arith [jB]
 have xT:=Ext.new (K:=K) (o:=.tup [x,y]) nT
 refine ⟨x,y,rfl,hn.ext (xH.trans xT),fun H2 x2=>?_⟩
 have uD:=(xT.trans x2).at hD
 have er:List.replicate i (V.bl true)++[.bl true]=List.replicate (i + 1) (.bl true):=(List.replicate_succ' ..).symm
 refine ⟨uD,by rw [List.length_replicate];omega,r _ ((xT.trans x2).kp.trans (Kp.upd uD)) (by rw [ah,er])⟩
theorem Dg {n:Nat} {H:Hp} {a b D:Addr} {xs ys:List V} {R:Hp->Prop} (h1:H a=some (.lst xs)) (h2:H b=some (.lst ys)) (l1:xs.length=ys.length) (l2:xs.length<=1000000) (h:∀ (i:Nat) x y,xs[i]?=some x->ys[i]?=some y->uM K H n x y) (nD:new K H D)
   (fin:∀ H',H' D=some (.lst ((List.replicate xs.length true).map V.bl))->Ext K H H'->R H'):cA (Ib K a b) (oU K 2 (kQ (dw 0) (kQ (dw 1) vN))) jB (mE (nM K n) [] E0 (mD (qR 0) (mD (qR 1) yC))) D R [none,none] (upd H D (.lst [])):=by
 refine Jz (xs:=xs) (ys:=ys) (fun i acc σ' H'=>∃ v0 v1:Option V,σ'=[v0,v1]/\acc=List.replicate i (.bl true)/\H' D=some (.lst acc)/\Kp K D (upd H D (.lst [])) H') l1 ⟨_,_,rfl,rfl,ah,Kp.refl⟩ ?_ ?_ ?_
 . rintro i acc σ' H' _ ⟨_,_,rfl,rfl,hD,k⟩
   exact ⟨bC.of ((k.ext nD).at h1),bC.of ((k.ext nD).at h2)⟩
 . rintro i x y acc σ' H' T hx hy ⟨_,_,rfl,rfl,hD,k⟩ nT
   have hi:=(List.getElem?_eq_some_iff.1 hx).1
   exact zO (R:=fun acc σ H2=>∃ v0 v1:Option V,σ=[v0,v1]/\acc=List.replicate (i + 1) (.bl true)/\H2 D=some (.lst acc)/\Kp K D (upd H D (.lst [])) H2) (h i x y hx hy) (k.ext nD) hD (by omega) nT fun H2 k2 e2=>⟨_,_,rfl,(List.replicate_succ' ..).symm,by rw [e2,List.replicate_succ'],k.trans k2⟩
 . rintro acc σ' H' ⟨_,_,rfl,rfl,hD,k⟩
   rw [<- Fl] at hD
   exact fin H' hD (k.ext nD)
theorem A8 {n:Nat} {H:Hp} {a b D:Addr} {xs ys:List V} {R:Hp->Prop} (h1:tupQ K H a=some xs) (h2:tupQ K H b=some ys) (l1:xs.length=ys.length) (l2:xs.length<=1000000) (h:∀ (i:Nat) x y,xs[i]?=some x->ys[i]?=some y->uM K H n x y) (nD:new K H D)
   (fin:∀ H',H' D=some (.lst ((List.replicate xs.length true).map V.bl))->Ext K H H'->R H'):cA (Ar K a b) (oU K 2 (kQ (dw 0) (kQ (dw 1) vN))) jB (mE (nM K n) [] E0 (mD (qR 0) (mD (qR 1) yC))) D R [none,none] (upd H D (.lst [])):=by
 refine GY (xs:=xs) (ys:=ys) (fun i acc σ' H'=>∃ v0 v1:Option V,σ'=[v0,v1]/\acc=List.replicate i (.bl true)/\H' D=some (.lst acc)/\Kp K D (upd H D (.lst [])) H') l1 ⟨_,_,rfl,rfl,ah,Kp.refl⟩ ?_ ?_ ?_
 . rintro i acc σ' H' _ ⟨_,_,rfl,rfl,hD,k⟩
   exact ⟨fc ((k.ext nD).tup h1),fc ((k.ext nD).tup h2)⟩
 . rintro i x y acc σ' H' T hx hy ⟨_,_,rfl,rfl,hD,k⟩ nT
   have hi:=(List.getElem?_eq_some_iff.1 hx).1
   exact zO (R:=fun acc σ H2=>∃ v0 v1:Option V,σ=[v0,v1]/\acc=List.replicate (i + 1) (.bl true)/\H2 D=some (.lst acc)/\Kp K D (upd H D (.lst [])) H2) (h i x y hx hy) (k.ext nD) hD (by omega) nT fun H2 k2 e2=>⟨_,_,rfl,(List.replicate_succ' ..).symm,by rw [e2,List.replicate_succ'],k.trans k2⟩
 . rintro acc σ' H' ⟨_,_,rfl,rfl,hD,k⟩
   rw [<- Fl] at hD
   exact fin H' hD (k.ext nD)
theorem Fo {i:Int} {a b:Prop} (h:b):if (!decide (i=i))=true then a else b:=by rw [decide_eq_true rfl];exact jy h
theorem uN:aE ["_law_found","_law_due"] ["_law_found","_law_due"] (af cE):=⟨rfl,rfl,rfl,by decide +kernel,rfl,by decide +kernel,by decide +kernel⟩
theorem rH {n:Nat} {f:Addr} {fd:FuncData} (F:fM K "_law_alike" "_law_alike" cE f fd) {aG cF cR cN:Addr} {tE tF:Tok} (B:B K mg aG cF cR cN tE tF) (dU:Callee P w K mg base "_law_alike" n ["_law_found","_law_due"] (nM K n)):bB P w K mg base fC (n + 1) f fd ["_law_found","_law_due"] (nM K (n + 1)):=by
 refine F.iM uN (fun vs H Q E h=>?_) (fun dg A outer s H vs Q E hr h=>?_)
 . obtain ⟨u,v,rfl,_⟩:=h
   rfl
 obtain ⟨u,v,rfl,h,q⟩:=h
 refine bq (rest:=(ak cE).drop 3) (aH (aR (iP (aI aK rfl B.isinstance aA (aa (ev 0) (aa (iL rfl B.int kI) aj))) (iP (Jo (aI aK rfl B.isinstance aA (aa (ev 0) (aa (iL rfl B.bool By) aj)))) (jY (jq bH (ev 0) (ev 1) (au _))))))) fun r3 J3 e3=>?_
 refine bq (rest:=(ak cE).drop 2) (aq (d8 (tw (lB (aV dh (ev 1) bZ (au _)) (je (gK (aI aK rfl B.isinstance aA (aa (ev 1) (aa (iL rfl B.str fN) aj))))))) (aH (aR (iP (jq bH (ev 0) (ev 1) (au _)) (jY (jq bH (aI aK rfl B.isinstance aA (aa (ev 0) (aa (iL rfl B.str fN) aj))) (aI aK rfl B.isinstance aA (aa (ev 1) (aa (iL rfl B.str fN) aj))) (au _)))))) bF)
     J3) fun r2 J2 e2=>?_
 refine bq (rest:=(ak cE).drop 1) (aq (d8 (gK (aI aK rfl B.isinstance aA (aa (ev 1) (aa (iL rfl B.dict vU) aj)))) (aq (d8 (tw (lB (jZ (gK (aI aK rfl B.isinstance aA (aa (ev 0) (aa (iL rfl B.dict vU) aj))))) (je (aV ja (aI ql rfl B.len bN (aa (ev 0) aj)) (aI ql rfl B.len bN (aa (ev 1) aj)) (au _))))) (aH (aR yi)) bF)
     (aH (aR (aI (gY rfl) rfl B.all mO (aa (QV (j5.mk (N:=["_law_key","_law_found","_law_due"]) (src:=[none,some 0,some 1]) rfl rfl) rfl (ev 1) (fun _ _ _ _=>(aM (i:=0) (show (["_law_key","_law_found","_law_due"]:List Str).Nodup from by decide +kernel) rfl (Or.inl rfl))) (fun _ _ _ _=>eB) (fun _ _ _ _=>(iP (jq (Et hr.units) (ev 0) (ev 1) (by with_unfolding_all rfl)) (jY (ay dU (hr.mono (by omega)) rfl (aa (BF hr.units (ev 1) (ev 0) (fun _ _=>rfl)) (aa (BF hr.units (ev 2) (ev 0) (fun _ _=>rfl)) aj))))))) aj))))) bF)
     J2) fun r1 J1 e1=>?_
 refine ⟨_,(aq (d8 (tw (lB (gK (aI aK rfl B.isinstance aA (aa (ev 1) (aa (iL rfl B.list lF) aj)))) (je (gK (aI aK rfl B.isinstance aA (aa (ev 1) (aa (iL rfl B.tuple iO) aj))))))) (aq (d8 (tw (lB (aV ja (aI aK rfl B.isinstance aA (aa (ev 0) (aa (iL rfl B.list lF) aj))) (aI aK rfl B.isinstance aA (aa (ev 1) (aa (iL rfl B.list lF) aj))) (au _)) (je (aV ja (aI aK rfl B.isinstance aA (aa (ev 0) (aa (iL rfl B.tuple iO) aj))) (aI aK rfl B.isinstance aA (aa (ev 1) (aa (iL rfl B.tuple iO) aj))) (au _))))) (aH (aR yi)) bF)
     (aH (aR (iP (jq bH (aI bE rfl B.len bN (aa (ev 0) aj)) (aI bE rfl B.len bN (aa (ev 1) aj)) (au _)) (jY (aI (gY rfl) rfl B.all mO (aa (ur (j5.mk (N:=["_law_one","_law_other"]) (src:=[none,none]) rfl rfl) rfl (Ie rfl B.zip (aa (ev 0) (aa (ev 1) aj))) (fun _ _ _ _=>(sU K (n:=2) rfl (bf (aM (i:=0) (show (["_law_one","_law_other"]:List Str).Nodup from by decide +kernel) rfl (Or.inl rfl)) (bf (aM (i:=1) (show (["_law_one","_law_other"]:List Str).Nodup from by decide +kernel) rfl (Or.inl rfl)) jA)))) (fun _ _ _ _=>eB) (fun _ _ _ _=>(ay dU (hr.mono (by omega)) rfl (aa (ev 0) (aa (ev 1) aj))))) aj))))))) bF)
     J1),?_⟩
 try walk_at "rn"
 rcases h with ⟨rfl,⟨i,rfl⟩ | rfl | ⟨s',rfl⟩⟩ | ⟨a,b,xs,ys,rfl,rfl,h1,h2,l1,l2,h⟩ | ⟨a,b,xs,ys,rfl,rfl,h1,h2,l1,l2,h⟩ | ⟨a,b,kvs,rfl,rfl,ne,h1,h2,l⟩
 . have ty:BD K H (.int i) (.type "int"):=.inl (.int i)
   refine nO ty rfl (jy (nO ty rfl (jy ?_)))
   rw [e1]
   try walk_at "rn"
   refine nO ty rfl (jy ?_)
   rw [e2]
   try walk_at "rn"
   rw [if_neg (fun e=>by cases e)]
   refine nO ty rfl (jy ?_)
   rw [e3]
   try walk_at "rn"
   exact nO ty rfl (qD (nO (b:=false) ty rfl (Kw (q _ Ext.refl))))
 . have ty:BD K H .cY (.type "NoneType"):=.inl .cY
   refine nO ty rfl (jy (nO ty rfl (jy ?_)))
   rw [e1]
   try walk_at "rn"
   refine nO ty rfl (jy ?_)
   rw [e2]
   try walk_at "rn"
   exact nO ty rfl (nO ty rfl (q _ Ext.refl))
 . have ty:BD K H (.str s') (.type "str"):=.inl (.str s')
   refine nO ty rfl (jy (nO ty rfl (jy ?_)))
   rw [e1]
   try walk_at "rn"
   refine nO ty rfl (jy ?_)
   rw [e2]
   try walk_at "rn"
   rw [if_neg (fun e=>by cases e)]
   refine nO ty rfl (qD ?_)
   exact nO ty rfl (nO ty rfl (q _ Ext.refl))
 . have ta:BD K H (.ref a) (.type "list"):=.inl (.lst h1)
   have tb:BD K H (.ref b) (.type "list"):=.inl (.lst h2)
   refine nO tb rfl (qD (nO ta rfl (nO tb rfl (rY (nO ta rfl (nO tb rfl (rY ⟨a,rfl,xs,aX h1,b,rfl,ys,aX h2,?_⟩)))))))
   rw [if_pos (by rw [l1])]
   refine ⟨a,rfl,b,rfl,.inl ⟨⟨_,bC.of h1⟩,⟨_,bC.of h2⟩,fun D nD=>Dg h1 h2 l1 l2 h nD fun H' hD x=>⟨_,bC.of hD,?_⟩⟩⟩
   rw [qE]
   exact q _ x
 . have ta:BD K H (.ref a) (.type "tuple"):=.tup h1
   have tb:BD K H (.ref b) (.type "tuple"):=.tup h2
   refine nO tb rfl (jy (nO tb rfl (qD (nO ta rfl (nO tb rfl (rY (nO ta rfl (nO tb rfl (rY ⟨a,rfl,xs,br h1,b,rfl,ys,br h2,?_⟩)))))))))
   rw [if_pos (by rw [l1])]
   refine ⟨a,rfl,b,rfl,.inr ⟨⟨_,fc h1⟩,⟨_,fc h2⟩,fun D nD=>A8 h1 h2 l1 l2 h nD fun H' hD x=>⟨_,bC.of hD,?_⟩⟩⟩
   rw [qE]
   exact q _ x
 . have ta:BD K H (.ref a) (.type "dict"):=.inl (.dK h1.at_)
   have tb:BD K H (.ref b) (.type "dict"):=.inl (.dK h2.at_)
   refine nO tb rfl (jy (nO tb rfl (jy ?_)))
   rw [e1]
   try walk_at "rn"
   refine nO tb rfl (qD (nO ta rfl ?_))
   refine jy (.inr ⟨kvs,h1.at_,.inr ⟨kvs,h2.at_,Fo ⟨kvs,h2.at_,fun od D nD=>?_⟩⟩⟩)
   have bD:b≠D:=fun e=>by
     have:=nD.1
     rw [<- e,ah] at this
     cases this
   have aD:a≠D:=fun e=>by
     have:=nD.1
     rw [aJ (fun z=>ne (e.trans z)),<- e,h1.at_] at this
     cases this
   have ha0:(upd H b (.mh od (.dK kvs))) a=some (.dK kvs):=by rw [aJ ne];exact h1.at_
   have Ol:(upd H b (.mh od (.dK kvs))) b=some (.mh od (.dK kvs)):=ah
   refine mS (n:=kvs.length) (fun i acc σ' H'=>∃ v0:Option V,σ'=[v0,some (.ref a),some (.ref b)]/\acc=List.replicate i (.bl true)/\H' D=some (.lst acc)/\Kp K D (upd (upd H b (.mh od (.dK kvs))) D (.lst [])) H') ⟨_,rfl,rfl,ah,Kp.refl⟩ ?_ ?_ ?_ ?_
   . rintro i acc σ' H' hi ⟨_,rfl,rfl,hD,k⟩
     exact ⟨(k.ext nD).at Ol,hi⟩
   . rintro acc σ' H' ⟨_,rfl,rfl,hD,k⟩
     exact ⟨(k.ext nD).at Ol,Nat.le_refl _⟩
   . rintro i acc σ' H' x jW hi ⟨_,rfl,rfl,hD,k⟩ ⟨rfl,p,ep,rfl⟩
     obtain ⟨k',i',rfl,ev⟩:=h1.whole p (List.mem_of_getElem? ep)
     have x1:=k.ext nD
     simp_arith [jB,kV]
     have ga:oM jW a (V.int k') (some (.int i')):=by
       rw [<- ev]
       exact oM.k (k:=.inl k') (x1.at ha0)
     have gb:oM jW b (V.int k') (some (.int i')):=by
       rw [<- ev]
       exact .inl ⟨kvs,.inl k',.inr ⟨od,x1.at Ol⟩,rfl,rfl⟩
     refine ⟨kvs,x1.at ha0,?_⟩
     rw [ev]
     refine qD ⟨_,ga,_,gb,_,_,rfl,?_,fun H2 x2=>⟨x2.at hD,?_,?_,k.trans (x2.kp.trans (Kp.upd (x2.at hD)))⟩⟩
     . obtain ⟨m,rfl⟩:∃ m,n=m + 1:=⟨n - 1,by omega⟩
       exact .int
     . have:=h1.Ke
       rw [List.length_replicate]
       omega
     . exact (List.replicate_succ' ..).symm
   . rintro acc σ' H' ⟨_,rfl,rfl,hD,k⟩
     have x1:=k.ext nD
     refine ⟨x1.at Ol,_,bC.of (xs:=(List.replicate kvs.length true).map V.bl) (by rw [aJ bD.symm,hD,Fl]),?_⟩
     rw [qE]
     refine q _ ⟨fun r o e=>?_,fun r xs e kk=>?_⟩
     . by_cases z:r=b
       . subst z
         rw [ah,<- h2.at_]
         exact e
       . rw [aJ z]
         exact x1.same r o (by rw [aJ z];exact e)
     . have z:r≠b:=fun z=>by rw [z,h2.at_] at e;cases e
       rw [aJ z]
       exact x1.mod r xs (by rw [aJ z];exact e) kk
theorem rJ {f:Addr} {fd:FuncData}:bB P w K mg base fC 0 f fd ["_law_found","_law_due"] (nM K 0):=
 ⟨fun _ _ _ _ h=>let ⟨_,_,_,h,_⟩:=h;h.elim,fun _ _ _ _ _ _ _ _ _ _ _ _ _ h=>let ⟨_,_,_,h,_⟩:=h;h.elim⟩
theorem m9 {f:Addr} {fd:FuncData} (F:fM K "_law_alike" "_law_alike" cE f fd) {aG cF cR cN:Addr} {tE tF:Tok} (B:B K mg aG cF cR cN tE tF) (b:Binds K fd ["_law_found","_law_due"] []) (kp:PySem.W.keepIn K (.ref f)=true) (m:mg "_law_alike"=some (.ref f)):∀ n:Nat,bB P w K mg base fC n f fd ["_law_found","_law_due"] (nM K n)
 | 0=>rJ
 | n + 1=>rH F B ⟨f,fd,m9 F B b kp m n,b,kp,m⟩
theorem uO {f:Addr} {fd:FuncData} (F:fM K "_law_alike" "_law_alike" cE f fd) {aG cF cR cN:Addr} {tE tF:Tok} (B:B K mg aG cF cR cN tE tF) (b:Binds K fd ["_law_found","_law_due"] []) (kp:PySem.W.keepIn K (.ref f)=true) (m:mg "_law_alike"=some (.ref f)):bB P w K mg base fC 7 f fd ["_law_found","_law_due"] (nM K 7):=m9 F B b kp m 7
end
section
variable {P:Program} {w:World} {K:PySem.W.Frag} {mg:Str->Option Value} {base:Heap}
def good:Nat->PyData->Prop
 | 0,_=>False
 | _ + 1,.none=>True
 | _ + 1,.int _=>True
 | _ + 1,.str _=>True
 | n + 1,.list ds=>ds.length<=1000000/\∀ d∈ds,good n d
 | n + 1,.tuple ds=>ds.length<=1000000/\∀ d∈ds,good n d
 | _ + 1,.bool _=>False
 | _ + 1,.dict _=>False
theorem yc {H0 H1 H:Hp} {R:V->V->Prop}:∀ {ds:List PyData} {us vs:List V},aU K H0 H ds us->aU K H1 H ds vs->(∀ d∈ds,∀ u v,bw K H0 H d u->bw K H1 H d v->R u v)->Each R us vs
 | [],us,vs,h,g,_=>by
   rw [aU.nn.mp h,aU.nn.mp g]
   exact .nil
 | d::ds,us,vs,h,g,r=>by
   obtain ⟨u,us',rfl,h1,h2⟩:=aU.cc.mp h
   obtain ⟨v,vs',rfl,g1,g2⟩:=aU.cc.mp g
   exact .cons (r d List.mem_cons_self u v h1 g1) (yc h2 g2 fun d' m=>r d' (List.mem_cons_of_mem _ m))
theorem qF {H0 H1 H:Hp}:∀ (n:Nat) {d:PyData} {u v:V},bw K H0 H d u->bw K H1 H d v->good n d->uM K H n u v
 | 0,d,u,v,_,_,g=>by cases d <;> exact g.elim
 | n + 1,.none,u,v,h,h',_=>by rw [bw.nn.mp h,bw.nn.mp h'];exact .inl ⟨rfl,.inr (.inl rfl)⟩
 | n + 1,.int i,u,v,h,h',_=>by rw [bw.ii.mp h,bw.ii.mp h'];exact .int
 | n + 1,.str x,u,v,h,h',_=>by rw [bw.ss.mp h,bw.ss.mp h'];exact .str
 | n + 1,.list ds,u,v,h,h',g=>by
   obtain ⟨a,us,rfl,_,ha,hu⟩:=bw.ll.mp h
   obtain ⟨b,vs,rfl,_,hb,hv⟩:=bw.ll.mp h'
   exact .lst ha hb (by rw [hu.len];exact g.1) (yc hu hv fun d m u v p q=>qF n p q (g.2 d m))
 | n + 1,.tuple ds,u,v,h,h',g=>by
   obtain ⟨a,us,rfl,ha,hu⟩:=bw.tt.mp h
   obtain ⟨b,vs,rfl,hb,hv⟩:=bw.tt.mp h'
   exact .tup ha hb (by rw [hu.len];exact g.1) (yc hu hv fun d m u v p q=>qF n p q (g.2 d m))
 | n + 1,.bool _,u,v,_,_,g=>g.elim
 | n + 1,.dict _,u,v,_,_,g=>g.elim
theorem rZ (n:Nat) (o:Option Int):good (n + 1) (zz o):=by cases o <;> trivial
theorem Fp (n:Nat) (p:qM):good (n + 2) (m6 p):=by
 refine ⟨by simp,fun d hd=>?_⟩
 simp only [List.mem_cons,List.not_mem_nil,or_false] at hd
 rcases hd with rfl | rfl
 . trivial
 . exact rZ n _
theorem Fq (n:Nat) {r:Int×List qM} (h:r.2.length<=1000000):good (n + 4) (lZ r):=by
 refine ⟨by simp,fun d hd=>?_⟩
 simp only [List.mem_cons,List.not_mem_nil,or_false] at hd
 rcases hd with rfl | rfl
 . trivial
 . refine ⟨by rw [List.length_map];exact h,fun d hd=>?_⟩
   obtain ⟨p,_,rfl⟩:=List.mem_map.mp hd
   exact Fp n p
theorem vI (n:Nat) (o:Option cg):good (n + 2) (B0 o):=by
 cases o with
 | none=>trivial
 | some h=>
   cases h <;> refine ⟨by simp,fun d hd=>?_⟩ <;> simp only [List.mem_cons,List.not_mem_nil,or_false] at hd
   . rcases hd with rfl | rfl <;> trivial
   . rcases hd with rfl | rfl <;> trivial
   . subst hd;trivial
theorem Dh (n:Nat) (r:RN):good (n + 4) r.d:=by
 refine ⟨by simp,fun d hd=>?_⟩
 simp only [List.mem_cons,List.not_mem_nil,or_false] at hd
 rcases hd with rfl | rfl | rfl | rfl
 . exact rZ _ _
 . exact rZ _ _
 . exact rZ _ _
 . refine ⟨by simp,fun d hd=>?_⟩
   simp only [List.mem_cons,List.not_mem_nil,or_false] at hd
   rcases hd with rfl | rfl
   . exact vI _ _
   . exact vI _ _
def Mv:Rd->Prop
 | .leaf _ rows=>rows.length<=1000000/\∀ r∈rows,r.2.length<=1000000
 | .inner _ pv sp fT=>pv.length<=1000000/\sp.length<=1000000/\fT.length<=1000000/\(sp.map (·.1)).Nodup
theorem Di {t:Str} {x:Rd} (h:gc t=some x) (ht:t.length < 1000000):Mv x:=by
 obtain ⟨s1,s2⟩:=cG t 32
 rw [<- tN] at s1 s2
 unfold gc at h
 split at h
 . rename_i w n r e
   rw [e] at s2
   split at h
   . unfold iS at h
     split at h
     . rename_i i rows e1 e2
       split at h
       . cases h
         exact zJ e2 (Nat.lt_of_le_of_lt (s2 r (by simp)) ht)
       . cases h
     . cases h
   . cases h
 . rename_i w n p s y e
   rw [e] at s2
   split at h
   . unfold fS at h
     split at h
     . rename_i i ps ss ts e1 e2 e3 e4
       split at h
       . rename_i ok
         cases h
         unfold pK at ok
         simp only [Bool.and_eq_true,decide_eq_true_eq] at ok
         rw [fV] at e2 e3
         rw [lP] at e4
         have a2:=iI e2
         have a3:=iI e3
         have a4:=iI e4
         have b2:=s2 p (by simp)
         have b3:=s2 s (by simp)
         have b4:=s2 y (by simp)
         exact ⟨by omega,by omega,by omega,ok.1.1.2⟩
       . cases h
     . cases h
   . cases h
 . cases h
theorem B7 {H:Hp} {P:Addr} {sp:List (Int×Int)} (h:H P=some (.dK (jr (sp.map fun p=>(p.1,V.int p.2))))) (nd:(sp.map (·.1)).Nodup) (l:sp.length<=1000000):Kv H P (jr (sp.map fun p=>(p.1,V.int p.2))):=by
 have ef:=(t8 (L:=sp.map fun p=>(p.1,V.int p.2))).1 (by rw [List.map_map];exact nd)
 rw [List.map_map] at ef
 refine ⟨h,fun q hq=>?_,by have:=mV (sp.map fun p=>(p.1,V.int p.2));rw [List.length_map] at this;omega⟩
 rw [ef] at hq ⊢
 obtain ⟨p,hp,rfl⟩:=List.mem_map.mp hq
 exact ⟨p.1,p.2,rfl,t9 nd hp⟩
theorem zP {H0 H:Hp}:∀ ns:List Int,aU K H0 H (ns.map PyData.int) (ns.map V.int)
 | []=>.nil
 | n::ns=>.cons (bw.ii.mpr rfl) (zP ns)
theorem Ft {H0 Hx H:Hp} {T T':Addr} {x:Rd} (h':qA K H0 Hx T' x) (h:qA K Hx H T x) (e:Ext K Hx H) (fx:Mv x):uM K H 7 (.ref T) (.ref T'):=by
 cases x with
 | leaf n rows=>
   obtain ⟨R,D,P,vs,h1,h2,n1,h3,h4,n2,h5,h6⟩:=h
   obtain ⟨R',D',P',vs',g1,g2,m1,g3,g4,m2,g5,g6⟩:=h'
   have Mt:P≠P':=fun z=>by rw [<- z,n2.1] at g5;cases g5
   have gd:good 5 (.list (rows.map lZ)):=⟨by rw [List.length_map];exact fx.1,fun d hd=>by
     obtain ⟨r,hr,rfl⟩:=List.mem_map.mp hd
     exact Fq 0 (fx.2 r hr)⟩
   have aL:=qF 5 (bw.ll.mpr ⟨D,vs,rfl,n1,h3,h4⟩) ((bw.ll.mpr ⟨D',vs',rfl,m1,g3,g4⟩:bw K H0 Hx (.list (rows.map lZ)) (.ref D')).ext e) gd
   refine .tup h1 (e.tup g1) (by simp) (.cons (.tup h2 (e.tup g2) (by simp) (.cons .str (.cons .int (.cons aL .nil)))) (.cons ?_ .nil))
   exact .inr (.inr (.inr ⟨P,P',[],rfl,rfl,Mt,⟨h5,(fun _ h=>nomatch h),by simp⟩,⟨e.at g5,(fun _ h=>nomatch h),by simp⟩,by decide⟩))
 | inner n pv sp fT=>
   obtain ⟨R,D,C,Y,P,vs,h1,h2,n1,h3,h4,h5,h6,n2,h7,n3,n4⟩:=h
   obtain ⟨R',D',C',Y',P',vs',g1,g2,m1,g3,g4,g5,g6,m2,g7,m3,m4⟩:=h'
   obtain ⟨f1,f2,f3,f4⟩:=fx
   have Mt:P≠P':=fun z=>by rw [<- z,n2.1] at g7;cases g7
   have gI:∀ ns:List Int,ns.length<=1000000->good 5 (.list (ns.map PyData.int)):=fun ns hn=>⟨by rw [List.length_map];exact hn,fun d hd=>by
     obtain ⟨r,hr,rfl⟩:=List.mem_map.mp hd
     trivial⟩
   have gN:good 5 (.list (fT.map RN.d)):=⟨by rw [List.length_map];exact f3,fun d hd=>by
     obtain ⟨r,hr,rfl⟩:=List.mem_map.mp hd
     exact Dh 0 r⟩
   have aP:=qF 5 (bw.ll.mpr ⟨D,_,rfl,n1,h3,zP pv⟩) ((bw.ll.mpr ⟨D',_,rfl,m1,g3,zP pv⟩:bw K H0 Hx (.list (pv.map PyData.int)) (.ref D')).ext e) (gI pv f1)
   have eC:sp.map (fun p=>V.int p.1)=(sp.map (·.1)).map V.int:=by rw [List.map_map];rfl
   rw [eC] at h4 g4
   have aC:=qF 5 (bw.ll.mpr ⟨C,_,rfl,n3,h4,zP _⟩) ((bw.ll.mpr ⟨C',_,rfl,m3,g4,zP _⟩:bw K H0 Hx (.list ((sp.map (·.1)).map PyData.int)) (.ref C')).ext e) (gI _ (by rw [List.length_map];exact f2))
   have aY:=qF 5 (bw.ll.mpr ⟨Y,vs,rfl,n4,h5,h6⟩) ((bw.ll.mpr ⟨Y',vs',rfl,m4,g5,g6⟩:bw K H0 Hx (.list (fT.map RN.d)) (.ref Y')).ext e) gN
   refine .tup h1 (e.tup g1) (by simp) (.cons (.tup h2 (e.tup g2) (by simp) (.cons .str (.cons .int (.cons aP (.cons aC (.cons aY .nil)))))) (.cons ?_ .nil))
   exact .inr (.inr (.inr ⟨P,P',_,rfl,rfl,Mt,B7 h7 f4 f2,B7 (e.at g7) f4 f2,by decide⟩))
theorem Fv {pl:Int->Int} {r:Rm} (ok:r.ok pl):(r.x pl).length<=48000:=by
 have l1:(Str.ofString " ").length=1:=by decide +kernel
 have l2:(Str.ofString ";").length=1:=by decide +kernel
 have l3:(Str.ofString ",").length=1:=by decide +kernel
 have l4:(Str.ofString "@").length=1:=by decide +kernel
 cases r with
 | leaf n ra rows=>
   obtain ⟨o1,o2,o3⟩:=ok
   have hl:∀ t∈rows.map fun q=>pB q.2.k (q.2.vs.map (·.2)),t.length<=1800:=by
     intro t ht
     obtain ⟨q,hq,rfl⟩:=List.mem_map.mp ht
     exact zj (o2 q hq)
   have a:=jt (sep:=Str.ofString ";") _ hl
   rw [List.length_map,l2] at a
   have b:=bK o1
   have c:(Str.ofString "leaf").length=4:=by decide +kernel
   unfold Rm.x
   show (Str.ofString "leaf"++Str.ofString " "++(cS n++Str.ofString " "++fD (Str.ofString ";") _)).length<=_
   rw [Str.length_append,Str.length_append,Str.length_append,Str.length_append]
   omega
 | inner n pa vz ca ch ta fT=>
   obtain ⟨o1,o2,o3,o4,o5,o6,o7⟩:=ok
   have hp:∀ t∈vz.map cS,t.length<=101:=by
     intro t ht
     obtain ⟨q,hq,rfl⟩:=List.mem_map.mp ht
     exact bK (o2 q hq)
   have hc:∀ t∈ch.map (lg pl),t.length<=203:=by
     intro t ht
     obtain ⟨q,hq,rfl⟩:=List.mem_map.mp ht
     have:=bK (o4 q hq).1
     have:=bK (o4 q hq).2
     unfold lg
     rw [Str.length_append,Str.length_append]
     omega
   have ht:∀ t∈fT.map fun q=>q.2.x,t.length<=600:=by
     intro t ht
     obtain ⟨q,hq,rfl⟩:=List.mem_map.mp ht
     exact Nt.len (o6 q hq)
   have a1:=jt (sep:=Str.ofString ",") _ hp
   have a2:=jt (sep:=Str.ofString ",") _ hc
   have a3:=jt (sep:=Str.ofString ";") _ ht
   rw [List.length_map] at a1 a2 a3
   rw [l3] at a1 a2
   rw [l2] at a3
   have b:=bK o1
   have c:(Str.ofString "inner").length=5:=by decide +kernel
   unfold Rm.x
   show (Str.ofString "inner"++Str.ofString " "++(cS n++Str.ofString " "++(fD (Str.ofString ",") (vz.map cS)++Str.ofString " "++(fD (Str.ofString ",") (ch.map (lg pl))++Str.ofString " "++fD (Str.ofString ";") _)))).length<=_
   simp only [Str.length_append]
   omega
def Ii (K:PySem.W.Frag):Sp:=fun vs H Q _=>∃ (t:Str) (x:Rd),vs=[.str t]/\t.length < 1000000/\gc t=some x/\∀ T H',Ext K H H'->qA K H H' T x->Q (.ref T) H'
theorem roomQ {cN:Addr}:∀ vs H Q E,Ii K vs H Q E->rX K cN vs H Q fun _ _ _=>False:=by
 rintro vs H Q E ⟨t,x,rfl,ht,e,q⟩
 refine ⟨t,rfl,ht,fun no _ _=>(by rw [e] at no;cases no),fun y ey=>?_⟩
 rw [e] at ey
 cases ey
 exact q
def yd (K:PySem.W.Frag):Sp:=fun vs H Q _=>∃ p m,vs=[.ref p,.int m]/\Wl H p/\3<=m/\m<=26/\∀ H',Kp K p H H'->Q (.bl true) H'
theorem bR:aE ["_law_state","_law_most","_law_twice","_law_room_here","_law_places","_law_text","_law_due","_law_refused","_law_found","e"] ["_law_state","_law_most"] (af bG):=⟨rfl,rfl,rfl,by decide +kernel,rfl,by decide +kernel,by decide +kernel⟩
theorem uP {f:Addr} {fd:FuncData} (F:fM K "_law_reads" "_law_reads" bG f fd) {aG cF cR cN:Addr} {tE tF:Tok} (B:B K mg aG cF cR cN tE tF) (ai:Callee P w K mg base "_law_digit" 1 ["_law_state","_law_base"] (fj K)) (ku:Callee P w K mg base "_law_room" 4 ["_law_state","_law_most"] (wY K)) (gD:Callee P w K mg base "_law_room_text" 3 ["_law_room_here","_law_places"] (wX K)) (gO:Callee P w K mg base "_law_spoilt" 3 ["_law_state","_law_text"] (qy K)) (kF:Callee P w K mg base "_law_read" 5 ["_law_text"] (Fj K)) (jw:oZ P w K mg base "read_room" 9 ["text"] (rX K cN)) (kH:Callee P w K mg base "read_room" 9 ["text"] (Ii K)) (dU:Callee P w K mg base "_law_alike" 7 ["_law_found","_law_due"] (nM K 7)):bB P w K mg base fC 10 f fd ["_law_state","_law_most"] (yd K):=by
 refine F.iM bR (fun vs H Q E h=>?_) (fun dg A outer s H vs Q E hr h=>?_)
 . obtain ⟨p,m,rfl,_⟩:=h
   rfl
 obtain ⟨p,m,rfl,hp,m0,m1,q⟩:=h
 refine bq (rest:=(ak bG).drop 11) (aq (Ex hr.units (dW bI (ev 8) ei (fun _ _=>rfl)) (ev 5) ei)
     (aH (aR (ay dU (hr.mono (by decide)) rfl (aa (ay kH (hr.mono (by decide)) rfl (aa (ev 5) aj)) (aa (ev 6) aj)))))) fun r11 J11 e11=>?_
 refine bq (rest:=(ak bG).drop 10) (aq (mQ (lY PySem.F.plainAttrs_list PySem.F.slot_list_append PySem.F.type_list_append d7 (dW bI (dW bI (ev 8) ei (fun _ _=>rfl)) ei (fun _ _=>rfl)) (aa ei aj)))
     J11) fun r10 J10 e10=>?_
 refine bq (rest:=(ak bG).drop 9) (aq (d8 (jZ (gK (ay dU (hr.mono (by decide)) rfl (aa (ev 8) (aa (ev 6) aj))))) (aH (aR yi)) bF)
     J10) fun r9 J9 e9=>?_
 refine bq (rest:=(ak bG).drop 8) (aq (d8 (tw (lB (aV dh (ev 6) bZ (au _)) (je (gK (ev 7))))) (aH (aR (iP (jq dh (ev 6) bZ (au _)) (jY (ev 7))))) bF)
     J9) fun r8 J8 e8=>?_
 refine bq (rest:=(ak bG).drop 7) (aq (L6 bR.nd ⟨rfl,rfl⟩ rfl (fun σ1 E1 xe pn hp=>(aH (sset (i:=8) bR.nd rfl (Or.inl rfl) (Hg jw hp (hr.mono (by decide)) rfl (aa (ev 5) aj)))))
       (AD.cons (i:=9) rfl rfl rfl B.CW (fun a xe pn=>(nF (sset (i:=7) bR.nd rfl (Or.inl rfl) (iP (aI (qI K) rfl B.isinstance aA (aa (ev 9) (aa (kW rfl B.AG B.CZ) aj))) (iP (aI (yX K) rfl B.isinstance aA (aa (ev 9) (aa (iL rfl B.ValueError uv) aj))) (jY (Jo (aI (qI K) rfl B.isinstance aA (aa (ev 9) (aa (kW rfl B.JU B.CY) aj))))))))
     (aH (d8 (jZ (gK (ev 7))) (aH (aR yi)) bF)))) AD.nil))
     J8) fun r7 J7 e7=>?_
 refine bq (rest:=(ak bG).drop 5) (aq (sset (i:=7) bR.nd rfl (Or.inl rfl) yi)
     (aq (sset (i:=8) bR.nd rfl (Or.inl rfl) bZ)
     J7)) fun r5 J5 e5=>?_
 refine bq (rest:=(ak bG).drop 4) (aq (sset (i:=6) bR.nd rfl (Or.inl rfl) (ay kF (hr.mono (by decide)) rfl (aa (ev 5) aj)))
     J5) fun r4 J4 e4=>?_
 refine bq (rest:=(ak bG).drop 3) (nF (d8 (gK (ev 2)) (aH (sset (i:=5) bR.nd rfl (Or.inl rfl) (ay gO (hr.mono (by decide)) rfl (aa (ev 0) (aa (ev 5) aj))))) bF)
     J4) fun r3 J3 e3=>?_
 refine bq (rest:=(ak bG).drop 2) (aq (sset (i:=5) bR.nd rfl (Or.inl rfl) (ay gO (hr.mono (by decide)) rfl (aa (ev 0) (aa (ay gD (hr.mono (by decide)) rfl (aa (ev 3) (aa (ev 4) aj))) aj))))
     J3) fun r2 J2 e2=>?_
 refine ⟨_,(aq (sset (i:=2) bR.nd rfl (Or.inl rfl) (jq bH (ay ai (hr.mono (by decide)) rfl (aa (ev 0) (aa ei aj))) ei (au _)))
     (aq (kX (ay ku (hr.mono (by decide)) rfl (aa (ev 0) (aa (ev 1) aj))) (jQ (n:=2) rfl (bf (aM (i:=3) bR.nd rfl (Or.inl rfl)) (bf (aM (i:=4) bR.nd rfl (Or.inl rfl)) jA))))
     J2)),?_⟩
 try walk_at "rn"
 refine ⟨p,3,rfl,hp,by decide,by decide,fun d H1 d0 d1 lU k1=>⟨rfl,p,m,rfl,lU,m0,m1,fun tt a dd r pl kvs H2 h1 h2 h3 h4 h5 h6 jz k2=>?_⟩⟩
 refine ⟨tt,rfl,_,h1,rfl,_,_,rfl,_,_,rfl,rfl,?_⟩
 rw [e2]
 try walk_at "rn"
 refine ⟨a,dd,r,pl,rfl,h2,⟨kvs,h3.at_,h4⟩,h5,h6,fun H3 x3=>?_⟩
 have len0:=Fv h5
 refine ⟨p,_,rfl,jz.ext x3,by omega,fun t1 H4 _ l1 qJ k4=>?_⟩
 have Ro:=k1.trans (k2.trans (x3.kp.trans k4))
 clear h1 h2 h3 h4 h5 h6 x3 k4 k1 k2 lU jz
 rw [e3]
 try walk_at "rn"
 obtain ⟨J,eJ⟩:∃ J:St->Hp->Prop,J=fun σ H'=>∃ t:Str,σ=[some (V.ref p),some (V.int m),some (V.bl (decide (d=1))),some (V.ref a),some (V.ref dd),some (.str t),none,none,none,none]/\t.length < 1000000/\Wl H' p/\Kp K p H H':=⟨_,rfl⟩
 refine ⟨J,?_,?_⟩
 . try walk_at "rn"
   rw [eJ]
   refine cQ (fun c=>?_) (fun c=>?_)
   . exact ⟨p,t1,rfl,qJ,by omega,fun t2 H5 _ l2 uB k5=>⟨t2,rfl,by omega,uB,Ro.trans k5⟩⟩
   . exact ⟨t1,rfl,by omega,qJ,Ro⟩
 intro σ H5 h
 rw [eJ] at h
 obtain ⟨t,rfl,lt,uB,Dn⟩:=h
 clear eJ J Ro qJ l1 len0
 rw [e4]
 try walk_at "rn"
 refine ⟨t,rfl,Nat.le_of_lt lt,fun vd H6 x6 hd=>?_⟩
 rw [e5]
 try walk_at "rn"
 rw [e7]
 try walk_at "rn"
 simp_arith [tAt]
 have Oh:Kp K p H H6:=Dn.trans x6.kp
 refine ⟨t,rfl,lt,fun en H7 x7=>⟨cN,rfl,B.xN.i,.inl ⟨B.xN.m,fun ae nae=>?_⟩⟩,fun x ex T H7 x7 hx=>?_⟩
 . rw [en] at hd
   cases hd
   have ya:=Ext.new (K:=K) (o:=.ext (vj ae cN)) nae
   have Om:=ah (H:=H7) (a:=ae) (o:=.ext (vj ae cN))
   have k08:Kp K p H (upd H7 ae (.ext (vj ae cN))):=Oh.trans ((x7.trans ya).kp)
   generalize upd H7 ae (.ext (vj ae cN))=H8 at Om k08 ⊢
   refine ⟨fun σ G=>σ=[some (V.ref p),some (V.int m),some (V.bl (decide (d=1))),some (V.ref a),some (V.ref dd),some (V.str t),some V.cY,some (V.bl true),some V.cY,some (V.ref ae)]/\G=H8,?_,?_⟩
   . try walk_at "rn"
     exact ⟨cN,Om,B.xN.i,true,B.xN.k0,aO rfl ⟨cN,Om,B.xN.i,true,B.xN.k1,aO rfl ⟨cN,Om,B.xN.i,false,B.xN.k2,rfl⟩⟩⟩
   rintro σ G ⟨rfl,rfl⟩
   try walk_at "rn"
   rw [e8]
   try walk_at "rn"
   exact q _ k08
 . rw [ex] at hd
   obtain ⟨T',rfl,hd⟩:=hd
   have fx:=Di ex lt
   rw [e8]
   try walk_at "rn"
   refine aF (by simp) ?_
   rw [e9]
   try walk_at "rn"
   refine ⟨_,_,rfl,Ft hd hx x7 fx,fun H8 x8=>⟨_,rfl,aF (by decide) ?_⟩⟩
   have hx8:=hx.ext x8
   obtain ⟨R,D,P,xs,kv,hT,tr,hR,h2,nD,hD,lx,nP,hP,lk⟩:∃ R D P xs kv,tupQ K H8 T=some [.ref R,.ref P]/\∃ tr,tupQ K H8 R=some tr/\pU tr 2=some (.ref D)/\new K H6 D/\H8 D=some (.lst xs)/\xs.length<=1000000/\new K H6 P/\H8 P=some (.dK kv)/\kv.length<=1000000:=by
     cases x with
     | leaf n rows=>
       obtain ⟨R,D,P,vs,g1,g2,n1,g3,g4,n2,g5,g6⟩:=hx8
       exact ⟨R,D,P,vs,_,g1,_,g2,rfl,n1,g3,by rw [g4.len,List.length_map];exact fx.1,n2,g5,by simp⟩
     | inner n pv sp fT=>
       obtain ⟨R,D,C,Y,P,vs,g1,g2,n1,g3,g4,g5,g6,n2,g7,n3,n4⟩:=hx8
       exact ⟨R,D,P,_,_,g1,_,g2,rfl,n1,g3,by rw [List.length_map];exact fx.1,n2,g7,by have:=mV (sp.map fun p=>(p.1,V.int p.2));rw [List.length_map] at this;have:=fx.2.1;omega⟩
   rw [e10]
   simp_arith [br hT,br hR]
   refine ⟨_,h2,.inl ⟨_,bC.of hD⟩,D,rfl,_,hD,by omega,?_⟩
   have Rp:D≠P:=vF hD hP
   have kD:Kp K D H8 (upd H8 D (.lst (xs++[V.int 7]))):=Kp.upd hD
   have hT9:=kD.tup hD hT
   have Rq:upd H8 D (.lst (xs++[V.int 7])) P=some (.dK kv):=by rw [aJ Rp.symm];exact hP
   have x68:=x7.trans x8
   have x69:=x68.lA kD nD
   generalize upd H8 D (.lst (xs++[V.int 7]))=H9 at hT9 Rq x69 ⊢
   rw [e11]
   simp_arith [br hT9]
   refine ⟨_,vS.k (k:=.inr t) Rq (by have:=sizeLine_eq;omega),?_⟩
   have kP:Kp K P H9 (upd H9 P (.dK (putK kv (.inr t) (V.int 7)))):=Kp.Kc Rq
   have x6A:=x69.lA kP nP
   refine ⟨t,x,rfl,lt,ex,fun T2 H11 x11 hx2=>⟨_,_,rfl,Ft (hd.ext x6A) hx2 x11 fx,fun H12 Lb=>q _ (Oh.trans ((x6A.trans (x11.trans Lb)).kp))⟩⟩
def B8 (K:PySem.W.Frag):Sp:=fun vs H Q _=>∃ (a:Addr) (ns:List Int),vs=[.ref a]/\bC K H a (ns.map V.int)/\ns.length<=63/\GK H/\∀ H',Q (.bl true) H'
theorem Fw:aE ["_law_script","_law_k"] ["_law_script"] (af pe):=⟨rfl,rfl,rfl,by decide +kernel,rfl,by decide +kernel,by decide +kernel⟩
theorem Ky {f:Addr} {fd:FuncData} (F:fM K "law" "law" pe f fd) {aG cF cR cN:Addr} {tE tF:Tok} (B:B K mg aG cF cR cN tE tF)
   (i9:Callee P w K mg base "_law_cell_at" 1 ["_law_script","_law_k"] (AI K))
   (jK:Callee P w K mg base "_law_reads" 10 ["_law_state","_law_most"] (yd K)):bB P w K mg base fC 11 f fd ["_law_script"] (B8 K):=by
 refine F.iM Fw (fun vs H Q E h=>?_) (fun dg A outer s H vs Q E hr h=>?_)
 . obtain ⟨a,ns,rfl,_⟩:=h
   rfl
 obtain ⟨a,ns,rfl,hS,h63,ho,q⟩:=h
 refine ⟨_,(aq (vW PassesOwn.never rfl (rO rfl B.range (aa (aI (Cn rfl) rfl B.max Jk (aa ei (aa (aI (Co rfl) rfl B.min Jl (aa ei (aa (aI lE rfl B.len bN (aa (ev 0) aj)) aj))) aj))) aj)) (aM (i:=1) Fw.nd rfl (Or.inl rfl))
       (aH (d8 (jZ (gK (ay jK (hr.mono (by decide)) rfl (aa (cK (aa (dB cu (ay i9 (hr.mono (by decide)) rfl (aa (ev 0) (aa (ev 1) aj))) (ev 1)) aj)) (aa (dW bI (cK (aa ei (aa ei aj))) (cZ jL rfl B.int kI (aa (jq qH (ev 1) ei (au _)) aj)) (fun _ _=>rfl)) aj))))) (aH (aR yi)) bF)))
     (aH (aR yi))),?_⟩
 try walk_at "rn"
 refine ⟨_,.inl hS,by split <;> (try split) <;> omega,by split <;> (try split) <;> omega,?_⟩
 refine sL (fun i σ H2=>∃ v1,σ=[some (.ref a),v1]/\Ext K H H2) ⟨_,rfl,Ext.refl⟩ ?_ ?_
 . rintro i σ H0 hi ⟨v1,rfl,x0⟩
   try walk_at "rn"
   refine ⟨a,ns,_,rfl,x0.same.seq hS,by omega,fun n=>?_⟩
   try walk_at "rn"
   intro D nD D2 nD2
   have x2:=Ext.new (K:=K) (o:=.lst [V.int 26,V.int 7]) nD2
   obtain ⟨m,em,m0,m1⟩:∃ m:Int,pU [V.int 26,V.int 7] (if 0 < (0:Int) + i then 1 else 0)=some (.int m)/\3<=m/\m<=26:=by
     split
     . exact ⟨7,rfl,by decide,by decide⟩
     . exact ⟨26,rfl,by decide,by decide⟩
   refine ⟨_,em,D,m,rfl,.inl ⟨_,x2.at ah⟩,m0,m1,fun H1 k1=>⟨true,rfl,aF (by decide) ?_⟩⟩
   exact x0.trans ((x2.kp.trans k1).ext nD)
 . rintro σ H2 ⟨_,rfl,_⟩
   exact q H2
end
theorem all_mk {l:PySem.W.OpenLaw} {w:World} {K:PySem.W.Frag} {h:Heap} {mg:Str->Option Value} {fa f1 f2 f3 f4 f5 f6 f7 f8 f9 Oo Oq Ot Ou Ov Ow Ox Oz OA OB OC Ij OD Lc Ld OE Le Lf OF OG OH OI OJ OL OM ON OO OP OQ OR OS OT OU OV OW OX OY OZ O0 O1 O2 O3 O4 O5 O6 O7 O8 O9 Pa Pb Pc Pd Rr:Addr} {od1 an1 od2 an2 od3 an3 od4 an4 od5 an5 od6 an6 od7 an7 od8 an8 od9 an9 Rt Ru Rv Rw Rx Ry Rz RA RB RC RD RE RG RH RI RJ RK RL RM RO RP RQ RS RT RU RV RW RX RY RZ R0 R1 R3 R4 R5 R6 R7 R8 R9 Sb Sd Se Sf Sg Sh Si Sj Sk Sl Sm Sn So Sq Ss Su Sv Sw Sx Sy Sz SD SE SG SH SI SJ SK SN SO SQ SR SS SV SW SX SY S1 S2 S3 S4 S5 S6 S7 S8 S9 Tc Td Te Tf Tg Th Ti Tj Tn To Tp Tq Tr Tt Tu Tv Tw Tz TF TH Mw:Option Addr} {sl1 sl2 sl3 sl4 sl5 sl6 sl7 sl8 sl9 TJ TL TM TN TQ TR TU TV TX TY TZ T3 T4 T5 T6 T7 T9 Ua Ub Uc Ud Ue Ug Uh Ui Uj Uk Ul Um Uo Up Uq Ur Us Ut Uu Uv Uw Ux Uy Uz UA UB UC UD UE UG UH UI UJ UK UL UM:Array (Option Value)} {oc1 kV1 dc1 pm1 cd1 ct1 oc2 kV2 dc2 pm2 cd2 ct2 oc3 kV3 dc3 pm3 cd3 ct3 oc4 kV4 dc4 pm4 cd4 ct4 oc5 kV5 dc5 pm5 cd5 ct5 oc6 kV6 dc6 pm6 cd6 ct6 oc7 kV7 dc7 pm7 cd7 ct7 oc8 kV8 dc8 pm8 cd8 ct8 oc9 kV9 dc9 pm9 cd9 ct9 UN UO UP UQ Mx UR US UT UU UW My UX UY UZ U0 U1 Mz U3 U4 U5 U6 U7 MA U8 U9 Va Vb Vc MB Vd Ve Vf Vg Vh MC Vi Vj Vk Vl Vm MD Vn Vo Vp Vq Vr ME Vs Vt Vu Vv Vw MF Vx Vy Vz VA VB MG VC VD VE VF VG MH VH VI VJ VL VM MI VN VO VP VQ VR MJ VS VT VU VV VW MK VX VY VZ V0 V1 ML V2 V3 V4 V5 V6 MM V7 V8 V9 Wa Wb MN Wc Wd We Wf Wg MO Wh Wi Wj Wk Wm MP Wn Wo Wq Wr Ws MQ Wt Wu Wv Ww Wx MR Wy Wz WA WB WC MS WD WE WG WH WI MT WJ WK WL WM WN MU WO WQ WR WS WT MV WU WV WW WX WY MW WZ W0 W2 W3 W4 MX W5 W6 W7 W8 W9 MY Xa Xb Xc Xd Xe MZ Xf Xg Xh Xi Xj M0 Xk Xl Xm Xn Xo M1 Xp Xq Xr Xs Xu M3 Xv Xw Xx Xy Xz M4 XA XD XE XF XH M5 XI XJ XM XN XO M6 XQ XR XS XU XW M7 XY XZ X0 X4 X6 M8 X7 X8 Yb Yc Yd M9 Ye Yg Yh Yi Yj Na Yk Yl Ym Yn Yo Nb Yp Yq Yr Ys Yt Nc Yu Yv Yw Yx Yy Nd Yz YA YB YC YD Nf YE YF YG YH YI Ng YJ YK YL YM YN Nh YO YQ YR YS YT Ni YU YV YW YX YY Nj YZ Y0 Y3 Y4 Y5 Nk Y6 Y7 Y8 Y9 Za Nl Zb Zc Zd Ze Zf Nm Zg Zh Zi Zj Zk Np Zl Zm Zn Zo Zp Nq Zq Zr Nr Nu Nv Kz Nx:Value} {aG:Addr} {tE:Tok} {tF:Tok} {cF:Addr} {cR:Addr} {cN:Addr} {coN:Value} {doN:Option Addr} {cdN:ClassData} {slN:Array (Option Value)} {dG:Option Addr} {tG:Tok} {nG:Nat} {slG:Array (Option Value)} (X:K.In h) (G:h.Ns mainGlobals mg) (hfa:mg "law"=some (.ref fa))
   (a1:PySem.W.nsIn K mainGlobals "are_figures"=some (some (.ref f1))) (l1:K.lookup f1=some ⟨oc1,od1,.func (PySem.W.fnOf "are_figures" "are_figures" (aB fG) (ak fG) (af fG) .none kV1 dc1 pm1 an1 cd1 ct1),sl1⟩) (c1:PySem.W.codeIn K cd1 "are_figures"=true) (k1:PySem.W.keepIn K (.ref f1)=true)
   (a2:PySem.W.nsIn K mainGlobals "read_figures"=some (some (.ref f2))) (l2:K.lookup f2=some ⟨oc2,od2,.func (PySem.W.fnOf "read_figures" "read_figures" (aB eE) (ak eE) (af eE) .none kV2 dc2 pm2 an2 cd2 ct2),sl2⟩) (c2:PySem.W.codeIn K cd2 "read_figures"=true) (k2:PySem.W.keepIn K (.ref f2)=true)
   (a3:PySem.W.nsIn K mainGlobals "is_number"=some (some (.ref f3))) (l3:K.lookup f3=some ⟨oc3,od3,.func (PySem.W.fnOf "is_number" "is_number" (aB gZ) (ak gZ) (af gZ) .none kV3 dc3 pm3 an3 cd3 ct3),sl3⟩) (c3:PySem.W.codeIn K cd3 "is_number"=true) (k3:PySem.W.keepIn K (.ref f3)=true)
   (a4:PySem.W.nsIn K mainGlobals "is_whole"=some (some (.ref f4))) (l4:K.lookup f4=some ⟨oc4,od4,.func (PySem.W.fnOf "is_whole" "is_whole" (aB jf) (ak jf) (af jf) .none kV4 dc4 pm4 an4 cd4 ct4),sl4⟩) (c4:PySem.W.codeIn K cd4 "is_whole"=true) (k4:PySem.W.keepIn K (.ref f4)=true)
   (a5:PySem.W.nsIn K mainGlobals "is_whole_from"=some (some (.ref f5))) (l5:K.lookup f5=some ⟨oc5,od5,.func (PySem.W.fnOf "is_whole_from" "is_whole_from" (aB dN) (ak dN) (af dN) .none kV5 dc5 pm5 an5 cd5 ct5),sl5⟩) (c5:PySem.W.codeIn K cd5 "is_whole_from"=true) (k5:PySem.W.keepIn K (.ref f5)=true)
   (a6:PySem.W.nsIn K mainGlobals "is_key"=some (some (.ref f6))) (l6:K.lookup f6=some ⟨oc6,od6,.func (PySem.W.fnOf "is_key" "is_key" (aB kY) (ak kY) (af kY) .none kV6 dc6 pm6 an6 cd6 ct6),sl6⟩) (c6:PySem.W.codeIn K cd6 "is_key"=true) (k6:PySem.W.keepIn K (.ref f6)=true)
   (a7:PySem.W.nsIn K mainGlobals "is_stretch"=some (some (.ref f7))) (l7:K.lookup f7=some ⟨oc7,od7,.func (PySem.W.fnOf "is_stretch" "is_stretch" (aB gp) (ak gp) (af gp) .none kV7 dc7 pm7 an7 cd7 ct7),sl7⟩) (c7:PySem.W.codeIn K cd7 "is_stretch"=true) (k7:PySem.W.keepIn K (.ref f7)=true)
   (a8:PySem.W.nsIn K mainGlobals "is_half"=some (some (.ref f8))) (l8:K.lookup f8=some ⟨oc8,od8,.func (PySem.W.fnOf "is_half" "is_half" (aB jN) (ak jN) (af jN) .none kV8 dc8 pm8 an8 cd8 ct8),sl8⟩) (c8:PySem.W.codeIn K cd8 "is_half"=true) (k8:PySem.W.keepIn K (.ref f8)=true)
   (a9:PySem.W.nsIn K mainGlobals "is_action"=some (some (.ref f9))) (l9:K.lookup f9=some ⟨oc9,od9,.func (PySem.W.fnOf "is_action" "is_action" (aB g8) (ak g8) (af g8) .none kV9 dc9 pm9 an9 cd9 ct9),sl9⟩) (c9:PySem.W.codeIn K cd9 "is_action"=true) (k9:PySem.W.keepIn K (.ref f9)=true)
   (Zs:PySem.W.nsIn K mainGlobals "is_note"=some (some (.ref Oo))) (Zt:K.lookup Oo=some ⟨UN,Rt,.func (PySem.W.fnOf "is_note" "is_note" (aB jO) (ak jO) (af jO) .none UO UP UQ Ru Mx UR),TJ⟩) (Zu:PySem.W.codeIn K Mx "is_note"=true) (Pe:PySem.W.keepIn K (.ref Oo)=true)
   (Zv:PySem.W.nsIn K mainGlobals "is_rising"=some (some (.ref Oq))) (Zw:K.lookup Oq=some ⟨US,Rv,.func (PySem.W.fnOf "is_rising" "is_rising" (aB g9) (ak g9) (af g9) .none UT UU UW Rw My UX),TL⟩) (Zx:PySem.W.codeIn K My "is_rising"=true) (Pf:PySem.W.keepIn K (.ref Oq)=true)
   (Zy:PySem.W.nsIn K mainGlobals "are_wholes"=some (some (.ref Ot))) (Zz:K.lookup Ot=some ⟨UY,Rx,.func (PySem.W.fnOf "are_wholes" "are_wholes" (aB gq) (ak gq) (af gq) .none UZ U0 U1 Ry Mz U3),TM⟩) (ZA:PySem.W.codeIn K Mz "are_wholes"=true) (Pg:PySem.W.keepIn K (.ref Ot)=true)
   (ZC:PySem.W.nsIn K mainGlobals "is_version"=some (some (.ref Ou))) (ZD:K.lookup Ou=some ⟨U4,Rz,.func (PySem.W.fnOf "is_version" "is_version" (aB gr) (ak gr) (af gr) .none U5 U6 U7 RA MA U8),TN⟩) (ZE:PySem.W.codeIn K MA "is_version"=true) (Ph:PySem.W.keepIn K (.ref Ou)=true)
   (ZF:PySem.W.nsIn K mainGlobals "are_versions"=some (some (.ref Ov))) (ZG:K.lookup Ov=some ⟨U9,RB,.func (PySem.W.fnOf "are_versions" "are_versions" (aB eN) (ak eN) (af eN) .none Va Vb Vc RC MB Vd),TQ⟩) (ZH:PySem.W.codeIn K MB "are_versions"=true) (Pj:PySem.W.keepIn K (.ref Ov)=true)
   (ZI:PySem.W.nsIn K mainGlobals "is_row"=some (some (.ref Ow))) (ZJ:K.lookup Ow=some ⟨Ve,RD,.func (PySem.W.fnOf "is_row" "is_row" (aB kZ) (ak kZ) (af kZ) .none Vf Vg Vh RE MC Vi),TR⟩) (ZK:PySem.W.codeIn K MC "is_row"=true) (J0:PySem.W.keepIn K (.ref Ow)=true)
   (ZL:PySem.W.nsIn K mainGlobals "are_rows"=some (some (.ref Ox))) (ZM:K.lookup Ox=some ⟨Vj,RG,.func (PySem.W.fnOf "are_rows" "are_rows" (aB jg) (ak jg) (af jg) .none Vk Vl Vm RH MD Vn),TU⟩) (ZN:PySem.W.codeIn K MD "are_rows"=true) (Pk:PySem.W.keepIn K (.ref Ox)=true)
   (ZO:PySem.W.nsIn K mainGlobals "are_notes"=some (some (.ref Oz))) (ZP:K.lookup Oz=some ⟨Vo,RI,.func (PySem.W.fnOf "are_notes" "are_notes" (aB ia) (ak ia) (af ia) .none Vp Vq Vr RJ ME Vs),TV⟩) (ZQ:PySem.W.codeIn K ME "are_notes"=true) (Pn:PySem.W.keepIn K (.ref Oz)=true)
   (ZR:PySem.W.nsIn K mainGlobals "has_word"=some (some (.ref OA))) (ZS:K.lookup OA=some ⟨Vt,RK,.func (PySem.W.fnOf "has_word" "has_word" (aB jh) (ak jh) (af jh) .none Vu Vv Vw RL MF Vx),TX⟩) (ZU:PySem.W.codeIn K MF "has_word"=true) (Po:PySem.W.keepIn K (.ref OA)=true)
   (ZV:PySem.W.nsIn K mainGlobals "is_leaf_told"=some (some (.ref OB))) (ZW:K.lookup OB=some ⟨Vy,RM,.func (PySem.W.fnOf "is_leaf_told" "is_leaf_told" (aB eO) (ak eO) (af eO) .none Vz VA VB RO MG VC),TY⟩) (ZX:PySem.W.codeIn K MG "is_leaf_told"=true) (Pp:PySem.W.keepIn K (.ref OB)=true)
   (ZY:PySem.W.nsIn K mainGlobals "is_inner_told"=some (some (.ref OC))) (ZZ:K.lookup OC=some ⟨VD,RP,.func (PySem.W.fnOf "is_inner_told" "is_inner_told" (aB dP) (ak dP) (af dP) .none VE VF VG RQ MH VH),TZ⟩) (Z0:PySem.W.codeIn K MH "is_inner_told"=true) (Pq:PySem.W.keepIn K (.ref OC)=true)
   (KA:PySem.W.nsIn K mainGlobals "read_list"=some (some (.ref Ij))) (Z2:K.lookup Ij=some ⟨VI,RS,.func (PySem.W.fnOf "read_list" "read_list" (aB ic) (ak ic) (af ic) .none VJ VL VM RT MI VN),T3⟩) (Z3:PySem.W.codeIn K MI "read_list"=true) (Ik:PySem.W.keepIn K (.ref Ij)=true)
   (Z4:PySem.W.nsIn K mainGlobals "read_numbers"=some (some (.ref OD))) (Z5:K.lookup OD=some ⟨VO,RU,.func (PySem.W.fnOf "read_numbers" "read_numbers" (aB eT) (ak eT) (af eT) .none VP VQ VR RV MJ VS),T4⟩) (Z6:PySem.W.codeIn K MJ "read_numbers"=true) (Pr:PySem.W.keepIn K (.ref OD)=true)
   (Ny:PySem.W.nsIn K mainGlobals "read_version"=some (some (.ref Lc))) (Z7:K.lookup Lc=some ⟨VT,RW,.func (PySem.W.fnOf "read_version" "read_version" (aB eU) (ak eU) (af eU) .none VU VV VW RX MK VX),T5⟩) (Z8:PySem.W.codeIn K MK "read_version"=true) (Nz:PySem.W.keepIn K (.ref Lc)=true)
   (Pu:PySem.W.nsIn K mainGlobals "read_row"=some (some (.ref Ld))) (Z9:K.lookup Ld=some ⟨VY,RY,.func (PySem.W.fnOf "read_row" "read_row" (aB ji) (ak ji) (af ji) .none VZ V0 V1 RZ ML V2),T6⟩) (c24:PySem.W.codeIn K ML "read_row"=true) (NB:PySem.W.keepIn K (.ref Ld)=true)
   (a25:PySem.W.nsIn K mainGlobals "read_half"=some (some (.ref OE))) (l25:K.lookup OE=some ⟨V3,R0,.func (PySem.W.fnOf "read_half" "read_half" (aB ie) (ak ie) (af ie) .none V4 V5 V6 R1 MM V7),T7⟩) (c25:PySem.W.codeIn K MM "read_half"=true) (Pw:PySem.W.keepIn K (.ref OE)=true)
   (Px:PySem.W.nsIn K mainGlobals "read_note"=some (some (.ref Le))) (l26:K.lookup Le=some ⟨V8,R3,.func (PySem.W.fnOf "read_note" "read_note" (aB ig) (ak ig) (af ig) .none V9 Wa Wb R4 MN Wc),T9⟩) (c26:PySem.W.codeIn K MN "read_note"=true) (NC:PySem.W.keepIn K (.ref Le)=true)
   (Py:PySem.W.nsIn K mainGlobals "read_spot"=some (some (.ref Lf))) (l27:K.lookup Lf=some ⟨Wd,R5,.func (PySem.W.fnOf "read_spot" "read_spot" (aB ir) (ak ir) (af ir) .none We Wf Wg R6 MO Wh),Ua⟩) (c27:PySem.W.codeIn K MO "read_spot"=true) (ND:PySem.W.keepIn K (.ref Lf)=true)
   (a28:PySem.W.nsIn K mainGlobals "read_leaf"=some (some (.ref OF))) (l28:K.lookup OF=some ⟨Wi,R7,.func (PySem.W.fnOf "read_leaf" "read_leaf" (aB iu) (ak iu) (af iu) .none Wj Wk Wm R8 MP Wn),Ub⟩) (c28:PySem.W.codeIn K MP "read_leaf"=true) (Pz:PySem.W.keepIn K (.ref OF)=true)
   (a29:PySem.W.nsIn K mainGlobals "is_inner_writable"=some (some (.ref OG))) (l29:K.lookup OG=some ⟨Wo,R9,.func (PySem.W.fnOf "is_inner_writable" "is_inner_writable" (aB cI) (ak cI) (af cI) .none Wq Wr Ws Sb MQ Wt),Uc⟩) (c29:PySem.W.codeIn K MQ "is_inner_writable"=true) (PB:PySem.W.keepIn K (.ref OG)=true)
   (a30:PySem.W.nsIn K mainGlobals "read_inner"=some (some (.ref OH))) (l30:K.lookup OH=some ⟨Wu,Sd,.func (PySem.W.fnOf "read_inner" "read_inner" (aB gu) (ak gu) (af gu) .none Wv Ww Wx Se MR Wy),Ud⟩) (c30:PySem.W.codeIn K MR "read_inner"=true) (PC:PySem.W.keepIn K (.ref OH)=true)
   (a31:PySem.W.nsIn K mainGlobals "read_room"=some (some (.ref OI))) (l31:K.lookup OI=some ⟨Wz,Sf,.func (PySem.W.fnOf "read_room" "read_room" (aB iw) (ak iw) (af iw) .none WA WB WC Sg MS WD),Ue⟩) (c31:PySem.W.codeIn K MS "read_room"=true) (PD:PySem.W.keepIn K (.ref OI)=true)
   (a32:PySem.W.nsIn K mainGlobals "_law_cell_at"=some (some (.ref OJ))) (l32:K.lookup OJ=some ⟨WE,Sh,.func (PySem.W.fnOf "_law_cell_at" "_law_cell_at" (aB eV) (ak eV) (af eV) .none WG WH WI Si MT WJ),Ug⟩) (c32:PySem.W.codeIn K MT "_law_cell_at"=true) (PJ:PySem.W.keepIn K (.ref OJ)=true)
   (a33:PySem.W.nsIn K mainGlobals "_law_digit"=some (some (.ref OL))) (l33:K.lookup OL=some ⟨WK,Sj,.func (PySem.W.fnOf "_law_digit" "_law_digit" (aB gv) (ak gv) (af gv) .none WL WM WN Sk MU WO),Uh⟩) (c33:PySem.W.codeIn K MU "_law_digit"=true) (PL:PySem.W.keepIn K (.ref OL)=true)
   (PM:PySem.W.nsIn K mainGlobals "_law_alike"=some (some (.ref OM))) (l34:K.lookup OM=some ⟨WQ,Sl,.func (PySem.W.fnOf "_law_alike" "_law_alike" (aB cE) (ak cE) (af cE) .none WR WS WT Sm MV WU),Ui⟩) (c34:PySem.W.codeIn K MV "_law_alike"=true) (NF:PySem.W.keepIn K (.ref OM)=true)
   (a35:PySem.W.nsIn K mainGlobals "_law_number"=some (some (.ref ON))) (l35:K.lookup ON=some ⟨WV,Sn,.func (PySem.W.fnOf "_law_number" "_law_number" (aB fH) (ak fH) (af fH) .none WW WX WY So MW WZ),Uj⟩) (c35:PySem.W.codeIn K MW "_law_number"=true) (PN:PySem.W.keepIn K (.ref ON)=true)
   (a36:PySem.W.nsIn K mainGlobals "_law_first"=some (some (.ref OO))) (l36:K.lookup OO=some ⟨W0,Sq,.func (PySem.W.fnOf "_law_first" "_law_first" (aB gw) (ak gw) (af gw) .none W2 W3 W4 Ss MX W5),Uk⟩) (c36:PySem.W.codeIn K MX "_law_first"=true) (PR:PySem.W.keepIn K (.ref OO)=true)
   (a37:PySem.W.nsIn K mainGlobals "_law_rising"=some (some (.ref OP))) (l37:K.lookup OP=some ⟨W6,Su,.func (PySem.W.fnOf "_law_rising" "_law_rising" (aB fJ) (ak fJ) (af fJ) .none W7 W8 W9 Sv MY Xa),Ul⟩) (c37:PySem.W.codeIn K MY "_law_rising"=true) (PU:PySem.W.keepIn K (.ref OP)=true)
   (a38:PySem.W.nsIn K mainGlobals "_law_keys"=some (some (.ref OQ))) (l38:K.lookup OQ=some ⟨Xb,Sw,.func (PySem.W.fnOf "_law_keys" "_law_keys" (aB iy) (ak iy) (af iy) .none Xc Xd Xe Sx MZ Xf),Um⟩) (c38:PySem.W.codeIn K MZ "_law_keys"=true) (PV:PySem.W.keepIn K (.ref OQ)=true)
   (a39:PySem.W.nsIn K mainGlobals "_law_versions"=some (some (.ref OR))) (l39:K.lookup OR=some ⟨Xg,Sy,.func (PySem.W.fnOf "_law_versions" "_law_versions" (aB dQ) (ak dQ) (af dQ) .none Xh Xi Xj Sz M0 Xk),Uo⟩) (c39:PySem.W.codeIn K M0 "_law_versions"=true) (PX:PySem.W.keepIn K (.ref OR)=true)
   (a40:PySem.W.nsIn K mainGlobals "_law_some"=some (some (.ref OS))) (l40:K.lookup OS=some ⟨Xl,SD,.func (PySem.W.fnOf "_law_some" "_law_some" (aB iA) (ak iA) (af iA) .none Xm Xn Xo SE M1 Xp),Up⟩) (c40:PySem.W.codeIn K M1 "_law_some"=true) (PY:PySem.W.keepIn K (.ref OS)=true)
   (a41:PySem.W.nsIn K mainGlobals "_law_note"=some (some (.ref OT))) (l41:K.lookup OT=some ⟨Xq,SG,.func (PySem.W.fnOf "_law_note" "_law_note" (aB iB) (ak iB) (af iB) .none Xr Xs Xu SH M3 Xv),Uq⟩) (c41:PySem.W.codeIn K M3 "_law_note"=true) (PZ:PySem.W.keepIn K (.ref OT)=true)
   (a42:PySem.W.nsIn K mainGlobals "_law_room"=some (some (.ref OU))) (l42:K.lookup OU=some ⟨Xw,SI,.func (PySem.W.fnOf "_law_room" "_law_room" (aB iC) (ak iC) (af iC) .none Xx Xy Xz SJ M4 XA),Ur⟩) (c42:PySem.W.codeIn K M4 "_law_room"=true) (P0:PySem.W.keepIn K (.ref OU)=true)
   (a43:PySem.W.nsIn K mainGlobals "_law_half"=some (some (.ref OV))) (l43:K.lookup OV=some ⟨XD,SK,.func (PySem.W.fnOf "_law_half" "_law_half" (aB iD) (ak iD) (af iD) .none XE XF XH SN M5 XI),Us⟩) (c43:PySem.W.codeIn K M5 "_law_half"=true) (P1:PySem.W.keepIn K (.ref OV)=true)
   (a44:PySem.W.nsIn K mainGlobals "_law_line"=some (some (.ref OW))) (l44:K.lookup OW=some ⟨XJ,SO,.func (PySem.W.fnOf "_law_line" "_law_line" (aB iE) (ak iE) (af iE) .none XM XN XO SQ M6 XQ),Ut⟩) (c44:PySem.W.codeIn K M6 "_law_line"=true) (P4:PySem.W.keepIn K (.ref OW)=true)
   (a45:PySem.W.nsIn K mainGlobals "_law_row_text"=some (some (.ref OX))) (l45:K.lookup OX=some ⟨XR,SR,.func (PySem.W.fnOf "_law_row_text" "_law_row_text" (aB dR) (ak dR) (af dR) .none XS XU XW SS M7 XY),Uu⟩) (c45:PySem.W.codeIn K M7 "_law_row_text"=true) (P5:PySem.W.keepIn K (.ref OX)=true)
   (a46:PySem.W.nsIn K mainGlobals "_law_note_text"=some (some (.ref OY))) (l46:K.lookup OY=some ⟨XZ,SV,.func (PySem.W.fnOf "_law_note_text" "_law_note_text" (aB dD) (ak dD) (af dD) .none X0 X4 X6 SW M8 X7),Uv⟩) (c46:PySem.W.codeIn K M8 "_law_note_text"=true) (P6:PySem.W.keepIn K (.ref OY)=true)
   (a47:PySem.W.nsIn K mainGlobals "_law_room_text"=some (some (.ref OZ))) (l47:K.lookup OZ=some ⟨X8,SX,.func (PySem.W.fnOf "_law_room_text" "_law_room_text" (aB bT) (ak bT) (af bT) .none Yb Yc Yd SY M9 Ye),Uw⟩) (c47:PySem.W.codeIn K M9 "_law_room_text"=true) (P7:PySem.W.keepIn K (.ref OZ)=true)
   (a48:PySem.W.nsIn K mainGlobals "_law_whole"=some (some (.ref O0))) (l48:K.lookup O0=some ⟨Yg,S1,.func (PySem.W.fnOf "_law_whole" "_law_whole" (aB gx) (ak gx) (af gx) .none Yh Yi Yj S2 Na Yk),Ux⟩) (c48:PySem.W.codeIn K Na "_law_whole"=true) (P8:PySem.W.keepIn K (.ref O0)=true)
   (a49:PySem.W.nsIn K mainGlobals "_law_count"=some (some (.ref O1))) (l49:K.lookup O1=some ⟨Yl,S3,.func (PySem.W.fnOf "_law_count" "_law_count" (aB gy) (ak gy) (af gy) .none Ym Yn Yo S4 Nb Yp),Uy⟩) (c49:PySem.W.codeIn K Nb "_law_count"=true) (P9:PySem.W.keepIn K (.ref O1)=true)
   (a50:PySem.W.nsIn K mainGlobals "_law_half_in"=some (some (.ref O2))) (l50:K.lookup O2=some ⟨Yq,S5,.func (PySem.W.fnOf "_law_half_in" "_law_half_in" (aB eW) (ak eW) (af eW) .none Yr Ys Yt S6 Nc Yu),Uz⟩) (c50:PySem.W.codeIn K Nc "_law_half_in"=true) (Qa:PySem.W.keepIn K (.ref O2)=true)
   (a51:PySem.W.nsIn K mainGlobals "_law_note_in"=some (some (.ref O3))) (l51:K.lookup O3=some ⟨Yv,S7,.func (PySem.W.fnOf "_law_note_in" "_law_note_in" (aB bJ) (ak bJ) (af bJ) .none Yw Yx Yy S8 Nd Yz),UA⟩) (c51:PySem.W.codeIn K Nd "_law_note_in"=true) (Qc:PySem.W.keepIn K (.ref O3)=true)
   (a52:PySem.W.nsIn K mainGlobals "_law_row_in"=some (some (.ref O4))) (l52:K.lookup O4=some ⟨YA,S9,.func (PySem.W.fnOf "_law_row_in" "_law_row_in" (aB dz) (ak dz) (af dz) .none YB YC YD Tc Nf YE),UB⟩) (c52:PySem.W.codeIn K Nf "_law_row_in"=true) (Qd:PySem.W.keepIn K (.ref O4)=true)
   (a53:PySem.W.nsIn K mainGlobals "_law_leaf_in"=some (some (.ref O5))) (l53:K.lookup O5=some ⟨YF,Td,.func (PySem.W.fnOf "_law_leaf_in" "_law_leaf_in" (aB eX) (ak eX) (af eX) .none YG YH YI Te Ng YJ),UC⟩) (c53:PySem.W.codeIn K Ng "_law_leaf_in"=true) (Qe:PySem.W.keepIn K (.ref O5)=true)
   (a54:PySem.W.nsIn K mainGlobals "_law_inner_in"=some (some (.ref O6))) (l54:K.lookup O6=some ⟨YK,Tf,.func (PySem.W.fnOf "_law_inner_in" "_law_inner_in" (aB bX) (ak bX) (af bX) .none YL YM YN Tg Nh YO),UD⟩) (c54:PySem.W.codeIn K Nh "_law_inner_in"=true) (Qf:PySem.W.keepIn K (.ref O6)=true)
   (a55:PySem.W.nsIn K mainGlobals "_law_read"=some (some (.ref O7))) (l55:K.lookup O7=some ⟨YQ,Th,.func (PySem.W.fnOf "_law_read" "_law_read" (aB iF) (ak iF) (af iF) .none YR YS YT Ti Ni YU),UE⟩) (c55:PySem.W.codeIn K Ni "_law_read"=true) (Qg:PySem.W.keepIn K (.ref O7)=true)
   (a56:PySem.W.nsIn K mainGlobals "_law_starts"=some (some (.ref O8))) (l56:K.lookup O8=some ⟨YV,Tj,.func (PySem.W.fnOf "_law_starts" "_law_starts" (aB fK) (ak fK) (af fK) .none YW YX YY Tn Nj YZ),UG⟩) (c56:PySem.W.codeIn K Nj "_law_starts"=true) (Qh:PySem.W.keepIn K (.ref O8)=true)
   (a57:PySem.W.nsIn K mainGlobals "_law_sign"=some (some (.ref O9))) (l57:K.lookup O9=some ⟨Y0,To,.func (PySem.W.fnOf "_law_sign" "_law_sign" (aB iG) (ak iG) (af iG) .none Y3 Y4 Y5 Tp Nk Y6),UH⟩) (c57:PySem.W.codeIn K Nk "_law_sign"=true) (Qi:PySem.W.keepIn K (.ref O9)=true)
   (a58:PySem.W.nsIn K mainGlobals "_law_parts_turned"=some (some (.ref Pa))) (l58:K.lookup Pa=some ⟨Y7,Tq,.func (PySem.W.fnOf "_law_parts_turned" "_law_parts_turned" (aB bA) (ak bA) (af bA) .none Y8 Y9 Za Tr Nl Zb),UI⟩) (c58:PySem.W.codeIn K Nl "_law_parts_turned"=true) (Qj:PySem.W.keepIn K (.ref Pa)=true)
   (a59:PySem.W.nsIn K mainGlobals "_law_figures"=some (some (.ref Pb))) (l59:K.lookup Pb=some ⟨Zc,Tt,.func (PySem.W.fnOf "_law_figures" "_law_figures" (aB bW) (ak bW) (af bW) .none Zd Ze Zf Tu Nm Zg),UJ⟩) (c59:PySem.W.codeIn K Nm "_law_figures"=true) (Qk:PySem.W.keepIn K (.ref Pb)=true)
   (a60:PySem.W.nsIn K mainGlobals "_law_spoilt"=some (some (.ref Pc))) (l60:K.lookup Pc=some ⟨Zh,Tv,.func (PySem.W.fnOf "_law_spoilt" "_law_spoilt" (aB bP) (ak bP) (af bP) .none Zi Zj Zk Tw Np Zl),UK⟩) (c60:PySem.W.codeIn K Np "_law_spoilt"=true) (Ql:PySem.W.keepIn K (.ref Pc)=true)
   (a61:PySem.W.nsIn K mainGlobals "_law_reads"=some (some (.ref Pd))) (l61:K.lookup Pd=some ⟨Zm,Tz,.func (PySem.W.fnOf "_law_reads" "_law_reads" (aB bG) (ak bG) (af bG) .none Zn Zo Zp TF Nq Zq),UL⟩) (c61:PySem.W.codeIn K Nq "_law_reads"=true) (Qm:PySem.W.keepIn K (.ref Pd)=true)
   (a62:PySem.W.nsIn K mainGlobals "law"=some (some (.ref Rr))) (l62:K.lookup Rr=some ⟨Zr,TH,.func (PySem.W.fnOf "law" "law" (aB pe) (ak pe) (af pe) .none Nr Nu Nv Mw Kz Nx),UM⟩) (c62:PySem.W.codeIn K Kz "law"=true) (k62:PySem.W.keepIn K (.ref Rr)=true)
   (Fx:PySem.W.nsIn K mainGlobals "len"=some none)
   (lQ:PySem.W.nsIn K mainGlobals "isinstance"=some none)
   (Fy:PySem.W.nsIn K mainGlobals "int"=some none)
   (A9:PySem.W.nsIn K mainGlobals "bool"=some none)
   (ye:PySem.W.nsIn K mainGlobals "tuple"=some none)
   (Fz:PySem.W.nsIn K mainGlobals "str"=some none)
   (Ba:PySem.W.nsIn K mainGlobals "list"=some none)
   (FA:PySem.W.nsIn K mainGlobals "all"=some none)
   (FD:PySem.W.nsIn K mainGlobals "zip"=some none)
   (nc:PySem.W.nsIn K mainGlobals "enumerate"=some none)
   (yf:PySem.W.nsIn K mainGlobals "range"=some none)
   (Bb:PySem.W.nsIn K mainGlobals "dict"=some none)
   (FE:PySem.W.nsIn K mainGlobals "max"=some none)
   (FF:PySem.W.nsIn K mainGlobals "min"=some none)
   (lR:PySem.W.nsIn K mainGlobals "ValueError"=some none)
   (Bc:PySem.W.nsIn K mainGlobals "GONE"=some (some (.ref aG)))
   (FG:PySem.W.nsIn K mainGlobals "END"=some (some (.int 1000000000000 tE)))
   (jV:PySem.W.nsIn K mainGlobals "MOST_FIGURES"=some (some (.int 60 tF)))
   (ng:PySem.W.nsIn K mainGlobals "FallError"=some (some (.ref cF)))
   (ue:PySem.W.nsIn K mainGlobals "NoDeed"=some (some (.ref cR)))
   (uf:PySem.W.nsIn K mainGlobals "NoPage"=some (some (.ref cN)))
   (KC:PySem.W.specialIn K (.builtin "object.__class__") "__get__"=some (some (.builtin "getset_descriptor.__get__")))
   (KD:PySem.W.takesIn K (.builtin "object.__class__")=some true)
   (KG:PySem.W.excIn K cN [.type "ValueError",.type "Exception",.type "BaseException",.type "object"] "ValueError.__new__"=true)
   (FH:PySem.W.findIn K (.ref cN) "__getattribute__"=some (some (.builtin "BaseException.__getattribute__")))
   (FI:PySem.W.findIn K (.ref cN) "__getattr__"=some none)
   (FJ:PySem.W.findIn K (.ref cN) "__class__"=some (some (.builtin "object.__class__")))
   (FL:PySem.W.mroIn K cN (.type "object")=some true)
   (FN:PySem.W.mroIn K cN (.type "BaseException")=some true)
   (FO:K.lookup cN=some ⟨coN,doN,.cls cdN,slN⟩)
   (KH:PySem.W.exmOne K (.ref cN) (.ref cF)=some true)
   (FP:PySem.W.kitOne K (.ref cN) (.ref cN)=some true)
   (FQ:PySem.W.kitOne K (.ref cN) (.type "ValueError")=some true)
   (FT:PySem.W.kitOne K (.ref cN) (.ref cR)=some false)
   (KI:K.lookup aG=some ⟨.type "tuple",dG,.seq #[.str "gone" tG] nG,slG⟩):
   ∃ fd:FuncData,(∀ (s:Shared) (v:Value),BindsTo s fd ⟨[v],[]⟩ [("_law_script",v)])/\∀ base:Heap,K.In base->base.Ns mainGlobals mg->bB l.prog w K mg base fC 11 fa fd ["_law_script"] (B8 K):=by
 have e:=hfa.symm.trans (PySem.W.mg_of X G a62)
 cases e
 have B:=(B.mk (PySem.W.mg_none_of X G Fx) (PySem.W.mg_none_of X G lQ) (PySem.W.mg_none_of X G Fy) (PySem.W.mg_none_of X G A9) (PySem.W.mg_none_of X G ye) (PySem.W.mg_none_of X G Fz) (PySem.W.mg_none_of X G Ba) (PySem.W.mg_none_of X G FA) (PySem.W.mg_none_of X G FD) (PySem.W.mg_none_of X G nc) (PySem.W.mg_none_of X G yf) (PySem.W.mg_none_of X G Bb) (PySem.W.mg_none_of X G FE) (PySem.W.mg_none_of X G FF) (PySem.W.mg_none_of X G lR) (PySem.W.mg_of X G Bc) (PySem.W.mg_of X G FG) (PySem.W.mg_of X G jV) (PySem.W.mg_of X G ng) (PySem.W.mg_of X G ue) (PySem.W.mg_of X G uf) (GR KI (by simp) rfl) ⟨⟨KG⟩,⟨FH,FI,FJ,FL,FN,KC,KD,by unfold PySem.W.clsIn;rw [FO];rfl⟩,KH,FP,FQ,FT⟩:B K mg aG cF cR cN tE tF)
 have F1:=aS (st:=fG) l1 c1 k1
 have b1:=F1.binds (ps:=["text"]) fun _ _ _ _ _ _ us hl=>match us,hl with | [_],_=>rfl
 have F2:=aS (st:=eE) l2 c2 k2
 have b2:=F2.binds (ps:=["text"]) fun _ _ _ _ _ _ us hl=>match us,hl with | [_],_=>rfl
 have F3:=aS (st:=gZ) l3 c3 k3
 have b3:=F3.binds (ps:=["thing"]) fun _ _ _ _ _ _ us hl=>match us,hl with | [_],_=>rfl
 have F4:=aS (st:=jf) l4 c4 k4
 have b4:=F4.binds (ps:=["thing","low","high"]) fun _ _ _ _ _ _ us hl=>match us,hl with | [_,_,_],_=>rfl
 have F5:=aS (st:=dN) l5 c5 k5
 have b5:=F5.binds (ps:=["thing","low"]) fun _ _ _ _ _ _ us hl=>match us,hl with | [_,_],_=>rfl
 have F6:=aS (st:=kY) l6 c6 k6
 have b6:=F6.binds (ps:=["thing"]) fun _ _ _ _ _ _ us hl=>match us,hl with | [_],_=>rfl
 have F7:=aS (st:=gp) l7 c7 k7
 have b7:=F7.binds (ps:=["low","high"]) fun _ _ _ _ _ _ us hl=>match us,hl with | [_,_],_=>rfl
 have F8:=aS (st:=jN) l8 c8 k8
 have b8:=F8.binds (ps:=["thing","words"]) fun _ _ _ _ _ _ us hl=>match us,hl with | [_,_],_=>rfl
 have F9:=aS (st:=g8) l9 c9 k9
 have b9:=F9.binds (ps:=["thing"]) fun _ _ _ _ _ _ us hl=>match us,hl with | [_],_=>rfl
 have F10:=aS (st:=jO) Zt Zu Pe
 have b10:=F10.binds (ps:=["thing"]) fun _ _ _ _ _ _ us hl=>match us,hl with | [_],_=>rfl
 have F11:=aS (st:=g9) Zw Zx Pf
 have b11:=F11.binds (ps:=["numbers"]) fun _ _ _ _ _ _ us hl=>match us,hl with | [_],_=>rfl
 have F12:=aS (st:=gq) Zz ZA Pg
 have b12:=F12.binds (ps:=["thing"]) fun _ _ _ _ _ _ us hl=>match us,hl with | [_],_=>rfl
 have F13:=aS (st:=gr) ZD ZE Ph
 have b13:=F13.binds (ps:=["thing"]) fun _ _ _ _ _ _ us hl=>match us,hl with | [_],_=>rfl
 have F14:=aS (st:=eN) ZG ZH Pj
 have b14:=F14.binds (ps:=["thing"]) fun _ _ _ _ _ _ us hl=>match us,hl with | [_],_=>rfl
 have F15:=aS (st:=kZ) ZJ ZK J0
 have b15:=F15.binds (ps:=["thing"]) fun _ _ _ _ _ _ us hl=>match us,hl with | [_],_=>rfl
 have F16:=aS (st:=jg) ZM ZN Pk
 have b16:=F16.binds (ps:=["thing"]) fun _ _ _ _ _ _ us hl=>match us,hl with | [_],_=>rfl
 have F17:=aS (st:=ia) ZP ZQ Pn
 have b17:=F17.binds (ps:=["thing"]) fun _ _ _ _ _ _ us hl=>match us,hl with | [_],_=>rfl
 have F18:=aS (st:=jh) ZS ZU Po
 have b18:=F18.binds (ps:=["thing","word","many"]) fun _ _ _ _ _ _ us hl=>match us,hl with | [_,_,_],_=>rfl
 have F19:=aS (st:=eO) ZW ZX Pp
 have b19:=F19.binds (ps:=["thing"]) fun _ _ _ _ _ _ us hl=>match us,hl with | [_],_=>rfl
 have F20:=aS (st:=dP) ZZ Z0 Pq
 have b20:=F20.binds (ps:=["thing"]) fun _ _ _ _ _ _ us hl=>match us,hl with | [_],_=>rfl
 have Lg:=aS (st:=ic) Z2 Z3 Ik
 have NG:=Lg.binds (ps:=["text","sign","read"]) fun _ _ _ _ _ _ us hl=>match us,hl with | [_,_,_],_=>rfl
 have F22:=aS (st:=eT) Z5 Z6 Pr
 have b22:=F22.binds (ps:=["text"]) fun _ _ _ _ _ _ us hl=>match us,hl with | [_],_=>rfl
 have F23:=aS (st:=eU) Z7 Z8 Nz
 have b23:=F23.binds (ps:=["text"]) fun _ _ _ _ _ _ us hl=>match us,hl with | [_],_=>rfl
 have F24:=aS (st:=ji) Z9 c24 NB
 have b24:=F24.binds (ps:=["text"]) fun _ _ _ _ _ _ us hl=>match us,hl with | [_],_=>rfl
 have F25:=aS (st:=ie) l25 c25 Pw
 have b25:=F25.binds (ps:=["text"]) fun _ _ _ _ _ _ us hl=>match us,hl with | [_],_=>rfl
 have F26:=aS (st:=ig) l26 c26 NC
 have b26:=F26.binds (ps:=["text"]) fun _ _ _ _ _ _ us hl=>match us,hl with | [_],_=>rfl
 have F27:=aS (st:=ir) l27 c27 ND
 have b27:=F27.binds (ps:=["text"]) fun _ _ _ _ _ _ us hl=>match us,hl with | [_],_=>rfl
 have F28:=aS (st:=iu) l28 c28 Pz
 have b28:=F28.binds (ps:=["pieces"]) fun _ _ _ _ _ _ us hl=>match us,hl with | [_],_=>rfl
 have F29:=aS (st:=cI) l29 c29 PB
 have b29:=F29.binds (ps:=["inner","places"]) fun _ _ _ _ _ _ us hl=>match us,hl with | [_,_],_=>rfl
 have F30:=aS (st:=gu) l30 c30 PC
 have b30:=F30.binds (ps:=["pieces"]) fun _ _ _ _ _ _ us hl=>match us,hl with | [_],_=>rfl
 have F31:=aS (st:=iw) l31 c31 PD
 have b31:=F31.binds (ps:=["text"]) fun _ _ _ _ _ _ us hl=>match us,hl with | [_],_=>rfl
 have F32:=aS (st:=eV) l32 c32 PJ
 have b32:=F32.binds (ps:=["_law_script","_law_k"]) fun _ _ _ _ _ _ us hl=>match us,hl with | [_,_],_=>rfl
 have F33:=aS (st:=gv) l33 c33 PL
 have b33:=F33.binds (ps:=["_law_state","_law_base"]) fun _ _ _ _ _ _ us hl=>match us,hl with | [_,_],_=>rfl
 have F34:=aS (st:=cE) l34 c34 NF
 have b34:=F34.binds (ps:=["_law_found","_law_due"]) fun _ _ _ _ _ _ us hl=>match us,hl with | [_,_],_=>rfl
 have F35:=aS (st:=fH) l35 c35 PN
 have b35:=F35.binds (ps:=["_law_state"]) fun _ _ _ _ _ _ us hl=>match us,hl with | [_],_=>rfl
 have F36:=aS (st:=gw) l36 c36 PR
 have b36:=F36.binds (ps:=["_law_state"]) fun _ _ _ _ _ _ us hl=>match us,hl with | [_],_=>rfl
 have F37:=aS (st:=fJ) l37 c37 PU
 have b37:=F37.binds (ps:=["_law_state","_law_many","_law_first_here"]) fun _ _ _ _ _ _ us hl=>match us,hl with | [_,_,_],_=>rfl
 have F38:=aS (st:=iy) l38 c38 PV
 have b38:=F38.binds (ps:=["_law_state","_law_many"]) fun _ _ _ _ _ _ us hl=>match us,hl with | [_,_],_=>rfl
 have F39:=aS (st:=dQ) l39 c39 PX
 have b39:=F39.binds (ps:=["_law_state","_law_most"]) fun _ _ _ _ _ _ us hl=>match us,hl with | [_,_],_=>rfl
 have F40:=aS (st:=iA) l40 c40 PY
 have b40:=F40.binds (ps:=["_law_state","_law_most"]) fun _ _ _ _ _ _ us hl=>match us,hl with | [_,_],_=>rfl
 have F41:=aS (st:=iB) l41 c41 PZ
 have b41:=F41.binds (ps:=["_law_state"]) fun _ _ _ _ _ _ us hl=>match us,hl with | [_],_=>rfl
 have F42:=aS (st:=iC) l42 c42 P0
 have b42:=F42.binds (ps:=["_law_state","_law_most"]) fun _ _ _ _ _ _ us hl=>match us,hl with | [_,_],_=>rfl
 have F43:=aS (st:=iD) l43 c43 P1
 have b43:=F43.binds (ps:=["_law_half_here"]) fun _ _ _ _ _ _ us hl=>match us,hl with | [_],_=>rfl
 have F44:=aS (st:=iE) l44 c44 P4
 have b44:=F44.binds (ps:=["_law_parts","_law_sign_here"]) fun _ _ _ _ _ _ us hl=>match us,hl with | [_,_],_=>rfl
 have F45:=aS (st:=dR) l45 c45 P5
 have b45:=F45.binds (ps:=["_law_row"]) fun _ _ _ _ _ _ us hl=>match us,hl with | [_],_=>rfl
 have F46:=aS (st:=dD) l46 c46 P6
 have b46:=F46.binds (ps:=["_law_note_here"]) fun _ _ _ _ _ _ us hl=>match us,hl with | [_],_=>rfl
 have F47:=aS (st:=bT) l47 c47 P7
 have b47:=F47.binds (ps:=["_law_room_here","_law_places"]) fun _ _ _ _ _ _ us hl=>match us,hl with | [_,_],_=>rfl
 have F48:=aS (st:=gx) l48 c48 P8
 have b48:=F48.binds (ps:=["_law_word"]) fun _ _ _ _ _ _ us hl=>match us,hl with | [_],_=>rfl
 have F49:=aS (st:=gy) l49 c49 P9
 have b49:=F49.binds (ps:=["_law_word"]) fun _ _ _ _ _ _ us hl=>match us,hl with | [_],_=>rfl
 have F50:=aS (st:=eW) l50 c50 Qa
 have b50:=F50.binds (ps:=["_law_word","_law_signs"]) fun _ _ _ _ _ _ us hl=>match us,hl with | [_,_],_=>rfl
 have F51:=aS (st:=bJ) l51 c51 Qc
 have b51:=F51.binds (ps:=["_law_word"]) fun _ _ _ _ _ _ us hl=>match us,hl with | [_],_=>rfl
 have F52:=aS (st:=dz) l52 c52 Qd
 have b52:=F52.binds (ps:=["_law_word"]) fun _ _ _ _ _ _ us hl=>match us,hl with | [_],_=>rfl
 have F53:=aS (st:=eX) l53 c53 Qe
 have b53:=F53.binds (ps:=["_law_number_here","_law_rows"]) fun _ _ _ _ _ _ us hl=>match us,hl with | [_,_],_=>rfl
 have F54:=aS (st:=bX) l54 c54 Qf
 have b54:=F54.binds (ps:=["_law_words"]) fun _ _ _ _ _ _ us hl=>match us,hl with | [_],_=>rfl
 have F55:=aS (st:=iF) l55 c55 Qg
 have b55:=F55.binds (ps:=["_law_text"]) fun _ _ _ _ _ _ us hl=>match us,hl with | [_],_=>rfl
 have F56:=aS (st:=fK) l56 c56 Qh
 have b56:=F56.binds (ps:=["_law_text"]) fun _ _ _ _ _ _ us hl=>match us,hl with | [_],_=>rfl
 have F57:=aS (st:=iG) l57 c57 Qi
 have b57:=F57.binds (ps:=["_law_state"]) fun _ _ _ _ _ _ us hl=>match us,hl with | [_],_=>rfl
 have F58:=aS (st:=bA) l58 c58 Qj
 have b58:=F58.binds (ps:=["_law_state","_law_text","_law_way"]) fun _ _ _ _ _ _ us hl=>match us,hl with | [_,_,_],_=>rfl
 have F59:=aS (st:=bW) l59 c59 Qk
 have b59:=F59.binds (ps:=["_law_state","_law_text"]) fun _ _ _ _ _ _ us hl=>match us,hl with | [_,_],_=>rfl
 have F60:=aS (st:=bP) l60 c60 Ql
 have b60:=F60.binds (ps:=["_law_state","_law_text"]) fun _ _ _ _ _ _ us hl=>match us,hl with | [_,_],_=>rfl
 have F61:=aS (st:=bG) l61 c61 Qm
 have b61:=F61.binds (ps:=["_law_state","_law_most"]) fun _ _ _ _ _ _ us hl=>match us,hl with | [_,_],_=>rfl
 have F62:=aS (st:=pe) l62 c62 k62
 refine ⟨PySem.W.fnOf "law" "law" (aB pe) (ak pe) (af pe) .none Nr Nu Nv Mw Kz Nx,fun s v=>.of_eq rfl,fun base _ _=>?_⟩
 have fL:Callee l.prog w K mg base "are_figures" 1 ["text"] ES:=⟨f1,_,tP F1 B,b1,k1,PySem.W.mg_of X G a1⟩
 have av:Callee l.prog w K mg base "read_figures" 2 ["text"] qW:=⟨f2,_,lT F2 B (fL:=fL),b2,k2,PySem.W.mg_of X G a2⟩
 have aQ:Callee l.prog w K mg base "is_number" 1 ["thing"] lJ:=⟨f3,_,wG F3 B,b3,k3,PySem.W.mg_of X G a3⟩
 have fm:Callee l.prog w K mg base "is_whole" 2 ["thing","low","high"] pq:=⟨f4,_,zc F4 B (aQ:=aQ),b4,k4,PySem.W.mg_of X G a4⟩
 have cM:Callee l.prog w K mg base "is_whole_from" 2 ["thing","low"] rT:=⟨f5,_,qv F5 B (aQ:=aQ),b5,k5,PySem.W.mg_of X G a5⟩
 have pM:Callee l.prog w K mg base "is_key" 3 ["thing"] AR:=⟨f6,_,C4 F6 B (fm:=fm),b6,k6,PySem.W.mg_of X G a6⟩
 have jH:Callee l.prog w K mg base "is_stretch" 3 ["low","high"] AS:=⟨f7,_,uH F7 B (fm:=fm),b7,k7,PySem.W.mg_of X G a7⟩
 have lq:Callee l.prog w K mg base "is_half" 2 ["thing","words"] (xu K):=⟨f8,_,AV F8 B (aQ:=aQ),b8,k8,PySem.W.mg_of X G a8⟩
 have kj:Callee l.prog w K mg base "is_action" 3 ["thing"] (AW K):=⟨f9,_,xy F9 B (lq:=lq),b9,k9,PySem.W.mg_of X G a9⟩
 have ny:Callee l.prog w K mg base "is_note" 4 ["thing"] (xA K):=⟨Oo,_,AX F10 B (cM:=cM) (jH:=jH) (kj:=kj),b10,Pe,PySem.W.mg_of X G Zs⟩
 have eZ:Callee l.prog w K mg base "is_rising" 1 ["numbers"] (B3 K):=⟨Oq,_,xE F11 B,b11,Pf,PySem.W.mg_of X G Zv⟩
 have iU:Callee l.prog w K mg base "are_wholes" 2 ["thing"] (Kn K):=⟨Ot,_,uJ F12 B (aQ:=aQ),b12,Pg,PySem.W.mg_of X G Zy⟩
 have jI:Callee l.prog w K mg base "is_version" 3 ["thing"] (AY K):=⟨Ou,_,uK F13 B (cM:=cM) (aQ:=aQ),b13,Ph,PySem.W.mg_of X G ZC⟩
 have iT:Callee l.prog w K mg base "are_versions" 4 ["thing"] (xF K):=⟨Ov,_,rm F14 B (eZ:=eZ) (jI:=jI),b14,Pj,PySem.W.mg_of X G ZF⟩
 have pN:Callee l.prog w K mg base "is_row" 5 ["thing"] (A0 K):=⟨Ow,_,C7 F15 B (pM:=pM) (iT:=iT),b15,J0,PySem.W.mg_of X G ZI⟩
 have lO:Callee l.prog w K mg base "are_rows" 6 ["thing"] (xJ K):=⟨Ox,_,zE F16 B (eZ:=eZ) (pN:=pN),b16,Pk,PySem.W.mg_of X G ZL⟩
 have ko:Callee l.prog w K mg base "are_notes" 5 ["thing"] (t7 K):=⟨Oz,_,xM F17 B (ny:=ny),b17,Pn,PySem.W.mg_of X G ZO⟩
 have gf:Callee l.prog w K mg base "has_word" 1 ["thing","word","many"] (xO K):=⟨OA,_,zG F18 B,b18,Po,PySem.W.mg_of X G ZR⟩
 have iY:Callee l.prog w K mg base "is_leaf_told" 7 ["thing"] (xQ K):=⟨OB,_,rz F19 B (gf:=gf) (aQ:=aQ) (lO:=lO),b19,Pp,PySem.W.mg_of X G ZV⟩
 have gS:Callee l.prog w K mg base "is_inner_told" 6 ["thing"] (A1 K):=⟨OC,_,qB F20 B (gf:=gf) (aQ:=aQ) (iU:=iU) (ko:=ko),b20,Pq,PySem.W.mg_of X G ZY⟩
 have zH:FnAt l.prog w K mg base 2 ["text"] (vD K ao PyData.int) f2:=⟨⟨_,(lT F2 B (fL:=fL)).imp fun _ _ _ _=>Rh,b2,k2⟩⟩
 have kq:Callee l.prog w K mg base "read_list" 3 ["text","sign","read"] (rA K ao PyData.int (Str.ofString ",") f2):=⟨Ij,_,iV Lg B    (hs:=fV) (hd:=fun _=>rfl) (zH:=zH),NG,Ik,PySem.W.mg_of X G KA⟩
 have iZ:Callee l.prog w K mg base "read_numbers" 4 ["text"] (A2 K f2):=⟨OD,_,rC F22 B (kq:=kq)   (Mk:=PySem.W.mg_of X G a2),b22,Pr,PySem.W.mg_of X G Z4⟩
 have FU:Callee l.prog w K mg base "read_version" 3 ["text"] (vD K m5 m6):=⟨Lc,_,lV F23 B (av:=av),b23,Nz,PySem.W.mg_of X G Ny⟩
 have NH:FnAt l.prog w K mg base 3 ["text"] (vD K m5 m6) Lc:=⟨⟨_,lV F23 B (av:=av),b23,Nz⟩⟩
 have lu:Callee l.prog w K mg base "read_list" 4 ["text","sign","read"] (rA K m5 m6 (Str.ofString ",") Lc):=⟨Ij,_,iV Lg B (hs:=fV) (hd:=fun _=>rfl) (zH:=NH),NG,Ik,PySem.W.mg_of X G KA⟩
 have KJ:Callee l.prog w K mg base "read_row" 5 ["text"] (vD K jT lZ):=⟨Ld,_,qN F24 B (av:=av)   (Ko:=PySem.W.mg_of X G Ny) (lu:=lu),b24,NB,PySem.W.mg_of X G Pu⟩
 have iJ:Callee l.prog w K mg base "read_half" 3 ["text"] (vD K gG cg.hd):=⟨OE,_,xU F25 B (av:=av),b25,Pw,PySem.W.mg_of X G a25⟩
 have Il:Callee l.prog w K mg base "read_note" 4 ["text"] (vD K fZ RN.d):=⟨Le,_,pQ F26 B (av:=av) (iJ:=iJ),b26,NC,PySem.W.mg_of X G Px⟩
 have Im:Callee l.prog w K mg base "read_spot" 3 ["text"] (vD K gF tZ):=⟨Lf,_,pR F27 B (av:=av),b27,ND,PySem.W.mg_of X G Py⟩
 have NI:FnAt l.prog w K mg base 5 ["text"] (vD K jT lZ) Ld:=⟨⟨_,qN F24 B (av:=av) (Ko:=PySem.W.mg_of X G Ny) (lu:=lu),b24,NB⟩⟩
 have pS:Callee l.prog w K mg base "read_list" 6 ["text","sign","read"] (rA K jT lZ (Str.ofString ";") Ld):=⟨Ij,_,iV Lg B (hs:=lP) (hd:=fun _=>rfl) (zH:=NI),NG,Ik,PySem.W.mg_of X G KA⟩
 have kr:Callee l.prog w K mg base "read_leaf" 8 ["pieces"] (xV K):=⟨OF,_,xW F28 B (av:=av) (iY:=iY)   (Ml:=PySem.W.mg_of X G Pu) (pS:=pS),b28,Pz,PySem.W.mg_of X G a28⟩
 have dY:Callee l.prog w K mg base "is_inner_writable" 1 ["inner","places"] (A3 K):=⟨OG,_,m7 F29 B,b29,PB,PySem.W.mg_of X G a29⟩
 have KL:FnAt l.prog w K mg base 3 ["text"] (vD K gF tZ) Lf:=⟨⟨_,pR F27 B (av:=av),b27,ND⟩⟩
 have nA:Callee l.prog w K mg base "read_list" 4 ["text","sign","read"] (rA K gF tZ (Str.ofString ",") Lf):=⟨Ij,_,iV Lg B (hs:=fV) (hd:=fun _=>rfl) (zH:=KL),NG,Ik,PySem.W.mg_of X G KA⟩
 have KN:FnAt l.prog w K mg base 4 ["text"] (vD K fZ RN.d) Le:=⟨⟨_,pQ F26 B (av:=av) (iJ:=iJ),b26,NC⟩⟩
 have nB:Callee l.prog w K mg base "read_list" 5 ["text","sign","read"] (rA K fZ RN.d (Str.ofString ";") Le):=⟨Ij,_,iV Lg B (hs:=lP) (hd:=fun _=>rfl) (zH:=KN),NG,Ik,PySem.W.mg_of X G KA⟩
 have jJ:Callee l.prog w K mg base "read_inner" 7 ["pieces"] (A4 K):=⟨OH,_,uL F30 B (av:=av) (iZ:=iZ) (gS:=gS) (dY:=dY)   (Mm:=PySem.W.mg_of X G Py) (nA:=nA) (Mn:=PySem.W.mg_of X G Px) (nB:=nB),b30,PC,PySem.W.mg_of X G a30⟩
 have jw:oZ l.prog w K mg base "read_room" 9 ["text"] (rX K cN):=⟨OI,_,xX F31 B (kr:=kr) (jJ:=jJ),b31,PD,PySem.W.mg_of X G a31⟩
 have i9:Callee l.prog w K mg base "_law_cell_at" 1 ["_law_script","_law_k"] (AI K):=⟨OJ,_,qY F32 B,b32,PJ,PySem.W.mg_of X G a32⟩
 have ai:Callee l.prog w K mg base "_law_digit" 1 ["_law_state","_law_base"] (fj K):=⟨OL,_,uy F33 B,b33,PL,PySem.W.mg_of X G a33⟩
 have dU:Callee l.prog w K mg base "_law_alike" 7 ["_law_found","_law_due"] (nM K 7):=⟨OM,_,uO F34 B b34 NF (PySem.W.mg_of X G PM),b34,NF,PySem.W.mg_of X G PM⟩
 have bL:Callee l.prog w K mg base "_law_number" 2 ["_law_state"] (mX K):=⟨ON,_,tR F35 B (ai:=ai),b35,PN,PySem.W.mg_of X G a35⟩
 have bM:Callee l.prog w K mg base "_law_first" 2 ["_law_state"] (pF K):=⟨OO,_,uA F36 B (ai:=ai),b36,PR,PySem.W.mg_of X G a36⟩
 have bQ:Callee l.prog w K mg base "_law_rising" 2 ["_law_state","_law_many","_law_first_here"] (mY K):=⟨OP,_,tS F37 B (ai:=ai),b37,PU,PySem.W.mg_of X G a37⟩
 have kg:Callee l.prog w K mg base "_law_keys" 3 ["_law_state","_law_many"] (AJ K):=⟨OQ,_,wI F38 B (ai:=ai) (bQ:=bQ),b38,PV,PySem.W.mg_of X G a38⟩
 have gQ:Callee l.prog w K mg base "_law_versions" 3 ["_law_state","_law_most"] (ou K):=⟨OR,_,qw F39 B (bQ:=bQ) (ai:=ai) (bM:=bM) (bL:=bL),b39,PX,PySem.W.mg_of X G a39⟩
 have ju:Callee l.prog w K mg base "_law_some" 2 ["_law_state","_law_most"] (AK K):=⟨OS,_,wK F40 B (ai:=ai),b40,PY,PySem.W.mg_of X G a40⟩
 have kc:Callee l.prog w K mg base "_law_note" 3 ["_law_state"] (wL K):=⟨OT,_,wM F41 B (ai:=ai) (bL:=bL) (bM:=bM),b41,PZ,PySem.W.mg_of X G a41⟩
 have ku:Callee l.prog w K mg base "_law_room" 4 ["_law_state","_law_most"] (wY K):=⟨OU,_,wZ F42 B (bQ:=bQ) (ai:=ai) (kg:=kg) (bM:=bM) (bL:=bL) (kc:=kc) (ju:=ju) (gQ:=gQ),b42,P0,PySem.W.mg_of X G a42⟩
 have j9:Callee l.prog w K mg base "_law_half" 1 ["_law_half_here"] (wN K):=⟨OV,_,wU F43 B,b43,P1,PySem.W.mg_of X G a43⟩
 have iH:Callee l.prog w K mg base "_law_line" 1 ["_law_parts","_law_sign_here"] (wQ K):=⟨OW,_,wW F44 B,b44,P4,PySem.W.mg_of X G a44⟩
 have gP:Callee l.prog w K mg base "_law_row_text" 1 ["_law_row"] (AL K):=⟨OX,_,qx F45 B,b45,P5,PySem.W.mg_of X G a45⟩
 have gC:Callee l.prog w K mg base "_law_note_text" 2 ["_law_note_here"] (tU K):=⟨OY,_,pG F46 B (j9:=j9),b46,P6,PySem.W.mg_of X G a46⟩
 have gD:Callee l.prog w K mg base "_law_room_text" 3 ["_law_room_here","_law_places"] (wX K):=⟨OZ,_,pH F47 B (iH:=iH) (gC:=gC) (gP:=gP),b47,P7,PySem.W.mg_of X G a47⟩
 have bx:Callee l.prog w K mg base "_law_whole" 1 ["_law_word"] (zw K):=⟨O0,_,uE F48 B,b48,P8,PySem.W.mg_of X G a48⟩
 have bu:Callee l.prog w K mg base "_law_count" 2 ["_law_word"] (vB K):=⟨O1,_,uF F49 B (bx:=bx),b49,P9,PySem.W.mg_of X G a49⟩
 have gg:Callee l.prog w K mg base "_law_half_in" 2 ["_law_word","_law_signs"] (Fd K):=⟨O2,_,rE F50 B (bx:=bx),b50,Qa,PySem.W.mg_of X G a50⟩
 have i7:Callee l.prog w K mg base "_law_note_in" 3 ["_law_word"] (Fe K):=⟨O3,_,rF F51 B (gg:=gg) (bu:=bu),b51,Qc,PySem.W.mg_of X G a51⟩
 have jo:Callee l.prog w K mg base "_law_row_in" 3 ["_law_word"] (Ff K):=⟨O4,_,ud F52 B (bu:=bu) (bx:=bx),b52,Qd,PySem.W.mg_of X G a52⟩
 have i8:Callee l.prog w K mg base "_law_leaf_in" 4 ["_law_number_here","_law_rows"] (Fi K):=⟨O5,_,rG F53 B (bu:=bu) (jo:=jo),b53,Qe,PySem.W.mg_of X G a53⟩
 have gU:Callee l.prog w K mg base "_law_inner_in" 4 ["_law_words"] (B6 K):=⟨O6,_,qC F54 B (bu:=bu) (bx:=bx) (i7:=i7),b54,Qf,PySem.W.mg_of X G a54⟩
 have kF:Callee l.prog w K mg base "_law_read" 5 ["_law_text"] (Fj K):=⟨O7,_,yb F55 B (i8:=i8) (gU:=gU),b55,Qg,PySem.W.mg_of X G a55⟩
 have jn:Callee l.prog w K mg base "_law_starts" 1 ["_law_text"] (tV K):=⟨O8,_,tW F56 B,b56,Qh,PySem.W.mg_of X G a56⟩
 have ki:Callee l.prog w K mg base "_law_sign" 2 ["_law_state"] (AO K):=⟨O9,_,w9 F57 B (ai:=ai),b57,Qi,PySem.W.mg_of X G a57⟩
 have dX:Callee l.prog w K mg base "_law_parts_turned" 2 ["_law_state","_law_text","_law_way"] (AQ K):=⟨Pa,_,mZ F58 B (ai:=ai),b58,Qj,PySem.W.mg_of X G a58⟩
 have iR:Callee l.prog w K mg base "_law_figures" 2 ["_law_state","_law_text"] (qy K):=⟨Pb,_,qZ F59 B (jn:=jn) (ai:=ai),b59,Qk,PySem.W.mg_of X G a59⟩
 have gO:Callee l.prog w K mg base "_law_spoilt" 3 ["_law_state","_law_text"] (qy K):=⟨Pc,_,tX F60 B (ai:=ai) (ki:=ki) (iR:=iR) (dX:=dX),b60,Ql,PySem.W.mg_of X G a60⟩
 have kH:=jw.quiet (roomQ (K:=K) (cN:=cN))
 have jK:Callee l.prog w K mg base "_law_reads" 10 ["_law_state","_law_most"] (yd K):=⟨Pd,_,uP F61 B (ku:=ku) (gO:=gO) (kF:=kF) (dU:=dU) (ai:=ai) (gD:=gD) (jw:=jw)   (kH:=kH),b61,Qm,PySem.W.mg_of X G a61⟩
 exact Ky F62 B (jK:=jK) (i9:=i9)
theorem walk {l:PySem.W.OpenLaw} {q:Program} {loose:List Str} {XP:(Str->Option Value)->Heap->Prop} {YP:World->Heap->Prop} {d:DefRec} {K:Params->PySem.W.Frag} (hn:l.most=some 63) (HW:d.params.defaults=[])
   (hY:∀ (w:World) (h:Heap),YP w h->(K w.params).In h)
   (F:∀ (w:World) (mg:Str->Option Value) (fa:Addr) (h:Heap),(K w.params).In h->h.Ns mainGlobals mg->mg d.name=some (.ref fa)->
     ∃ fd:FuncData,(∀ (s:Shared) (u:Value),BindsTo s fd ⟨[u],[]⟩ [("_law_script",u)])/\∀ base:Heap,(K w.params).In base->base.Ns mainGlobals mg->bB l.prog w (K w.params) mg base fC 11 fa fd ["_law_script"] (B8 (K w.params))):
   PySem.W.WalkO q loose XP YP l.row.toRowW d [] (fun f vs=>PySem.call f vs):=
 L2.GL (n:=63) (k:=11) (x:="_law_script") (CX:=fun _=>fC) (sp:=fun w=>B8 (K w.params)) hn (by decide) HW ⟨rfl,by decide,by decide,rfl⟩ hY F (fun _ _ a ns hl ho hS=>⟨a,ns,rfl,hS,hl,ho,fun _=>rfl⟩) fun _ _ _ _ _ z=>z
abbrev kh (P:Params) (x:Str):Int:=PyData.keyHash P x
abbrev oC (a:Str) (b:Tok) (c:Str) (d:Tok) (e:Str) (f:Tok) (g h i j k:Int) (l:Addr) (m:Bool) (n:Int) (o:Addr) (p q r s:Value) (u v:Int) (x:Str) (y:Tok):Obj:=⟨.type "code",none,.fields #[.str a b,.str c d,.str e f,.int g 0,.int h 0,.int i 0,.int j 0,.int k 0,.ref l,.bool m,.int n 0,.ref o,p,q,r,s,.int u 0,.int v 0,.str x y],#[]⟩
abbrev oT (x:Array Value):Obj:=⟨.type "tuple",none,.seq x 0,#[]⟩
abbrev oF (a b:Str) (s:Stmt) (n:Nat) (d k m c:Value):Obj:=⟨.type "function",none,.func ⟨a,b,aB s,.stmts (ak s),af s,n,[],d,k,.none,m,none,c,.none,0⟩,#[]⟩
abbrev oG (a b:Str) (s:Stmt):Obj:=⟨.none,none,.func ⟨a,b,aB s,.stmts (ak s),af s,0,[],.none,.none,.none,.none,none,.none,.none,0⟩,#[]⟩
abbrev oN:Obj:=⟨.none,none,.fields #[],#[]⟩
noncomputable def hK (P:Params):PySem.W.Frag:=(nat_lit 2,⟨.none,none,(.dict (List.toArray ( [])) 0),#[]⟩)::(nat_lit 3,⟨(.type "dict"),none,(.dict (List.toArray (⟨kh P "__name__",(.str "__name__" 165),(.str "law_notefall_k72_rooms_read" 506)⟩::⟨kh P "__doc__",(.str "__doc__" 166),.none⟩::⟨kh P "__package__",(.str "__package__" 167),.none⟩::⟨kh P "__loader__",(.str "__loader__" 168),(.builtin "__main__.__loader__#opaque")⟩::⟨kh P "__spec__",(.str "__spec__" 169),.none⟩::⟨kh P "__annotations__",(.str "__annotations__" 170),(.ref 6)⟩::⟨kh P "__builtins__",(.str "__builtins__" 171),(.ref 4)⟩::⟨kh P "__file__",(.str "__file__" 173),(.str "/claim/cut.py" 172)⟩::⟨kh P "__cached__",(.str "__cached__" 174),.none⟩::⟨kh P "FallError",(.str "FallError" 206),(.ref 24)⟩::⟨kh P "NoDeed",(.str "NoDeed" 222),(.ref 37)⟩::⟨kh P "NoPage",(.str "NoPage" 238),(.ref 49)⟩::⟨kh P "END",(.str "END" 244),(.int 1000000000000 243)⟩::⟨kh P "is_number",(.str "is_number" 251),(.ref 58)⟩::⟨kh P "is_whole",(.str "is_whole" 260),(.ref 65)⟩::⟨kh P "is_whole_from",(.str "is_whole_from" 268),(.ref 72)⟩::⟨kh P "is_key",(.str "is_key" 275),(.ref 79)⟩::⟨kh P "is_stretch",(.str "is_stretch" 283),(.ref 86)⟩::⟨kh P "GONE",(.str "GONE" 287),(.ref 87)⟩::⟨kh P "is_half",(.str "is_half" 295),(.ref 94)⟩::⟨kh P "is_action",(.str "is_action" 304),(.ref 101)⟩::⟨kh P "MOST_FIGURES",(.str "MOST_FIGURES" 308),(.int 60 307)⟩::⟨kh P "are_figures",(.str "are_figures" 315),(.ref 108)⟩::⟨kh P "read_figures",(.str "read_figures" 323),(.ref 115)⟩::⟨kh P "is_note",(.str "is_note" 336),(.ref 122)⟩::⟨kh P "is_rising",(.str "is_rising" 344),(.ref 127)⟩::⟨kh P "are_wholes",(.str "are_wholes" 350),(.ref 132)⟩::⟨kh P "is_version",(.str "is_version" 359),(.ref 139)⟩::⟨kh P "are_versions",(.str "are_versions" 365),(.ref 144)⟩::⟨kh P "is_row",(.str "is_row" 372),(.ref 151)⟩::⟨kh P "are_rows",(.str "are_rows" 378),(.ref 156)⟩::⟨kh P "are_notes",(.str "are_notes" 384),(.ref 161)⟩::⟨kh P "has_word",(.str "has_word" 393),(.ref 168)⟩::⟨kh P "is_leaf_told",(.str "is_leaf_told" 400),(.ref 175)⟩::⟨kh P "is_inner_told",(.str "is_inner_told" 412),(.ref 182)⟩::⟨kh P "read_list",(.str "read_list" 420),(.ref 187)⟩::⟨kh P "read_numbers",(.str "read_numbers" 427),(.ref 194)⟩::⟨kh P "read_version",(.str "read_version" 437),(.ref 201)⟩::⟨kh P "read_row",(.str "read_row" 448),(.ref 208)⟩::⟨kh P "read_half",(.str "read_half" 456),(.ref 215)⟩::⟨kh P "read_note",(.str "read_note" 462),(.ref 220)⟩::⟨kh P "read_spot",(.str "read_spot" 473),(.ref 227)⟩::⟨kh P "read_leaf",(.str "read_leaf" 484),(.ref 234)⟩::⟨kh P "read_inner",(.str "read_inner" 490),(.ref 239)⟩::⟨kh P "is_inner_writable",(.str "is_inner_writable" 496),(.ref 244)⟩::⟨kh P "read_room",(.str "read_room" 505),(.ref 251)⟩::⟨kh P "_law_cell_at",(.str "_law_cell_at" 515),(.ref 258)⟩::⟨kh P "_law_digit",(.str "_law_digit" 526),(.ref 265)⟩::⟨kh P "_law_alike",(.str "_law_alike" 532),(.ref 270)⟩::⟨kh P "_law_number",(.str "_law_number" 541),(.ref 277)⟩::⟨kh P "_law_first",(.str "_law_first" 548),(.ref 284)⟩::⟨kh P "_law_rising",(.str "_law_rising" 560),(.ref 291)⟩::⟨kh P "_law_keys",(.str "_law_keys" 566),(.ref 296)⟩::⟨kh P "_law_versions",(.str "_law_versions" 577),(.ref 303)⟩::⟨kh P "_law_some",(.str "_law_some" 585),(.ref 310)⟩::⟨kh P "_law_note",(.str "_law_note" 598),(.ref 317)⟩::⟨kh P "_law_room",(.str "_law_room" 604),(.ref 322)⟩::⟨kh P "_law_half",(.str "_law_half" 611),(.ref 329)⟩::⟨kh P "_law_line",(.str "_law_line" 619),(.ref 336)⟩::⟨kh P "_law_row_text",(.str "_law_row_text" 629),(.ref 343)⟩::⟨kh P "_law_note_text",(.str "_law_note_text" 635),(.ref 348)⟩::⟨kh P "_law_room_text",(.str "_law_room_text" 641),(.ref 353)⟩::⟨kh P "_law_whole",(.str "_law_whole" 647),(.ref 358)⟩::⟨kh P "_law_count",(.str "_law_count" 655),(.ref 365)⟩::⟨kh P "_law_half_in",(.str "_law_half_in" 663),(.ref 372)⟩::⟨kh P "_law_note_in",(.str "_law_note_in" 669),(.ref 377)⟩::⟨kh P "_law_row_in",(.str "_law_row_in" 683),(.ref 384)⟩::⟨kh P "_law_leaf_in",(.str "_law_leaf_in" 694),(.ref 391)⟩::⟨kh P "_law_inner_in",(.str "_law_inner_in" 700),(.ref 396)⟩::⟨kh P "_law_read",(.str "_law_read" 708),(.ref 403)⟩::⟨kh P "_law_starts",(.str "_law_starts" 720),(.ref 410)⟩::⟨kh P "_law_sign",(.str "_law_sign" 728),(.ref 417)⟩::⟨kh P "_law_parts_turned",(.str "_law_parts_turned" 741),(.ref 424)⟩::⟨kh P "_law_figures",(.str "_law_figures" 753),(.ref 431)⟩::⟨kh P "_law_spoilt",(.str "_law_spoilt" 765),(.ref 438)⟩::⟨kh P "_law_reads",(.str "_law_reads" 781),(.ref 445)⟩::⟨kh P "law",(.str "law" 789),(.ref 452)⟩::[])) 77),#[]⟩)::(nat_lit 15,oT #[(.type "ValueError")])::(nat_lit 22,oT #[])::(nat_lit 23,⟨(.type "dict"),none,(.dict (List.toArray (⟨kh P "__module__",(.str "__module__" 196),(.str "notefall.errors" 187)⟩::⟨kh P "__firstlineno__",(.str "__firstlineno__" 200),(.int 2 199)⟩::⟨kh P "__static_attributes__",(.str "__static_attributes__" 201),(.ref 22)⟩::⟨kh P "__weakref__",(.str "__weakref__" 203),(.ref 25)⟩::⟨kh P "__doc__",(.str "__doc__" 204),.none⟩::[])) 3),#[]⟩)::(nat_lit 24,⟨(.type "type"),none,(.cls ⟨"FallError",[(.type "ValueError")],[(.ref 24),(.type "ValueError"),(.type "Exception"),(.type "BaseException"),(.type "object")],23,"FallError",true,[],[(.ref 37),(.ref 49)],false,none,false⟩),#[(some (.ref 15)),none,(some (.str "FallError" 189)),(some (.str "FallError" 197)),(some (.builtin "ValueError.__new__")),(some (.bool true))]⟩)::(nat_lit 25,⟨(.type "getset_descriptor"),none,(.fields #[(.str "__weakref__" 202),(.ref 24),(.builtin "ExceptionGroup.__weakref__"),.none]),#[]⟩)::(nat_lit 28,oT #[(.ref 24)])::(nat_lit 35,oT #[])::(nat_lit 36,⟨(.type "dict"),none,(.dict (List.toArray (⟨kh P "__module__",(.str "__module__" 214),(.str "notefall.errors" 187)⟩::⟨kh P "__firstlineno__",(.str "__firstlineno__" 218),(.int 4 217)⟩::⟨kh P "__static_attributes__",(.str "__static_attributes__" 219),(.ref 35)⟩::⟨kh P "__doc__",(.str "__doc__" 220),.none⟩::[])) 2),#[]⟩)::(nat_lit 37,⟨(.type "type"),none,(.cls ⟨"NoDeed",[(.ref 24)],[(.ref 37),(.ref 24),(.type "ValueError"),(.type "Exception"),(.type "BaseException"),(.type "object")],36,"NoDeed",true,[],[],false,none,false⟩),#[(some (.ref 28)),none,(some (.str "NoDeed" 207)),(some (.str "NoDeed" 215)),(some (.builtin "ValueError.__new__")),(some (.bool true))]⟩)::(nat_lit 40,oT #[(.ref 24)])::(nat_lit 47,oT #[])::(nat_lit 48,⟨(.type "dict"),none,(.dict (List.toArray (⟨kh P "__module__",(.str "__module__" 230),(.str "notefall.errors" 187)⟩::⟨kh P "__firstlineno__",(.str "__firstlineno__" 234),(.int 6 233)⟩::⟨kh P "__static_attributes__",(.str "__static_attributes__" 235),(.ref 47)⟩::⟨kh P "__doc__",(.str "__doc__" 236),.none⟩::[])) 2),#[]⟩)::(nat_lit 49,⟨(.type "type"),none,(.cls ⟨"NoPage",[(.ref 24)],[(.ref 49),(.ref 24),(.type "ValueError"),(.type "Exception"),(.type "BaseException"),(.type "object")],48,"NoPage",true,[],[],false,none,false⟩),#[(some (.ref 40)),none,(some (.str "NoPage" 223)),(some (.str "NoPage" 231)),(some (.builtin "ValueError.__new__")),(some (.bool true))]⟩)::(nat_lit 52,oT #[])::(nat_lit 54,oT #[(.str "thing" 248)])::(nat_lit 55,oT #[])::(nat_lit 57,oC "is_number" 245 "is_number" 246 "/claim/cut.py" 247 10 1 0 0 3 52 true 181 53 .none (.ref 54) (.ref 55) (.ref 56) 249 10 "/claim/cut.py" 250)::(nat_lit 58,oF "is_number" "is_number" (top 6) 3 .none .none (.str "notefall.wholes" 239) (.ref 57))::(nat_lit 59,oT #[])::(nat_lit 61,oT #[(.str "thing" 255),(.str "low" 256),(.str "high" 257)])::(nat_lit 62,oT #[])::(nat_lit 64,oC "is_whole" 252 "is_whole" 253 "/claim/cut.py" 254 12 3 0 0 3 59 true 181 60 .none (.ref 61) (.ref 62) (.ref 63) 258 12 "/claim/cut.py" 259)::(nat_lit 65,oF "is_whole" "is_whole" (top 7) 3 .none .none (.str "notefall.wholes" 239) (.ref 64))::(nat_lit 66,oT #[])::(nat_lit 68,oT #[(.str "thing" 264),(.str "low" 265)])::(nat_lit 69,oT #[])::(nat_lit 71,oC "is_whole_from" 261 "is_whole_from" 262 "/claim/cut.py" 263 14 2 0 0 3 66 true 181 67 .none (.ref 68) (.ref 69) (.ref 70) 266 14 "/claim/cut.py" 267)::(nat_lit 72,oF "is_whole_from" "is_whole_from" (top 8) 3 .none .none (.str "notefall.wholes" 239) (.ref 71))::(nat_lit 73,oT #[])::(nat_lit 75,oT #[(.str "thing" 272)])::(nat_lit 76,oT #[])::(nat_lit 78,oC "is_key" 269 "is_key" 270 "/claim/cut.py" 271 16 1 0 0 3 73 true 181 74 .none (.ref 75) (.ref 76) (.ref 77) 273 16 "/claim/cut.py" 274)::(nat_lit 79,oF "is_key" "is_key" (top 9) 3 .none .none (.str "notefall.wholes" 239) (.ref 78))::(nat_lit 80,oT #[])::(nat_lit 82,oT #[(.str "low" 279),(.str "high" 280)])::(nat_lit 83,oT #[])::(nat_lit 85,oC "is_stretch" 276 "is_stretch" 277 "/claim/cut.py" 278 18 2 0 0 3 80 true 181 81 .none (.ref 82) (.ref 83) (.ref 84) 281 18 "/claim/cut.py" 282)::(nat_lit 86,oF "is_stretch" "is_stretch" (top 10) 3 .none .none (.str "notefall.wholes" 239) (.ref 85))::(nat_lit 87,oT #[(.str "gone" 286)])::(nat_lit 88,oT #[])::(nat_lit 90,oT #[(.str "thing" 291),(.str "words" 292)])::(nat_lit 91,oT #[])::(nat_lit 93,oC "is_half" 288 "is_half" 289 "/claim/cut.py" 290 22 2 0 0 3 88 true 181 89 .none (.ref 90) (.ref 91) (.ref 92) 293 22 "/claim/cut.py" 294)::(nat_lit 94,oF "is_half" "is_half" (top 13) 3 .none .none (.str "notefall.actions" 284) (.ref 93))::(nat_lit 95,oT #[])::(nat_lit 97,oT #[(.str "thing" 299),(.str "there" 300),(.str "none" 301)])::(nat_lit 98,oT #[])::(nat_lit 100,oC "is_action" 296 "is_action" 297 "/claim/cut.py" 298 28 1 0 0 3 95 true 181 96 .none (.ref 97) (.ref 98) (.ref 99) 302 28 "/claim/cut.py" 303)::(nat_lit 101,oF "is_action" "is_action" (top 14) 3 .none .none (.str "notefall.actions" 284) (.ref 100))::(nat_lit 102,oT #[])::(nat_lit 104,oT #[(.str "text" 312)])::(nat_lit 105,oT #[])::(nat_lit 107,oC "are_figures" 309 "are_figures" 310 "/claim/cut.py" 311 35 1 0 0 3 102 true 181 103 .none (.ref 104) (.ref 105) (.ref 106) 313 35 "/claim/cut.py" 314)::(nat_lit 108,oF "are_figures" "are_figures" (top 17) 3 .none .none (.str "notefall.figures" 305) (.ref 107))::(nat_lit 109,oT #[])::(nat_lit 111,oT #[(.str "text" 319),(.str "bare" 320)])::(nat_lit 112,oT #[])::(nat_lit 114,oC "read_figures" 316 "read_figures" 317 "/claim/cut.py" 318 37 1 0 0 3 109 true 181 110 .none (.ref 111) (.ref 112) (.ref 113) 321 37 "/claim/cut.py" 322)::(nat_lit 115,oF "read_figures" "read_figures" (top 18) 3 .none .none (.str "notefall.figures" 305) (.ref 114))::(nat_lit 116,oT #[])::(nat_lit 118,oT #[(.str "thing" 329),(.str "number" 330),(.str "low" 331),(.str "high" 332),(.str "action" 333)])::(nat_lit 119,oT #[])::(nat_lit 121,oC "is_note" 326 "is_note" 327 "/claim/cut.py" 328 47 1 0 0 3 116 true 181 117 .none (.ref 118) (.ref 119) (.ref 120) 334 47 "/claim/cut.py" 335)::(nat_lit 122,oF "is_note" "is_note" (top 20) 3 .none .none (.str "notefall.notes" 324) (.ref 121))::(nat_lit 123,oT #[])::(nat_lit 126,oC "is_rising" 339 "is_rising" 340 "/claim/cut.py" 341 55 1 0 0 3 123 true 181 124 .none .none .none (.ref 125) 342 55 "/claim/cut.py" 343)::(nat_lit 127,oF "is_rising" "is_rising" (top 22) 3 .none .none (.str "notefall.shapes" 337) (.ref 126))::(nat_lit 128,oT #[])::(nat_lit 131,oC "are_wholes" 345 "are_wholes" 346 "/claim/cut.py" 347 57 1 0 0 3 128 true 181 129 .none .none .none (.ref 130) 348 57 "/claim/cut.py" 349)::(nat_lit 132,oF "are_wholes" "are_wholes" (top 23) 3 .none .none (.str "notefall.shapes" 337) (.ref 131))::(nat_lit 133,oT #[])::(nat_lit 135,oT #[(.str "thing" 354),(.str "number" 355),(.str "value" 356)])::(nat_lit 136,oT #[])::(nat_lit 138,oC "is_version" 351 "is_version" 352 "/claim/cut.py" 353 59 1 0 0 3 133 true 181 134 .none (.ref 135) (.ref 136) (.ref 137) 357 59 "/claim/cut.py" 358)::(nat_lit 139,oF "is_version" "is_version" (top 24) 3 .none .none (.str "notefall.shapes" 337) (.ref 138))::(nat_lit 140,oT #[])::(nat_lit 143,oC "are_versions" 360 "are_versions" 361 "/claim/cut.py" 362 64 1 0 0 3 140 true 181 141 .none .none .none (.ref 142) 363 64 "/claim/cut.py" 364)::(nat_lit 144,oF "are_versions" "are_versions" (top 25) 3 .none .none (.str "notefall.shapes" 337) (.ref 143))::(nat_lit 145,oT #[])::(nat_lit 147,oT #[(.str "thing" 369)])::(nat_lit 148,oT #[])::(nat_lit 150,oC "is_row" 366 "is_row" 367 "/claim/cut.py" 368 68 1 0 0 3 145 true 181 146 .none (.ref 147) (.ref 148) (.ref 149) 370 68 "/claim/cut.py" 371)::(nat_lit 151,oF "is_row" "is_row" (top 26) 3 .none .none (.str "notefall.shapes" 337) (.ref 150))::(nat_lit 152,oT #[])::(nat_lit 155,oC "are_rows" 373 "are_rows" 374 "/claim/cut.py" 375 70 1 0 0 3 152 true 181 153 .none .none .none (.ref 154) 376 70 "/claim/cut.py" 377)::(nat_lit 156,oF "are_rows" "are_rows" (top 27) 3 .none .none (.str "notefall.shapes" 337) (.ref 155))::(nat_lit 157,oT #[])::(nat_lit 160,oC "are_notes" 379 "are_notes" 380 "/claim/cut.py" 381 74 1 0 0 3 157 true 181 158 .none .none .none (.ref 159) 382 74 "/claim/cut.py" 383)::(nat_lit 161,oF "are_notes" "are_notes" (top 28) 3 .none .none (.str "notefall.shapes" 337) (.ref 160))::(nat_lit 162,oT #[])::(nat_lit 164,oT #[(.str "thing" 388),(.str "word" 389),(.str "many" 390)])::(nat_lit 165,oT #[])::(nat_lit 167,oC "has_word" 385 "has_word" 386 "/claim/cut.py" 387 76 3 0 0 3 162 true 181 163 .none (.ref 164) (.ref 165) (.ref 166) 391 76 "/claim/cut.py" 392)::(nat_lit 168,oF "has_word" "has_word" (top 29) 3 .none .none (.str "notefall.shapes" 337) (.ref 167))::(nat_lit 169,oT #[])::(nat_lit 171,oT #[(.str "thing" 397)])::(nat_lit 172,oT #[])::(nat_lit 174,oC "is_leaf_told" 394 "is_leaf_told" 395 "/claim/cut.py" 396 80 1 0 0 3 169 true 181 170 .none (.ref 171) (.ref 172) (.ref 173) 398 80 "/claim/cut.py" 399)::(nat_lit 175,oF "is_leaf_told" "is_leaf_told" (top 30) 3 .none .none (.str "notefall.shapes" 337) (.ref 174))::(nat_lit 176,oT #[])::(nat_lit 178,oT #[(.str "thing" 404),(.str "word" 405),(.str "number" 406),(.str "pivots" 407),(.str "children" 408),(.str "tray" 409)])::(nat_lit 179,oT #[])::(nat_lit 181,oC "is_inner_told" 401 "is_inner_told" 402 "/claim/cut.py" 403 82 1 0 0 3 176 true 181 177 .none (.ref 178) (.ref 179) (.ref 180) 410 82 "/claim/cut.py" 411)::(nat_lit 182,oF "is_inner_told" "is_inner_told" (top 31) 3 .none .none (.str "notefall.shapes" 337) (.ref 181))::(nat_lit 183,oT #[])::(nat_lit 186,oC "read_list" 415 "read_list" 416 "/claim/cut.py" 417 88 3 0 0 3 183 true 181 184 .none .none .none (.ref 185) 418 88 "/claim/cut.py" 419)::(nat_lit 187,oF "read_list" "read_list" (top 33) 3 .none .none (.str "notefall.pages" 413) (.ref 186))::(nat_lit 188,oT #[])::(nat_lit 190,oT #[(.str "text" 424)])::(nat_lit 191,oT #[])::(nat_lit 193,oC "read_numbers" 421 "read_numbers" 422 "/claim/cut.py" 423 93 1 0 0 3 188 true 181 189 .none (.ref 190) (.ref 191) (.ref 192) 425 93 "/claim/cut.py" 426)::(nat_lit 194,oF "read_numbers" "read_numbers" (top 34) 3 .none .none (.str "notefall.pages" 413) (.ref 193))::(nat_lit 195,oT #[])::(nat_lit 197,oT #[(.str "text" 431),(.str "number" 432),(.str "colon" 433),(.str "value" 434)])::(nat_lit 198,oT #[])::(nat_lit 200,oC "read_version" 428 "read_version" 429 "/claim/cut.py" 430 95 1 0 0 3 195 true 181 196 .none (.ref 197) (.ref 198) (.ref 199) 435 95 "/claim/cut.py" 436)::(nat_lit 201,oF "read_version" "read_version" (top 35) 3 .none .none (.str "notefall.pages" 413) (.ref 200))::(nat_lit 202,oT #[])::(nat_lit 204,oT #[(.str "text" 441),(.str "key" 442),(.str "sign" 443),(.str "versions" 444),(.str "told" 445)])::(nat_lit 205,oT #[])::(nat_lit 207,oC "read_row" 438 "read_row" 439 "/claim/cut.py" 440 100 1 0 0 3 202 true 181 203 .none (.ref 204) (.ref 205) (.ref 206) 446 100 "/claim/cut.py" 447)::(nat_lit 208,oF "read_row" "read_row" (top 36) 3 .none .none (.str "notefall.pages" 413) (.ref 207))::(nat_lit 209,oT #[])::(nat_lit 211,oT #[(.str "text" 452),(.str "number" 453)])::(nat_lit 212,oT #[])::(nat_lit 214,oC "read_half" 449 "read_half" 450 "/claim/cut.py" 451 104 1 0 0 3 209 true 181 210 .none (.ref 211) (.ref 212) (.ref 213) 454 104 "/claim/cut.py" 455)::(nat_lit 215,oF "read_half" "read_half" (top 37) 3 .none .none (.str "notefall.pages" 413) (.ref 214))::(nat_lit 216,oT #[])::(nat_lit 219,oC "read_note" 457 "read_note" 458 "/claim/cut.py" 459 111 1 0 0 3 216 true 181 217 .none .none .none (.ref 218) 460 111 "/claim/cut.py" 461)::(nat_lit 220,oF "read_note" "read_note" (top 38) 3 .none .none (.str "notefall.pages" 413) (.ref 219))::(nat_lit 221,oT #[])::(nat_lit 223,oT #[(.str "text" 466),(.str "child" 467),(.str "sign" 468),(.str "place" 469),(.str "told" 470)])::(nat_lit 224,oT #[])::(nat_lit 226,oC "read_spot" 463 "read_spot" 464 "/claim/cut.py" 465 118 1 0 0 3 221 true 181 222 .none (.ref 223) (.ref 224) (.ref 225) 471 118 "/claim/cut.py" 472)::(nat_lit 227,oF "read_spot" "read_spot" (top 39) 3 .none .none (.str "notefall.pages" 413) (.ref 226))::(nat_lit 228,oT #[])::(nat_lit 230,oT #[(.str "pieces" 477),(.str "word" 478),(.str "number" 479),(.str "rows" 480),(.str "leaf" 481)])::(nat_lit 231,oT #[])::(nat_lit 233,oC "read_leaf" 474 "read_leaf" 475 "/claim/cut.py" 476 122 1 0 0 3 228 true 181 229 .none (.ref 230) (.ref 231) (.ref 232) 482 122 "/claim/cut.py" 483)::(nat_lit 234,oF "read_leaf" "read_leaf" (top 40) 3 .none .none (.str "notefall.pages" 413) (.ref 233))::(nat_lit 235,oT #[])::(nat_lit 238,oC "read_inner" 485 "read_inner" 486 "/claim/cut.py" 487 126 1 0 0 3 235 true 181 236 .none .none .none (.ref 237) 488 126 "/claim/cut.py" 489)::(nat_lit 239,oF "read_inner" "read_inner" (top 41) 3 .none .none (.str "notefall.pages" 413) (.ref 238))::(nat_lit 240,oT #[])::(nat_lit 243,oC "is_inner_writable" 491 "is_inner_writable" 492 "/claim/cut.py" 493 135 2 0 0 3 240 true 181 241 .none .none .none (.ref 242) 494 135 "/claim/cut.py" 495)::(nat_lit 244,oF "is_inner_writable" "is_inner_writable" (top 42) 3 .none .none (.str "notefall.pages" 413) (.ref 243))::(nat_lit 245,oT #[])::(nat_lit 247,oT #[(.str "text" 500),(.str "pieces" 501),(.str "told" 502)])::(nat_lit 248,oT #[])::(nat_lit 250,oC "read_room" 497 "read_room" 498 "/claim/cut.py" 499 140 1 0 0 3 245 true 181 246 .none (.ref 247) (.ref 248) (.ref 249) 503 140 "/claim/cut.py" 504)::(nat_lit 251,oF "read_room" "read_room" (top 43) 3 .none .none (.str "notefall.pages" 413) (.ref 250))::(nat_lit 252,oT #[])::(nat_lit 254,oT #[(.str "_law_script" 511),(.str "_law_k" 512)])::(nat_lit 255,oT #[])::(nat_lit 257,oC "_law_cell_at" 508 "_law_cell_at" 509 "/claim/cut.py" 510 153 2 0 0 3 252 true 181 253 .none (.ref 254) (.ref 255) (.ref 256) 513 153 "/claim/cut.py" 514)::(nat_lit 258,oF "_law_cell_at" "_law_cell_at" (top 45) 3 .none .none (.str "law_notefall_k72_rooms_read" 506) (.ref 257))::(nat_lit 259,oT #[])::(nat_lit 261,oT #[(.str "_law_state" 519),(.str "_law_base" 520),(.str "_law_cell" 521),(.str "_law_found" 522),(.str "_law_number_here" 523)])::(nat_lit 262,oT #[])::(nat_lit 264,oC "_law_digit" 516 "_law_digit" 517 "/claim/cut.py" 518 157 2 0 0 3 259 true 181 260 .none (.ref 261) (.ref 262) (.ref 263) 524 157 "/claim/cut.py" 525)::(nat_lit 265,oF "_law_digit" "_law_digit" (top 46) 3 .none .none (.str "law_notefall_k72_rooms_read" 506) (.ref 264))::(nat_lit 266,oT #[])::(nat_lit 269,oC "_law_alike" 527 "_law_alike" 528 "/claim/cut.py" 529 170 2 0 0 3 266 true 181 267 .none .none .none (.ref 268) 530 170 "/claim/cut.py" 531)::(nat_lit 270,oF "_law_alike" "_law_alike" (top 47) 3 .none .none (.str "law_notefall_k72_rooms_read" 506) (.ref 269))::(nat_lit 271,oT #[])::(nat_lit 273,oT #[(.str "_law_state" 536),(.str "_law_way" 537),(.str "_law_found" 538)])::(nat_lit 274,oT #[])::(nat_lit 276,oC "_law_number" 533 "_law_number" 534 "/claim/cut.py" 535 182 1 0 0 3 271 true 181 272 .none (.ref 273) (.ref 274) (.ref 275) 539 182 "/claim/cut.py" 540)::(nat_lit 277,oF "_law_number" "_law_number" (top 48) 3 .none .none (.str "law_notefall_k72_rooms_read" 506) (.ref 276))::(nat_lit 278,oT #[])::(nat_lit 280,oT #[(.str "_law_state" 545)])::(nat_lit 281,oT #[])::(nat_lit 283,oC "_law_first" 542 "_law_first" 543 "/claim/cut.py" 544 190 1 0 0 3 278 true 181 279 .none (.ref 280) (.ref 281) (.ref 282) 546 190 "/claim/cut.py" 547)::(nat_lit 284,oF "_law_first" "_law_first" (top 49) 3 .none .none (.str "law_notefall_k72_rooms_read" 506) (.ref 283))::(nat_lit 285,oT #[])::(nat_lit 287,oT #[(.str "_law_state" 552),(.str "_law_many" 553),(.str "_law_first_here" 554),(.str "_law_step" 555),(.str "_law_found" 556),(.str "_law_k" 557)])::(nat_lit 288,oT #[])::(nat_lit 290,oC "_law_rising" 549 "_law_rising" 550 "/claim/cut.py" 551 192 3 0 0 3 285 true 181 286 .none (.ref 287) (.ref 288) (.ref 289) 558 192 "/claim/cut.py" 559)::(nat_lit 291,oF "_law_rising" "_law_rising" (top 50) 3 .none .none (.str "law_notefall_k72_rooms_read" 506) (.ref 290))::(nat_lit 292,oT #[])::(nat_lit 295,oC "_law_keys" 561 "_law_keys" 562 "/claim/cut.py" 563 199 2 0 0 3 292 true 181 293 .none .none .none (.ref 294) 564 199 "/claim/cut.py" 565)::(nat_lit 296,oF "_law_keys" "_law_keys" (top 51) 3 .none .none (.str "law_notefall_k72_rooms_read" 506) (.ref 295))::(nat_lit 297,oT #[])::(nat_lit 299,oT #[(.str "_law_state" 570),(.str "_law_most" 571),(.str "_law_found" 572),(.str "_law_many" 573),(.str "_law_number_here" 574)])::(nat_lit 300,oT #[])::(nat_lit 302,oC "_law_versions" 567 "_law_versions" 568 "/claim/cut.py" 569 206 2 0 0 3 297 true 181 298 .none (.ref 299) (.ref 300) (.ref 301) 575 206 "/claim/cut.py" 576)::(nat_lit 303,oF "_law_versions" "_law_versions" (top 52) 3 .none .none (.str "law_notefall_k72_rooms_read" 506) (.ref 302))::(nat_lit 304,oT #[])::(nat_lit 306,oT #[(.str "_law_state" 581),(.str "_law_most" 582)])::(nat_lit 307,oT #[])::(nat_lit 309,oC "_law_some" 578 "_law_some" 579 "/claim/cut.py" 580 215 2 0 0 3 304 true 181 305 .none (.ref 306) (.ref 307) (.ref 308) 583 215 "/claim/cut.py" 584)::(nat_lit 310,oF "_law_some" "_law_some" (top 53) 3 .none .none (.str "law_notefall_k72_rooms_read" 506) (.ref 309))::(nat_lit 311,oT #[])::(nat_lit 313,oT #[(.str "_law_state" 589),(.str "_law_low" 590),(.str "_law_way" 591),(.str "_law_high" 592),(.str "_law_word" 593),(.str "_law_there" 594),(.str "_law_none" 595)])::(nat_lit 314,oT #[])::(nat_lit 316,oC "_law_note" 586 "_law_note" 587 "/claim/cut.py" 588 217 1 0 0 3 311 true 181 312 .none (.ref 313) (.ref 314) (.ref 315) 596 217 "/claim/cut.py" 597)::(nat_lit 317,oF "_law_note" "_law_note" (top 54) 3 .none .none (.str "law_notefall_k72_rooms_read" 506) (.ref 316))::(nat_lit 318,oT #[])::(nat_lit 321,oC "_law_room" 599 "_law_room" 600 "/claim/cut.py" 601 231 2 0 0 3 318 true 181 319 .none .none .none (.ref 320) 602 231 "/claim/cut.py" 603)::(nat_lit 322,oF "_law_room" "_law_room" (top 55) 3 .none .none (.str "law_notefall_k72_rooms_read" 506) (.ref 321))::(nat_lit 323,oT #[])::(nat_lit 325,oT #[(.str "_law_half_here" 608)])::(nat_lit 326,oT #[])::(nat_lit 328,oC "_law_half" 605 "_law_half" 606 "/claim/cut.py" 607 245 1 0 0 3 323 true 181 324 .none (.ref 325) (.ref 326) (.ref 327) 609 245 "/claim/cut.py" 610)::(nat_lit 329,oF "_law_half" "_law_half" (top 56) 3 .none .none (.str "law_notefall_k72_rooms_read" 506) (.ref 328))::(nat_lit 330,oT #[])::(nat_lit 332,oT #[(.str "_law_parts" 615),(.str "_law_sign_here" 616)])::(nat_lit 333,oT #[])::(nat_lit 335,oC "_law_line" 612 "_law_line" 613 "/claim/cut.py" 614 249 2 0 0 3 330 true 181 331 .none (.ref 332) (.ref 333) (.ref 334) 617 249 "/claim/cut.py" 618)::(nat_lit 336,oF "_law_line" "_law_line" (top 57) 3 .none .none (.str "law_notefall_k72_rooms_read" 506) (.ref 335))::(nat_lit 337,oT #[])::(nat_lit 339,oT #[(.str "_law_row" 623),(.str "_law_parts" 624),(.str "_law_number_here" 625),(.str "_law_value" 626)])::(nat_lit 340,oT #[])::(nat_lit 342,oC "_law_row_text" 620 "_law_row_text" 621 "/claim/cut.py" 622 253 1 0 0 3 337 true 181 338 .none (.ref 339) (.ref 340) (.ref 341) 627 253 "/claim/cut.py" 628)::(nat_lit 343,oF "_law_row_text" "_law_row_text" (top 58) 3 .none .none (.str "law_notefall_k72_rooms_read" 506) (.ref 342))::(nat_lit 344,oT #[])::(nat_lit 347,oC "_law_note_text" 630 "_law_note_text" 631 "/claim/cut.py" 632 258 1 0 0 3 344 true 181 345 .none .none .none (.ref 346) 633 258 "/claim/cut.py" 634)::(nat_lit 348,oF "_law_note_text" "_law_note_text" (top 59) 3 .none .none (.str "law_notefall_k72_rooms_read" 506) (.ref 347))::(nat_lit 349,oT #[])::(nat_lit 352,oC "_law_room_text" 636 "_law_room_text" 637 "/claim/cut.py" 638 261 2 0 0 3 349 true 181 350 .none .none .none (.ref 351) 639 261 "/claim/cut.py" 640)::(nat_lit 353,oF "_law_room_text" "_law_room_text" (top 60) 3 .none .none (.str "law_notefall_k72_rooms_read" 506) (.ref 352))::(nat_lit 354,oT #[])::(nat_lit 357,oC "_law_whole" 642 "_law_whole" 643 "/claim/cut.py" 644 268 1 0 0 3 354 true 181 355 .none .none .none (.ref 356) 645 268 "/claim/cut.py" 646)::(nat_lit 358,oF "_law_whole" "_law_whole" (top 61) 3 .none .none (.str "law_notefall_k72_rooms_read" 506) (.ref 357))::(nat_lit 359,oT #[])::(nat_lit 361,oT #[(.str "_law_word" 651),(.str "_law_found" 652)])::(nat_lit 362,oT #[])::(nat_lit 364,oC "_law_count" 648 "_law_count" 649 "/claim/cut.py" 650 277 1 0 0 3 359 true 181 360 .none (.ref 361) (.ref 362) (.ref 363) 653 277 "/claim/cut.py" 654)::(nat_lit 365,oF "_law_count" "_law_count" (top 62) 3 .none .none (.str "law_notefall_k72_rooms_read" 506) (.ref 364))::(nat_lit 366,oT #[])::(nat_lit 368,oT #[(.str "_law_word" 659),(.str "_law_signs" 660)])::(nat_lit 369,oT #[])::(nat_lit 371,oC "_law_half_in" 656 "_law_half_in" 657 "/claim/cut.py" 658 282 2 0 0 3 366 true 181 367 .none (.ref 368) (.ref 369) (.ref 370) 661 282 "/claim/cut.py" 662)::(nat_lit 372,oF "_law_half_in" "_law_half_in" (top 63) 3 .none .none (.str "law_notefall_k72_rooms_read" 506) (.ref 371))::(nat_lit 373,oT #[])::(nat_lit 376,oC "_law_note_in" 664 "_law_note_in" 665 "/claim/cut.py" 666 288 1 0 0 3 373 true 181 374 .none .none .none (.ref 375) 667 288 "/claim/cut.py" 668)::(nat_lit 377,oF "_law_note_in" "_law_note_in" (top 64) 3 .none .none (.str "law_notefall_k72_rooms_read" 506) (.ref 376))::(nat_lit 378,oT #[])::(nat_lit 380,oT #[(.str "_law_word" 673),(.str "_law_key" 674),(.str "_law_sign_here" 675),(.str "_law_rest" 676),(.str "_law_found" 677),(.str "_law_piece" 678),(.str "_law_number_here" 679),(.str "_law_value" 680)])::(nat_lit 381,oT #[])::(nat_lit 383,oC "_law_row_in" 670 "_law_row_in" 671 "/claim/cut.py" 672 300 1 0 0 3 378 true 181 379 .none (.ref 380) (.ref 381) (.ref 382) 681 300 "/claim/cut.py" 682)::(nat_lit 384,oF "_law_row_in" "_law_row_in" (top 65) 3 .none .none (.str "law_notefall_k72_rooms_read" 506) (.ref 383))::(nat_lit 385,oT #[])::(nat_lit 387,oT #[(.str "_law_number_here" 687),(.str "_law_rows" 688),(.str "_law_found" 689),(.str "_law_word" 690),(.str "_law_row" 691)])::(nat_lit 388,oT #[])::(nat_lit 390,oC "_law_leaf_in" 684 "_law_leaf_in" 685 "/claim/cut.py" 686 318 2 0 0 3 385 true 181 386 .none (.ref 387) (.ref 388) (.ref 389) 692 318 "/claim/cut.py" 693)::(nat_lit 391,oF "_law_leaf_in" "_law_leaf_in" (top 66) 3 .none .none (.str "law_notefall_k72_rooms_read" 506) (.ref 390))::(nat_lit 392,oT #[])::(nat_lit 395,oC "_law_inner_in" 695 "_law_inner_in" 696 "/claim/cut.py" 697 330 1 0 0 3 392 true 181 393 .none .none .none (.ref 394) 698 330 "/claim/cut.py" 699)::(nat_lit 396,oF "_law_inner_in" "_law_inner_in" (top 67) 3 .none .none (.str "law_notefall_k72_rooms_read" 506) (.ref 395))::(nat_lit 397,oT #[])::(nat_lit 399,oT #[(.str "_law_text" 704),(.str "_law_words" 705)])::(nat_lit 400,oT #[])::(nat_lit 402,oC "_law_read" 701 "_law_read" 702 "/claim/cut.py" 703 351 1 0 0 3 397 true 181 398 .none (.ref 399) (.ref 400) (.ref 401) 706 351 "/claim/cut.py" 707)::(nat_lit 403,oF "_law_read" "_law_read" (top 68) 3 .none .none (.str "law_notefall_k72_rooms_read" 506) (.ref 402))::(nat_lit 404,oT #[])::(nat_lit 406,oT #[(.str "_law_text" 712),(.str "_law_found" 713),(.str "_law_ahead" 714),(.str "_law_k" 715),(.str "_law_sign_here" 716),(.str "_law_here" 717)])::(nat_lit 407,oT #[])::(nat_lit 409,oC "_law_starts" 709 "_law_starts" 710 "/claim/cut.py" 711 358 1 0 0 3 404 true 181 405 .none (.ref 406) (.ref 407) (.ref 408) 718 358 "/claim/cut.py" 719)::(nat_lit 410,oF "_law_starts" "_law_starts" (top 69) 3 .none .none (.str "law_notefall_k72_rooms_read" 506) (.ref 409))::(nat_lit 411,oT #[])::(nat_lit 413,oT #[(.str "_law_state" 724),(.str "_law_signs" 725)])::(nat_lit 414,oT #[])::(nat_lit 416,oC "_law_sign" 721 "_law_sign" 722 "/claim/cut.py" 723 367 1 0 0 3 411 true 181 412 .none (.ref 413) (.ref 414) (.ref 415) 726 367 "/claim/cut.py" 727)::(nat_lit 417,oF "_law_sign" "_law_sign" (top 70) 3 .none .none (.str "law_notefall_k72_rooms_read" 506) (.ref 416))::(nat_lit 418,oT #[])::(nat_lit 420,oT #[(.str "_law_state" 732),(.str "_law_text" 733),(.str "_law_way" 734),(.str "_law_sign_here" 735),(.str "_law_parts" 736),(.str "_law_k" 737),(.str "_law_turned" 738)])::(nat_lit 421,oT #[])::(nat_lit 423,oC "_law_parts_turned" 729 "_law_parts_turned" 730 "/claim/cut.py" 731 373 3 0 0 3 418 true 181 419 .none (.ref 420) (.ref 421) (.ref 422) 739 373 "/claim/cut.py" 740)::(nat_lit 424,oF "_law_parts_turned" "_law_parts_turned" (top 71) 3 .none .none (.str "law_notefall_k72_rooms_read" 506) (.ref 423))::(nat_lit 425,oT #[])::(nat_lit 427,oT #[(.str "_law_state" 745),(.str "_law_text" 746),(.str "_law_starts_here" 747),(.str "_law_many" 748),(.str "_law_sign_here" 749),(.str "_law_at" 750)])::(nat_lit 428,oT #[])::(nat_lit 430,oC "_law_figures" 742 "_law_figures" 743 "/claim/cut.py" 744 383 2 0 0 3 425 true 181 426 .none (.ref 427) (.ref 428) (.ref 429) 751 383 "/claim/cut.py" 752)::(nat_lit 431,oF "_law_figures" "_law_figures" (top 72) 3 .none .none (.str "law_notefall_k72_rooms_read" 506) (.ref 430))::(nat_lit 432,oT #[])::(nat_lit 434,oT #[(.str "_law_state" 757),(.str "_law_text" 758),(.str "_law_way" 759),(.str "_law_at" 760),(.str "_law_sign_here" 761),(.str "_law_turned" 762)])::(nat_lit 435,oT #[])::(nat_lit 437,oC "_law_spoilt" 754 "_law_spoilt" 755 "/claim/cut.py" 756 393 2 0 0 3 432 true 181 433 .none (.ref 434) (.ref 435) (.ref 436) 763 393 "/claim/cut.py" 764)::(nat_lit 438,oF "_law_spoilt" "_law_spoilt" (top 73) 3 .none .none (.str "law_notefall_k72_rooms_read" 506) (.ref 437))::(nat_lit 439,oT #[])::(nat_lit 441,oT #[(.str "_law_state" 769),(.str "_law_most" 770),(.str "_law_twice" 771),(.str "_law_room_here" 772),(.str "_law_places" 773),(.str "_law_text" 774),(.str "_law_due" 775),(.str "_law_refused" 776),(.str "_law_found" 777),(.str "e" 778)])::(nat_lit 442,oT #[])::(nat_lit 444,oC "_law_reads" 766 "_law_reads" 767 "/claim/cut.py" 768 413 2 0 0 3 439 true 181 440 .none (.ref 441) (.ref 442) (.ref 443) 779 413 "/claim/cut.py" 780)::(nat_lit 445,oF "_law_reads" "_law_reads" (top 74) 3 .none .none (.str "law_notefall_k72_rooms_read" 506) (.ref 444))::(nat_lit 446,oT #[])::(nat_lit 448,oT #[(.str "_law_script" 785),(.str "_law_k" 786)])::(nat_lit 449,oT #[])::(nat_lit 451,oC "law" 782 "law" 783 "/claim/cut.py" 784 435 1 0 0 3 446 true 181 447 .none (.ref 448) (.ref 449) (.ref 450) 787 435 "/claim/cut.py" 788)::(nat_lit 452,oF "law" "law" (top 75) 3 .none .none (.str "law_notefall_k72_rooms_read" 506) (.ref 451))::[]
noncomputable def ab4 (P:Params):PySem.W.Frag:=(nat_lit 0,PySem.W.boot_o_0 P)::(nat_lit 1,PySem.W.boot_o_1 P)::(nat_lit 4,PySem.W.boot_o_4 P)::(nat_lit 5,PySem.W.boot_o_5 P)::(nat_lit 6,PySem.W.boot_o_6 P)::(nat_lit 7,PySem.W.boot_o_7 P)::(nat_lit 8,PySem.W.boot_o_8 P)::(nat_lit 9,PySem.W.boot_o_9 P)::(nat_lit 10,PySem.W.boot_o_10 P)::(nat_lit 11,oT #[])::(nat_lit 12,⟨.none,none,(.fields #[(.int 2 0),(.int 0 0),(.ref 20),(.int 4 0),(.int 0 0),(.ref 33),(.int 6 0),(.int 0 0),(.ref 45),(.int 10 0),(.int 0 0),(.ref 57),(.int 12 0),(.int 0 0),(.ref 64),(.int 14 0),(.int 0 0),(.ref 71),(.int 16 0),(.int 0 0),(.ref 78),(.int 18 0),(.int 0 0),(.ref 85),(.int 22 0),(.int 0 0),(.ref 93),(.int 28 0),(.int 0 0),(.ref 100),(.int 35 0),(.int 0 0),(.ref 107),(.int 37 0),(.int 0 0),(.ref 114),(.int 47 0),(.int 0 0),(.ref 121),(.int 55 0),(.int 0 0),(.ref 126),(.int 57 0),(.int 0 0),(.ref 131),(.int 59 0),(.int 0 0),(.ref 138),(.int 64 0),(.int 0 0),(.ref 143),(.int 68 0),(.int 0 0),(.ref 150),(.int 70 0),(.int 0 0),(.ref 155),(.int 74 0),(.int 0 0),(.ref 160),(.int 76 0),(.int 0 0),(.ref 167),(.int 80 0),(.int 0 0),(.ref 174),(.int 82 0),(.int 0 0),(.ref 181),(.int 88 0),(.int 0 0),(.ref 186),(.int 93 0),(.int 0 0),(.ref 193),(.int 95 0),(.int 0 0),(.ref 200),(.int 100 0),(.int 0 0),(.ref 207),(.int 104 0),(.int 0 0),(.ref 214),(.int 111 0),(.int 0 0),(.ref 219),(.int 118 0),(.int 0 0),(.ref 226),(.int 122 0),(.int 0 0),(.ref 233),(.int 126 0),(.int 0 0),(.ref 238),(.int 135 0),(.int 0 0),(.ref 243),(.int 140 0),(.int 0 0),(.ref 250),(.int 153 0),(.int 0 0),(.ref 257),(.int 157 0),(.int 0 0),(.ref 264),(.int 170 0),(.int 0 0),(.ref 269),(.int 182 0),(.int 0 0),(.ref 276),(.int 190 0),(.int 0 0),(.ref 283),(.int 192 0),(.int 0 0),(.ref 290),(.int 199 0),(.int 0 0),(.ref 295),(.int 206 0),(.int 0 0),(.ref 302),(.int 215 0),(.int 0 0),(.ref 309),(.int 217 0),(.int 0 0),(.ref 316),(.int 231 0),(.int 0 0),(.ref 321),(.int 245 0),(.int 0 0),(.ref 328),(.int 249 0),(.int 0 0),(.ref 335),(.int 253 0),(.int 0 0),(.ref 342),(.int 258 0),(.int 0 0),(.ref 347),(.int 261 0),(.int 0 0),(.ref 352),(.int 268 0),(.int 0 0),(.ref 357),(.int 277 0),(.int 0 0),(.ref 364),(.int 282 0),(.int 0 0),(.ref 371),(.int 288 0),(.int 0 0),(.ref 376),(.int 300 0),(.int 0 0),(.ref 383),(.int 318 0),(.int 0 0),(.ref 390),(.int 330 0),(.int 0 0),(.ref 395),(.int 351 0),(.int 0 0),(.ref 402),(.int 358 0),(.int 0 0),(.ref 409),(.int 367 0),(.int 0 0),(.ref 416),(.int 373 0),(.int 0 0),(.ref 423),(.int 383 0),(.int 0 0),(.ref 430),(.int 393 0),(.int 0 0),(.ref 437),(.int 413 0),(.int 0 0),(.ref 444),(.int 435 0),(.int 0 0),(.ref 451)]),#[]⟩)::(nat_lit 13,oC "<module>" 182 "<module>" 183 "/claim/cut.py" 184 1 0 0 0 0 11 false 181 12 .none .none .none .none 185 1 "/claim/cut.py" 186)::(nat_lit 14,⟨(.type "frame"),none,.plain,#[(some (.ref 13)),(some (.ref 3)),(some (.ref 3)),none,(some (.str "__main__" 164)),none,(some (.ref 0))]⟩)::(nat_lit 16,⟨(.type "builtin_function_or_method"),none,(.fields #[(.builtin "type.__prepare__"),(.type "type")]),#[]⟩)::(nat_lit 17,⟨(.type "dict"),none,(.dict (List.toArray (⟨kh P "__module__",(.str "__module__" 196),(.str "notefall.errors" 187)⟩::⟨kh P "__qualname__",(.str "__qualname__" 198),(.str "FallError" 197)⟩::⟨kh P "__firstlineno__",(.str "__firstlineno__" 200),(.int 2 199)⟩::⟨kh P "__static_attributes__",(.str "__static_attributes__" 201),(.ref 22)⟩::[])) 4),#[]⟩)::(nat_lit 18,oT #[])::(nat_lit 19,oN)::(nat_lit 20,oC "FallError" 191 "FallError" 192 "/claim/cut.py" 193 2 0 0 0 0 18 false 181 19 .none .none .none .none 194 2 "/claim/cut.py" 195)::(nat_lit 21,⟨(.type "frame"),none,.plain,#[(some (.ref 20)),(some (.ref 3)),(some (.ref 17)),none,(some (.str "notefall.errors" 187)),none,(some (.ref 0))]⟩)::(nat_lit 26,⟨(.type "super"),none,(.fields #[(.ref 24),(.ref 24),(.ref 24)]),#[]⟩)::(nat_lit 27,⟨(.type "builtin_function_or_method"),none,(.fields #[(.builtin "object.__init_subclass__"),(.ref 24)]),#[]⟩)::(nat_lit 29,⟨(.type "builtin_function_or_method"),none,(.fields #[(.builtin "type.__prepare__"),(.type "type")]),#[]⟩)::(nat_lit 30,⟨(.type "dict"),none,(.dict (List.toArray (⟨kh P "__module__",(.str "__module__" 214),(.str "notefall.errors" 187)⟩::⟨kh P "__qualname__",(.str "__qualname__" 216),(.str "NoDeed" 215)⟩::⟨kh P "__firstlineno__",(.str "__firstlineno__" 218),(.int 4 217)⟩::⟨kh P "__static_attributes__",(.str "__static_attributes__" 219),(.ref 35)⟩::[])) 4),#[]⟩)::(nat_lit 31,oT #[])::(nat_lit 32,oN)::(nat_lit 33,oC "NoDeed" 209 "NoDeed" 210 "/claim/cut.py" 211 4 0 0 0 0 31 false 181 32 .none .none .none .none 212 4 "/claim/cut.py" 213)::(nat_lit 34,⟨(.type "frame"),none,.plain,#[(some (.ref 33)),(some (.ref 3)),(some (.ref 30)),none,(some (.str "notefall.errors" 187)),none,(some (.ref 0))]⟩)::(nat_lit 38,⟨(.type "super"),none,(.fields #[(.ref 37),(.ref 37),(.ref 37)]),#[]⟩)::(nat_lit 39,⟨(.type "builtin_function_or_method"),none,(.fields #[(.builtin "object.__init_subclass__"),(.ref 37)]),#[]⟩)::(nat_lit 41,⟨(.type "builtin_function_or_method"),none,(.fields #[(.builtin "type.__prepare__"),(.type "type")]),#[]⟩)::(nat_lit 42,⟨(.type "dict"),none,(.dict (List.toArray (⟨kh P "__module__",(.str "__module__" 230),(.str "notefall.errors" 187)⟩::⟨kh P "__qualname__",(.str "__qualname__" 232),(.str "NoPage" 231)⟩::⟨kh P "__firstlineno__",(.str "__firstlineno__" 234),(.int 6 233)⟩::⟨kh P "__static_attributes__",(.str "__static_attributes__" 235),(.ref 47)⟩::[])) 4),#[]⟩)::(nat_lit 43,oT #[])::(nat_lit 44,oN)::(nat_lit 45,oC "NoPage" 225 "NoPage" 226 "/claim/cut.py" 227 6 0 0 0 0 43 false 181 44 .none .none .none .none 228 6 "/claim/cut.py" 229)::(nat_lit 46,⟨(.type "frame"),none,.plain,#[(some (.ref 45)),(some (.ref 3)),(some (.ref 42)),none,(some (.str "notefall.errors" 187)),none,(some (.ref 0))]⟩)::(nat_lit 50,⟨(.type "super"),none,(.fields #[(.ref 49),(.ref 49),(.ref 49)]),#[]⟩)::(nat_lit 51,⟨(.type "builtin_function_or_method"),none,(.fields #[(.builtin "object.__init_subclass__"),(.ref 49)]),#[]⟩)::(nat_lit 53,oN)::(nat_lit 56,oG "is_number" "is_number" (top 6))::(nat_lit 60,oN)::(nat_lit 63,oG "is_whole" "is_whole" (top 7))::(nat_lit 67,oN)::(nat_lit 70,oG "is_whole_from" "is_whole_from" (top 8))::(nat_lit 74,oN)::(nat_lit 77,oG "is_key" "is_key" (top 9))::(nat_lit 81,oN)::(nat_lit 84,oG "is_stretch" "is_stretch" (top 10))::(nat_lit 89,oN)::(nat_lit 92,oG "is_half" "is_half" (top 13))::(nat_lit 96,oN)::(nat_lit 99,oG "is_action" "is_action" (top 14))::(nat_lit 103,oN)::(nat_lit 106,oG "are_figures" "are_figures" (top 17))::(nat_lit 110,oN)::(nat_lit 113,oG "read_figures" "read_figures" (top 18))::(nat_lit 117,oN)::(nat_lit 120,oG "is_note" "is_note" (top 20))::(nat_lit 124,oN)::(nat_lit 125,oG "is_rising" "is_rising" (top 22))::(nat_lit 129,oN)::(nat_lit 130,oG "are_wholes" "are_wholes" (top 23))::(nat_lit 134,oN)::(nat_lit 137,oG "is_version" "is_version" (top 24))::(nat_lit 141,oN)::(nat_lit 142,oG "are_versions" "are_versions" (top 25))::(nat_lit 146,oN)::(nat_lit 149,oG "is_row" "is_row" (top 26))::(nat_lit 153,oN)::(nat_lit 154,oG "are_rows" "are_rows" (top 27))::(nat_lit 158,oN)::(nat_lit 159,oG "are_notes" "are_notes" (top 28))::(nat_lit 163,oN)::(nat_lit 166,oG "has_word" "has_word" (top 29))::(nat_lit 170,oN)::(nat_lit 173,oG "is_leaf_told" "is_leaf_told" (top 30))::(nat_lit 177,oN)::(nat_lit 180,oG "is_inner_told" "is_inner_told" (top 31))::(nat_lit 184,oN)::(nat_lit 185,oG "read_list" "read_list" (top 33))::(nat_lit 189,oN)::(nat_lit 192,oG "read_numbers" "read_numbers" (top 34))::(nat_lit 196,oN)::(nat_lit 199,oG "read_version" "read_version" (top 35))::(nat_lit 203,oN)::(nat_lit 206,oG "read_row" "read_row" (top 36))::(nat_lit 210,oN)::(nat_lit 213,oG "read_half" "read_half" (top 37))::(nat_lit 217,oN)::(nat_lit 218,oG "read_note" "read_note" (top 38))::(nat_lit 222,oN)::(nat_lit 225,oG "read_spot" "read_spot" (top 39))::(nat_lit 229,oN)::(nat_lit 232,oG "read_leaf" "read_leaf" (top 40))::(nat_lit 236,oN)::(nat_lit 237,oG "read_inner" "read_inner" (top 41))::(nat_lit 241,oN)::(nat_lit 242,oG "is_inner_writable" "is_inner_writable" (top 42))::(nat_lit 246,oN)::(nat_lit 249,oG "read_room" "read_room" (top 43))::(nat_lit 253,oN)::(nat_lit 256,oG "_law_cell_at" "_law_cell_at" (top 45))::(nat_lit 260,oN)::(nat_lit 263,oG "_law_digit" "_law_digit" (top 46))::(nat_lit 267,oN)::(nat_lit 268,oG "_law_alike" "_law_alike" (top 47))::(nat_lit 272,oN)::(nat_lit 275,oG "_law_number" "_law_number" (top 48))::(nat_lit 279,oN)::(nat_lit 282,oG "_law_first" "_law_first" (top 49))::(nat_lit 286,oN)::(nat_lit 289,oG "_law_rising" "_law_rising" (top 50))::(nat_lit 293,oN)::(nat_lit 294,oG "_law_keys" "_law_keys" (top 51))::(nat_lit 298,oN)::(nat_lit 301,oG "_law_versions" "_law_versions" (top 52))::(nat_lit 305,oN)::(nat_lit 308,oG "_law_some" "_law_some" (top 53))::(nat_lit 312,oN)::(nat_lit 315,oG "_law_note" "_law_note" (top 54))::(nat_lit 319,oN)::(nat_lit 320,oG "_law_room" "_law_room" (top 55))::(nat_lit 324,oN)::(nat_lit 327,oG "_law_half" "_law_half" (top 56))::(nat_lit 331,oN)::(nat_lit 334,oG "_law_line" "_law_line" (top 57))::(nat_lit 338,oN)::(nat_lit 341,oG "_law_row_text" "_law_row_text" (top 58))::(nat_lit 345,oN)::(nat_lit 346,oG "_law_note_text" "_law_note_text" (top 59))::(nat_lit 350,oN)::(nat_lit 351,oG "_law_room_text" "_law_room_text" (top 60))::(nat_lit 355,oN)::(nat_lit 356,oG "_law_whole" "_law_whole" (top 61))::(nat_lit 360,oN)::(nat_lit 363,oG "_law_count" "_law_count" (top 62))::(nat_lit 367,oN)::(nat_lit 370,oG "_law_half_in" "_law_half_in" (top 63))::(nat_lit 374,oN)::(nat_lit 375,oG "_law_note_in" "_law_note_in" (top 64))::(nat_lit 379,oN)::(nat_lit 382,oG "_law_row_in" "_law_row_in" (top 65))::(nat_lit 386,oN)::(nat_lit 389,oG "_law_leaf_in" "_law_leaf_in" (top 66))::(nat_lit 393,oN)::(nat_lit 394,oG "_law_inner_in" "_law_inner_in" (top 67))::(nat_lit 398,oN)::(nat_lit 401,oG "_law_read" "_law_read" (top 68))::(nat_lit 405,oN)::(nat_lit 408,oG "_law_starts" "_law_starts" (top 69))::(nat_lit 412,oN)::(nat_lit 415,oG "_law_sign" "_law_sign" (top 70))::(nat_lit 419,oN)::(nat_lit 422,oG "_law_parts_turned" "_law_parts_turned" (top 71))::(nat_lit 426,oN)::(nat_lit 429,oG "_law_figures" "_law_figures" (top 72))::(nat_lit 433,oN)::(nat_lit 436,oG "_law_spoilt" "_law_spoilt" (top 73))::(nat_lit 440,oN)::(nat_lit 443,oG "_law_reads" "_law_reads" (top 74))::(nat_lit 447,oN)::(nat_lit 450,oG "law" "law" (top 75))::[]
def NJ:List Addr:=nat_lit 2::nat_lit 3::nat_lit 15::nat_lit 22::nat_lit 23::nat_lit 24::nat_lit 25::nat_lit 28::nat_lit 35::nat_lit 36::nat_lit 37::nat_lit 40::nat_lit 47::nat_lit 48::nat_lit 49::nat_lit 52::nat_lit 54::nat_lit 55::nat_lit 57::nat_lit 58::nat_lit 59::nat_lit 61::nat_lit 62::nat_lit 64::nat_lit 65::nat_lit 66::nat_lit 68::nat_lit 69::nat_lit 71::nat_lit 72::nat_lit 73::nat_lit 75::nat_lit 76::nat_lit 78::nat_lit 79::nat_lit 80::nat_lit 82::nat_lit 83::nat_lit 85::nat_lit 86::nat_lit 87::nat_lit 88::nat_lit 90::nat_lit 91::nat_lit 93::nat_lit 94::nat_lit 95::nat_lit 97::nat_lit 98::nat_lit 100::nat_lit 101::nat_lit 102::nat_lit 104::nat_lit 105::nat_lit 107::nat_lit 108::nat_lit 109::nat_lit 111::nat_lit 112::nat_lit 114::nat_lit 115::nat_lit 116::nat_lit 118::nat_lit 119::nat_lit 121::nat_lit 122::nat_lit 123::nat_lit 126::nat_lit 127::nat_lit 128::nat_lit 131::nat_lit 132::nat_lit 133::nat_lit 135::nat_lit 136::nat_lit 138::nat_lit 139::nat_lit 140::nat_lit 143::nat_lit 144::nat_lit 145::nat_lit 147::nat_lit 148::nat_lit 150::nat_lit 151::nat_lit 152::nat_lit 155::nat_lit 156::nat_lit 157::nat_lit 160::nat_lit 161::nat_lit 162::nat_lit 164::nat_lit 165::nat_lit 167::nat_lit 168::nat_lit 169::nat_lit 171::nat_lit 172::nat_lit 174::nat_lit 175::nat_lit 176::nat_lit 178::nat_lit 179::nat_lit 181::nat_lit 182::nat_lit 183::nat_lit 186::nat_lit 187::nat_lit 188::nat_lit 190::nat_lit 191::nat_lit 193::nat_lit 194::nat_lit 195::nat_lit 197::nat_lit 198::nat_lit 200::nat_lit 201::nat_lit 202::nat_lit 204::nat_lit 205::nat_lit 207::nat_lit 208::nat_lit 209::nat_lit 211::nat_lit 212::nat_lit 214::nat_lit 215::nat_lit 216::nat_lit 219::nat_lit 220::nat_lit 221::nat_lit 223::nat_lit 224::nat_lit 226::nat_lit 227::nat_lit 228::nat_lit 230::nat_lit 231::nat_lit 233::nat_lit 234::nat_lit 235::nat_lit 238::nat_lit 239::nat_lit 240::nat_lit 243::nat_lit 244::nat_lit 245::nat_lit 247::nat_lit 248::nat_lit 250::nat_lit 251::nat_lit 252::nat_lit 254::nat_lit 255::nat_lit 257::nat_lit 258::nat_lit 259::nat_lit 261::nat_lit 262::nat_lit 264::nat_lit 265::nat_lit 266::nat_lit 269::nat_lit 270::nat_lit 271::nat_lit 273::nat_lit 274::nat_lit 276::nat_lit 277::nat_lit 278::nat_lit 280::nat_lit 281::nat_lit 283::nat_lit 284::nat_lit 285::nat_lit 287::nat_lit 288::nat_lit 290::nat_lit 291::nat_lit 292::nat_lit 295::nat_lit 296::nat_lit 297::nat_lit 299::nat_lit 300::nat_lit 302::nat_lit 303::nat_lit 304::nat_lit 306::nat_lit 307::nat_lit 309::nat_lit 310::nat_lit 311::nat_lit 313::nat_lit 314::nat_lit 316::nat_lit 317::nat_lit 318::nat_lit 321::nat_lit 322::nat_lit 323::nat_lit 325::nat_lit 326::nat_lit 328::nat_lit 329::nat_lit 330::nat_lit 332::nat_lit 333::nat_lit 335::nat_lit 336::nat_lit 337::nat_lit 339::nat_lit 340::nat_lit 342::nat_lit 343::nat_lit 344::nat_lit 347::nat_lit 348::nat_lit 349::nat_lit 352::nat_lit 353::nat_lit 354::nat_lit 357::nat_lit 358::nat_lit 359::nat_lit 361::nat_lit 362::nat_lit 364::nat_lit 365::nat_lit 366::nat_lit 368::nat_lit 369::nat_lit 371::nat_lit 372::nat_lit 373::nat_lit 376::nat_lit 377::nat_lit 378::nat_lit 380::nat_lit 381::nat_lit 383::nat_lit 384::nat_lit 385::nat_lit 387::nat_lit 388::nat_lit 390::nat_lit 391::nat_lit 392::nat_lit 395::nat_lit 396::nat_lit 397::nat_lit 399::nat_lit 400::nat_lit 402::nat_lit 403::nat_lit 404::nat_lit 406::nat_lit 407::nat_lit 409::nat_lit 410::nat_lit 411::nat_lit 413::nat_lit 414::nat_lit 416::nat_lit 417::nat_lit 418::nat_lit 420::nat_lit 421::nat_lit 423::nat_lit 424::nat_lit 425::nat_lit 427::nat_lit 428::nat_lit 430::nat_lit 431::nat_lit 432::nat_lit 434::nat_lit 435::nat_lit 437::nat_lit 438::nat_lit 439::nat_lit 441::nat_lit 442::nat_lit 444::nat_lit 445::nat_lit 446::nat_lit 448::nat_lit 449::nat_lit 451::nat_lit 452::[]
def hQ:Program:={ PySem.Challenge.pw_notefall_k72_rooms_read with main:={ PySem.Challenge.pw_notefall_k72_rooms_read.main with body:=top 1::top 2::top 3::top 5::top 6::top 7::top 8::top 9::top 10::top 12::top 13::top 14::top 16::top 17::top 18::top 20::top 22::top 23::top 24::top 25::top 26::top 27::top 28::top 29::top 30::top 31::top 33::top 34::top 35::top 36::top 37::top 38::top 39::top 40::top 41::top 42::top 43::top 45::top 46::top 47::top 48::top 49::top 50::top 51::top 52::top 53::top 54::top 55::top 56::top 57::top 58::top 59::top 60::top 61::top 62::top 63::top 64::top 65::top 66::top 67::top 68::top 69::top 70::top 71::top 72::top 73::top 74::top 75::[] } }
def B9:List (Str×PySem.W.WData):=[((Str.ofString "END"),PySem.W.WData.int 1000000000000)]
def zQ:List Str:=[(Str.ofString "END")]
def Qn (s:Shared):List (Option Obj):=NJ.map s.heap.get?
def Qo (K:Params->PySem.W.Frag) (w:World):List (Option Obj):=(K w.params).map fun p=>some p.2
theorem hE (P:Params):NJ=(hK P).map (·.1):=by kernel_rfl
abbrev Dj (q:Program) (lv:List (Str×PySem.W.WData)) (s:Shared):Bool:=PySem.W.xlAt q lv s&&PySem.W.recOk (PySem.W.RowW.records (PySem.W.OpenRow.toRowW PySem.Challenge.rw_notefall_k72_rooms_read.row)) s
noncomputable def hAo (P:Params):List Obj:=
(PySem.W.boot_o_0 P)::
(PySem.W.boot_o_1 P)::
(PySem.W.boot_o_2 P)::
(PySem.W.boot_o_3 P)::
(PySem.W.boot_o_4 P)::
(PySem.W.boot_o_5 P)::
(PySem.W.boot_o_6 P)::
(PySem.W.boot_o_7 P)::
(PySem.W.boot_o_8 P)::
(PySem.W.boot_o_9 P)::
(PySem.W.boot_o_10 P)::
(⟨(.type "tuple"),none,(.seq #[] 0),#[]⟩)::
(⟨.none,none,(.fields #[]),#[]⟩)::
(⟨(.type "code"),none,(.fields #[(.str "<module>" 182),(.str "<module>" 183),(.str "/claim/cut.py" 184),(.int 1 0),(.int 0 0),(.int 0 0),(.int 0 0),(.int 0 0),(.ref 11),(.bool false),(.int 181 0),(.ref 12),.none,.none,.none,.none,(.int 185 0),(.int 1 0),(.str "/claim/cut.py" 186)]),#[]⟩)::
(⟨(.type "frame"),none,.plain,#[(some (.ref 13)),(some (.ref 3)),(some (.ref 3)),none,(some (.str "__main__" 164)),none,(some (.ref 0))]⟩)::[]
def FW:Nat->PySem.W.Frag->PySem.W.Frag->List Obj
 | 0,_,_=>[]
 | n + 1,(a,o)::r,(b,p)::s=>match Nat.blt a b with
   | true=>o::FW n r ((b,p)::s)
   | false=>p::FW n ((a,o)::r) s
 | n + 1,(_,o)::r,[]=>o::FW n r []
 | n + 1,[],(_,p)::s=>p::FW n [] s
 | _ + 1,[],[]=>[]
def KO:List Obj->Nat->PySem.W.BT->PySem.W.BT
 | [],_,t=>t
 | o::r,n,t=>KO r (n + 1) (t.ins n o)
noncomputable def hTr (P:Params):PySem.W.BT:=KO (FW 453 (hK P) (ab4 P)) 0 .nil
noncomputable def Hz:Env:={ scope:=PySem.Challenge.pw_notefall_k72_rooms_read.main.scope,locals:=mainNs,globals:=mainNs,cells:=[],code:=(.ref 13),frame:=some 14 }
noncomputable abbrev KP:Code:=Code.body (PySem.W.behindTheImports PySem.Challenge.pw_notefall_k72_rooms_read) Hz
noncomputable abbrev Qp (P:Params) (os:OsState):PySem.W.SharedT:=⟨KO (hAo P) 0 .nil,15,{},Array.mk [],⟨0,0,0,0⟩,187,os⟩
noncomputable abbrev hSm (P:Params) (os:OsState):PySem.W.SharedT:=⟨hTr P,453,{},Array.mk [],⟨0,0,0,0⟩,790,os⟩
set_option maxRecDepth 100000 in
set_option maxHeartbeats 0 in
theorem ab5 (w:World) (os:OsState):PySem.W.topGo PySem.W.Fast.tw14364793385576792824 PySem.Challenge.pw_notefall_k72_rooms_read w 11 (some (.ref 6)) 12 ⟨PySem.W.boot_heap w.params,Array.mk [],PySem.W.boot_drawn,PySem.W.boot_toks,os⟩ (PySem.W.topStub PySem.Challenge.pw_notefall_k72_rooms_read)=some ((Qp w.params os).abs,⟨denote PySem.W.Fast.tw14364793385576792824 KP,KP,⟨0,0,0,0⟩,[PySem.W.topFrame ⟨0,0,0,0⟩]⟩):=by kernel_rfl
set_option maxRecDepth 100000 in
set_option maxHeartbeats 0 in
theorem ab6 (w:World) (os:OsState):PySem.W.segRun PySem.W.Fast.tw14364793385576792824 PySem.Challenge.pw_notefall_k72_rooms_read w 11 (some (.ref 6)) 1 1 (Qp w.params os).abs (PySem.W.blockOf (PySem.W.behindTheImports PySem.Challenge.pw_notefall_k72_rooms_read) Hz KP ⟨0,0,0,0⟩ [PySem.W.topFrame ⟨0,0,0,0⟩])=some (.next,(Qp w.params os).abs,KP,⟨0,0,0,0⟩):=by kernel_rfl
noncomputable abbrev vJ (P:Params):Heap:=PySem.W.absHeap (hTr P) 453 {}
set_option maxRecDepth 100000 in
set_option maxHeartbeats 0 in
theorem NK (w:World) (os:OsState):PySem.W.Fast.tw10110043849684766642 PySem.W.Fast.tw14364793385576792824 PySem.Challenge.pw_notefall_k72_rooms_read w 11 (some (.ref 6)) 1 2588 (Qp w.params os) ⟨(PySem.W.Fast.tw12563942051412417395 (PySem.W.behindTheImports PySem.Challenge.pw_notefall_k72_rooms_read) Hz).wrap PySem.W.doneF PySem.W.deadEnd id id,KP,⟨0,0,0,0⟩,[PySem.W.topFrame ⟨0,0,0,0⟩]⟩=some (.next,hSm w.params os,KP,⟨435,0,439,15⟩):=by kernel_rfl
set_option maxRecDepth 100000 in
set_option maxHeartbeats 0 in
theorem ab7 (w:World) (os:OsState):PySem.W.topRun PySem.W.Fast.tw14364793385576792824 PySem.Challenge.pw_notefall_k72_rooms_read w 11 (some (.ref 6)) 2 (hSm w.params os).abs (PySem.W.restOf [] Hz KP ⟨435,0,439,15⟩ [PySem.W.topFrame ⟨0,0,0,0⟩])=some ⟨vJ w.params,Array.mk [],⟨0,0,0,0⟩,790,os⟩:=by kernel_rfl
theorem KQ {F F':(String->Option Builtin)->Program->World->Nat->Option Value->Nat->Nat->PySem.W.SharedT->Thread->Option (Flow×PySem.W.SharedT×Code×Pos)} {G G':List Stmt->Env->Sem Flow} {tb:String->Option Builtin} {p:Program} {w:World} {m n:Nat} {ann:Option Value} {S:PySem.W.SharedT} {l:List Stmt} {env:Env} {c:Code} {pos:Pos} {B:List Frame} {r:Option (Flow×PySem.W.SharedT×Code×Pos)}
   (h:F' tb p w m ann 1 n S ⟨(G' l env).wrap PySem.W.doneF PySem.W.deadEnd id id,c,pos,B⟩=r) (eF:F=F') (eG:G=G'):F tb p w m ann 1 n S ⟨(G l env).wrap PySem.W.doneF PySem.W.deadEnd id id,c,pos,B⟩=r:=by
 subst eF eG;exact h
theorem Dk {tb:String->Option Builtin} {p:Program} {w:World} {m n0 n1 n2 n3:Nat} {ann:Option Value} {env:Env} {q:Pos} {b:List Stmt} {S0 Sa R:Shared} {SA SM:PySem.W.SharedT} {NL:Thread} {NO NP NQ:Pos} (ea:SA.abs=Sa)
   (h1:PySem.W.topGo tb p w m ann n0 S0 NL=some (Sa,⟨denote tb (Code.body b env),Code.body b env,NO,[PySem.W.topFrame q]⟩))
   (h2:PySem.W.segRun tb p w m ann 1 n1 Sa (PySem.W.blockOf b env (Code.body b env) NO [PySem.W.topFrame q])=some (.next,Sa,Code.body b env,NP))
   (h3:PySem.W.segRunT tb p w m ann 1 n2 SA (PySem.W.piecesOf b env (Code.body b env) NP [PySem.W.topFrame q])=some (.next,SM,Code.body b env,NQ))
   (h4:PySem.W.topRun tb p w m ann n3 SM.abs (PySem.W.restOf [] env (Code.body b env) NQ [PySem.W.topFrame q])=some R):PySem.W.topRun tb p w m ann (n0 + (n1 + (n2 + n3))) S0 NL=some R:=by
 subst ea
 refine PySem.W.go_top h1 (PySem.W.piece_block h2 ?_)
 have h:=PySem.W.piece_app (rest:=[]) (PySem.W.segRun_of h3) h4
 rw [List.append_nil] at h
 exact h
set_option maxRecDepth 100000 in
set_option maxHeartbeats 0 in
theorem ab8 (w:World) (os:OsState):PySem.W.topRun PySem.W.Fast.tw14364793385576792824 PySem.Challenge.pw_notefall_k72_rooms_read w 11 (some (.ref 6)) (12 + (1 + (2588 + 2))) ⟨PySem.W.boot_heap w.params,Array.mk [],PySem.W.boot_drawn,PySem.W.boot_toks,os⟩ (PySem.W.topStub PySem.Challenge.pw_notefall_k72_rooms_read)=some ⟨vJ w.params,Array.mk [],⟨0,0,0,0⟩,790,os⟩:=
 Dk rfl (ab5 w os) (ab6 w os) (KQ (NK w os) PySem.W.Fast.te10110043849684766642 PySem.W.Fast.te12563942051412417395) (ab7 w os)
noncomputable abbrev hGa (p:Program) (im:List Stmt->List Str) (w:World) (os:OsState):Bool:=PySem.W.staticsOk (im p.main.body) (PySem.W.boot_heap w.params) (vJ w.params)&&PySem.W.namesBound p (vJ w.params)&&PySem.W.gensDone ⟨vJ w.params,Array.mk [],⟨0,0,0,0⟩,790,os⟩&&PySem.W.laidKept (PySem.W.boot_heap w.params) (vJ w.params)
abbrev hG {t:Type} (p q:Program) (lo:List Str) (lv:List (Str×PySem.W.WData)) (K:Params->PySem.W.Frag) (sn:Program->List Str->List Str->(Shared->Bool)->Bool->Shared->t) (gd:Program->List Str->t) (im:List Stmt->List Str) (w:World):Prop:=
 (fun os:OsState=>(hGa p im w os,sn q lo (im p.main.body) (Dj q lv) true ⟨vJ w.params,Array.mk [],⟨0,0,0,0⟩,790,os⟩,Qn ⟨vJ w.params,Array.mk [],⟨0,0,0,0⟩,790,os⟩))=fun _=>(true,gd q lo,Qo K w)
theorem NR {t:Type} {p p' q q':Program} {lo Rk:List Str} {lv lv':List (Str×PySem.W.WData)} {K K':Params->PySem.W.Frag} {sn sn':Program->List Str->List Str->(Shared->Bool)->Bool->Shared->t} {gd:Program->List Str->t} {im im':List Stmt->List Str} {w:World}
   (h:hG p' q' Rk lv' K' sn' gd im' w) (e2:p=p') (e3:q=q') (e4:lo=Rk) (e5:lv=lv') (e6:K=K') (e7:sn=sn') (e8:im=im'):hG p q lo lv K sn gd im w:=by
 subst e2 e3 e4 e5 e6 e7 e8;exact h
set_option maxRecDepth 100000 in
set_option maxHeartbeats 0 in
theorem hLa (w:World) (os:OsState):hGa PySem.Challenge.pw_notefall_k72_rooms_read PySem.W.Fast.tw5923862056798008813 w os=true:=by kernel_rfl
set_option maxRecDepth 100000 in
set_option maxHeartbeats 0 in
theorem hB0 (w:World) (os:OsState):(PySem.W.Fast.tw4187177175401517315 hQ zQ (PySem.W.Fast.tw5923862056798008813 PySem.Challenge.pw_notefall_k72_rooms_read.main.body) (Dj hQ B9) true ⟨vJ w.params,Array.mk [],⟨0,0,0,0⟩,790,os⟩).1=PyProof.Rows.expectedOf hQ:=by kernel_rfl
set_option maxRecDepth 100000 in
set_option maxHeartbeats 0 in
theorem hB1 (w:World) (os:OsState):(PySem.W.Fast.tw4187177175401517315 hQ zQ (PySem.W.Fast.tw5923862056798008813 PySem.Challenge.pw_notefall_k72_rooms_read.main.body) (Dj hQ B9) true ⟨vJ w.params,Array.mk [],⟨0,0,0,0⟩,790,os⟩).2.1=PySem.bltViewBooted:=by kernel_rfl
set_option maxRecDepth 100000 in
set_option maxHeartbeats 0 in
theorem hB2 (w:World) (os:OsState):(PySem.W.Fast.tw4187177175401517315 hQ zQ (PySem.W.Fast.tw5923862056798008813 PySem.Challenge.pw_notefall_k72_rooms_read.main.body) (Dj hQ B9) true ⟨vJ w.params,Array.mk [],⟨0,0,0,0⟩,790,os⟩).2.2.1=true:=by kernel_rfl
set_option maxRecDepth 100000 in
set_option maxHeartbeats 0 in
theorem hB3 (w:World) (os:OsState):(PySem.W.Fast.tw4187177175401517315 hQ zQ (PySem.W.Fast.tw5923862056798008813 PySem.Challenge.pw_notefall_k72_rooms_read.main.body) (Dj hQ B9) true ⟨vJ w.params,Array.mk [],⟨0,0,0,0⟩,790,os⟩).2.2.2.1=true:=by kernel_rfl
set_option maxRecDepth 100000 in
set_option maxHeartbeats 0 in
theorem hB4 (w:World) (os:OsState):(PySem.W.Fast.tw4187177175401517315 hQ zQ (PySem.W.Fast.tw5923862056798008813 PySem.Challenge.pw_notefall_k72_rooms_read.main.body) (Dj hQ B9) true ⟨vJ w.params,Array.mk [],⟨0,0,0,0⟩,790,os⟩).2.2.2.2.1=PySem.pinGoodD (PyProof.Rows.drecsOf hQ):=by kernel_rfl
set_option maxRecDepth 100000 in
set_option maxHeartbeats 0 in
theorem hB5 (w:World) (os:OsState):(PySem.W.Fast.tw4187177175401517315 hQ zQ (PySem.W.Fast.tw5923862056798008813 PySem.Challenge.pw_notefall_k72_rooms_read.main.body) (Dj hQ B9) true ⟨vJ w.params,Array.mk [],⟨0,0,0,0⟩,790,os⟩).2.2.2.2.2.1=PyProof.Rows.plainGoodE hQ (PySem.W.looseW hQ zQ):=by kernel_rfl
set_option maxRecDepth 100000 in
set_option maxHeartbeats 0 in
theorem hB6 (w:World) (os:OsState):(PySem.W.Fast.tw4187177175401517315 hQ zQ (PySem.W.Fast.tw5923862056798008813 PySem.Challenge.pw_notefall_k72_rooms_read.main.body) (Dj hQ B9) true ⟨vJ w.params,Array.mk [],⟨0,0,0,0⟩,790,os⟩).2.2.2.2.2.2.1=PyProof.Rows.plainGoodD hQ zQ:=by kernel_rfl
set_option maxRecDepth 100000 in
set_option maxHeartbeats 0 in
theorem hB7 (w:World) (os:OsState):(PySem.W.Fast.tw4187177175401517315 hQ zQ (PySem.W.Fast.tw5923862056798008813 PySem.Challenge.pw_notefall_k72_rooms_read.main.body) (Dj hQ B9) true ⟨vJ w.params,Array.mk [],⟨0,0,0,0⟩,790,os⟩).2.2.2.2.2.2.2.1=PySem.W.wideGood hQ:=by kernel_rfl
set_option maxRecDepth 100000 in
set_option maxHeartbeats 0 in
theorem hB8 (w:World) (os:OsState):(PySem.W.Fast.tw4187177175401517315 hQ zQ (PySem.W.Fast.tw5923862056798008813 PySem.Challenge.pw_notefall_k72_rooms_read.main.body) (Dj hQ B9) true ⟨vJ w.params,Array.mk [],⟨0,0,0,0⟩,790,os⟩).2.2.2.2.2.2.2.2=PySem.W.clsGoodW hQ zQ:=by kernel_rfl
theorem ab9 {A B C D E F G H I:Type} {x:A×B×C×D×E×F×G×H×I} {a b c d e f g h i} (h0:x.1=a) (h1:x.2.1=b) (h2:x.2.2.1=c) (h3:x.2.2.2.1=d) (h4:x.2.2.2.2.1=e) (h5:x.2.2.2.2.2.1=f) (h6:x.2.2.2.2.2.2.1=g) (h7:x.2.2.2.2.2.2.2.1=h) (h8:x.2.2.2.2.2.2.2.2=i):x=(a,b,c,d,e,f,g,h,i):=by subst h0 h1 h2 h3 h4 h5 h6 h7 h8;rfl
theorem hLb (w:World) (os:OsState):(PySem.W.Fast.tw4187177175401517315 hQ zQ (PySem.W.Fast.tw5923862056798008813 PySem.Challenge.pw_notefall_k72_rooms_read.main.body) (Dj hQ B9) true ⟨vJ w.params,Array.mk [],⟨0,0,0,0⟩,790,os⟩)=PySem.W.openGood hQ zQ:=ab9 (hB0 w os) (hB1 w os) (hB2 w os) (hB3 w os) (hB4 w os) (hB5 w os) (hB6 w os) (hB7 w os) (hB8 w os)
set_option maxRecDepth 100000 in
set_option maxHeartbeats 0 in
theorem hLc (w:World) (os:OsState):Qn ⟨vJ w.params,Array.mk [],⟨0,0,0,0⟩,790,os⟩=Qo hK w:=by kernel_rfl
theorem hLk (w:World):hG PySem.Challenge.pw_notefall_k72_rooms_read hQ zQ B9 hK PySem.W.Fast.tw4187177175401517315 PySem.W.openGood PySem.W.Fast.tw5923862056798008813 w:=funext fun os=>congr (congrArg Prod.mk (hLa w os)) (congr (congrArg Prod.mk (hLb w os)) (hLc w os))
theorem NS {tb tb':String->Option Builtin} {p p':Program} {M:Nat} {S R:World->OsState->Shared} (h:∀ w os,PySem.W.topRun tb' p' w 11 (some (.ref 6)) M (S w os) (PySem.W.topStub p')=some (R w os)) (e1:tb=tb') (e2:p=p'):∀ w os,PySem.W.topRun tb p w 11 (some (.ref 6)) M (S w os) (PySem.W.topStub p)=some (R w os):=by
 subst e1 e2;exact h
set_option maxRecDepth 100000 in
set_option maxHeartbeats 0 in
theorem hSz (w:World):((PySem.W.boot_heap w.params).isNs mainGlobals&&(Array.mk []:Array GenState).size==0,(PySem.W.boot_heap w.params).objs.size,(PySem.W.boot_heap w.params).nsMap mainGlobals "__annotations__")=(true,11,(some (.ref 6))):=by kernel_rfl
set_option maxRecDepth 100000 in
set_option maxHeartbeats 0 in
theorem hl:PySem.W.LeftO PySem.Challenge.pw_notefall_k72_rooms_read hQ zQ (Dj hQ B9) Qn (Qo hK) 5282:=
 PySem.W.LeftO.of_pieces (H₁:=vJ) (gs₁:=Array.mk []) (d₁:=⟨0,0,0,0⟩) (k₁:=790) (PySem.W.boot_open (by kernel_rfl) (by decide +kernel) (fun s=>by kernel_rfl)) hSz (NS (M:=(12 + (1 + (2588 + 2)))) ab8 PySem.W.Fast.te14364793385576792824 rfl) (by decide +kernel)
   (fun w=>NR (hLk w) rfl rfl rfl rfl rfl PySem.W.Fast.te4187177175401517315 PySem.W.Fast.te5923862056798008813)
end qQ
open PySem PySem.W PyProof.Rows
set_option maxRecDepth 100000 in
set_option maxHeartbeats 0 in
theorem PySem.Challenge.cw_notefall_k72_rooms_read_holds : PySem.Challenge.rw_notefall_k72_rooms_read.Holds := by
 w_on;refine holds_law qQ.Lh fun said=>?_
 refine holds_open (q:=qQ.hQ) (loose:=qQ.zQ) (Xt:=qQ.Dj qQ.hQ qQ.B9) (XP:=XL qQ.hQ qQ.B9) (Yf:=qQ.Qn) (Ya:=qQ.Qo qQ.hK) (YP:=Hook.says (PySem.W.kHook qQ.hK qQ.NJ qQ.hE)) (N:=5282) qQ.hl (Hook.of (PySem.W.kHook qQ.hK qQ.NJ qQ.hE)) (Hook.keeps (PySem.W.kHook qQ.hK qQ.NJ qQ.hE)) (fun s e=>xl_of s (Bool.and_eq_true_iff.mp e).1) XL.keeps (by rfl) (by rfl) (by rfl) (fun s e=>recFacts_of (Bool.and_eq_true_iff.mp e).2) (by rfl) (by first | assumption | decide +kernel) (by decide +kernel) ⟨rfl,rfl,rfl,rfl,rfl,by decide +kernel⟩ ?hw ?hc
 case hw=>w_witness2
 case hc=>
 k_fill
 refine qQ.walk (l:=PySem.Challenge.rw_notefall_k72_rooms_read) rfl rfl (fun w h Y=>PySem.W.kIn_of Y) ?F
 case F=>
   intro w mg fa h KX G hmg
   refine' qQ.all_mk KX G hmg ?a1 ?l1 ?c1 ?k1 ?a2 ?l2 ?c2 ?k2 ?a3 ?l3 ?c3 ?k3 ?a4 ?l4 ?c4 ?k4 ?a5 ?l5 ?c5 ?k5 ?a6 ?l6 ?c6 ?k6 ?a7 ?l7 ?c7 ?k7 ?a8 ?l8 ?c8 ?k8 ?a9 ?l9 ?c9 ?k9 ?Zs ?Zt ?Zu ?Pe ?Zv ?Zw ?Zx ?Pf ?Zy ?Zz ?ZA ?Pg ?ZC ?ZD ?ZE ?Ph ?ZF ?ZG ?ZH ?Pj ?ZI ?ZJ ?ZK ?J0 ?ZL ?ZM ?ZN ?Pk ?ZO ?ZP ?ZQ ?Pn ?ZR ?ZS ?ZU ?Po ?ZV ?ZW ?ZX ?Pp ?ZY ?ZZ ?Z0 ?Pq ?KA ?Z2 ?Z3 ?Ik ?Z4 ?Z5 ?Z6 ?Pr ?Ny ?Z7 ?Z8 ?Nz ?Pu ?Z9 ?c24 ?NB ?a25 ?l25 ?c25 ?Pw ?Px ?l26 ?c26 ?NC ?Py ?l27 ?c27 ?ND ?a28 ?l28 ?c28 ?Pz ?a29 ?l29 ?c29 ?PB ?a30 ?l30 ?c30 ?PC ?a31 ?l31 ?c31 ?PD ?a32 ?l32 ?c32 ?PJ ?a33 ?l33 ?c33 ?PL ?PM ?l34 ?c34 ?NF ?a35 ?l35 ?c35 ?PN ?a36 ?l36 ?c36 ?PR ?a37 ?l37 ?c37 ?PU ?a38 ?l38 ?c38 ?PV ?a39 ?l39 ?c39 ?PX ?a40 ?l40 ?c40 ?PY ?a41 ?l41 ?c41 ?PZ ?a42 ?l42 ?c42 ?P0 ?a43 ?l43 ?c43 ?P1 ?a44 ?l44 ?c44 ?P4 ?a45 ?l45 ?c45 ?P5 ?a46 ?l46 ?c46 ?P6 ?a47 ?l47 ?c47 ?P7 ?a48 ?l48 ?c48 ?P8 ?a49 ?l49 ?c49 ?P9 ?a50 ?l50 ?c50 ?Qa ?a51 ?l51 ?c51 ?Qc ?a52 ?l52 ?c52 ?Qd ?a53 ?l53 ?c53 ?Qe ?a54 ?l54 ?c54 ?Qf ?a55 ?l55 ?c55 ?Qg ?a56 ?l56 ?c56 ?Qh ?a57 ?l57 ?c57 ?Qi ?a58 ?l58 ?c58 ?Qj ?a59 ?l59 ?c59 ?Qk ?a60 ?l60 ?c60 ?Ql ?a61 ?l61 ?c61 ?Qm ?a62 ?l62 ?c62 ?k62 ?Fx ?lQ ?Fy ?A9 ?ye ?Fz ?Ba ?FA ?FD ?nc ?yf ?Bb ?FE ?FF ?lR ?Bc ?FG ?jV ?ng ?ue ?uf ?KC ?KD ?KG ?FH ?FI ?FJ ?FL ?FN ?FO ?KH ?FP ?FQ ?FT ?KI
   (case Bc | FG | jV | ng | ue | uf | a1 | l1 | c1 | k1 | a2 | l2 | c2 | k2 | a3 | l3 | c3 | k3 | a4 | l4 | c4 | k4 | a5 | l5 | c5 | k5 | a6 | l6 | c6 | k6 | a7 | l7 | c7 | k7 | a8 | l8 | c8 | k8 | a9 | l9 | c9 | k9 | Zs | Zt | Zu | Pe | Zv | Zw | Zx | Pf | Zy | Zz | ZA | Pg | ZC | ZD | ZE | Ph | ZF | ZG | ZH | Pj | ZI | ZJ | ZK | J0 | ZL | ZM | ZN | Pk | ZO | ZP | ZQ | Pn | ZR | ZS | ZU | Po | ZV | ZW | ZX | Pp | ZY | ZZ | Z0 | Pq | KA | Z2 | Z3 | Ik | Z4 | Z5 | Z6 | Pr | Ny | Z7 | Z8 | Nz | Pu | Z9 | c24 | NB | a25 | l25 | c25 | Pw | Px | l26 | c26 | NC | Py | l27 | c27 | ND | a28 | l28 | c28 | Pz | a29 | l29 | c29 | PB | a30 | l30 | c30 | PC | a31 | l31 | c31 | PD | a32 | l32 | c32 | PJ | a33 | l33 | c33 | PL | PM | l34 | c34 | NF | a35 | l35 | c35 | PN | a36 | l36 | c36 | PR | a37 | l37 | c37 | PU | a38 | l38 | c38 | PV | a39 | l39 | c39 | PX | a40 | l40 | c40 | PY | a41 | l41 | c41 | PZ | a42 | l42 | c42 | P0 | a43 | l43 | c43 | P1 | a44 | l44 | c44 | P4 | a45 | l45 | c45 | P5 | a46 | l46 | c46 | P6 | a47 | l47 | c47 | P7 | a48 | l48 | c48 | P8 | a49 | l49 | c49 | P9 | a50 | l50 | c50 | Qa | a51 | l51 | c51 | Qc | a52 | l52 | c52 | Qd | a53 | l53 | c53 | Qe | a54 | l54 | c54 | Qf | a55 | l55 | c55 | Qg | a56 | l56 | c56 | Qh | a57 | l57 | c57 | Qi | a58 | l58 | c58 | Qj | a59 | l59 | c59 | Qk | a60 | l60 | c60 | Ql | a61 | l61 | c61 | Qm | a62 | l62 | c62 | k62 | Fx | lQ | Fy | A9 | ye | Fz | Ba | FA | FD | nc | yf | Bb | FE | FF | lR | KC | KD=>k_is)
   (case KG=>k_exc)
   (case FH | FI | FJ | FL | FN | FO=>k_is)
   (case KH=>kts_exm)
   (case FP=>kit_is)
   (case FQ=>kit_is)
   (case FT=>kit_is)
   (case KI=>k_is)
