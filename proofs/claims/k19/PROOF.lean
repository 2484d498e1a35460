import PyProof.Rows.All
import Wide.All
import OpenK.AllK
import Wide.FinOn
import Lean
import PyProof.EqAt
import PyProof.EqKinds
import PyProof.TupleCall
import PySem.Challenge.RW_notefall_k19_arguments_by_their_names
set_option Elab.async false
set_option linter.all false
set_option maxRecDepth 100000
namespace L2
open PySem PySem.Spec PyProof.Rows
abbrev Key:=Sum Int Str
def CK:Key→Value→Bool
  | .inl k,v=>Value.isInt k v
  | .inr x,v=>Value.isStrOf x v
def aal (w:World):Key→Int
  | .inl k=>hashInt k
  | .inr x=>hashStr w x
theorem fk:∀ {k:Key} {v:Value},CK k v=true→(∃ i t,k=Sum.inl i∧v=Value.int i t)∨(∃ x t,k=Sum.inr x∧v=Value.str x t)
  | .inl i,v,h=>by
    obtain ⟨t,e⟩:=Value.isInt_shape (k:=i) (v:=v) h
    exact .inl ⟨i,t,rfl,e⟩
  | .inr x,v,h=>by
    obtain ⟨t,e⟩:=Value.isStrOf_shape (x:=x) (v:=v) h
    exact .inr ⟨x,t,rfl,e⟩
theorem Km (i:Int) (t:Tok):CK (.inl i) (.int i t)=true:=by simp [CK,Value.isInt]
theorem Kn (x:Str) (t:Tok):CK (.inr x) (.str x t)=true:=by simp [CK,Value.isStrOf]
theorem Ql (a b:Int):decide ((Sum.inl a:Key)=Sum.inl b)=(a==b):=by
  by_cases e:a=b
  · subst e;simp
  · have h:¬ (Sum.inl a:Key)=Sum.inl b:=fun q=>e (Sum.inl.inj q)
    rw [decide_eq_false h]
    exact (beq_eq_false_iff_ne.mpr e).symm
theorem Qm (a b:Str):decide ((Sum.inr a:Key)=Sum.inr b)=decide (a=b):=by
  by_cases e:a=b
  · subst e;simp
  · have h:¬ (Sum.inr a:Key)=Sum.inr b:=fun q=>e (Sum.inr.inj q)
    rw [decide_eq_false h,decide_eq_false e]
theorem Qn (a:Int) (b:Str):decide ((Sum.inl a:Key)=Sum.inr b)=false:=decide_eq_false (fun q=>nomatch q)
theorem Qo (a:Str) (b:Int):decide ((Sum.inr a:Key)=Sum.inl b)=false:=decide_eq_false (fun q=>nomatch q)
def p6 (prog:Program) (w:World):PySem.KeyKind prog w Key where
  is:=CK
  hash:=aal w
  inj:=fun v a b ha hb=>by
    rcases fk ha with ⟨i,t,rfl,rfl⟩ | ⟨x,t,rfl,rfl⟩
    · rcases fk hb with ⟨j,u,rfl,e⟩ | ⟨y,u,rfl,e⟩
      · injection e with e1 _;rw [e1]
      · exact nomatch e
    · rcases fk hb with ⟨j,u,rfl,e⟩ | ⟨y,u,rfl,e⟩
      · exact nomatch e
      · injection e with e1 _;rw [e1]
  byValue:=fun k v h=>by
    rcases fk h with ⟨i,t,rfl,rfl⟩ | ⟨x,t,rfl,rfl⟩ <;> rfl
  pyHash:=fun hv h=>by
    rcases fk hv with ⟨i,t,rfl,rfl⟩ | ⟨x,t,rfl,rfl⟩
    · exact wpAny_pyHash_int h
    · exact wpAny_pyHash_str h
  eqBool:=fun hu hv h=>by
    rcases fk hu with ⟨i,t,rfl,rfl⟩ | ⟨x,t,rfl,rfl⟩
    · rcases fk hv with ⟨j,u,rfl,rfl⟩ | ⟨y,u,rfl,rfl⟩
      · rw [Ql] at h;exact wpAny_eqBool_int h
      · rw [Qn] at h;exact SeqAt.EqAt.int_str i t y u _ _ _ _ h
    · rcases fk hv with ⟨j,u,rfl,rfl⟩ | ⟨y,u,rfl,rfl⟩
      · rw [Qo] at h;exact SeqAt.EqAt.str_int x t j u _ _ _ _ h
      · rw [Qm] at h;exact wpAny_eqBool_str h
  «strs»:=fun k x t v h=>by
    rcases fk h with ⟨i,u,rfl,e⟩ | ⟨y,u,rfl,e⟩
    · exact nomatch e
    · injection e with e1 _
      subst e1
      cases v <;> rfl
theorem Fz (prog:Program) (w:World) (i:Int) (t:Tok):(p6 prog w).is (.inl i) (.int i t)=true:=Km i t
theorem FA (prog:Program) (w:World) (x:Str) (t:Tok):(p6 prog w).is (.inr x) (.str x t)=true:=Kn x t
end L2
namespace L2
open PySem PySem.Spec PyProof.Rows
inductive V where
  | eO | bl (b:Bool) | int (i:Int) | str (x:Str) | IZ (b:Array UInt8) | Qp (b:UInt64) | ref (a:Addr) | ty (n:String)
  deriving DecidableEq
def RelV:V→Value→Prop
  | .eO,u=>u=Value.none
  | .bl b,u=>u=Value.bool b
  | .int i,u=>∃ t,u=Value.int i t
  | .str x,u=>∃ t,u=Value.str x t
  | .IZ b,u=>∃ t,u=Value.bytes b t
  | .Qp b,u=>∃ t,u=Value.float b t
  | .ref a,u=>u=Value.ref a
  | .ty n,u=>u=Value.type n
abbrev Vals:List V→List Value→Prop:=Paired RelV
theorem Vals.length {xs:List V} {us:List Value} (r:Vals xs us):xs.length=us.length:=Paired.length r
theorem Vals.get:∀ {xs:List V} {us:List Value} {i:Nat} {x:V},Vals xs us→xs[i]?=some x→∃ u,us[i]?=some u∧RelV x u
  | _,_,_,_,.nil,e=>by simp at e
  | _,_,0,_,.cons r _,e=>by simp at e;subst e;exact ⟨_,rfl,r⟩
  | _,_,i + 1,x,.cons _ t,e=>by
    obtain ⟨u,h1,h2⟩:=Vals.get (i:=i) (x:=x) t (by simpa using e)
    exact ⟨u,by simpa using h1,h2⟩
theorem Vals.set {x:V} {u:Value} (r:RelV x u):∀ {xs:List V} {us:List Value} (i:Nat),Vals xs us→Vals (xs.set i x) (us.set i u)
  | _,_,_,.nil=>.nil
  | _,_,0,.cons _ t=>.cons r t
  | _,_,i + 1,.cons q t=>.cons q (Vals.set r i t)
theorem Vals.append:∀ {xs ys:List V} {us ws:List Value},Vals xs us→Vals ys ws→Vals (xs++ys) (us++ws)
  | _,_,_,_,.nil,s=>s
  | _,_,_,_,.cons r t,s=>.cons r (Vals.append t s)
theorem Vals.take:∀ {xs:List V} {us:List Value} (n:Nat),Vals xs us→Vals (xs.take n) (us.take n)
  | _,_,0,_=>.nil
  | _,_,_ + 1,.nil=>.nil
  | _,_,n + 1,.cons r t=>.cons r (Vals.take n t)
theorem Vals.drop:∀ {xs:List V} {us:List Value} (n:Nat),Vals xs us→Vals (xs.drop n) (us.drop n)
  | _,_,0,r=>r
  | _,_,_ + 1,.nil=>.nil
  | _,_,n + 1,.cons _ t=>Vals.drop n t
theorem Vals.none_of:∀ {xs:List V} {us:List Value} {i:Nat},Vals xs us→xs[i]?=none→us[i]?=none:=fun {xs us i} r e=>by
  have h1:=r.length
  have h2:xs.length≤i:=List.getElem?_eq_none_iff.mp e
  exact List.getElem?_eq_none_iff.mpr (by omega)
def tY:Option V→Option Value→Prop
  | some v,some u=>RelV v u
  | none,none=>True
  | _,_=>False
def KV {κ:Type}:List (κ×V)→List (κ×Value)→Prop:=Paired fun (p:κ×V) (q:κ×Value)=>p.1=q.1∧RelV p.2 q.2
def kV:Key→V
  | .inl i=>.int i
  | .inr x=>.str x
inductive HO where
  | lst (xs:List V)
  | tup (xs:List V)
  | dK (dD:List (Key×V)) | dT (dD:List (List Key×V))
  | set (S:Int→Bool) (n:Nat)
  | ins (C dx:Addr) (fs:List (Str×V))
  | own (x:Addr)
  | xd (fs:List (Str×V))
  | met (f x:Addr)
  | rng (lo hi:Int)
  | GS (o:Obj) (u:HO)
  | Ja (ps:Array Value)
  | ext (φ:Heap→Prop)
abbrev Hp:=Addr→Option HO
def upd (H:Hp) (a:Addr) (o:HO):Hp:=fun b=>if b=a then some o else H b
theorem av {H:Hp} {a:Addr} {o:HO}:upd H a o a=some o:=by unfold upd;rw [if_pos rfl]
theorem bE {H:Hp} {a b:Addr} {o:HO} (h:b≠a):upd H a o b=H b:=by unfold upd;rw [if_neg h]
theorem mh {H:Hp} {a:Addr} {o u:HO}:upd (upd H a o) a u=upd H a u:=by
  funext b;unfold upd;split <;> rfl
theorem TJ {H:Hp} {a b:Addr} {o u:HO} (h:H a=some o) (h':H b=some u) (d:o≠u):a≠b:=by
  intro e;subst e;rw [h] at h';exact d (Option.some.inj h')
theorem bJ {H:Hp} {a b:Addr} {o:HO} (h:H a=some o) (h':H b=none):a≠b:=by
  intro e;subst e;rw [h] at h';cases h'
section
variable (P:Program) (w:World)
def iY (H:Hp) (h:Heap) (a:Addr):HO→Prop
  | .lst xs=>xs.length≤sizeLine∧∃ (its:List Value) (n:Nat),Vals xs its∧h.get? a=some { cls:=.type "list",data:=.seq its.toArray n }
  | .tup xs=>xs.length≤sizeLine∧∃ its:List Value,Vals xs its∧IsTup h a its.toArray
  | .dK dD=>dD.length≤sizeLine∧(a==sysModules)=false∧∃ vs,KV dD vs∧h.DictOf (p6 P w) a vs
  | .dT dD=>dD.length≤sizeLine∧(a==sysModules)=false∧∃ xs:List (List Key×Addr×Value),
      Paired (fun (p:List Key×V) (q:List Key×Addr×Value)=>p.1=q.1∧H q.2.1=some (.tup (p.1.map kV))∧RelV p.2 q.2.2) dD xs∧
      ∃ o es ep,h.get? a=some o∧o.ExactDict∧o.data=.dict es ep∧es.toList=xs.map (entryOfKey (tupleKind (p6 P w)))∧(xs.map (·.1)).Nodup
  | .set S n=>h.SetOf (intKind P w) a S n
  | .ins C dx fs=>H dx=some (.own a)∧fs.length≤1000∧dx≠a∧h.get? a=some (PySem.W.instObj C dx)∧
      ∃ mA,h.Ns1 dx mA∧(∀ f,tY (fs.lookup f) (mA f))∧PySem.Within mA (fs.map (·.1))
  | .own _=>∃ o,h.get? a=some o
  | .xd fs=>∃ mA,h.Ns1 a mA∧∀ f,tY (fs.lookup f) (mA f)
  | .rng lo hi=>∃ t u v,h.get? a=some { cls:=.type "range",data:=.fields #[.int lo t,.int hi u,.int 1 v] }
  | .GS o u=>h.get? a=some o∧iY H h a u
  | .Ja ps=>h.get? a=some { cls:=.none,data:=.fields ps }
  | .met f x=>h.get? a=some (PySem.W.methodObj (.ref f) (.ref x))
  | .ext φ=>φ h∧(∃ o,h.get? a=some o)∧∀ h1 h2:Heap,φ h1→(∀ o,h1.get? a=some o→h2.get? a=some o)→φ h2
def zJ (H:Hp) (h:Heap):Prop:=∀ a o,H a=some o→iY P w H h a o
end
section
variable {P:Program} {w:World} {H H':Hp} {h h':Heap} {a:Addr} {o:HO}
theorem iY.lt (x:iY P w H h a o):a < h.objs.size:=by
  cases o with
  | lst xs=>obtain ⟨_,_,_,_,e⟩:=x;exact Heap.lt_size e
  | tup xs=>obtain ⟨_,_,_,p⟩:=x;exact p.lt
  | dK dD=>obtain ⟨_,_,_,_,o,_,_,e,_⟩:=x;exact Heap.lt_size e
  | dT dD=>obtain ⟨_,_,_,_,o,_,_,e,_⟩:=x;exact Heap.lt_size e
  | set S n=>obtain ⟨o,_,_,_,e,_⟩:=x;exact Heap.lt_size e
  | ins C dx fs=>obtain ⟨_,_,_,e,_⟩:=x;exact Heap.lt_size e
  | own y=>obtain ⟨_,e⟩:=x;exact Heap.lt_size e
  | xd fs=>obtain ⟨_,⟨_,_,_,e,_⟩,_⟩:=x;exact Heap.lt_size e
  | rng lo hi=>obtain ⟨_,_,_,e⟩:=x;exact Heap.lt_size e
  | GS ob u=>obtain ⟨e,_⟩:=x;exact Heap.lt_size e
  | Ja ps=>exact Heap.lt_size (show h.get? a=some _ from x)
  | met f y=>exact Heap.lt_size (show h.get? a=some _ from x)
  | ext φ=>obtain ⟨_,⟨_,e⟩,_⟩:=x;exact Heap.lt_size e
theorem Paired.Qq {α β:Type} {F G:α→β→Prop}:∀ {l₁:List α} {l₂:List β},Paired F l₁ l₂→(∀ a b,F a b→G a b)→Paired G l₁ l₂
  | _,_,.nil,_=>.nil
  | _,_,.cons r t,f=>.cons (f _ _ r) (Paired.Qq t f)
theorem iY.GW (x:iY P w H h a o) (k:∀ b u,(b=a∨H b=some (.own a))→h.get? b=some u→h'.get? b=some u)
    (ho:∀ b,H b=some (.own a)→H' b=some (.own a)) (ht:∀ b xs,H b=some (.tup xs)→H' b=some (.tup xs)):iY P w H' h' a o:=by
  induction o with
  | lst xs=>obtain ⟨z,its,n,r,e⟩:=x;exact ⟨z,its,n,r,k _ _ (.inl rfl) e⟩
  | tup xs=>obtain ⟨z,its,r,ob,e,c⟩:=x;exact ⟨z,its,r,ob,k _ _ (.inl rfl) e,c⟩
  | dK dD=>obtain ⟨z,y,vs,r,ob,es,ep,e,c⟩:=x;exact ⟨z,y,vs,r,ob,es,ep,k _ _ (.inl rfl) e,c⟩
  | dT dD=>
    obtain ⟨z,y,xs,r,ob,es,ep,e,c⟩:=x
    exact ⟨z,y,xs,Paired.Qq r fun p q z=>⟨z.1,ht _ _ z.2.1,z.2.2⟩,ob,es,ep,k _ _ (.inl rfl) e,c⟩
  | set S n=>obtain ⟨ob,es,ep,t,e,c⟩:=x;exact ⟨ob,es,ep,t,k _ _ (.inl rfl) e,c⟩
  | ins C dx fs=>
    obtain ⟨d,z,ne,e,mA,⟨od,es,ep,e2,c⟩,r⟩:=x
    exact ⟨ho _ d,z,ne,k _ _ (.inl rfl) e,mA,⟨od,es,ep,k _ _ (.inr d) e2,c⟩,r⟩
  | own y=>obtain ⟨ob,e⟩:=x;exact ⟨ob,k _ _ (.inl rfl) e⟩
  | xd fs=>obtain ⟨mA,⟨od,es,ep,e,c⟩,r⟩:=x;exact ⟨mA,⟨od,es,ep,k _ _ (.inl rfl) e,c⟩,r⟩
  | rng lo hi=>obtain ⟨t,u,v,e⟩:=x;exact ⟨t,u,v,k _ _ (.inl rfl) e⟩
  | GS ob u ih=>obtain ⟨e,q⟩:=x;exact ⟨k _ _ (.inl rfl) e,ih q⟩
  | Ja ps=>
    have e:h.get? a=some { cls:=.none,data:=.fields ps }:=x
    show h'.get? a=some { cls:=.none,data:=.fields ps }
    exact k a _ (.inl rfl) e
  | met f y=>
    have e:h.get? a=some (PySem.W.methodObj (.ref f) (.ref y)):=x
    show h'.get? a=some (PySem.W.methodObj (.ref f) (.ref y))
    exact k a _ (.inl rfl) e
  | ext φ=>obtain ⟨p,⟨o,e⟩,st⟩:=x;exact ⟨st _ _ p fun o q=>k _ _ (.inl rfl) q,⟨o,k _ _ (.inl rfl) e⟩,st⟩
theorem zJ.lt (x:zJ P w H h) (e:H a=some o):a < h.objs.size:=(x a o e).lt
theorem zJ.fresh (x:zJ P w H h) (e:h.objs.size≤a):H a=none:=by
  cases q:H a with
  | none=>rfl
  | some u=>exact absurd (Nat.lt_of_lt_of_le (x.lt q) e) (Nat.lt_irrefl _)
theorem zJ.kept (x:zJ P w H h) (k:∀ b u,h.get? b=some u→h'.get? b=some u):zJ P w H h':=fun a o e=>
  (x a o e).GW (fun b u _ q=>k b u q) (fun _ q=>q) fun _ _ q=>q
theorem zJ.laid (x:zJ P w H h) (k:∀ b u,h.get? b=some u→h'.get? b=some u) (hp:h.objs.size≤a) (new:iY P w (upd H a o) h' a o):zJ P w (upd H a o) h':=fun b u e=>by
  have hn:=x.fresh hp
  by_cases hb:b=a
  · subst hb;rw [av] at e;cases e;exact new
  · rw [bE hb] at e
    exact (x b u e).GW (fun c v _ q=>k c v q) (fun c q=>by rw [bE (bJ q hn)];exact q) fun c xs q=>by rw [bE (bJ q hn)];exact q
end
def Rd (H:Hp) (a:Addr) (u:HO):Prop:=H a=some u∨∃ o,H a=some (.GS o u)
theorem Rd.of {H:Hp} {a:Addr} {u:HO} (h:H a=some u):Rd H a u:=.inl h
theorem Rd.ok {P:Program} {w:World} {H:Hp} {h:Heap} {a:Addr} {u:HO} (r:Rd H a u) (x:zJ P w H h):iY P w H h a u:=by
  rcases r with r | ⟨o,r⟩
  · exact x a u r
  · obtain ⟨_,q⟩:=x a _ r
    exact q
def Xi:Option HO→Prop
  | some (.lst _)=>True
  | some (.dK _)=>True
  | some (.dT _)=>True
  | some (.set _ _)=>True
  | some (.ins _ _ _)=>True
  | some (.ext _)=>True
  | _=>False
section
variable {P:Program} {w:World} {H:Hp} {h h':Heap} {x e:Addr} {o':HO}
theorem zJ.write (ok:zJ P w H h) (mu:Xi (H x)) (he:e=x∨H e=some (.own x)) (k:∀ b u,b≠e→h.get? b=some u→h'.get? b=some u) (Tn:∃ u,h'.get? e=some u)
    (new:iY P w (upd H x o') h' x o'):zJ P w (upd H x o') h':=fun b u q=>by
  have TL:∀ c y,H c=some (.own y)→c≠x:=fun c y r z=>by subst z;rw [r] at mu;exact mu
  have aan:∀ c xs,H c=some (.tup xs)→c≠x:=fun c xs r z=>by subst z;rw [r] at mu;exact mu
  by_cases hb:b=x
  · subst hb;rw [av] at q;cases q;exact new
  · rw [bE hb] at q
    by_cases hbe:b=e
    · have q':H b=some (.own x):=by
        rcases he with z | z
        · exact absurd (hbe.trans z) hb
        · rw [hbe];exact z
      rw [q] at q';cases q'
      obtain ⟨v,hv⟩:=Tn
      exact ⟨v,by rw [hbe];exact hv⟩
    · refine (ok b u q).GW (fun c v hc r=>k c v ?_ r) (fun c r=>by rw [bE (TL c b r)];exact r) fun c xs r=>by rw [bE (aan c xs r)];exact r
      rcases hc with rfl | hc
      · exact hbe
      · rintro rfl
        rcases he with z | z
        · exact TL c b hc z
        · rw [hc] at z;cases z;exact hb rfl
end
structure Un (fs ex:List Addr) (H H':Hp) (h h':Heap):Prop where
  keep:∀ b o,h.get? b=some o→H b=none→b∉fs→b∉ex→h'.get? b=some o
  slot:∀ b o,h.get? b=some o→H b=none→b∈fs→b∉ex→∃ sl,h'.get? b=some { o with slots:=sl }
  free:∀ b o,h.get? b=some o→H b=none→b∉ex→H' b=none
  there:∀ b o,h.get? b=some o→b∉ex→∃ o',h'.get? b=some o'
  ya:∀ b xs,H b=some (.tup xs)→H' b=some (.tup xs)
  vK:∀ b o u,H b=some (.GS o u)→H' b=some (.GS o u)
  yb:∀ b ps,H b=some (.Ja ps)→∃ more,H' b=some (.Ja (ps++more))
section
variable {fs fs' ex ex':List Addr} {H H1 H2:Hp} {h h1 h2 h':Heap} {a x e:Addr} {o:HO}
theorem Un.any (u:Un fs ex H H1 h h1) {b:Addr} {ob:Obj} (q:h.get? b=some ob) (n:H b=none) (hx:b∉ex):∃ sl,h1.get? b=some { ob with slots:=sl }:=by
  by_cases hb:b∈fs
  · exact u.slot b ob q n hb hx
  · exact ⟨ob.slots,u.keep b ob q n hb hx⟩
theorem Un.trans (a:Un fs ex H H1 h h1) (b:Un fs ex H1 H2 h1 h2):Un fs ex H H2 h h2 where
  keep:=fun c ob q n hc hx=>b.keep c ob (a.keep c ob q n hc hx) (a.free c ob q n hx) hc hx
  slot:=fun c ob q n hc hx=>by
    obtain ⟨sl,e1⟩:=a.slot c ob q n hc hx
    obtain ⟨sl',e2⟩:=b.slot c _ e1 (a.free c ob q n hx) hc hx
    exact ⟨sl',e2⟩
  free:=fun c ob q n hx=>by
    obtain ⟨o',e1⟩:=a.there c ob q hx
    exact b.free c o' e1 (a.free c ob q n hx) hx
  there:=fun c ob q hx=>by
    obtain ⟨o',e1⟩:=a.there c ob q hx
    exact b.there c o' e1 hx
  ya:=fun c xs q=>b.ya c xs (a.ya c xs q)
  vK:=fun c ob xs q=>b.vK c ob xs (a.vK c ob xs q)
  yb:=fun c ps q=>by
    obtain ⟨m1,e1⟩:=a.yb c ps q
    obtain ⟨m2,e2⟩:=b.yb c _ e1
    exact ⟨m1++m2,by rw [e2,Array.append_assoc]⟩
theorem Un.kept (k:∀ b u,h.get? b=some u→h'.get? b=some u):Un fs ex H H h h':=
  ⟨fun b ob q _ _ _=>k b ob q,fun b ob q _ _ _=>⟨ob.slots,k b ob q⟩,fun _ _ _ n _=>n,fun b ob q _=>⟨ob,k b ob q⟩,fun _ _ q=>q,fun _ _ _ q=>q,fun _ ps q=>⟨#[],by rw [q];simp⟩⟩
theorem Un.refl:Un fs ex H H h h:=Un.kept fun _ _ q=>q
theorem Un.laid (k:∀ b u,h.get? b=some u→h'.get? b=some u) (hp:h.objs.size≤a) (hn:H a=none):Un fs ex H (upd H a o) h h' where
  keep:=fun b u q _ _ _=>k b u q
  slot:=fun b u q _ _ _=>⟨u.slots,k b u q⟩
  free:=fun b u q n _=>by rw [bE (Nat.ne_of_lt (Nat.lt_of_lt_of_le (Heap.lt_size q) hp))];exact n
  there:=fun b u q _=>⟨u,k b u q⟩
  ya:=fun b xs q=>by rw [bE (bJ q hn)];exact q
  vK:=fun b u xs q=>by rw [bE (bJ q hn)];exact q
  yb:=fun b ps q=>⟨#[],by rw [bE (bJ q hn),q];simp⟩
theorem Un.write (mu:Xi (H x)) (he:e=x∨H e=some (.own x)) (k:∀ b u,b≠e→h.get? b=some u→h'.get? b=some u) (Tn:∃ u,h'.get? e=some u):Un fs ex H (upd H x o) h h':=by
  have hx:∀ b,H b=none→b≠x:=fun b n z=>by subst z;rw [n] at mu;exact mu
  have hb:∀ b,H b=none→b≠e:=fun b n z=>by
    subst z
    rcases he with r | r
    · exact hx b n r
    · rw [n] at r;cases r
  have hm:∀ b u,H b=some u→¬ Xi (some u)→b≠x:=fun b u q nm z=>by subst z;rw [q] at mu;exact nm mu
  refine ⟨fun b u q n _ _=>k b u (hb b n) q,fun b u q n _ _=>⟨u.slots,k b u (hb b n) q⟩,fun b u q n _=>by rw [bE (hx b n)];exact n,fun b u q _=>?_,
    fun b xs q=>by rw [bE (hm b _ q fun z=>z)];exact q,fun b u xs q=>by rw [bE (hm b _ q fun z=>z)];exact q,fun b ps q=>⟨#[],by rw [bE (hm b _ q fun z=>z),q];simp⟩⟩
  by_cases hbe:b=e
  · subst hbe;exact Tn
  · exact ⟨u,k b u hbe q⟩
theorem Un.mono (u:Un fs ex H H1 h h1) (hs:∀ b∈fs,b∈fs') (hx:∀ b∈ex,b∈ex'):Un fs' ex' H H1 h h1:=
  ⟨fun b ob q n hb he=>u.keep b ob q n (fun z=>hb (hs b z)) fun z=>he (hx b z),fun _ _ q n _ he=>u.any q n fun z=>he (hx _ z),fun b ob q n he=>u.free b ob q n fun z=>he (hx b z),fun b ob q he=>u.there b ob q fun z=>he (hx b z),u.ya,u.vK,u.yb⟩
end
def Xj (h:Heap) (H:Hp):List Addr:=(List.range h.objs.size).filter fun a=>(H a).isSome
def Dt (h:Heap) (H:Hp):Heap:=PySem.W.hideAll h (Xj h H)
theorem Ko (h:Heap) (H:Hp):(Dt h H).objs.size=h.objs.size:=PySem.W.hideAll_size _ _
theorem LD {h:Heap} {H:Hp} {b:Addr} {o:Obj} (e:h.get? b=some o) (n:H b=none):(Dt h H).get? b=some o:=
  PySem.W.hideAll_get _ e fun hm=>by
    have q:(H b).isSome=true:=(List.mem_filter.mp hm).2
    rw [n] at q;simp at q
theorem Nx {h:Heap} {H:Hp} {b:Addr} {o:Obj} (e:(Dt h H).get? b=some o):h.get? b=some o∧H b=none:=by
  have e':h.get? b=some o:=PySem.W.of_hideAll (Xj h H) e
  refine ⟨e',?_⟩
  cases q:H b with
  | none=>rfl
  | some x=>
    have hm:b∈Xj h H:=List.mem_filter.mpr ⟨List.mem_range.mpr (Heap.lt_size e'),by simp [q]⟩
    have z:(Dt h H).get? b=none:=PySem.W.hideAll_none (Xj h H) hm
    rw [z] at e;cases e
def Ny (g h:Heap) (L:Addr):List (Addr×Obj):=(List.range h.objs.size).filterMap fun a=>if a=L∨(g.get? a).isSome=true then none else (h.get? a).map fun o=>(a,o)
def rest (g h:Heap) (L d:Addr):List (Addr×Obj):=(Ny g h L).filter fun p=>decide (p.1≠d)
end L2
namespace L2
open PySem PySem.Spec PyProof.Rows
structure Mod (K:PySem.W.Frag) (mg:Str→Option Value) (base:Heap):Prop where
  LF:K.In base
  glob:base.Ns mainGlobals mg
  blt:∃ mb,base.Ns builtinsNs mb∧∀ x:Str,x≠"__name__"→mb x=bootBuiltins x
  nolimit:base.NoLimit
structure Cx where
  prog:Program
  w:World
  K:PySem.W.Frag
  mg:Str→Option Value
  base:Heap
  A:Around
  N:List Str
  s₀:Shared
  H₀:Hp
  env:Env
  outer:List Env
  stack:List Env
  ex:List Addr
  fn:Str→Bool
  calm:Bool
  pn:List (Addr×Obj)
  xe:Value→Shared→Prop
def CL (l:List Env):List Addr:=l.filterMap (·.frame)
abbrev Cx.fs (X:Cx):List Addr:=CL X.outer
def TM (sc:Scope) (x:Str):Prop:=sc.names.lookup x=some .local∨sc.names.lookup x=some .cell∨sc.names.lookup x=some .free
def Loc (sc:Scope) (x:Str):Prop:=sc.names.lookup x=some .local∨sc.names.lookup x=some .cell
def Look (env:Env) (h:Heap) (m:Str→Option Value) (x:Str) (u:Value):Prop:=
  (env.kindOf x=some .local∧m x=some u)∨((env.kindOf x=some .cell∨env.kindOf x=some .free)∧∃ c,env.cells.lookup x=some c∧h.IsCell c (some u))
structure Cx.Ok (X:Cx):Prop where
  mod:Mod X.K X.mg X.base
  kind:X.env.scope.kind=.function
  glob:X.env.globals=mainGlobals
  blt:X.env.builtins=builtinsNs
  above:X.s₀.heap.objs.size≤X.env.locals
  inj:∀ x y c,X.env.cells.lookup x=some c→X.env.cells.lookup y=some c→x=y
  has:∀ x,(X.env.kindOf x=some .cell∨X.env.kindOf x=some .free)→∃ c,X.env.cells.lookup x=some c
  Nz:∀ x c,X.fn x=true→X.env.cells.lookup x=some c→X.s₀.heap.objs.size≤c
  hd:X.calm=true→X.A.handled=none
  frames:X.A.frames=some X.stack
  Qs:X.stack=X.outer∨(X.stack=X.env::X.outer∧X.env.frame=some X.env.locals)
  TN:∀ b∈X.ex,b≠X.env.locals∧∀ x c,X.env.cells.lookup x=some c→c≠b
  bs:∀ b o,X.base.get? b=some o→X.s₀.heap.get? b=some o∧X.H₀ b=none
  Jb:X.base.objs.size≤X.s₀.heap.objs.size
  FD:∀ b o,X.base.get? b=some o→b∉X.ex
  GX:∀ b∈X.ex,b∉X.fs
  rD:X.s₀.heap.FunFrames X.base X.outer
  LG:∀ b∈X.fs,X.H₀ b=none
structure Inv (X:Cx) (pins:List (Addr×Obj)) (σ:List (Option V)) (H:Hp) (s:Shared):Prop where
  ok:X.Ok
  os:s.os=X.s₀.os
  bare:AllBare s.gens
  base:Un X.fs X.ex X.H₀ H X.s₀.heap s.heap
  loc:∃ m,s.heap.Ns X.env.locals m∧∀ (i:Nat) (x:Str) (v:V),X.N[i]?=some x→σ[i]?=some (some v)→TM X.env.scope x→∃ u,RelV v u∧Look X.env s.heap m x u
  cell:∀ x c,X.env.cells.lookup x=some c→∃ v,s.heap.IsCell c v
  free:H X.env.locals=none
  mU:∀ x c,X.env.cells.lookup x=some c→H c=none
  pin:∀ p∈X.pn++pins,s.heap.get? p.1=some p.2∧H p.1=none∧p.1≠X.env.locals∧p.1∉X.fs∧∀ v,p.2.data≠.cell v
  gm:zJ X.prog X.w H s.heap
  len:σ.length=X.N.length
section
variable {X:Cx} {pins:List (Addr×Obj)} {σ:List (Option V)} {H H':Hp} {s:Shared} {h':Heap}
theorem Cx.Ok.aap (ok:X.Ok) {b:Addr} {o:Obj} (e:X.base.get? b=some o):b∉X.fs:=fun hb=>by
  have:=(ok.rD.mem hb).1
  rw [e] at this;cases this
theorem Inv.bs (I:Inv X pins σ H s):∀ b o,X.base.get? b=some o→s.heap.get? b=some o∧H b=none:=fun b o e=>
  ⟨I.base.keep b o (I.ok.bs b o e).1 (I.ok.bs b o e).2 (I.ok.aap e) (I.ok.FD b o e),I.base.free b o (I.ok.bs b o e).1 (I.ok.bs b o e).2 (I.ok.FD b o e)⟩
theorem Inv.bk (I:Inv X pins σ H s):∀ b o,X.base.get? b=some o→s.heap.get? b=some o:=fun b o e=>(I.bs b o e).1
theorem Inv.mod (I:Inv X pins σ H s):Mod X.K X.mg X.base:=I.ok.mod
theorem Inv.nJ (I:Inv X pins σ H s):X.K.In s.heap:=I.ok.mod.LF.keeps I.bk
theorem Inv.nolimit (I:Inv X pins σ H s):s.heap.NoLimit:=I.ok.mod.nolimit.keeps I.bk
theorem Inv.fr (I:Inv X pins σ H s):∃ m,Fr X.base X.env.locals s.heap m:=
  let ⟨m,hn,_⟩:=I.loc
  ⟨m,hn,I.bk,Nat.le_trans I.ok.Jb I.ok.above⟩
theorem Inv.lt (I:Inv X pins σ H s):X.env.locals < s.heap.objs.size:=let ⟨_,hn,_⟩:=I.loc;hn.lt
theorem Inv.sz (I:Inv X pins σ H s):X.s₀.heap.objs.size≤s.heap.objs.size:=Nat.le_trans I.ok.above (Nat.le_of_lt I.lt)
theorem Inv.Qt (I:Inv X pins σ H s) {a:Addr} (h:s.heap.objs.size≤a):a∉X.fs:=fun hb=>by
  obtain ⟨_,o,ho,_⟩:=I.ok.rD.mem hb
  exact absurd (Nat.lt_of_lt_of_le (Heap.lt_size ho) (Nat.le_trans I.sz h)) (Nat.lt_irrefl _)
theorem Inv.PZ (I:Inv X pins σ H s):∀ x c,X.env.cells.lookup x=some c→c≠X.env.locals:=fun x c e z=>by
  obtain ⟨v,o,ho,hd⟩:=I.cell x c e
  obtain ⟨m,⟨o',es,ep,LH,hd',_⟩,_⟩:=I.loc
  rw [z,LH] at ho;cases ho;rw [hd'] at hd;cases hd
theorem Inv.rD (I:Inv X pins σ H s):s.heap.FunFrames X.base X.outer:=by
  have all:∀ (l:List Env),(∀ b∈CL l,b∈X.fs)→X.s₀.heap.FunFrames X.base l→s.heap.FunFrames X.base l:=by
    intro l
    induction l with
    | nil=>intro _ _;trivial
    | cons env r ih=>
      intro hs hl
      obtain ⟨hk,⟨L,o,hf,hn,ho,hd⟩,hr⟩:=hl
      have hL:L∈X.fs:=hs L (by unfold CL;rw [List.filterMap_cons,hf];exact List.mem_cons_self)
      obtain ⟨sl,e⟩:=I.base.slot L o ho (I.ok.LG L hL) hL fun z=>I.ok.GX L z hL
      exact ⟨hk,⟨L,_,hf,hn,e,hd⟩,ih (fun b hb=>hs b (by unfold CL;rw [List.filterMap_cons,hf];exact List.mem_cons_of_mem _ hb)) hr⟩
  exact all X.outer (fun _ hb=>hb) I.ok.rD
theorem Inv.stack (I:Inv X pins σ H s):s.heap.FunFrames X.base X.stack:=by
  rcases I.ok.Qs with e | ⟨e,hf⟩
  · rw [e];exact I.rD
  · rw [e]
    obtain ⟨m,hn,_⟩:=I.loc
    refine .cons (by rw [I.ok.kind];decide) hf hn ?_ I.rD
    exact Heap.get?_none_of_le (Nat.le_trans I.ok.Jb I.ok.above)
theorem Inv.uP (I:Inv X pins σ H s):∀ b∈CL X.stack,b∈X.env.locals::X.fs:=fun b hb=>by
  rcases I.ok.Qs with e | ⟨e,hf⟩
  · rw [e] at hb;exact List.mem_cons_of_mem _ hb
  · rw [e] at hb
    unfold CL at hb
    rw [List.filterMap_cons,hf] at hb
    exact hb
theorem Inv.Jc (I:Inv X pins σ H s):∀ b∈CL X.stack,H b=none:=fun b hb=>by
  rcases List.mem_cons.mp (I.uP b hb) with e | hb
  · rw [e];exact I.free
  · obtain ⟨_,o,ho,_⟩:=I.ok.rD.mem hb
    exact I.base.free b o ho (I.ok.LG b hb) fun z=>I.ok.GX b z hb
theorem Inv.step {g':Array GenState} {t':Nat} {d':Drawn} {ch:List Addr} (I:Inv X pins σ H s)
    (Lz:∀ b∈ch,(b∈X.ex∨X.s₀.heap.objs.size≤b)∧b≠X.env.locals∧(∀ x c,X.env.cells.lookup x=some c→c≠b)∧∀ p∈X.pn++pins,p.1≠b)
    (keep:∀ b o,b≠X.env.locals→b∉X.fs→b∉ch→s.heap.get? b=some o→H b=none→h'.get? b=some o)
    (slot:∀ b o,b≠X.env.locals→b∈X.fs→b∉ch→s.heap.get? b=some o→H b=none→∃ sl,h'.get? b=some { o with slots:=sl }) (free:∀ b o,b∉ch→s.heap.get? b=some o→H b=none→H' b=none)
    (there:∀ b o,b∉ch→s.heap.get? b=some o→∃ o',h'.get? b=some o')
    (ya:∀ b xs,H b=some (.tup xs)→H' b=some (.tup xs)) (vK:∀ b o u,H b=some (.GS o u)→H' b=some (.GS o u)) (yb:∀ b ps,H b=some (.Ja ps)→∃ more,H' b=some (.Ja (ps++more)))
    (ns:∀ m,s.heap.Ns X.env.locals m→h'.Ns X.env.locals m) (gm:zJ X.prog X.w H' h') (hg:AllBare g'):
    Inv X pins σ H' { s with heap:=h',gens:=g',drawn:=d',toks:=t' }:=by
  have neL:∀ b o,X.s₀.heap.get? b=some o→b≠X.env.locals:=fun b o e=>Nat.ne_of_lt (Nat.lt_of_lt_of_le (Heap.lt_size e) I.ok.above)
  have Xk:∀ b o,X.s₀.heap.get? b=some o→b∉X.ex→b∉ch:=fun b o e hx hb=>by
    rcases (Lz b hb).1 with z | z
    · exact hx z
    · exact absurd (Nat.lt_of_lt_of_le (Heap.lt_size e) z) (Nat.lt_irrefl _)
  have cellK:∀ x c,X.env.cells.lookup x=some c→∀ v,s.heap.IsCell c v→h'.IsCell c v:=fun x c e v ⟨o,ho,hd⟩=>by
    have TQ:c∉ch:=fun z=>(Lz c z).2.2.1 x c e rfl
    by_cases hc:c∈X.fs
    · obtain ⟨sl,q⟩:=slot c o (I.PZ x c e) hc TQ ho (I.mU x c e)
      exact ⟨_,q,hd⟩
    · exact ⟨o,keep c o (I.PZ x c e) hc TQ ho (I.mU x c e),hd⟩
  refine ⟨I.ok,I.os,hg,⟨fun b o e n hb hx=>?_,fun b o e n hb hx=>?_,fun b o e n hx=>?_,fun b o e hx=>?_,fun b xs e=>ya b xs (I.base.ya b xs e),fun b o xs e=>vK b o xs (I.base.vK b o xs e),fun b ps e=>?_⟩,?_,fun x c e=>?_,?_,fun x c e=>?_,fun p hp=>?_,gm,I.len⟩
  · exact keep b o (neL b o e) hb (Xk b o e hx) (I.base.keep b o e n hb hx) (I.base.free b o e n hx)
  · obtain ⟨sl,e1⟩:=I.base.slot b o e n hb hx
    obtain ⟨sl',e2⟩:=slot b _ (neL b o e) hb (Xk b o e hx) e1 (I.base.free b o e n hx)
    exact ⟨sl',e2⟩
  · obtain ⟨o',e1⟩:=I.base.there b o e hx
    exact free b o' (Xk b o e hx) e1 (I.base.free b o e n hx)
  · obtain ⟨o',e1⟩:=I.base.there b o e hx
    exact there b o' (Xk b o e hx) e1
  · obtain ⟨m1,e1⟩:=I.base.yb b ps e
    obtain ⟨m2,e2⟩:=yb b _ e1
    exact ⟨m1++m2,by rw [e2,Array.append_assoc]⟩
  · obtain ⟨m,hn,hl⟩:=I.loc
    refine ⟨m,ns m hn,fun i x v e1 e2 e3=>?_⟩
    obtain ⟨u,r,l⟩:=hl i x v e1 e2 e3
    refine ⟨u,r,?_⟩
    rcases l with l | ⟨k,c,e,z⟩
    · exact .inl l
    · exact .inr ⟨k,c,e,cellK x c e _ z⟩
  · obtain ⟨v,z⟩:=I.cell x c e
    exact ⟨v,cellK x c e v z⟩
  · obtain ⟨m,⟨o,_,_,ho,_⟩,_⟩:=I.loc
    exact free _ o (fun z=>(Lz _ z).2.1 rfl) ho I.free
  · obtain ⟨v,o,ho,hd⟩:=I.cell x c e
    exact free c o (fun z=>(Lz c z).2.2.1 x c e rfl) ho (I.mU x c e)
  · obtain ⟨e,n,ne,nf,d⟩:=I.pin p hp
    have TQ:p.1∉ch:=fun z=>(Lz p.1 z).2.2.2 p hp rfl
    exact ⟨keep p.1 p.2 ne nf TQ e n,free p.1 p.2 TQ e n,ne,nf,d⟩
theorem Inv.un {t':Nat} (I:Inv X pins σ H s) (u:Un X.fs [] H H' s.heap h') (gm:zJ X.prog X.w H' h'):Inv X pins σ H' { s with heap:=h',toks:=t' }:=by
  obtain ⟨m,⟨o,es,ep,ho,r⟩,_⟩:=id I.loc
  obtain ⟨sl,hL⟩:=u.any ho I.free (by simp)
  exact I.step (g':=s.gens) (d':=s.drawn) (ch:=[]) (fun _ z=>nomatch z) (fun b o _ hb _ e n=>u.keep b o e n hb (by simp)) (fun b o _ hb _ e n=>u.slot b o e n hb (by simp)) (fun b o _ e n=>u.free b o e n (by simp)) (fun b o _ e=>u.there b o e (by simp)) u.ya u.vK u.yb (fun m' hm=>by
    obtain ⟨o',es',ep',LH,r'⟩:=hm
    rw [ho] at LH;cases LH
    exact ⟨_,es',ep',hL,r'⟩) gm I.bare
theorem Inv.call {g':Array GenState} {t':Nat} {d':Drawn} {ch:List Addr} (I:Inv X pins σ H s) (u:Un (CL X.stack) ch H H' s.heap h') (gm:zJ X.prog X.w H' h') (hg:AllBare g')
    (Lz:∀ b∈ch,(b∈X.ex∨X.s₀.heap.objs.size≤b)∧b≠X.env.locals∧(∀ x c,X.env.cells.lookup x=some c→c≠b)∧∀ p∈X.pn++pins,p.1≠b):
    Inv X pins σ H' { s with heap:=h',gens:=g',drawn:=d',toks:=t' }:=by
  obtain ⟨m,⟨o,es,ep,ho,r⟩,_⟩:=id I.loc
  obtain ⟨sl,hL⟩:=u.any ho I.free fun z=>(Lz _ z).2.1 rfl
  exact I.step (ch:=ch) Lz (fun b o hL hb hc e n=>u.keep b o e n (fun z=>(List.mem_cons.mp (I.uP b z)).elim hL hb) hc) (fun b o _ _ hc e n=>u.any e n hc) (fun b o hc e n=>u.free b o e n hc) (fun b o hc e=>u.there b o e hc) u.ya u.vK u.yb (fun m' hm=>by
    obtain ⟨o',es',ep',LH,r'⟩:=hm
    rw [ho] at LH;cases LH
    exact ⟨_,es',ep',hL,r'⟩) gm hg
theorem Inv.turned {t':Nat} {it:Addr} (I:Inv X pins σ H s) (k:∀ b o,b≠it→s.heap.get? b=some o→h'.get? b=some o) (hn:H it=none) (hL:it≠X.env.locals)
    (h1:it∈X.ex∨X.s₀.heap.objs.size≤it) (h2:∀ x c,X.env.cells.lookup x=some c→c≠it) (h3:∀ p∈X.pn++pins,p.1≠it):Inv X pins σ H { s with heap:=h',toks:=t' }:=by
  have nit:∀ b u,H b=some u→b≠it:=fun b u e z=>by rw [z,hn] at e;cases e
  refine I.step (g':=s.gens) (d':=s.drawn) (ch:=[it]) (fun b hb=>?_) (fun b o _ _ hc e _=>k b o (fun z=>hc (by simp [z])) e) (fun b o _ _ hc e _=>⟨o.slots,k b o (fun z=>hc (by simp [z])) e⟩) (fun _ _ _ _ n=>n)
    (fun b o hc e=>⟨o,k b o (fun z=>hc (by simp [z])) e⟩) (fun _ _ e=>e) (fun _ _ _ e=>e) (fun b ps e=>⟨#[],by rw [e];simp⟩) (fun m hm=>?_) (fun b u e=>?_) I.bare
  · have e:b=it:=by simpa using hb
    subst e
    exact ⟨h1,hL,h2,h3⟩
  · obtain ⟨o,es,ep,ho,r⟩:=hm
    exact ⟨o,es,ep,k _ o (Ne.symm hL) ho,r⟩
  · refine (I.gm b u e).GW (fun c v hc q=>k c v ?_ q) (fun _ q=>q) fun _ _ q=>q
    rcases hc with z | z
    · rw [z];exact nit b u e
    · exact nit c _ z
theorem Inv.tok (I:Inv X pins σ H s) (t:Nat):Inv X pins σ H { s with toks:=t }:=I.un (h':=s.heap) (t':=t) Un.refl I.gm
theorem Inv.kept {t':Nat} (I:Inv X pins σ H s) (k:∀ b u,s.heap.get? b=some u→h'.get? b=some u):Inv X pins σ H { s with heap:=h',toks:=t' }:=I.un (Un.kept k) (I.gm.kept k)
theorem Inv.laid {a:Addr} {o:HO} {t':Nat} (I:Inv X pins σ H s) (k:∀ b u,s.heap.get? b=some u→h'.get? b=some u) (hp:s.heap.objs.size≤a) (new:iY X.prog X.w (upd H a o) h' a o):
    Inv X pins σ (upd H a o) { s with heap:=h',toks:=t' }:=I.un (Un.laid k hp (I.gm.fresh hp)) (I.gm.laid k hp new)
theorem Inv.write {x e:Addr} {o:HO} {t':Nat} (I:Inv X pins σ H s) (mu:Xi (H x)) (he:e=x∨H e=some (.own x)) (k:∀ b u,b≠e→s.heap.get? b=some u→h'.get? b=some u) (Tn:∃ u,h'.get? e=some u)
    (new:iY X.prog X.w (upd H x o) h' x o):Inv X pins σ (upd H x o) { s with heap:=h',toks:=t' }:=I.un (Un.write mu he k Tn) (I.gm.write mu he k Tn new)
theorem Inv.weak {σ':List (Option V)} (I:Inv X pins σ H s) (hl:σ'.length=σ.length) (w:∀ (i:Nat) v,σ'[i]?=some (some v)→σ[i]?=some (some v)):Inv X pins σ' H s:=
  ⟨I.ok,I.os,I.bare,I.base,let ⟨m,hn,hl'⟩:=I.loc;⟨m,hn,fun i x v e1 e2 e3=>hl' i x v e1 (w i v e2) e3⟩,I.cell,I.free,I.mU,I.pin,I.gm,hl.trans I.len⟩
theorem Inv.z9 {P0:List (Addr×Obj)} (I:Inv X pins σ H s) (h:∀ p∈P0,s.heap.get? p.1=some p.2∧H p.1=none∧p.1≠X.env.locals∧p.1∉X.fs∧∀ v,p.2.data≠.cell v):Inv X P0 σ H s:=
  ⟨I.ok,I.os,I.bare,I.base,I.loc,I.cell,I.free,I.mU,fun p hp=>(List.mem_append.mp hp).elim (fun z=>I.pin p (List.mem_append_left _ z)) (h p),I.gm,I.len⟩
theorem FE {N:List Str} (hN:N.Nodup) {i j:Nat} {x:Str} (a:N[i]?=some x) (b:N[j]?=some x):i=j:=by
  obtain ⟨h1,e1⟩:=List.getElem?_eq_some_iff.mp a
  obtain ⟨h2,e2⟩:=List.getElem?_eq_some_iff.mp b
  exact (List.getElem_inj hN).mp (e1.trans e2.symm)
theorem Kq {M:Model} {A:Around} {E:Value→Shared→Prop} {i:Nat} {x:Str} {v:V} {u:Value} {Q:Unit→Shared→Prop} (I:Inv X pins σ H s) (hN:X.N.Nodup) (hi:X.N[i]?=some x) (hx:Loc X.env.scope x) (r:RelV v u)
    (h:∀ s',Inv X pins (σ.set i (some v)) H s'→(∃ a,Heap.SameBut a s.heap s'.heap∧(a=X.env.locals∨X.env.cells.lookup x=some a))→Q () s') (hf:X.fn x=true∨X.env.scope.names.lookup x=some .local:=by first | exact .inl rfl | exact .inr rfl | assumption):wpAny M A (storeName X.env x u) Q E s:=by
  obtain ⟨m,hn,hl⟩:=id I.loc
  have aaq:(X.env.scope.kind==.class||(X.env.scope.kind==.module&&X.env.locals !=X.env.globals))=false:=by rw [I.ok.kind];rfl
  have hiσ:i < σ.length:=by rw [I.len];exact (List.getElem?_eq_some_iff.mp hi).1
  have PZ:=I.PZ
  have tracked:∀ {a:Addr} {h':Heap},(∃ o,s.heap.get? a=some o∧H a=none)→Heap.SameBut a s.heap h'→zJ X.prog X.w H h':=fun {a h'} ha hs b ob e=>by
    obtain ⟨_,_,hfree⟩:=ha
    refine (I.gm b ob e).GW (fun c w' hc q=>(hs.2 c ?_).trans q) (fun _ q=>q) fun _ _ q=>q
    rintro rfl
    rcases hc with rfl | hc
    · rw [hfree] at e;cases e
    · rw [hfree] at hc;cases hc
  rcases hx with hk | hk
  · refine wpAny_storeName_local hk hn (fun h' hn' hs=>?_) aaq
    obtain ⟨oL,_,_,hoL,_⟩:=id hn
    refine h _ ⟨I.ok,I.os,I.bare,⟨fun b o e n hb hx=>?_,fun b o e n hb hx=>?_,I.base.free,fun b o e hx=>?_,I.base.ya,I.base.vK,I.base.yb⟩,⟨_,hn',fun j y v' e1 e2 e3=>?_⟩,fun y c e=>?_,I.free,I.mU,fun p hp=>?_,tracked ⟨oL,hoL,I.free⟩ hs,by simpa using I.len⟩ ⟨_,hs,.inl rfl⟩
    · exact (hs.2 b (Nat.ne_of_lt (Nat.lt_of_lt_of_le (Heap.lt_size e) I.ok.above))).trans (I.base.keep b o e n hb hx)
    · obtain ⟨sl,e1⟩:=I.base.slot b o e n hb hx
      exact ⟨sl,(hs.2 b (Nat.ne_of_lt (Nat.lt_of_lt_of_le (Heap.lt_size e) I.ok.above))).trans e1⟩
    · obtain ⟨o',e1⟩:=I.base.there b o e hx
      exact ⟨o',(hs.2 b (Nat.ne_of_lt (Nat.lt_of_lt_of_le (Heap.lt_size e) I.ok.above))).trans e1⟩
    · by_cases hj:j=i
      · subst hj
        rw [hi] at e1;cases e1
        rw [List.getElem?_set_self hiσ] at e2
        cases e2
        exact ⟨u,r,.inl ⟨hk,by simp⟩⟩
      · rw [List.getElem?_set_ne (Ne.symm hj)] at e2
        obtain ⟨u',r',q⟩:=hl j y v' e1 e2 e3
        refine ⟨u',r',?_⟩
        rcases q with ⟨k,e⟩ | ⟨k,c,e,z⟩
        · refine .inl ⟨k,?_⟩
          have:y≠x:=fun e=>hj (FE hN e1 (e ▸ hi))
          simp [this,e]
        · exact .inr ⟨k,c,e,z.sameBut hs (PZ y c e)⟩
    · obtain ⟨w',z⟩:=I.cell y c e
      exact ⟨w',z.sameBut hs (PZ y c e)⟩
    · obtain ⟨e,n,ne,nf,d⟩:=I.pin p hp
      exact ⟨(hs.2 p.1 ne).trans e,n,ne,nf,d⟩
  · have TR:X.fn x=true:=by
      rcases hf with z | z
      · exact z
      · rw [z] at hk;cases hk
    obtain ⟨c,hc⟩:=I.ok.has x (.inl hk)
    obtain ⟨w',z⟩:=I.cell x c hc
    refine wpAny_storeName_cell I.ok.kind hk hc z (fun h' hc' hs=>?_)
    obtain ⟨oc,hoc,hocd⟩:=id z
    refine h { s with heap:=h' } ⟨I.ok,I.os,I.bare,⟨fun b o e n hb hx=>?_,fun b o e n hb hx=>?_,I.base.free,fun b o e hx=>?_,I.base.ya,I.base.vK,I.base.yb⟩,⟨m,hn.sameBut hs (Ne.symm (PZ x c hc)),fun j y v' e1 e2 e3=>?_⟩,fun y c' e=>?_,I.free,I.mU,fun p hp=>?_,tracked ⟨oc,hoc,I.mU x c hc⟩ hs,by simpa using I.len⟩ ⟨c,hs,.inr hc⟩
    · exact (hs.2 b (Nat.ne_of_lt (Nat.lt_of_lt_of_le (Heap.lt_size e) (I.ok.Nz x c TR hc)))).trans (I.base.keep b o e n hb hx)
    · obtain ⟨sl,e1⟩:=I.base.slot b o e n hb hx
      exact ⟨sl,(hs.2 b (Nat.ne_of_lt (Nat.lt_of_lt_of_le (Heap.lt_size e) (I.ok.Nz x c TR hc)))).trans e1⟩
    · obtain ⟨o',e1⟩:=I.base.there b o e hx
      exact ⟨o',(hs.2 b (Nat.ne_of_lt (Nat.lt_of_lt_of_le (Heap.lt_size e) (I.ok.Nz x c TR hc)))).trans e1⟩
    · by_cases hj:j=i
      · subst hj
        rw [hi] at e1;cases e1
        rw [List.getElem?_set_self hiσ] at e2
        cases e2
        exact ⟨u,r,.inr ⟨.inl hk,c,hc,hc'⟩⟩
      · rw [List.getElem?_set_ne (Ne.symm hj)] at e2
        obtain ⟨u',r',q⟩:=hl j y v' e1 e2 e3
        refine ⟨u',r',?_⟩
        rcases q with q | ⟨k,c',e,z'⟩
        · exact .inl q
        · refine .inr ⟨k,c',e,z'.sameBut hs ?_⟩
          rintro rfl
          exact hj (FE hN e1 (I.ok.inj _ _ _ e hc ▸ hi))
    · by_cases hcc:c'=c
      · subst hcc;exact ⟨_,hc'⟩
      · obtain ⟨w2,z2⟩:=I.cell y c' e
        exact ⟨w2,z2.sameBut hs hcc⟩
    · obtain ⟨e,n,ne,nf,d⟩:=I.pin p hp
      refine ⟨(hs.2 p.1 ?_).trans e,n,ne,nf,d⟩
      intro q
      rw [q,hoc] at e
      have q':oc=p.2:=Option.some.inj e
      exact d w' (by rw [← q'];exact hocd)
theorem FF {M:Model} {A:Around} {E:Value→Shared→Prop} {i:Nat} {x:Str} {v:V} {u:Value} {Q:Unit→Shared→Prop} (I:Inv X pins σ H s) (hN:X.N.Nodup) (hi:X.N[i]?=some x) (hx:Loc X.env.scope x) (r:RelV v u)
    (h:∀ s',Inv X pins (σ.set i (some v)) H s'→Q () s') (hf:X.fn x=true∨X.env.scope.names.lookup x=some .local:=by first | exact .inl rfl | exact .inr rfl | assumption):wpAny M A (storeName X.env x u) Q E s:=
  Kq I hN hi hx r (fun s' I' _=>h s' I') hf
theorem Inv.TU {s':Shared} {ch:List Addr} (I:Inv X pins σ H s) (ho:s'.os=s.os) (u:Un (CL X.stack) ch H H' s.heap s'.heap) (gm:zJ X.prog X.w H' s'.heap) (hg:AllBare s'.gens)
    (Lz:∀ b∈ch,(b∈X.ex∨X.s₀.heap.objs.size≤b)∧b≠X.env.locals∧(∀ x c,X.env.cells.lookup x=some c→c≠b)∧∀ p∈X.pn++pins,p.1≠b):Inv X pins σ H' s':=by
  obtain ⟨h',g',d',t',o'⟩:=s'
  have e:o'=s.os:=ho
  subst e
  exact I.call (g':=g') (t':=t') (d':=d') u gm hg Lz
end
abbrev XK:=Value→Option Addr→Hp→Prop
abbrev St:=List (Option V)
abbrev VK:=V→Hp→Prop
abbrev TE:=St→Hp→VK→Prop
abbrev TT:=St→Hp→(Bool→Hp→Prop)→Prop
abbrev TA:=St→Hp→(List V→Hp→Prop)→Prop
structure Ends where
  nx:St→Hp→Prop
  rt:VK
  bk:St→Hp→Prop:=fun _ _=>False
  ct:St→Hp→Prop:=fun _ _=>False
abbrev TS:=Ends→St→Hp→Prop
def EP (X:Cx) (pins:List (Addr×Obj)) (σ:St) (Q:VK) (u:Value) (s':Shared):Prop:=∃ v H',Inv X pins σ H' s'∧RelV v u∧Q v H'
def TP (X:Cx) (pins:List (Addr×Obj)) (σ:St) (Q:Bool→Hp→Prop) (b:Bool) (s':Shared):Prop:=∃ H',Inv X pins σ H' s'∧Q b H'
def AP (X:Cx) (pins:List (Addr×Obj)) (σ:St) (Q:List V→Hp→Prop) (us:List Value) (s':Shared):Prop:=∃ vs H',Inv X pins σ H' s'∧Vals vs us∧Q vs H'
def SP (X:Cx) (pins:List (Addr×Obj)) (D:Ends) (f:Flow) (s':Shared):Prop:=
  match f with
  | .next=>∃ σ' H',Inv X pins σ' H' s'∧D.nx σ' H'
  | .brk=>∃ σ' H',Inv X pins σ' H' s'∧D.bk σ' H'
  | .cont=>∃ σ' H',Inv X pins σ' H' s'∧D.ct σ' H'
  | .ret u=>∃ v σ' H',Inv X pins σ' H' s'∧RelV v u∧D.rt v H'
def PE (X:Cx) (e:Expr) (t:TE):Prop:=
  ∀ (pins:List (Addr×Obj)) (s:Shared) (σ:St) (H:Hp) (Q:VK),Inv X pins σ H s→t σ H Q→wpAny (model X.prog X.w) X.A (eval e X.env) (EP X pins σ Q) X.xe s
def PT (X:Cx) (e:Expr) (t:TT):Prop:=
  ∀ (pins:List (Addr×Obj)) (s:Shared) (σ:St) (H:Hp) (Q:Bool→Hp→Prop),Inv X pins σ H s→t σ H Q→wpAny (model X.prog X.w) X.A (isTrue e X.env (eval e X.env)) (TP X pins σ Q) X.xe s
def PW (X:Cx) (e:Expr) (t:TT):Prop:=
  ∀ (whole:Sem Value) (pins:List (Addr×Obj)) (s:Shared) (σ:St) (H:Hp) (Q:Bool→Hp→Prop),Inv X pins σ H s→t σ H Q→wpAny (model X.prog X.w) X.A (isTrue e X.env whole) (TP X pins σ Q) X.xe s
theorem PW.pt {X:Cx} {e:Expr} {t:TT} (h:PW X e t):PT X e t:=h _
def PA (X:Cx) (es:List Expr) (t:TA):Prop:=
  ∀ (pos:Pos) (pins:List (Addr×Obj)) (s:Shared) (σ:St) (H:Hp) (Q:List V→Hp→Prop),Inv X pins σ H s→t σ H Q→wpAny (model X.prog X.w) X.A (spliced (backTo pos (starEach es X.env))) (AP X pins σ Q) X.xe s
def PS (X:Cx) (st:Stmt) (t:TS):Prop:=
  ∀ (pins:List (Addr×Obj)) (s:Shared) (σ:St) (H:Hp) (D:Ends),Inv X pins σ H s→t D σ H→wpAny (model X.prog X.w) X.A (exec st X.env) (SP X pins D) X.xe s
def Kr (X:Cx) (st:List Stmt) (t:TS):Prop:=
  ∀ (pins:List (Addr×Obj)) (s:Shared) (σ:St) (H:Hp) (D:Ends),Inv X pins σ H s→t D σ H→wpAny (model X.prog X.w) X.A (execs st X.env) (SP X pins D) X.xe s
theorem eo {α:Type} {t:Sem α} {Q Q':α→Shared→Prop} {M:Model} {A:Around} {E:Value→Shared→Prop} {s:Shared} (h:wpAny M A t Q E s) (hQ:∀ a s,Q a s→Q' a s):wpAny M A t Q' E s:=wpAny_mono h hQ fun _ _ x=>x
end L2
namespace L2
open PySem PySem.Spec PyProof.Rows
section
variable {X:Cx}
def jy (i:Nat):TE:=fun σ H Q=>∃ v,σ[i]?=some (some v)∧Q v H
def tC (v:V):TE:=fun _ H Q=>Q v H
theorem Qu {i:Nat} {x:Str} {pos:Pos} (hN:X.N[i]?=some x) (hv:TM X.env.scope x) (hd:(x==("__debug__":Str))=false:=by decide) (Du:(x==("__classdict__":Str))=false:=by decide):PE X (.Name x pos) (jy i):=by
  intro pins s σ H Q I h
  obtain ⟨v,e,h⟩:=h
  obtain ⟨m,hn,hl⟩:=I.loc
  obtain ⟨u,r,l⟩:=hl i x v hN e hv
  have fin:EP X pins σ Q u s:=⟨v,H,I,r,h⟩
  rcases l with ⟨hk,hm⟩ | ⟨hk,c,hc,hcell⟩
  · exact wpAny_Name (wpAny_loadName_local I.ok.kind hk hn hm fin) hd
  · rcases hk with hk | hk
    · exact wpAny_Name (wpAny_loadName_cell I.ok.kind hk hc hcell fin) hd
    · exact wpAny_Name (wpAny_loadName_free I.ok.kind hk hc hcell fin Du) hd
theorem GY {i j pos}:PE X (.Constant (.int i) j pos) (tC (.int i)):=fun _ _ _ H _ I h=>wpAny_Constant_int ⟨.int i,H,I.tok _,⟨_,rfl⟩,h⟩
theorem TV {b j pos}:PE X (.Constant (.bool b) j pos) (tC (.bl b)):=fun _ _ _ H _ I h=>Constant_bool ⟨.bl b,H,I,rfl,h⟩
theorem Qv {j pos}:PE X (.Constant .none j pos) (tC .eO):=fun _ _ _ H _ I h=>Constant_none ⟨.eO,H,I,rfl,h⟩
theorem Qw {x j pos}:PE X (.Constant (.str x) j pos) (tC (.str x)):=fun _ _ _ H _ I h=>Calls.Constant_str ⟨.str x,H,I.tok _,⟨_,rfl⟩,h⟩
def Gl (X:Cx) (x:Str):Prop:=X.env.kindOf x=some .globalImplicit
theorem p7 {E:Value→Shared→Prop} {pins:List (Addr×Obj)} {s:Shared} {σ:St} {H:Hp} {x:Str} {u:Value} {pos:Pos} {Q:Value→Shared→Prop} (I:Inv X pins σ H s) (hg:Gl X x) (hm:X.mg x=some u) (h:Q u s)
    (hd:(x==("__debug__":Str))=false:=by decide):wpAny (model X.prog X.w) X.A (eval (.Name x pos) X.env) Q E s:=
  Calls.Name_function_global I.ok.kind hg (Calls.loadGlobal_global (by rw [I.ok.glob];exact I.mod.glob.keeps I.bk) hm h) hd
theorem Ay {E:Value→Shared→Prop} {pins:List (Addr×Obj)} {s:Shared} {σ:St} {H:Hp} {x:Str} {u:Value} {pos:Pos} {Q:Value→Shared→Prop} (I:Inv X pins σ H s) (hg:Gl X x) (hm:X.mg x=none) (hv:bootBuiltins x=some u) (h:Q u s)
    (hn:x≠"__name__":=by decide) (hd:(x==("__debug__":Str))=false:=by decide):wpAny (model X.prog X.w) X.A (eval (.Name x pos) X.env) Q E s:=by
  obtain ⟨mb,h1,h2⟩:=I.mod.blt
  exact Calls.Name_function_global I.ok.kind hg (Calls.loadGlobal_builtin (by rw [I.ok.glob];exact I.mod.glob.keeps I.bk) hm (by rw [I.ok.blt];exact h1.keeps I.bk) ((h2 x hn).trans hv) h) hd
theorem NB {x:Str} {v:V} {u:Value} {pos:Pos} (hg:Gl X x) (hm:X.mg x=some u) (r:RelV v u) (hd:(x==("__debug__":Str))=false:=by decide):PE X (.Name x pos) (tC v):=
  fun _ _ _ H _ I h=>p7 I hg hm ⟨v,H,I,r,h⟩ hd
theorem NC {x:Str} {v:V} {u:Value} {pos:Pos} (hg:Gl X x) (hm:X.mg x=none) (hv:bootBuiltins x=some u) (r:RelV v u) (hn:x≠"__name__":=by decide) (hd:(x==("__debug__":Str))=false:=by decide):PE X (.Name x pos) (tC v):=
  fun _ _ _ H _ I h=>Ay I hg hm hv ⟨v,H,I,r,h⟩ hn hd
variable {a b:Expr} {ta tb:TE} {pos:Pos}
def tB (t:TE):TT:=fun σ H Q=>t σ H fun x H1=>∃ c,x=.bl c∧Q c H1
theorem Qx {e:Expr} {t:TE} (h:PE X e t) (he:∀ whole,isTrue e X.env whole=(do let v ← whole;standAt e.pos;holding [v] (truthy v)):=by intro _;rfl):PT X e (tB t):=by
  intro pins s σ H Q I hw
  refine isTrue_plain (eo (h pins s σ H _ I hw) fun v s1 ⟨x,H1,I1,r1,q1⟩=>?_) (he _)
  obtain ⟨d,rfl,q⟩:=q1
  cases r1
  exact wpAny_truthy_bool ⟨H1,I1,q⟩
variable {tA ND:TT} {rest:List Expr}
def jQ (t u:TT):TT:=fun σ H Q=>t σ H fun c H1=>if c=true then u σ H1 Q else Q false H1
def xV (t u:TT):TT:=fun σ H Q=>t σ H fun c H1=>if c=true then Q true H1 else u σ H1 Q
def jR (t:TT):TT:=fun σ H Q=>t σ H fun c H1=>Q (!c) H1
theorem pw_and1 (ha:PT X a tA):PW X (.BoolOp .And [a] pos) tA:=by
  intro wh pins s σ H Q I h
  refine isTrue_and (eo (ha pins s σ H Q I h) fun c s1 e=>?_)
  cases c with
  | true=>exact isTrue_and_nil e
  | false=>exact e
theorem pw_or1 (ha:PT X a tA):PW X (.BoolOp .Or [a] pos) tA:=by
  intro wh pins s σ H Q I h
  refine isTrue_or (eo (ha pins s σ H Q I h) fun c s1 e=>?_)
  cases c with
  | false=>exact isTrue_or_nil e
  | true=>exact e
theorem pw_and (ha:PT X a tA) (hb:PW X (.BoolOp .And (b::rest) pos) ND):PW X (.BoolOp .And (a::b::rest) pos) (jQ tA ND):=by
  intro wh pins s σ H Q I h
  refine isTrue_and (eo (ha pins s σ H _ I h) fun c s1 ⟨H1,I1,q1⟩=>?_)
  cases c with
  | true=>exact hb wh pins s1 σ H1 Q I1 q1
  | false=>exact ⟨H1,I1,q1⟩
theorem pw_or (ha:PT X a tA) (hb:PW X (.BoolOp .Or (b::rest) pos) ND):PW X (.BoolOp .Or (a::b::rest) pos) (xV tA ND):=by
  intro wh pins s σ H Q I h
  refine isTrue_or (eo (ha pins s σ H _ I h) fun c s1 ⟨H1,I1,q1⟩=>?_)
  cases c with
  | true=>exact ⟨H1,I1,q1⟩
  | false=>exact hb wh pins s1 σ H1 Q I1 q1
theorem Qy (ha:PT X a tA):PT X (.UnaryOp .Not a pos) (jR tA):=by
  intro pins s σ H Q I h
  exact isTrue_not (ha pins s σ H (fun c H1=>Q (!c) H1) I h)
def fC (ta tb:TE):TE:=fun σ H Q=>ta σ H fun x H1=>∃ c,x=.bl c∧if c=true then tb σ H1 Q else Q (.bl false) H1
def jS (ta tb:TE):TE:=fun σ H Q=>ta σ H fun x H1=>∃ c,x=.bl c∧if c=true then Q (.bl true) H1 else tb σ H1 Q
def fD (ta:TE):TE:=fun σ H Q=>ta σ H fun x H1=>∃ c,x=.bl c∧Q (.bl (!c)) H1
theorem Qz {op} {t:TE} (h:PE X a t):PE X (.BoolOp op [a] pos) t:=fun pins s σ H Q I hw=>BoolOp_one (h pins s σ H Q I hw)
theorem QA (ha:PE X a ta) (hb:PE X (.BoolOp .And (b::rest) pos) tb):PE X (.BoolOp .And (a::b::rest) pos) (fC ta tb):=by
  intro pins s σ H Q I h
  refine BoolOp_and (eo (ha pins s σ H _ I h) fun v s1 ⟨x,H1,I1,r1,q1⟩=>?_)
  obtain ⟨c,rfl,q1⟩:=q1
  cases r1
  refine wpAny_truthy_bool ?_
  cases c with
  | true=>exact hb pins s1 σ H1 Q I1 q1
  | false=>exact ⟨.bl false,H1,I1,rfl,q1⟩
theorem TX (ha:PE X a ta) (hb:PE X (.BoolOp .Or (b::rest) pos) tb):PE X (.BoolOp .Or (a::b::rest) pos) (jS ta tb):=by
  intro pins s σ H Q I h
  refine BoolOp_or (eo (ha pins s σ H _ I h) fun v s1 ⟨x,H1,I1,r1,q1⟩=>?_)
  obtain ⟨c,rfl,q1⟩:=q1
  cases r1
  refine wpAny_truthy_bool ?_
  cases c with
  | false=>exact hb pins s1 σ H1 Q I1 q1
  | true=>exact ⟨.bl true,H1,I1,rfl,q1⟩
theorem QB (ha:PE X a ta):PE X (.UnaryOp .Not a pos) (fD ta):=by
  intro pins s σ H Q I h
  refine UnaryOp_ (eo (ha pins s σ H _ I h) fun v s1 ⟨x,H1,I1,r1,q1⟩=>?_)
  obtain ⟨c,rfl,q1⟩:=q1
  cases r1
  exact not_of (wpAny_truthy_bool ⟨.bl (!c),H1,I1,rfl,q1⟩)
def xW (t:TT) (ta tb:TE):TE:=fun σ H Q=>t σ H fun c H1=>if c=true then ta σ H1 Q else tb σ H1 Q
theorem LI {c:Expr} (hc:PT X c tA) (ha:PE X a ta) (hb:PE X b tb):PE X (.IfExp c a b pos) (xW tA ta tb):=by
  intro pins s σ H Q I h
  refine wpAny_IfExp (eo (hc pins s σ H _ I h) fun d s1 ⟨H1,I1,q1⟩=>?_)
  cases d with
  | true=>exact ha pins s1 σ H1 Q I1 q1
  | false=>exact hb pins s1 σ H1 Q I1 q1
end
end L2
namespace L2
open PySem PySem.Spec PyProof.Rows
def fE (K:PySem.W.Frag) (H:Hp) (a:Addr) (xs:List V):Prop:=
  Rd H a (.lst xs)∨
    ∃ (o:Obj) (its:Array Value) (n:Nat),K.lookup a=some o∧o.cls=.type "list"∧o.dict=none∧o.data=.seq its n∧its.size≤sizeLine∧Vals xs its.toList
def uQ (K:PySem.W.Frag) (H:Hp) (a:Addr) (xs:List V):Prop:=
  Rd H a (.tup xs)∨
    ∃ (o:Obj) (its:Array Value) (n:Nat),K.lookup a=some o∧o.cls=.type "tuple"∧o.data=.seq its n∧its.size≤sizeLine∧Vals xs its.toList
def FG:Value→Option V
  | .none=>some .eO
  | .bool b=>some (.bl b)
  | .int i _=>some (.int i)
  | .str x _=>some (.str x)
  | .bytes b _=>some (.IZ b)
  | .float b _=>some (.Qp b)
  | .ref a=>some (.ref a)
  | .type n=>some (.ty n)
  | _=>none
theorem RelV.abs {x:V} {u:Value} (r:RelV x u):FG u=some x:=by
  cases x with
  | eO=>cases r;rfl
  | bl _=>cases r;rfl
  | int _=>obtain ⟨t,rfl⟩:=r;rfl
  | str _=>obtain ⟨t,rfl⟩:=r;rfl
  | IZ _=>obtain ⟨t,rfl⟩:=r;rfl
  | Qp _=>obtain ⟨t,rfl⟩:=r;rfl
  | ref _=>cases r;rfl
  | ty _=>cases r;rfl
theorem RelV.inj {x y:V} {u:Value} (r:RelV x u) (q:RelV y u):x=y:=Option.some.inj (r.abs.symm.trans q.abs)
theorem Vals.inj:∀ {xs ys:List V} {us:List Value},Vals xs us→Vals ys us→xs=ys
  | _,_,_,.nil,.nil=>rfl
  | _,_,_,.cons r t,.cons r' t'=>by rw [r.inj r',Vals.inj t t']
section
variable {X:Cx} {pins:List (Addr×Obj)} {σ:St} {H:Hp} {s:Shared} {a:Addr} {xs ys:List V}
theorem fE.of {K:PySem.W.Frag} (h:H a=some (.lst xs)):fE K H a xs:=.inl (.inl h)
theorem uQ.of {K:PySem.W.Frag} (h:H a=some (.tup xs)):uQ K H a xs:=.inl (.inl h)
theorem Inv.list (I:Inv X pins σ H s) (h:fE X.K H a xs):∃ its:List Value,Vals xs its∧PlainL s.heap a its.toArray∧xs.length≤sizeLine:=by
  rcases h with h | ⟨o,its,n,hk,hc,hd,hs,hz,r⟩
  · obtain ⟨z,its,n,r,e⟩:=h.ok I.gm
    exact ⟨its,r,⟨_,n,e,rfl,rfl,rfl⟩,z⟩
  · refine ⟨its.toList,r,⟨o,n,I.nJ a o hk,hc,hd,by simpa using hs⟩,?_⟩
    have e:=r.length
    simp only [Array.length_toList] at e
    omega
theorem Inv.tuple (I:Inv X pins σ H s) (h:uQ X.K H a xs):∃ its:List Value,Vals xs its∧IsTup s.heap a its.toArray∧xs.length≤sizeLine:=by
  rcases h with h | ⟨o,its,n,hk,hc,hs,hz,r⟩
  · obtain ⟨z,its,r,p⟩:=h.ok I.gm
    exact ⟨its,r,p,z⟩
  · refine ⟨its.toList,r,⟨o,I.nJ a o hk,hc,n,by simpa using hs⟩,?_⟩
    have e:=r.length
    simp only [Array.length_toList] at e
    omega
theorem Inv.FH (I:Inv X pins σ H s) (h:fE X.K H a xs) (h':fE X.K H a ys):xs=ys:=by
  obtain ⟨its,r,⟨o,n,e,_,_,d⟩,_⟩:=I.list h
  obtain ⟨its',r',⟨o',n',e',_,_,d'⟩,_⟩:=I.list h'
  rw [e] at e';cases e'
  rw [d] at d'
  injection d' with d1 _
  have:its=its':=by simpa using congrArg Array.toList d1
  subst this
  exact r.inj r'
theorem Inv.Ks (I:Inv X pins σ H s) (h:uQ X.K H a xs) (h':uQ X.K H a ys):xs=ys:=by
  obtain ⟨its,r,⟨o,e,_,n,d⟩,_⟩:=I.tuple h
  obtain ⟨its',r',⟨o',e',_,n',d'⟩,_⟩:=I.tuple h'
  rw [e] at e';cases e'
  rw [d] at d'
  injection d' with d1 _
  have:its=its':=by simpa using congrArg Array.toList d1
  subst this
  exact r.inj r'
end
abbrev Cx.zK (X:Cx) (E:Value→Shared→Prop):Cx:={ X with xe:=E }
abbrev Cx.Jd (X:Cx):Cx:=X.zK fun _ _=>False
theorem Cx.Ok.zK {X:Cx} (ok:X.Ok) (E:Value→Shared→Prop):(X.zK E).Ok:=
  ⟨ok.mod,ok.kind,ok.glob,ok.blt,ok.above,ok.inj,ok.has,ok.Nz,ok.hd,ok.frames,ok.Qs,ok.TN,ok.bs,ok.Jb,ok.FD,ok.GX,ok.rD,ok.LG⟩
theorem Cx.Ok.oz {X:Cx} {E:Value→Shared→Prop} (ok:(X.zK E).Ok):X.Ok:=
  ⟨ok.mod,ok.kind,ok.glob,ok.blt,ok.above,ok.inj,ok.has,ok.Nz,ok.hd,ok.frames,ok.Qs,ok.TN,ok.bs,ok.Jb,ok.FD,ok.GX,ok.rD,ok.LG⟩
section
variable {X:Cx} {pins:List (Addr×Obj)} {σ:St} {H:Hp} {s:Shared} {E:Value→Shared→Prop}
theorem Inv.zK (I:Inv X pins σ H s) (E:Value→Shared→Prop):Inv (X.zK E) pins σ H s:=⟨I.ok.zK E,I.os,I.bare,I.base,I.loc,I.cell,I.free,I.mU,I.pin,I.gm,I.len⟩
theorem Inv.oz (I:Inv (X.zK E) pins σ H s):Inv X pins σ H s:=⟨I.ok.oz,I.os,I.bare,I.base,I.loc,I.cell,I.free,I.mU,I.pin,I.gm,I.len⟩
theorem SP.oz {D:Ends} {f:Flow} {s':Shared} (h:SP (X.zK E) pins D f s'):SP X pins D f s':=by
  cases f with
  | next=>obtain ⟨σ',H',I,q⟩:=h;exact ⟨σ',H',I.oz,q⟩
  | brk=>obtain ⟨σ',H',I,q⟩:=h;exact ⟨σ',H',I.oz,q⟩
  | cont=>obtain ⟨σ',H',I,q⟩:=h;exact ⟨σ',H',I.oz,q⟩
  | ret u=>obtain ⟨v,σ',H',I,r,q⟩:=h;exact ⟨v,σ',H',I.oz,r,q⟩
theorem PE.Jd {e:Expr} {t:TE} (h:PE X.Jd e t):PE X e t:=fun pins s σ H Q I hw=>
  wpAny_mono (h pins s σ H Q (I.zK _) hw) (fun _ _ ⟨v,H',I',r,q⟩=>⟨v,H',I'.oz,r,q⟩) fun _ _ z=>False.elim z
theorem PT.Jd {e:Expr} {t:TT} (h:PT X.Jd e t):PT X e t:=fun pins s σ H Q I hw=>
  wpAny_mono (h pins s σ H Q (I.zK _) hw) (fun _ _ ⟨H',I',q⟩=>⟨H',I'.oz,q⟩) fun _ _ z=>False.elim z
theorem Kr.Jd {st:List Stmt} {t:TS} (h:Kr X.Jd st t):Kr X st t:=fun pins s σ H D I hw=>
  wpAny_mono (h pins s σ H D (I.zK _) hw) (fun _ _ q=>q.oz) fun _ _ z=>False.elim z
end
section
variable {X:Cx} {st:Stmt} {rest:List Stmt} {t u:TS} {e:Expr} {te:TE} {pos:Pos}
def fF:TS:=fun D σ H=>D.nx σ H
def jT (t u:TS):TS:=fun D σ H=>t { D with nx:=u D } σ H
theorem NF:Kr X [] fF:=fun _ _ σ H _ I h=>wpAny_execs_nil ⟨σ,H,I,h⟩
theorem LJ (h1:PS X st t) (h2:Kr X rest u):Kr X (st::rest) (jT t u):=by
  intro pins s σ H D I h
  refine wpAny_execs_cons (eo (h1 pins s σ H { D with nx:=u D } I h) fun f s1 q=>?_)
  cases f with
  | next=>
    obtain ⟨σ',H',I',q⟩:=q
    exact h2 pins s1 σ' H' D I' q
  | ret v=>exact q
  | brk=>exact q
  | cont=>exact q
theorem NG (h1:PS X st t):Kr X [st] t:=by
  intro pins s σ H D I h
  refine wpAny_execs_cons (eo (h1 pins s σ H D I h) fun f s1 q=>?_)
  cases f with
  | next=>exact wpAny_execs_nil q
  | ret v=>exact q
  | brk=>exact q
  | cont=>exact q
theorem Inv.quiet {pins:List (Addr×Obj)} {σ:St} {H:Hp} {s:Shared} (I:Inv X pins σ H s):interactive X.env=false:=by simp [interactive,I.ok.kind]
def fG (te:TE):TS:=fun D σ H=>te σ H fun _ H1=>D.nx σ H1
theorem NH (he:PE X e te) (hs:swapsWith e none pos.line X.env=pure false:=by rfl):PS X (.Expr e pos) (fG te):=by
  intro pins s σ H D I h
  exact wpAny_Expr_any (eo (he pins s σ H _ I h) fun v s1 ⟨x,H1,I1,r1,q1⟩=>⟨σ,H1,I1,q1⟩) I.quiet hs
def jU (te:TE):TS:=fun D σ H=>te σ H D.rt
theorem QC (he:PE X e te):PS X (.Return (some e) pos) (jU te):=by
  intro pins s σ H D I h
  exact wpAny_Return_some (eo (he pins s σ H _ I h) fun v s1 ⟨x,H1,I1,r1,q1⟩=>⟨x,σ,H1,I1,r1,q1⟩)
def gn:TS:=fun D _ H=>D.rt .eO H
def jV (c:TT) (t u:TS):TS:=fun D σ H=>c σ H fun b H1=>if b=true then t D σ H1 else u D σ H1
theorem TY {c:Expr} {a b:List Stmt} {tc:TT} (hc:PT X c tc) (ha:Kr X a t) (hb:Kr X b u):PS X (.If c a b pos) (jV tc t u):=by
  intro pins s σ H D I h
  refine wpAny_If (eo (hc pins s σ H _ I h) fun d s1 ⟨H1,I1,q1⟩=>?_)
  cases d with
  | true=>exact ha pins s1 σ H1 D I1 q1
  | false=>exact hb pins s1 σ H1 D I1 q1
def dj:TS:=fun _ _ _=>False
theorem LK:PS X st dj:=fun _ _ _ _ _ _ h=>h.elim
end
abbrev TG:=V→St→Hp→(St→Hp→Prop)→Prop
abbrev GZ:=List V→St→Hp→(St→Hp→Prop)→Prop
def PG (X:Cx) (target:Expr) (t:TG):Prop:=
  ∀ (pins:List (Addr×Obj)) (s:Shared) (σ:St) (H:Hp) (v:V) (u:Value) (Q:St→Hp→Prop),Inv X pins σ H s→RelV v u→t v σ H Q→
    wpAny (model X.prog X.w) X.A (assign target X.env u) (fun _ s'=>∃ σ' H',Inv X pins σ' H' s'∧Q σ' H') X.xe s
def TZ (X:Cx) (ts:List Expr) (t:GZ):Prop:=
  ∀ (pins:List (Addr×Obj)) (s:Shared) (σ:St) (H:Hp) (vs:List V) (us:List Value) (Q:St→Hp→Prop),Inv X pins σ H s→Vals vs us→t vs σ H Q→
    wpAny (model X.prog X.w) X.A (assignInOrder ((assignEach ts X.env).map (·.2)) us) (fun _ s'=>∃ σ' H',Inv X pins σ' H' s'∧Q σ' H') X.xe s
abbrev NI:=V→V→V→Hp→(Hp→Prop)→Prop
def QD (X:Cx) (t:NI):Prop:=
  ∀ (pins:List (Addr×Obj)) (s:Shared) (σ:St) (H:Hp) (o i v:V) (ov iv u:Value) (Q:Hp→Prop),Inv X pins σ H s→RelV o ov→RelV i iv→RelV v u→t o i v H Q→
    wpAny (model X.prog X.w) X.A (setItem ov iv u) (fun _ s'=>∃ H',Inv X pins σ H' s'∧Q H') X.xe s
section
variable {X:Cx} {pos:Pos}
def cY (i:Nat):TG:=fun v σ H Q=>Q (σ.set i (some v)) H
theorem Dv {i:Nat} {x:Str} (hN:X.N.Nodup) (hi:X.N[i]?=some x) (hx:Loc X.env.scope x) (hf:X.fn x=true∨X.env.scope.names.lookup x=some .local:=by first | exact .inl rfl | exact .inr rfl | assumption):PG X (.Name x pos) (cY i):=by
  intro pins s σ H v u Q I r h
  exact wpAny_assign_Name (FF I hN hi hx r (fun s' I'=>⟨_,H,I',h⟩) hf)
def jW:GZ:=fun vs σ H Q=>vs=[]∧Q σ H
def fm (t:TG) (u:GZ):GZ:=fun vs σ H Q=>∃ v r,vs=v::r∧t v σ H fun σ' H'=>u r σ' H' Q
theorem NJ:TZ X [] jW:=by
  intro pins s σ H vs us Q I r h
  obtain ⟨e,h⟩:=h
  subst e
  cases r
  exact assignInOrder_nil ⟨σ,H,I,h⟩
theorem LL {e:Expr} {es:List Expr} {t:TG} {u:GZ} (h1:PG X e t) (h2:TZ X es u)
    (hs:(assignEach (e::es) X.env).map (·.2)=assign e X.env::(assignEach es X.env).map (·.2):=by rfl):TZ X (e::es) (fm t u):=by
  intro pins s σ H vs us Q I r h
  obtain ⟨v,vr,e1,h⟩:=h
  subst e1
  cases r with
  | cons r rr=>
    rw [hs]
    refine assignInOrder_cons (eo (h1 pins s σ H _ _ _ I r h) fun _ s1 ⟨σ1,H1,I1,q1⟩=>?_)
    exact h2 pins s1 σ1 H1 _ _ Q I1 rr q1
def aar (K:PySem.W.Frag) (n:Nat) (t:GZ):TG:=fun v σ H Q=>∃ a xs,v=.ref a∧uQ K H a xs∧xs.length=n∧t xs σ H Q
theorem QE {es:List Expr} {k:Nat} {t:GZ} {n:Nat} (hc:X.calm=true) (h:TZ X es t)
    (hn:(assignEach es X.env).length=n:=by rfl) (G6:(assignEach es X.env).findIdx? (·.1)=none:=by rfl):PG X (.Tuple es k pos) (aar X.K n t):=by
  intro pins s σ H v u Q I r hw
  obtain ⟨a,xs,e1,hq,hl,hw⟩:=hw
  subst e1
  cases r
  obtain ⟨its,rv,ht,hz⟩:=I.tuple hq
  refine assign_Tuple_tuple (I.ok.hd hc) ht (by simp [hn,← hl,rv.length]) G6 fun h' hx=>?_
  have I1:Inv X pins σ H { s with heap:=h' }:=I.kept (t':=s.toks) fun b o e=>hx b o (Nat.ne_of_lt (Heap.lt_size e)) e
  exact h pins _ σ H xs _ Q I1 (by simpa using rv) hw
def jX (to ti:TE) (t:NI):TG:=fun v σ H Q=>to σ H fun o H1=>ti σ H1 fun i H2=>t o i v H2 fun H3=>Q σ H3
theorem QF {o i:Expr} {to ti:TE} {t:NI} (ho:PE X o to) (hi:PE X i ti) (hs:QD X t)
    (ha:∀ v,assign (.Subscript o i pos) X.env v=(do
      let ov ← holding [v] (eval o X.env)
      let iv ← holding [v,ov] (eval i X.env)
      standAt pos
      holding [v,ov,iv] (setItem ov iv v)
      release [v,ov,iv] []):=by intro _;rfl):PG X (.Subscript o i pos) (jX to ti t):=by
  intro pins s σ H v u Q I r h
  rw [ha]
  refine wpAny_bind (wpAny_holding (eo (ho pins s σ H _ I h) fun ov s1 ⟨x,H1,I1,r1,q1⟩=>?_))
  refine wpAny_bind (wpAny_holding (eo (hi pins s1 σ H1 _ I1 q1) fun iv s2 ⟨y,H2,I2,r2,q2⟩=>?_))
  refine wpAny_bind (wpAny_standAt (wpAny_bind (wpAny_holding (eo (hs pins s2 σ H2 x y v ov iv u _ I2 r1 r2 r q2) fun _ s3 ⟨H3,I3,q3⟩=>?_))))
  exact wpAny_release ⟨σ,H3,I3,q3⟩
def iZ (te:TE) (g:TG):TS:=fun D σ H=>te σ H fun x H1=>g x σ H1 D.nx
theorem QG {tg e:Expr} {te:TE} {g:TG} (he:PE X e te) (hg:PG X tg g) (hs:swapsWithSole [tg] e pos.line X.env=pure false:=by rfl) (hw:swappedStores [tg] e X.env=pure none:=by rfl)
    (h1:(assignEach [tg] X.env).map (·.2)=[assign tg X.env]:=by rfl):PS X (.Assign [tg] e pos) (iZ te g):=by
  intro pins s σ H D I h
  refine wpAny_Assign_stores (eo (he pins s σ H _ I h) fun v s1 ⟨x,H1,I1,r1,q1⟩=>?_) hs hw
  rw [h1]
  exact eo (hg pins s1 σ H1 x v _ I1 r1 q1) fun _ s2 q=>q
theorem QH {i:Nat} {x:Str} {e:Expr} {te:TE} {pos':Pos} (hN:X.N.Nodup) (hi:X.N[i]?=some x) (hx:Loc X.env.scope x) (he:PE X e te) (hs:swapsWith e (some (.Name x pos')) pos.line X.env=pure false:=by rfl) (hf:X.fn x=true∨X.env.scope.names.lookup x=some .local:=by first | exact .inl rfl | exact .inr rfl | assumption):
    PS X (.Assign [.Name x pos'] e pos) (iZ te (cY i)):=by
  intro pins s σ H D I h
  refine wpAny_Assign_Name (eo (he pins s σ H _ I h) fun v s1 ⟨y,H1,I1,r1,q1⟩=>?_) hs
  exact FF I1 hN hi hx r1 (fun s2 I2=>⟨_,H1,I2,q1⟩) hf
end
section
variable {X:Cx} {pos:Pos}
end
structure It where
  go:Nat→Hp→Prop
  P1:Nat→Hp→V→Hp→Prop
  stop:Nat→Hp→Prop
def tZ (X:Cx) (pins:List (Addr×Obj)) (H:Hp) (b:Addr):Prop:=
  H b=none∧b≠X.env.locals∧b∉X.fs∧(b∈X.ex∨X.s₀.heap.objs.size≤b)∧(∀ x c,X.env.cells.lookup x=some c→c≠b)∧∀ p∈X.pn++pins,p.1≠b
theorem Inv.NK {X:Cx} {pins:List (Addr×Obj)} {σ:St} {H H':Hp} {s:Shared} {b:Addr} (I:Inv X pins σ H s) (hb:s.heap.objs.size≤b) (hn:H' b=none):tZ X pins H' b:=by
  refine ⟨hn,Nat.ne_of_gt (Nat.lt_of_lt_of_le I.lt hb),I.Qt hb,.inr (Nat.le_trans I.sz hb),fun x c e z=>?_,fun p hp z=>?_⟩
  · obtain ⟨v,q⟩:=I.cell x c e
    exact absurd (Nat.lt_of_lt_of_le q.lt (by rw [z];exact hb)) (Nat.lt_irrefl _)
  · exact absurd (Nat.lt_of_lt_of_le (Heap.lt_size (I.pin p hp).1) (by rw [z];exact hb)) (Nat.lt_irrefl _)
structure Turn (P:Program) (w:World) (K:PySem.W.Frag) (tg:Expr) (J:It) (fp:List Addr) (it:Addr) (tn:Nat→Heap→Prop):Prop where
  mem:it∈fp
  obj:∀ i h,tn i h→∀ b∈fp,∃ o,h.get? b=some o∧∀ v,o.data≠.cell v
  keep:∀ i h h',tn i h→(∀ b∈fp,∀ o,h.get? b=some o→h'.get? b=some o)→tn i h'
  item:∀ (X:Cx),X.prog=P→X.w=w→X.K=K→X.calm=true→∀ (i:Nat) (pins:List (Addr×Obj)) (s:Shared) (σ:St) (H:Hp) (E:Value→Shared→Prop),Inv X pins σ H s→(∀ b∈fp,tZ X pins H b)→tn i s.heap→J.go i H→
    wpAny (model P w) X.A (pyNext (.ref it)) (fun r s1=>∃ u,r=some u∧
      wpAny (model P w) X.A (letOwnedTupleGo tg (.ref it) u) (fun _ s2=>∃ x H',Inv X pins σ H' s2∧RelV x u∧J.P1 i H x H'∧tn (i + 1) s2.heap∧∀ b∈fp,H' b=none) E s1) E s
  done:∀ (X:Cx),X.prog=P→X.w=w→X.K=K→X.calm=true→∀ (i:Nat) (pins:List (Addr×Obj)) (s:Shared) (σ:St) (H:Hp) (E:Value→Shared→Prop),Inv X pins σ H s→(∀ b∈fp,tZ X pins H b)→tn i s.heap→J.stop i H→
    wpAny (model P w) X.A (pyNext (.ref it)) (fun r s1=>r=none∧Inv X pins σ H s1) E s
  self:∀ (A:Around) (i:Nat) (s:Shared) (Q:Value→Shared→Prop) (E:Value→Shared→Prop),tn i s.heap→Q (.ref it) s→wpAny (model P w) A (pyIter (.ref it)) Q E s
abbrev TI:=St→Hp→(It→Hp→Prop)→Prop
def PIE (X:Cx) (pins:List (Addr×Obj)) (σ:St) (tg:Expr) (R:It→Hp→Prop) (To:Value) (s2:Shared):Prop:=
  ∃ (it:Addr) (fp:List Addr) (tn:Nat→Heap→Prop) (J:It) (H':Hp),To=.ref it∧Inv X pins σ H' s2∧Turn X.prog X.w X.K tg J fp it tn∧tn 0 s2.heap∧(∀ b∈fp,tZ X pins H' b)∧R J H'
def PI (X:Cx) (tg iter:Expr) (wi:TI):Prop:=
  ∀ (pins:List (Addr×Obj)) (s:Shared) (σ:St) (H:Hp) (R:It→Hp→Prop),Inv X pins σ H s→wi σ H R→
    wpAny (model X.prog X.w) X.A (eval iter X.env) (fun v s1=>wpAny (model X.prog X.w) X.A (pyIter v) (PIE X pins σ tg R) X.xe s1) X.xe s
theorem LM {M:Model} {A:Around} {E:Value→Shared→Prop} {s:Shared} {tg:Expr} {it:Addr} {u:Value} {o:Obj} {n:String} {vs:Array Value} {Q:Unit→Shared→Prop} (ho:s.heap.get? it=some o) (hc:o.cls=.type n) (hd:o.data=.fields vs)
    (hn:["enumerate","zip","dict_itemiterator","dict_reverseitemiterator","odict_iterator","itertools.zip_longest","itertools.pairwise"].contains n=false) (hQ:Q () s):wpAny M A (letOwnedTupleGo tg (.ref it) u) Q E s:=by
  unfold letOwnedTupleGo
  cases tg <;> first
    | exact wpAny_pure hQ
    | (cases u <;> first
        | exact wpAny_pure hQ
        | (refine wpAny_bind (wpAny_load ho ?_)
           rw [hc,hd]
           show wpAny M A (if (["enumerate","zip","dict_itemiterator","dict_reverseitemiterator","odict_iterator","itertools.zip_longest","itertools.pairwise"].contains n&&vs[0]?==some (rawInt _))=true then _ else _) Q E s
           rw [if_neg (by intro h;rw [hn,Bool.false_and] at h;cases h)]
           exact wpAny_pure hQ))
def GU (K:PySem.W.Frag) (a:Addr):It:=
  ⟨fun i H=>∃ xs x,fE K H a xs∧xs[i]?=some x,fun i H x H'=>H'=H∧∀ xs,fE K H a xs→xs[i]?=some x,fun i H=>∃ xs,fE K H a xs∧xs.length≤i⟩
def P4 (K:PySem.W.Frag) (a:Addr):It:=
  ⟨fun i H=>∃ xs x,uQ K H a xs∧xs[i]?=some x,fun i H x H'=>H'=H∧∀ xs,uQ K H a xs→xs[i]?=some x,fun i H=>∃ xs,uQ K H a xs∧xs.length≤i⟩
def NL (lo:Int) (n:Nat):It:=⟨fun i _=>i < n,fun i H x H'=>H'=H∧x=.int (lo + i),fun i _=>n≤i⟩
theorem Ku {P:Program} {w:World} {K:PySem.W.Frag} {tg:Expr} (a it:Addr):Turn P w K tg (GU K a) [it] it (fun i h=>h.IsListIter it a i) where
  mem:=by simp
  obj:=fun i h st b hb=>by
    have e:b=it:=by simpa using hb
    subst e
    obtain ⟨o,e,c,d⟩:=st
    exact ⟨o,e,fun v z=>by rw [d] at z;cases z⟩
  keep:=fun i h h' st k=>st.at fun o e=>k it (by simp) o e
  item:=by
    intro X hP hw hK hc i pins s σ H E I hf st hg
    subst hP hw hK
    obtain ⟨xs,x,hq,hx⟩:=hg
    obtain ⟨its,rv,p,hz⟩:=I.list hq
    obtain ⟨u,hu,ru⟩:=rv.get hx
    obtain ⟨f0,f1,f2,f3,f4,f5⟩:=hf it (by simp)
    refine wpAny_pyNext_list_item st p.isList (x:=u) (by simpa using hu) fun h' st' sb=>?_
    have I1:Inv X pins σ H { s with heap:=h' }:=I.turned (t':=s.toks) (fun b o hb e=>(sb.2 b hb).trans e) f0 f1 f3 f4 f5
    obtain ⟨o,e,c,d⟩:=id st'
    exact ⟨u,rfl,LM (s:={ s with heap:=h' }) e c d (by decide) ⟨x,H,I1,ru,⟨rfl,fun ys hy=>by rw [I.FH hy hq];exact hx⟩,st',fun b hb=>(hf b hb).1⟩⟩
  done:=by
    intro X hP hw hK hc i pins s σ H E I hf st hg
    subst hP hw hK
    obtain ⟨xs,hq,hx⟩:=hg
    obtain ⟨its,rv,p,hz⟩:=I.list hq
    obtain ⟨f0,f1,f2,f3,f4,f5⟩:=hf it (by simp)
    have hl:=rv.length
    exact wpAny_pyNext_list_end (I.ok.hd hc) st p.isList (by simp;omega) fun h' eb=>⟨rfl,I.turned (t':=s.toks) (fun b o hb e=>eb b o hb e) f0 f1 f3 f4 f5⟩
  self:=fun _ _ _ _ _ st h=>wpAny_pyIter_listiter st h
theorem G7 {P:Program} {w:World} {K:PySem.W.Frag} {tg:Expr} (a it:Addr):Turn P w K tg (P4 K a) [it] it (fun i h=>h.IsTupleIter it a i) where
  mem:=by simp
  obj:=fun i h st b hb=>by
    have e:b=it:=by simpa using hb
    subst e
    obtain ⟨o,e,c,d⟩:=st
    exact ⟨o,e,fun v z=>by rw [d] at z;cases z⟩
  keep:=fun i h h' st k=>st.at fun o e=>k it (by simp) o e
  item:=by
    intro X hP hw hK hc i pins s σ H E I hf st hg
    subst hP hw hK
    obtain ⟨xs,x,hq,hx⟩:=hg
    obtain ⟨its,rv,p,hz⟩:=I.tuple hq
    obtain ⟨u,hu,ru⟩:=rv.get hx
    obtain ⟨f0,f1,f2,f3,f4,f5⟩:=hf it (by simp)
    refine wpAny_pyNext_tuple_item st (show s.heap.IsTuple a its.toArray from p) (x:=u) (by simpa using hu) fun h' st' sb=>?_
    have I1:Inv X pins σ H { s with heap:=h' }:=I.turned (t':=s.toks) (fun b o hb e=>(sb.2 b hb).trans e) f0 f1 f3 f4 f5
    obtain ⟨o,e,c,d⟩:=id st'
    exact ⟨u,rfl,LM (s:={ s with heap:=h' }) e c d (by decide) ⟨x,H,I1,ru,⟨rfl,fun ys hy=>by rw [I.Ks hy hq];exact hx⟩,st',fun b hb=>(hf b hb).1⟩⟩
  done:=by
    intro X hP hw hK hc i pins s σ H E I hf st hg
    subst hP hw hK
    obtain ⟨xs,hq,hx⟩:=hg
    obtain ⟨its,rv,p,hz⟩:=I.tuple hq
    obtain ⟨f0,f1,f2,f3,f4,f5⟩:=hf it (by simp)
    have hl:=rv.length
    exact wpAny_pyNext_tuple_end (I.ok.hd hc) st (show s.heap.IsTuple a its.toArray from p) (by simp;omega) fun h' eb=>⟨rfl,I.turned (t':=s.toks) (fun b o hb e=>eb b o hb e) f0 f1 f3 f4 f5⟩
  self:=fun _ _ _ _ _ st h=>wpAny_pyIter_tupleiter st h
theorem G8 {P:Program} {w:World} {K:PySem.W.Frag} {tg:Expr} (it:Addr) (lo:Int) (n:Nat):Turn P w K tg (NL lo n) [it] it (fun i h=>IsRangeIter h it (lo + (i:Nat) * 1) ((n:Int) - (i:Nat)) 1) where
  mem:=by simp
  obj:=fun i h st b hb=>by
    have e:b=it:=by simpa using hb
    subst e
    exact ⟨_,st,fun v z=>by
      have z':Data.fields _=Data.cell v:=z
      cases z'⟩
  keep:=fun i h h' st k=>k it (by simp) _ st
  item:=by
    intro X hP hw hK hc i pins s σ H E I hf st hg
    subst hP hw hK
    obtain ⟨f0,f1,f2,f3,f4,f5⟩:=hf it (by simp)
    have W:=Walks.range (prog:=X.prog) (w:=X.w) (I.ok.hd hc) it lo 1 n
    refine W.item i s _ _ hg st fun v h' tk hv st' kk=>?_
    obtain ⟨t,rfl⟩:=hv
    have I1:Inv X pins σ H { s with heap:=h',toks:=tk }:=I.turned (fun b o hb e=>kk b o (by simpa using hb) e) f0 f1 f3 f4 f5
    refine ⟨_,rfl,LM (s:={ s with heap:=h',toks:=tk }) (n:="range_iterator") st' rfl rfl (by decide) ⟨.int (lo + i),H,I1,⟨t,?_⟩,⟨rfl,rfl⟩,st',fun b hb=>(hf b hb).1⟩⟩
    rw [Int.mul_one]
  done:=by
    intro X hP hw hK hc i pins s σ H E I hf st hg
    subst hP hw hK
    obtain ⟨f0,f1,f2,f3,f4,f5⟩:=hf it (by simp)
    exact wpAny_pyNext_range_end (I.ok.hd hc) st (by have:n≤i:=hg;omega) fun h' eb=>⟨rfl,I.turned (t':=s.toks) (fun b o hb e=>eb b o hb e) f0 f1 f3 f4 f5⟩
  self:=fun _ _ _ _ _ st h=>wpAny_pyIter_rangeiter st h
end L2
namespace L2
open PySem PySem.Spec PyProof.Rows
section
variable {X:Cx} {tg:Expr}
def CM (K:PySem.W.Frag) (tl:TE):TI:=fun σ H R=>tl σ H fun x H1=>∃ a,x=.ref a∧(∃ xs,fE K H1 a xs)∧R (GU K a) H1
def Kv (K:PySem.W.Frag) (tl:TE):TI:=fun σ H R=>tl σ H fun x H1=>∃ a,x=.ref a∧(∃ xs,uQ K H1 a xs)∧R (P4 K a) H1
theorem NO {l:Expr} {tl:TE} (hl:PE X l tl):PI X tg l (CM X.K tl):=by
  intro pins s σ H R I h
  refine eo (hl pins s σ H _ I h) fun v s1 ⟨x,H1,I1,r1,q1⟩=>?_
  obtain ⟨a,e,⟨xs,hq⟩,q⟩:=q1
  subst e
  cases r1
  obtain ⟨its,rv,p,hz⟩:=I1.list hq
  refine wpAny_pyIter_list p.isList ?_
  refine ⟨s1.heap.objs.size,[s1.heap.objs.size],_,_,H1,rfl,I1.kept (t':=s1.toks) fun b o e=>Heap.get?_push_of_some _ e,Ku a _,⟨_,Heap.get?_push_size _ rfl,rfl,rfl⟩,fun b hb=>?_,q⟩
  have e:b=s1.heap.objs.size:=by simpa using hb
  subst e
  exact I1.NK (Nat.le_refl _) (I1.gm.fresh (Nat.le_refl _))
theorem QI {l:Expr} {tl:TE} (hl:PE X l tl):PI X tg l (Kv X.K tl):=by
  intro pins s σ H R I h
  refine eo (hl pins s σ H _ I h) fun v s1 ⟨x,H1,I1,r1,q1⟩=>?_
  obtain ⟨a,e,⟨xs,hq⟩,q⟩:=q1
  subst e
  cases r1
  obtain ⟨its,rv,p,hz⟩:=I1.tuple hq
  refine wpAny_pyIter_tuple (show s1.heap.IsTuple a its.toArray from p) ?_
  refine ⟨s1.heap.objs.size,[s1.heap.objs.size],_,_,H1,rfl,I1.kept (t':=s1.toks) fun b o e=>Heap.get?_push_of_some _ e,G7 a _,⟨_,Heap.get?_push_size _ rfl,rfl,rfl⟩,fun b hb=>?_,q⟩
  have e:b=s1.heap.objs.size:=by simpa using hb
  subst e
  exact I1.NK (Nat.le_refl _) (I1.gm.fresh (Nat.le_refl _))
theorem LN {pins:List (Addr×Obj)} {σ:St} {H:Hp} {s:Shared} {R:It→Hp→Prop} {E:Value→Shared→Prop} {lo hi:Int} {t u v:Tok} {tk:Nat} (I:Inv X pins σ H s) (h1:-(2 ^ 62)≤lo) (h2:lo < 2 ^ 62) (h3:-(2 ^ 62)≤hi) (h4:hi < 2 ^ 62)
    (q:R (NL lo (hi - lo).toNat) H):wpAny (model X.prog X.w) X.A (pyIter (.ref s.heap.objs.size)) (PIE X pins σ tg R) E { s with heap:=s.heap.push { cls:=.type "range",data:=.fields #[.int lo t,.int hi u,.int 1 v] },toks:=tk }:=by
  refine wpAny_pyIter_range (IsRange.new ..) (small_one h1 h2 h3 h4) ?_
  have I1:Inv X pins σ H { s with heap:=s.heap.push { cls:=.type "range",data:=.fields #[.int lo t,.int hi u,.int 1 v] },toks:=tk }:=I.kept fun b o e=>Heap.get?_push_of_some _ e
  refine ⟨(s.heap.push { cls:=.type "range",data:=.fields #[.int lo t,.int hi u,.int 1 v] }).objs.size,[(s.heap.push { cls:=.type "range",data:=.fields #[.int lo t,.int hi u,.int 1 v] }).objs.size],_,_,H,rfl,
    I1.kept (t':=tk) fun b o e=>Heap.get?_push_of_some _ e,G8 _ lo (hi - lo).toNat,?_,fun b hb=>?_,q⟩
  · have e1:lo + ((0:Nat):Int) * 1=lo:=by simp
    have e2:(((hi - lo).toNat:Nat):Int) - ((0:Nat):Int)=Builtin.Range.rangeSize lo hi 1:=by rw [rangeSize_one];split <;> omega
    show IsRangeIter _ _ (lo + ((0:Nat):Int) * 1) ((((hi - lo).toNat:Nat):Int) - ((0:Nat):Int)) 1
    rw [e1,e2]
    exact Heap.get?_push_size _ rfl
  · have e:b=(s.heap.push { cls:=.type "range",data:=.fields #[.int lo t,.int hi u,.int 1 v] }).objs.size:=by simpa using hb
    subst e
    exact I1.NK (Nat.le_refl _) (I1.gm.fresh (Nat.le_refl _))
def Je (ta:TA):TI:=fun σ H R=>ta σ H fun vs H1=>∃ j:Int,vs=[.int j]∧-(2 ^ 62)≤j∧j < 2 ^ 62∧R (NL 0 j.toNat) H1
def P5 (ta:TA):TI:=fun σ H R=>ta σ H fun vs H1=>∃ i j:Int,vs=[.int i,.int j]∧(-(2 ^ 62)≤i∧i < 2 ^ 62∧-(2 ^ 62)≤j∧j < 2 ^ 62)∧R (NL i (j - i).toNat) H1
theorem Kw {a:Expr} {ta:TA} {p pos:Pos} (hg:Gl X "range") (hm:X.mg "range"=none) (ha:PA X [a] ta) (hs:starEach [a] X.env=[(false,eval a X.env)]:=by rfl):PI X tg (.Call (.Name "range" p) [a] [] pos) (Je ta):=by
  intro pins s σ H R I h
  refine Call_ (Ay I hg hm boot_range (PyProof.Rows.callWith_type1 (eo (ha pos pins s σ H _ I h) fun us s1 ⟨vs,H1,I1,r1,q1⟩=>?_) hs rfl))
  obtain ⟨j,e,q1,q2,q⟩:=q1
  subst e
  cases r1 with
  | cons r rr=>
    cases rr
    obtain ⟨t,rfl⟩:=r
    exact call_range_1 (LN I1 (by omega) (by omega) q1 q2 (by simpa using q))
def G9 (wi:TI) (g:TG) (tb:TS):TS:=fun D σ H=>wi σ H fun J H1=>∃ W:Nat→Nat→St→Hp→Prop,(∃ m,W 0 m σ H1)∧∀ i m σ H,W i m σ H→
  (J.stop i H∧D.nx σ H)∨(J.go i H∧∃ N:St→Hp→Prop,(∀ σ' H',N σ' H'→∃ m',m' < m∧W (i + 1) m' σ' H')∧∀ x H',J.P1 i H x H'→g x σ H' fun σ2 H2=>tb { D with nx:=N,ct:=N,bk:=D.nx } σ2 H2)
def rE (fp:List Addr) (h:Heap):List (Addr×Obj):=fp.filterMap fun b=>(h.get? b).map fun o=>(b,o)
theorem iw {fp:List Addr} {h:Heap} {b:Addr} {o:Obj} (hb:b∈fp) (e:h.get? b=some o):(b,o)∈rE fp h:=List.mem_filterMap.mpr ⟨b,hb,by rw [e];rfl⟩
theorem Ky {fp:List Addr} {h:Heap} {p:Addr×Obj} (hp:p∈rE fp h):p.1∈fp∧h.get? p.1=some p.2:=by
  obtain ⟨b,hb,e⟩:=List.mem_filterMap.mp hp
  cases q:h.get? b with
  | none=>rw [q] at e;cases e
  | some o=>
    rw [q] at e
    have e':(b,o)=p:=Option.some.inj e
    subst e'
    exact ⟨hb,q⟩
theorem Inv.pinned {pins:List (Addr×Obj)} {σ:St} {H:Hp} {s:Shared} {fp:List Addr} (I:Inv X pins σ H s) (hf:∀ b∈fp,tZ X pins H b) (ho:∀ b∈fp,∃ o,s.heap.get? b=some o∧∀ v,o.data≠.cell v):Inv X (pins++rE fp s.heap) σ H s:=
  I.z9 fun p hp=>(List.mem_append.mp hp).elim (fun z=>I.pin p (List.mem_append_right _ z)) fun z=>by
    obtain ⟨hb,e⟩:=Ky z
    obtain ⟨f0,f1,f2,_⟩:=hf p.1 hb
    obtain ⟨o,e',d⟩:=ho p.1 hb
    rw [e] at e';cases e'
    exact ⟨e,f0,f1,f2,d⟩
theorem Inv.lB {pins pl:List (Addr×Obj)} {σ:St} {H:Hp} {s:Shared} (I:Inv X (pins++pl) σ H s):Inv X pins σ H s:=I.z9 fun p hp=>I.pin p (List.mem_append_right _ (List.mem_append_left _ hp))
theorem QJ {iter:Expr} {body:List Stmt} {wi:TI} {g:TG} {tb:TS} {pos:Pos} (hp:PassesOwn (model X.prog X.w) X.A X.env X.xe) (hc:X.calm=true) (hi:PI X tg iter wi) (hg:PG X tg g) (hb:Kr X body tb)
    (hs:∀ x,foldedSetIterable iter X.env x=pure x:=by intro _;rfl):PS X (.For tg iter body [] pos) (G9 wi g tb):=by
  intro pins s σ H D I h
  refine wpAny_For (eo (hi pins s σ H _ I h) fun v s1 h1=>eo h1 fun To s2 h2=>?_) hs
  obtain ⟨it,fp,tn,J,H2,e,I2,T,st2,f2,W,⟨m0,w0⟩,turn⟩:=h2
  subst e
  have uR:∀ {H':Hp},(∀ b∈fp,H' b=none)→∀ b∈fp,tZ X pins H' b:=fun hn b hb=>⟨hn b hb,(f2 b hb).2⟩
  refine codeAny_forLoop_any (fun n s'=>∃ i σ' H',Inv X pins σ' H' s'∧tn i s'.heap∧(∀ b∈fp,H' b=none)∧W i n σ' H') ?_ m0 ⟨0,σ,H2,I2,st2,fun b hb=>(f2 b hb).1,w0⟩
  rintro n s3 ⟨i,σ3,H3,I3,st3,fr3,w3⟩
  rcases turn i n σ3 H3 w3 with ⟨stop,qn⟩ | ⟨go,N,hN,step⟩
  · refine wpAny_passesOwn hp (eo (T.done X rfl rfl rfl hc i pins s3 σ3 H3 X.xe I3 (uR fr3) st3 stop) fun r s4 ⟨hr,I4⟩=>?_)
    subst hr
    exact wpAny_execs_nil ⟨σ3,H3,I4,qn⟩
  · refine wpAny_passesOwn hp (eo (T.item X rfl rfl rfl hc i pins s3 σ3 H3 X.xe I3 (uR fr3) st3 go) fun r s4 ⟨u,hr,h4⟩=>?_)
    subst hr
    refine wpAny_passesOwn hp (eo h4 fun _ s5 ⟨x,H5,I5,r5,y5,st5,fr5⟩=>?_)
    have QK:=I5.pinned (uR fr5) (T.obj _ _ st5)
    refine wpAny_passesOwn hp (eo (hg _ s5 σ3 H5 x u _ QK r5 (step x H5 y5)) fun _ s6 ⟨σ6,H6,I6,q6⟩=>?_)
    refine wpAny_passesOwn hp (eo (hb _ s6 σ6 H6 _ I6 q6) fun f s7 q7=>?_)
    have again:∀ {σ7:St} {H7:Hp},Inv X (pins++rE fp s5.heap) σ7 H7 s7→N σ7 H7→∃ m,m < n∧∃ i σ' H',Inv X pins σ' H' s7∧tn i s7.heap∧(∀ b∈fp,H' b=none)∧W i m σ' H':=fun {σ7 H7} I7 n7=>by
      obtain ⟨m',hm,w7⟩:=hN σ7 H7 n7
      refine ⟨m',hm,i + 1,σ7,H7,I7.lB,T.keep _ _ _ st5 fun b hb o e=>(I7.pin (b,o) (List.mem_append_right _ (List.mem_append_right _ (iw hb e)))).1,fun b hb=>?_,w7⟩
      obtain ⟨o,e,d⟩:=T.obj _ _ st5 b hb
      exact (I7.pin (b,o) (List.mem_append_right _ (List.mem_append_right _ (iw hb e)))).2.1
    cases f with
    | next=>obtain ⟨σ7,H7,I7,n7⟩:=q7;exact again I7 n7
    | cont=>obtain ⟨σ7,H7,I7,n7⟩:=q7;exact again I7 n7
    | brk=>obtain ⟨σ7,H7,I7,q7⟩:=q7;exact ⟨σ7,H7,I7.lB,q7⟩
    | ret v=>obtain ⟨x7,σ7,H7,I7,r7,q7⟩:=q7;exact ⟨x7,σ7,H7,I7.lB,r7,q7⟩
end
theorem LO {K:PySem.W.Frag} {a:Addr} {xs:List V} {g:TG} {tb:TS} {D:Ends} {σ:St} {H:Hp} (Pv:Nat→St→Hp→Prop) (h0:Pv 0 σ H) (hl:∀ i σ H,i≤xs.length→Pv i σ H→fE K H a xs)
    (hs:∀ i x σ H,xs[i]?=some x→Pv i σ H→g x σ H fun σ2 H2=>tb { D with nx:=Pv (i + 1),ct:=Pv (i + 1),bk:=D.nx } σ2 H2) (hd:∀ σ H,Pv xs.length σ H→D.nx σ H):
    ∃ W:Nat→Nat→St→Hp→Prop,(∃ m,W 0 m σ H)∧∀ i m σ H,W i m σ H→
      ((GU K a).stop i H∧D.nx σ H)∨((GU K a).go i H∧∃ N:St→Hp→Prop,(∀ σ' H',N σ' H'→∃ m',m' < m∧W (i + 1) m' σ' H')∧∀ x H',(GU K a).P1 i H x H'→g x σ H' fun σ2 H2=>tb { D with nx:=N,ct:=N,bk:=D.nx } σ2 H2):=by
  refine ⟨fun i m σ H=>m=xs.length - i∧i≤xs.length∧Pv i σ H,⟨xs.length,by simp,Nat.zero_le _,h0⟩,?_⟩
  rintro i m σ H ⟨rfl,hi,p⟩
  have q:=hl i σ H hi p
  by_cases GV:i < xs.length
  · refine .inr ⟨⟨xs,xs[i],q,by simp [GV]⟩,Pv (i + 1),fun σ' H' p'=>⟨xs.length - (i + 1),by omega,rfl,GV,p'⟩,fun x H' y=>?_⟩
    obtain ⟨e,y⟩:=y
    subst e
    exact hs i x σ _ (y xs q) p
  · have e:i=xs.length:=by omega
    subst e
    exact .inl ⟨⟨xs,q,Nat.le_refl _⟩,hd σ H p⟩
end L2
namespace L2
open PySem PySem.Spec PyProof.Rows
abbrev R2:=V→V→Hp→VK→Prop
def nK (X:Cx) (f:Value→Value→Sem Value) (r:R2):Prop:=
  ∀ (pins:List (Addr×Obj)) (s:Shared) (σ:St) (H:Hp) (x y:V) (v u:Value) (Q:VK),Inv X pins σ H s→RelV x v→RelV y u→r x y H Q→
    wpAny (model X.prog X.w) X.A (f v u) (EP X pins σ Q) X.xe s
def Xl (X:Cx) (f:Value→Sem Value) (r:V→Hp→VK→Prop):Prop:=
  ∀ (pins:List (Addr×Obj)) (s:Shared) (σ:St) (H:Hp) (x:V) (v:Value) (Q:VK),Inv X pins σ H s→RelV x v→r x H Q→
    wpAny (model X.prog X.w) X.A (f v) (EP X pins σ Q) X.xe s
def gR (X:Cx) (f:Value) (r:List V→Hp→VK→Prop):Prop:=
  ∀ (pins:List (Addr×Obj)) (s:Shared) (σ:St) (H:Hp) (xs:List V) (us:List Value) (Q:VK),Inv X pins σ H s→Vals xs us→r xs H Q→
    wpAny (model X.prog X.w) X.A (call f us) (EP X pins σ Q) X.xe s
def aas (X:Cx) (r:V→Hp→(Bool→Hp→Prop)→Prop):Prop:=
  ∀ (pins:List (Addr×Obj)) (s:Shared) (σ:St) (H:Hp) (x:V) (v:Value) (Q:Bool→Hp→Prop),Inv X pins σ H s→RelV x v→r x H Q→
    wpAny (model X.prog X.w) X.A (truthy v) (TP X pins σ Q) X.xe s
def tu (r:R2) (ta tb:TE):TE:=fun σ H Q=>ta σ H fun x H1=>tb σ H1 fun y H2=>r x y H2 Q
def xX (r:V→Hp→VK→Prop) (ta:TE):TE:=fun σ H Q=>ta σ H fun x H1=>r x H1 Q
def rI (C:Int→Int→Prop) (g:Int→Int→V):R2:=fun x y H Q=>∃ i j,x=.int i∧y=.int j∧C i j∧Q (g i j) H
def tD (g:Int→Int→V):R2:=fun x y H Q=>∃ i j,x=.int i∧y=.int j∧Q (g i j) H
def rU (g:Int→V):V→Hp→VK→Prop:=fun x H Q=>∃ i,x=.int i∧Q (g i) H
section
variable {X:Cx} {a b c:Expr} {ta tb tc:TE} {pos:Pos}
theorem QL (ha:PE X a ta) (hb:PE X b tb) {pins:List (Addr×Obj)} {s:Shared} {σ:St} {H:Hp} {R:V→V→Hp→Prop} (I:Inv X pins σ H s)
    (h:ta σ H fun x H1=>tb σ H1 fun y H2=>R x y H2) {Q:Value→Shared→Prop} {f:Value→Value→Sem Value}
    (hf:∀ v u s2 x y H2,Inv X pins σ H2 s2→RelV x v→RelV y u→R x y H2→wpAny (model X.prog X.w) X.A (f v u) Q X.xe s2):
    wpAny (model X.prog X.w) X.A (eval a X.env) (fun v s₁=>wpAny (model X.prog X.w) X.A (eval b X.env) (fun u s₂=>wpAny (model X.prog X.w) X.A (f v u) Q X.xe s₂) X.xe s₁) X.xe s:=by
  refine eo (ha pins s σ H _ I h) fun v s1 ⟨x,H1,I1,r1,q1⟩=>?_
  refine eo (hb pins s1 σ H1 _ I1 q1) fun u s2 ⟨y,H2,I2,r2,q2⟩=>?_
  exact hf v u s2 x y H2 I2 r1 r2 q2
theorem P6 {op:Operator} {r:R2} (ho:nK X (binaryOp op) r) (ha:PE X a ta) (hb:PE X b tb):PE X (.BinOp a op b pos) (tu r ta tb):=by
  intro pins s σ H Q I h
  exact wpAny_BinOp (QL ha hb I h fun v u s2 x y H2 I2 rx ry q=>ho pins s2 σ H2 x y v u Q I2 rx ry q)
theorem T3 {op:UnaryOp} {r:V→Hp→VK→Prop} (ho:Xl X (unaryOp op) r) (ha:PE X a ta):PE X (.UnaryOp op a pos) (xX r ta):=by
  intro pins s σ H Q I h
  exact UnaryOp_ (eo (ha pins s σ H _ I h) fun v s1 ⟨x,H1,I1,r1,q1⟩=>ho pins s1 σ H1 x v Q I1 r1 q1)
theorem Xm {f:Value→Value→Sem Value} {C:Int→Int→Prop} {g:Int→Int→Int}
    (rule:∀ (i j:Int) (t u:Tok) (s:Shared) (Q:Value→Shared→Prop) (E:Value→Shared→Prop),C i j→Q (.int (g i j) s.toks) { s with toks:=s.toks + 1 }→wpAny (model X.prog X.w) X.A (f (.int i t) (.int j u)) Q E s):
    nK X f (rI C fun i j=>.int (g i j)):=by
  intro pins s σ H x y v u Q I rx ry h
  obtain ⟨i,j,rfl,rfl,hc,q⟩:=h
  obtain ⟨t,rfl⟩:=rx
  obtain ⟨t',rfl⟩:=ry
  exact rule i j t t' s _ _ hc ⟨.int (g i j),H,I.tok _,⟨_,rfl⟩,q⟩
theorem T4 {f:Value→Value→Sem Value} {g:Int→Int→Int}
    (rule:∀ (i j:Int) (t u:Tok) (s:Shared) (Q:Value→Shared→Prop) (E:Value→Shared→Prop),Q (.int (g i j) s.toks) { s with toks:=s.toks + 1 }→wpAny (model X.prog X.w) X.A (f (.int i t) (.int j u)) Q E s):
    nK X f (tD fun i j=>.int (g i j)):=by
  intro pins s σ H x y v u Q I rx ry h
  obtain ⟨i,j,rfl,rfl,q⟩:=h
  obtain ⟨t,rfl⟩:=rx
  obtain ⟨t',rfl⟩:=ry
  exact rule i j t t' s _ _ ⟨.int (g i j),H,I.tok _,⟨_,rfl⟩,q⟩
theorem NP {f:Value→Value→Sem Value} {g:Int→Int→Bool}
    (rule:∀ (i j:Int) (t u:Tok) (s:Shared) (Q:Value→Shared→Prop) (E:Value→Shared→Prop),Q (.bool (g i j)) s→wpAny (model X.prog X.w) X.A (f (.int i t) (.int j u)) Q E s):
    nK X f (tD fun i j=>.bl (g i j)):=by
  intro pins s σ H x y v u Q I rx ry h
  obtain ⟨i,j,rfl,rfl,q⟩:=h
  obtain ⟨t,rfl⟩:=rx
  obtain ⟨t',rfl⟩:=ry
  exact rule i j t t' s _ _ ⟨.bl (g i j),H,I,rfl,q⟩
def kg (i j:Int):Prop:=0≤j∧j≤1000000∧i.natAbs < 2 ^ 64
def jA (i j:Int):Prop:=(-(2 ^ 64) < i∧i < 2 ^ 64)∨(-(2 ^ 64) < j∧j < 2 ^ 64)
theorem jA.ok {i j:Int} (h:jA i j):IntMulOk i j:=by
  rcases h with ⟨h1,h2⟩ | ⟨h1,h2⟩
  · exact .of_left (intBits_le_64 h1 h2)
  · exact .of_right (intBits_le_64 h1 h2)
theorem ie:nK X (binaryOp .Add) (tD fun i j=>.int (i + j)):=T4 fun _ _ _ _ _ _ _ q=>add_int q
theorem Dw:nK X (binaryOp .Sub) (tD fun i j=>.int (i - j)):=T4 fun _ _ _ _ _ _ _ q=>sub_int q
theorem uS:nK X (binaryOp .Mult) (rI jA fun i j=>.int (i * j)):=Xm fun _ _ _ _ _ _ _ hc q=>mul_int q hc.ok
theorem yc:nK X (binaryOp .Mod) (rI (fun _ j=>0 < j) fun i j=>.int (i % j)):=Xm fun i j _ _ _ _ _ hc q=>by
  have h1:(0:Int) < j:=hc
  exact mod_int' (by omega) (by rw [Int.fmod_eq_emod_of_nonneg i (by omega)];exact q)
theorem QM:nK X (binaryOp .Pow) (rI kg fun i j=>.int (i ^ j.toNat)):=Xm fun _ _ _ _ _ _ _ hc q=>pow_int_small hc.1 hc.2.1 hc.2.2 q
theorem unI {f:Value→Sem Value} {g:Int→Int}
    (rule:∀ (i:Int) (t:Tok) (s:Shared) (Q:Value→Shared→Prop) (E:Value→Shared→Prop),Q (.int (g i) s.toks) { s with toks:=s.toks + 1 }→wpAny (model X.prog X.w) X.A (f (.int i t)) Q E s):
    Xl X f (rU fun i=>.int (g i)):=by
  intro pins s σ H x v Q I rx h
  obtain ⟨i,rfl,q⟩:=h
  obtain ⟨t,rfl⟩:=rx
  exact rule i t s _ _ ⟨.int (g i),H,I.tok _,⟨_,rfl⟩,q⟩
theorem LP:Xl X (unaryOp .USub) (rU fun i=>.int (-i)):=unI fun _ _ _ _ _ q=>neg_int q
end
def jY:V→V→Bool
  | .eO,.eO=>true | .eO,.int _=>true | .int _,.eO=>true | .eO,.bl _=>true | .bl _,.eO=>true | .eO,.str _=>true | .str _,.eO=>true
  | .int _,.int _=>true | .bl _,.bl _=>true | .str _,.str _=>true | .IZ _,.IZ _=>true
  | .int _,.str _=>true | .str _,.int _=>true | .bl _,.str _=>true | .str _,.bl _=>true
  | _,_=>false
def yd:R2:=fun x y H Q=>jY x y=true∧Q (.bl (decide (x=y))) H
def ye:R2:=fun x y H Q=>jY x y=true∧Q (.bl (!decide (x=y))) H
theorem Jf {i j:Int}:decide (V.int i=V.int j)=(i==j):=by
  rw [Bool.eq_iff_iff]
  simp
theorem LQ {i j:Bool}:decide (V.bl i=V.bl j)=(i==j):=by
  rw [Bool.eq_iff_iff]
  simp
theorem Jg {i j:Str}:decide (V.str i=V.str j)=(i==j):=by
  rw [Bool.eq_iff_iff]
  simp
theorem Jh {i j:Array UInt8}:decide (V.IZ i=V.IZ j)=(i.toList==j.toList):=by
  rw [Bool.eq_iff_iff]
  cases i
  cases j
  simp
section
variable {X:Cx} {a b c:Expr} {ta tb tc:TE} {pos:Pos}
theorem cV {pins:List (Addr×Obj)} {σ:St} {H:Hp} {s:Shared} {Q:VK} {k k':Bool} (I:Inv X pins σ H s) (q:Q (.bl k) H) (e:k=k'):EP X pins σ Q (.bool k') s:=by
  subst e
  exact ⟨.bl k,H,I,rfl,q⟩
theorem mV:nK X (compareOp .Eq) yd:=by
  intro pins s σ H x y v u Q I rx ry h
  obtain ⟨hs,q⟩:=h
  cases x with
  | eO=>
    cases rx
    cases y with
    | eO=>cases ry;exact PySem.EqNone.eq_none_none (cV I q (by simp))
    | bl j=>cases ry;exact PySem.EqNone.eq_none_bool (cV I q (by simp))
    | int j=>obtain ⟨t',rfl⟩:=ry;exact PySem.EqNone.eq_none_int (cV I q (by simp))
    | str j=>obtain ⟨t',rfl⟩:=ry;exact PySem.EqNone.eq_none_str (cV I q (by simp))
    | _=>exact absurd (show false=true from hs) Bool.false_ne_true
  | bl i=>
    cases rx
    cases y with
    | eO=>cases ry;exact PySem.EqNone.eq_bool_none (cV I q (by simp))
    | bl j=>cases ry;exact eq_bool (cV I q LQ)
    | str j=>obtain ⟨t',rfl⟩:=ry;exact PySem.EqMixed.eq_bool_str (cV I q (by simp))
    | _=>exact absurd (show false=true from hs) Bool.false_ne_true
  | int i=>
    obtain ⟨t,rfl⟩:=rx
    cases y with
    | eO=>cases ry;exact PySem.EqNone.eq_int_none (cV I q (by simp))
    | int j=>obtain ⟨t',rfl⟩:=ry;exact eq_int (cV I q Jf)
    | str j=>obtain ⟨t',rfl⟩:=ry;exact PySem.EqMixed.eq_int_str (cV I q (by simp))
    | _=>exact absurd (show false=true from hs) Bool.false_ne_true
  | str i=>
    obtain ⟨t,rfl⟩:=rx
    cases y with
    | eO=>cases ry;exact PySem.EqNone.eq_str_none (cV I q (by simp))
    | bl j=>cases ry;exact PySem.EqMixed.eq_str_bool (cV I q (by simp))
    | int j=>obtain ⟨t',rfl⟩:=ry;exact PySem.EqMixed.eq_str_int (cV I q (by simp))
    | str j=>obtain ⟨t',rfl⟩:=ry;exact eq_str (cV I q Jg)
    | _=>exact absurd (show false=true from hs) Bool.false_ne_true
  | IZ i=>
    obtain ⟨t,rfl⟩:=rx
    cases y with
    | IZ j=>obtain ⟨t',rfl⟩:=ry;exact PySem.W.eq_bytes (cV I q Jh)
    | _=>exact absurd (show false=true from hs) Bool.false_ne_true
  | _=>cases y <;> exact absurd (show false=true from hs) Bool.false_ne_true
theorem pD:nK X (compareOp .NotEq) ye:=by
  intro pins s σ H x y v u Q I rx ry h
  obtain ⟨hs,q⟩:=h
  cases x with
  | eO=>
    cases rx
    cases y with
    | eO=>cases ry;exact PySem.EqNone.ne_none_none (cV I q (by simp))
    | bl j=>cases ry;exact PySem.EqNone.ne_none_bool (cV I q (by simp))
    | int j=>obtain ⟨t',rfl⟩:=ry;exact PySem.EqNone.ne_none_int (cV I q (by simp))
    | str j=>obtain ⟨t',rfl⟩:=ry;exact PySem.EqNone.ne_none_str (cV I q (by simp))
    | _=>exact absurd (show false=true from hs) Bool.false_ne_true
  | bl i=>
    cases rx
    cases y with
    | eO=>cases ry;exact PySem.EqNone.ne_bool_none (cV I q (by simp))
    | bl j=>cases ry;exact ne_bool (cV I q (congrArg not LQ))
    | str j=>obtain ⟨t',rfl⟩:=ry;exact PySem.EqMixed.ne_bool_str (cV I q (by simp))
    | _=>exact absurd (show false=true from hs) Bool.false_ne_true
  | int i=>
    obtain ⟨t,rfl⟩:=rx
    cases y with
    | eO=>cases ry;exact PySem.EqNone.ne_int_none (cV I q (by simp))
    | int j=>obtain ⟨t',rfl⟩:=ry;exact ne_int (cV I q (congrArg not Jf))
    | str j=>obtain ⟨t',rfl⟩:=ry;exact PySem.EqMixed.ne_int_str (cV I q (by simp))
    | _=>exact absurd (show false=true from hs) Bool.false_ne_true
  | str i=>
    obtain ⟨t,rfl⟩:=rx
    cases y with
    | eO=>cases ry;exact PySem.EqNone.ne_str_none (cV I q (by simp))
    | bl j=>cases ry;exact PySem.EqMixed.ne_str_bool (cV I q (by simp))
    | int j=>obtain ⟨t',rfl⟩:=ry;exact PySem.EqMixed.ne_str_int (cV I q (by simp))
    | str j=>obtain ⟨t',rfl⟩:=ry;exact ne_str (cV I q (congrArg not Jg))
    | _=>exact absurd (show false=true from hs) Bool.false_ne_true
  | IZ i=>
    obtain ⟨t,rfl⟩:=rx
    cases y with
    | IZ j=>obtain ⟨t',rfl⟩:=ry;exact PySem.W.ne_bytes (cV I q (congrArg not Jh))
    | _=>exact absurd (show false=true from hs) Bool.false_ne_true
  | _=>cases y <;> exact absurd (show false=true from hs) Bool.false_ne_true
theorem za:nK X (compareOp .Lt) (tD fun i j=>.bl (decide (i < j))):=NP fun _ _ _ _ _ _ _ q=>lt_int q
theorem vL:nK X (compareOp .LtE) (tD fun i j=>.bl (decide (i≤j))):=NP fun _ _ _ _ _ _ _ q=>le_int q
theorem T5:nK X (compareOp .Gt) (tD fun i j=>.bl (decide (j < i))):=NP fun _ _ _ _ _ _ _ q=>gt_int q
theorem T6:nK X (compareOp .GtE) (tD fun i j=>.bl (decide (j≤i))):=NP fun _ _ _ _ _ _ _ q=>ge_int q
theorem Dy:nK X (compareOp .Is) (fun x y H Q=>y=.eO∧Q (.bl (decide (x=.eO))) H):=by
  intro pins s σ H x y v u Q I rx ry h
  obtain ⟨rfl,q⟩:=h
  cases ry
  refine is_none_gen (cV I q ?_)
  cases x <;> first
    | (cases rx;rfl)
    | (obtain ⟨t,rfl⟩:=rx;rfl)
theorem Ji:nK X (compareOp .IsNot) (fun x y H Q=>y=.eO∧Q (.bl (!decide (x=.eO))) H):=by
  intro pins s σ H x y v u Q I rx ry h
  obtain ⟨rfl,q⟩:=h
  cases ry
  refine isnot_none_gen (cV I q ?_)
  cases x <;> first
    | (cases rx;rfl)
    | (obtain ⟨t,rfl⟩:=rx;rfl)
theorem nK.or {f:Value→Value→Sem Value} {r r':R2} (h:nK X f r) (h':nK X f r'):nK X f (fun x y H Q=>r x y H Q∨r' x y H Q):=by
  intro pins s σ H x y v u Q I rx ry q
  rcases q with q | q
  · exact h pins s σ H x y v u Q I rx ry q
  · exact h' pins s σ H x y v u Q I rx ry q
theorem aO (b:Expr) {op:CmpOp} (h:op≠.In:=by decide) (h2:op≠.NotIn:=by decide):behindInMarks op b=false:=by
  have e1:(op==CmpOp.In)=false:=by cases op <;> first | rfl | exact absurd rfl h
  have e2:(op==CmpOp.NotIn)=false:=by cases op <;> first | rfl | exact absurd rfl h2
  cases b <;> simp [behindInMarks,e1,e2]
theorem NQ {op:CmpOp} {r:R2} (ho:nK X (compareOp op) r) (ha:PE X a ta) (hb:PE X b tb) (hm:behindInMarks op b=false):PE X (.Compare a [op] [b] pos) (tu r ta tb):=by
  intro pins s σ H Q I h
  exact wpAny_Compare1 (QL ha hb I h fun v u s2 x y H2 I2 rx ry q=>ho pins s2 σ H2 x y v u Q I2 rx ry q) hm
def fH (t:TE):TT:=fun σ H Q=>t σ H fun x H'=>∃ k,x=.bl k∧Q k H'
theorem NR {op:CmpOp} {r:R2} (ho:nK X (compareOp op) r) (ha:PE X a ta) (hb:PE X b tb) (hm:behindInMarks op b=false):PT X (.Compare a [op] [b] pos) (fH (tu r ta tb)):=by
  intro pins s σ H Q I h
  refine wpAny_isTrue_Compare1 (eo (ha pins s σ H _ I h) fun v s1 ⟨x,H1,I1,r1,q1⟩=>eo (hb pins s1 σ H1 _ I1 q1) fun u s2 ⟨y,H2,I2,r2,q2⟩=>
    eo (ho pins s2 σ H2 x y v u _ I2 r1 r2 q2) fun c s3 ⟨z,H3,I3,r3,k,e,q3⟩=>?_) hm
  subst e
  cases r3
  exact wpAny_truthy_bool ⟨H3,I3,q3⟩
def dm (r r':R2) (ta tb tc:TE):TE:=fun σ H Q=>ta σ H fun x H1=>tb σ H1 fun y H2=>r x y H2 fun z H3=>∃ k,z=.bl k∧
  (if k=true then tc σ H3 fun w' H4=>r' y w' H4 Q else Q (.bl false) H3)
theorem LR {op QN:CmpOp} {r r':R2} (ho:nK X (compareOp op) r) (LH:nK X (compareOp QN) r') (ha:PE X a ta) (hb:PE X b tb) (hc:PE X c tc)
    (hm:lastMarks [op,QN] [b,c]=false:=by with_unfolding_all rfl):PE X (.Compare a [op,QN] [b,c] pos) (dm r r' ta tb tc):=by
  intro pins s σ H Q I h
  refine Compare_chain (eo (ha pins s σ H _ I h) fun v s1 ⟨x,H1,I1,r1,q1⟩=>chain_link (eo (hb pins s1 σ H1 _ I1 q1) fun u s2 ⟨y,H2,I2,r2,q2⟩=>
    eo (ho pins s2 σ H2 x y v u _ I2 r1 r2 q2) fun d s3 ⟨z,H3,I3,r3,k,e,q3⟩=>?_)) hm
  subst e
  cases r3
  refine wpAny_truthy_bool ?_
  cases k with
  | false=>exact ite_ff ⟨.bl false,H3,I3,rfl,q3⟩
  | true=>exact ite_tt (chain_last (eo (hc pins s3 σ H3 _ I3 q3) fun w' s4 ⟨z',H4,I4,r4,q4⟩=>LH pins s4 σ H4 y z' u w' Q I4 r2 r4 q4))
def QO (K:PySem.W.Frag) (x:V) (H:Hp) (k:Bool):Prop:=
  match x with
  | .eO=>k=false
  | .bl b=>k=b
  | .int i=>k=(i !=0)
  | .str y=>y.length≤sizeLine∧k=((y.length:Int) !=0)
  | .IZ y=>y.size≤sizeLine∧k=((y.size:Int) !=0)
  | .ref p=>(∃ xs,fE K H p xs∧k=!xs.isEmpty)∨(∃ xs,uQ K H p xs∧k=!xs.isEmpty)∨∃ dD,H p=some (.dK dD)∧k=!dD.isEmpty
  | _=>False
theorem Hf {κ:Type} {dD:List (κ×V)} {vs:List (κ×Value)} (r:KV dD vs):(!vs.isEmpty)=!dD.isEmpty:=by
  cases r <;> rfl
theorem Az {xs:List V} {its:List Value} (r:Vals xs its):(!its.toArray.isEmpty)=!xs.isEmpty:=by
  cases r <;> simp
theorem uT:(sizeLine:Nat) < 2 ^ 63:=by rw [sizeLine_eq];decide
theorem QS:aas X (fun x H Q=>∃ k,QO X.K x H k∧Q k H):=by
  intro pins s σ H x v Q I rx h
  obtain ⟨k,e,q⟩:=h
  have hl:=uT
  have hs:sizeLine=16777216:=sizeLine_eq
  cases x with
  | eO=>
    cases rx
    have e':k=false:=e
    subst e'
    exact truthy_none ⟨H,I,q⟩
  | bl b=>
    cases rx
    have e':k=b:=e
    subst e'
    exact wpAny_truthy_bool ⟨H,I,q⟩
  | int i=>
    obtain ⟨t,rfl⟩:=rx
    have e':k=(i !=0):=e
    subst e'
    exact PySem.P.truthy_int ⟨H,I,q⟩
  | str y=>
    obtain ⟨t,rfl⟩:=rx
    obtain ⟨hy,e'⟩:y.length≤sizeLine∧k=((y.length:Int) !=0):=e
    subst e'
    exact PySem.P.truthy_str (by omega) ⟨H,I.tok _,q⟩
  | IZ y=>
    obtain ⟨t,rfl⟩:=rx
    obtain ⟨hy,e'⟩:y.size≤sizeLine∧k=((y.size:Int) !=0):=e
    subst e'
    exact PySem.W.truthy_bytes (by omega) ⟨H,I.tok _,q⟩
  | ref p=>
    cases rx
    have e':(∃ xs,fE X.K H p xs∧k=!xs.isEmpty)∨(∃ xs,uQ X.K H p xs∧k=!xs.isEmpty)∨∃ dD,H p=some (.dK dD)∧k=!dD.isEmpty:=e
    rcases e' with ⟨xs,hx,e'⟩ | ⟨xs,hx,e'⟩ | ⟨dD,hx,e'⟩
    · subst e'
      obtain ⟨its,r,pl,hz⟩:=I.list hx
      have hlen:=r.length
      exact wpAny_truthy_list pl.isList (by simp only [List.size_toArray];omega) ⟨H,I.tok _,by rw [Az r];exact q⟩
    · subst e'
      obtain ⟨its,r,pl,hz⟩:=I.tuple hx
      have hlen:=r.length
      exact truthy_tuple pl (by simp only [List.size_toArray];omega) ⟨H,I.tok _,by rw [Az r];exact q⟩
    · subst e'
      obtain ⟨hz,hS,vs,r,m⟩:dD.length≤sizeLine∧(p==sysModules)=false∧∃ vs,KV dD vs∧s.heap.DictOf (p6 X.prog X.w) p vs:=I.gm p _ hx
      have hlen:dD.length=vs.length:=Paired.length r
      exact wpAny_truthy_dict hS m (by omega) ⟨H,I.tok _,by rw [Hf r];exact q⟩
  | _=>exact (show False from e).elim
theorem LS (ha:PE X a ta) (he:∀ whole,isTrue a X.env whole=(do let v ← whole;standAt a.pos;holding [v] (truthy v))):
    PT X a (fun σ H Q=>ta σ H fun x H'=>∃ k,QO X.K x H' k∧Q k H'):=by
  intro pins s σ H Q I h
  exact isTrue_plain (eo (ha pins s σ H _ I h) fun v s1 ⟨x,H1,I1,r1,q1⟩=>QS pins s1 σ H1 x v Q I1 r1 q1) (he _)
theorem vals1 {x:V} {us:List Value} (r:Vals [x] us):∃ u,us=[u]∧RelV x u:=by
  cases r with
  | cons r1 r2=>cases r2;exact ⟨_,rfl,r1⟩
theorem vals2 {x y:V} {us:List Value} (r:Vals [x,y] us):∃ u w',us=[u,w']∧RelV x u∧RelV y w':=by
  cases r with
  | cons r1 r2=>
    cases r2 with
    | cons r3 r4=>cases r4;exact ⟨_,_,rfl,r1,r3⟩
theorem Kz (hc:X.calm=true):gR X (.builtin "max") (fun xs H Q=>∃ i j,xs=[.int i,.int j]∧Q (.int (if j > i then j else i)) H):=by
  intro pins s σ H xs us Q I r h
  obtain ⟨i,j,rfl,q⟩:=h
  obtain ⟨u,w',rfl,⟨t,rfl⟩,⟨t',rfl⟩⟩:=vals2 r
  refine max_two_ints (I.ok.hd hc) fun h' tk k=>⟨_,H,I.kept k,?_,q⟩
  by_cases hj:j > i
  · rw [if_pos hj,if_pos hj];exact ⟨_,rfl⟩
  · rw [if_neg hj,if_neg hj];exact ⟨_,rfl⟩
theorem KA (hc:X.calm=true):gR X (.builtin "min") (fun xs H Q=>∃ i j,xs=[.int i,.int j]∧Q (.int (if j < i then j else i)) H):=by
  intro pins s σ H xs us Q I r h
  obtain ⟨i,j,rfl,q⟩:=h
  obtain ⟨u,w',rfl,⟨t,rfl⟩,⟨t',rfl⟩⟩:=vals2 r
  refine min_two_ints (I.ok.hd hc) fun h' tk k=>⟨_,H,I.kept k,?_,q⟩
  by_cases hj:j < i
  · rw [if_pos hj,if_pos hj];exact ⟨_,rfl⟩
  · rw [if_neg hj,if_neg hj];exact ⟨_,rfl⟩
theorem KC:gR X (.type "int") (fun xs H Q=>(∃ i,xs=[.int i]∧Q (.int i) H)∨∃ k,xs=[.bl k]∧Q (.int (if k then 1 else 0)) H):=by
  intro pins s σ H xs us Q I r h
  rcases h with ⟨i,rfl,q⟩ | ⟨k,rfl,q⟩
  · obtain ⟨u,rfl,t,rfl⟩:=vals1 r
    exact call_int_int ⟨.int i,H,I,⟨_,rfl⟩,q⟩
  · obtain ⟨u,rfl,r1⟩:=vals1 r
    cases r1
    exact call_int_bool ⟨.int (if k then 1 else 0),H,I.tok _,⟨_,rfl⟩,q⟩
theorem Dz:gR X (.type "str") (fun xs H Q=>∃ i,xs=[.int i]∧i.natAbs.log2 < 1920∧Q (.str (toString i)) H):=by
  intro pins s σ H xs us Q I r h
  obtain ⟨i,rfl,hz,q⟩:=h
  obtain ⟨u,rfl,t,rfl⟩:=vals1 r
  exact PySem.P.str_of_int hz ⟨.str _,H,I.tok _,⟨_,rfl⟩,q⟩
end
end L2
namespace L2
open PySem PySem.Spec PyProof.Rows
structure Hg (h:Heap) (x dx C:Addr) (mA:Str→Option Value):Prop where
  obj:h.get? x=some (PySem.W.instObj C dx)
  ns:h.Ns1 dx mA
  ne:dx≠x
theorem KD {h:Heap} {dx:Addr} {mA:Str→Option Value} (n:h.Ns1 dx mA):∃ od,h.get? dx=some od∧∀ name,PySem.W.lookIn name od=some (mA name):=by
  obtain ⟨o,es,ep,ho,hd,hk,_,hm⟩:=n
  refine ⟨o,ho,fun name=>?_⟩
  have e:=hm name
  unfold nsFind findBy at e
  rw [← Array.find?_toList] at e
  unfold PySem.W.lookIn
  rw [hd]
  dsimp only
  split
  · rename_i y q
    rw [q] at e
    exact congrArg some e
  · rename_i q
    rw [q] at e
    have a:es.toList.any (·.refKey)=false:=by
      rw [List.any_eq_false]
      intro y hy
      obtain ⟨z,t,hkey⟩:=hk y (Array.mem_toList_iff.mp hy)
      simp [DictEntry.refKey,hkey]
    have a':¬ es.toList.any (·.refKey)=true:=by rw [a];exact Bool.false_ne_true
    rw [if_neg a']
    exact congrArg some e
theorem Hg.look {h:Heap} {x dx C:Addr} {mA:Str→Option Value} (I:Hg h x dx C mA):∃ od,PySem.W.InstAt h x (PySem.W.instObj C dx) C (some od)∧∀ name,PySem.W.lookIn name od=some (mA name):=
  let ⟨od,ho,hl⟩:=KD I.ns
  ⟨od,⟨I.obj,rfl,rfl,ho⟩,hl⟩
section
variable {prog:Program} {w:World} {A:Around} {E:Value→Shared→Prop} {s:Shared} {K:PySem.W.Frag} {x dx C f:Addr} {mA:Str→Option Value} {name:Str} {v:Value}
theorem get_map {expr:Bool} {Q:Value→Shared→Prop} (X:K.In s.heap) (I:Hg s.heap x dx C mA) (hg:PySem.W.plainGet K C name=true) (hh:PySem.W.hasDictIn K C=true)
    (ha:PySem.W.findIn K (.ref C) name=some none) (hv:mA name=some v) (Xn:PySem.W.handedIn v=true) (h:Q v { s with toks:=s.toks + 1 }):
    wpAny (model prog w) A (getAttr (.ref x) name expr) Q E s:=by
  obtain ⟨od,J,hl⟩:=I.look
  exact PySem.W.get_value X J (PySem.W.plainGet_of hg).1 (PySem.W.findObj_own hh ha rfl (by rw [hl,hv])) Xn h
theorem LU {pl:Sem Bool} {Q:Value×List Value→Shared→Prop} (X:K.In s.heap) (I:Hg s.heap x dx C mA) (hg:PySem.W.plainGet K C name=true)
    (hf:PySem.W.findIn K (.ref C) name=some (some (.ref f))) (ht:PySem.W.isFn K (.ref f)=true) (hv:mA name=none) (h:Q (.ref f,[.ref x]) s):
    wpAny (model prog w) A (getMethod (.ref x) name pl) Q E s:=by
  obtain ⟨od,J,hl⟩:=I.look
  exact PySem.W.method_fn X J (PySem.W.plainGet_of hg).1 (PySem.W.plainGet_of hg).2 hf (beq_iff_eq.mp ht) (by show (PySem.W.lookIn name od).map (·.isSome)=some false;rw [hl,hv];rfl) h
theorem NS {ns:List Str} {Q:Unit→Shared→Prop} (X:K.In s.heap) (I:Hg s.heap x dx C mA)
    (hs:PySem.W.findIn K (.ref C) "__setattr__"=some (some (.builtin "object.__setattr__"))) (hp:PySem.W.plainOver K C=true) (ht:PySem.W.takerIn K C name=some none) (hh:PySem.W.hasDictIn K C=true)
    (hw:PySem.Within mA ns) (hsz:ns.length≤sizeLine)
    (h:∀ h',Hg h' x dx C (fun y=>if y=name then some v else mA y)→Heap.SameBut dx s.heap h'→Q () { s with heap:=h',toks:=s.toks + 2 }):
    wpAny (model prog w) A (setAttr (.ref x) name v) Q E s:=by
  obtain ⟨od,J,hl⟩:=I.look
  refine PySem.W.set_plain X J hs (PySem.W.osa_open (s:={ s with toks:=s.toks + 1 }) (r:=none) X J hp ht fun b=>?_)
  obtain ⟨cd,hc,hd'⟩:=PySem.W.any_some hh
  have hx:s.heap.get? x=some ⟨.ref C,some dx,.plain,#[]⟩:=I.obj
  refine wpAny_bind (wpAny_pure (wpAny_bind (wpAny_bind (wpAny_loadPart hx (wpAny_bind (PySem.W.Looks.here (s:={ s with toks:=s.toks + 1 }) (PySem.W.looks_clsIn X hc) ?_))))))
  rw [hd']
  refine wpAny_pure (a:=some dx) (wpAny_bind (wpAny_pure (wpAny_bind ?_)))
  refine wpAny_nsSet1 (s:={ s with toks:=s.toks + 1 }) I.ns fun h' Xo hs2=>?_
  obtain ⟨oD,esD,epD,hoD,hdD,hcD⟩:=Xo.count (PySem.Within.cons name v hw)
  refine wpAny_bind (wpAny_lookBehind hoD (by rw [hdD];exact pastItsLine_dict (Nat.le_trans hcD (by rw [List.length_cons];omega))) ?_)
  exact wpAny_pure (h _ ⟨(hs2.2 _ (Ne.symm I.ne)).trans I.obj,Xo,I.ne⟩ hs2)
theorem FI {R:Result→Shared→Prop} {vs:List Value} {kw:List (Str×Value)} (X:K.In s.heap) (hm:PySem.W.makesIn K C=true)
    (hi:PySem.W.findIn K (.ref C) "__init__"=some (some (.ref f))) (hf:PySem.W.typeIn K (.ref f)=some (.type "function"))
    (h:codeAny (model prog w) (A.under (.builtin "type.__call__" ⟨.ref C::vs,kw⟩)) (.call (.ref f) ⟨.ref (s.heap.objs.size + 1)::vs,kw⟩) (PySem.W.InitBack (s.heap.objs.size + 1) R)
      { s with heap:=(s.heap.push PySem.W.emptyDict).push (PySem.W.instObj C s.heap.objs.size) }):
    codeAny (model prog w) A (.call (.ref C) ⟨vs,kw⟩) R s:=by
  obtain ⟨hh,g,d,t,os⟩:=s
  exact PySem.W.make_core (PySem.W.makes_of X hm) (PySem.W.looks_findIn X hi) (fun self=>PySem.W.bind_fn X self hf) (.inl rfl) h
end
def rF (f:Str) (v:V):List (Str×V)→List (Str×V)
  | []=>[(f,v)]
  | (g,x)::r=>if g=f then (g,v)::r else (g,x)::rF f v r
theorem zb (f g:Str) (v:V):∀ fs:List (Str×V),(rF f v fs).lookup g=if g=f then some v else fs.lookup g
  | []=>by
    show List.lookup g [(f,v)]=_
    by_cases h:g=f
    · have hb:(g==f)=true:=beq_iff_eq.mpr h
      simp only [List.lookup,hb,if_pos h]
    · have hb:(g==f)=false:=beq_eq_false_iff_ne.mpr h
      simp only [List.lookup,hb,if_neg h]
  | (k,x)::r=>by
    have ih:=zb f g v r
    rw [show rF f v ((k,x)::r)=(if k=f then (k,v)::r else (k,x)::rF f v r) from rfl]
    by_cases hk:k=f
    · rw [if_pos hk]
      by_cases h:g=k
      · have hb:(g==k)=true:=beq_iff_eq.mpr h
        simp only [List.lookup,hb,if_pos (h.trans hk)]
      · have hb:(g==k)=false:=beq_eq_false_iff_ne.mpr h
        simp only [List.lookup,hb,if_neg (fun e:g=f=>h (e.trans hk.symm))]
    · rw [if_neg hk]
      by_cases h:g=k
      · have hb:(g==k)=true:=beq_iff_eq.mpr h
        simp only [List.lookup,hb,if_neg (fun e:g=f=>hk (h.symm.trans e))]
      · have hb:(g==k)=false:=beq_eq_false_iff_ne.mpr h
        simp only [List.lookup,hb]
        exact ih
theorem yf (f:Str) (v:V):∀ fs:List (Str×V),f∈(rF f v fs).map (·.1)∧∀ g,g∈fs.map (·.1)→g∈(rF f v fs).map (·.1)
  | []=>⟨by simp [rF],fun g h=>by simp at h⟩
  | (k,x)::r=>by
    obtain ⟨i1,i2⟩:=yf f v r
    rw [show rF f v ((k,x)::r)=(if k=f then (k,v)::r else (k,x)::rF f v r) from rfl]
    by_cases hk:k=f
    · rw [if_pos hk]
      subst hk
      exact ⟨by simp,fun g h=>by simpa using h⟩
    · rw [if_neg hk]
      refine ⟨?_,fun g h=>?_⟩
      · rw [List.map_cons]
        exact List.mem_cons_of_mem _ i1
      · rw [List.map_cons] at h ⊢
        rcases List.mem_cons.mp h with e | e
        · exact List.mem_cons.mpr (.inl e)
        · exact List.mem_cons_of_mem _ (i2 g e)
theorem rG (f:Str) (v:V):∀ fs:List (Str×V),(rF f v fs).length≤fs.length + 1
  | []=>by simp [rF]
  | (k,x)::r=>by
    have ih:=rG f v r
    rw [show rF f v ((k,x)::r)=(if k=f then (k,v)::r else (k,x)::rF f v r) from rfl]
    by_cases hk:k=f
    · rw [if_pos hk,List.length_cons,List.length_cons];omega
    · rw [if_neg hk,List.length_cons,List.length_cons];omega
theorem tY.some_of {v:V} {o:Option Value} (r:tY (some v) o):∃ u,o=some u∧RelV v u:=by
  cases o with
  | none=>exact (show False from r).elim
  | some u=>exact ⟨u,rfl,r⟩
theorem tY.none_of {o:Option Value} (r:tY none o):o=none:=by
  cases o with
  | none=>rfl
  | some u=>exact (show False from r).elim
theorem KG {v:V} {u:Value} (r:RelV v u):PySem.W.handedIn u=true:=by
  cases v with
  | eO=>cases (show u=Value.none from r);rfl
  | bl b=>cases (show u=Value.bool b from r);rfl
  | int i=>obtain ⟨t,e⟩:=(show ∃ t,u=Value.int i t from r);cases e;rfl
  | str x=>obtain ⟨t,e⟩:=(show ∃ t,u=Value.str x t from r);cases e;rfl
  | IZ b=>obtain ⟨t,e⟩:=(show ∃ t,u=Value.bytes b t from r);cases e;rfl
  | Qp b=>obtain ⟨t,e⟩:=(show ∃ t,u=Value.float b t from r);cases e;rfl
  | ref a=>cases (show u=Value.ref a from r);rfl
  | ty n=>cases (show u=Value.type n from r);rfl
section
variable {P:Program} {w:World} {H H':Hp} {h h':Heap} {a C dx:Addr} {fs fs':List (Str×V)}
theorem p8 (gm:zJ P w H h) (e:H a=some (.ins C dx fs)):∃ mA,Hg h a dx C mA∧(∀ f,tY (fs.lookup f) (mA f))∧PySem.Within mA (fs.map (·.1))∧fs.length≤1000∧H dx=some (.own a):=by
  obtain ⟨d,z,ne,ob,mA,n,r,q⟩:=(show iY P w H h a (.ins C dx fs) from gm a _ e)
  exact ⟨mA,⟨ob,n,ne⟩,r,q,z,d⟩
end
structure lQ (K:PySem.W.Frag) (C:Addr):Prop where
  pg:PySem.W.plainGet K C Str.empty=true
  hd:PySem.W.hasDictIn K C=true
  po:PySem.W.plainOver K C=true
  sa:PySem.W.findIn K (.ref C) "__setattr__"=some (some (.builtin "object.__setattr__"))
theorem lQ.get {K:PySem.W.Frag} {C:Addr} (c:lQ K C) (f:Str):PySem.W.plainGet K C f=true:=c.pg
def aQ (K:PySem.W.Frag) (C:Addr) (f:Str):Prop:=PySem.W.findIn K (.ref C) f=some none
theorem aQ.T7 {K:PySem.W.Frag} {C:Addr} {f:Str} (n:aQ K C f):PySem.W.takerIn K C f=some none:=by
  unfold PySem.W.takerIn
  rw [show PySem.W.findIn K (.ref C) f=some none from n]
  rfl
structure Con (K:PySem.W.Frag) (C:Addr) (f:Str) (v:V) (u:Value):Prop where
  at_:PySem.W.findIn K (.ref C) f=some (some u)
  rel:RelV v u
  get:PySem.W.specialIn K u "__get__"=some none
  cp:PySem.W.copiedNames.contains f=false
structure Meth (K:PySem.W.Frag) (C:Addr) (m:Str) (f:Addr):Prop where
  at_:PySem.W.findIn K (.ref C) m=some (some (.ref f))
  fn:PySem.W.isFn K (.ref f)=true
  kp:PySem.W.keepIn K (.ref f)=true
section
variable {X:Cx} {pins:List (Addr×Obj)} {σ:St} {H:Hp} {s:Shared} {a C dx:Addr} {fs:List (Str×V)} {f:Str} {v:V} {A:Around} {E:Value→Shared→Prop}
theorem Hh {b:Bool} {Q:Value→Shared→Prop} (I:Inv X pins σ H s) (e:H a=some (.ins C dx fs)) (c:lQ X.K C) (n:aQ X.K C f) (l:fs.lookup f=some v)
    (h:∀ u s',Inv X pins σ H s'→RelV v u→Q u s'):wpAny (model X.prog X.w) A (getAttr (.ref a) f b) Q E s:=by
  obtain ⟨mA,O,r,_,_,_⟩:=p8 I.gm e
  obtain ⟨u,hu,ru⟩:=tY.some_of (v:=v) (o:=mA f) (by rw [← l];exact r f)
  exact get_map I.nJ O (c.get f) c.hd n hu (KG ru) (h u _ (I.tok _) ru)
theorem uU {m:Str} {g:Addr} {pl:Sem Bool} {Q:Value×List Value→Shared→Prop} (I:Inv X pins σ H s) (e:H a=some (.ins C dx fs)) (c:lQ X.K C) (k:Meth X.K C m g) (l:fs.lookup m=none)
    (h:Q (.ref g,[.ref a]) s):wpAny (model X.prog X.w) A (getMethod (.ref a) m pl) Q E s:=by
  obtain ⟨mA,O,r,_,_,_⟩:=p8 I.gm e
  have hn:mA m=none:=tY.none_of (by rw [← l];exact r m)
  exact LU I.nJ O (c.get m) k.at_ k.fn hn h
theorem Hi {y:V} {u:Value} {Q:Unit→Shared→Prop} (I:Inv X pins σ H s) (e:H a=some (.ins C dx fs)) (c:lQ X.K C) (n:aQ X.K C f) (hl:fs.length < 1000) (ry:RelV y u)
    (h:∀ s',Inv X pins σ (upd H a (.ins C dx (rF f y fs))) s'→Q () s'):wpAny (model X.prog X.w) A (setAttr (.ref a) f u) Q E s:=by
  obtain ⟨mA,O,r,wi,_,ho⟩:=p8 I.gm e
  have hz:(fs.map (·.1)).length≤sizeLine:=by rw [List.length_map,sizeLine_eq];omega
  refine NS I.nJ O c.sa c.po n.T7 c.hd wi hz fun h' O' sb=>h _ ?_
  have hd:∃ o,h'.get? dx=some o:=let ⟨o,_,_,e',_⟩:=O'.ns;⟨o,e'⟩
  refine I.write (x:=a) (e:=dx) (by rw [e];exact True.intro) (.inr ho) (fun b q hb z=>(sb.2 b hb).trans z) hd ?_
  refine ⟨by rw [bE O.ne];exact ho,?_,O.ne,O'.obj,_,O'.ns,fun g=>?_,fun g hg=>?_⟩
  · have:=rG f y fs;omega
  · show tY ((rF f y fs).lookup g) (if g=f then some u else mA g)
    rw [zb]
    by_cases q:g=f
    · rw [if_pos q,if_pos q];exact ry
    · rw [if_neg q,if_neg q];exact r g
  · by_cases q:g=f
    · rw [q];exact (yf f y fs).1
    · refine (yf f y fs).2 g (wi g fun z=>hg ?_)
      show (if g=f then some u else mA g)=none
      rw [if_neg q];exact z
theorem Inv.made (I:Inv X pins σ H s):Inv X pins σ (upd (upd H s.heap.objs.size (.own (s.heap.objs.size + 1))) (s.heap.objs.size + 1) (.ins C s.heap.objs.size []))
    { s with heap:=(s.heap.push PySem.W.emptyDict).push (PySem.W.instObj C s.heap.objs.size) }:=by
  have e1:(s.heap.push PySem.W.emptyDict).get? s.heap.objs.size=some PySem.W.emptyDict:=Heap.get?_push_size s.heap rfl
  have e2:((s.heap.push PySem.W.emptyDict).push (PySem.W.instObj C s.heap.objs.size)).get? (s.heap.objs.size + 1)=some (PySem.W.instObj C s.heap.objs.size):=by
    have:=Heap.get?_push_size (s.heap.push PySem.W.emptyDict) (o:=PySem.W.instObj C s.heap.objs.size) rfl
    rwa [Heap.size_push] at this
  have e3:(s.heap.push PySem.W.emptyDict).Ns s.heap.objs.size (fun _=>none):=⟨PySem.W.emptyDict,#[],_,e1,rfl,(fun e he=>absurd he (by simp)),fun _=>rfl⟩
  have I1:=I.laid (a:=s.heap.objs.size) (o:=.own (s.heap.objs.size + 1)) (h':=s.heap.push PySem.W.emptyDict) (t':=s.toks) (fun b u q=>Heap.get?_push_of_some _ q) (Nat.le_refl _) ⟨_,e1⟩
  refine I1.laid (a:=s.heap.objs.size + 1) (o:=.ins C s.heap.objs.size []) (t':=s.toks) (fun b u q=>Heap.get?_push_of_some _ q) (Nat.le_of_eq (Heap.size_push _ _)) ?_
  have ne:s.heap.objs.size≠s.heap.objs.size + 1:=Nat.ne_of_lt (Nat.lt_succ_self _)
  refine ⟨by rw [bE ne,av],Nat.zero_le _,ne,e2,fun _=>none,(Heap.Ns1.of_empty e3).at fun o q=>Heap.get?_push_of_some _ q,fun _=>True.intro,fun y hy=>absurd rfl hy⟩
theorem NT {prog:Program} {w:World} {env:Env} {e:Expr} {f:Str} {pos:Pos} {s:Shared} {Q:Value→Shared→Prop} (hb:attributeBase e f env (eval e env)=eval e env)
    (h:wpAny (model prog w) A (eval e env) (fun o s₁=>wpAny (model prog w) A (getAttr o f true) Q E s₁) E s):wpAny (model prog w) A (eval (.Attribute e f pos) env) Q E s:=
  Attribute_any_ h (by rw [arm_eval_Attribute,hb])
end
def jZ (K:PySem.W.Frag) (ta:TE) (f:Str):TE:=fun σ H Q=>ta σ H fun x H1=>∃ a C dx fs v,x=.ref a∧H1 a=some (.ins C dx fs)∧lQ K C∧aQ K C f∧fs.lookup f=some v∧Q v H1
def j0 (K:PySem.W.Frag) (ta tv:TE) (f:Str):TS:=fun D σ H=>tv σ H fun y H1=>ta σ H1 fun x H2=>∃ a C dx fs,x=.ref a∧H2 a=some (.ins C dx fs)∧lQ K C∧aQ K C f∧fs.length < 1000∧
  D.nx σ (upd H2 a (.ins C dx (rF f y fs)))
section
variable {X:Cx} {o e value:Expr} {f:Str} {pos pos' T8:Pos} {ta tv:TE}
theorem QT (he:PE X e ta) (hb:attributeBase e f X.env (eval e X.env)=eval e X.env):PE X (.Attribute e f pos) (jZ X.K ta f):=by
  intro pins s σ H Q I h
  refine NT hb (eo (he pins s σ H _ I h) fun u s1 ⟨x,H1,I1,rx,a,C,dx,fs,v,ex,ea,c,n,l,q⟩=>?_)
  subst ex
  obtain rfl:u=Value.ref a:=rx
  exact Hh I1 ea c n l fun u' s2 I2 ru=>⟨v,H1,I2,ru,q⟩
theorem QU (ha:PE X o ta) (hv:PE X value tv) (hs:swapsWith value (some (.Attribute o f pos')) pos.line X.env=pure false):PS X (.Assign [.Attribute o f pos'] value pos) (j0 X.K ta tv f):=by
  intro pins s σ H D I h
  refine plainObj_wpAny_Assign_Attribute (eo (hv pins s σ H _ I h) fun u s1 ⟨y,H1,I1,ry,q⟩=>eo (ha pins s1 σ H1 _ I1 q) fun ov s2 ⟨x,H2,I2,rx,a,C,dx,fs,ex,ea,c,n,l,q2⟩=>?_) hs
  subst ex
  obtain rfl:ov=Value.ref a:=rx
  exact Hi I2 ea c n l ry fun s3 I3=>⟨σ,_,I3,q2⟩
end
section
variable {X:Cx} {pins:List (Addr×Obj)} {σ:St} {H:Hp} {s:Shared} {A:Around} {E:Value→Shared→Prop} {Q:Value→Shared→Prop} {c:Value} {b:Bool}
inductive uV (K:PySem.W.Frag) (H:Hp):V→Value→Prop where
  | eO:uV K H .eO (.type "NoneType")
  | bl (x:Bool):uV K H (.bl x) (.type "bool")
  | int (i:Int):uV K H (.int i) (.type "int")
  | str (x:Str):uV K H (.str x) (.type "str")
  | Qp (x:UInt64):uV K H (.Qp x) (.type "float")
  | lst {a:Addr} {xs:List V} (e:H a=some (.lst xs)):uV K H (.ref a) (.type "list")
  | GS {a:Addr} {o:Obj} {xs:List V} (e:H a=some (.GS o (.lst xs))):uV K H (.ref a) (.type "list")
  | tup {a:Addr} {xs:List V} (e:H a=some (.tup xs)):uV K H (.ref a) (.type "tuple")
  | dK {a:Addr} {dD:List (Key×V)} (e:H a=some (.dK dD)):uV K H (.ref a) (.type "dict")
  | dT {a:Addr} {dD:List (List Key×V)} (e:H a=some (.dT dD)):uV K H (.ref a) (.type "dict")
  | ins {a C dx:Addr} {fs:List (Str×V)} (e:H a=some (.ins C dx fs)) (cl:lQ K C) (ha:PySem.W.findIn K (.ref C) "__class__"=some (some (.builtin "object.__class__")))
      (hn:PySem.W.specialIn K (.builtin "object.__class__") "__get__"=some (some (.builtin "getset_descriptor.__get__"))) (htk:PySem.W.takesIn K (.builtin "object.__class__")=some true)
      (hm:PySem.W.mroIn K C (.type "object")=some true):uV K H (.ref a) (.ref C)
theorem CN {x:V} {u t:Value} (I:Inv X pins σ H s) (rx:RelV x u) (ty:uV X.K H x t) (e:PySem.W.kitOne X.K t c=some b) (h:∀ tk,Q (.bool b) { s with toks:=tk }):
    wpAny (model X.prog X.w) A (call (.builtin "isinstance") [u,c]) Q E s:=by
  cases ty with
  | eO=>cases (show u=Value.none from rx);exact PySem.W.kia_one PySem.W.kitx_none I.nJ True.intro e (fun z=>nomatch z) h
  | bl y=>cases (show u=Value.bool y from rx);exact PySem.W.kia_one PySem.W.kitx_bool I.nJ True.intro e (fun z=>nomatch z) h
  | int i=>obtain ⟨t,q⟩:=(show ∃ t,u=Value.int i t from rx);cases q;exact PySem.W.kia_one PySem.W.kitx_int I.nJ True.intro e (fun z=>nomatch z) h
  | str y=>obtain ⟨t,q⟩:=(show ∃ t,u=Value.str y t from rx);cases q;exact PySem.W.kia_one PySem.W.kitx_str I.nJ True.intro e (fun z=>nomatch z) h
  | Qp y=>obtain ⟨t,q⟩:=(show ∃ t,u=Value.float y t from rx);cases q;exact PySem.W.kia_one PySem.W.kitx_float I.nJ True.intro e (fun z=>nomatch z) h
  | @lst a xs ea=>
    cases (show u=Value.ref a from rx)
    obtain ⟨_,_,n,_,h1⟩:=(show iY X.prog X.w H s.heap a (.lst xs) from I.gm a _ ea)
    exact PySem.W.kia_one PySem.W.kitx_list I.nJ ⟨_,h1,rfl⟩ e (fun z=>nomatch z) h
  | @GS a ob xs ea=>
    cases (show u=Value.ref a from rx)
    obtain ⟨_,_,_,n,_,h1⟩:=(show iY X.prog X.w H s.heap a (.GS ob (.lst xs)) from I.gm a _ ea)
    exact PySem.W.kia_one PySem.W.kitx_list I.nJ ⟨_,h1,rfl⟩ e (fun z=>nomatch z) h
  | @tup a xs ea=>
    cases (show u=Value.ref a from rx)
    obtain ⟨_,_,_,p⟩:=(show iY X.prog X.w H s.heap a (.tup xs) from I.gm a _ ea)
    obtain ⟨o,h1,h2,_⟩:=p
    exact PySem.W.kia_one PySem.W.kitx_tuple I.nJ ⟨o,h1,h2⟩ e (fun z=>nomatch z) h
  | @dK a dD ea=>
    cases (show u=Value.ref a from rx)
    obtain ⟨_,_,vs,_,p⟩:=(show iY X.prog X.w H s.heap a (.dK dD) from I.gm a _ ea)
    obtain ⟨o,es,ep,h1,h2,_⟩:=p
    exact PySem.W.kia_one PySem.W.kitx_dict I.nJ ⟨o,h1,h2.1⟩ e (fun z=>nomatch z) h
  | @dT a dD ea=>
    cases (show u=Value.ref a from rx)
    obtain ⟨_,_,xs,_,o,es,ep,h1,h2,_⟩:=(show iY X.prog X.w H s.heap a (.dT dD) from I.gm a _ ea)
    exact PySem.W.kia_one PySem.W.kitx_dict I.nJ ⟨o,h1,h2.1⟩ e (fun z=>nomatch z) h
  | @ins a C dx fs ea cl ha hn htk hm=>
    cases (show u=Value.ref a from rx)
    obtain ⟨mA,O,_⟩:=p8 I.gm ea
    obtain ⟨od,J,_⟩:=O.look
    exact PySem.W.kia_one (PySem.W.kitx_own (cl.get _) cl.hd ha hn htk hm) I.nJ J e (fun z=>nomatch z) h
end
end L2
namespace L2
open PySem PySem.Spec PyProof.Rows
structure dU (k:Nat) (A:Around):Prop where
  hd:A.handled=none
  dp:A.depth + 3 * k + 5 < recursionLimit
  un:A.units + 16 * k + 200 < cLine
  gd:A.guards=some []
theorem dU.mono {j k:Nat} {A:Around} (r:dU k A) (h:j≤k):dU j A:=⟨r.hd,by have:=r.dp;omega,by have:=r.un;omega,r.gd⟩
theorem dU.deeper {k:Nat} {A:Around} (r:dU (k + 1) A) (env:Env):dU k (A.deeper env):=
  ⟨r.hd,by have:=r.dp;show A.depth + 1 + 3 * k + 5 < _;omega,by have:=r.un;show A.units + 3 + 16 * k + 200 < _;omega,r.gd⟩
theorem dU.in1 {k:Nat} {A:Around} (r:dU (k + 1) A):dU k A.in1:=
  ⟨r.hd,by have:=r.dp;show A.depth + 3 * k + 5 < _;omega,by have:=r.un;show A.units + 1 + 16 * k + 200 < _;omega,r.gd⟩
theorem Hj {A:Around} {C:Addr} {us:List Value} {kw:List (Str×Value)}:(A.under (.builtin "type.__call__" ⟨.ref C::us,kw⟩)).depth=A.depth + 1:=by
  first | rfl | simp [Around.under,Code.weight,Code.isCreation,Code.isGuard,Code.isCaller,Code.frames,Code.isFrame,guardIds]
theorem Hl {A:Around} {C:Addr} {us:List Value} {kw:List (Str×Value)}:(A.under (.builtin "type.__call__" ⟨.ref C::us,kw⟩)).units=A.units + 1:=by
  first | rfl | simp [Around.under,Code.cUnits,Code.frames,Code.isFrame]
theorem dU.make {k:Nat} {A:Around} (r:dU (k + 1) A) (C:Addr) (us:List Value) (kw:List (Str×Value)):dU k (A.under (.builtin "type.__call__" ⟨.ref C::us,kw⟩)):=
  ⟨r.hd,by have:=r.dp;rw [Hj];omega,by have:=r.un;rw [Hl];omega,by have:=r.gd;first | exact this | simpa [Around.under,Code.guards,Code.isGuard,pushGuards,guardIds] using this⟩
theorem dU.depth {k:Nat} {A:Around} (r:dU k A):A.depth < recursionLimit:=by have:=r.dp;omega
theorem dU.units {k:Nat} {A:Around} (r:dU k A):A.units + 64 < cLine:=by have:=r.un;omega
theorem dU.Ho {k:Nat} {A:Around} (r:dU k A):A.units < cLine:=by have:=r.un;omega
def iG:TA:=fun _ H Q=>Q [] H
def eX (ta:TE) (tr:TA):TA:=fun σ H Q=>ta σ H fun x H1=>tr σ H1 fun xs H2=>Q (x::xs) H2
section
variable {X:Cx} {e:Expr} {es:List Expr} {te:TE} {t:TA} {pos:Pos}
theorem QV:PA X [] iG:=fun _ _ _ _ H Q I h=>Calls.spliced_nil ⟨[],H,I,.nil,h⟩
theorem NU (ha:PE X e te) (hr:PA X es t) (hs:starEach (e::es) X.env=(false,eval e X.env)::starEach es X.env:=by rfl):PA X (e::es) (eX te t):=by
  intro pos pins s σ H Q I h
  rw [hs]
  show wpAny _ _ (spliced ((false,eval e X.env)::backTo pos (starEach es X.env))) _ _ s
  refine Calls.spliced_cons (eo (ha pins s σ H _ I h) fun u s1 ⟨x,H1,I1,r1,q1⟩=>?_)
  exact eo (hr pos pins s1 σ H1 _ I1 q1) fun us s2 ⟨xs,H2,I2,r2,q2⟩=>⟨x::xs,H2,I2,.cons r1 r2,q2⟩
def lC (t:TA):TE:=fun σ H Q=>t σ H fun xs H1=>xs.length≤sizeLine∧∀ p,H1 p=none→Q (.ref p) (upd H1 p (.tup xs))
def lD (t:TA):TE:=fun σ H Q=>t σ H fun xs H1=>xs.length≤sizeLine∧∀ p,H1 p=none→Q (.ref p) (upd H1 p (.lst xs))
end
abbrev Sp:=List V→Hp→VK→XK→Prop
abbrev DA:=List Env→Hp→Shared→XK→Value→Shared→Prop
structure zL (P:Program) (w:World) (K:PySem.W.Frag) (mg:Str→Option Value) (base:Heap) (A:Around) (outer:List Env) (s:Shared) (H:Hp):Prop where
  frames:A.frames=some outer
  mod:Mod K mg base
  bs:∀ b o,base.get? b=some o→s.heap.get? b=some o∧H b=none
  Jb:base.objs.size≤s.heap.objs.size
  rD:s.heap.FunFrames base outer
  LG:∀ b∈CL outer,H b=none
  gm:zJ P w H s.heap
  bare:AllBare s.gens
def CE (outer:List Env) (P:Program) (w:World) (H:Hp) (s:Shared) (Q:VK) (u:Value) (s':Shared):Prop:=
  ∃ v H',s'.os=s.os∧AllBare s'.gens∧Un (CL outer) [] H H' s.heap s'.heap∧zJ P w H' s'.heap∧RelV v u∧Q v H'
def CR (CX:DA) (outer:List Env) (P:Program) (w:World) (H:Hp) (s:Shared) (Q:VK) (E:XK) (r:Result) (s':Shared):Prop:=
  match r with
  | .ok (.ret u)=>CE outer P w H s Q u s'
  | .ok _=>False
  | .error e=>CX outer H s E e s'
structure aL (P:Program) (w:World) (K:PySem.W.Frag) (mg:Str→Option Value) (base:Heap) (CX:DA) (k:Nat) (f:Addr) (fd:FuncData) (ps:List Str) (sp:Sp):Prop where
  len:∀ vs H Q E,sp vs H Q E→vs.length=ps.length
  run:∀ (A:Around) (outer:List Env) (s:Shared) (H:Hp) (args:Args) (us:List Value) (vs:List V) (Q:VK) (E:XK),dU k A→zL P w K mg base A outer s H→BindsTo s fd args (ps.zip us)→Vals vs us→sp vs H Q E→
    codeAny (model P w) A (.call (.ref f) args) (CR CX outer P w H s Q E) s
theorem aL.mono {P:Program} {w:World} {K:PySem.W.Frag} {mg:Str→Option Value} {base:Heap} {CX:DA} {j k:Nat} {f:Addr} {fd:FuncData} {ps:List Str} {sp:Sp} (F:aL P w K mg base CX j f fd ps sp) (h:j≤k):
    aL P w K mg base CX k f fd ps sp:=⟨F.len,fun A outer s H args us vs Q E hr=>F.run A outer s H args us vs Q E (hr.mono h)⟩
theorem aL.imp {P:Program} {w:World} {K:PySem.W.Frag} {mg:Str→Option Value} {base:Heap} {CX:DA} {k:Nat} {f:Addr} {fd:FuncData} {ps:List Str} {sp LV:Sp} (F:aL P w K mg base CX k f fd ps sp)
    (h:∀ vs H Q E,LV vs H Q E→sp vs H Q E):aL P w K mg base CX k f fd ps LV:=
  ⟨fun vs H Q E q=>F.len vs H Q E (h _ _ _ _ q),fun A outer s H args us vs Q E hr he hb hv hs=>F.run A outer s H args us vs Q E hr he hb hv (h _ _ _ _ hs)⟩
theorem zL.make {P:Program} {w:World} {K:PySem.W.Frag} {mg:Str→Option Value} {base:Heap} {A:Around} {outer:List Env} {s:Shared} {H:Hp} (e:zL P w K mg base A outer s H) (C:Addr) (us:List Value) (kw:List (Str×Value)):
    zL P w K mg base (A.under (.builtin "type.__call__" ⟨.ref C::us,kw⟩)) outer s H:=⟨by first | exact e.frames | (simpa [Around.under,Code.envs,Code.isFrame,pushEnvs] using e.frames),e.mod,e.bs,e.Jb,e.rD,e.LG,e.gm,e.bare⟩
theorem zL.in1 {P:Program} {w:World} {K:PySem.W.Frag} {mg:Str→Option Value} {base:Heap} {A:Around} {outer:List Env} {s:Shared} {H:Hp} (e:zL P w K mg base A outer s H):
    zL P w K mg base A.in1 outer s H:=⟨e.frames,e.mod,e.bs,e.Jb,e.rD,e.LG,e.gm,e.bare⟩
section
variable {X:Cx} {pins:List (Addr×Obj)} {σ:St} {H:Hp} {s s':Shared}
theorem Inv.Hq (I:Inv X pins σ H s):zL X.prog X.w X.K X.mg X.base X.A X.stack s H:=
  ⟨I.ok.frames,I.ok.mod,I.bs,Nat.le_trans I.ok.Jb I.sz,I.stack,I.Jc,I.gm,I.bare⟩
theorem Inv.after {Q:VK} {u:Value} (I:Inv X pins σ H s) (h:CE X.stack X.prog X.w H s Q u s'):EP X pins σ Q u s':=by
  obtain ⟨v,H',os,bare,un,gm,r,q⟩:=h
  obtain ⟨hh,g,d,t,os'⟩:=s'
  obtain rfl:os'=s.os:=os
  exact ⟨v,H',I.call (h':=hh) (g':=g) (d':=d) (t':=t) (ch:=[]) un gm bare (fun b z=>absurd z (by simp)),r,q⟩
end
def eY (sp:Sp) (jz:List V) (E:XK) (t:TA):TE:=fun σ H Q=>t σ H fun vs H1=>sp (vs++jz) H1 Q E
def eZ (C:Addr) (m:Str) (sp:Sp) (jz:List V) (E:XK) (ta:TE) (t:TA):TE:=fun σ H Q=>ta σ H fun x H1=>∃ a dx fs,x=.ref a∧H1 a=some (.ins C dx fs)∧fs.lookup m=none∧
  t σ H1 fun vs H2=>sp (x::(vs++jz)) H2 Q E
def Binds (K:PySem.W.Frag) (fd:FuncData) (ps:List Str) (ds:List Value):Prop:=
  ∀ (s:Shared) (us:List Value),K.In s.heap→(us++ds).length=ps.length→BindsTo s fd ⟨us,[]⟩ (ps.zip (us++ds))
theorem Binds.all {K:PySem.W.Frag} {fd:FuncData} {ps:List Str} (h:∀ us:List Value,us.length=ps.length→bindArgs fd ⟨us,[]⟩=pure (ps.zip us)):Binds K fd ps []:=fun s us _ hl=>by
  rw [List.append_nil] at hl ⊢
  exact .of_eq (h us hl)
def Passes (CX:DA) (X:Cx) (E:XK):Prop:=∀ (pins:List (Addr×Obj)) (σ:St) (H:Hp) (s:Shared) (e:Value) (s':Shared),Inv X pins σ H s→CX X.stack H s E e s'→X.xe e s'
section
variable {X:Cx} {CX:DA} {k:Nat} {f C:Addr} {fd:FuncData} {ps:List Str} {sp:Sp} {jz:List V} {ds:List Value} {E:XK} {x m:Str} {p pos apos:Pos} {e o:Expr} {es:List Expr} {ta:TE} {t:TA}
theorem Hr {pins:List (Addr×Obj)} {σ:St} {H:Hp} {s:Shared} {Q:VK} {us:List Value} {vs:List V} (F:aL X.prog X.w X.K X.mg X.base CX k f fd ps sp) (hr:dU k X.A) (hb:Binds X.K fd ps ds) (hd:Vals jz ds) (hx:Passes CX X E)
    (I:Inv X pins σ H s) (r:Vals vs us) (h:sp (vs++jz) H Q E):wpAny (model X.prog X.w) X.A (call (.ref f) us) (EP X pins σ Q) X.xe s:=by
  have r2:Vals (vs++jz) (us++ds):=r.append hd
  have hl:(us++ds).length=ps.length:=by rw [← r2.length];exact F.len _ _ _ _ h
  refine wpAny_call (codeAny_mono (F.run X.A X.stack s H ⟨us,[]⟩ (us++ds) (vs++jz) Q E hr I.Hq (hb s us I.nJ hl) r2 h) fun r s' hq=>?_)
  cases r with
  | error e=>exact hx pins σ H s e s' I hq
  | ok fl=>
    cases fl with
    | ret u=>exact I.after hq
    | next=>exact False.elim hq
    | brk=>exact False.elim hq
    | cont=>exact False.elim hq
theorem NV (F:aL X.prog X.w X.K X.mg X.base CX k f fd ps sp) (hr:dU k X.A) (hg:Gl X x) (hm:X.mg x=some (.ref f)) (hk:PySem.W.keepIn X.K (.ref f)=true) (hb:Binds X.K fd ps ds) (hd:Vals jz ds) (hx:Passes CX X E)
    (ha:PA X (e::es) t) (zc:(x==("__debug__":Str))=false:=by decide) (he:starEach (e::es) X.env=(false,eval e X.env)::starEach es X.env:=by rfl) (vI:(backTo pos (starEach es X.env)).any (·.1)=false:=by rfl):
    PE X (.Call (.Name x p) (e::es) [] pos) (eY sp jz E t):=by
  intro pins s σ H Q I h
  refine wpAny_Call_Name_kw (p7 I hg hm ?_ zc)
  refine PySem.W.callWith_K (h₀:=X.base) I.ok.mod.LF hk (eo (ha pos pins s σ H _ I h) fun us s1 ⟨vs,H1,I1,r,q⟩=>⟨I1.nJ,?_⟩) he vI
  exact Hr F hr hb hd hx I1 r q
theorem NW {pl:Sem Bool} (he:PE X o ta) (c:lQ X.K C) (hm:Meth X.K C m f) (F:aL X.prog X.w X.K X.mg X.base CX k f fd ps sp) (hr:dU k X.A) (hb:Binds X.K fd ps ds) (hd:Vals jz ds) (hx:Passes CX X E) (ha:PA X (e::es) t)
    (G6:starEach (e::es) X.env=(false,eval e X.env)::starEach es X.env:=by rfl) (vI:(backTo pos (starEach es X.env)).any (·.1)=false:=by rfl)
    (ht:eval (.Call (.Attribute o m apos) (e::es) [] pos) X.env=(do
      let ov ← eval o X.env
      standAt apos.atName
      let (f,first) ← holding [ov] (getMethod ov m pl)
      callWith pos f first (backTo pos (starEach (e::es) X.env)) (backToKw pos (keywordEach [] X.env))):=by rfl):
    PE X (.Call (.Attribute o m apos) (e::es) [] pos) (eZ C m sp jz E ta t):=by
  intro pins s σ H Q I h
  refine PySem.W.methodCall_KW (pl:=pl) (eo (he pins s σ H _ I h) fun u s1 ⟨x,H1,I1,rx,a,dx,fs,ex,ea,l,q⟩=>?_) ht
  subst ex
  obtain rfl:u=Value.ref a:=rx
  refine uU I1 ea c hm l ?_
  refine PySem.W.callWith_K (first:=[.ref a]) (h₀:=X.base) I.ok.mod.LF hm.kp (eo (ha pos pins s1 σ H1 _ I1 q) fun us s2 ⟨vs,H2,I2,r,q2⟩=>⟨I2.nJ,?_⟩) G6 vI
  exact Hr (us:=.ref a::us) (vs:=.ref a::vs) F hr hb hd hx I2 (.cons rfl r) q2
theorem LW {pl:Sem Bool} (he:PE X o ta) (c:lQ X.K C) (hm:Meth X.K C m f) (F:aL X.prog X.w X.K X.mg X.base CX k f fd ps sp) (hr:dU k X.A) (hb:Binds X.K fd ps ds) (hd:Vals jz ds) (hx:Passes CX X E)
    (ht:eval (.Call (.Attribute o m apos) [] [] pos) X.env=(do
      let ov ← eval o X.env
      standAt apos.atName
      let (f,first) ← holding [ov] (getMethod ov m pl)
      callWith pos f first (backTo pos (starEach [] X.env)) (backToKw pos (keywordEach [] X.env))):=by rfl):
    PE X (.Call (.Attribute o m apos) [] [] pos) (eZ C m sp jz E ta iG):=by
  intro pins s σ H Q I h
  refine PySem.W.methodCall_KW (pl:=pl) (eo (he pins s σ H _ I h) fun u s1 ⟨x,H1,I1,rx,a,dx,fs,ex,ea,l,q⟩=>?_) ht
  subst ex
  obtain rfl:u=Value.ref a:=rx
  refine uU I1 ea c hm l ?_
  exact PySem.W.callWith_K0 (first:=[.ref a]) I1.nJ hm.kp (Hr (us:=[.ref a]) (vs:=[.ref a]) F hr hb hd hx I1 (.cons rfl .nil) q)
structure Mk (K:PySem.W.Frag) (C f:Addr):Prop where
  makes:PySem.W.makesIn K C=true
  init:PySem.W.findIn K (.ref C) "__init__"=some (some (.ref f))
  fn:PySem.W.isFn K (.ref f)=true
  kp:PySem.W.keepIn K (.ref C)=true
end
def PK (X:Cx) (p5:List Keyword) (t:TA):Prop:=
  ∀ (pos:Pos) (pins:List (Addr×Obj)) (s:Shared) (σ:St) (H:Hp) (Q:List V→Hp→Prop),Inv X pins σ H s→t σ H Q→wpAny (model X.prog X.w) X.A (evalAll ((backToKw pos (keywordEach p5 X.env)).map (·.2))) (AP X pins σ Q) X.xe s
section
variable {X:Cx} {CX:DA} {k:Nat} {f C:Addr} {fd:FuncData} {ps ks:List Str} {sp:Sp} {E:XK} {x m:Str} {p pos apos QW:Pos} {e o:Expr} {es:List Expr} {p5:List Keyword} {te ta:TE} {t tk:TA} {nm:Option Str}
theorem QX:PK X [] iG:=fun _ _ _ _ H Q I h=>wpAny_evalAll_nil ⟨[],H,I,.nil,h⟩
theorem NY (ha:PE X e te) (hr:PK X p5 t):PK X (⟨nm,e,QW⟩::p5) (eX te t):=by
  intro pos pins s σ H Q I h
  show wpAny _ _ (evalAll ((do let v ← eval e X.env;standAt pos;pure v)::(backToKw pos (keywordEach p5 X.env)).map (·.2))) _ _ s
  refine wpAny_evalAll_cons (wpAny_bind (eo (ha pins s σ H _ I h) fun u s1 ⟨x,H1,I1,r1,q1⟩=>wpAny_bind (wpAny_standAt (wpAny_pure ?_))))
  exact eo (hr pos pins s1 σ H1 _ I1 q1) fun us s2 ⟨xs,H2,I2,r2,q2⟩=>⟨x::xs,H2,I2,.cons r1 r2,q2⟩
structure uW (K:PySem.W.Frag) (fd:FuncData) (ps ks:List Str) (g:List Value→List Value→List Value) (gV:List V→List V→List V):Prop where
  to:∀ (s:Shared) (us ws:List Value),K.In s.heap→(g us ws).length=ps.length→BindsTo s fd ⟨us,ks.zip ws⟩ (ps.zip (g us ws))
  rel:∀ {vs:List V} {us:List Value} {zs:List V} {ws:List Value},Vals vs us→Vals zs ws→Vals (gV vs zs) (g us ws)
def DB (sp:Sp) (gV:List V→List V→List V) (E:XK) (t tk:TA):TE:=fun σ H Q=>t σ H fun vs H1=>tk σ H1 fun zs H2=>sp (gV vs zs) H2 Q E
variable {g:List Value→List Value→List Value} {gV:List V→List V→List V}
theorem Jj {pins:List (Addr×Obj)} {σ:St} {H:Hp} {s:Shared} {Q:VK} {us ws:List Value} {vs zs:List V} (F:aL X.prog X.w X.K X.mg X.base CX k f fd ps sp) (hr:dU k X.A) (hb:uW X.K fd ps ks g gV) (hx:Passes CX X E)
    (I:Inv X pins σ H s) (r:Vals vs us) (rz:Vals zs ws) (h:sp (gV vs zs) H Q E):wpAny (model X.prog X.w) X.A (call (.ref f) us (ks.zip ws)) (EP X pins σ Q) X.xe s:=by
  have r2:=hb.rel r rz
  have hl:(g us ws).length=ps.length:=by rw [← r2.length];exact F.len _ _ _ _ h
  refine wpAny_call (codeAny_mono (F.run X.A X.stack s H ⟨us,ks.zip ws⟩ (g us ws) (gV vs zs) Q E hr I.Hq (hb.to s us ws I.nJ hl) r2 h) fun r s' hq=>?_)
  cases r with
  | error e=>exact hx pins σ H s e s' I hq
  | ok fl=>
    cases fl with
    | ret u=>exact I.after hq
    | next=>exact False.elim hq
    | brk=>exact False.elim hq
    | cont=>exact False.elim hq
theorem LX (F:aL X.prog X.w X.K X.mg X.base CX k f fd ps sp) (hr:dU k X.A) (hg:Gl X x) (hm:X.mg x=some (.ref f)) (hk:PySem.W.keepIn X.K (.ref f)=true) (hb:uW X.K fd ps ks g gV) (hx:Passes CX X E)
    (ha:PA X (e::es) t) (NZ:PK X p5 tk) (AA:(backToKw pos (keywordEach p5 X.env)).all (·.1.isSome)=true:=by rfl) (N1:(backToKw pos (keywordEach p5 X.env)).filterMap (·.1)=ks:=by rfl)
    (zc:(x==("__debug__":Str))=false:=by decide) (he:starEach (e::es) X.env=(false,eval e X.env)::starEach es X.env:=by rfl)
    (vI:((backTo pos (starEach (e::es) X.env)).any (·.1)||(backToKw pos (keywordEach p5 X.env)).any (·.1.isNone))=false:=by rfl):
    PE X (.Call (.Name x p) (e::es) p5 pos) (DB sp gV E t tk):=by
  intro pins s σ H Q I h
  refine wpAny_Call_Name_kw (p7 I hg hm ?_ zc)
  refine PySem.W.callWith_KW (h₀:=X.base) I.ok.mod.LF hk AA (eo (ha pos pins s σ H _ I h) fun us s1 ⟨vs,H1,I1,r,q⟩=>?_) vI he
  refine eo (NZ pos pins s1 σ H1 _ I1 q) fun ws s2 ⟨zs,H2,I2,rz,q2⟩=>⟨I2.nJ,?_⟩
  rw [N1]
  exact Jj F hr hb hx I2 r rz q2
end
structure ay (N P:List Str) (sc:Scope):Prop where
  kind:sc.kind=.function
  co:sc.isCoroutine=false
  gen:sc.isGenerator=false
  nd:N.Nodup
  pre:N.take P.length=P
  par:∀ x∈P,sc.names.lookup x=some .local∨sc.names.lookup x=some .cell
  QY:∀ y∈sc.names,y.2≠.free
theorem CO {kindOf:Str→Option NameKind} {x:Str}:∀ {binds:List (Str×Value)} {m:Str→Option Value},(∀ v,(x,v)∉binds)→bindL kindOf binds m x=m x
  | [],_,_=>rfl
  | (n,v)::r,m,h=>by
    unfold bindL
    rw [CO fun w hw=>h w (List.mem_cons_of_mem _ hw)]
    split
    · have:x≠n:=by rintro rfl;exact h v List.mem_cons_self
      simp [this]
    · rfl
theorem CP {kindOf:Str→Option NameKind} {x:Str}:∀ {binds:List (Str×Value)} {m:Str→Option Value},(∀ v,(x,v)∉binds)→bindC kindOf binds m x=m x
  | [],_,_=>rfl
  | (n,v)::r,m,h=>by
    unfold bindC
    rw [CP fun w hw=>h w (List.mem_cons_of_mem _ hw)]
    split
    · rfl
    · have:x≠n:=by rintro rfl;exact h v List.mem_cons_self
      simp [this]
theorem CQ {kindOf:Str→Option NameKind} {x:Str} {v:Value}:∀ {P:List Str} {vs:List Value} {i:Nat} {m:Str→Option Value},P.Nodup→P[i]?=some x→vs[i]?=some v→kindOf x=some .local→
    bindL kindOf (P.zip vs) m x=some v
  | [],_,_,_,_,h,_,_=>by simp at h
  | _::_,[],_,_,_,_,h,_=>by simp at h
  | p::P,w::vs,0,m,nd,h1,h2,hk=>by
    simp at h1 h2;subst h1;subst h2
    show bindL kindOf ((p,w)::P.zip vs) m p=_
    unfold bindL
    rw [CO fun v hv=>(List.nodup_cons.mp nd).1 (List.of_mem_zip hv).1,if_pos hk]
    simp
  | p::P,w::vs,i + 1,m,nd,h1,h2,hk=>by
    show bindL kindOf ((p,w)::P.zip vs) m x=_
    unfold bindL
    exact CQ (i:=i) (List.nodup_cons.mp nd).2 (by simpa using h1) (by simpa using h2) hk
theorem CS {kindOf:Str→Option NameKind} {x:Str} {v:Value}:∀ {P:List Str} {vs:List Value} {i:Nat} {m:Str→Option Value},P.Nodup→P[i]?=some x→vs[i]?=some v→kindOf x≠some .local→
    bindC kindOf (P.zip vs) m x=some v
  | [],_,_,_,_,h,_,_=>by simp at h
  | _::_,[],_,_,_,_,h,_=>by simp at h
  | p::P,w::vs,0,m,nd,h1,h2,hk=>by
    simp at h1 h2;subst h1;subst h2
    show bindC kindOf ((p,w)::P.zip vs) m p=_
    unfold bindC
    rw [CP fun v hv=>(List.nodup_cons.mp nd).1 (List.of_mem_zip hv).1,if_neg hk]
    simp
  | p::P,w::vs,i + 1,m,nd,h1,h2,hk=>by
    show bindC kindOf ((p,w)::P.zip vs) m x=_
    unfold bindC
    exact CS (i:=i) (List.nodup_cons.mp nd).2 (by simpa using h1) (by simpa using h2) hk
def start (N:List Str) (vs:List V):St:=vs.map some++List.replicate (N.length - vs.length) none
def vM (CX:DA) (P:Program) (w:World) (K:PySem.W.Frag) (mg:Str→Option Value) (base:Heap) (N:List Str) (qual:Str) (scope:Scope) (f:Addr) (cd:Value) (A:Around) (outer:List Env) (s:Shared) (H:Hp) (E:XK):Cx where
  prog:=P
  w:=w
  K:=K
  mg:=mg
  base:=base
  A:=A.deeper (envOfC qual scope s.heap.objs.size f cd)
  N:=N
  s₀:=s
  H₀:=H
  env:=envOfC qual scope s.heap.objs.size f cd
  outer:=outer
  stack:=envOfC qual scope s.heap.objs.size f cd::outer
  ex:=[]
  calm:=true
  fn:=fun _=>true
  pn:=[]
  xe:=fun e s'=>wpAny (model P w) (A.deeper (envOfC qual scope s.heap.objs.size f cd)) (leaving (envOfC qual scope s.heap.objs.size f cd) e) (fun _ s''=>CX outer H s E e s'') (fun e' s''=>CX outer H s E e' s'') s'
theorem FJ {sc:Scope} {n:Nat} {x:Str} (h:sc.names.lookup x=some .cell):∃ c,(cellsFrom n sc.names []).lookup x=some c:=by
  have q:=PySem.W.cellsFrom_some sc.names n [] (.inl h)
  exact Option.isSome_iff_exists.mp q
theorem KH {CX:DA} {P:Program} {w:World} {K:PySem.W.Frag} {mg:Str→Option Value} {base:Heap} {N ps:List Str} {qual:Str} {scope:Scope} {f:Addr} {cd:Value} {A:Around} {outer:List Env} {s s1:Shared} {H:Hp} {E:XK} {us:List Value} {vs:List V}
    (S:ay N ps scope) (hd:A.handled=none) (e0:zL P w K mg base A outer s H) (hl:vs.length=ps.length) (r:Vals vs us)
    (x:InCallC s s.heap.objs.size (bindL (envOfC qual scope s.heap.objs.size f cd).kindOf (ps.zip us) fun _=>none) (cellsFrom (s.heap.objs.size + 1) scope.names []) (bindC (envOfC qual scope s.heap.objs.size f cd).kindOf (ps.zip us) fun _=>none) s1):
    Inv (vM CX P w K mg base N qual scope f cd A outer s H E) [] (start N vs) H s1:=by
  have vI:ps.length≤N.length:=by have:=congrArg List.length S.pre;rw [List.length_take] at this;omega
  obtain ⟨h1,tk,rfl,hk⟩:=x.done
  have Ua:∀ b:Addr,b∉(vM CX P w K mg base N qual scope f cd A outer s H E).ex:=fun b z=>absurd (show b∈([]:List Addr) from z) (by simp)
  refine ⟨⟨e0.mod,S.kind,rfl,rfl,Nat.le_refl _,fun y z c h1 h2=>?_,fun y hy=>?_,fun y c _ h=>?_,fun _=>hd,Around.frames_deeper e0.frames,.inr ⟨rfl,rfl⟩,fun b z=>absurd z (Ua b),e0.bs,e0.Jb,fun b _ _=>Ua b,fun b z=>absurd z (Ua b),e0.rD,e0.LG⟩,
    rfl,e0.bare,Un.kept hk,⟨_,x.toInCall.ns,fun i y v h1 h2 h3=>?_⟩,fun y c h=>⟨_,x.cell y c h⟩,e0.gm.fresh (Nat.le_refl _),fun y c h=>?_,fun p hp=>absurd (show p∈([]:List (Addr×Obj)) from hp) (by simp),e0.gm.kept hk,?_⟩
  · exact name_of_addr x.apart (PySem.mem_of_lookup h1) (PySem.mem_of_lookup h2)
  · have hy:scope.names.lookup y=some .cell∨scope.names.lookup y=some .free:=hy
    rcases hy with hy | hy
    · exact FJ hy
    · exact absurd rfl (S.QY _ (PySem.mem_of_lookup hy))
  · exact Nat.le_of_lt (x.above y c (PySem.mem_of_lookup h))
  · have hi:i < vs.length:=by
      unfold start at h2
      by_cases hi:i < vs.length
      · exact hi
      · rw [List.getElem?_append_right (by simpa using hi)] at h2
        rw [List.getElem?_replicate] at h2
        split at h2 <;> cases h2
    have ha:vs[i]?=some v:=by
      unfold start at h2
      rw [List.getElem?_append_left (by simpa using hi),List.getElem?_map] at h2
      cases e:vs[i]? with
      | none=>rw [e] at h2;cases h2
      | some a=>rw [e] at h2;cases h2;rfl
    obtain ⟨u,hu,rv⟩:=r.get ha
    have hp:ps[i]?=some y:=by
      rw [← S.pre,List.getElem?_take_of_lt (by omega)];exact h1
    have ndP:ps.Nodup:=by rw [← S.pre];exact S.nd.sublist (List.take_sublist _ _)
    refine ⟨u,rv,?_⟩
    rcases S.par y (List.mem_of_getElem? hp) with k | k
    · exact .inl ⟨k,CQ ndP hp hu k⟩
    · obtain ⟨c,e⟩:=FJ (n:=s.heap.objs.size + 1) k
      refine .inr ⟨.inl k,c,e,?_⟩
      have q:=x.cell y c e
      rw [CS ndP hp hu (by show scope.names.lookup y≠_;rw [k];decide)] at q
      exact q
  · exact e0.gm.fresh (Nat.le_of_lt (x.above y c (PySem.mem_of_lookup h)))
  · unfold start
    show _=N.length
    rw [List.length_append,List.length_map,List.length_replicate]
    omega
theorem FL {CX:DA} {P:Program} {w:World} {K:PySem.W.Frag} {mg:Str→Option Value} {base:Heap} {k:Nat} {f:Addr} {name qual:Str} {params:Arguments} {body:List Stmt} {scope:Scope} {dV kV doc pm cJ ct oc:Value} {an od:Option Addr}
    {Fx:Array (Option Value)} {N ps:List Str} {sp:Sp} (lk:K.lookup f=some ⟨oc,od,.func (PySem.W.fnOf name qual params body scope dV kV doc pm an cJ ct),Fx⟩) (Du:PySem.W.codeIn K cJ qual=true) (S:ay N ps scope)
    (len:∀ vs H Q E,sp vs H Q E→vs.length=ps.length)
    (mW:∀ (A:Around) (outer:List Env) (s:Shared) (H:Hp) (vs:List V) (Q:VK) (E:XK),dU k (A.deeper (envOfC qual scope s.heap.objs.size f cJ))→sp vs H Q E→
      ∃ t,Kr (vM CX P w K mg base N qual scope f cJ A outer s H E) body t∧t { nx:=fun _ H'=>Q .eO H',rt:=Q } (start N vs) H):
    aL P w K mg base CX (k + 1) f (PySem.W.fnOf name qual params body scope dV kV doc pm an cJ ct) ps sp:=by
  refine ⟨len,fun A outer s H args us vs Q E hr e0 hb r yg=>?_⟩
  have hl:=len _ _ _ _ yg
  have KX:K.In s.heap:=e0.mod.LF.keeps fun b o e=>(e0.bs b o e).1
  have lim:s.heap.NoLimit:=e0.mod.nolimit.keeps fun b o e=>(e0.bs b o e).1
  have Ub:∀ y∈ps.zip us,scope.names.lookup y.1=some .local∨(scope.names.lookup y.1=some .cell∧((cellsFrom (s.heap.objs.size + 1) scope.names []).lookup y.1).isSome=true):=fun ⟨n,v⟩ hy=>by
    rcases S.par n (List.of_mem_zip hy).1 with q | q
    · exact .inl q
    · exact .inr ⟨q,PySem.W.cellsFrom_some _ _ _ (.inl q)⟩
  refine codeAny_call_function hr.depth (KX _ _ lk) rfl S.co S.gen rfl (PySem.W.codeRec_of KX Du) (hb _ _ _ _ ?_)
  refine wpAny_newFunctionEnv_cells S.kind Ub fun env he s1 x=>?_
  subst he
  refine ⟨lim.keeps x.toInCall.keep,codeAny_func ?_⟩
  obtain ⟨t,ht,hq⟩:=mW A outer s H vs Q E (hr.deeper _) yg
  have I:Inv (vM CX P w K mg base N qual scope f cJ A outer s H E) [] (start N vs) H s1:=KH S hr.hd e0 hl r x
  refine wpAny_mono (ht [] s1 (start N vs) H _ I hq) (fun fl s' hs=>?_) fun e s' hs=>hs
  have fin:∀ {σ':St} {H':Hp} {v:V} {u:Value},Inv (vM CX P w K mg base N qual scope f cJ A outer s H E) [] σ' H' s'→RelV v u→Q v H'→CE outer P w H s Q u s':=
    fun {σ' H' v u} J rv q=>⟨v,H',J.os,J.bare,J.base,J.gm,rv,q⟩
  cases fl with
  | ret u=>
    obtain ⟨v,σ',H',J,rv,q⟩:=hs
    exact fin J rv q
  | next=>
    obtain ⟨σ',H',J,q⟩:=hs
    exact fin (v:=V.eO) (u:=Value.none) J rfl q
  | brk=>
    obtain ⟨_,_,_,q⟩:=hs
    exact False.elim q
  | cont=>
    obtain ⟨_,_,_,q⟩:=hs
    exact False.elim q
end L2
namespace L2
open PySem PySem.Spec PyProof.Rows
section
variable {X:Cx} {x:Str} {p pos:Pos} {e:Expr} {es:List Expr} {t:TA} {id T:String} {r:List V→Hp→VK→Prop}
def vJ (r:List V→Hp→VK→Prop) (t:TA):TE:=fun σ H Q=>t σ H fun vs H1=>r vs H1 Q
theorem LY (hc:gR X (.builtin id) r) (hg:Gl X x) (hm:X.mg x=none) (hv:bootBuiltins x=some (.builtin id)) (ha:PA X (e::es) t) (hn:x≠"__name__":=by decide) (zc:(x==("__debug__":Str))=false:=by decide)
    (he:starEach (e::es) X.env=(false,eval e X.env)::starEach es X.env:=by rfl) (vI:(backTo pos (starEach es X.env)).any (·.1)=false:=by rfl):PE X (.Call (.Name x p) (e::es) [] pos) (vJ r t):=by
  intro pins s σ H Q I h
  refine wpAny_Call_Name_kw (Ay I hg hm hv ?_ hn zc)
  exact PyProof.Rows.callWith_builtin1 (eo (ha pos pins s σ H _ I h) fun us s1 ⟨vs,H1,I1,r1,q1⟩=>hc pins s1 σ H1 vs us Q I1 r1 q1) he vI
theorem KI (hc:gR X (.type T) r) (hg:Gl X x) (hm:X.mg x=none) (hv:bootBuiltins x=some (.type T)) (ha:PA X (e::es) t) (hn:x≠"__name__":=by decide) (zc:(x==("__debug__":Str))=false:=by decide)
    (he:starEach (e::es) X.env=(false,eval e X.env)::starEach es X.env:=by rfl) (vI:(backTo pos (starEach es X.env)).any (·.1)=false:=by rfl):PE X (.Call (.Name x p) (e::es) [] pos) (vJ r t):=by
  intro pins s σ H Q I h
  refine wpAny_Call_Name_kw (Ay I hg hm hv ?_ hn zc)
  exact PyProof.Rows.callWith_type1 (eo (ha pos pins s σ H _ I h) fun us s1 ⟨vs,H1,I1,r1,q1⟩=>hc pins s1 σ H1 vs us Q I1 r1 q1) he vI
end
end L2
namespace HT
open PySem PyProof.Rows
section
open PySem.SeqAt
open PySem.AutoSeq1 (wpAny_loadPart')
open PySem.MeetsSeq PySem.MeetsSeq2 PySem.MeetsSeq3
end
section
variable {prog:Program} {w:World} {A:Around} {E:Value→Shared→Prop} {s:Shared}
theorem N2 {t b:Addr} {vs ws:List Value} {Q:Value→Shared→Prop} (ht:IsTup s.heap t vs.toArray) (hb:IsTup s.heap b ws.toArray) (hv:vs≠[])
    (h1:ws=[]→Q (.ref t) s) (h2:ws≠[]→Q (.ref s.heap.objs.size) { s with heap:=s.heap.push { cls:=.type "tuple",data:=.seq (vs++ws).toArray } })
    (hsz:vs.length + ws.length≤sizeLine):wpAny (model prog w) A (binaryOp .Add (.ref t) (.ref b)) Q E s:=by
  obtain ⟨⟨cls,dd,data,sl⟩,ho,hc,n,hd⟩:=id ht
  obtain ⟨⟨cls2,dd2,data2,Xp⟩,ho2,hc2,n2,hd2⟩:=id hb
  simp only at hc hd hc2 hd2
  subst hc hd hc2 hd2
  have e:vs.toArray++ws.toArray=(vs++ws).toArray:=by simp
  by_cases hw:ws=[]
  · exact concat_meets ⟨_,ho,rfl⟩ ⟨_,ho2,rfl⟩ noFill_tuple_add seq_tuple_add PySem.F.slot_tuple_add PySem.F.entry_tuple_add (PySem.F.args_tuple_add_2 _ _)
      (tuple_addW1 t b vs.toArray ws.toArray n n2 dd dd2 sl Xp (by simpa using hv) (by simp [hw])) ⟨ho,ho2,h1 hw⟩
  · refine concat_meets ⟨_,ho,rfl⟩ ⟨_,ho2,rfl⟩ noFill_tuple_add seq_tuple_add PySem.F.slot_tuple_add PySem.F.entry_tuple_add (PySem.F.args_tuple_add_2 _ _)
      (tuple_addW2 t b vs.toArray ws.toArray n n2 dd dd2 sl Xp (by simpa using hv) (by simpa using hw) (by rw [List.size_toArray,List.size_toArray];exact hsz)) ⟨ho,ho2,?_⟩
    rw [e]
    exact h2 hw
def DE (n d:Nat):Option Int→Nat
  | none=>d
  | some v=>if v < 0 then (v + (n:Int)).toNat else min v.toNat n
theorem FN (n d:Nat):DE n d none=d:=rfl
theorem Jk (n d k:Nat):DE n d (some (k:Int))=min k n:=by
  show (if (k:Int) < 0 then ((k:Int) + (n:Int)).toNat else min (k:Int).toNat n)=min k n
  rw [if_neg (by omega),Int.toNat_natCast]
end
end HT
namespace L2
open PySem PySem.Spec PyProof.Rows
abbrev TO:=St→Hp→(Option Int→Hp→Prop)→Prop
def PO (X:Cx) (e:Option Expr) (t:TO):Prop:=
  ∀ (pins:List (Addr×Obj)) (s:Shared) (σ:St) (H:Hp) (Q:Option Int→Hp→Prop),Inv X pins σ H s→t σ H Q→
    wpAny (model X.prog X.w) X.A (evalPart e X.env) (fun u s'=>∃ o H',Inv X pins σ H' s'∧IsPart u o∧Q o H') X.xe s
def cI:TO:=fun _ H Q=>Q none H
def fJ (t:TE):TO:=fun σ H Q=>t σ H fun x H1=>∃ i,x=.int i∧Q (some i) H1
section
variable {X:Cx} {e:Expr} {te:TE} {lo hi:Option Expr} {tl th:TO} {pos p2:Pos}
theorem N3:PO X none cI:=by
  intro pins s σ H Q I h
  rw [evalPart_none]
  exact wpAny_pure ⟨none,H,I,.none,h⟩
theorem N4 (h:PE X e te):PO X (some e) (fJ te):=by
  intro pins s σ H Q I hw
  rw [evalPart_some]
  refine eo (h pins s σ H _ I hw) fun u s1 ⟨x,H1,I1,r1,q1⟩=>?_
  obtain ⟨i,rfl,q⟩:=q1
  obtain ⟨t,rfl⟩:=r1
  exact ⟨some i,H1,I1,.int i t,q⟩
def QZ (X:Cx) (r:V→Option Int→Option Int→Hp→VK→Prop):Prop:=
  ∀ (pins:List (Addr×Obj)) (s:Shared) (σ:St) (H:Hp) (x:V) (v vl vu:Value) (lo hi:Option Int) (sl:Addr) (Q:VK),Inv X pins σ H s→RelV x v→s.heap.IsSliceOf sl vl vu .none→IsPart vl lo→IsPart vu hi→r x lo hi H Q→
    ∃ T id,typeLookup (.type T) "__getitem__"=pure (some (.builtin id))∧s.TypeIs v T∧wpAny (model X.prog X.w) X.A (getItem v (.ref sl)) (EP X pins σ Q) X.xe s
theorem QZ.or {r r':V→Option Int→Option Int→Hp→VK→Prop} (h:QZ X r) (h':QZ X r'):QZ X (fun x lo hi H Q=>r x lo hi H Q∨r' x lo hi H Q):=by
  intro pins s σ H x v vl vu lo hi sl Q I rx hs pl pu q
  rcases q with q | q
  · exact h pins s σ H x v vl vu lo hi sl Q I rx hs pl pu q
  · exact h' pins s σ H x v vl vu lo hi sl Q I rx hs pl pu q
def xY (r:V→Option Int→Option Int→Hp→VK→Prop) (te:TE) (tl th:TO):TE:=fun σ H Q=>te σ H fun x H1=>tl σ H1 fun l H2=>th σ H2 fun u H3=>r x l u H3 Q
theorem LZ {r:V→Option Int→Option Int→Hp→VK→Prop} (hr:QZ X r) (he:PE X e te) (hl:PO X lo tl) (hu:PO X hi th):PE X (.Subscript e (.Slice lo hi none p2) pos) (xY r te tl th):=by
  intro pins s σ H Q I h
  refine Subscript_ (eo (he pins s σ H _ I h) fun v s1 ⟨x,H1,I1,r1,q1⟩=>?_)
  refine wpAny_Slice (eo (hl pins s1 σ H1 _ I1 q1) fun vl s2 ⟨l,H2,I2,pl,q2⟩=>eo (hu pins s2 σ H2 _ I2 q2) fun vu s3 ⟨u,H3,I3,pu,q3⟩=>?_)
  rw [evalPart_none]
  refine wpAny_pure ?_
  have I4:Inv X pins σ H3 { s3 with heap:=s3.heap.push { cls:=.type "slice",data:=.fields #[vl,vu,.none] } }:=I3.kept (t':=s3.toks) fun b ob q=>Heap.get?_push_of_some _ q
  obtain ⟨T,id,hT,ht,hg⟩:=hr pins { s3 with heap:=s3.heap.push { cls:=.type "slice",data:=.fields #[vl,vu,.none] } } σ H3 x v vl vu l u s3.heap.objs.size Q I4 r1 (Heap.IsSliceOf.new ..) pl pu q3
  show wpAny (model X.prog X.w) X.A (subscriptTail e (.Slice lo hi none p2) v (.ref s3.heap.objs.size)) (EP X pins σ Q) X.xe { s3 with heap:=s3.heap.push { cls:=.type "slice",data:=.fields #[vl,vu,.none] } }
  exact tail_any (ops:=[.ref s3.heap.objs.size,v]) ht hT hg (by with_unfolding_all rfl)
def yh (xs:List V) (lo hi:Option Int):List V:=(xs.drop (HT.DE xs.length 0 lo)).take (HT.DE xs.length xs.length hi - HT.DE xs.length 0 lo)
theorem FO (xs:List V) (lo hi:Option Int):(yh xs lo hi).length≤xs.length:=by
  unfold yh
  rw [List.length_take,List.length_drop]
  omega
def Uc (K:PySem.W.Frag):R2:=fun x y H Q=>∃ a b xs ys,x=.ref a∧y=.ref b∧uQ K H a xs∧uQ K H b ys∧xs≠[]∧xs.length + ys.length≤sizeLine∧
  (ys=[]→Q (.ref a) H)∧(ys≠[]→∀ p,H p=none→Q (.ref p) (upd H p (.tup (xs++ys))))
theorem Vals.DF {xs:List V} {us:List Value} (r:Vals xs us):us=[]↔xs=[]:=by
  cases r with
  | nil=>simp
  | cons _ _=>simp
theorem N5:nK X (binaryOp .Add) (Uc X.K):=by
  intro pins s σ H x y v u Q I rx ry h
  obtain ⟨a,b,xs,ys,rfl,rfl,ha,hb,hx,hz,q1,q2⟩:=h
  cases rx
  cases ry
  obtain ⟨its,r1,p1,_⟩:=I.tuple ha
  obtain ⟨its2,r2,p2,_⟩:=I.tuple hb
  refine HT.N2 p1 p2 (fun z=>hx (r1.DF.mp z)) (fun z=>⟨.ref a,H,I,rfl,q1 (r2.DF.mp z)⟩) (fun z=>?_) (by rw [← r1.length,← r2.length];exact hz)
  refine ⟨.ref s.heap.objs.size,_,I.laid (t':=s.toks) (o:=.tup (xs++ys)) (fun b ob q=>Heap.get?_push_of_some _ q) (Nat.le_refl _) ?_,rfl,q2 (fun w=>z (r2.DF.mpr w)) _ (I.gm.fresh (Nat.le_refl _))⟩
  exact ⟨by rw [List.length_append];exact hz,_,r1.append r2,IsTup.new _ _⟩
end
end L2
namespace L2
open PySem PySem.Spec PyProof.Rows
def Jl (n:Nat) (i:Int):Option Nat:=if 0≤i then (if i < n then some i.toNat else none) else if -(n:Int)≤i then some (i + n).toNat else none
def DG {α:Type} (xs:List α) (i:Int):Option α:=(Jl xs.length i).bind fun j=>xs[j]?
theorem Jm {n:Nat} {i:Int} {j:Nat} (h:Jl n i=some j):seqIndex? i n=some j∧j < n∧-(n:Int)≤i∧i < n:=by
  unfold Jl at h
  by_cases h0:0≤i
  · rw [if_pos h0] at h
    by_cases h1:i < n
    · rw [if_pos h1] at h
      have e:i.toNat=j:=Option.some.inj h
      exact ⟨by rw [seqIndex_of h0 h1,e],by omega,by omega,h1⟩
    · rw [if_neg h1] at h;cases h
  · rw [if_neg h0] at h
    by_cases h1:-(n:Int)≤i
    · rw [if_pos h1] at h
      have e:(i + n).toNat=j:=Option.some.inj h
      exact ⟨by rw [seqIndex_neg (by omega) h1,e],by omega,h1,by omega⟩
    · rw [if_neg h1] at h;cases h
theorem DH {α:Type} {xs:List α} {i:Int} {v:α} (h:DG xs i=some v):∃ j,seqIndex? i xs.length=some j∧xs[j]?=some v∧j < xs.length∧-(xs.length:Int)≤i∧i < xs.length:=by
  unfold DG at h
  cases e:Jl xs.length i with
  | none=>rw [e] at h;cases h
  | some j=>
    rw [e] at h
    obtain ⟨h1,h2,h3,h4⟩:=Jm e
    exact ⟨j,h1,h,h2,h3,h4⟩
theorem tG {α:Type} {xs:List α} {j:Nat} {v:α} (h:xs[j]?=some v):DG xs (j:Int)=some v:=by
  have hj:j < xs.length:=(List.getElem?_eq_some_iff.mp h).1
  have e:Jl xs.length (j:Int)=some j:=by
    unfold Jl
    rw [if_pos (by omega),if_pos (by omega)];simp
  unfold DG;rw [e];exact h
def Jo (b:Expr):Prop:=∀ o i,subscripted b false o i=operate [o,i] (getItem o i)
def L0 (X:Cx) (r:R2):Prop:=
  ∀ (value slice:Expr) (pins:List (Addr×Obj)) (s:Shared) (σ:St) (H:Hp) (x y:V) (v u:Value) (Q:VK),Inv X pins σ H s→RelV x v→RelV y u→r x y H Q→
    subscripted slice false v u=operate [v,u] (getItem v u)→wpAny (model X.prog X.w) X.A (subscriptTail value slice v u) (EP X pins σ Q) X.xe s
def KJ (X:Cx) (id:String) (r:V→List V→Hp→VK→Prop):Prop:=
  ∀ (pins:List (Addr×Obj)) (s:Shared) (σ:St) (H:Hp) (x:V) (xs:List V) (v:Value) (us:List Value) (Q:VK),Inv X pins σ H s→RelV x v→Vals xs us→r x xs H Q→
    wpAny (model X.prog X.w) X.A (call (.builtin id) (v::us)) (EP X pins σ Q) X.xe s
section
variable {X:Cx} {a b:Expr} {ta tb:TE} {pos:Pos}
theorem L0.or {r r':R2} (h:L0 X r) (h':L0 X r'):L0 X (fun x y H Q=>r x y H Q∨r' x y H Q):=by
  intro value slice pins s σ H x y v u Q I rx ry q hs
  rcases q with q | q
  · exact h value slice pins s σ H x y v u Q I rx ry q hs
  · exact h' value slice pins s σ H x y v u Q I rx ry q hs
theorem KJ.or {id:String} {r r':V→List V→Hp→VK→Prop} (h:KJ X id r) (h':KJ X id r'):KJ X id (fun x xs H Q=>r x xs H Q∨r' x xs H Q):=by
  intro pins s σ H x xs v us Q I rx rs q
  rcases q with q | q
  · exact h pins s σ H x xs v us Q I rx rs q
  · exact h' pins s σ H x xs v us Q I rx rs q
theorem Ud {r:R2} (hr:L0 X r) (ha:PE X a ta) (hb:PE X b tb) (hs:Jo b):PE X (.Subscript a b pos) (tu r ta tb):=by
  intro pins s σ H Q I h
  exact Subscript_ (QL ha hb I h fun v u s2 x y H2 I2 rx ry q=>hr a b pins s2 σ H2 x y v u Q I2 rx ry q (hs _ _))
def aat (K:PySem.W.Frag):R2:=fun x y H Q=>∃ p xs i v,x=.ref p∧y=.int i∧fE K H p xs∧DG xs i=some v∧Q v H
def aau (K:PySem.W.Frag):R2:=fun x y H Q=>∃ p xs i v,x=.ref p∧y=.int i∧uQ K H p xs∧DG xs i=some v∧Q v H
def ki:R2:=fun x y H Q=>∃ z i c,x=.str z∧y=.int i∧z.length≤sizeLine∧DG z.cps.toList i=some c∧Q (.str ⟨#[c]⟩) H
theorem N6:L0 X (aat X.K):=by
  intro value slice pins s σ H x y v u Q I rx ry h hs
  obtain ⟨p,xs,i,z,rfl,rfl,hq,he,q⟩:=h
  cases rx
  obtain ⟨t,rfl⟩:=ry
  obtain ⟨its,r,pl,hz⟩:=I.list hq
  obtain ⟨j,h1,h2,h3,h4,h5⟩:=DH he
  obtain ⟨w,ew,rw'⟩:=r.get h2
  have hl:=r.length
  have hn:=uT
  have fin:EP X pins σ Q w s:=⟨z,H,I,rw',q⟩
  by_cases h0:0≤i
  · have hj:i.toNat=j:=by
      rw [seqIndex_of h0 h5] at h1
      exact Option.some.inj h1
    exact item_listR pl.isList h0 (by omega) (by rw [hj];simpa using ew) fin hs
  · have hj:(i + (its.toArray.size:Int)).toNat=j:=by
      rw [seqIndex_neg (by omega) h4] at h1
      rw [List.size_toArray,← hl]
      exact Option.some.inj h1
    exact subscriptTail_builtinR (x:=w) pl.isList.typeIs slot_list_getitem.lookup
      (wpAny_getItem_list_neg (Q:=fun r s'=>r=w∧EP X pins σ Q r s') pl.isList (by omega) (by rw [List.size_toArray] <;> omega) (by omega) (by rw [hj];simpa using ew) ⟨rfl,fin⟩) hs
theorem Q0:L0 X (aau X.K):=by
  intro value slice pins s σ H x y v u Q I rx ry h hs
  obtain ⟨p,xs,i,z,rfl,rfl,hq,he,q⟩:=h
  cases rx
  obtain ⟨t,rfl⟩:=ry
  obtain ⟨its,r,pl,hz⟩:=I.tuple hq
  obtain ⟨j,h1,h2,h3,h4,h5⟩:=DH he
  obtain ⟨w,ew,rw'⟩:=r.get h2
  have hl:=r.length
  have hn:=uT
  have fin:EP X pins σ Q w s:=⟨z,H,I,rw',q⟩
  exact subscriptTail_builtinR (x:=w) pl.typeIs slot_tuple_getitem.lookup
    (getItem_tuple (j:=j) (Q:=fun r s'=>r=w∧EP X pins σ Q r s') pl (by omega) (by omega) (by rw [List.size_toArray,← hl];exact h1) (by simpa using ew) ⟨rfl,fin⟩) hs
theorem Q2:L0 X ki:=by
  intro value slice pins s σ H x y v u Q I rx ry h hs
  obtain ⟨z,i,c,rfl,rfl,hz,he,q⟩:=h
  obtain ⟨t,rfl⟩:=rx
  obtain ⟨t',rfl⟩:=ry
  obtain ⟨j,h1,h2,h3,h4,h5⟩:=DH he
  have hl:z.cps.toList.length=z.length:=by simp [Str.length]
  rw [hl] at h1 h4 h5
  have hn:=uT
  exact tail_any (typeIs_str s z t) slot_str_getitem.lookup (getItem_str (c:=c) (by
    have e1:decide (i < -(2 ^ 63:Int))=false:=decide_eq_false (by omega)
    have e2:decide (i≥2 ^ 63)=false:=decide_eq_false (by omega)
    rw [e1,e2,Bool.or_false]) (by rw [h1];simpa using h2) ⟨.str ⟨#[c]⟩,H,I.tok _,⟨_,rfl⟩,q⟩) hs
theorem Hs (its:List Value) (n j:Nat) (u:Value):Obj.mapSeq (·.setIfInBounds j u) { cls:=.type "list",data:=.seq its.toArray n }={ cls:=.type "list",data:=.seq (its.set j u).toArray n }:=by
  simp [Obj.mapSeq]
theorem Inv.lst {pins:List (Addr×Obj)} {σ:St} {H:Hp} {s:Shared} {p:Addr} {xs:List V} (I:Inv X pins σ H s) (h:H p=some (.lst xs)):
    ∃ (its:List Value) (n:Nat),Vals xs its∧s.heap.get? p=some { cls:=.type "list",data:=.seq its.toArray n }∧xs.length≤sizeLine:=by
  obtain ⟨z,its,n,r,e⟩:=I.gm p _ h
  exact ⟨its,n,r,e,z⟩
theorem Inv.Q3 {pins:List (Addr×Obj)} {σ:St} {H:Hp} {s:Shared} {p:Addr} {xs ys:List V} {its its':List Value} {n n':Nat} {f:Obj→Obj} (I:Inv X pins σ H s) (h:H p=some (.lst xs))
    (ho:s.heap.get? p=some { cls:=.type "list",data:=.seq its.toArray n }) (hf:f { cls:=.type "list",data:=.seq its.toArray n }={ cls:=.type "list",data:=.seq its'.toArray n' }) (r:Vals ys its') (hz:ys.length≤sizeLine) (t:Nat):
    Inv X pins σ (upd H p (.lst ys)) { s with heap:=s.heap.update p f,toks:=t }:=by
  have e:(s.heap.update p f).get? p=some { cls:=.type "list",data:=.seq its'.toArray n' }:=by
    rw [Heap.get?_update_self f ho (by rw [hf] <;> rfl),hf]
  refine I.write (x:=p) (e:=p) (by rw [h];trivial) (.inl rfl) (fun b u hb q=>(Heap.get?_update_other _ _ (Ne.symm hb)).trans q) ⟨_,e⟩ ?_
  exact ⟨hz,its',n',r,e⟩
def fP:V→V→V→Hp→(Hp→Prop)→Prop:=fun o i v H Q=>∃ p xs k j,o=.ref p∧i=.int k∧H p=some (.lst xs)∧Jl xs.length k=some j∧Q (upd H p (.lst (xs.set j v)))
theorem set_list:QD X fP:=by
  intro pins s σ H o i v ov iv u Q I ro ri rv h
  obtain ⟨p,xs,k,j,rfl,rfl,hp,hj,q⟩:=h
  cases ro
  obtain ⟨t,rfl⟩:=ri
  obtain ⟨its,n,r,ho,hz⟩:=I.lst hp
  obtain ⟨h1,h2,h3,h4⟩:=Jm hj
  have hl:=r.length
  have hn:=uT
  have I':Inv X pins σ (upd H p (.lst (xs.set j v))) { s with heap:=s.heap.update p (Obj.mapSeq (·.setIfInBounds j u)) }:=
    I.Q3 hp ho (Hs its n j u) (r.set rv j) (by rw [List.length_set];exact hz) s.toks
  by_cases h0:0≤k
  · have hk:k.toNat=j:=by
      rw [seqIndex_of h0 h4] at h1
      exact Option.some.inj h1
    exact PySem.W.ki_setAt ho h0 (by omega) (by rw [List.size_toArray,← hl];exact h4) (by rw [hk];exact ⟨_,I',q⟩)
  · have hk:(k + (its.toArray.size:Int)).toNat=j:=by
      rw [seqIndex_neg (by omega) h3] at h1
      rw [List.size_toArray,← hl]
      exact Option.some.inj h1
    exact PySem.W.ki_setBack ho (by omega) (by rw [List.size_toArray,← hl];exact h3) (by omega) (by rw [hk];exact ⟨_,I',q⟩)
theorem DI (lo hi:Option Int) (n:Nat):(sliceBounds lo hi none n).1=((HT.DE n 0 lo:Nat):Int)∧(sliceBounds lo hi none n).2.1=((HT.DE n n hi:Nat):Int)∧(sliceBounds lo hi none n).2.2=1:=by
  refine ⟨?_,?_,rfl⟩
  · cases lo with
    | none=>simp [sliceBounds,HT.DE]
    | some i=>
      simp only [sliceBounds,HT.DE,Option.getD_none,show (1:Int) > 0 by decide,if_true]
      by_cases h:i < 0
      · simp only [h,if_true] <;> omega
      · simp only [h,if_false] <;> omega
  · cases hi with
    | none=>simp [sliceBounds,HT.DE]
    | some i=>
      simp only [sliceBounds,HT.DE,Option.getD_none,show (1:Int) > 0 by decide,if_true]
      by_cases h:i < 0
      · simp only [h,if_true] <;> omega
      · simp only [h,if_false] <;> omega
theorem B6 (its:List Value) (lo hi:Option Int):slicePick its.toArray lo hi none=((its.drop (HT.DE its.length 0 lo)).take (HT.DE its.length its.length hi - HT.DE its.length 0 lo)).toArray:=by
  obtain ⟨h1,h2,h3⟩:=DI lo hi its.toArray.size
  unfold slicePick
  rw [h1,h2,h3]
  simp only [sliceRange_one,pick_run,List.size_toArray] <;> rfl
def rH:V→Bool
  | .eO=>true
  | .bl _=>true
  | .int _=>true
  | .str _=>true
  | _=>false
def P7:V→V→Bool
  | .eO,.eO=>true
  | .bl a,.bl b=>a==b
  | .bl a,.int b=>(if a then 1 else 0)==b
  | .int a,.bl b=>a==(if b then 1 else 0)
  | .int a,.int b=>a==b
  | .str a,.str b=>a==b
  | _,_=>false
theorem Q4 {A:Around} {s:Shared} {y x:V} {u v:Value} (ry:RelV y u) (rx:RelV x v) (fy:rH y=true) (fx:rH x=true):SeqAt.EqAt A s u v (P7 y x):=by
  cases y with
  | eO=>
    cases ry
    cases x with
    | eO=>cases rx;exact SeqAt.EqAt.same _
    | bl b=>cases rx;exact SeqAt.EqAt.none_bool b
    | int b=>obtain ⟨t,rfl⟩:=rx;exact SeqAt.EqAt.none_int b t
    | str b=>obtain ⟨t,rfl⟩:=rx;exact SeqAt.EqAt.none_str b t
    | _=>exact absurd (show false=true from fx) Bool.false_ne_true
  | bl a=>
    cases ry
    cases x with
    | eO=>cases rx;exact SeqAt.EqAt.bool_none a
    | bl b=>cases rx;exact SeqAt.EqAt.bool_bool a b
    | int b=>obtain ⟨t,rfl⟩:=rx;exact SeqAt.EqAt.bool_int a b t
    | str b=>obtain ⟨t,rfl⟩:=rx;exact SeqAt.EqAt.bool_str a b t
    | _=>exact absurd (show false=true from fx) Bool.false_ne_true
  | int a=>
    obtain ⟨t',rfl⟩:=ry
    cases x with
    | eO=>cases rx;exact SeqAt.EqAt.int_none a t'
    | bl b=>cases rx;exact SeqAt.EqAt.int_bool a t' b
    | int b=>obtain ⟨t,rfl⟩:=rx;exact SeqAt.EqAt.int_int a t' b t
    | str b=>obtain ⟨t,rfl⟩:=rx;exact SeqAt.EqAt.int_str a t' b t
    | _=>exact absurd (show false=true from fx) Bool.false_ne_true
  | str a=>
    obtain ⟨t',rfl⟩:=ry
    cases x with
    | eO=>cases rx;exact SeqAt.EqAt.str_none a t'
    | bl b=>cases rx;exact SeqAt.EqAt.str_bool a t' b
    | int b=>obtain ⟨t,rfl⟩:=rx;exact SeqAt.EqAt.str_int a t' b t
    | str b=>obtain ⟨t,rfl⟩:=rx;exact SeqAt.EqAt.str_str a t' b t
    | _=>exact absurd (show false=true from fx) Bool.false_ne_true
  | _=>exact absurd (show false=true from fy) Bool.false_ne_true
def Ht (x:V) (u:Value):Bool:=match u with
  | .none=>P7 .eO x
  | .bool b=>P7 (.bl b) x
  | .int i _=>P7 (.int i) x
  | .str z _=>P7 (.str z) x
  | _=>false
theorem L1 {x y:V} {u:Value} (r:RelV y u) (f:rH y=true):Ht x u=P7 y x:=by
  cases y with
  | eO=>cases r;rfl
  | bl b=>cases r;rfl
  | int i=>obtain ⟨t,rfl⟩:=r;rfl
  | str z=>obtain ⟨t,rfl⟩:=r;rfl
  | _=>exact absurd (show false=true from f) Bool.false_ne_true
theorem vN {x:V}:∀ {xs:List V} {us:List Value},Vals xs us→xs.all rH=true→us.any (Ht x)=xs.any fun y=>P7 y x
  | _,_,.nil,_=>rfl
  | y::xs,u::us,.cons r t,f=>by
    rw [List.all_cons,Bool.and_eq_true] at f
    rw [List.any_cons,List.any_cons,L1 r f.1,vN t f.2]
theorem rJ {A:Around} {s:Shared} {x:V} {v:Value} (rx:RelV x v) (fx:rH x=true):∀ {xs:List V} {us:List Value},Vals xs us→xs.all rH=true→∀ u∈us,SeqAt.EqAt A s u v (Ht x u)
  | _,_,.nil,_=>fun u hu=>by cases hu
  | y::xs,u::us,.cons r t,f=>fun u' hu=>by
    rw [List.all_cons,Bool.and_eq_true] at f
    rcases List.mem_cons.mp hu with rfl | hu
    · rw [L1 r f.1];exact Q4 r rx f.1 fx
    · exact rJ rx fx t f.2 u' hu
def N7 (x:V) (xs:List V):Bool:=xs.any fun y=>P7 y x
def rIn (K:PySem.W.Frag) (neg:Bool):R2:=fun x y H Q=>∃ p xs,y=.ref p∧(fE K H p xs∨uQ K H p xs)∧rH x=true∧xs.all rH=true∧Q (.bl (if neg then !N7 x xs else N7 x xs)) H
theorem KL:nK X (compareOp .In) (rIn X.K false):=by
  intro pins s σ H x y v u Q I rx ry h
  obtain ⟨p,xs,rfl,hq,fx,fs,q⟩:=h
  cases ry
  rcases hq with hq | hq
  · obtain ⟨its,r,pl,hz⟩:=I.list hq
    refine SeqAt.in_listAt (Ht x) pl.isList (fun w hw=>rJ rx fx r fs w (by simpa using hw)) ⟨.bl _,H,I,rfl,?_⟩
    rw [show its.toArray.any (Ht x)=its.any (Ht x) by simp,vN r fs]
    exact q
  · obtain ⟨its,r,pl,hz⟩:=I.tuple hq
    refine SeqAt.in_tupleAt (Ht x) pl (fun w hw=>rJ rx fx r fs w (by simpa using hw)) ⟨.bl _,H,I,rfl,?_⟩
    rw [show its.toArray.any (Ht x)=its.any (Ht x) by simp,vN r fs]
    exact q
theorem DJ:nK X (compareOp .NotIn) (rIn X.K true):=by
  intro pins s σ H x y v u Q I rx ry h
  obtain ⟨p,xs,rfl,hq,fx,fs,q⟩:=h
  cases ry
  rcases hq with hq | hq
  · obtain ⟨its,r,pl,hz⟩:=I.list hq
    refine SeqAt.notIn_listAt (Ht x) pl.isList (fun w hw=>rJ rx fx r fs w (by simpa using hw)) ⟨.bl _,H,I,rfl,?_⟩
    rw [show its.toArray.any (Ht x)=its.any (Ht x) by simp,vN r fs]
    exact q
  · obtain ⟨its,r,pl,hz⟩:=I.tuple hq
    refine SeqAt.notIn_tupleAt (Ht x) pl (fun w hw=>rJ rx fx r fs w (by simpa using hw)) ⟨.bl _,H,I,rfl,?_⟩
    rw [show its.toArray.any (Ht x)=its.any (Ht x) by simp,vN r fs]
    exact q
theorem DK:gR X (.builtin "len") (fun xs H Q=>∃ p ys,xs=[.ref p]∧(fE X.K H p ys∨uQ X.K H p ys)∧Q (.int ys.length) H):=by
  intro pins s σ H xs us Q I r h
  obtain ⟨p,ys,rfl,hq,q⟩:=h
  obtain ⟨u,rfl,rx⟩:=vals1 r
  cases rx
  have hn:=uT
  rcases hq with hq | hq
  · obtain ⟨its,r',pl,hz⟩:=I.list hq
    have hlen:=r'.length
    exact Calls.call_len_list pl.isList (by simp only [List.size_toArray] <;> omega) ⟨.int ys.length,H,I.tok _,⟨s.toks + 1,by rw [List.size_toArray,hlen]⟩,q⟩
  · obtain ⟨its,r',pl,hz⟩:=I.tuple hq
    have hlen:=r'.length
    exact len_tuple pl (by simp only [List.size_toArray] <;> omega) ⟨.int ys.length,H,I.tok _,⟨s.toks + 1,by rw [List.size_toArray,hlen]⟩,q⟩
theorem DM:gR X (.builtin "len") (fun xs H Q=>∃ z,xs=[.str z]∧z.length≤sizeLine∧Q (.int z.length) H):=by
  intro pins s σ H xs us Q I r h
  obtain ⟨z,rfl,hz,q⟩:=h
  obtain ⟨u,rfl,t,rfl⟩:=vals1 r
  have hn:=uT
  exact len_str (by omega) ⟨.int z.length,H,I.tok _,⟨_,rfl⟩,q⟩
theorem gR.or {f:Value} {r r':List V→Hp→VK→Prop} (h:gR X f r) (h':gR X f r'):gR X f (fun xs H Q=>r xs H Q∨r' xs H Q):=by
  intro pins s σ H xs us Q I rs q
  rcases q with q | q
  · exact h pins s σ H xs us Q I rs q
  · exact h' pins s σ H xs us Q I rs q
theorem B7:gR X (.type "tuple") (fun xs H Q=>∃ p ys,xs=[.ref p]∧((fE X.K H p ys∧∀ l,H l=none→Q (.ref l) (upd H l (.tup ys)))∨(uQ X.K H p ys∧Q (.ref p) H))):=by
  intro pins s σ H xs us Q I r h
  obtain ⟨p,ys,rfl,h⟩:=h
  obtain ⟨u,rfl,rx⟩:=vals1 r
  cases rx
  rcases h with ⟨hq,q⟩ | ⟨hq,q⟩
  · obtain ⟨its,r',pl,hz⟩:=I.list hq
    have hlen:=r'.length
    refine call_tuple_list pl.isList (fun h' kp=>?_) (by simp only [List.size_toArray] <;> omega)
    have I1:Inv X pins σ H { s with heap:=h' }:=I.kept (t':=s.toks) kp
    have I2:Inv X pins σ (upd H h'.objs.size (.tup ys)) { s with heap:=h'.push { cls:=.type "tuple",data:=.seq its.toArray } }:=
      I1.laid (t':=s.toks) (fun b o e=>Heap.get?_push_of_some _ e) (Nat.le_refl _) (show iY X.prog X.w _ _ _ (.tup ys) from ⟨hz,its,r',IsTup.new _ _⟩)
    exact ⟨.ref h'.objs.size,_,I2,rfl,q _ (I1.gm.fresh (Nat.le_refl _))⟩
  · obtain ⟨its,r',pl,hz⟩:=I.tuple hq
    exact call_tuple_same pl ⟨.ref p,H,I,rfl,q⟩
def vO (K:PySem.W.Frag) (T:String) (x:V) (H:Hp):Prop:=match x with
  | .str _=>T="str"
  | .int _=>T="int"
  | .ref p=>(T="list"∧∃ xs,fE K H p xs)∨(T="tuple"∧∃ o,K.lookup p=some o∧o.cls=.type "tuple"∧o.dict=none)∨
      (T="dict"∧((∃ dD,H p=some (.dK dD))∨∃ dD,H p=some (.dT dD)))∨(T="set"∧∃ S n,H p=some (.set S n))
  | _=>False
theorem L4 {pins:List (Addr×Obj)} {σ:St} {H:Hp} {s:Shared} {T:String} {x:V} {v:Value} (I:Inv X pins σ H s) (r:RelV x v) (ty:vO X.K T x H):
    s.TypeIs v T∧∀ a,v=.ref a→∃ ob,s.heap.get? a=some ob∧ob.dict=none:=by
  cases x with
  | str z=>
    obtain ⟨t,rfl⟩:=r
    cases (show T="str" from ty)
    exact ⟨typeIs_str s z t,fun _ e=>nomatch e⟩
  | int i=>
    obtain ⟨t,rfl⟩:=r
    cases (show T="int" from ty)
    exact ⟨typeIs_int s i t,fun _ e=>nomatch e⟩
  | ref p=>
    cases r
    rcases ty with ⟨rfl,xs,hq⟩ | ⟨rfl,o,hk,hc,hd⟩ | ⟨rfl,hk⟩ | ⟨rfl,S,n,hk⟩
    · obtain ⟨its,_,pl,_⟩:=I.list hq
      refine ⟨pl.isList.typeIs,fun a e=>?_⟩
      cases e
      obtain ⟨o,n,e,c,hd,_⟩:=pl
      exact ⟨o,e,hd⟩
    · refine ⟨⟨o,I.nJ p o hk,hc⟩,fun a e=>?_⟩
      cases e
      exact ⟨o,I.nJ _ o hk,hd⟩
    · have z:∃ o,s.heap.get? p=some o∧o.ExactDict:=by
        rcases hk with ⟨dD,hk⟩ | ⟨dD,hk⟩
        · obtain ⟨_,_,_,_,o,_,_,e,ex,_⟩:=I.gm p _ hk
          exact ⟨o,e,ex⟩
        · obtain ⟨_,_,_,_,o,_,_,e,ex,_⟩:=I.gm p _ hk
          exact ⟨o,e,ex⟩
      obtain ⟨o,e,ex⟩:=z
      refine ⟨⟨o,e,ex.1⟩,fun a e2=>?_⟩
      cases e2
      exact ⟨o,e,ex.2.1⟩
    · obtain ⟨o,_,_,_,e,ex,_⟩:=I.gm p _ hk
      refine ⟨⟨o,e,ex.1⟩,fun a e2=>?_⟩
      cases e2
      exact ⟨o,e,ex.2.1⟩
  | _=>exact False.elim ty
def j3 (K:PySem.W.Frag) (T:String) (r:V→List V→Hp→VK→Prop) (to:TE):TE:=fun σ H Q=>to σ H fun x H1=>vO K T x H1∧r x [] H1 Q
def xZ (K:PySem.W.Frag) (T:String) (r:V→List V→Hp→VK→Prop) (to:TE) (t:TA):TE:=fun σ H Q=>to σ H fun x H1=>vO K T x H1∧t σ H1 fun xs H2=>r x xs H2 Q
variable {o e:Expr} {es:List Expr} {to:TE} {t:TA} {name:Str} {apos jB:Pos} {T id:String} {r:V→List V→Hp→VK→Prop}
theorem Q5 (pa:PlainAttrs T) (slot:Slot T name id) (Q6:typeOf (.builtin id)=pure (.type "method_descriptor")) (hm:KJ X id r) (ho:PE X o to)
    (AB:attributeBase o name X.env (eval o X.env)=eval o X.env:=by rfl) (AD:(apos.endLine==jB.line)=true:=by rfl):PE X (.Call (.Attribute o name apos) [] [] jB) (j3 X.K T r to):=by
  intro pins s σ H Q I h
  refine wpAny_Call_method0_late AB AD (eo (ho pins s σ H _ I h) fun v s1 ⟨x,H1,I1,r1,ty,q1⟩=>?_)
  obtain ⟨h1,h2⟩:=L4 I1 r1 ty
  exact ⟨T,id,pa,slot,Q6,h1,h2,Calls.callWith_builtin rfl (PySem.evalArgs_none (hm pins s1 σ H1 x [] v [] Q I1 r1 .nil q1))⟩
theorem Ue (pa:PlainAttrs T) (slot:Slot T name id) (Q6:typeOf (.builtin id)=pure (.type "method_descriptor")) (hm:KJ X id r) (ho:PE X o to) (ha:PA X (e::es) t)
    (AB:attributeBase o name X.env (eval o X.env)=eval o X.env:=by rfl)
    (Q7:((backTo jB (starEach (e::es) X.env)).all (fun x=>!x.1)&&(backToKw jB (keywordEach [] X.env)).all (fun x=>x.1.isSome)
      &&decide ((e::es).length + ([]:List Keyword).length + (if ([]:List Keyword).isEmpty then 0 else 1) < 30))=true:=by rfl)
    (AD:(apos.endLine==jB.line)=true:=by rfl) (hs:starEach (e::es) X.env=(false,eval e X.env)::starEach es X.env:=by rfl) (Hu:(backTo jB (starEach es X.env)).any (·.1)=false:=by rfl):
    PE X (.Call (.Attribute o name apos) (e::es) [] jB) (xZ X.K T r to t):=by
  intro pins s σ H Q I h
  refine wpAny_Call_method_late AB Q7 AD rfl (eo (ho pins s σ H _ I h) fun v s1 ⟨x,H1,I1,r1,ty,q1⟩=>?_)
  obtain ⟨h1,h2⟩:=L4 I1 r1 ty
  refine ⟨T,id,pa,slot,Q6,h1,h2,?_⟩
  have hA:=ha jB pins s1 σ H1 _ I1 q1
  rw [hs] at hA ⊢
  refine Calls.callWith_builtin (by show (false||(backTo jB (starEach es X.env)).any (·.1))=false;rw [Hu] <;> rfl) (Calls.evalArgs_plain ?_)
  exact eo hA fun us s2 ⟨vs,H2,I2,r2,q2⟩=>hm pins s2 σ H2 x vs v us Q I2 r1 r2 q2
end
end L2
namespace L2
open PySem PySem.Spec PyProof.Rows
def MtM (X:Cx) (id:String) (r:V→List V→Hp→VK→Prop):Prop:=
  ∀ (pins:List (Addr×Obj)) (s:Shared) (σ:St) (H:Hp) (x:V) (xs:List V) (v:Value) (us:List Value) (Q:VK),Inv X pins σ H s→RelV x v→Vals xs us→r x xs H Q→
    wpAny (model X.prog X.w) X.A (call (.builtin id) (v::us)) (EP X pins σ Q) X.xe s
theorem Vals.one:∀ {x:V} {us:List Value},Vals [x] us→∃ u,us=[u]∧RelV x u
  | _,_,.cons r .nil=>⟨_,rfl,r⟩
theorem Vals.zero:∀ {us:List Value},Vals [] us→us=[]
  | _,.nil=>rfl
theorem Vals.eraseIdx:∀ {xs:List V} {us:List Value} (i:Nat),Vals xs us→Vals (xs.eraseIdx i) (us.eraseIdx i)
  | _,_,_,.nil=>.nil
  | _,_,0,.cons _ t=>t
  | _,_,i + 1,.cons r t=>.cons r (Vals.eraseIdx i t)
section
variable {X:Cx} {pins:List (Addr×Obj)} {σ:St} {H:Hp} {s:Shared} {l b:Addr} {xs ys zs:List V}
theorem Inv.aav {its its':List Value} {n:Nat} {f:Array Value→Array Value} {t':Nat} (I:Inv X pins σ H s) (hH:H l=some (.lst xs))
    (e:s.heap.get? l=some { cls:=.type "list",data:=.seq its.toArray n }) (hf:f its.toArray=its'.toArray) (hv:Vals ys its') (hz:ys.length≤sizeLine):
    Inv X pins σ (upd H l (.lst ys)) { s with heap:=s.heap.update l (Obj.mapSeq f),toks:=t' }:=by
  have q:=PySem.IsL.update e f
  rw [hf] at q
  refine I.write (x:=l) (e:=l) (by rw [hH];exact trivial) (.inl rfl) (fun b' u hb hu=>(Heap.get?_update_other s.heap (Obj.mapSeq f) (Ne.symm hb)).trans hu) ⟨_,q⟩ ?_
  exact ⟨hz,its',_,hv,q⟩
theorem Inv.aaw {its:List Value} {t':Nat} (I:Inv X pins σ H s) (hv:Vals ys its) (hz:ys.length≤sizeLine):
    Inv X pins σ (upd H s.heap.objs.size (.lst ys)) { s with heap:=s.heap.push { cls:=.type "list",data:=.seq its.toArray },toks:=t' }:=
  I.laid (fun _ _ q=>Heap.get?_push_of_some _ q) (Nat.le_refl _) ⟨hz,its,0,hv,Heap.get?_push_size _ rfl⟩
theorem Inv.fresh (I:Inv X pins σ H s):H s.heap.objs.size=none:=I.gm.fresh (Nat.le_refl _)
theorem Inv.Q8 (I:Inv X pins σ H s) (hH:H l=some (.lst xs)):xs.length≤sizeLine∧∃ (its:List Value) (n:Nat),Vals xs its∧xs.length=its.length∧s.heap.get? l=some { cls:=.type "list",data:=.seq its.toArray n }:=by
  obtain ⟨z,its,n,r,e⟩:=I.gm l _ hH
  exact ⟨z,its,n,r,r.length,e⟩
end
section
variable {X:Cx}
def cN:V→List V→Hp→VK→Prop:=fun x vs H Q=>∃ l xs y,x=.ref l∧vs=[y]∧H l=some (.lst xs)∧xs.length < sizeLine∧Q .eO (upd H l (.lst (xs++[y])))
theorem kj:MtM X "list.append" cN:=by
  intro pins s σ H x vs v us Q I rx rv h
  obtain ⟨l,xs,y,rfl,rfl,hH,hz,q⟩:=h
  cases rx
  obtain ⟨u,rfl,ru⟩:=rv.one
  obtain ⟨z,its,n,r,hl,e⟩:=I.Q8 hH
  refine call_meets F.slot_list_append ⟨_,e,rfl⟩ F.entry_list_append (F.args_list_append_2 _ _) (PySem.list_append l its.toArray n u (by rw [List.size_toArray];omega)) ⟨e,?_⟩
  refine ⟨.eO,_,I.aav (its':=its++[u]) hH e (by simp) (r.append (.cons ru .nil)) ?_,rfl,q⟩
  rw [List.length_append,List.length_singleton]
  omega
def dW:V→List V→Hp→VK→Prop:=fun x vs H Q=>∃ l xs,x=.ref l∧vs=[]∧H l=some (.lst xs)∧Q .eO (upd H l (.lst []))
end
section
variable {prog:Program} {w:World} {A:Around} {E:Value→Shared→Prop} {s:Shared}
end
section
variable {X:Cx}
end
end L2
namespace L2
open PySem PySem.Spec PyProof.Rows
section
variable {κ:Type} [DecidableEq κ]
def zM (dD:List (κ×V)) (k:κ):Option V:=(dD.find? fun kv=>decide (kv.1=k)).map (·.2)
def putK (dD:List (κ×V)) (k:κ) (v:V):List (κ×V):=
  if (dD.any fun kv=>decide (kv.1=k))=true then dD.map (fun kv=>if kv.1=k then (kv.1,v) else kv) else dD++[(k,v)]
def P8 (dD:List (κ×V)) (k:κ):List (κ×V):=dD.filter fun kv=>decide (kv.1≠k)
theorem AE {p:κ×V} {r:List (κ×V)} {k:κ} (e:p.1=k):zM (p::r) k=some p.2:=by simp [zM,List.find?_cons,e]
theorem AF {p:κ×V} {r:List (κ×V)} {k:κ} (e:¬ p.1=k):zM (p::r) k=zM r k:=by simp [zM,List.find?_cons,e]
theorem FP (k:κ):∀ dD:List (κ×V),(dD.any fun kv=>decide (kv.1=k))=(zM dD k).isSome
  | []=>rfl
  | p::r=>by
    rw [List.any_cons]
    by_cases e:p.1=k
    · simp only [AE e,decide_eq_true e,Bool.true_or,Option.isSome_some]
    · rw [AF e,decide_eq_false e,Bool.false_or];exact FP k r
theorem tY.KN {o:Option V} {u:Option Value} (r:tY o u):o.isSome=u.isSome:=by
  cases o with
  | none=>cases u with
    | none=>rfl
    | some _=>exact (show False from r).elim
  | some _=>cases u with
    | none=>exact (show False from r).elim
    | some _=>rfl
theorem tY.getD {o:Option V} {u:Option Value} {d:V} {d':Value} (r:tY o u) (rd:RelV d d'):RelV (o.getD d) (u.getD d'):=by
  cases o with
  | none=>cases u with
    | none=>exact rd
    | some _=>exact (show False from r).elim
  | some _=>cases u with
    | none=>exact (show False from r).elim
    | some _=>exact r
theorem KV.val {dD:List (κ×V)} {vs:List (κ×Value)} (r:KV dD vs) (k:κ):tY (zM dD k) (valueAt vs k):=by
  unfold KV at r
  induction r with
  | nil=>exact True.intro
  | @cons p q ps qs h t ih=>
    obtain ⟨h1,h2⟩:=h
    by_cases e:p.1=k
    · have e':q.1=k:=h1.symm.trans e
      have b:valueAt (q::qs) k=some q.2:=by simp [valueAt,List.find?_cons,e']
      rw [AE e,b];exact h2
    · have e':¬ q.1=k:=fun z=>e (h1.trans z)
      have b:valueAt (q::qs) k=valueAt qs k:=by simp [valueAt,List.find?_cons,e']
      rw [AF e,b];exact ih
theorem KV.any {dD:List (κ×V)} {vs:List (κ×Value)} (r:KV dD vs) (k:κ):(dD.any fun kv=>decide (kv.1=k))=vs.any fun kv=>decide (kv.1=k):=by
  unfold KV at r
  induction r with
  | nil=>rfl
  | cons h t ih=>rw [List.any_cons,List.any_cons,ih,h.1]
theorem KV.Q9 {dD:List (κ×V)} {vs:List (κ×Value)} (r:KV dD vs) (k:κ) {y:V} {u:Value} (ry:RelV y u):
    KV (dD.map fun kv=>if kv.1=k then (kv.1,y) else kv) (vs.map fun kv=>if kv.1=k then (kv.1,u) else kv):=by
  unfold KV at r ⊢
  induction r with
  | nil=>exact .nil
  | @cons p q ps qs h t ih=>
    rw [List.map_cons,List.map_cons]
    refine .cons ?_ ih
    obtain ⟨h1,h2⟩:=h
    by_cases e:p.1=k
    · rw [if_pos e,if_pos (h1.symm.trans e)];exact ⟨h1,ry⟩
    · rw [if_neg e,if_neg (fun z=>e (h1.trans z))];exact ⟨h1,h2⟩
theorem KV.put {dD:List (κ×V)} {vs:List (κ×Value)} (r:KV dD vs) (k:κ) {y:V} {u:Value} (ry:RelV y u):KV (putK dD k y) (stored vs k u):=by
  unfold putK stored
  rw [r.any k]
  by_cases e:(vs.any fun kv=>decide (kv.1=k))=true
  · rw [if_pos e,if_pos e];exact r.Q9 k ry
  · rw [if_neg e,if_neg e];exact Paired.snoc r ⟨rfl,ry⟩
theorem KV.drop {dD:List (κ×V)} {vs:List (κ×Value)} (r:KV dD vs) (k:κ):KV (P8 dD k) (without vs k):=by
  unfold KV at r ⊢
  unfold P8 without
  induction r with
  | nil=>exact .nil
  | @cons p q ps qs h t ih=>
    obtain ⟨h1,h2⟩:=h
    rw [List.filter_cons,List.filter_cons]
    by_cases e:p.1=k
    · have a:¬ decide (p.1≠k)=true:=by simp [e]
      have b:¬ decide (q.1≠k)=true:=by simp [h1.symm.trans e]
      rw [if_neg a,if_neg b];exact ih
    · have e':¬ q.1=k:=fun z=>e (h1.trans z)
      have a:decide (p.1≠k)=true:=by simp [e]
      have b:decide (q.1≠k)=true:=by simp [e']
      rw [if_pos a,if_pos b];exact .cons ⟨h1,h2⟩ ih
theorem KV.length {dD:List (κ×V)} {vs:List (κ×Value)} (r:KV dD vs):dD.length=vs.length:=Paired.length r
end
theorem P9 {P:Program} {w:World} {k:Key} {u:Value} (r:RelV (kV k) u):(p6 P w).is k u=true:=by
  cases k with
  | inl i=>obtain ⟨t,e⟩:=(show ∃ t,u=Value.int i t from r);subst e;exact Fz P w i t
  | inr x=>obtain ⟨t,e⟩:=(show ∃ t,u=Value.str x t from r);subst e;exact FA P w x t
abbrev KT (H:Hp):List (List Key×V)→List (List Key×Addr×Value)→Prop:=Paired fun p q=>p.1=q.1∧H q.2.1=some (.tup (p.1.map kV))∧RelV p.2 q.2.2
theorem KT.val {H:Hp} {dD:List (List Key×V)} {xs:List (List Key×Addr×Value)} (r:KT H dD xs) (k:List Key):tY (zM dD k) ((atKey xs k).map (·.2)):=by
  induction r with
  | nil=>exact True.intro
  | @cons p q ps qs h t ih=>
    obtain ⟨h1,_,h2⟩:=h
    by_cases e:p.1=k
    · have e':q.1=k:=h1.symm.trans e
      have b:atKey (q::qs) k=some q.2:=by simp [atKey,List.find?_cons,e']
      rw [AE e,b];exact h2
    · have e':¬ q.1=k:=fun z=>e (h1.trans z)
      have b:atKey (q::qs) k=atKey qs k:=by simp [atKey,List.find?_cons,e']
      rw [AF e,b];exact ih
theorem KT.Q9 {H:Hp} {dD:List (List Key×V)} {xs:List (List Key×Addr×Value)} (r:KT H dD xs) (k:List Key) {y:V} {u:Value} (ry:RelV y u):
    KT H (dD.map fun kv=>if kv.1=k then (kv.1,y) else kv) (xs.map (putAt k u)):=by
  induction r with
  | nil=>exact .nil
  | @cons p q ps qs h t ih=>
    rw [List.map_cons,List.map_cons]
    refine .cons ?_ ih
    obtain ⟨h1,h2,h3⟩:=h
    unfold putAt
    by_cases e:p.1=k
    · rw [if_pos e,if_pos (h1.symm.trans e)];exact ⟨h1,h2,ry⟩
    · rw [if_neg e,if_neg (fun z=>e (h1.trans z))];exact ⟨h1,h2,h3⟩
theorem KT.put {H:Hp} {dD:List (List Key×V)} {xs:List (List Key×Addr×Value)} (r:KT H dD xs) (k:List Key) {b:Addr} {y:V} {u:Value} (hb:H b=some (.tup (k.map kV))) (ry:RelV y u):
    KT H (putK dD k y) (storedH xs k b u):=by
  have e:(dD.any fun kv=>decide (kv.1=k))=(atKey xs k).isSome:=by
    rw [FP,(r.val k).KN,Option.isSome_map]
  unfold putK storedH
  rw [e]
  by_cases q:(atKey xs k).isSome=true
  · rw [if_pos q,if_pos q];exact r.Q9 k ry
  · rw [if_neg q,if_neg q];exact Paired.snoc r ⟨rfl,hb,ry⟩
theorem KT.keeps {H H':Hp} {dD:List (List Key×V)} {xs:List (List Key×Addr×Value)} (r:KT H dD xs) (ht:∀ b ys,H b=some (.tup ys)→H' b=some (.tup ys)):KT H' dD xs:=
  Paired.Qq r fun _ _ z=>⟨z.1,ht _ _ z.2.1,z.2.2⟩
section
variable {P:Program} {w:World} {H:Hp} {h:Heap} {a:Addr}
end
def N8 (H:Hp) (a:Addr) (y:V) (r:Option V):Prop:=
  (∃ dD k,Rd H a (.dK dD)∧y=kV k∧r=zM dD k)∨∃ dD k b,Rd H a (.dT dD)∧y=.ref b∧H b=some (.tup (k.map kV))∧r=zM dD k
def N9 (H:Hp) (a:Addr) (y v:V) (H':Hp):Prop:=
  (∃ dD k,H a=some (.dK dD)∧y=kV k∧dD.length < sizeLine∧H'=upd H a (.dK (putK dD k v)))∨
  ∃ dD k b,H a=some (.dT dD)∧y=.ref b∧H b=some (.tup (k.map kV))∧dD.length < sizeLine∧H'=upd H a (.dT (putK dD k v))
theorem N8.k {H:Hp} {a:Addr} {dD:List (Key×V)} {k:Key} (e:H a=some (.dK dD)):N8 H a (kV k) (zM dD k):=.inl ⟨dD,k,.inl e,rfl,rfl⟩
theorem N8.t {H:Hp} {a b:Addr} {dD:List (List Key×V)} {k:List Key} (e:H a=some (.dT dD)) (eb:H b=some (.tup (k.map kV))):N8 H a (.ref b) (zM dD k):=.inr ⟨dD,k,b,.inl e,rfl,eb,rfl⟩
theorem N9.k {H:Hp} {a:Addr} {dD:List (Key×V)} {k:Key} {v:V} (e:H a=some (.dK dD)) (hl:dD.length < sizeLine):N9 H a (kV k) v (upd H a (.dK (putK dD k v))):=.inl ⟨dD,k,e,rfl,hl,rfl⟩
theorem N9.t {H:Hp} {a b:Addr} {dD:List (List Key×V)} {k:List Key} {v:V} (e:H a=some (.dT dD)) (eb:H b=some (.tup (k.map kV))) (hl:dD.length < sizeLine):
    N9 H a (.ref b) v (upd H a (.dT (putK dD k v))):=.inr ⟨dD,k,b,e,rfl,eb,hl,rfl⟩
section
variable {X:Cx} {pins:List (Addr×Obj)} {σ:St} {H:Hp} {s:Shared} {a:Addr} {y v:V} {u r:Value} {o:Option V} {A:Around} {E:Value→Shared→Prop}
end
section
variable {X:Cx} {pins:List (Addr×Obj)} {σ:St} {H:Hp} {s:Shared} {a:Addr} {dD:List (Key×V)} {k:Key} {u:Value} {A:Around} {E:Value→Shared→Prop}
end
def Ug (i:Expr):Prop:=∀ ov iv,subscripted i false ov iv=operate [ov,iv] (getItem ov iv)
theorem Oa {prog:Program} {w:World} {A:Around} {E:Value→Shared→Prop} {s:Shared} {env:Env} {value slice:Expr} {pos:Pos} {T id:String} {Q:Value→Shared→Prop}
    (hl:typeLookup (.type T) "__getitem__"=pure (some (.builtin id))) (hs:Ug slice)
    (h:wpAny (model prog w) A (eval value env) (fun o s₁=>wpAny (model prog w) A (eval slice env) (fun i s₂=>s₂.TypeIs o T∧wpAny (model prog w) A (getItem o i) Q E s₂) E s₁) E s):
    wpAny (model prog w) A (eval (.Subscript value slice pos) env) Q E s:=by
  refine Subscript_ (wpAny_mono h (fun o s₁ h₁=>wpAny_mono h₁ (fun i s₂ h₂=>?_) fun _ _ x=>x) fun _ _ x=>x)
  obtain ⟨hT,h₂⟩:=h₂
  unfold subscriptTail
  refine wpAny_bind ?_
  rw [getitemInPython_of_ne hT.not_modules]
  refine wpAny_bind (wpAny_specialOf hT hl ?_)
  have fin:wpAny (model prog w) A (subscripted slice false o i) (fun r s₃=>wpAny (model prog w) A (letTemporaryGo value o r >>=fun _=>pure r) Q E s₃) E s₂:=by
    rw [hs o i]
    exact wpAny_operating (wpAny_mono h₂ (fun r s₃ h₃=>wpAny_bind (wpAny_letTemporaryGo (wpAny_pure h₃))) fun _ _ x=>x)
  first
    | exact wpAny_pure (wpAny_bind fin)
    | exact wpAny_bind (wpAny_pure (wpAny_bind fin))
    | exact wpAny_bind fin
section
variable {X:Cx} {o i e value:Expr} {pos pos' T8:Pos} {td ty tv:TE}
end
section
variable {X:Cx} {pos:Pos}
end
structure M1 (X:Cx) (o:Expr) (m:Str) (apos:Pos) (e:Expr) (jB:Pos):Prop where
  base:attributeBase o m X.env (eval o X.env)=eval o X.env
  few:((backTo jB (starEach [e] X.env)).all (fun x=>!x.1)&&(backToKw jB (keywordEach [] X.env)).all (fun x=>x.1.isSome)
    &&decide (([e]:List Expr).length + ([]:List Keyword).length + (if ([]:List Keyword).isEmpty then 0 else 1) < 30))=true
  line:(apos.endLine==jB.line)=true
  trees:backTo jB (starEach [e] X.env)=[(false,eval e X.env)]
structure M2 (X:Cx) (o:Expr) (m:Str) (apos:Pos) (e f:Expr) (jB:Pos):Prop where
  base:attributeBase o m X.env (eval o X.env)=eval o X.env
  few:((backTo jB (starEach [e,f] X.env)).all (fun x=>!x.1)&&(backToKw jB (keywordEach [] X.env)).all (fun x=>x.1.isSome)
    &&decide (([e,f]:List Expr).length + ([]:List Keyword).length + (if ([]:List Keyword).isEmpty then 0 else 1) < 30))=true
  line:(apos.endLine==jB.line)=true
  trees:backTo jB (starEach [e,f] X.env)=[(false,eval e X.env),(false,eval f X.env)]
section
variable {X:Cx} {pins:List (Addr×Obj)} {σ:St} {H:Hp} {s:Shared} {a:Addr} {y d:V} {u r:Value} {o:Option V} {A:Around} {E:Value→Shared→Prop}
end
section
variable {X:Cx} {o e f:Expr} {apos jB:Pos} {td ty tx:TE}
end
section
variable {X:Cx} {pins:List (Addr×Obj)} {σ:St} {H:Hp} {s:Shared} {a:Addr} {dD:List (Key×V)} {A:Around} {E:Value→Shared→Prop}
end
section
variable {X:Cx} {pins:List (Addr×Obj)} {σ:St} {H:Hp} {s:Shared} {a:Addr} {y:V} {u:Value} {A:Around} {E:Value→Shared→Prop}
end
end L2
namespace Att
open PySem PySem.W PySem.Calls PyProof.Rows
theorem zN {P:Params} {h:Heap}:∀ (ns:List Int) (vs:List Value),WellAll P h vs (ns.map WData.int)→IntsAre vs ns:=by
  intro ns
  induction ns with
  | nil=>
    intro vs w
    rw [List.map_nil] at w
    cases w
    exact .nil
  | cons n ns ih=>
    intro vs w
    rw [List.map_cons] at w
    cases w with
    | cons a b=>
      cases a
      exact .cons _ _ (ih _ b)
theorem KO {l:OpenLaw} {n:Nat} (hn:l.most=some n) {P:Params} {h:Heap} {args:List WData} {vals:List Value}
    (Ob:l.row.toRowW.claim.pre args=true) (hwl:WellAll P h vals args):
    ∃ a vs ns,vals=[Value.ref a]∧args=[WData.list (ns.map WData.int)]∧h.get? a=some { cls:=.type "list",data:=.seq vs.toArray }∧IntsAre vs ns∧ns.length≤n:=by
  have hsh:WShape.hasAll [] args [.list .int]=true:=(pre_splitW Ob).1
  have hc:l.pre.holds [] { args:=args }=true:=(pre_splitW Ob).2
  obtain ⟨d,r,rfl,h1,h2⟩:=hasAllW_cons hsh
  obtain rfl:=hasAllW_nil h2
  obtain ⟨xs,rfl,h3⟩:=hasW_list h1
  obtain ⟨ns,rfl⟩:=items_int h3
  have hlen:ns.length≤n:=by
    unfold OpenLaw.pre at hc
    have h4:(WTm.not (.lt (.lit (.int (n:Int))) (.len (.arg 0)))).holds [] { args:=[.list (ns.map .int)] }=true:=by
      have h4:=(holds_andW hc).1
      rw [hn] at h4
      exact h4
    have h5:=condW_of h4 (w_not (w_lt w_lit (w_len_list (w_arg rfl))))
    rw [List.length_map] at h5
    refine Nat.le_of_not_lt fun q=>?_
    have q':(n:Int) < ((ns.length:Nat):Int):=by omega
    first
      | (rw [decide_eq_true q'] at h5;exact absurd h5 (by decide))
      | (simp at h5;omega)
  cases hwl with
  | cons w1 w2=>
    cases w2
    cases w1 with
    | list ho AA=>exact ⟨_,_,ns,rfl,rfl,ho,zN ns _ AA,hlen⟩
theorem KP (l:OpenLaw) (args:List WData):l.row.toRowW.claim.post args (.bool true) args=true:=
  postW_of (r:=l.row.toRowW) (X:=(true==true))
    (show WShape.has [] (.bool true) .bool=true by first | rfl | decide | simp [WShape.has,WShape.arms,WShape.armsAll])
    (show (WTm.eq .res (.lit (.bool true))).value [] { args:=args,res:=some (.bool true),after:=args }=some (.bool (true==true)) from w_eq_bool (w_res rfl) w_lit) rfl
theorem FQ {l:OpenLaw} {n:Nat} {q:Program} {loose:List Str} {XP:(Str→Option Value)→Heap→Prop} {YP:World→Heap→Prop} {d:DefRec}
    (hn:l.most=some n) (Uh:d.params.defaults=[])
    (call:∀ (w:World) (s₀ s₁:Shared) (mg mb:Str→Option Value) (fa:Addr) (o:Obj) (pm cd doc:Value) (a:Addr) (vs:List Value) (ns:List Int),
      Ground q loose [] XP w s₀ mg mb s₁.heap→YP w s₁.heap→
      s₁.heap.get? fa=some o→o.data=.func (docDef d.name d.params d.body d.scope pm cd doc)→s₁.heap.CodeRec cd d.name→mg d.name=some (.ref fa)→
      s₁.heap.get? a=some { cls:=.type "list",data:=.seq vs.toArray }→IntsAre vs ns→ns.length≤n→s₁.gens=#[]→
      codeAny (model l.prog w) callerA (.call (.ref fa) ⟨[.ref a],[]⟩) (fun r s'=>r=.ok (.ret (.bool true))∧OldK s₁.heap s'.heap∧s'.os=s₁.os∧AllBare s'.gens) s₁):
    WalkO q loose XP YP l.row.toRowW d [] (fun f vs=>PySem.call f vs):=by
  intro w s₀ s₁ mg mb G Y fa o pm cd doc dV kV ho hd Du hD hmg hg args vals as Ob hlay hrd hwl hlo
  obtain rfl:dV=.none:=Dflts.none hD Uh
  obtain rfl:kV=.none:=Dflts.noKw hD
  obtain ⟨a,vs,ns,rfl,rfl,hobj,hints,hlen⟩:=KO hn Ob hwl
  refine enter_call (codeAny_mono (call w s₀ s₁ mg mb fa o pm cd doc a vs ns G Y ho (fd_plain hd) Du hmg hobj hints hlen hg) fun r s' hq=>?_)
  obtain ⟨rfl,h2,h3,h4⟩:=hq
  exact ⟨.inl ⟨.bool true,.bool true,[],rfl,fun _=>rfl,.bool true,KP l _,fun _=>⟨List.Pairwise.nil,fun _ hm=>(nomatch hm)⟩⟩,h2,h3,h4⟩
section
variable {prog:Program} {w:World} {A:Around} {E:Value→Shared→Prop} {s:Shared} {K:Frag}
end
end Att
namespace L2
open PySem PySem.Spec PyProof.Rows
theorem CT:∀ {vs:List Value} {ns:List Int},IntsAre vs ns→Vals (ns.map V.int) vs
  | _,_,.nil=>.nil
  | _,_,.cons n t h=>.cons ⟨t,rfl⟩ (CT h)
def Oc (H:Hp):Prop:=∀ b,H b=none∨∃ o xs,H b=some (.GS o (.lst xs))
theorem L5 {P:Program} {w:World} {K:PySem.W.Frag} {mg mb:Str→Option Value} {CX:DA} {k:Nat} {fa a:Addr} {fd:FuncData} {x:Str} {sp:Sp} {s₁:Shared} {vs:List Value} {ns:List Int}
    (KX:K.In s₁.heap) (hns:s₁.heap.Ns mainGlobals mg) (hb:s₁.heap.Ns builtinsNs mb) (hbb:∀ x:Str,x≠"__name__"→mb x=bootBuiltins x) (aay:s₁.heap.NoLimit) (hg:s₁.gens=#[])
    (ha:s₁.heap.get? a=some { cls:=.type "list",data:=.seq vs.toArray }) (hi:IntsAre vs ns) (hl:ns.length≤sizeLine) (hr:dU k callerA)
    (F:∀ base:Heap,K.In base→base.Ns mainGlobals mg→aL P w K mg base CX k fa fd [x] sp) (Ui:∀ (s:Shared) (u:Value),BindsTo s fd ⟨[u],[]⟩ [(x,u)])
    (yg:∀ H:Hp,Oc H→fE K H a (ns.map V.int)→sp [.ref a] H (fun v _=>v=.bl true) fun _ _ _=>False)
    (hCX:∀ H e s',CX [] H s₁ (fun _ _ _=>False) e s'→False):
    codeAny (model P w) callerA (.call (.ref fa) ⟨[.ref a],[]⟩) (fun r s'=>r=.ok (.ret (.bool true))∧OldK s₁.heap s'.heap∧s'.os=s₁.os∧AllBare s'.gens) s₁:=by
  have rv:=CT hi
  have aaA:=hi.length
  have core:∀ H:Hp,Oc H→fE K H a (ns.map V.int)→zJ P w H s₁.heap→(∀ b,H b≠none→b=a)→(H a≠none→K.lookup a=none)→
      codeAny (model P w) callerA (.call (.ref fa) ⟨[.ref a],[]⟩) (fun r s'=>r=.ok (.ret (.bool true))∧OldK s₁.heap s'.heap∧s'.os=s₁.os∧AllBare s'.gens) s₁:=by
    intro H hO hS gm hA hK
    have Jp:∀ {b:Addr} {o:Obj},s₁.heap.get? b=some o→H b=none→(Dt s₁.heap H).get? b=some o:=fun e n=>LD e n
    have Ua:∀ {b:Addr} {o:Obj} {es:Array DictEntry} {ep:Nat},s₁.heap.get? b=some o→o.data=.dict es ep→H b=none:=fun {b o es ep} e d=>by
      cases q:H b with
      | none=>rfl
      | some u=>
        have e':b=a:=hA b (by rw [q];simp)
        subst e'
        rw [ha] at e;cases e
        have d':Data.seq vs.toArray _=Data.dict es ep:=d
        cases d'
    have Xq:∀ {b:Addr} {m:Str→Option Value},s₁.heap.Ns b m→(Dt s₁.heap H).Ns b m:=fun {b m} ⟨o,es,ep,e,d,r⟩=>⟨o,es,ep,Jp e (Ua e d),d,r⟩
    have hKb:K.In (Dt s₁.heap H):=fun b o e=>Jp (KX b o e) (by
      cases q:H b with
      | none=>rfl
      | some u=>
        have e':b=a:=hA b (by rw [q];simp)
        subst e'
        rw [hK (by rw [q];simp)] at e;cases e)
    have hM:Mod K mg (Dt s₁.heap H):=⟨hKb,Xq hns,⟨mb,Xq hb,hbb⟩,let ⟨mc,h1,h2⟩:=aay;⟨mc,Xq h1,h2⟩⟩
    have e0:zL P w K mg (Dt s₁.heap H) callerA [] s₁ H:=⟨rfl,hM,fun b o e=>Nx e,Nat.le_of_eq (Ko _ _),trivial,fun b hb=>absurd (show b∈([]:List Addr) from hb) (by simp),gm,.of_eq hg⟩
    refine codeAny_mono ((F _ hKb (Xq hns)).run callerA [] s₁ H ⟨[.ref a],[]⟩ [.ref a] [.ref a] _ _ hr e0 (Ui s₁ (.ref a)) (.cons rfl .nil) (yg H hO hS)) fun r s' h=>?_
    cases r with
    | error e=>exact (hCX H e s' h).elim
    | ok fl=>
      cases fl with
      | next=>exact False.elim h
      | brk=>exact False.elim h
      | cont=>exact False.elim h
      | ret u=>
        obtain ⟨v,H',os,bare,un,hok',r',q⟩:=h
        have q':v=.bl true:=q
        subst q'
        obtain rfl:u=Value.bool true:=r'
        refine ⟨rfl,OldK.of_keep fun b o e=>?_,os,bare⟩
        cases q:H b with
        | none=>exact un.keep b o e q (by intro z;exact absurd (show b∈([]:List Addr) from z) (by simp)) (by simp)
        | some u=>
          rcases hO b with z | ⟨ob,xs,z⟩
          · rw [q] at z;cases z
          · have z2:=un.vK b ob _ z
            obtain ⟨e1,_⟩:=gm b _ z
            obtain ⟨e2,_⟩:=hok' b _ z2
            rw [e] at e1;cases e1
            exact e2
  cases hk:K.lookup a with
  | some o=>
    have e:=KX a o hk
    rw [ha] at e
    cases e
    refine core (fun _=>none) (fun _=>.inl rfl) (.inr ⟨_,vs.toArray,_,hk,rfl,rfl,rfl,by rw [List.size_toArray,aaA];exact hl,by simpa using rv⟩) (fun b u z=>by have z':(none:Option HO)=some u:=z;cases z') (fun b z=>absurd rfl z) fun z=>absurd rfl z
  | none=>
    refine core (fun b=>if b=a then some (.GS { cls:=.type "list",data:=.seq vs.toArray } (.lst (ns.map V.int))) else none) (fun b=>?_) (.inl (.inr ⟨{ cls:=.type "list",data:=.seq vs.toArray },if_pos rfl⟩)) (fun b u z=>?_) (fun b z=>?_) fun _=>hk
    · by_cases hb:b=a
      · exact .inr ⟨_,_,if_pos hb⟩
      · exact .inl (if_neg hb)
    · by_cases hb:b=a
      · have z':=(if_pos hb).symm.trans z
        cases z'
        subst hb
        exact ⟨ha,by rw [List.length_map];exact hl,vs,_,rv,ha⟩
      · have z':=(if_neg hb).symm.trans z
        cases z'
    · by_cases hb:b=a
      · exact hb
      · exact absurd (if_neg hb) z
end L2
namespace L2
open PySem PySem.Spec PyProof.Rows
theorem Od {l:PySem.W.OpenLaw} {n k:Nat} {q:Program} {loose:List Str} {XP:(Str→Option Value)→Heap→Prop} {YP:World→Heap→Prop} {d:DefRec} {K:Params→PySem.W.Frag} {CX:World→DA} {sp:World→Sp} {x:Str}
    (hn:l.most=some n) (Xo:n≤sizeLine) (Uh:d.params.defaults=[]) (hr:dU k callerA)
    (hY:∀ (w:World) (h:Heap),YP w h→(K w.params).In h)
    (F:∀ (w:World) (mg:Str→Option Value) (fa:Addr) (h:Heap),(K w.params).In h→h.Ns mainGlobals mg→mg d.name=some (.ref fa)→
      ∃ fd:FuncData,(∀ (s:Shared) (u:Value),BindsTo s fd ⟨[u],[]⟩ [(x,u)])∧
        ∀ base:Heap,(K w.params).In base→base.Ns mainGlobals mg→aL l.prog w (K w.params) mg base (CX w) k fa fd [x] (sp w))
    (yg:∀ (w:World) (H:Hp) (a:Addr) (ns:List Int),ns.length≤n→Oc H→fE (K w.params) H a (ns.map V.int)→sp w [.ref a] H (fun v _=>v=.bl true) fun _ _ _=>False)
    (hCX:∀ (w:World) (H:Hp) (s:Shared) (e:Value) (s':Shared),CX w [] H s (fun _ _ _=>False) e s'→False):
    PySem.W.WalkO q loose XP YP l.row.toRowW d [] (fun f vs=>PySem.call f vs):=by
  refine Att.FQ hn Uh fun w s₀ s₁ mg mb fa o pm cd doc a vs ns G Y ho hd Du hmg hobj hints hlen hg=>?_
  have KX:=hY w _ Y
  obtain ⟨fd,hb,hF⟩:=F w mg fa _ KX G.T.g hmg
  exact L5 KX G.T.g G.T.b G.T.builtins G.T.nolimit hg hobj hints (Nat.le_trans hlen Xo) hr hF hb (fun H hO hS=>yg w H a ns hlen hO hS) fun H e s'=>hCX w H s₁ e s'
end L2
namespace L2
open PySem PySem.Spec PyProof.Rows
def inClass (s:Stmt) (j:Nat):Stmt:=match s with
  | .ClassDef _ _ _ body _ _ _ _ _ _ _=>body.getD j (.Pass ⟨0,0,0,0⟩)
  | _=>.Pass ⟨0,0,0,0⟩
def ai (s:Stmt):Arguments:=match s with
  | .FunctionDef _ a _ _ _ _ _ _ _ _=>a
  | _=>{ posonlyargs:=[],args:=[],vararg:=none,kwonlyargs:=[],kw_defaults:=[],kwarg:=none,defaults:=[] }
def ah (s:Stmt):List Stmt:=match s with
  | .FunctionDef _ _ b _ _ _ _ _ _ _=>b
  | _=>[]
def aa (s:Stmt):Scope:=match s with
  | .FunctionDef _ _ _ _ _ _ sc _ _ _=>sc
  | _=>{ kind:=.function,names:=[],isGenerator:=false,isCoroutine:=false }
abbrev dF:DA:=fun _ _ _ _ _ _=>False
abbrev E0:XK:=fun _ _ _=>False
theorem rK {X:Cx}:Passes dF X E0:=fun _ _ _ _ _ _ _ h=>h.elim
structure fc (K:PySem.W.Frag) (x qual:Str) (st:Stmt) (f:Addr) (fd:FuncData):Prop where
  ex:∃ (oc:Value) (od:Option Addr) (kV doc pm:Value) (an:Option Addr) (cJ ct:Value) (Fx:Array (Option Value)),
    fd=PySem.W.fnOf x qual (ai st) (ah st) (aa st) .none kV doc pm an cJ ct∧K.lookup f=some ⟨oc,od,.func fd,Fx⟩∧PySem.W.codeIn K cJ qual=true
  kp:PySem.W.keepIn K (.ref f)=true
section
variable {P:Program} {w:World} {K:PySem.W.Frag} {mg:Str→Option Value} {base:Heap}
theorem fc.ok {x qual:Str} {st:Stmt} {f:Addr} {fd:FuncData} {N ps:List Str} {k:Nat} {sp:Sp} (F:fc K x qual st f fd) (S:ay N ps (aa st)) (len:∀ vs H Q E,sp vs H Q E→vs.length=ps.length)
    (mW:∀ (cJ:Value) (A:Around) (outer:List Env) (s:Shared) (H:Hp) (vs:List V) (Q:VK) (E:XK),dU k (A.deeper (envOfC qual (aa st) s.heap.objs.size f cJ))→sp vs H Q E→
      ∃ t,Kr (vM dF P w K mg base N qual (aa st) f cJ A outer s H E).Jd (ah st) t∧t { nx:=fun _ H'=>Q .eO H',rt:=Q } (start N vs) H):aL P w K mg base dF (k + 1) f fd ps sp:=by
  obtain ⟨oc,od,kV,doc,pm,an,cJ,ct,Fx,rfl,lk,Du⟩:=F.ex
  refine FL lk Du S len fun A outer s H vs Q E hr yg=>?_
  obtain ⟨t,h,q⟩:=mW cJ A outer s H vs Q E hr yg
  exact ⟨t,h.Jd,q⟩
theorem fc.binds {x qual:Str} {st:Stmt} {f:Addr} {fd:FuncData} {ps:List Str} (F:fc K x qual st f fd)
    (h:∀ (kV doc pm:Value) (an:Option Addr) (cJ ct:Value) (us:List Value),us.length=ps.length→bindArgs (PySem.W.fnOf x qual (ai st) (ah st) (aa st) .none kV doc pm an cJ ct) ⟨us,[]⟩=pure (ps.zip us)):Binds K fd ps []:=by
  obtain ⟨oc,od,kV,doc,pm,an,cJ,ct,Fx,rfl,lk,Du⟩:=F.ex
  exact .all (h kV doc pm an cJ ct)
theorem aF {x qual:Str} {st:Stmt} {f:Addr} {oc:Value} {od an:Option Addr} {Fx:Array (Option Value)} {kV doc pm cJ ct:Value} (l:K.lookup f=some ⟨oc,od,.func (PySem.W.fnOf x qual (ai st) (ah st) (aa st) .none kV doc pm an cJ ct),Fx⟩)
    (c:PySem.W.codeIn K cJ qual=true) (k:PySem.W.keepIn K (.ref f)=true):fc K x qual st f (PySem.W.fnOf x qual (ai st) (ah st) (aa st) .none kV doc pm an cJ ct):=⟨⟨oc,od,kV,doc,pm,an,cJ,ct,Fx,rfl,l,c⟩,k⟩
end
theorem KQ {n:Nat} (h:n≤1000):n < sizeLine:=Nat.lt_of_le_of_lt h (by decide)
section
variable {X:Cx}
end
theorem L6 {A B:Prop} (h:B):if false=true then A else B:=by
  rw [if_neg Bool.false_ne_true]
  exact h
theorem KR {A B:Prop} (h:A):if true=true then A else B:=by
  rw [if_pos rfl]
  exact h
theorem B8 {c A B:Prop} [Decidable c] (h1:c→A) (h2:¬ c→B):if c then A else B:=by
  by_cases h:c
  · rw [if_pos h]
    exact h1 h
  · rw [if_neg h]
    exact h2 h
def vP (H H':Hp):Prop:=∀ b o,H b=some o→H' b=some o
theorem vP.refl (H:Hp):vP H H:=fun _ _ h=>h
theorem vP.trans {H H1 H2:Hp} (a:vP H H1) (b:vP H1 H2):vP H H2:=fun c o h=>b c o (a c o h)
theorem vP.free {H H':Hp} (e:vP H H') {l:Addr} (h:H' l=Option.none):H l=Option.none:=by
  cases q:H l with
  | none=>rfl
  | some o=>
    rw [e l o q] at h
    cases h
theorem vP.seq {K:PySem.W.Frag} {H H':Hp} {a:Addr} {xs:List V} (e:vP H H') (h:fE K H a xs):fE K H' a xs:=by
  rcases h with (h | ⟨o,h⟩) | h
  · exact .inl (.inl (e _ _ h))
  · exact .inl (.inr ⟨o,e _ _ h⟩)
  · exact .inr h
section
variable {X:Cx}
end
section
variable {κ:Type} [DecidableEq κ]
end
end L2
set_option Elab.async false
set_option linter.all false
set_option maxRecDepth 100000
namespace L2
open PySem PySem.Spec PyProof.Rows
section
variable {X:Cx}
def yi (_ j:Int):Prop:=0 < j∧j < 10 ^ 100
theorem vQ:nK X (binaryOp .FloorDiv) (rI yi fun i j=>.int (i / j)):=Xm fun i j _ _ _ _ _ hc q=>by
  have h0:0 < j:=hc.1
  have h1:j < 10 ^ 100:=hc.2
  refine floordiv_int (by omega) ?_ (.inl (PyProof.noPylong_of_log2 ?_))
  · rw [Int.fdiv_eq_ediv_of_nonneg _ (by omega)]
    exact q
  · have h2:j.natAbs < 10 ^ 100:=by omega
    have h3:(10:Nat) ^ 100≤2 ^ 9000:=by decide +kernel
    exact (Nat.log2_lt (by omega)).mpr (Nat.lt_of_lt_of_le h2 h3)
end
structure Callee (P:Program) (w:World) (K:PySem.W.Frag) (mg:Str→Option Value) (base:Heap) (x:Str) (k:Nat) (ps:List Str) (sp:Sp):Prop where
  ex:∃ (f:Addr) (fd:FuncData),aL P w K mg base dF k f fd ps sp∧Binds K fd ps []∧PySem.W.keepIn K (.ref f)=true∧mg x=some (.ref f)
section
variable {X:Cx} {x:Str} {k:Nat} {ps:List Str} {sp:Sp} {e:Expr} {es:List Expr} {t:TA} {p pos:Pos}
theorem L7 (C:Callee X.prog X.w X.K X.mg X.base x k ps sp) (hr:dU k X.A) (hg:Gl X x) (ha:PA X (e::es) t)
    (zc:(x==("__debug__":Str))=false:=by decide) (he:starEach (e::es) X.env=(false,eval e X.env)::starEach es X.env:=by rfl) (vI:(backTo pos (starEach es X.env)).any (·.1)=false:=by rfl):
    PE X (.Call (.Name x p) (e::es) [] pos) (eY sp [] E0 t):=by
  intro pins s σ H Q I h
  obtain ⟨f,fd,F,b,kp,m⟩:=C.ex
  have G:aL X.prog X.w X.K X.mg X.base (fun _ _ _ _ _ _=>False) k f fd ps sp:=F
  exact NV F hr hg m kp b .nil rK ha zc he vI pins s σ H Q I h
end
end L2
namespace L2
open PySem PySem.Spec PyProof.Rows
section
variable {X:Cx} {st:Stmt} {rest:List Stmt} {t u:TS}
end
section
variable {α:Type} {a b c d:α} {r:List α}
theorem cB:DG (a::r) 0=some a:=tG (j:=0) rfl
theorem gq:DG (a::b::r) 1=some b:=tG (j:=1) rfl
theorem gr:DG (a::b::c::r) 2=some c:=tG (j:=2) rfl
theorem gu:DG (a::b::c::d::r) 3=some d:=tG (j:=3) rfl
end
def AG (H:Hp) (p:Addr):Option (List V):=match H p with
  | some (.lst xs)=>some xs
  | some (.tup xs)=>some xs
  | some (.GS _ (.lst xs))=>some xs
  | _=>none
theorem KS {H:Hp} {p:Addr} {xs:List V} (h:H p=some (.lst xs)):AG H p=some xs:=by unfold AG;rw [h]
theorem KU {H:Hp} {p:Addr} {xs:List V} (h:H p=some (.tup xs)):AG H p=some xs:=by unfold AG;rw [h]
section
variable {X:Cx}
def lE:R2:=fun x y H Q=>∃ p i xs v,x=.ref p∧y=.int i∧AG H p=some xs∧DG xs i=some v∧Q v H
theorem KW:gR X (.type "int") (fun xs H Q=>∃ k,xs=[.bl k]∧Q (.int (if k=true then 1 else 0)) H):=by
  intro pins s σ H xs us Q I r h
  obtain ⟨k,rfl,q⟩:=h
  exact KC pins s σ H _ us Q I r (.inr ⟨k,rfl,q⟩)
end
end L2
namespace L2
open PySem PySem.Spec PyProof.Rows
theorem rL:bootBuiltins "len"=some (.builtin "len"):=by decide +kernel
theorem bF:bootBuiltins "isinstance"=some (.builtin "isinstance"):=by decide +kernel
theorem Ra:bootBuiltins "max"=some (.builtin "max"):=by decide +kernel
theorem Rb:bootBuiltins "min"=some (.builtin "min"):=by decide +kernel
theorem Rc:bootBuiltins "any"=some (.builtin "any"):=by decide +kernel
theorem Hv:bootBuiltins "int"=some (.type "int"):=by decide +kernel
theorem Oe:bootBuiltins "bool"=some (.type "bool"):=by decide +kernel
theorem p9:bootBuiltins "str"=some (.type "str"):=by decide +kernel
theorem pF:bootBuiltins "tuple"=some (.type "tuple"):=by decide +kernel
theorem DN:bootBuiltins "enumerate"=some (.type "enumerate"):=by decide +kernel
end L2
namespace L2
open PySem PySem.Spec PyProof.Rows
theorem zd {CX:DA} {P:Program} {w:World} {K:PySem.W.Frag} {mg:Str→Option Value} {base:Heap} {N:List Str} {qual:Str} {scope:Scope} {f:Addr} {cd:Value} {A:Around} {outer:List Env} {s:Shared} {H:Hp} {E:XK}:
    (vM CX P w K mg base N qual scope f cd A outer s H E).K=K:=rfl
end L2
namespace L2
open PySem PySem.Spec PyProof.Rows
theorem dX:Jl 1 0=some 0:=rfl
theorem dY:Jl 2 0=some 0:=rfl
theorem dZ:Jl 2 1=some 1:=rfl
theorem d7:Jl 3 0=some 0:=rfl
theorem d8:Jl 3 1=some 1:=rfl
theorem d9:Jl 3 2=some 2:=rfl
theorem aW {H:Hp} {p:Addr} {xs:List V}:AG (upd H p (.lst xs)) p=some xs:=KS av
theorem aX {H:Hp} {p:Addr} {xs:List V}:AG (upd H p (.tup xs)) p=some xs:=KU av
theorem L8 {α:Type} {xs:List α} {k:Int} (h0:0≤k) (h1:k < (xs.length:Int)):∃ v,DG xs k=some v∧v∈xs:=by
  have hk:k.toNat < xs.length:=by omega
  have e:k=((k.toNat:Nat):Int):=by omega
  have q:DG xs ((k.toNat:Nat):Int)=some xs[k.toNat]:=tG (List.getElem?_eq_getElem hk)
  rw [← e] at q
  exact ⟨_,q,List.getElem_mem hk⟩
theorem Ma {n:Nat} (h:n≤1000):n≤sizeLine:=Nat.le_of_lt (KQ h)
end L2
namespace L2
open PySem PySem.Spec PyProof.Rows
structure aaB (Q:VK):Type where
  n:Nat
def Cal (sp:Sp) (vs:List V) (H:Hp) (Q:VK) (_:aaB Q) (E:XK):Prop:=sp vs H Q E
theorem ee {sp:Sp} {jz:List V} {E:XK} {t:TA} {σ:St} {H:Hp} {Q:VK}:eY sp jz E t σ H Q=t σ H (fun vs H1=>Cal sp (vs++jz) H1 Q ⟨0⟩ E):=rfl
section
variable {X:Cx} {pos p1 p2:Pos} {j1 j2:Nat}
theorem Of {a b:Int} (v:Int) (h:decide (0≤b∧b≤1000000∧a.natAbs < 2 ^ 64∧a ^ b.toNat=v)=true:=by decide +kernel):PE X (.BinOp (.Constant (.int a) j1 p1) .Pow (.Constant (.int b) j2 p2) pos) (tC (.int v)):=by
  intro pins s σ H Q I q
  obtain ⟨h1,h2,h3,h4⟩:=of_decide_eq_true h
  refine P6 QM GY GY pins s σ H Q I ⟨a,b,rfl,rfl,⟨h1,h2,h3⟩,?_⟩
  show Q (V.int (a ^ b.toNat)) H
  rw [h4]
  exact q
end
end L2
namespace L2
open PySem PySem.Spec PyProof.Rows
theorem bN {H:Hp} {a b:Addr} {o:HO}:upd H a o b=none↔b≠a∧H b=none:=by
  unfold upd
  by_cases h:b=a
  · simp [h]
  · simp [h]
end L2
namespace L2
open PySem PySem.Spec PyProof.Rows
def Loop (J:It) (g:TG) (tb:TS) (D:Ends) (σ:St) (H:Hp):Prop:=∃ W:Nat→Nat→St→Hp→Prop,(∃ m,W 0 m σ H)∧∀ i m σ H,W i m σ H→
  (J.stop i H∧D.nx σ H)∨(J.go i H∧∃ N:St→Hp→Prop,(∀ σ' H',N σ' H'→∃ m',m' < m∧W (i + 1) m' σ' H')∧∀ x H',J.P1 i H x H'→g x σ H' fun σ2 H2=>tb { D with nx:=N,ct:=N,bk:=D.nx } σ2 H2)
section
variable {K:PySem.W.Frag} {ta:TA} {tl:TE} {g:TG} {tb:TS} {D:Ends} {σ:St} {H:Hp} {a:Addr} {xs:List V} {lo:Int} {n:Nat}
theorem bw:G9 (Je ta) g tb D σ H=ta σ H (fun vs H1=>∃ j:Int,vs=[.int j]∧-(2 ^ 62)≤j∧j < 2 ^ 62∧Loop (NL 0 j.toNat) g tb D σ H1):=rfl
theorem bx:G9 (P5 ta) g tb D σ H=ta σ H (fun vs H1=>∃ i j:Int,vs=[.int i,.int j]∧(-(2 ^ 62)≤i∧i < 2 ^ 62∧-(2 ^ 62)≤j∧j < 2 ^ 62)∧Loop (NL i (j - i).toNat) g tb D σ H1):=rfl
theorem aB:G9 (CM K tl) g tb D σ H=tl σ H (fun x H1=>∃ a,x=.ref a∧(∃ xs,fE K H1 a xs)∧Loop (GU K a) g tb D σ H1):=rfl
theorem bV:G9 (Kv K tl) g tb D σ H=tl σ H (fun x H1=>∃ a,x=.ref a∧(∃ xs,uQ K H1 a xs)∧Loop (P4 K a) g tb D σ H1):=rfl
theorem tH (Pv:Nat→St→Hp→Prop) (h0:Pv 0 σ H) (hl:∀ i σ H,i≤xs.length→Pv i σ H→fE K H a xs)
    (hs:∀ i x σ H,xs[i]?=some x→Pv i σ H→g x σ H fun σ2 H2=>tb { D with nx:=Pv (i + 1),ct:=Pv (i + 1),bk:=D.nx } σ2 H2) (hd:∀ σ H,Pv xs.length σ H→D.nx σ H):Loop (GU K a) g tb D σ H:=LO Pv h0 hl hs hd
end
end L2
set_option Elab.async false
set_option linter.all false
set_option maxRecDepth 100000
namespace L2
open PySem PySem.Spec PyProof.Rows
structure JE (X:Cx) (e:Expr) (t:TE):Prop where h:PE X e t
structure JT (X:Cx) (e:Expr) (t:TT):Prop where h:PT X e t
structure JW (X:Cx) (e:Expr) (t:TT):Prop where h:PW X e t
structure JA (X:Cx) (es:List Expr) (t:TA):Prop where h:PA X es t
structure JS (X:Cx) (st:Stmt) (t:TS):Prop where h:PS X st t
structure JB (X:Cx) (st:List Stmt) (t:TS):Prop where h:Kr X st t
structure JG (X:Cx) (e:Expr) (t:TG):Prop where h:PG X e t
structure Qa (X:Cx) (es:List Expr) (t:GZ):Prop where h:TZ X es t
structure JI (X:Cx) (tg e:Expr) (t:TI):Prop where h:PI X tg e t
structure JO (X:Cx) (e:Option Expr) (t:TO):Prop where h:PO X e t
section
variable {X:Cx} {a b c e o:Expr} {es rest:List Expr} {ta tb tc te to:TE} {t tl:TA} {tA ND:TT} {pos p p':Pos} {st:Stmt} {Tp Uj:List Stmt} {u v:TS}
theorem ev (i:Nat) {x:Str} (hN:X.N[i]?=some x:=by rfl) (hv:TM X.env.scope x:=by first | exact Or.inl rfl | exact Or.inr (Or.inl rfl) | exact Or.inr (Or.inr rfl)) (hd:(x==("__debug__":Str))=false:=by decide)
    (Du:(x==("__classdict__":Str))=false:=by decide):JE X (.Name x pos) (jy i):=⟨Qu hN hv hd Du⟩
theorem ei {i j}:JE X (.Constant (.int i) j pos) (tC (.int i)):=⟨GY⟩
theorem yj {b j}:JE X (.Constant (.bool b) j pos) (tC (.bl b)):=⟨TV⟩
theorem uX {j}:JE X (.Constant .none j pos) (tC .eO):=⟨Qv⟩
theorem gK {x j}:JE X (.Constant (.str x) j pos) (tC (.str x)):=⟨Qw⟩
theorem ig {x:Str} {v:V} {u:Value} (hg:Gl X x) (hm:X.mg x=some u) (r:RelV v u) (hd:(x==("__debug__":Str))=false:=by decide):JE X (.Name x pos) (tC v):=⟨NB hg hm r hd⟩
theorem vR {x:Str} {n:String} (hg:Gl X x) (hm:X.mg x=none) (hv:bootBuiltins x=some (.type n)) (hn:x≠"__name__":=by decide) (hd:(x==("__debug__":Str))=false:=by decide):JE X (.Name x pos) (tC (.ty n)):=⟨NC hg hm hv rfl hn hd⟩
theorem nL {op:Operator} {r:R2} (ho:nK X (binaryOp op) r) (ha:JE X a ta) (hb:JE X b tb):JE X (.BinOp a op b pos) (tu r ta tb):=⟨P6 ho ha.h hb.h⟩
theorem ze {a b:Int} {j1 j2:Nat} {p1 p2:Pos} (v:Int) (h:decide (0≤b∧b≤1000000∧a.natAbs < 2 ^ 64∧a ^ b.toNat=v)=true:=by decide +kernel):JE X (.BinOp (.Constant (.int a) j1 p1) .Pow (.Constant (.int b) j2 p2) pos) (tC (.int v)):=⟨Of v h⟩
theorem eun {op:UnaryOp} {r:V→Hp→VK→Prop} (ho:Xl X (unaryOp op) r) (ha:JE X a ta):JE X (.UnaryOp op a pos) (xX r ta):=⟨T3 ho ha.h⟩
theorem Uk (ha:JE X a ta):JE X (.UnaryOp .Not a pos) (fD ta):=⟨QB ha.h⟩
theorem rB {op} (h:JE X a ta):JE X (.BoolOp op [a] pos) ta:=⟨Qz h.h⟩
theorem qb (ha:JE X a ta) (hb:JE X (.BoolOp .And (b::rest) pos) tb):JE X (.BoolOp .And (a::b::rest) pos) (fC ta tb):=⟨QA ha.h hb.h⟩
theorem eor (ha:JE X a ta) (hb:JE X (.BoolOp .Or (b::rest) pos) tb):JE X (.BoolOp .Or (a::b::rest) pos) (jS ta tb):=⟨TX ha.h hb.h⟩
theorem Ul (hc:JT X c tA) (ha:JE X a ta) (hb:JE X b tb):JE X (.IfExp c a b pos) (xW tA ta tb):=⟨LI hc.h ha.h hb.h⟩
theorem rM {op:CmpOp} {r:R2} (ho:nK X (compareOp op) r) (ha:JE X a ta) (hb:JE X b tb) (hm:behindInMarks op b=false):JE X (.Compare a [op] [b] pos) (tu r ta tb):=⟨NQ ho ha.h hb.h hm⟩
theorem AH {op QN:CmpOp} {r r':R2} (ho:nK X (compareOp op) r) (LH:nK X (compareOp QN) r') (ha:JE X a ta) (hb:JE X b tb) (hc:JE X c tc)
    (hm:lastMarks [op,QN] [b,c]=false:=by with_unfolding_all rfl):JE X (.Compare a [op,QN] [b,c] pos) (dm r r' ta tb tc):=⟨LR ho LH ha.h hb.h hc.h hm⟩
theorem ko {r:R2} (hr:L0 X r) (ha:JE X a ta) (hb:JE X b tb) (hs:Jo b):JE X (.Subscript a b pos) (tu r ta tb):=⟨Ud hr ha.h hb.h hs⟩
theorem Hw {r:V→Option Int→Option Int→Hp→VK→Prop} {lo hi:Option Expr} {tl th:TO} (hr:QZ X r) (he:JE X e te) (hl:JO X lo tl) (hu:JO X hi th):JE X (.Subscript e (.Slice lo hi none p) pos) (xY r te tl th):=⟨LZ hr he.h hl.h hu.h⟩
theorem aI {x:Str} {k:Nat} {ps:List Str} {sp:Sp} (C:Callee X.prog X.w X.K X.mg X.base x k ps sp) (hr:dU k X.A) (hg:Gl X x) (ha:JA X (e::es) t)
    (zc:(x==("__debug__":Str))=false:=by decide) (he:starEach (e::es) X.env=(false,eval e X.env)::starEach es X.env:=by rfl) (vI:(backTo pos (starEach es X.env)).any (·.1)=false:=by rfl):
    JE X (.Call (.Name x p) (e::es) [] pos) (eY sp [] E0 t):=⟨L7 C hr hg ha.h zc he vI⟩
theorem dH {x:Str} {id:String} {r:List V→Hp→VK→Prop} (hc:gR X (.builtin id) r) (hg:Gl X x) (hm:X.mg x=none) (hv:bootBuiltins x=some (.builtin id)) (ha:JA X (e::es) t) (hn:x≠"__name__":=by decide) (zc:(x==("__debug__":Str))=false:=by decide)
    (he:starEach (e::es) X.env=(false,eval e X.env)::starEach es X.env:=by rfl) (vI:(backTo pos (starEach es X.env)).any (·.1)=false:=by rfl):JE X (.Call (.Name x p) (e::es) [] pos) (vJ r t):=⟨LY hc hg hm hv ha.h hn zc he vI⟩
theorem vS {x:Str} {T:String} {r:List V→Hp→VK→Prop} (hc:gR X (.type T) r) (hg:Gl X x) (hm:X.mg x=none) (hv:bootBuiltins x=some (.type T)) (ha:JA X (e::es) t) (hn:x≠"__name__":=by decide) (zc:(x==("__debug__":Str))=false:=by decide)
    (he:starEach (e::es) X.env=(false,eval e X.env)::starEach es X.env:=by rfl) (vI:(backTo pos (starEach es X.env)).any (·.1)=false:=by rfl):JE X (.Call (.Name x p) (e::es) [] pos) (vJ r t):=⟨KI hc hg hm hv ha.h hn zc he vI⟩
theorem Um {T id:String} {name:Str} {r:V→List V→Hp→VK→Prop} {apos jB:Pos} (pa:PlainAttrs T) (slot:Slot T name id) (Q6:typeOf (.builtin id)=pure (.type "method_descriptor")) (hm:KJ X id r) (ho:JE X o to)
    (AB:attributeBase o name X.env (eval o X.env)=eval o X.env:=by rfl) (AD:(apos.endLine==jB.line)=true:=by rfl):JE X (.Call (.Attribute o name apos) [] [] jB) (j3 X.K T r to):=⟨Q5 pa slot Q6 hm ho.h AB AD⟩
theorem Qc {T id:String} {name:Str} {r:V→List V→Hp→VK→Prop} {apos jB:Pos} (pa:PlainAttrs T) (slot:Slot T name id) (Q6:typeOf (.builtin id)=pure (.type "method_descriptor")) (hm:KJ X id r) (ho:JE X o to) (ha:JA X (e::es) t)
    (AB:attributeBase o name X.env (eval o X.env)=eval o X.env:=by rfl)
    (Q7:((backTo jB (starEach (e::es) X.env)).all (fun x=>!x.1)&&(backToKw jB (keywordEach [] X.env)).all (fun x=>x.1.isSome)
      &&decide ((e::es).length + ([]:List Keyword).length + (if ([]:List Keyword).isEmpty then 0 else 1) < 30))=true:=by rfl)
    (AD:(apos.endLine==jB.line)=true:=by rfl) (hs:starEach (e::es) X.env=(false,eval e X.env)::starEach es X.env:=by rfl) (Hu:(backTo jB (starEach es X.env)).any (·.1)=false:=by rfl):
    JE X (.Call (.Attribute o name apos) (e::es) [] jB) (xZ X.K T r to t):=⟨Ue pa slot Q6 hm ho.h ha.h AB Q7 AD hs Hu⟩
theorem az:JA X [] iG:=⟨QV⟩
theorem af (ha:JE X e te) (hr:JA X es t) (hs:starEach (e::es) X.env=(false,eval e X.env)::starEach es X.env:=by rfl):JA X (e::es) (eX te t):=⟨NU ha.h hr.h hs⟩
theorem eV {op:CmpOp} {r:R2} (ho:nK X (compareOp op) r) (ha:JE X a ta) (hb:JE X b tb) (hm:behindInMarks op b=false):JT X (.Compare a [op] [b] pos) (fH (tu r ta tb)):=⟨NR ho ha.h hb.h hm⟩
theorem j4 (h:JE X e te) (he:∀ whole,isTrue e X.env whole=(do let v ← whole;standAt e.pos;holding [v] (truthy v)):=by intro _;rfl):JT X e (tB te):=⟨Qx h.h he⟩
theorem Mb (ha:JE X a ta) (he:∀ whole,isTrue a X.env whole=(do let v ← whole;standAt a.pos;holding [v] (truthy v))):
    JT X a (fun σ H Q=>ta σ H fun x H'=>∃ k,QO X.K x H' k∧Q k H'):=⟨LS ha.h he⟩
theorem lF (ha:JT X a tA):JT X (.UnaryOp .Not a pos) (jR tA):=⟨Qy ha.h⟩
theorem tw (h:JW X e tA):JT X e tA:=⟨PW.pt h.h⟩
theorem Uo (ha:JT X a tA):JW X (.BoolOp .And [a] pos) tA:=⟨pw_and1 ha.h⟩
theorem rC (ha:JT X a tA):JW X (.BoolOp .Or [a] pos) tA:=⟨pw_or1 ha.h⟩
theorem aaD (ha:JT X a tA) (hb:JW X (.BoolOp .And (b::rest) pos) ND):JW X (.BoolOp .And (a::b::rest) pos) (jQ tA ND):=⟨pw_and ha.h hb.h⟩
theorem B4 (ha:JT X a tA) (hb:JW X (.BoolOp .Or (b::rest) pos) ND):JW X (.BoolOp .Or (a::b::rest) pos) (xV tA ND):=⟨pw_or ha.h hb.h⟩
theorem fq:JB X [] fF:=⟨NF⟩
theorem aE (h1:JS X st u) (h2:JB X Tp v):JB X (st::Tp) (jT u v):=⟨LJ h1.h h2.h⟩
theorem aK (h1:JS X st u):JB X [st] u:=⟨NG h1.h⟩
theorem iT (he:JE X e te) (hs:swapsWith e none pos.line X.env=pure false:=by rfl):JS X (.Expr e pos) (fG te):=⟨NH he.h hs⟩
theorem aU (he:JE X e te):JS X (.Return (some e) pos) (jU te):=⟨QC he.h⟩
theorem nQ (hc:JT X c tA) (ha:JB X Tp u) (hb:JB X Uj v):JS X (.If c Tp Uj pos) (jV tA u v):=⟨TY hc.h ha.h hb.h⟩
theorem sset {i:Nat} {x:Str} (hN:X.N.Nodup) (hi:X.N[i]?=some x) (hx:Loc X.env.scope x) (he:JE X e te) (hs:swapsWith e (some (.Name x p)) pos.line X.env=pure false:=by rfl) (hf:X.fn x=true∨X.env.scope.names.lookup x=some .local:=by first | exact .inl rfl | exact .inr rfl | assumption):
    JS X (.Assign [.Name x p] e pos) (iZ te (cY i)):=⟨QH hN hi hx he.h hs hf⟩
theorem qc {tg:Expr} {g:TG} (he:JE X e te) (hg:JG X tg g) (hs:swapsWithSole [tg] e pos.line X.env=pure false:=by rfl) (hw:swappedStores [tg] e X.env=pure none:=by rfl)
    (h1:(assignEach [tg] X.env).map (·.2)=[assign tg X.env]:=by rfl):JS X (.Assign [tg] e pos) (iZ te g):=⟨QG he.h hg.h hs hw h1⟩
theorem Og {tg iter:Expr} {wi:TI} {g:TG} (hp:PassesOwn (model X.prog X.w) X.A X.env X.xe) (hc:X.calm=true) (hi:JI X tg iter wi) (hg:JG X tg g) (hb:JB X Tp u)
    (hs:∀ x,foldedSetIterable iter X.env x=pure x:=by intro _;rfl):JS X (.For tg iter Tp [] pos) (G9 wi g u):=⟨QJ hp hc hi.h hg.h hb.h hs⟩
theorem bG {i:Nat} {x:Str} (hN:X.N.Nodup) (hi:X.N[i]?=some x) (hx:Loc X.env.scope x) (hf:X.fn x=true∨X.env.scope.names.lookup x=some .local:=by first | exact .inl rfl | exact .inr rfl | assumption):JG X (.Name x pos) (cY i):=⟨Dv hN hi hx hf⟩
theorem Up {i:Expr} {ti:TE} {t:NI} (ho:JE X o to) (hi:JE X i ti) (hs:QD X t)
    (ha:∀ v,assign (.Subscript o i pos) X.env v=(do
      let ov ← holding [v] (eval o X.env)
      let iv ← holding [v,ov] (eval i X.env)
      standAt pos
      holding [v,ov,iv] (setItem ov iv v)
      release [v,ov,iv] []):=by intro _;rfl):JG X (.Subscript o i pos) (jX to ti t):=⟨QF ho.h hi.h hs ha⟩
theorem pG:Qa X [] jW:=⟨NJ⟩
theorem cK {t:TG} {u:GZ} (h1:JG X e t) (h2:Qa X es u) (hs:(assignEach (e::es) X.env).map (·.2)=assign e X.env::(assignEach es X.env).map (·.2):=by rfl):Qa X (e::es) (fm t u):=⟨LL h1.h h2.h hs⟩
theorem Oh {tg:Expr} (hg:Gl X "range") (hm:X.mg "range"=none) (ha:JA X [a] t) (hs:starEach [a] X.env=[(false,eval a X.env)]:=by rfl):JI X tg (.Call (.Name "range" p) [a] [] pos) (Je t):=⟨Kw hg hm ha.h hs⟩
theorem qR {tg l:Expr} (hl:JE X l te):JI X tg l (CM X.K te):=⟨NO hl.h⟩
theorem Uq {tg l:Expr} (hl:JE X l te):JI X tg l (Kv X.K te):=⟨QI hl.h⟩
theorem Mc:JO X none cI:=⟨N3⟩
theorem Me (h:JE X e te):JO X (some e) (fJ te):=⟨N4 h.h⟩
end
section
variable {P:Program} {w:World} {K:PySem.W.Frag} {mg:Str→Option Value} {base:Heap}
theorem fc.fM {x qual:Str} {st:Stmt} {f:Addr} {fd:FuncData} {N ps:List Str} {k:Nat} {sp:Sp} (F:fc K x qual st f fd) (S:ay N ps (aa st)) (len:∀ vs H Q E,sp vs H Q E→vs.length=ps.length)
    (mW:∀ (cJ:Value) (A:Around) (outer:List Env) (s:Shared) (H:Hp) (vs:List V) (Q:VK) (E:XK),dU k (A.deeper (envOfC qual (aa st) s.heap.objs.size f cJ))→sp vs H Q E→
      ∃ t,JB (vM dF P w K mg base N qual (aa st) f cJ A outer s H E).Jd (ah st) t∧t { nx:=fun _ H'=>Q .eO H',rt:=Q } (start N vs) H):aL P w K mg base dF (k + 1) f fd ps sp:=
  F.ok S len fun cJ A outer s H vs Q E hr h=>let ⟨t,a,b⟩:=mW cJ A outer s H vs Q E hr h;⟨t,a.h,b⟩
end
end L2
set_option Elab.async false
set_option linter.all false
set_option maxRecDepth 100000
namespace L2
open PySem PySem.Spec PyProof.Rows
mutual
def Is (K:PySem.W.Frag) (H:Hp):PyData→V→Prop
  | .none,v=>v=.eO
  | .bool b,v=>v=.bl b
  | .int i,v=>v=.int i
  | .str x,v=>v=.str x
  | .list ds,v=>∃ a vs,v=.ref a∧fE K H a vs∧cZ K H ds vs
  | .tuple ds,v=>∃ a vs,v=.ref a∧uQ K H a vs∧cZ K H ds vs
  | .dict _,_=>False
def cZ (K:PySem.W.Frag) (H:Hp):List PyData→List V→Prop
  | [],vs=>vs=[]
  | d::ds,vs=>∃ v r,vs=v::r∧Is K H d v∧cZ K H ds r
end
section
variable {X:Cx} {pins:List (Addr×Obj)} {σ:St} {H:Hp} {s:Shared}
mutual
theorem Is.reads (I:Inv X pins σ H s):∀ {d:PyData} {v:V} {u:Value},Is X.K H d v→RelV v u→∃ as,Reads s.heap u d as
  | .none,v,u,h,r=>by unfold Is at h;subst h;cases r;exact ⟨_,.none⟩
  | .bool b,v,u,h,r=>by unfold Is at h;subst h;cases r;exact ⟨_,.bool b⟩
  | .int i,v,u,h,r=>by unfold Is at h;subst h;obtain ⟨t,rfl⟩:=r;exact ⟨_,.int i t⟩
  | .str x,v,u,h,r=>by unfold Is at h;subst h;obtain ⟨t,rfl⟩:=r;exact ⟨_,.str x t⟩
  | .list ds,v,u,h,r=>by
    unfold Is at h
    obtain ⟨a,vs,rfl,hs,ha⟩:=h
    cases r
    obtain ⟨its,rv,⟨o,n,e,hc,_,hd⟩,_⟩:=I.list hs
    obtain ⟨as,q⟩:=cZ.reads I ha rv
    exact ⟨_,.list e hc hd (by simpa using q)⟩
  | .tuple ds,v,u,h,r=>by
    unfold Is at h
    obtain ⟨a,vs,rfl,hs,ha⟩:=h
    cases r
    obtain ⟨its,rv,⟨o,e,hc,n,hd⟩,_⟩:=I.tuple hs
    obtain ⟨as,q⟩:=cZ.reads I ha rv
    exact ⟨_,.tuple e hc hd (by simpa using q)⟩
  | .dict _,v,u,h,r=>by unfold Is at h;exact h.elim
theorem cZ.reads (I:Inv X pins σ H s):∀ {ds:List PyData} {vs:List V} {us:List Value},cZ X.K H ds vs→Vals vs us→∃ as,ReadsAll s.heap us ds as
  | [],vs,us,h,r=>by unfold cZ at h;subst h;cases r;exact ⟨_,.nil⟩
  | d::ds,vs,us,h,r=>by
    unfold cZ at h
    obtain ⟨v,rs,rfl,h1,h2⟩:=h
    cases r with
    | cons r1 r2=>
      obtain ⟨as,q1⟩:=Is.reads I h1 r1
      obtain ⟨bs,q2⟩:=cZ.reads I h2 r2
      exact ⟨_,.cons q1 q2⟩
end
end
section
variable {X:Cx}
def j5 (K:PySem.W.Frag) (neg:Bool):R2:=fun x y H Q=>∃ d e,Is K H d x∧Is K H e y∧SeqAt.shaped d=true∧SeqAt.shaped e=true∧Q (.bl (if neg=true then !PyData.eqv d e else PyData.eqv d e)) H
theorem yk (hu:X.A.units + 64 < cLine):nK X (compareOp .Eq) (j5 X.K false):=by
  intro pins s σ H x y v u Q I rx ry h
  obtain ⟨d,e,hd,he,sd,se,q⟩:=h
  obtain ⟨as,ra⟩:=hd.reads I rx
  obtain ⟨bs,rb⟩:=he.reads I ry
  exact SeqAt.compareEq_shaped ra rb sd se hu ⟨.bl _,H,I,rfl,q⟩
theorem DO (hu:X.A.units + 64 < cLine):nK X (compareOp .NotEq) (j5 X.K true):=by
  intro pins s σ H x y v u Q I rx ry h
  obtain ⟨d,e,hd,he,sd,se,q⟩:=h
  obtain ⟨as,ra⟩:=hd.reads I rx
  obtain ⟨bs,rb⟩:=he.reads I ry
  exact SeqAt.compareNe_shaped ra rb sd se hu ⟨.bl _,H,I,rfl,q⟩
end
mutual
def Hx:PyData→Bool
  | .none=>true
  | .bool _=>false
  | .int _=>true
  | .str _=>true
  | .list ds=>uY ds
  | .tuple ds=>uY ds
  | .dict _=>false
def uY:List PyData→Bool
  | []=>true
  | d::ds=>Hx d&&uY ds
end
mutual
theorem Jq:∀ {d e:PyData},Hx d=true→Hx e=true→(PyData.eqv d e=true↔d=e)
  | .none,e,hd,he=>by cases e <;> simp [PyData.eqv]
  | .bool _,e,hd,he=>by simp [Hx] at hd
  | .int i,e,hd,he=>by cases e <;> simp [PyData.eqv,Hx] at *
  | .str x,e,hd,he=>by cases e <;> simp [PyData.eqv,Hx] at *
  | .list ds,e,hd,he=>by
    cases e with
    | list es=>
      simp only [Hx] at hd he
      simp only [PyData.eqv,PyData.list.injEq]
      exact uZ hd he
    | _=>simp [PyData.eqv]
  | .tuple ds,e,hd,he=>by
    cases e with
    | tuple es=>
      simp only [Hx] at hd he
      simp only [PyData.eqv,PyData.tuple.injEq]
      exact uZ hd he
    | _=>simp [PyData.eqv]
  | .dict _,e,hd,he=>by simp [Hx] at hd
theorem uZ:∀ {ds es:List PyData},uY ds=true→uY es=true→(PyData.eqvAll ds es=true↔ds=es)
  | [],es,_,_=>by cases es <;> simp [PyData.eqvAll]
  | d::ds,es,hd,he=>by
    cases es with
    | nil=>simp [PyData.eqvAll]
    | cons e es=>
      simp only [uY,Bool.and_eq_true] at hd he
      simp only [PyData.eqvAll,Bool.and_eq_true,List.cons.injEq]
      rw [Jq hd.1 he.1,uZ hd.2 he.2]
end
mutual
theorem Is.same {K:PySem.W.Frag} {H H':Hp} (h:vP H H'):∀ {d:PyData} {v:V},Is K H d v→Is K H' d v
  | .none,v,q=>by unfold Is at q ⊢;exact q
  | .bool b,v,q=>by unfold Is at q ⊢;exact q
  | .int i,v,q=>by unfold Is at q ⊢;exact q
  | .str x,v,q=>by unfold Is at q ⊢;exact q
  | .list ds,v,q=>by
    unfold Is at q ⊢
    obtain ⟨a,vs,e,hs,ha⟩:=q
    exact ⟨a,vs,e,h.seq hs,cZ.same h ha⟩
  | .tuple ds,v,q=>by
    unfold Is at q ⊢
    obtain ⟨a,vs,e,hs,ha⟩:=q
    refine ⟨a,vs,e,?_,cZ.same h ha⟩
    rcases hs with (hs | ⟨o,hs⟩) | hs
    · exact .inl (.inl (h _ _ hs))
    · exact .inl (.inr ⟨o,h _ _ hs⟩)
    · exact .inr hs
  | .dict _,v,q=>by unfold Is at q;exact q.elim
theorem cZ.same {K:PySem.W.Frag} {H H':Hp} (h:vP H H'):∀ {ds:List PyData} {vs:List V},cZ K H ds vs→cZ K H' ds vs
  | [],vs,q=>by unfold cZ at q ⊢;exact q
  | d::ds,vs,q=>by
    unfold cZ at q ⊢
    obtain ⟨v,r,e,h1,h2⟩:=q
    exact ⟨v,r,e,Is.same h h1,cZ.same h h2⟩
end
end L2
set_option Elab.async false
set_option linter.all false
set_option maxRecDepth 100000
namespace L2
open PySem PySem.Spec PyProof.Rows
theorem Mf:∀ {u:Value} {x:V},FG u=some x→RelV x u:=by
  intro u x h
  cases u <;> simp only [FG,Option.some.injEq] at h <;> first | (subst h;first | rfl | exact ⟨_,rfl⟩) | cases h
theorem Mg:∀ {us:List Value} {xs:List V},us.mapM FG=some xs→Vals xs us:=by
  intro us
  induction us with
  | nil=>intro xs h;simp at h;subst h;exact .nil
  | cons u us ih=>
    intro xs h
    rw [List.mapM_cons] at h
    cases e1:FG u with
    | none=>rw [e1] at h;simp at h
    | some x=>
      cases e2:us.mapM FG with
      | none=>rw [e1,e2] at h;simp at h
      | some ys=>
        rw [e1,e2] at h
        simp at h
        subst h
        exact .cons (Mf e1) (ih e2)
def lR (K:PySem.W.Frag) (a:Addr):Option (List V):=match K.lookup a with
  | some ⟨.type n,_,.seq its _,_⟩=>if n="tuple" then (if its.size≤sizeLine then its.toList.mapM FG else none) else none
  | _=>none
theorem kU {K:PySem.W.Frag} {H:Hp} {a:Addr} {xs:List V} (h:lR K a=some xs):uQ K H a xs:=by
  unfold lR at h
  split at h
  · next n dd its k sl e=>
    by_cases h1:n="tuple"
    · rw [if_pos h1] at h
      by_cases h2:its.size≤sizeLine
      · rw [if_pos h2] at h
        subst h1
        exact .inr ⟨_,its,k,e,rfl,rfl,h2,Mg h⟩
      · rw [if_neg h2] at h;cases h
    · rw [if_neg h1] at h;cases h
  · cases h
def tupQ (K:PySem.W.Frag) (H:Hp) (a:Addr):Option (List V):=match H a with
  | some (.tup xs)=>some xs
  | some _=>none
  | none=>lR K a
def rN (K:PySem.W.Frag) (H:Hp) (a:Addr):Option (List V):=match H a with
  | some (.lst xs)=>some xs
  | some (.tup xs)=>some xs
  | some (.GS _ (.lst xs))=>some xs
  | some _=>none
  | none=>lR K a
section
variable {K:PySem.W.Frag} {H H':Hp} {a b:Addr} {xs:List V} {o:HO}
theorem cD (h:tupQ K H a=some xs):uQ K H a xs:=by
  unfold tupQ at h
  split at h
  · next e=>cases h;exact .inl (.inl e)
  · cases h
  · exact kU h
theorem Aa (h:rN K H a=some xs):fE K H a xs∨uQ K H a xs:=by
  unfold rN at h
  split at h
  · next e=>cases h;exact .inl (.inl (.inl e))
  · next e=>cases h;exact .inr (.inl (.inl e))
  · next e=>cases h;exact .inl (.inl (.inr ⟨_,e⟩))
  · cases h
  · exact .inr (kU h)
theorem dw (h:tupQ K H a=some xs):rN K H a=some xs:=by
  unfold tupQ at h
  unfold rN
  split at h
  · next e=>rw [e];exact h
  · cases h
  · next e=>rw [e];exact h
theorem mX (h:H a=some (.lst xs)):rN K H a=some xs:=by unfold rN;rw [h]
theorem Mh (h:H a=some (.tup xs)):rN K H a=some xs:=by unfold rN;rw [h]
theorem Mi (h:H a=some (.tup xs)):tupQ K H a=some xs:=by unfold tupQ;rw [h]
theorem bz:rN K (upd H a (.lst xs)) a=some xs:=mX av
theorem bA:rN K (upd H a (.tup xs)) a=some xs:=Mh av
theorem ao:tupQ K (upd H a (.tup xs)) a=some xs:=Mi av
theorem Oi (h:b≠a):tupQ K (upd H a o) b=tupQ K H b:=by unfold tupQ;rw [bE h]
structure Ext (K:PySem.W.Frag) (H H':Hp):Prop where
  same:vP H H'
  mod:∀ a xs,H a=none→lR K a=some xs→H' a=none
theorem Ext.refl:Ext K H H:=⟨vP.refl H,fun _ _ h _=>h⟩
theorem Ext.trans {H1 H2:Hp} (x:Ext K H H1) (y:Ext K H1 H2):Ext K H H2:=⟨x.same.trans y.same,fun a xs h k=>y.mod a xs (x.mod a xs h k) k⟩
theorem Ext.tup (x:Ext K H H') (h:tupQ K H a=some xs):tupQ K H' a=some xs:=by
  unfold tupQ at h ⊢
  split at h
  · next e=>rw [x.same _ _ e];exact h
  · cases h
  · next e=>rw [x.mod a xs e h];exact h
end
section
variable {X:Cx}
def j6 (K:PySem.W.Frag):R2:=fun x y H Q=>∃ p i xs v,x=.ref p∧y=.int i∧rN K H p=some xs∧DG xs i=some v∧Q v H
theorem ez:L0 X (j6 X.K):=by
  intro value slice pins s σ H x y v u Q I rx ry h hs
  obtain ⟨p,i,xs,z,rfl,rfl,hq,he,q⟩:=h
  rcases Aa (K:=X.K) hq with h1 | h1
  · exact N6 value slice pins s σ H _ _ v u Q I rx ry ⟨p,xs,i,z,rfl,rfl,h1,he,q⟩ hs
  · exact Q0 value slice pins s σ H _ _ v u Q I rx ry ⟨p,xs,i,z,rfl,rfl,h1,he,q⟩ hs
theorem kq:gR X (.builtin "len") (fun xs H Q=>∃ p ys,xs=[.ref p]∧rN X.K H p=some ys∧Q (.int ys.length) H):=by
  intro pins s σ H xs us Q I r h
  obtain ⟨p,ys,rfl,hq,q⟩:=h
  exact DK pins s σ H _ us Q I r ⟨p,ys,rfl,Aa hq,q⟩
end
end L2
namespace L2
open PySem PySem.Spec PyProof.Rows
def new (K:PySem.W.Frag) (H:Hp) (p:Addr):Prop:=H p=none∧lR K p=none
theorem cW {K:PySem.W.Frag} {H:Hp} {a p:Addr} {o:HO}:new K (upd H a o) p↔p≠a∧new K H p:=by
  unfold new
  rw [bN,and_assoc]
theorem CU {K:PySem.W.Frag} {a:Addr} (h:K.lookup a=none):lR K a=none:=by unfold lR;rw [h]
section
variable {X:Cx} {es:List Expr} {t:TA} {pos:Pos} {pins:List (Addr×Obj)} {σ:St} {H:Hp} {s:Shared}
theorem Inv.new (I:Inv X pins σ H s):L2.new X.K H s.heap.objs.size:=by
  refine ⟨I.gm.fresh (Nat.le_refl _),CU ?_⟩
  cases e:X.K.lookup s.heap.objs.size with
  | none=>rfl
  | some o=>exact absurd (Heap.lt_size (I.nJ _ o e)) (Nat.lt_irrefl _)
def fK (K:PySem.W.Frag) (t:TA):TE:=fun σ H Q=>t σ H fun xs H1=>xs.length≤sizeLine∧∀ p,L2.new K H1 p→Q (.ref p) (upd H1 p (.tup xs))
def fQ (K:PySem.W.Frag) (t:TA):TE:=fun σ H Q=>t σ H fun xs H1=>xs.length≤sizeLine∧∀ p,L2.new K H1 p→Q (.ref p) (upd H1 p (.lst xs))
theorem bU {k} (h:JA X es t):JE X (.Tuple es k pos) (fK X.K t):=⟨by
  intro pins s σ H Q I hq
  refine wpAny_Tuple_spliced (eo (h.h pos pins s σ H _ I hq) fun us s1 ⟨xs,H1,I1,r,z,q⟩=>⟨by rw [← r.length];exact z,?_⟩)
  refine ⟨.ref s1.heap.objs.size,upd H1 s1.heap.objs.size (.tup xs),I1.laid (t':=s1.toks) (fun b u e=>Heap.get?_push_of_some _ e) (Nat.le_refl _) ?_,rfl,q _ I1.new⟩
  exact ⟨z,us,r,⟨_,Heap.get?_push_size _ rfl,rfl,_,rfl⟩⟩⟩
theorem ua (h:JA X es t):JE X (.List es pos) (fQ X.K t):=⟨by
  intro pins s σ H Q I hq
  refine wpAny_List_spliced (eo (h.h pos pins s σ H _ I hq) fun us s1 ⟨xs,H1,I1,r,z,q⟩=>⟨by rw [← r.length];exact z,?_⟩)
  refine ⟨.ref s1.heap.objs.size,upd H1 s1.heap.objs.size (.lst xs),I1.laid (t':=s1.toks) (fun b u e=>Heap.get?_push_of_some _ e) (Nat.le_refl _) ?_,rfl,q _ I1.new⟩
  exact ⟨z,us,0,r,Heap.get?_push_size _ rfl⟩⟩
theorem u9 {st:Stmt}:JS X st dj:=⟨LK⟩
def fR (K:PySem.W.Frag):R2:=fun x y H Q=>∃ l b xs zs,x=.ref l∧y=.ref b∧H l=some (.lst xs)∧H b=some (.lst zs)∧xs.length + zs.length≤sizeLine∧∀ p,L2.new K H p→Q (.ref p) (upd H p (.lst (xs++zs)))
theorem vU:nK X (binaryOp .Add) (fR X.K):=by
  intro pins s σ H x y v u Q I rx ry h
  obtain ⟨l,b,xs,zs,rfl,rfl,hH,hB,hz,q⟩:=h
  cases rx
  cases ry
  obtain ⟨z,its,n,r,hl,e⟩:=I.Q8 hH
  obtain ⟨z2,its2,n2,r2,hl2,e2⟩:=I.Q8 hB
  refine PySem.P.add_list e e2 ?_ (by rw [List.size_toArray,List.size_toArray];omega)
  have ea:its.toArray++its2.toArray=(its++its2).toArray:=by simp
  rw [ea]
  exact ⟨.ref _,_,I.aaw (t':=s.toks) (r.append r2) (by rw [List.length_append];omega),rfl,q _ I.new⟩
end
structure Kp (K:PySem.W.Frag) (p:Addr) (H H':Hp):Prop where
  keep:∀ q o,H q=some o→q≠p→H' q=some o
  mod:∀ a xs,H a=none→lR K a=some xs→H' a=none
section
variable {K:PySem.W.Frag} {p a:Addr} {H H' H1 H2:Hp} {xs ys:List V} {o:HO}
theorem Kp.refl:Kp K p H H:=⟨fun _ _ h _=>h,fun _ _ h _=>h⟩
theorem Kp.trans (x:Kp K p H H1) (y:Kp K p H1 H2):Kp K p H H2:=⟨fun q o h n=>y.keep q o (x.keep q o h n) n,fun a xs h k=>y.mod a xs (x.mod a xs h k) k⟩
theorem Kp.upd (h:H p=some (.lst xs)):Kp K p H (upd H p o):=⟨fun q u e n=>by rw [bE n];exact e,fun b ys e _=>by rw [bE (fun z=>by rw [z,h] at e;cases e)];exact e⟩
theorem Kp.new {q:Addr} (h:L2.new K H q):Kp K p H (L2.upd H q o):=⟨fun r u e _=>by rw [bE (bJ e h.1)];exact e,fun b ys e k=>by rw [bE (fun z=>by rw [z,h.2] at k;cases k)];exact e⟩
theorem Kp.tup (x:Kp K p H H') (hp:H p=some (.lst ys)) (h:tupQ K H a=some xs):tupQ K H' a=some xs:=by
  unfold tupQ at h ⊢
  split at h
  · next e=>rw [x.keep _ _ e (TJ e hp (by intro z;cases z))];exact h
  · cases h
  · next e=>rw [x.mod a xs e h];exact h
theorem Ext.new {q:Addr} (h:L2.new K H q):Ext K H (L2.upd H q o):=⟨fun b u e=>by rw [bE (bJ e h.1)];exact e,fun b ys e k=>by rw [bE (fun z=>by rw [z,h.2] at k;cases k)];exact e⟩
theorem Kp.ext (x:Kp K p (L2.upd H p o) H') (h:L2.new K H p):Ext K H H':=by
  refine ⟨fun b u e=>?_,fun b ys e k=>?_⟩
  · have n:b≠p:=bJ e h.1
    exact x.keep b u (by rw [bE n];exact e) n
  · exact x.mod b ys (by rw [bE (fun z=>by rw [z,h.2] at k;cases k)];exact e) k
theorem Ext.kp (x:Ext K H H'):Kp K p H H':=⟨fun q o e _=>x.same q o e,x.mod⟩
end
end L2
namespace L2
open PySem PySem.Spec PyProof.Rows
section
variable {K:PySem.W.Frag} {p a:Addr} {H H':Hp} {xs:List V}
end
end L2
namespace L2
open PySem PySem.Spec PyProof.Rows
def Qd (K:PySem.W.Frag) (H:Hp) (x:V) (t:Value):Prop:=uV K H x t∨∃ a xs,x=.ref a∧tupQ K H a=some xs∧t=.type "tuple"
theorem Qd.tup {K:PySem.W.Frag} {H:Hp} {a:Addr} {xs:List V} (h:tupQ K H a=some xs):Qd K H (.ref a) (.type "tuple"):=.inr ⟨a,xs,rfl,h,rfl⟩
section
variable {X:Cx}
theorem cE:gR X (.builtin "isinstance") (fun xs H Q=>∃ x n t b,xs=[x,.ty n]∧Qd X.K H x t∧PySem.W.kitOne X.K t (.type n)=some b∧Q (.bl b) H):=by
  intro pins s σ H xs us Q I r h
  obtain ⟨x,n,t,b,rfl,ty,e,q⟩:=h
  obtain ⟨u,w',rfl,ru,rw'⟩:=vals2 r
  cases rw'
  rcases ty with ty | ⟨a,ys,rfl,hq,rfl⟩
  · exact CN I ru ty e fun tk=>⟨.bl b,H,I.tok tk,rfl,q⟩
  · cases (show u=Value.ref a from ru)
    obtain ⟨its,_,⟨o,h1,h2,_⟩,_⟩:=I.tuple (cD hq)
    exact PySem.W.kia_one PySem.W.kitx_tuple I.nJ ⟨o,h1,h2⟩ e (fun z=>nomatch z) fun tk=>⟨.bl b,H,I.tok tk,rfl,q⟩
end
end L2
namespace L2
open PySem PySem.Spec PyProof.Rows
section
variable {X:Cx}
theorem Mj:nK X (compareOp .Is) (fun x y H Q=>∃ c d,x=.bl c∧y=.bl d∧Q (.bl (c==d)) H):=by
  intro pins s σ H x y v u Q I rx ry h
  obtain ⟨c,d,rfl,rfl,q⟩:=h
  cases rx
  cases ry
  exact is_bool ⟨.bl _,H,I,rfl,q⟩
theorem Jr:nK X (compareOp .IsNot) (fun x y H Q=>∃ c d,x=.bl c∧y=.bl d∧Q (.bl (c !=d)) H):=by
  intro pins s σ H x y v u Q I rx ry h
  obtain ⟨c,d,rfl,rfl,q⟩:=h
  cases rx
  cases ry
  exact isnot_bool ⟨.bl _,H,I,rfl,q⟩
def j7 (K:PySem.W.Frag) (neg:Bool):R2:=fun x y H Q=>∃ p xs,y=.ref p∧rN K H p=some xs∧rH x=true∧xs.all rH=true∧Q (.bl (if neg=true then !N7 x xs else N7 x xs)) H
theorem Ml:nK X (compareOp .In) (j7 X.K false):=by
  intro pins s σ H x y v u Q I rx ry h
  obtain ⟨p,xs,rfl,hq,fx,fs,q⟩:=h
  exact KL pins s σ H x _ v u Q I rx ry ⟨p,xs,rfl,Aa hq,fx,fs,q⟩
theorem KY:nK X (compareOp .NotIn) (j7 X.K true):=by
  intro pins s σ H x y v u Q I rx ry h
  obtain ⟨p,xs,rfl,hq,fx,fs,q⟩:=h
  exact DJ pins s σ H x _ v u Q I rx ry ⟨p,xs,rfl,Aa hq,fx,fs,q⟩
end
end L2
namespace L2
open PySem PySem.Spec PyProof.Rows
def qd (K:PySem.W.Frag) (H:Hp):Prop:=∀ b xs,lR K b=some xs→H b=none
theorem CV {K:PySem.W.Frag} {a:Addr} {xs:List V} (h:lR K a=some xs):∃ o,K.lookup a=some o:=by
  cases e:K.lookup a with
  | none=>rw [CU e] at h;cases h
  | some o=>exact ⟨o,rfl⟩
theorem aL.mod {P:Program} {w:World} {K:PySem.W.Frag} {mg:Str→Option Value} {base:Heap} {CX:DA} {k:Nat} {f:Addr} {fd:FuncData} {ps:List Str} {sp:Sp} (len:∀ vs H Q E,sp vs H Q E→vs.length=ps.length)
    (F:aL P w K mg base CX k f fd ps (fun vs H Q E=>sp vs H Q E∧qd K H)):aL P w K mg base CX k f fd ps sp:=
  ⟨len,fun A outer s H args us vs Q E hr e0 hb r h=>F.run A outer s H args us vs Q E hr e0 hb r ⟨h,fun b xs hk=>by
    obtain ⟨o,e⟩:=CV hk
    exact (e0.bs b o (e0.mod.LF b o e)).2⟩⟩
section
variable {P:Program} {w:World} {K:PySem.W.Frag} {mg:Str→Option Value} {base:Heap}
theorem fc.Xr {x qual:Str} {st:Stmt} {f:Addr} {fd:FuncData} {N ps:List Str} {k:Nat} {sp:Sp} (F:fc K x qual st f fd) (S:ay N ps (aa st)) (len:∀ vs H Q E,sp vs H Q E→vs.length=ps.length)
    (mW:∀ (cJ:Value) (A:Around) (outer:List Env) (s:Shared) (H:Hp) (vs:List V) (Q:VK) (E:XK),dU k (A.deeper (envOfC qual (aa st) s.heap.objs.size f cJ))→qd K H→sp vs H Q E→
      ∃ t,JB (vM dF P w K mg base N qual (aa st) f cJ A outer s H E).Jd (ah st) t∧t { nx:=fun _ H'=>Q .eO H',rt:=Q } (start N vs) H):aL P w K mg base dF (k + 1) f fd ps sp:=
  aL.mod len (F.fM S (fun vs H Q E h=>len vs H Q E h.1) fun cJ A outer s H vs Q E hr h=>mW cJ A outer s H vs Q E hr h.2 h.1)
end
theorem qd.tup {K:PySem.W.Frag} {H:Hp} {a:Addr} {xs:List V} (m:qd K H) (h:lR K a=some xs):tupQ K H a=some xs:=by
  unfold tupQ
  rw [m a xs h]
  exact h
theorem qd.ext {K:PySem.W.Frag} {H H':Hp} (m:qd K H) (x:Ext K H H'):qd K H':=fun b xs h=>x.mod b xs (m b xs h) h
end L2
namespace L2
open PySem PySem.Spec PyProof.Rows
def Ur (lo st:Int) (n:Nat):It:=⟨fun i _=>i < n,fun i H x H'=>H'=H∧x=.int (lo + i * st),fun i _=>n≤i⟩
section
variable {X:Cx} {tg:Expr}
def Us (ta:TA):TI:=fun σ H R=>ta σ H fun vs H1=>∃ (i j c:Int) (n:Nat),vs=[.int i,.int j,.int c]∧c≠0∧c.natAbs < 1073741824∧Builtin.Range.small i j c=true∧Builtin.Range.rangeSize i j c=(n:Int)∧R (Ur i c n) H1
end
section
variable {K:PySem.W.Frag} {ta:TA} {g:TG} {tb:TS} {D:Ends} {σ:St} {H:Hp} {lo stp:Int} {n:Nat}
theorem bB:G9 (Us ta) g tb D σ H=ta σ H (fun vs H1=>∃ (i j c:Int) (n:Nat),vs=[.int i,.int j,.int c]∧c≠0∧c.natAbs < 1073741824∧Builtin.Range.small i j c=true∧Builtin.Range.rangeSize i j c=(n:Int)∧Loop (Ur i c n) g tb D σ H1):=rfl
end
end L2
namespace L2
open PySem PySem.Spec PyProof.Rows
section
variable {X:Cx}
def kr (K:PySem.W.Frag):V→Option Int→Option Int→Hp→VK→Prop:=fun x lo hi H Q=>∃ a xs,x=.ref a∧fE K H a xs∧∀ p,L2.new K H p→Q (.ref p) (upd H p (.lst (yh xs lo hi)))
theorem AI:QZ X (kr X.K):=by
  intro pins s σ H x v vl vu lo hi sl Q I rx hs pl pu h
  obtain ⟨a,xs,rfl,hx,q⟩:=h
  cases rx
  obtain ⟨its,r,ht,hz⟩:=I.list hx
  have hlen:=r.length
  refine ⟨"list",_,slot_list_getitem.lookup,ht.isList.typeIs,?_⟩
  refine wpAny_getItem_list_slice ht.isList hs pl pu .none (by simp) ?_ (by rw [List.size_toArray] <;> omega)
  rw [B6,← hlen]
  refine ⟨.ref s.heap.objs.size,_,I.laid (t':=s.toks) (o:=.lst (yh xs lo hi)) (fun b ob q=>Heap.get?_push_of_some _ q) (Nat.le_refl _) ?_,rfl,q _ I.new⟩
  exact ⟨Nat.le_trans (FO xs lo hi) hz,_,0,(r.drop (HT.DE xs.length 0 lo)).take (HT.DE xs.length xs.length hi - HT.DE xs.length 0 lo),Heap.get?_push_size _ rfl⟩
end
end L2
set_option Elab.async false
set_option linter.all false
set_option maxRecDepth 100000
namespace L2
open PySem PySem.Spec PyProof.Rows
section
variable {X:Cx} {es:List Expr} {pos:Pos}
def fL (K:PySem.W.Frag) (n:Nat) (t:GZ):TG:=fun v σ H Q=>∃ a xs,v=.ref a∧tupQ K H a=some xs∧xs.length=n∧t xs σ H Q
theorem kc {k:Nat} {t:GZ} {n:Nat} (hc:X.calm=true) (h:Qa X es t) (hn:(assignEach es X.env).length=n:=by rfl) (G6:(assignEach es X.env).findIdx? (·.1)=none:=by rfl):JG X (.Tuple es k pos) (fL X.K n t):=
  ⟨fun pins s σ H v u Q I r ⟨a,xs,e,h1,h2,h3⟩=>QE hc h.h hn G6 pins s σ H v u Q I r ⟨a,xs,e,cD h1,h2,h3⟩⟩
end
theorem gS {c:Prop} [Decidable c] {a b:Prop} (h:c) (x:a):if c then a else b:=by rw [if_pos h];exact x
theorem aS {c:Prop} [Decidable c] {a b:Prop} (h:¬ c) (x:b):if c then a else b:=by rw [if_neg h];exact x
theorem vV {K:PySem.W.Frag} {a:Addr} {d:Option Addr} {its:Array Value} {k:Nat} {sl:Array (Option Value)} {xs:List V} (h:K.lookup a=some ⟨.type "tuple",d,.seq its k,sl⟩) (hz:its.size≤1000) (e:its.toList.mapM FG=some xs):lR K a=some xs:=by
  unfold lR
  rw [h]
  simp only [if_true]
  rw [if_pos (Ma hz)]
  exact e
end L2
namespace L2
open PySem PySem.Spec PyProof.Rows
theorem Js (xs:List V) (k:Nat):yh xs none (some (k:Int))=xs.take k:=by
  unfold yh
  rw [HT.FN,HT.Jk,List.drop_zero,Nat.sub_zero]
  by_cases h:k≤xs.length
  · rw [Nat.min_eq_left h]
  · rw [Nat.min_eq_right (by omega),List.take_of_length_le (Nat.le_refl _),List.take_of_length_le (by omega)]
theorem KZ (xs:List V) (k:Nat):yh xs (some (k:Int)) none=xs.drop k:=by
  unfold yh
  rw [HT.FN,HT.Jk]
  by_cases h:k≤xs.length
  · rw [Nat.min_eq_left h,List.take_of_length_le (by rw [List.length_drop];exact Nat.le_refl _)]
  · rw [Nat.min_eq_right (by omega),List.drop_of_length_le (Nat.le_refl _),List.drop_of_length_le (by omega)];simp
end L2
namespace L2
open PySem PySem.Spec PyProof.Rows
theorem Ext.at {K:PySem.W.Frag} {H H':Hp} {a:Addr} {o:HO} (x:Ext K H H') (h:H a=some o):H' a=some o:=x.same _ _ h
theorem Ext.rN {K:PySem.W.Frag} {H H':Hp} {a:Addr} {xs:List V} (x:Ext K H H') (h:rN K H a=some xs):rN K H' a=some xs:=by
  unfold L2.rN at h ⊢
  split at h
  · next e=>rw [x.same _ _ e];exact h
  · next e=>rw [x.same _ _ e];exact h
  · next e=>rw [x.same _ _ e];exact h
  · cases h
  · next e=>rw [x.mod a xs e h];exact h
end L2
namespace L2
open PySem PySem.Spec PyProof.Rows
structure Jt (K:PySem.W.Frag) (p q:Addr) (H H':Hp):Prop where
  keep:∀ r o,H r=some o→r≠p→r≠q→H' r=some o
  mod:∀ a xs,H a=none→lR K a=some xs→H' a=none
section
variable {K:PySem.W.Frag} {p q:Addr} {H H' H1 H2:Hp} {o o':HO}
theorem Kp.l (x:Kp K p H H'):Jt K p q H H':=⟨fun r o h n _=>x.keep r o h n,x.mod⟩
theorem Kp.r (x:Kp K q H H'):Jt K p q H H':=⟨fun r o h _ n=>x.keep r o h n,x.mod⟩
theorem Jt.trans (x:Jt K p q H H1) (y:Jt K p q H1 H2):Jt K p q H H2:=⟨fun r o h n m=>y.keep r o (x.keep r o h n m) n m,fun a xs h k=>y.mod a xs (x.mod a xs h k) k⟩
theorem Jt.ext (x:Jt K p q (L2.upd (L2.upd H p o) q o') H') (hp:L2.new K H p) (hq:L2.new K (L2.upd H p o) q):Ext K H H':=by
  have y:Ext K H (L2.upd (L2.upd H p o) q o'):=(Ext.new hp).trans (Ext.new hq)
  refine ⟨fun b u e=>?_,fun b ys e k=>x.mod b ys (y.mod b ys e k) k⟩
  have n:b≠p:=bJ e hp.1
  have m:b≠q:=bJ ((Ext.new hp).at e) hq.1
  exact x.keep b u (y.at e) n m
end
end L2
set_option Elab.async false
set_option linter.all false
set_option maxRecDepth 100000
namespace L2
open PySem PySem.Spec PyProof.Rows
def jf (env:Env):List (Str×NameKind)→List (Str×Addr)→List (Str×Addr)
  | [],cs=>cs
  | (n,k)::r,cs=>jf env r (if (k==NameKind.free)=true then (match env.cells.lookup n with | some a=>(n,a)::cs | none=>cs) else cs)
theorem oA {scope:Scope} {env:Env} (h:∀ x∈scope.names,x.2=.free→∃ c,env.cells.lookup x.1=some c):closureFor scope env=pure (jf env scope.names []):=by
  unfold closureFor
  generalize scope.names=names at h ⊢
  generalize ([]:List (Str×Addr))=cs
  induction names generalizing cs with
  | nil=>rfl
  | cons x r ih=>
    obtain ⟨n,k⟩:=x
    have ih':=fun cs=>ih (cs:=cs) fun x hx=>h x (List.mem_cons_of_mem _ hx)
    simp only [List.forIn_cons]
    cases hk:(k==NameKind.free) with
    | false=>
      simp only [jf,hk]
      exact ih' cs
    | true=>
      obtain ⟨c,hc⟩:=h (n,k) (List.mem_cons_self) (by simpa using hk)
      simp only [jf,hk,hc,cellOf]
      exact ih' _
theorem CW {env:Env}:∀ {names:List (Str×NameKind)} {cs:List (Str×Addr)} {n:Str} {c:Addr},(n,c)∈jf env names cs→(n,c)∈cs∨env.cells.lookup n=some c
  | [],cs,n,c,h=>.inl h
  | (m,k)::r,cs,n,c,h=>by
    rw [jf] at h
    rcases CW h with h | h
    · split at h
      · split at h
        · next a e=>
          rcases List.mem_cons.mp h with z | z
          · cases z;exact .inr e
          · exact .inl z
        · exact .inl h
      · exact .inl h
    · exact .inr h
theorem CY {env:Env}:∀ {names:List (Str×NameKind)} {cs:List (Str×Addr)} {p:Str×Addr},p∈cs→p∈jf env names cs
  | [],cs,p,h=>h
  | (m,k)::r,cs,p,h=>by
    rw [jf]
    refine CY ?_
    split
    · split
      · exact List.mem_cons_of_mem _ h
      · exact h
    · exact h
theorem CZ {env:Env}:∀ {names:List (Str×NameKind)} {cs:List (Str×Addr)} {n:Str} {c:Addr},(n,NameKind.free)∈names→env.cells.lookup n=some c→(n,c)∈jf env names cs
  | (m,k)::r,cs,n,c,h,e=>by
    rw [jf]
    rcases List.mem_cons.mp h with z | z
    · cases z
      rw [if_pos (by decide),e]
      exact CY List.mem_cons_self
    · exact CZ z e
theorem lookup_mem {α:Type}:∀ {l:List (Str×α)} {n:Str} {c:α},l.lookup n=some c→(n,c)∈l
  | (m,d)::r,n,c,h=>by
    rw [List.lookup_cons] at h
    cases e:n==m with
    | true=>
      rw [e] at h
      cases h
      rw [eq_of_beq e]
      exact List.mem_cons_self
    | false=>
      rw [e] at h
      exact List.mem_cons_of_mem _ (lookup_mem h)
theorem mem_lookup {α:Type}:∀ {l:List (Str×α)} {n:Str} {c:α},(n,c)∈l→∃ d,l.lookup n=some d
  | (m,d)::r,n,c,h=>by
    rw [List.lookup_cons]
    cases e:n==m with
    | true=>exact ⟨d,rfl⟩
    | false=>
      rcases List.mem_cons.mp h with z | z
      · cases z
        rw [beq_self_eq_true] at e;cases e
      · exact mem_lookup z
theorem dI {env:Env} {names:List (Str×NameKind)} {n:Str} {c:Addr} (h:(jf env names []).lookup n=some c):env.cells.lookup n=some c:=by
  rcases CW (lookup_mem h) with z | z
  · cases z
  · exact z
theorem vW {env:Env} {names:List (Str×NameKind)} {n:Str} {c:Addr} (h:(n,NameKind.free)∈names) (e:env.cells.lookup n=some c):(jf env names []).lookup n=some c:=by
  obtain ⟨d,hd⟩:=mem_lookup (CZ (cs:=[]) h e)
  rw [hd]
  exact (dI hd).symm.trans e ▸ rfl
theorem vX {env:Env}:∀ {names:List (Str×NameKind)} {x:Str},names.lookup x=some .free→
    (names.map fun (n,k)=>if (k==NameKind.free&&env.scope.kind==.function&&env.kindOf n==some .cell) then (n,NameKind.cell) else (n,k)).lookup x=some .cell∨
    (names.map fun (n,k)=>if (k==NameKind.free&&env.scope.kind==.function&&env.kindOf n==some .cell) then (n,NameKind.cell) else (n,k)).lookup x=some .free
  | [],_,h=>by simp at h
  | (n,k)::r,x,h=>by
    have ih:=@vX env r x
    show List.lookup x ((if (k==NameKind.free&&env.scope.kind==.function&&env.kindOf n==some .cell)=true then (n,NameKind.cell) else (n,k))::_)=_∨List.lookup x ((if (k==NameKind.free&&env.scope.kind==.function&&env.kindOf n==some .cell)=true then (n,NameKind.cell) else (n,k))::_)=_
    cases hx:x==n with
    | true=>
      simp only [List.lookup_cons,hx] at h
      cases h
      split
      · simp [List.lookup_cons,hx]
      · simp [List.lookup_cons,hx]
    | false=>
      simp only [List.lookup_cons,hx] at h
      split
      · simp only [List.lookup_cons,hx];exact ih h
      · simp only [List.lookup_cons,hx];exact ih h
theorem rO {env:Env}:∀ {names:List (Str×NameKind)} {x:Str} {kk:NameKind},(∀ y∈names,y.2≠.cell)→
    (names.map fun (n,k)=>if (k==NameKind.free&&env.scope.kind==.function&&env.kindOf n==some .cell) then (n,NameKind.cell) else (n,k)).lookup x=some kk→kk=.cell∨kk=.free→(x,NameKind.free)∈names
  | [],_,_,_,h,_=>by simp at h
  | (n,k)::r,x,kk,hc,h,hk=>by
    have ih:=@rO env r x kk fun y hy=>hc y (List.mem_cons_of_mem _ hy)
    change List.lookup x ((if (k==NameKind.free&&env.scope.kind==.function&&env.kindOf n==some .cell)=true then (n,NameKind.cell) else (n,k))::_)=_ at h
    cases hx:x==n with
    | true=>
      have e:=eq_of_beq hx
      subst e
      split at h
      · next q=>
        simp only [Bool.and_eq_true,beq_iff_eq] at q
        rw [q.1.1]
        exact List.mem_cons_self
      · simp only [List.lookup_cons,hx] at h
        cases h
        rcases hk with z | z
        · exact absurd z (hc _ List.mem_cons_self)
        · rw [z];exact List.mem_cons_self
    | false=>
      refine List.mem_cons_of_mem _ (ih ?_ hk)
      split at h
      · simp only [List.lookup_cons,hx] at h;exact h
      · simp only [List.lookup_cons,hx] at h;exact h
def Cx.comp (X:Cx) (N:List Str) (scope:Scope) (C:Addr) (s:Shared) (H:Hp) (fp:List Addr):Cx:=
  { X with N:=N,s₀:=s,H₀:=H,env:=compEnvC scope (jf X.env scope.names []) C X.env,outer:=X.stack,ex:=fp,fn:=fun _=>false,pn:=[],xe:=fun _ _=>False }
def pick (σ:St) (src:List (Option Nat)):St:=src.map fun o=>match o with | none=>none | some j=>(σ[j]?).join
def C0 (NX:List Str) (Xs sc:Scope) (N:List Str) (src:List (Option Nat)):Bool:=
  sc.names.all (fun x=>x.2 !=.cell)&&sc.names.all (fun x=>x.2 !=.local||sc.names.lookup x.1==some .local)&&
  sc.names.all (fun x=>x.2 !=.free||(Xs.names.lookup x.1==some .cell||Xs.names.lookup x.1==some .free))&&N.length==src.length&&
  (N.zip src).all (fun p=>match p.2 with | none=>true | some j=>NX[j]?==some p.1&&(Xs.names.lookup p.1==some .cell||Xs.names.lookup p.1==some .free)&&sc.names.lookup p.1==some .free)
structure vY (X:Cx) (sc:Scope) (N:List Str) (src:List (Option Nat)):Prop where
  kind:sc.kind=.function
  ok:C0 X.N X.env.scope sc N src=true
section
variable {X:Cx} {sc:Scope} {N:List Str} {src:List (Option Nat)}
theorem vY.cell (c:vY X sc N src):∀ y∈sc.names,y.2≠.cell:=fun y hy=>by
  have h:=c.ok
  simp only [C0,Bool.and_eq_true,List.all_eq_true] at h
  simpa using h.1.1.1.1 y hy
theorem vY.names (c:vY X sc N src):∀ y∈sc.names,y.2=.local→sc.names.lookup y.1=some .local:=fun y hy e=>by
  have h:=c.ok
  simp only [C0,Bool.and_eq_true,List.all_eq_true] at h
  have q:=h.1.1.1.2 y hy
  rw [e] at q
  simpa using q
theorem vY.free (c:vY X sc N src) {x:Str} (hx:(x,NameKind.free)∈sc.names):X.env.kindOf x=some .cell∨X.env.kindOf x=some .free:=by
  have h:=c.ok
  simp only [C0,Bool.and_eq_true,List.all_eq_true] at h
  have q:=h.1.1.2 _ hx
  simpa [Env.kindOf] using q
theorem vY.len (c:vY X sc N src):N.length=src.length:=by
  have h:=c.ok
  simp only [C0,Bool.and_eq_true,List.all_eq_true] at h
  simpa using h.1.2
theorem vY.at_ (c:vY X sc N src) {i j:Nat} {x:Str} (h1:N[i]?=some x) (h2:src[i]?=some (some j)):X.N[j]?=some x∧(X.env.kindOf x=some .cell∨X.env.kindOf x=some .free)∧sc.names.lookup x=some .free:=by
  have h:=c.ok
  simp only [C0,Bool.and_eq_true,List.all_eq_true] at h
  have m:(x,some j)∈N.zip src:=by
    refine List.mem_of_getElem? (i:=i) ?_
    rw [List.getElem?_zip_eq_some]
    exact ⟨h1,h2⟩
  have q:=h.2 _ m
  simp only [Bool.and_eq_true,Bool.or_eq_true,beq_iff_eq] at q
  exact ⟨q.1.1,q.1.2,q.2⟩
theorem C1 {σ:St} {i:Nat} {v:V} (h:(pick σ src)[i]?=some (some v)):∃ j,src[i]?=some (some j)∧σ[j]?=some (some v):=by
  unfold pick at h
  rw [List.getElem?_map] at h
  cases e:src[i]? with
  | none=>rw [e] at h;cases h
  | some o=>
    rw [e] at h
    cases o with
    | none=>simp at h
    | some j=>
      refine ⟨j,rfl,?_⟩
      simp only [Option.map_some,Option.some.injEq] at h
      cases e2:σ[j]? with
      | none=>rw [e2] at h;cases h
      | some w=>
        rw [e2] at h
        simp only [Option.join] at h
        exact congrArg some h
theorem Cx.Ok.comp {pins:List (Addr×Obj)} {σ:St} {H:Hp} {s:Shared} {fp:List Addr} {C:Addr} (I:Inv X pins σ H s) (c:vY X sc N src) (hf:∀ b∈fp,tZ X pins H b) (ho:∀ b∈fp,∃ o,s.heap.get? b=some o) (hC:s.heap.objs.size≤C):(X.comp N sc C s H fp).Ok where
  mod:=I.ok.mod
  kind:=c.kind
  glob:=I.ok.glob
  blt:=I.ok.blt
  above:=hC
  inj:=fun x y a h h'=>I.ok.inj x y a (dI h) (dI h')
  has:=fun x h=>by
    have m:(x,NameKind.free)∈sc.names:=by
      rcases h with h | h
      · exact rO c.cell h (.inl rfl)
      · exact rO c.cell h (.inr rfl)
    obtain ⟨a,ha⟩:=I.ok.has x (c.free m)
    exact ⟨a,vW m ha⟩
  Nz:=fun _ _ h=>nomatch h
  hd:=I.ok.hd
  frames:=I.ok.frames
  Qs:=.inl rfl
  TN:=fun b hb=>by
    obtain ⟨o,e⟩:=ho b hb
    exact ⟨Nat.ne_of_lt (Nat.lt_of_lt_of_le (Heap.lt_size e) hC),fun x a h=>(hf b hb).2.2.2.2.1 x a (dI h)⟩
  bs:=I.bs
  Jb:=Nat.le_trans I.ok.Jb I.sz
  FD:=fun b o e hb=>by
    rcases (hf b hb).2.2.2.1 with z | z
    · exact I.ok.FD b o e z
    · exact absurd (Nat.lt_of_lt_of_le (Heap.lt_size e) (Nat.le_trans I.ok.Jb z)) (Nat.lt_irrefl _)
  GX:=fun b hb z=>by
    rcases List.mem_cons.mp (I.uP b z) with q | q
    · exact (hf b hb).2.1 q
    · exact (hf b hb).2.2.1 q
  rD:=I.stack
  LG:=I.Jc
theorem Inv.block {pins:List (Addr×Obj)} {σ:St} {H:Hp} {s:Shared} {fp:List Addr} {C D:Addr} {h1:Heap} {t':Nat} (I:Inv X pins σ H s) (c:vY X sc N src) (hf:∀ b∈fp,tZ X pins H b) (ho:∀ b∈fp,∃ o,s.heap.get? b=some o)
    (hD:s.heap.objs.size≤D) (hC:s.heap.objs.size≤C) (Rf:D≠C) (k:∀ b u,s.heap.get? b=some u→h1.get? b=some u) (hn:h1.Ns C fun _=>none) (new:iY X.prog X.w (upd H D (.lst [])) h1 D (.lst [])):
    Inv (X.comp N sc C s H fp) [] (pick σ src) (upd H D (.lst [])) { s with heap:=h1,toks:=t' } where
  ok:=Cx.Ok.comp I c hf ho hC
  os:=rfl
  bare:=I.bare
  base:=Un.laid k hD (I.gm.fresh hD)
  loc:=by
    refine ⟨_,hn,fun i x v e1 e2 e3=>?_⟩
    obtain ⟨j,ej,es⟩:=C1 e2
    obtain ⟨n1,n2,n3⟩:=c.at_ e1 ej
    obtain ⟨m,_,hl⟩:=I.loc
    have vis:TM X.env.scope x:=n2.elim (fun z=>.inr (.inl z)) fun z=>.inr (.inr z)
    obtain ⟨u,r,q⟩:=hl j x v n1 es vis
    refine ⟨u,r,.inr ⟨vX n3,?_⟩⟩
    rcases q with ⟨z,_⟩ | ⟨_,a,ha,z⟩
    · rcases n2 with n2 | n2 <;> rw [n2] at z <;> cases z
    · obtain ⟨o,e,d⟩:=z
      exact ⟨a,vW (lookup_mem n3) ha,o,k _ _ e,d⟩
  cell:=fun x a e=>by
    obtain ⟨v,o,e,d⟩:=I.cell x a (dI e)
    exact ⟨v,o,k _ _ e,d⟩
  free:=by
    show upd H D (.lst []) C=none
    rw [bE Rf.symm]
    exact I.gm.fresh hC
  mU:=fun x a e=>by
    obtain ⟨v,o,e',d⟩:=I.cell x a (dI e)
    rw [bE (Nat.ne_of_lt (Nat.lt_of_lt_of_le (Heap.lt_size e') hD))]
    exact I.mU x a (dI e)
  pin:=fun p hp=>nomatch hp
  gm:=I.gm.laid k hD new
  len:=by
    show (pick σ src).length=N.length
    rw [c.len,pick,List.length_map]
theorem Inv.DP {pins:List (Addr×Obj)} {σ σ':St} {H H':Hp} {s s':Shared} {fp:List Addr} {C:Addr} {h':Heap} (I:Inv X pins σ H s) (hf:∀ b∈fp,tZ X pins H b) (hC:s.heap.objs.size≤C)
    (J:Inv (X.comp N sc C s H fp) [] σ' H' s') (hs:∀ b,b≠C→h'.get? b=s'.heap.get? b):Inv X pins σ H' { s' with heap:=h' }:=by
  have ne:∀ b o,s.heap.get? b=some o→b≠C:=fun b o e=>Nat.ne_of_lt (Nat.lt_of_lt_of_le (Heap.lt_size e) hC)
  have u:Un (CL X.stack) fp H H' s.heap s'.heap:=J.base
  have u':Un (CL X.stack) fp H H' s.heap h':=⟨fun b o e n a x=>(hs b (ne b o e)).trans (u.keep b o e n a x),fun b o e n a x=>by
      obtain ⟨sl,q⟩:=u.slot b o e n a x
      exact ⟨sl,(hs b (ne b o e)).trans q⟩,u.free,fun b o e x=>by
      obtain ⟨o',q⟩:=u.there b o e x
      exact ⟨o',(hs b (ne b o e)).trans q⟩,u.ya,u.vK,u.yb⟩
  refine I.TU (s':={ s' with heap:=h' }) J.os u' (fun b ob e=>?_) J.bare fun b hb=>⟨(hf b hb).2.2.2.1,(hf b hb).2.1,(hf b hb).2.2.2.2.1,(hf b hb).2.2.2.2.2⟩
  have fr:H' C=none:=J.free
  refine (J.gm b ob e).GW (fun a w' ha q=>(hs a ?_).trans q) (fun _ q=>q) fun _ _ q=>q
  rintro rfl
  rcases ha with rfl | ha
  · rw [fr] at e;cases e
  · rw [fr] at ha;cases ha
end
abbrev F0:Value→Shared→Prop:=fun _ _=>False
section
variable {prog:Program} {w:World} {A:Around} {R:Result→Shared→Prop} {s:Shared}
theorem DQ {elt target iter:Expr} {ifs:List Expr} {scope:Scope} {pos:Pos} {it acc:Value} {env:Env} (I:Nat→Shared→Prop)
    (turn:∀ n s,I n s→wpAny (model prog w) A (pyNext it) (fun r s₁=>match r with
      | none=>R (.ok .next) s₁
      | some v=>wpAny (model prog w) A (letOwnedTupleGo target it v) (fun _ s₁'=>wpAny (model prog w) A (assign target env v) (fun _ s₂=>
          wpAny (model prog w) A (forIn ifs true fun c r=>if r=true then do let ok ← isTrue c env (eval c env);pure (ForInStep.yield ok) else pure (ForInStep.yield r)) (fun ok s₃=>
            if ok=true then wpAny (model prog w) A (eval elt env) (fun x s₄=>
              wpAny (model prog w) A (call (.builtin "list.append") [acc,x]) (fun _ s₅=>∃ m,m < n∧I m s₅) F0 s₄) F0 s₃
            else ∃ m,m < n∧I m s₃) F0 s₂) F0 s₁') F0 s₁) F0 s)
    (n:Nat) (h:I n s):
    codeAny (model prog w) A (.compLoop (.ListComp elt [⟨target,iter,ifs,0⟩] scope pos) 0 it acc env) R s:=by
  refine codeAny_loop rfl I (fun n s hI=>?_) n h
  show wpAny _ A ((compTurn (.ListComp elt [⟨target,iter,ifs,0⟩] scope pos) 0 it acc env).onRaise (fun x=>do noteFrame x env;theTreesLotGoes x)) _ _ s
  refine wpAny_noted ?_
  rw [compTurn_list]
  refine wpAny_bind (wpAny_standAt (wpAny_bind (wpAny_mono (turn n s hI) (fun r s₁ h₁=>?_) fun _ _ h'=>h'.elim)))
  cases r with
  | none=>exact wpAny_pure h₁
  | some v=>
    refine wpAny_bind (wpAny_mono h₁ (fun _ s₁' h₁'=>?_) fun _ _ h'=>h'.elim)
    refine wpAny_bind (wpAny_mono h₁' (fun _ s₂ h₂=>wpAny_bind (wpAny_mono h₂ (fun ok s₃ h₃=>?_) fun _ _ h'=>h'.elim)) fun _ _ h'=>h'.elim)
    cases ok with
    | false=>exact wpAny_pure ⟨rfl,h₃⟩
    | true=>
      exact wpAny_bind (wpAny_bind (wpAny_mono h₃ (fun x s₄ h₄=>wpAny_bind (wpAny_mono h₄ (fun _ s₅ h₅=>wpAny_pure (wpAny_pure ⟨rfl,h₅⟩)) fun _ _ h'=>h'.elim)) fun _ _ h'=>h'.elim))
end
def PF (X:Cx) (ifs:List Expr) (t:TT):Prop:=
  ∀ (pins:List (Addr×Obj)) (s:Shared) (σ:St) (H:Hp) (Q:Bool→Hp→Prop),Inv X pins σ H s→t σ H Q→
    wpAny (model X.prog X.w) X.A (forIn ifs true fun c r=>if r=true then do let ok ← isTrue c X.env (eval c X.env);pure (ForInStep.yield ok) else pure (ForInStep.yield r)) (TP X pins σ Q) X.xe s
structure JF (X:Cx) (ifs:List Expr) (t:TT):Prop where h:PF X ifs t
def iU:TT:=fun _ H Q=>Q true H
theorem AJ {X:Cx}:JF X [] iU:=⟨fun _ _ _ H _ I h=>wpAny_tests_nil ⟨H,I,h⟩⟩
theorem Mm {X:Cx} {c:Expr} {t:TT} (h:JT X c t):JF X [c] t:=⟨fun pins s σ H Q I q=>wpAny_tests_one (h.h pins s σ H Q I q)⟩
def iy (J:It) (g:TG) (tt:TT) (te:TE) (D:Addr) (Q:Hp→Prop) (σ:St) (H:Hp):Prop:=∃ W:Nat→Nat→List V→St→Hp→Prop,(∃ m,W 0 m [] σ H)∧∀ i m acc σ H,W i m acc σ H→
  (J.stop i H∧Q H)∨(J.go i H∧∃ N:List V→St→Hp→Prop,(∀ acc' σ' H',N acc' σ' H'→∃ m',m' < m∧W (i + 1) m' acc' σ' H')∧∀ x H',J.P1 i H x H'→g x σ H' fun σ2 H2=>tt σ2 H2 fun b H3=>
    if b=true then te σ2 H3 fun v H4=>H4 D=some (.lst acc)∧acc.length < sizeLine∧N (acc++[v]) σ2 (upd H4 D (.lst (acc++[v])))
    else N acc σ2 H3)
def Rg (K:PySem.W.Frag) (wi:TI) (src:List (Option Nat)) (g:TG) (tt:TT) (te:TE):TE:=fun σ H Q=>wi σ H fun J H1=>∀ D,L2.new K H1 D→iy J g tt te D (fun H'=>Q (.ref D) H') (pick σ src) (upd H1 D (.lst []))
section
variable {X:Cx} {sc:Scope} {N:List Str} {src:List (Option Nat)} {tg iter elt:Expr} {ifs:List Expr} {wi:TI} {g:TG} {tt:TT} {te:TE} {pos:Pos}
theorem FT {R:Value→Addr→Result→Shared→Prop} {E:Value→Shared→Prop} (c:vY X sc N src) (hc:X.calm=true)
    (hg:∀ C s H fp,JG (X.comp N sc C s H fp) tg g) (ht:∀ C s H fp,JF (X.comp N sc C s H fp) ifs tt) (he:∀ C s H fp,JE (X.comp N sc C s H fp) elt te)
    {pins:List (Addr×Obj)} {σ:St} {H:Hp} {s:Shared} {it:Addr} {fp:List Addr} {tn:Nat→Heap→Prop} {J:It} {Q:V→Hp→Prop} (I:Inv X pins σ H s) (T:Turn X.prog X.w X.K tg J fp it tn) (st:tn 0 s.heap) (hf:∀ b∈fp,tZ X pins H b)
    (h:∀ D,L2.new X.K H D→iy J g tt te D (fun H'=>Q (.ref D) H') (pick σ src) (upd H D (.lst [])))
    (hR:∀ D C s' σ' H',s.heap.objs.size≤C→Inv (X.comp N sc C s H fp) [] σ' H' s'→Q (.ref D) H'→R (.ref D) C (.ok .next) s'):
    wpAny (model X.prog X.w) X.A (newList []) (fun acc s₃=>wpAny (model X.prog X.w) X.A (newFunctionEnv sc X.env.globals (jf X.env sc.names []) [] X.env.qual none .none (some X.env)) (fun cenv s₄=>
      codeAny (model X.prog X.w) X.A (.compStart (.ListComp elt [⟨tg,iter,ifs,0⟩] sc pos) 0 (.ref it) acc { cenv with scope:=relabel sc X.env }) (R acc cenv.locals) s₄) E s₃) E s:=by
  refine wpAny_newObj_type (wpAny_newFunctionEnv c.cell (by intro y hy;simp at hy) (fun h₁ hns₁ hsb₁=>?_) c.kind)
  dsimp only at hns₁ hsb₁ ⊢
  generalize hH2:s.heap.push { cls:=.type "list",dict:=none,data:=.seq ([]:List Value).toArray }=H2 at hns₁ hsb₁ ⊢
  have hC:H2.objs.size=s.heap.objs.size + 1:=by rw [← hH2,Heap.size_push]
  have Rf:s.heap.objs.size≠H2.objs.size:=by rw [hC];exact Nat.ne_of_lt (Nat.lt_succ_self _)
  have Mn:s.heap.objs.size≤H2.objs.size:=by rw [hC];exact Nat.le_succ _
  have below:∀ b,b < s.heap.objs.size→b≠H2.objs.size:=fun b hb=>by rw [hC];exact Nat.ne_of_lt (Nat.lt_succ_of_lt hb)
  have old:∀ b o,s.heap.get? b=some o→h₁.get? b=some o:=fun b o e=>hsb₁.extBut b o (below b (Heap.lt_size e)) (Heap.get?_push_of_some _ (hH2 ▸ Heap.get?_push_of_some _ e))
  have Rh:h₁.get? s.heap.objs.size=some { cls:=.type "list",dict:=none,data:=.seq ([]:List Value).toArray }:=hsb₁.extBut _ _ Rf (Heap.get?_push_of_some _ (hH2 ▸ Heap.get?_push_size _ rfl))
  have ho:∀ b∈fp,∃ o,s.heap.get? b=some o:=fun b hb=>let ⟨o,e,_⟩:=T.obj _ _ st b hb;⟨o,e⟩
  have I0:=I.block (t':=s.toks + ([]:List (Str×Value)).length) c hf ho (Nat.le_refl _) Mn Rf old hns₁ ⟨Nat.zero_le _,[],0,.nil,Rh⟩
  have Ut:tn 0 h₁:=T.keep _ _ _ st fun b hb o e=>old b o e
  obtain ⟨W,⟨m0,w0⟩,turn⟩:=h _ I.new
  have uR:∀ {H':Hp},(∀ b∈fp,H' b=none)→∀ b∈fp,tZ (X.comp N sc H2.objs.size s H fp) [] H' b:=fun hn b hb=>by
    obtain ⟨f0,f1,f2,f3,f4,f5⟩:=hf b hb
    obtain ⟨o,e⟩:=ho b hb
    refine ⟨hn b hb,below b (Heap.lt_size e),fun z=>?_,.inl hb,fun x a q=>f4 x a (dI q),fun p hp=>nomatch hp⟩
    rcases List.mem_cons.mp (I.uP b z) with q | q
    · exact f1 q
    · exact f2 q
  have fr0:∀ b∈fp,(upd H s.heap.objs.size (.lst [])) b=none:=fun b hb=>by
    obtain ⟨o,e⟩:=ho b hb
    rw [bE (Nat.ne_of_lt (Heap.lt_size e))]
    exact (hf b hb).1
  have loop:∀ s₃:Shared,s₃={ s with heap:=h₁,toks:=s.toks + ([]:List (Str×Value)).length }→
      codeAny (model X.prog X.w) X.A (.compLoop (.ListComp elt [⟨tg,iter,ifs,0⟩] sc pos) 0 (.ref it) (.ref s.heap.objs.size) (compEnvC sc (jf X.env sc.names []) H2.objs.size X.env)) (R (.ref s.heap.objs.size) H2.objs.size) s₃:=by
    rintro s₃ rfl
    refine DQ (fun n s'=>∃ i acc σ' H',Inv (X.comp N sc H2.objs.size s H fp) [] σ' H' s'∧tn i s'.heap∧(∀ b∈fp,H' b=none)∧W i n acc σ' H') ?_ m0 ⟨0,_,_,_,I0,Ut,fr0,w0⟩
    rintro n s3 ⟨i,acc,σ3,H3,I3,st3,fr3,w3⟩
    rcases turn i n acc σ3 H3 w3 with ⟨stop,qn⟩ | ⟨go,NN,hNN,step⟩
    · refine eo (T.done (X.comp N sc H2.objs.size s H fp) rfl rfl rfl hc i [] s3 σ3 H3 F0 I3 (uR fr3) st3 stop) fun r s4 ⟨hr,I4⟩=>?_
      subst hr
      exact hR _ _ _ _ _ Mn I4 qn
    · refine eo (T.item (X.comp N sc H2.objs.size s H fp) rfl rfl rfl hc i [] s3 σ3 H3 F0 I3 (uR fr3) st3 go) fun r s4 ⟨u,hr,h4⟩=>?_
      subst hr
      refine eo h4 fun _ s5 ⟨x,H5,I5,r5,y5,st5,fr5⟩=>?_
      have QK:=I5.pinned (uR fr5) (T.obj _ _ st5)
      refine eo ((hg _ _ _ _).h _ s5 σ3 H5 x u _ QK r5 (step x H5 y5)) fun _ s6 ⟨σ6,H6,I6,q6⟩=>?_
      refine eo ((ht _ _ _ _).h _ s6 σ6 H6 _ I6 q6) fun b s7 ⟨H7,I7,q7⟩=>?_
      have again:∀ {AK:List V} {s8:Shared} {H8:Hp},Inv (X.comp N sc H2.objs.size s H fp) ([]++rE fp s5.heap) σ6 H8 s8→NN AK σ6 H8→∃ m,m < n∧∃ i acc σ' H',Inv (X.comp N sc H2.objs.size s H fp) [] σ' H' s8∧tn i s8.heap∧(∀ b∈fp,H' b=none)∧W i m acc σ' H':=fun {AK s8 H8} I8 w=>by
        obtain ⟨m',hm,w8⟩:=hNN _ _ _ w
        refine ⟨m',hm,i + 1,AK,σ6,H8,I8.lB,T.keep _ _ _ st5 fun b hb o e=>(I8.pin (b,o) (List.mem_append_right _ (List.mem_append_right _ (iw hb e)))).1,fun b hb=>?_,w8⟩
        obtain ⟨o,e,d⟩:=T.obj _ _ st5 b hb
        exact (I8.pin (b,o) (List.mem_append_right _ (List.mem_append_right _ (iw hb e)))).2.1
      cases b with
      | false=>exact again I7 q7
      | true=>
        refine eo ((he _ _ _ _).h _ s7 σ6 H7 _ I7 q7) fun y s8 ⟨v,H8,I8,r8,q8⟩=>?_
        obtain ⟨hx,hz,w8⟩:=q8
        refine eo (kj (X:=X.comp N sc H2.objs.size s H fp) _ s8 σ6 H8 (.ref s.heap.objs.size) [v] (.ref s.heap.objs.size) [y] (fun _ H9=>H9=upd H8 s.heap.objs.size (.lst (acc++[v]))) I8 rfl (.cons r8 .nil) ⟨_,acc,v,rfl,rfl,hx,hz,rfl⟩) fun _ s9 ⟨_,H9,I9,_,q9⟩=>?_
        subst q9
        exact again I9 w8
  exact codeAny_compStart_list (loop _ rfl) (T.self _ 0 _ _ _ Ut (loop _ rfl))
theorem Ri (c:vY X sc N src) (hc:X.calm=true) (hi:JI X tg iter wi)
    (hg:∀ C s H fp,JG (X.comp N sc C s H fp) tg g) (ht:∀ C s H fp,JF (X.comp N sc C s H fp) ifs tt) (he:∀ C s H fp,JE (X.comp N sc C s H fp) elt te)
    (hs:∀ x,foldedSetIterable iter X.env x=pure x:=by intro _;rfl):JE X (.ListComp elt [⟨tg,iter,ifs,0⟩] sc pos) (Rg X.K wi src g tt te):=⟨by
  intro pins s σ H Q I h
  rw [eval_ListComp]
  refine wpAny_comprehension_free (use:=none) rfl hs (oA fun x hx hk=>?_) c.kind c.names ?_
  · obtain ⟨n,k⟩:=x
    cases hk
    exact I.ok.has _ (c.free hx)
  refine eo (hi.h pins s σ H _ I h) fun v s1 h1=>eo h1 fun To s2 h2=>?_
  obtain ⟨it,fp,tn,J,H2,e,I2,T,st2,f2,h2⟩:=h2
  subst e
  refine FT (R:=fun acc C=>compPost (model X.prog X.w) X.A X.xe none (EP X pins σ Q) acc C) (Q:=Q) c hc hg ht he I2 T st2 f2 h2 fun D C s' σ' H' hC I' q=>?_
  obtain ⟨m,hn,_⟩:=id I'.loc
  refine ⟨m,hn,fun h' sb=>?_⟩
  exact ⟨.ref D,H',I2.DP f2 hC I' fun b hb=>sb.2 b hb,rfl,q⟩⟩
theorem slc {i:Nat} {y:Str} {py Mp:Pos} (hN:X.N.Nodup) (hy:X.N[i]?=some y) (hx:Loc X.env.scope y) (c:vY X sc N src) (hc:X.calm=true) (hi:JI X tg iter wi)
    (hg:∀ C s H fp,JG (X.comp N sc C s H fp) tg g) (ht:∀ C s H fp,JF (X.comp N sc C s H fp) ifs tt) (he:∀ C s H fp,JE (X.comp N sc C s H fp) elt te)
    (hsw:swapsWith (.ListComp elt [⟨tg,iter,ifs,0⟩] sc pos) (some (.Name y py)) Mp.line X.env=pure true:=by rfl)
    (hf:X.fn y=true∨X.env.scope.names.lookup y=some .local:=by first | exact .inl rfl | exact .inr rfl | assumption)
    (hs:∀ x,foldedSetIterable iter X.env x=pure x:=by intro _;rfl):JS X (.Assign [.Name y py] (.ListComp elt [⟨tg,iter,ifs,0⟩] sc pos) Mp) (iZ (Rg X.K wi src g tt te) (cY i)):=⟨by
  intro pins s σ H D I h
  rw [exec_Assign_Name_used _ _ _ _ hsw]
  refine wpAny_bind (wpAny_standAt (wpAny_bind ?_))
  show wpAny _ X.A (do let _ ← comprehension (.ListComp elt [⟨tg,iter,ifs,0⟩] sc pos) sc X.env _ (newList []) false (eval iter X.env) (some (assign (.Name y py) X.env))) _ _ s
  refine wpAny_bind (wpAny_mono (wpAny_comprehension_free (use:=some (assign (.Name y py) X.env)) (Q:=fun _ s'=>SP X pins D .next s') rfl hs (oA fun x hx hk=>?_) c.kind c.names ?_) (fun _ s' hq=>wpAny_pure (wpAny_pure hq)) fun _ _ e=>e)
  · obtain ⟨n,k⟩:=x
    cases hk
    exact I.ok.has _ (c.free hx)
  refine eo (hi.h pins s σ H _ I h) fun v s1 h1=>eo h1 fun To s2 h2=>?_
  obtain ⟨it,fp,tn,J,H2,e,I2,T,st2,f2,h2⟩:=h2
  subst e
  refine FT (R:=fun acc C=>compPost (model X.prog X.w) X.A X.xe (some (assign (.Name y py) X.env)) (fun _ s'=>SP X pins D .next s') acc C) (Q:=fun v H'=>D.nx (σ.set i (some v)) H') c hc hg ht he I2 T st2 f2 h2 fun L C s' σ' H' hC I' q=>?_
  obtain ⟨m,hn,_⟩:=id I'.loc
  obtain ⟨o,es,ep,ho,r⟩:=id hn
  have I3:Inv X pins σ H' s':=I2.DP (h':=s'.heap) f2 hC I' fun _ _=>rfl
  have cL:C≠X.env.locals:=Nat.ne_of_gt (Nat.lt_of_lt_of_le I2.lt hC)
  have cC:∀ x a,X.env.cells.lookup x=some a→a≠C:=fun x a e=>by
    obtain ⟨v,o,e',_⟩:=I2.cell x a e
    exact Nat.ne_of_lt (Nat.lt_of_lt_of_le (Heap.lt_size e') hC)
  have cP:∀ p∈X.pn++pins,p.1≠C:=fun p hp=>Nat.ne_of_lt (Nat.lt_of_lt_of_le (Heap.lt_size (I2.pin p hp).1) hC)
  have fr:H' C=none:=I'.free
  have I4:Inv X (pins++[(C,o)]) σ H' s':=I3.z9 fun p hp=>(List.mem_append.mp hp).elim (fun z=>I3.pin p (List.mem_append_right _ z)) fun z=>by
    have e:p=(C,o):=by simpa using z
    subst e
    exact ⟨ho,fr,cL,I2.Qt hC,fun v z=>by
      have r1:=r
      simp_all⟩
  show wpAny (model X.prog X.w) X.A (assign (.Name y py) X.env (.ref L)) _ _ s'
  refine eo (Dv (pos:=py) hN hy hx hf _ s' σ H' (.ref L) (.ref L) (fun σ1 H1=>D.nx σ1 H1∧H1=H') I4 rfl ⟨q,rfl⟩) fun _ s5 ⟨σ5,H5,I5,q5,e5⟩=>?_
  subst e5
  have pC:=(I5.pin (C,o) (List.mem_append_right _ (List.mem_append_right _ (by simp)))).1
  refine ⟨m,⟨o,es,ep,pC,r⟩,fun h' sb=>?_⟩
  exact ⟨σ5,H5,I5.lB.turned (t':=s5.toks) (fun b u hb e=>(sb.2 b hb).trans e) fr cL (.inr (Nat.le_trans I2.sz hC)) cC cP,q5⟩⟩
end
end L2
namespace L2
open PySem PySem.Spec PyProof.Rows
theorem bW {σ:St}:pick σ []=[]:=rfl
theorem bX {σ:St} {r:List (Option Nat)}:pick σ (none::r)=none::pick σ r:=rfl
theorem bY {σ:St} {j:Nat} {r:List (Option Nat)}:pick σ (some j::r)=(σ[j]?).join::pick σ r:=rfl
theorem join_some {α:Type} {o:Option α}:(some o).join=o:=rfl
section
variable {K:PySem.W.Frag} {g:TG} {tt:TT} {te:TE} {D a:Addr} {Q:Hp→Prop} {σ:St} {H:Hp} {xs:List V} {lo:Int} {n:Nat}
theorem DR {J:It} (Pv:Nat→List V→St→Hp→Prop) (h0:Pv 0 [] σ H) (hgo:∀ i acc σ H,i < n→Pv i acc σ H→J.go i H) (G6:∀ acc σ H,Pv n acc σ H→J.stop n H)
    (hs:∀ i acc σ H x H',i < n→Pv i acc σ H→J.P1 i H x H'→g x σ H' fun σ2 H2=>tt σ2 H2 fun b H3=>if b=true then te σ2 H3 fun v H4=>H4 D=some (.lst acc)∧acc.length < sizeLine∧Pv (i + 1) (acc++[v]) σ2 (upd H4 D (.lst (acc++[v]))) else Pv (i + 1) acc σ2 H3)
    (hd:∀ acc σ H,Pv n acc σ H→Q H):iy J g tt te D Q σ H:=by
  refine ⟨fun i m acc σ H=>Pv i acc σ H∧i≤n∧m=n - i,⟨n,h0,Nat.zero_le _,by omega⟩,fun i m acc σ H ⟨h,hi,hm⟩=>?_⟩
  by_cases c:i < n
  · right
    exact ⟨hgo i acc σ H c h,Pv (i + 1),fun acc' σ' H' q=>⟨n - (i + 1),by omega,q,by omega,rfl⟩,fun x H' hy=>hs i acc σ H x H' c h hy⟩
  · left
    have e:i=n:=by omega
    subst e
    exact ⟨G6 acc σ H h,hd acc σ H h⟩
theorem Mq (Pv:Nat→List V→St→Hp→Prop) (h0:Pv 0 [] σ H)
    (hs:∀ i acc σ H,i < n→Pv i acc σ H→g (.int (lo + i)) σ H fun σ2 H2=>tt σ2 H2 fun b H3=>if b=true then te σ2 H3 fun v H4=>H4 D=some (.lst acc)∧acc.length < sizeLine∧Pv (i + 1) (acc++[v]) σ2 (upd H4 D (.lst (acc++[v]))) else Pv (i + 1) acc σ2 H3)
    (hd:∀ acc σ H,Pv n acc σ H→Q H):iy (NL lo n) g tt te D Q σ H:=by
  refine DR (n:=n) Pv h0 (fun i _ _ _ h _=>h) (fun _ _ _ _=>Nat.le_refl _) (fun i acc σ H x H' hi h hy=>?_) hd
  obtain ⟨rfl,rfl⟩:=hy
  exact hs i acc σ _ hi h
theorem vZ (Pv:Nat→List V→St→Hp→Prop) (h0:Pv 0 [] σ H) (hl:∀ i acc σ H,i≤xs.length→Pv i acc σ H→fE K H a xs)
    (hs:∀ i x acc σ H,xs[i]?=some x→Pv i acc σ H→g x σ H fun σ2 H2=>tt σ2 H2 fun b H3=>if b=true then te σ2 H3 fun v H4=>H4 D=some (.lst acc)∧acc.length < sizeLine∧Pv (i + 1) (acc++[v]) σ2 (upd H4 D (.lst (acc++[v]))) else Pv (i + 1) acc σ2 H3)
    (hd:∀ acc σ H,Pv xs.length acc σ H→Q H):iy (GU K a) g tt te D Q σ H:=by
  refine DR (n:=xs.length) Pv h0 (fun i acc σ H hi h=>⟨xs,_,hl i acc σ H (Nat.le_of_lt hi) h,List.getElem?_eq_getElem hi⟩) (fun acc σ H h=>⟨xs,hl _ acc σ H (Nat.le_refl _) h,Nat.le_refl _⟩) (fun i acc σ H x H' hi h hy=>?_) hd
  obtain ⟨rfl,hy⟩:=hy
  exact hs i x acc σ _ (hy xs (hl i acc σ _ (Nat.le_of_lt hi) h)) h
theorem Rj (Pv:Nat→List V→St→Hp→Prop) (h0:Pv 0 [] σ H) (hl:∀ i acc σ H,i≤xs.length→Pv i acc σ H→uQ K H a xs)
    (hs:∀ i x acc σ H,xs[i]?=some x→Pv i acc σ H→g x σ H fun σ2 H2=>tt σ2 H2 fun b H3=>if b=true then te σ2 H3 fun v H4=>H4 D=some (.lst acc)∧acc.length < sizeLine∧Pv (i + 1) (acc++[v]) σ2 (upd H4 D (.lst (acc++[v]))) else Pv (i + 1) acc σ2 H3)
    (hd:∀ acc σ H,Pv xs.length acc σ H→Q H):iy (P4 K a) g tt te D Q σ H:=by
  refine DR (n:=xs.length) Pv h0 (fun i acc σ H hi h=>⟨xs,_,hl i acc σ H (Nat.le_of_lt hi) h,List.getElem?_eq_getElem hi⟩) (fun acc σ H h=>⟨xs,hl _ acc σ H (Nat.le_refl _) h,Nat.le_refl _⟩) (fun i acc σ H x H' hi h hy=>?_) hd
  obtain ⟨rfl,hy⟩:=hy
  exact hs i x acc σ _ (hy xs (hl i acc σ _ (Nat.le_of_lt hi) h)) h
theorem bZ {ta:TA} {src:List (Option Nat)} {Q:VK}:Rg K (Je ta) src g tt te σ H Q=ta σ H (fun vs H1=>∃ j:Int,vs=[.int j]∧-(2 ^ 62)≤j∧j < 2 ^ 62∧∀ D,L2.new K H1 D→iy (NL 0 j.toNat) g tt te D (fun H'=>Q (.ref D) H') (pick σ src) (upd H1 D (.lst []))):=rfl
theorem cg {ta:TA} {src:List (Option Nat)} {Q:VK}:Rg K (P5 ta) src g tt te σ H Q=ta σ H (fun vs H1=>∃ i j:Int,vs=[.int i,.int j]∧(-(2 ^ 62)≤i∧i < 2 ^ 62∧-(2 ^ 62)≤j∧j < 2 ^ 62)∧∀ D,L2.new K H1 D→iy (NL i (j - i).toNat) g tt te D (fun H'=>Q (.ref D) H') (pick σ src) (upd H1 D (.lst []))):=rfl
theorem cu {tl:TE} {src:List (Option Nat)} {Q:VK}:Rg K (CM K tl) src g tt te σ H Q=tl σ H (fun x H1=>∃ a,x=.ref a∧(∃ xs,fE K H1 a xs)∧∀ D,L2.new K H1 D→iy (GU K a) g tt te D (fun H'=>Q (.ref D) H') (pick σ src) (upd H1 D (.lst []))):=rfl
theorem cR {tl:TE} {src:List (Option Nat)} {Q:VK}:Rg K (Kv K tl) src g tt te σ H Q=tl σ H (fun x H1=>∃ a,x=.ref a∧(∃ xs,uQ K H1 a xs)∧∀ D,L2.new K H1 D→iy (P4 K a) g tt te D (fun H'=>Q (.ref D) H') (pick σ src) (upd H1 D (.lst []))):=rfl
end
end L2
namespace L2
open PySem PySem.Spec PyProof.Rows
section
variable {X:Cx} {es:List Expr} {t:TA} {pos:Pos} (K:PySem.W.Frag)
theorem Mr (hk:X.K=K:=by rfl):L0 X (j6 K):=by subst hk;exact ez
theorem Hy {k} (h:JA X es t) (hk:X.K=K:=by rfl):JE X (.Tuple es k pos) (fK K t):=by subst hk;exact bU h
theorem Ms {k:Nat} {t:GZ} {n:Nat} (hc:X.calm=true) (h:Qa X es t) (hn:(assignEach es X.env).length=n:=by rfl) (G6:(assignEach es X.env).findIdx? (·.1)=none:=by rfl) (hk:X.K=K:=by rfl):JG X (.Tuple es k pos) (fL K n t):=by subst hk;exact kc hc h hn G6
theorem Uu {tg l:Expr} {te:TE} (hl:JE X l te) (hk:X.K=K:=by rfl):JI X tg l (Kv K te):=by subst hk;exact Uq hl
end
end L2
namespace L2
open PySem PySem.Spec PyProof.Rows
section
variable {X:Cx} {pins:List (Addr×Obj)} {σ:St} {H:Hp} {s:Shared}
theorem Inv.vc (I:Inv X pins σ H s) {a:Addr} {o:HO} (h:H a=some o):lR X.K a=none:=by
  cases e:lR X.K a with
  | none=>rfl
  | some xs=>
    obtain ⟨ob,q⟩:=CV e
    rw [(I.bs a ob (I.ok.mod.LF a ob q)).2] at h
    cases h
end
theorem Jt.kp {K:PySem.W.Frag} {p D:Addr} {H H':Hp} {o:HO} (k:Jt K p D (upd H D o) H') (n:L2.new K H D):Kp K p H H':=by
  refine ⟨fun q u e m=>?_,fun b ys e m=>k.mod b ys ((Ext.new n).mod b ys e m) m⟩
  have d:q≠D:=bJ e n.1
  exact k.keep q u (by rw [bE d];exact e) m d
theorem Jt.refl {K:PySem.W.Frag} {p D:Addr} {H:Hp}:Jt K p D H H:=⟨fun _ _ h _ _=>h,fun _ _ h _=>h⟩
end L2
set_option Elab.async false
set_option linter.all false
set_option maxRecDepth 100000
namespace L2
open PySem PySem.Spec PyProof.Rows
def rP (es:Array DictEntry):Bool:=es.toList.all fun e=>match e.key with | .str _ _=>true | _=>false
theorem Hz {es:Array DictEntry} (h:rP es=true):StrKeys es:=fun e he=>by
  have q:=List.all_eq_true.mp h e (by simpa using he)
  cases k:e.key <;> rw [k] at q <;> first | exact ⟨_,_,rfl⟩ | cases q
theorem Mt {K:PySem.W.Frag} {s:Shared} {fd:FuncData} {args:Args} {binds:List (Str×Value)} {d:Addr} {name:Str} {v cls:Value} {es:Array DictEntry} {ep:Nat} {od:Option Addr} {sl:Array (Option Value)} {k:Option Value→Sem (List (Str×Value))}
    (hK:K.In s.heap) (l:K.lookup d=some ⟨cls,od,.dict es ep,sl⟩) (hs:rP es=true) (hf:nsFind es name=some v) (h₁:bindArgs fd args=nsGet d name >>=k) (h₂:k (some v)=pure binds):BindsTo s fd args binds:=
  fun M A E Q hq=>by
    rw [h₁]
    have hn:s.heap.Ns d (fun n=>nsFind es n):=⟨_,es,ep,hK d _ l,rfl,Hz hs,fun _=>rfl⟩
    refine wpAny_bind (wpAny_nsGet hn ?_)
    rw [hf,h₂]
    exact wpAny_pure hq
def gk {α:Type} (n m:Nat) (us ws:List α):List α:=if us.length=n∧ws.length=m then us++ws else []
theorem Rk {n m:Nat} {vs:List V} {us:List Value} {zs:List V} {ws:List Value} (r:Vals vs us) (r':Vals zs ws):Vals (gk n m vs zs) (gk n m us ws):=by
  unfold gk
  rw [r.length,r'.length]
  split
  · exact r.append r'
  · exact .nil
theorem gw {α:Type} {a b:α}:gk 1 1 [a] [b]=[a,b]:=rfl
theorem gx {α:Type} {a b c d:α}:gk 3 1 [a,b,c] [d]=[a,b,c,d]:=rfl
theorem Rl {K:PySem.W.Frag} {fd:FuncData} {ps ks:List Str} {n m:Nat} (hn:ps.length=n + m) (hp:0 < n + m) (h:∀ (s:Shared) (us ws:List Value),us.length=n→ws.length=m→BindsTo s fd ⟨us,ks.zip ws⟩ (ps.zip (us++ws))):uW K fd ps ks (gk n m) (gk n m) where
  to:=fun s us ws _ hl=>by
    unfold gk at hl ⊢
    split
    · next c=>exact h s us ws c.1 c.2
    · next c=>rw [if_neg c] at hl;simp only [List.length_nil] at hl;omega
  rel:=Rk
structure JK (X:Cx) (p5:List Keyword) (t:TA):Prop where h:PK X p5 t
structure DS (P:Program) (w:World) (K:PySem.W.Frag) (mg:Str→Option Value) (base:Heap) (x:Str) (k:Nat) (ps:List Str) (ks:List Str) (n m:Nat) (sp:Sp):Prop where
  ex:∃ (f:Addr) (fd:FuncData),aL P w K mg base dF k f fd ps sp∧uW K fd ps ks (gk n m) (gk n m)∧PySem.W.keepIn K (.ref f)=true∧mg x=some (.ref f)
structure Oj (P:Program) (w:World) (K:PySem.W.Frag) (mg:Str→Option Value) (base:Heap) (x:Str) (k:Nat) (ps:List Str) (jz:List V) (sp:Sp):Prop where
  ex:∃ (f:Addr) (fd:FuncData) (ds:List Value),aL P w K mg base dF k f fd ps sp∧Binds K fd ps ds∧Vals jz ds∧PySem.W.keepIn K (.ref f)=true∧mg x=some (.ref f)
section
variable {X:Cx} {x:Str} {k n m:Nat} {ps ks:List Str} {jz:List V} {sp:Sp} {e:Expr} {es:List Expr} {p5:List Keyword} {t tk:TA} {te:TE} {p pos QW:Pos} {nm:Option Str}
theorem lS:JK X [] iG:=⟨QX⟩
theorem cH (ha:JE X e te) (hr:JK X p5 t):JK X (⟨nm,e,QW⟩::p5) (eX te t):=⟨NY ha.h hr.h⟩
theorem Rm (C:DS X.prog X.w X.K X.mg X.base x k ps ks n m sp) (hr:dU k X.A) (hg:Gl X x) (ha:JA X (e::es) t) (NZ:JK X p5 tk) (AA:(backToKw pos (keywordEach p5 X.env)).all (·.1.isSome)=true:=by rfl) (N1:(backToKw pos (keywordEach p5 X.env)).filterMap (·.1)=ks:=by rfl)
    (zc:(x==("__debug__":Str))=false:=by decide) (he:starEach (e::es) X.env=(false,eval e X.env)::starEach es X.env:=by rfl)
    (vI:((backTo pos (starEach (e::es) X.env)).any (·.1)||(backToKw pos (keywordEach p5 X.env)).any (·.1.isNone))=false:=by rfl):
    JE X (.Call (.Name x p) (e::es) p5 pos) (DB sp (gk n m) E0 t tk):=⟨by
  intro pins s σ H Q I h
  obtain ⟨f,fd,F,b,kp,mm⟩:=C.ex
  exact LX F hr hg mm kp b rK ha.h NZ.h AA N1 zc he vI pins s σ H Q I h⟩
theorem cS {gV:List V→List V→List V} {E:XK} {σ:St} {H:Hp} {Q:VK}:DB sp gV E t tk σ H Q=t σ H (fun vs H1=>tk σ H1 fun zs H2=>Cal sp (gV vs zs) H2 Q ⟨0⟩ E):=rfl
end
end L2
namespace L2
open PySem PySem.Spec PyProof.Rows
theorem K0 {α:Type} {xs:List α} (h:xs.length - 1 < xs.length):DG xs (-1)=some xs[xs.length - 1]:=by
  unfold DG Jl
  rw [if_neg (by decide),if_pos (by omega)]
  have e:((-1:Int) + (xs.length:Int)).toNat=xs.length - 1:=by omega
  rw [e]
  exact List.getElem?_eq_getElem h
end L2
namespace L2
open PySem PySem.Spec PyProof.Rows
section
variable {K:PySem.W.Frag} {s:Shared} {fd:FuncData} {args:Args} {binds:List (Str×Value)} {d:Addr} {name:Str} {v cls:Value} {es:Array DictEntry} {ep:Nat} {od:Option Addr} {sl:Array (Option Value)} {α β:Type}
theorem K1 {f:Option Value→Sem α} {g:α→Sem (List (Str×Value))}
    (hK:K.In s.heap) (l:K.lookup d=some ⟨cls,od,.dict es ep,sl⟩) (hs:rP es=true) (hf:nsFind es name=some v) (h₁:bindArgs fd args=(nsGet d name >>=f) >>=g) (h₂:(f (some v) >>=g)=pure binds):BindsTo s fd args binds:=
  Mt (k:=fun x=>f x >>=g) hK l hs hf (by rw [h₁,bind_assoc]) h₂
theorem K2 {f:Option Value→Sem α} {g:α→Sem β} {k:β→Sem (List (Str×Value))}
    (hK:K.In s.heap) (l:K.lookup d=some ⟨cls,od,.dict es ep,sl⟩) (hs:rP es=true) (hf:nsFind es name=some v) (h₁:bindArgs fd args=((nsGet d name >>=f) >>=g) >>=k) (h₂:((f (some v) >>=g) >>=k)=pure binds):BindsTo s fd args binds:=
  K1 (f:=f) (g:=fun x=>g x >>=k) hK l hs hf (by rw [h₁,bind_assoc]) (by rw [← h₂,bind_assoc])
end
end L2
set_option Elab.async false
set_option linter.all false
set_option maxRecDepth 100000
namespace L2
open PySem PySem.Spec PyProof.Rows
section
variable {X:Cx} {o lo hi e:Expr} {to tl th te:TE} {p pos:Pos}
def ef (to tl th:TE):TG:=fun v σ H Q=>to σ H fun x H1=>tl σ H1 fun i H2=>th σ H2 fun j H3=>∃ l b xs ys a c,x=.ref l∧v=.ref b∧i=.int a∧j=.int c∧H3 l=some (.lst xs)∧H3 b=some (.lst ys)∧l≠b∧0≤a∧a≤c∧c≤xs.length∧xs.length + ys.length≤sizeLine∧
  Q σ (upd H3 l (.lst (xs.take a.toNat++ys++xs.drop c.toNat)))
end
end L2
namespace L2
open PySem PySem.Spec PyProof.Rows
section
variable {X:Cx}
def gy (K:PySem.W.Frag):V→Option Int→Option Int→Hp→VK→Prop:=fun x lo hi H Q=>∃ a xs,x=.ref a∧tupQ K H a=some xs∧
  ¬ (HT.DE xs.length 0 lo=0∧HT.DE xs.length xs.length hi=xs.length)∧∀ p,L2.new K H p→Q (.ref p) (upd H p (.tup (yh xs lo hi)))
end
end L2
set_option Elab.async false
set_option linter.all false
set_option maxRecDepth 100000
namespace L2
open PySem PySem.Spec PyProof.Rows
abbrev Xu:=List V→St→Hp→(List V→St→Hp→Prop)→Prop
def kW (J:It) (g:TG) (tt:TT) (body:Xu) (B9:List V) (F:List V→St→Hp→Prop) (σ:St) (H:Hp):Prop:=∃ W:Nat→Nat→List V→St→Hp→Prop,(∃ m,W 0 m B9 σ H)∧∀ i m acc σ H,W i m acc σ H→
  (J.stop i H∧F acc σ H)∨(J.go i H∧∃ N:List V→St→Hp→Prop,(∀ acc' σ' H',N acc' σ' H'→∃ m',m' < m∧W (i + 1) m' acc' σ' H')∧∀ x H',J.P1 i H x H'→g x σ H' fun σ2 H2=>tt σ2 H2 fun b H3=>
    if b=true then body acc σ2 H3 N else N acc σ2 H3)
def FU (te:TE) (D:Addr):Xu:=fun acc σ H N=>te σ H fun v H4=>H4 D=some (.lst acc)∧acc.length < sizeLine∧N (acc++[v]) σ (upd H4 D (.lst (acc++[v])))
def FW (wi:TI) (g:TG) (tt:TT) (te:TE) (D:Addr):Xu:=fun acc σ H N=>wi σ H fun J H1=>kW J g tt (FU te D) acc N σ H1
def Uv (K:PySem.W.Frag) (wi:TI) (src:List (Option Nat)) (g:TG) (tt:TT) (Ol:TI) (g1:TG) (Om:TT) (te:TE):TE:=fun σ H Q=>wi σ H fun J H1=>∀ D,L2.new K H1 D→kW J g tt (FW Ol g1 Om te D) [] (fun _ _ H'=>Q (.ref D) H') (pick σ src) (upd H1 D (.lst []))
section
variable {elt tg iter t6 eB:Expr} {ifs j8:List Expr} {scope:Scope} {pos:Pos} {it acc:Value} {env:Env}
theorem HH:compTurn (.ListComp elt [⟨tg,iter,ifs,0⟩,⟨t6,eB,j8,0⟩] scope pos) 0 it acc env=(do
      standAt iter.pos
      match ← pyNext it with
      | none=>pure (.done .next)
      | some v=>
        letOwnedTupleGo tg it v
        assign tg env v
        let mut ok:=true
        for c in ifs do
          if ok then ok ← isTrue c env (eval c env)
        if ok then
          let x ← eval eB env
          standAt eB.pos
          let x ← foldedSetIterable eB env x
          let _ ← runOwn (.compStart (.ListComp elt [⟨tg,iter,ifs,0⟩,⟨t6,eB,j8,0⟩] scope pos) 1 (← holding [x] (pyIter x)) acc env) env
        again (.compLoop (.ListComp elt [⟨tg,iter,ifs,0⟩,⟨t6,eB,j8,0⟩] scope pos) 0 it acc env)):=by rfl
theorem HJ:compTurn (.ListComp elt [⟨tg,iter,ifs,0⟩,⟨t6,eB,j8,0⟩] scope pos) 1 it acc env=(do
      standAt eB.pos
      match ← pyNext it with
      | none=>pure (.done .next)
      | some v=>
        letOwnedTupleGo t6 it v
        assign t6 env v
        let mut ok:=true
        for c in j8 do
          if ok then ok ← isTrue c env (eval c env)
        if ok then
          (do let _ ← call (.builtin "list.append") [acc,← eval elt env])
        again (.compLoop (.ListComp elt [⟨tg,iter,ifs,0⟩,⟨t6,eB,j8,0⟩] scope pos) 1 it acc env)):=by rfl
variable {prog:Program} {w:World} {A:Around} {R:Result→Shared→Prop} {s:Shared}
theorem HK (I:Nat→Shared→Prop)
    (turn:∀ n s,I n s→wpAny (model prog w) A (pyNext it) (fun r s₁=>match r with
      | none=>R (.ok .next) s₁
      | some v=>wpAny (model prog w) A (letOwnedTupleGo t6 it v) (fun _ s₁'=>wpAny (model prog w) A (assign t6 env v) (fun _ s₂=>
          wpAny (model prog w) A (forIn j8 true fun c r=>if r=true then do let ok ← isTrue c env (eval c env);pure (ForInStep.yield ok) else pure (ForInStep.yield r)) (fun ok s₃=>
            if ok=true then wpAny (model prog w) A (eval elt env) (fun x s₄=>
              wpAny (model prog w) A (call (.builtin "list.append") [acc,x]) (fun _ s₅=>∃ m,m < n∧I m s₅) F0 s₄) F0 s₃
            else ∃ m,m < n∧I m s₃) F0 s₂) F0 s₁') F0 s₁) F0 s)
    (n:Nat) (h:I n s):
    codeAny (model prog w) A (.compLoop (.ListComp elt [⟨tg,iter,ifs,0⟩,⟨t6,eB,j8,0⟩] scope pos) 1 it acc env) R s:=by
  refine codeAny_loop rfl I (fun n s hI=>?_) n h
  show wpAny _ A ((compTurn (.ListComp elt [⟨tg,iter,ifs,0⟩,⟨t6,eB,j8,0⟩] scope pos) 1 it acc env).onRaise (fun x=>do noteFrame x env;theTreesLotGoes x)) _ _ s
  refine wpAny_noted ?_
  rw [HJ]
  refine wpAny_bind (wpAny_standAt (wpAny_bind (wpAny_mono (turn n s hI) (fun r s₁ h₁=>?_) fun _ _ h'=>h'.elim)))
  cases r with
  | none=>exact wpAny_pure h₁
  | some v=>
    refine wpAny_bind (wpAny_mono h₁ (fun _ s₁' h₁'=>?_) fun _ _ h'=>h'.elim)
    refine wpAny_bind (wpAny_mono h₁' (fun _ s₂ h₂=>wpAny_bind (wpAny_mono h₂ (fun ok s₃ h₃=>?_) fun _ _ h'=>h'.elim)) fun _ _ h'=>h'.elim)
    cases ok with
    | false=>exact wpAny_pure ⟨rfl,h₃⟩
    | true=>
      exact wpAny_bind (wpAny_bind (wpAny_mono h₃ (fun x s₄ h₄=>wpAny_bind (wpAny_mono h₄ (fun _ s₅ h₅=>wpAny_pure (wpAny_pure ⟨rfl,h₅⟩)) fun _ _ h'=>h'.elim)) fun _ _ h'=>h'.elim))
theorem HL (I:Nat→Shared→Prop) (hs:∀ x,foldedSetIterable eB env x=pure x)
    (turn:∀ n s,I n s→wpAny (model prog w) A (pyNext it) (fun r s₁=>match r with
      | none=>R (.ok .next) s₁
      | some v=>wpAny (model prog w) A (letOwnedTupleGo tg it v) (fun _ s₁'=>wpAny (model prog w) A (assign tg env v) (fun _ s₂=>
          wpAny (model prog w) A (forIn ifs true fun c r=>if r=true then do let ok ← isTrue c env (eval c env);pure (ForInStep.yield ok) else pure (ForInStep.yield r)) (fun ok s₃=>
            if ok=true then wpAny (model prog w) A (eval eB env) (fun x s₄=>wpAny (model prog w) A (pyIter x) (fun it' s₅=>
              codeAny (model prog w) A (.compStart (.ListComp elt [⟨tg,iter,ifs,0⟩,⟨t6,eB,j8,0⟩] scope pos) 1 it' acc env) (fun r s₆=>match r with | .ok _=>∃ m,m < n∧I m s₆ | .error _=>False) s₅) F0 s₄) F0 s₃
            else ∃ m,m < n∧I m s₃) F0 s₂) F0 s₁') F0 s₁) F0 s)
    (n:Nat) (h:I n s):
    codeAny (model prog w) A (.compLoop (.ListComp elt [⟨tg,iter,ifs,0⟩,⟨t6,eB,j8,0⟩] scope pos) 0 it acc env) R s:=by
  refine codeAny_loop rfl I (fun n s hI=>?_) n h
  show wpAny _ A ((compTurn (.ListComp elt [⟨tg,iter,ifs,0⟩,⟨t6,eB,j8,0⟩] scope pos) 0 it acc env).onRaise (fun x=>do noteFrame x env;theTreesLotGoes x)) _ _ s
  refine wpAny_noted ?_
  rw [HH]
  refine wpAny_bind (wpAny_standAt (wpAny_bind (wpAny_mono (turn n s hI) (fun r s₁ h₁=>?_) fun _ _ h'=>h'.elim)))
  cases r with
  | none=>exact wpAny_pure h₁
  | some v=>
    refine wpAny_bind (wpAny_mono h₁ (fun _ s₁' h₁'=>?_) fun _ _ h'=>h'.elim)
    refine wpAny_bind (wpAny_mono h₁' (fun _ s₂ h₂=>wpAny_bind (wpAny_mono h₂ (fun ok s₃ h₃=>?_) fun _ _ h'=>h'.elim)) fun _ _ h'=>h'.elim)
    cases ok with
    | false=>exact wpAny_pure ⟨rfl,h₃⟩
    | true=>
      refine wpAny_bind (wpAny_mono h₃ (fun x s₄ h₄=>?_) fun _ _ h'=>h'.elim)
      refine wpAny_bind (wpAny_standAt (wpAny_bind (wpAny_of_eq (hs x) (wpAny_bind (wpAny_holding (wpAny_mono h₄ (fun it' s₅ h₅=>?_) fun _ _ h'=>h'.elim))))))
      refine wpAny_bind (wpAny_runOwn (codeAny_mono h₅ fun r s₆ h₆=>?_))
      cases r with
      | ok f=>exact wpAny_pure ⟨rfl,h₆⟩
      | error x=>exact h₆.elim
theorem FY
    (h0:codeAny (model prog w) A (.compLoop (.ListComp elt [⟨tg,iter,ifs,0⟩,⟨t6,eB,j8,0⟩] scope pos) 1 it acc env) R s)
    (h:wpAny (model prog w) A (pyIter it) (fun it' s'=>codeAny (model prog w) A (.compLoop (.ListComp elt [⟨tg,iter,ifs,0⟩,⟨t6,eB,j8,0⟩] scope pos) 1 it' acc env) R s')
      (notedBy (model prog w) A env fun x s'=>R (.error x) s') s):
    codeAny (model prog w) A (.compStart (.ListComp elt [⟨tg,iter,ifs,0⟩,⟨t6,eB,j8,0⟩] scope pos) 1 it acc env) R s:=by
  refine codeAny_of_tree ?_
  show wpAny _ _ ((compStart (.ListComp elt [⟨tg,iter,ifs,0⟩,⟨t6,eB,j8,0⟩] scope pos) 1 it acc env).onRaise (fun x=>do noteFrame x env;standAt theWindowsPlace)) _ _ s
  refine wpAny_notedAt ?_
  unfold compStart
  show wpAny _ _ (ask >>=_) _ _ s
  refine wpAny_bind (wpAny_askSetting (wpAny_ite ?_))
  split
  · first
      | exact wpAny_bind (wpAny_pure (wpAny_pure (And.intro rfl h0)))
      | exact wpAny_pure (And.intro rfl h0)
  · first
      | exact wpAny_bind (wpAny_rule (wpAny_bind (wpAny_standAt (wpAny_bind (wpAny_mono h (fun it' s' h'=>wpAny_pure (And.intro rfl h')) fun _ _ x=>x)))))
      | (refine wpAny_bind (wpAny_rule ?_);show wpAny _ _ (standAt eB.pos >>=_) _ _ s;exact wpAny_bind (wpAny_standAt (wpAny_bind (wpAny_mono h (fun it' s' h'=>wpAny_pure (And.intro rfl h')) fun _ _ x=>x))))
end
section
variable {Y:Cx} {elt tg iter t6 eB:Expr} {ifs j8:List Expr} {scope:Scope} {pos:Pos} {g:TG} {tt:TT} {te:TE}
theorem K3 (hc:Y.calm=true) (hg:JG Y t6 g) (ht:JF Y j8 tt) (he:JE Y elt te) (Xv:Y.xe=F0) {R:Result→Shared→Prop}
    {pins:List (Addr×Obj)} {σ:St} {H:Hp} {s:Shared} {it D:Addr} {fp:List Addr} {tn:Nat→Heap→Prop} {J:It} {B9:List V} {F:List V→St→Hp→Prop} (I:Inv Y pins σ H s) (T:Turn Y.prog Y.w Y.K t6 J fp it tn) (st:tn 0 s.heap) (hf:∀ b∈fp,tZ Y pins H b)
    (h:kW J g tt (FU te D) B9 F σ H)
    (hR:∀ acc σ' H' s',Inv Y pins σ' H' s'→F acc σ' H'→R (.ok .next) s'):
    codeAny (model Y.prog Y.w) Y.A (.compStart (.ListComp elt [⟨tg,iter,ifs,0⟩,⟨t6,eB,j8,0⟩] scope pos) 1 (.ref it) (.ref D) Y.env) R s:=by
  obtain ⟨W,⟨m0,w0⟩,turn⟩:=h
  have uR:∀ {H':Hp},(∀ b∈fp,H' b=none)→∀ b∈fp,tZ Y pins H' b:=fun hn b hb=>by
    obtain ⟨f0,f1,f2,f3,f4,f5⟩:=hf b hb
    exact ⟨hn b hb,f1,f2,f3,f4,f5⟩
  have loop:codeAny (model Y.prog Y.w) Y.A (.compLoop (.ListComp elt [⟨tg,iter,ifs,0⟩,⟨t6,eB,j8,0⟩] scope pos) 1 (.ref it) (.ref D) Y.env) R s:=by
    refine HK (fun n s'=>∃ i acc σ' H',Inv Y pins σ' H' s'∧tn i s'.heap∧(∀ b∈fp,H' b=none)∧W i n acc σ' H') ?_ m0 ⟨0,_,_,_,I,st,fun b hb=>(hf b hb).1,w0⟩
    rintro n s3 ⟨i,acc,σ3,H3,I3,st3,fr3,w3⟩
    rcases turn i n acc σ3 H3 w3 with ⟨stop,qn⟩ | ⟨go,NN,hNN,step⟩
    · refine eo (T.done Y rfl rfl rfl hc i pins s3 σ3 H3 F0 I3 (uR fr3) st3 stop) fun r s4 ⟨hr,I4⟩=>?_
      subst hr
      exact hR _ _ _ _ I4 qn
    · refine eo (T.item Y rfl rfl rfl hc i pins s3 σ3 H3 F0 I3 (uR fr3) st3 go) fun r s4 ⟨u,hr,h4⟩=>?_
      subst hr
      refine eo h4 fun _ s5 ⟨x,H5,I5,r5,y5,st5,fr5⟩=>?_
      have QK:=I5.pinned (uR fr5) (T.obj _ _ st5)
      have hgh:=hg.h _ s5 σ3 H5 x u _ QK r5 (step x H5 y5)
      rw [Xv] at hgh
      refine eo hgh fun _ s6 ⟨σ6,H6,I6,q6⟩=>?_
      have hth:=ht.h _ s6 σ6 H6 _ I6 q6
      rw [Xv] at hth
      refine eo hth fun b s7 ⟨H7,I7,q7⟩=>?_
      have again:∀ {AK:List V} {s8:Shared} {H8:Hp},Inv Y (pins++rE fp s5.heap) σ6 H8 s8→NN AK σ6 H8→∃ m,m < n∧∃ i acc σ' H',Inv Y pins σ' H' s8∧tn i s8.heap∧(∀ b∈fp,H' b=none)∧W i m acc σ' H':=fun {AK s8 H8} I8 w=>by
        obtain ⟨m',hm,w8⟩:=hNN _ _ _ w
        refine ⟨m',hm,i + 1,AK,σ6,H8,I8.lB,T.keep _ _ _ st5 fun b hb o e=>(I8.pin (b,o) (List.mem_append_right _ (List.mem_append_right _ (iw hb e)))).1,fun b hb=>?_,w8⟩
        obtain ⟨o,e,d⟩:=T.obj _ _ st5 b hb
        exact (I8.pin (b,o) (List.mem_append_right _ (List.mem_append_right _ (iw hb e)))).2.1
      cases b with
      | false=>exact again I7 q7
      | true=>
        have heh:=he.h _ s7 σ6 H7 _ I7 q7
        rw [Xv] at heh
        refine eo heh fun y s8 ⟨v,H8,I8,r8,q8⟩=>?_
        obtain ⟨hx,hz,w8⟩:=q8
        have hmt:=kj (X:=Y) _ s8 σ6 H8 (.ref D) [v] (.ref D) [y] (fun _ H9=>H9=upd H8 D (.lst (acc++[v]))) I8 rfl (.cons r8 .nil) ⟨_,acc,v,rfl,rfl,hx,hz,rfl⟩
        rw [Xv] at hmt
        refine eo hmt fun _ s9 ⟨_,H9,I9,_,q9⟩=>?_
        subst q9
        exact again I9 w8
  exact FY loop (T.self _ 0 _ _ _ st loop)
end
section
variable {X:Cx} {sc:Scope} {N:List Str} {src:List (Option Nat)} {tg iter t6 eB elt:Expr} {ifs j8:List Expr} {wi Ol:TI} {g g1:TG} {tt Om:TT} {te:TE} {pos:Pos}
theorem K4 {R:Value→Addr→Result→Shared→Prop} {E:Value→Shared→Prop} (c:vY X sc N src) (hc:X.calm=true)
    (hg:∀ C s H fp,JG (X.comp N sc C s H fp) tg g) (ht:∀ C s H fp,JF (X.comp N sc C s H fp) ifs tt)
    (Rn:∀ C s H fp,JI (X.comp N sc C s H fp) t6 eB Ol) (hg1:∀ C s H fp,JG (X.comp N sc C s H fp) t6 g1) (ht1:∀ C s H fp,JF (X.comp N sc C s H fp) j8 Om) (he:∀ C s H fp,JE (X.comp N sc C s H fp) elt te)
    (hs1:∀ C s H fp x,foldedSetIterable eB (X.comp N sc C s H fp).env x=pure x)
    {pins:List (Addr×Obj)} {σ:St} {H:Hp} {s:Shared} {it:Addr} {fp:List Addr} {tn:Nat→Heap→Prop} {J:It} {Q:V→Hp→Prop} (I:Inv X pins σ H s) (T:Turn X.prog X.w X.K tg J fp it tn) (st:tn 0 s.heap) (hf:∀ b∈fp,tZ X pins H b)
    (h:∀ D,L2.new X.K H D→kW J g tt (FW Ol g1 Om te D) [] (fun _ _ H'=>Q (.ref D) H') (pick σ src) (upd H D (.lst [])))
    (hR:∀ D C s' σ' H',s.heap.objs.size≤C→Inv (X.comp N sc C s H fp) [] σ' H' s'→Q (.ref D) H'→R (.ref D) C (.ok .next) s'):
    wpAny (model X.prog X.w) X.A (newList []) (fun acc s₃=>wpAny (model X.prog X.w) X.A (newFunctionEnv sc X.env.globals (jf X.env sc.names []) [] X.env.qual none .none (some X.env)) (fun cenv s₄=>
      codeAny (model X.prog X.w) X.A (.compStart (.ListComp elt [⟨tg,iter,ifs,0⟩,⟨t6,eB,j8,0⟩] sc pos) 0 (.ref it) acc { cenv with scope:=relabel sc X.env }) (R acc cenv.locals) s₄) E s₃) E s:=by
  refine wpAny_newObj_type (wpAny_newFunctionEnv c.cell (by intro y hy;simp at hy) (fun h₁ hns₁ hsb₁=>?_) c.kind)
  dsimp only at hns₁ hsb₁ ⊢
  generalize hH2:s.heap.push { cls:=.type "list",dict:=none,data:=.seq ([]:List Value).toArray }=H2 at hns₁ hsb₁ ⊢
  have hC:H2.objs.size=s.heap.objs.size + 1:=by rw [← hH2,Heap.size_push]
  have Rf:s.heap.objs.size≠H2.objs.size:=by rw [hC];exact Nat.ne_of_lt (Nat.lt_succ_self _)
  have Mn:s.heap.objs.size≤H2.objs.size:=by rw [hC];exact Nat.le_succ _
  have below:∀ b,b < s.heap.objs.size→b≠H2.objs.size:=fun b hb=>by rw [hC];exact Nat.ne_of_lt (Nat.lt_succ_of_lt hb)
  have old:∀ b o,s.heap.get? b=some o→h₁.get? b=some o:=fun b o e=>hsb₁.extBut b o (below b (Heap.lt_size e)) (Heap.get?_push_of_some _ (hH2 ▸ Heap.get?_push_of_some _ e))
  have Rh:h₁.get? s.heap.objs.size=some { cls:=.type "list",dict:=none,data:=.seq ([]:List Value).toArray }:=hsb₁.extBut _ _ Rf (Heap.get?_push_of_some _ (hH2 ▸ Heap.get?_push_size _ rfl))
  have ho:∀ b∈fp,∃ o,s.heap.get? b=some o:=fun b hb=>let ⟨o,e,_⟩:=T.obj _ _ st b hb;⟨o,e⟩
  have I0:=I.block (t':=s.toks + ([]:List (Str×Value)).length) c hf ho (Nat.le_refl _) Mn Rf old hns₁ ⟨Nat.zero_le _,[],0,.nil,Rh⟩
  have Ut:tn 0 h₁:=T.keep _ _ _ st fun b hb o e=>old b o e
  obtain ⟨W,⟨m0,w0⟩,turn⟩:=h _ I.new
  have uR:∀ {H':Hp},(∀ b∈fp,H' b=none)→∀ b∈fp,tZ (X.comp N sc H2.objs.size s H fp) [] H' b:=fun hn b hb=>by
    obtain ⟨f0,f1,f2,f3,f4,f5⟩:=hf b hb
    obtain ⟨o,e⟩:=ho b hb
    refine ⟨hn b hb,below b (Heap.lt_size e),fun z=>?_,.inl hb,fun x a q=>f4 x a (dI q),fun p hp=>nomatch hp⟩
    rcases List.mem_cons.mp (I.uP b z) with q | q
    · exact f1 q
    · exact f2 q
  have fr0:∀ b∈fp,(upd H s.heap.objs.size (.lst [])) b=none:=fun b hb=>by
    obtain ⟨o,e⟩:=ho b hb
    rw [bE (Nat.ne_of_lt (Heap.lt_size e))]
    exact (hf b hb).1
  have loop:∀ s₃:Shared,s₃={ s with heap:=h₁,toks:=s.toks + ([]:List (Str×Value)).length }→
      codeAny (model X.prog X.w) X.A (.compLoop (.ListComp elt [⟨tg,iter,ifs,0⟩,⟨t6,eB,j8,0⟩] sc pos) 0 (.ref it) (.ref s.heap.objs.size) (compEnvC sc (jf X.env sc.names []) H2.objs.size X.env)) (R (.ref s.heap.objs.size) H2.objs.size) s₃:=by
    rintro s₃ rfl
    refine HL (fun n s'=>∃ i acc σ' H',Inv (X.comp N sc H2.objs.size s H fp) [] σ' H' s'∧tn i s'.heap∧(∀ b∈fp,H' b=none)∧W i n acc σ' H') (hs1 H2.objs.size s H fp) ?_ m0 ⟨0,_,_,_,I0,Ut,fr0,w0⟩
    rintro n s3 ⟨i,acc,σ3,H3,I3,st3,fr3,w3⟩
    rcases turn i n acc σ3 H3 w3 with ⟨stop,qn⟩ | ⟨go,NN,hNN,step⟩
    · refine eo (T.done (X.comp N sc H2.objs.size s H fp) rfl rfl rfl hc i [] s3 σ3 H3 F0 I3 (uR fr3) st3 stop) fun r s4 ⟨hr,I4⟩=>?_
      subst hr
      exact hR _ _ _ _ _ Mn I4 qn
    · refine eo (T.item (X.comp N sc H2.objs.size s H fp) rfl rfl rfl hc i [] s3 σ3 H3 F0 I3 (uR fr3) st3 go) fun r s4 ⟨u,hr,h4⟩=>?_
      subst hr
      refine eo h4 fun _ s5 ⟨x,H5,I5,r5,y5,st5,fr5⟩=>?_
      have QK:=I5.pinned (uR fr5) (T.obj _ _ st5)
      refine eo ((hg _ _ _ _).h _ s5 σ3 H5 x u _ QK r5 (step x H5 y5)) fun _ s6 ⟨σ6,H6,I6,q6⟩=>?_
      refine eo ((ht _ _ _ _).h _ s6 σ6 H6 _ I6 q6) fun b s7 ⟨H7,I7,q7⟩=>?_
      have again:∀ {AK:List V} {s8:Shared} {σ8:St} {H8:Hp},Inv (X.comp N sc H2.objs.size s H fp) ([]++rE fp s5.heap) σ8 H8 s8→NN AK σ8 H8→∃ m,m < n∧∃ i acc σ' H',Inv (X.comp N sc H2.objs.size s H fp) [] σ' H' s8∧tn i s8.heap∧(∀ b∈fp,H' b=none)∧W i m acc σ' H':=fun {AK s8 σ8 H8} I8 w=>by
        obtain ⟨m',hm,w8⟩:=hNN _ _ _ w
        refine ⟨m',hm,i + 1,AK,σ8,H8,I8.lB,T.keep _ _ _ st5 fun b hb o e=>(I8.pin (b,o) (List.mem_append_right _ (List.mem_append_right _ (iw hb e)))).1,fun b hb=>?_,w8⟩
        obtain ⟨o,e,d⟩:=T.obj _ _ st5 b hb
        exact (I8.pin (b,o) (List.mem_append_right _ (List.mem_append_right _ (iw hb e)))).2.1
      cases b with
      | false=>exact again I7 q7
      | true=>
        refine eo ((Rn H2.objs.size s H fp).h ([]++rE fp s5.heap) s7 σ6 H7 _ I7 q7) fun v s8 h8=>eo h8 fun To s9 h9=>?_
        obtain ⟨it9,fp9,tn9,J9,H9,e9,I9,T9,st9,f9,q9⟩:=h9
        subst e9
        exact K3 (Y:=X.comp N sc H2.objs.size s H fp) hc (hg1 _ _ _ _) (ht1 _ _ _ _) (he _ _ _ _) rfl I9 T9 st9 f9 q9 fun acc σ' H' s' I' w'=>again I' w'
  exact codeAny_compStart_list (loop _ rfl) (T.self _ 0 _ _ _ Ut (loop _ rfl))
theorem aaM {i:Nat} {y:Str} {py Mp:Pos} (hN:X.N.Nodup) (hy:X.N[i]?=some y) (hx:Loc X.env.scope y) (c:vY X sc N src) (hc:X.calm=true) (hi:JI X tg iter wi)
    (hg:∀ C s H fp,JG (X.comp N sc C s H fp) tg g) (ht:∀ C s H fp,JF (X.comp N sc C s H fp) ifs tt)
    (Rn:∀ C s H fp,JI (X.comp N sc C s H fp) t6 eB Ol) (hg1:∀ C s H fp,JG (X.comp N sc C s H fp) t6 g1) (ht1:∀ C s H fp,JF (X.comp N sc C s H fp) j8 Om) (he:∀ C s H fp,JE (X.comp N sc C s H fp) elt te)
    (hsw:swapsWith (.ListComp elt [⟨tg,iter,ifs,0⟩,⟨t6,eB,j8,0⟩] sc pos) (some (.Name y py)) Mp.line X.env=pure true:=by rfl)
    (hf:X.fn y=true∨X.env.scope.names.lookup y=some .local:=by first | exact .inl rfl | exact .inr rfl | assumption)
    (hs:∀ x,foldedSetIterable iter X.env x=pure x:=by intro _;rfl) (hs1:∀ C s H fp x,foldedSetIterable eB (X.comp N sc C s H fp).env x=pure x:=by intros;rfl):JS X (.Assign [.Name y py] (.ListComp elt [⟨tg,iter,ifs,0⟩,⟨t6,eB,j8,0⟩] sc pos) Mp) (iZ (Uv X.K wi src g tt Ol g1 Om te) (cY i)):=⟨by
  intro pins s σ H D I h
  rw [exec_Assign_Name_used _ _ _ _ hsw]
  refine wpAny_bind (wpAny_standAt (wpAny_bind ?_))
  show wpAny _ X.A (do let _ ← comprehension (.ListComp elt [⟨tg,iter,ifs,0⟩,⟨t6,eB,j8,0⟩] sc pos) sc X.env _ (newList []) false (eval iter X.env) (some (assign (.Name y py) X.env))) _ _ s
  refine wpAny_bind (wpAny_mono (wpAny_comprehension_free (use:=some (assign (.Name y py) X.env)) (Q:=fun _ s'=>SP X pins D .next s') rfl hs (oA fun x hx hk=>?_) c.kind c.names ?_) (fun _ s' hq=>wpAny_pure (wpAny_pure hq)) fun _ _ e=>e)
  · obtain ⟨n,k⟩:=x
    cases hk
    exact I.ok.has _ (c.free hx)
  refine eo (hi.h pins s σ H _ I h) fun v s1 h1=>eo h1 fun To s2 h2=>?_
  obtain ⟨it,fp,tn,J,H2,e,I2,T,st2,f2,h2⟩:=h2
  subst e
  refine K4 (R:=fun acc C=>compPost (model X.prog X.w) X.A X.xe (some (assign (.Name y py) X.env)) (fun _ s'=>SP X pins D .next s') acc C) (Q:=fun v H'=>D.nx (σ.set i (some v)) H') c hc hg ht Rn hg1 ht1 he hs1 I2 T st2 f2 h2 fun L C s' σ' H' hC I' q=>?_
  obtain ⟨m,hn,_⟩:=id I'.loc
  obtain ⟨o,es,ep,ho,r⟩:=id hn
  have I3:Inv X pins σ H' s':=I2.DP (h':=s'.heap) f2 hC I' fun _ _=>rfl
  have cL:C≠X.env.locals:=Nat.ne_of_gt (Nat.lt_of_lt_of_le I2.lt hC)
  have cC:∀ x a,X.env.cells.lookup x=some a→a≠C:=fun x a e=>by
    obtain ⟨v,o,e',_⟩:=I2.cell x a e
    exact Nat.ne_of_lt (Nat.lt_of_lt_of_le (Heap.lt_size e') hC)
  have cP:∀ p∈X.pn++pins,p.1≠C:=fun p hp=>Nat.ne_of_lt (Nat.lt_of_lt_of_le (Heap.lt_size (I2.pin p hp).1) hC)
  have fr:H' C=none:=I'.free
  have I4:Inv X (pins++[(C,o)]) σ H' s':=I3.z9 fun p hp=>(List.mem_append.mp hp).elim (fun z=>I3.pin p (List.mem_append_right _ z)) fun z=>by
    have e:p=(C,o):=by simpa using z
    subst e
    exact ⟨ho,fr,cL,I2.Qt hC,fun v z=>by
      have r1:=r
      simp_all⟩
  show wpAny (model X.prog X.w) X.A (assign (.Name y py) X.env (.ref L)) _ _ s'
  refine eo (Dv (pos:=py) hN hy hx hf _ s' σ H' (.ref L) (.ref L) (fun σ1 H1=>D.nx σ1 H1∧H1=H') I4 rfl ⟨q,rfl⟩) fun _ s5 ⟨σ5,H5,I5,q5,e5⟩=>?_
  subst e5
  have pC:=(I5.pin (C,o) (List.mem_append_right _ (List.mem_append_right _ (by simp)))).1
  refine ⟨m,⟨o,es,ep,pC,r⟩,fun h' sb=>?_⟩
  exact ⟨σ5,H5,I5.lB.turned (t':=s5.toks) (fun b u hb e=>(sb.2 b hb).trans e) fr cL (.inr (Nat.le_trans I2.sz hC)) cC cP,q5⟩⟩
end
section
variable {K:PySem.W.Frag} {g:TG} {tt:TT} {body:Xu} {a:Addr} {B9:List V} {F:List V→St→Hp→Prop} {σ:St} {H:Hp} {xs:List V} {n:Nat}
theorem Mu {J:It} (Pv:Nat→List V→St→Hp→Prop) (h0:Pv 0 B9 σ H) (hgo:∀ i acc σ H,i < n→Pv i acc σ H→J.go i H) (G6:∀ acc σ H,Pv n acc σ H→J.stop n H)
    (hs:∀ i acc σ H x H',i < n→Pv i acc σ H→J.P1 i H x H'→g x σ H' fun σ2 H2=>tt σ2 H2 fun b H3=>if b=true then body acc σ2 H3 (Pv (i + 1)) else Pv (i + 1) acc σ2 H3)
    (hd:∀ acc σ H,Pv n acc σ H→F acc σ H):kW J g tt body B9 F σ H:=by
  refine ⟨fun i m acc σ H=>Pv i acc σ H∧i≤n∧m=n - i,⟨n,h0,Nat.zero_le _,by omega⟩,fun i m acc σ H ⟨h,hi,hm⟩=>?_⟩
  by_cases c:i < n
  · right
    exact ⟨hgo i acc σ H c h,Pv (i + 1),fun acc' σ' H' q=>⟨n - (i + 1),by omega,q,by omega,rfl⟩,fun x H' hy=>hs i acc σ H x H' c h hy⟩
  · left
    have e:i=n:=by omega
    subst e
    exact ⟨G6 acc σ H h,hd acc σ H h⟩
theorem Oo (Pv:Nat→List V→St→Hp→Prop) (h0:Pv 0 B9 σ H) (hl:∀ i acc σ H,i≤xs.length→Pv i acc σ H→fE K H a xs)
    (hs:∀ i x acc σ H,xs[i]?=some x→Pv i acc σ H→g x σ H fun σ2 H2=>tt σ2 H2 fun b H3=>if b=true then body acc σ2 H3 (Pv (i + 1)) else Pv (i + 1) acc σ2 H3)
    (hd:∀ acc σ H,Pv xs.length acc σ H→F acc σ H):kW (GU K a) g tt body B9 F σ H:=by
  refine Mu (n:=xs.length) Pv h0 (fun i acc σ H hi h=>⟨xs,_,hl i acc σ H (Nat.le_of_lt hi) h,List.getElem?_eq_getElem hi⟩) (fun acc σ H h=>⟨xs,hl _ acc σ H (Nat.le_refl _) h,Nat.le_refl _⟩) (fun i acc σ H x H' hi h hy=>?_) hd
  obtain ⟨rfl,hy⟩:=hy
  exact hs i x acc σ _ (hy xs (hl i acc σ _ (Nat.le_of_lt hi) h)) h
theorem Ro (Pv:Nat→List V→St→Hp→Prop) (h0:Pv 0 B9 σ H) (hl:∀ i acc σ H,i≤xs.length→Pv i acc σ H→uQ K H a xs)
    (hs:∀ i x acc σ H,xs[i]?=some x→Pv i acc σ H→g x σ H fun σ2 H2=>tt σ2 H2 fun b H3=>if b=true then body acc σ2 H3 (Pv (i + 1)) else Pv (i + 1) acc σ2 H3)
    (hd:∀ acc σ H,Pv xs.length acc σ H→F acc σ H):kW (P4 K a) g tt body B9 F σ H:=by
  refine Mu (n:=xs.length) Pv h0 (fun i acc σ H hi h=>⟨xs,_,hl i acc σ H (Nat.le_of_lt hi) h,List.getElem?_eq_getElem hi⟩) (fun acc σ H h=>⟨xs,hl _ acc σ H (Nat.le_refl _) h,Nat.le_refl _⟩) (fun i acc σ H x H' hi h hy=>?_) hd
  obtain ⟨rfl,hy⟩:=hy
  exact hs i x acc σ _ (hy xs (hl i acc σ _ (Nat.le_of_lt hi) h)) h
theorem bC {tl:TE} {src:List (Option Nat)} {Ol:TI} {g1:TG} {Om:TT} {te:TE} {Q:VK}:Uv K (CM K tl) src g tt Ol g1 Om te σ H Q=tl σ H (fun x H1=>∃ a,x=.ref a∧(∃ xs,fE K H1 a xs)∧∀ D,L2.new K H1 D→kW (GU K a) g tt (FW Ol g1 Om te D) [] (fun _ _ H'=>Q (.ref D) H') (pick σ src) (upd H1 D (.lst []))):=rfl
theorem bD {tl:TE} {te:TE} {D:Addr} {acc:List V} {N:List V→St→Hp→Prop}:FW (Kv K tl) g tt te D acc σ H N=tl σ H (fun x H1=>∃ a,x=.ref a∧(∃ xs,uQ K H1 a xs)∧kW (P4 K a) g tt (FU te D) acc N σ H1):=rfl
theorem aY {tl:TE} {te:TE} {D:Addr} {acc:List V} {N:List V→St→Hp→Prop}:FW (CM K tl) g tt te D acc σ H N=tl σ H (fun x H1=>∃ a,x=.ref a∧(∃ xs,fE K H1 a xs)∧kW (GU K a) g tt (FU te D) acc N σ H1):=rfl
theorem cy {te:TE} {D:Addr} {acc:List V} {N:List V→St→Hp→Prop}:FU te D acc σ H N=te σ H (fun v H4=>H4 D=some (.lst acc)∧acc.length < sizeLine∧N (acc++[v]) σ (upd H4 D (.lst (acc++[v])))):=rfl
end
end L2
set_option Elab.async false
set_option linter.all false
set_option maxRecDepth 100000
namespace L2
open PySem PySem.Spec PyProof.Rows
theorem Oq {xs:List V} {us:List Value} (h:Vals xs us):∀ {i:Nat} {u:Value},us[i]?=some u→∃ x,xs[i]?=some x∧RelV x u:=by
  induction h with
  | nil=>intro i u e;simp at e
  | cons r rr ih=>
    intro i u e
    cases i with
    | zero=>simp only [List.getElem?_cons_zero,Option.some.injEq] at e ⊢;exact ⟨_,rfl,e ▸ r⟩
    | succ i=>simp only [List.getElem?_cons_succ] at e ⊢;exact ih e
section
variable {X:Cx}
theorem range_any {bs:List Bool}:(List.range bs.length).any (fun i=>bs.getD i true)=bs.any id:=by
  induction bs with
  | nil=>rfl
  | cons b bs ih=>
    rw [List.length_cons,List.range_succ_eq_map,List.any_cons,List.any_map,List.any_cons]
    have e:((fun i=>(b::bs).getD i true) ∘ Nat.succ)=fun i=>bs.getD i true:=by funext i;simp
    rw [e,ih]
    rfl
theorem FZ {P:Program} {w:World} {A:Around} {bs:List Bool} {us:List Value} (r:Vals (bs.map V.bl) us):TruthOf P w A (fun i v=>us.toArray[i]?=some v) (fun i=>bs.getD i true):=by
  intro i v s Q E hv hQ
  rw [List.getElem?_toArray] at hv
  obtain ⟨x,hx,rx⟩:=Oq r hv
  rw [List.getElem?_map] at hx
  obtain ⟨b,hb,rfl⟩:=Option.map_eq_some_iff.mp hx
  cases rx
  have e:bs.getD i true=b:=by rw [List.getD_eq_getElem?_getD,hb];rfl
  dsimp only at hQ
  rw [e] at hQ
  exact wpAny_truthy_bool hQ
theorem kept_iter {s:Shared} {l:Addr} {h':Heap} (hk:∀ b o,b∉[s.heap.objs.size]→(s.heap.push { cls:=.type "list_iterator",data:=.fields #[.ref l,.int 0 0] }).get? b=some o→h'.get? b=some o):∀ b o,s.heap.get? b=some o→h'.get? b=some o:=fun b o e=>by
  refine hk b o (fun m=>?_) (Heap.get?_push_of_some _ e)
  have q:b=s.heap.objs.size:=by simpa using m
  exact Nat.lt_irrefl _ (q ▸ Heap.lt_size e)
theorem K5 (hc:X.calm=true):gR X (.builtin "any") (fun xs H Q=>∃ (p:Addr) (bs:List Bool),xs=[.ref p]∧fE X.K H p (bs.map V.bl)∧Q (.bl (bs.any id)) H):=by
  intro pins s σ H xs us Q I r h
  obtain ⟨p,bs,rfl,hx,q⟩:=h
  obtain ⟨u,rfl,ru⟩:=vals1 r
  cases ru
  obtain ⟨its,rv,ht,hz⟩:=I.list hx
  have hl:s.heap.IsList p its.toArray:=ht.isList
  have GV:p < s.heap.objs.size:=by obtain ⟨_,e,_⟩:=hl;exact Heap.lt_size e
  refine call_any_walk (wpAny_pyIter_list hl ?_)
  refine ⟨_,_,_,_,_,_,fun i=>bs.getD i true,rfl,Walks.list (A:=X.A.in1) (I.ok.hd hc) _ p (Nat.ne_of_lt GV) its.toArray,⟨⟨_,Heap.get?_push_size _ rfl,rfl,rfl⟩,hl.push _⟩,FZ rv,fun h' tk hk=>?_⟩
  have el:its.toArray.size=bs.length:=by rw [List.size_toArray,← rv.length,List.length_map]
  rw [el,range_any]
  exact ⟨.bl _,H,I.kept (kept_iter hk),rfl,q⟩
end
section
variable {P:Program} {w:World} {A:Around} {E:Value→Shared→Prop} {s:Shared} {b0:Array Keyed}
end
section
variable {X:Cx}
end
end L2
set_option Elab.async false
set_option linter.all false
set_option maxRecDepth 100000
namespace L2
open PySem PySem.Spec PyProof.Rows
def AL (xs:Array Nat):Prop:=xs.toList.Pairwise (· < ·)
structure lY (t:SetTable):Prop where
  bare:t.dummies=#[]
  rise:AL t.place
section
variable {xs:Array Nat} {j:Nat}
theorem AL.lt (h:AL xs) {i k:Nat} (ik:i < k) (hk:k < xs.size):xs.getD i j < xs.getD k j:=by
  have hi:i < xs.size:=Nat.lt_trans ik hk
  rw [Array.getD_eq_getD_getElem?,Array.getD_eq_getD_getElem?,Array.getElem?_eq_getElem hi,Array.getElem?_eq_getElem hk]
  have q:=List.pairwise_iff_getElem.mp h i k (by simpa using hi) (by simpa using hk) ik
  simpa using q
theorem Mv (h:AL xs) {m:Nat} (hm:xs.getD m j < j) {i:Nat} (hi:i≤m):xs.getD i j < j:=by
  by_cases c:m < xs.size
  · by_cases e:i=m
    · rw [e];exact hm
    · have:=h.lt (j:=j) (show i < m by omega) c
      omega
  · rw [Array.getD_eq_getD_getElem?,Array.getElem?_eq_none (by omega)] at hm
    exact absurd hm (Nat.lt_irrefl _)
theorem Ot (h:AL xs) {m:Nat} (hm:¬ xs.getD m j < j) {i:Nat} (hi:m≤i):¬ xs.getD i j < j:=fun c=>hm (Mv h c hi)
theorem AM (h:AL xs):∀ fuel lo hi,lo≤hi→hi≤xs.size→hi - lo≤fuel→(∀ i,i < lo→xs.getD i j < j)→(∀ i,hi≤i→¬ xs.getD i j < j)→
    SetTable.below.go xs j fuel lo hi≤xs.size∧(∀ i,i < SetTable.below.go xs j fuel lo hi→xs.getD i j < j)∧∀ i,SetTable.below.go xs j fuel lo hi≤i→¬ xs.getD i j < j
  | 0,lo,hi,h1,h2,h3,h4,h5=>by
    have e:lo=hi:=by omega
    unfold SetTable.below.go
    exact ⟨by omega,h4,fun i hi'=>h5 i (by omega)⟩
  | fuel + 1,lo,hi,h1,h2,h3,h4,h5=>by
    unfold SetTable.below.go
    by_cases c:lo < hi
    · rw [if_pos c]
      dsimp only
      by_cases d:xs.getD ((lo + hi) / 2) j < j
      · rw [if_pos d]
        exact AM h fuel _ _ (by omega) h2 (by omega) (fun i hi'=>Mv h d (by omega)) h5
      · rw [if_neg d]
        exact AM h fuel _ _ (by omega) (by omega) (by omega) h4 (fun i hi'=>Ot h d hi')
    · rw [if_neg c]
      exact ⟨by omega,h4,fun i hi'=>h5 i (by omega)⟩
theorem HM (h:AL xs) (j:Nat):SetTable.below xs j≤xs.size∧(∀ i,i < SetTable.below xs j→xs.getD i j < j)∧∀ i,SetTable.below xs j≤i→¬ xs.getD i j < j:=by
  unfold SetTable.below
  refine AM h _ _ _ (Nat.zero_le _) (Nat.le_refl _) (by omega) (fun i hi=>absurd hi (Nat.not_lt_zero _)) (fun i hi=>?_)
  rw [Array.getD_eq_getD_getElem?,Array.getElem?_eq_none hi]
  exact Nat.lt_irrefl _
theorem AL.insert (h:AL xs) {j:Nat} (free:xs[SetTable.below xs j]?≠some j):AL (SetTable.insertAt xs (SetTable.below xs j) j):=by
  obtain ⟨b1,b2,b3⟩:=HM h j
  generalize SetTable.below xs j=p at *
  have at_:∀ i (hi:i < xs.size),xs.getD i j=xs.toList[i]'(by simpa using hi):=fun i hi=>by
    rw [Array.getD_eq_getD_getElem?,Array.getElem?_eq_getElem hi];simp
  unfold AL SetTable.insertAt
  rw [Array.toList_append,Array.toList_push,Array.toList_extract,Array.toList_extract]
  simp only [List.extract_eq_drop_take,Nat.sub_zero,List.drop_zero]
  have e1:List.take (xs.size - p) (List.drop p xs.toList)=xs.toList.drop p:=List.take_of_length_le (by rw [List.length_drop];simp)
  rw [e1,List.append_assoc]
  refine List.pairwise_append.mpr ⟨h.sublist (List.take_sublist _ _),?_,?_⟩
  · refine List.pairwise_append.mpr ⟨List.pairwise_singleton _ _,h.sublist (List.drop_sublist _ _),fun a ha c hc=>?_⟩
    have ea:a=j:=by simpa using ha
    subst ea
    obtain ⟨i,hi,rfl⟩:=List.mem_iff_getElem.mp hc
    rw [List.length_drop] at hi
    rw [List.getElem_drop]
    have GV:p + i < xs.size:=by simp at hi;omega
    have q:=b3 (p + i) (by omega)
    rw [at_ _ GV] at q
    by_cases z:i=0
    · subst z
      have ne:xs.toList[p + 0]'(by simpa using GV)≠a:=fun e=>free (by
        rw [Array.getElem?_eq_getElem (by simpa using GV)]
        simpa using e)
      omega
    · have hp:p < xs.size:=by omega
      have q0:=b3 p (Nat.le_refl _)
      have q1:=h.lt (j:=a) (show p < p + i by omega) GV
      rw [at_ _ GV] at q1
      omega
  · intro a ha c hc
    obtain ⟨i,hi,rfl⟩:=List.mem_iff_getElem.mp ha
    rw [List.length_take] at hi
    rw [List.getElem_take]
    have GV:i < xs.size:=by simp at hi;omega
    have qa:=b2 i (by omega)
    rw [at_ _ GV] at qa
    rcases List.mem_append.mp hc with z | z
    · have e:c=j:=by simpa using z
      rw [e];exact qa
    · obtain ⟨k,hk,rfl⟩:=List.mem_iff_getElem.mp z
      rw [List.length_drop] at hk
      rw [List.getElem_drop]
      exact List.pairwise_iff_getElem.mp h i (p + k) _ _ (by omega)
end
theorem has_none (j:Nat):SetTable.has #[] j=false:=by simp [SetTable.has]
theorem lY.slot {t:SetTable} (h:lY t) {j:Nat} (e:t.slot j=.empty):t.place[SetTable.below t.place j]?≠some j:=by
  intro c
  unfold SetTable.slot at e
  simp only [c,beq_self_eq_true,if_true] at e
  cases e
theorem AN {t:SetTable} (h:lY t) {f:Nat→Int} {x:Int}:∀ (fuel:Nat) (p:SetTable.Probe) {j:Nat} {d:Option Nat},p.dummy=none→SetTable.probe.go t f x fuel p=some (.empty j d)→d=none∧t.slot j=.empty
  | 0,p,j,d,hp,e=>by unfold SetTable.probe.go at e;cases e
  | fuel + 1,p,j,d,hp,e=>by
    unfold SetTable.probe.go at e
    have adv:(t.advance p).dummy=none:=by unfold SetTable.advance;split <;> exact hp
    cases c:t.slot p.j with
    | empty=>
      rw [c] at e
      dsimp only at e
      cases e
      exact ⟨hp,c⟩
    | dummy=>
      exfalso
      unfold SetTable.slot at c
      dsimp only at c
      split at c
      · cases c
      · rw [h.bare,has_none] at c
        simp at c
    | live i=>
      rw [c] at e
      dsimp only at e
      split at e
      · cases e
      · exact AN h fuel _ adv e
theorem lY.standIn {t:SetTable} (n:Nat):lY (t.standIn n):=⟨rfl,by
  show (Array.range n).toList.Pairwise (· < ·)
  rw [Array.toList_range]
  exact List.pairwise_lt_range⟩
theorem lY.orStandIn {t:SetTable} (h:lY t) (n:Nat):lY (t.orStandIn n):=by
  unfold SetTable.orStandIn
  split
  · exact h
  · exact .standIn n
theorem lY.put {t:SetTable} (h:lY t) {j:Nat} (e:t.slot j=.empty):lY (t.put j).1:=⟨by
  show (if SetTable.has t.dummies j then _ else t.dummies)=#[]
  rw [h.bare,has_none]
  rfl,h.rise.insert (h.slot e)⟩
theorem HN {t:SetTable} (h:lY t) (es:Array (Int×Value)) (hv:Int) (x:Value):lY (layNew t es hv x).2.1∧(layNew t es hv x).2.1.led=t.led:=by
  unfold layNew
  cases c:t.freeSlot hv with
  | none=>exact ⟨.standIn _,rfl⟩
  | some q=>
    obtain ⟨sl,wd⟩:=q
    have free:t.slot sl=.empty:=by
      unfold SetTable.freeSlot at c
      split at c
      · next j d e=>
        unfold SetTable.probe at e
        obtain ⟨rfl,z⟩:=AN h _ _ rfl e
        simp only [Option.getD_none,Option.isSome_none,Option.some.injEq,Prod.mk.injEq] at c
        rw [← c.1];exact z
      · cases c
    dsimp only
    refine ⟨(h.put free).orStandIn _,?_⟩
    unfold SetTable.orStandIn
    split
    · rfl
    · rfl
theorem C2 (f:Nat→Option Nat):∀ l:List Nat,l.Pairwise (· < ·)→((l.filterMap fun j=>(f j).map (j,·)).map (·.1)).Pairwise (· < ·)∧∀ a∈(l.filterMap fun j=>(f j).map (j,·)).map (·.1),a∈l
  | [],_=>⟨List.Pairwise.nil,fun a h=>nomatch h⟩
  | j::l,h=>by
    obtain ⟨i1,i2⟩:=C2 f l (List.pairwise_cons.mp h).2
    cases c:f j with
    | none=>
      rw [List.filterMap_cons_none (by rw [c];rfl)]
      exact ⟨i1,fun a ha=>List.mem_cons_of_mem _ (i2 a ha)⟩
    | some k=>
      rw [List.filterMap_cons_some (b:=(j,k)) (by rw [c];rfl)]
      refine ⟨List.pairwise_cons.mpr ⟨fun a ha=>(List.pairwise_cons.mp h).1 a (i2 a ha),i1⟩,fun a ha=>?_⟩
      rcases List.mem_cons.mp ha with z | z
      · exact z ▸ List.mem_cons_self
      · exact List.mem_cons_of_mem _ (i2 a z)
theorem DT {t:SetTable} (es:Array (Int×Value)) (n:Nat):lY (relayAll t es n).2.1∧(relayAll t es n).2.1.led=t.led:=by
  unfold relayAll
  cases c:t.relaid (es.map (·.1)) n with
  | none=>exact ⟨.standIn _,rfl⟩
  | some q=>
    obtain ⟨t',order⟩:=q
    dsimp only
    split
    · unfold SetTable.relaid SetTable.laid at c
      cases d:SetTable.layClean (SetTable.sizeAbove n - 1) (es.map (·.1)) with
      | none=>rw [d] at c;cases c
      | some owner=>
        rw [d] at c
        simp only [Option.bind_eq_bind,Option.bind_some,Option.pure_def,Option.some.injEq,Prod.mk.injEq] at c
        rw [← c.1]
        refine ⟨⟨rfl,?_⟩,rfl⟩
        exact (C2 (fun j=>owner.getD j none) _ List.pairwise_lt_range).1
    · exact ⟨.standIn _,rfl⟩
def AO (es:Array (Int×Value)):List Int:=es.toList.map fun e=>numOf e.2
structure Uw (P:Program) (w:World) (h:Heap) (a:Addr) (L:Bool) (M:Int→Prop) (n:Nat) (es:Array (Int×Value)) (ep:Nat) (t:SetTable):Prop where
  at_:∃ o,h.get? a=some o∧o.ExactSet∧o.data=.set es ep t
  elems:ElemsOf (intKind P w) es.toList
  nd:(AO es).Nodup
  mem:∀ k,k∈AO es↔M k
  len:es.size≤n
  fits:t.fits es.size=true
  tab:lY t
  led:t.led=L
def DU (P:Program) (w:World) (h:Heap) (a:Addr) (L:Bool) (M:Int→Prop) (n:Nat):Prop:=∃ es ep t,Uw P w h a L M n es ep t
section
variable {P:Program} {w:World} {A:Around} {E:Value→Shared→Prop} {s:Shared}
theorem DU.keep {h h':Heap} {a:Addr} {L:Bool} {M:Int→Prop} {n:Nat} (q:DU P w h a L M n) (k:∀ o,h.get? a=some o→h'.get? a=some o):DU P w h' a L M n:=by
  obtain ⟨es,ep,t,x⟩:=q
  obtain ⟨o,h1,h2⟩:=x.at_
  exact ⟨es,ep,t,⟨⟨o,k o h1,h2⟩,x.elems,x.nd,x.mem,x.len,x.fits,x.tab,x.led⟩⟩
theorem Mw {k:Int} {v:Value} (h:(intKind P w).is k v=true):numOf v=k∧∃ t,v=.int k t:=by
  obtain ⟨t,rfl⟩:=Value.isInt_shape h
  exact ⟨rfl,t,rfl⟩
theorem AQ {h:Heap} {a:Addr} {o:Obj} {es0 es:Array (Int×Value)} {ep:Nat} {t0 t:SetTable} (ho:h.get? a=some o) (hx:o.ExactSet) (hd:o.data=.set es0 ep t0):
    ∃ o',(h.update a (Obj.putSet es t)).get? a=some o'∧o'.ExactSet∧o'.data=.set es (ep + 1) t:=by
  refine ⟨{ o with data:=.set es (ep + 1) t },?_,hx,rfl⟩
  have g:=Heap.get?_update_self (Obj.putSet es t) ho (by rw [putSet_of es t hd];rfl)
  rwa [putSet_of es t hd] at g
theorem Ju {g:Bool→Sem Unit} (hg:∀ (b:Bool) (s1:Shared) (R:Unit→Shared→Prop),R () s1→wpAny (model P w) A (g b) R E s1) {a:Addr} {o:Obj} {es0 es:Array (Int×Value)} {ep:Nat} {t0 t:SetTable} {L:Bool} {M:Int→Prop} {n:Nat} {wd:Bool} {R:Option Bool→Shared→Prop}
    (ho:s.heap.get? a=some o) (hx:o.ExactSet) (hd:o.data=.set es0 ep t0) (h1:ElemsOf (intKind P w) es.toList) (h2:(AO es).Nodup) (h3:∀ k,k∈AO es↔M k) (h4:es.size≤n) (h5:t.fits es.size=true) (h6:lY t) (h7:t.led=L) (hn:n < scanBound)
    (q:∀ h',Heap.SameBut a s.heap h'→DU P w h' a L M n→R (some true) { s with heap:=h' }):
    wpAny (model P w) A (do
      storeSet a es t
      if (!wd&&t.tooFull)=true then do
        g (relayAll t es (SetTable.grown es.size)).2.2
        storeSet a (relayAll t es (SetTable.grown es.size)).1 (relayAll t es (SetTable.grown es.size)).2.1
        pure (some true)
      else pure (some true)) R E s:=by
  refine wpAny_bind (wpAny_storeSet_of ho hd ?_ (fits_of_scanBound (Nat.lt_of_le_of_lt h4 hn)))
  obtain ⟨o1,g1,x1,d1⟩:=AQ (es:=es) (t:=t) ho hx hd
  have sb:=Heap.SameBut.update s.heap a (Obj.putSet es t)
  split
  · have pm:=relayAll_perm t es (SetTable.grown es.size)
    have ft:=relayAll_fits t es (SetTable.grown es.size)
    obtain ⟨tb,ld⟩:=DT (t:=t) es (SetTable.grown es.size)
    generalize relayAll t es (SetTable.grown es.size)=W at pm ft tb ld ⊢
    have kp:(AO W.1).Perm (AO es):=pm.map _
    have sz:W.1.size=es.size:=by rw [← Array.length_toList,pm.length_eq,Array.length_toList]
    refine wpAny_bind (hg _ _ _ ?_)
    refine wpAny_bind (wpAny_storeSet_of g1 d1 ?_ (fits_of_scanBound (by omega)))
    obtain ⟨o2,g2,x2,d2⟩:=AQ (es:=W.1) (t:=W.2.1) g1 x1 d1
    exact wpAny_pure (q _ (sb.trans (Heap.SameBut.update _ a _)) ⟨W.1,_,W.2.1,⟨⟨o2,g2,x2,d2⟩,h1.perm pm,kp.nodup_iff.mpr h2,fun k=>kp.mem_iff.trans (h3 k),by omega,ft,tb,ld.trans h7⟩⟩)
  · exact wpAny_pure (q _ sb ⟨es,_,t,⟨⟨o1,g1,x1,d1⟩,h1,h2,h3,h4,h5,h6,h7⟩⟩)
theorem add_int {a:Addr} {L:Bool} {M:Int→Prop} {n:Nat} {k:Int} {tk:Tok} {R:Bool→Shared→Prop} (h:DU P w s.heap a L M n) (hn:n + 1 < scanBound)
    (q:∀ h' b,Heap.SameBut a s.heap h'→DU P w h' a L (fun j=>M j∨j=k) (n + 1)→R b { s with heap:=h' }):wpAny (model P w) A (setAddHashed a (.int k tk) (hashInt k)) R E s:=by
  obtain ⟨es,ep,t,x⟩:=h
  obtain ⟨o,ho,hx,hd⟩:=x.at_
  have lt:es.size < scanBound:=Nat.lt_of_le_of_lt x.len (by omega)
  unfold setAddHashed setAddHashedIn
  refine wpAny_holding (wpAny_bind (wpAny_setState_of ho hd x.fits ?_))
  dsimp only
  rw [byScan_of (knd:=intKind P w) (x:=.int k tk) rfl lt x.elems]
  simp only [↓reduceIte]
  unfold setAddByScan
  refine wpAny_bind (wpAny_bind (wpAny_rule (wpAny_bind (wpAny_setScan_of (intKind_is P w k tk) ho hd x.fits x.elems ?_))))
  cases c:es.toList.findIdx? (fun e=>(intKind P w).is k e.2) with
  | some i=>
    obtain ⟨hi,p,_⟩:=List.findIdx?_eq_some_iff_getElem.mp c
    have there:M k:=(x.mem k).mp (List.mem_map.mpr ⟨_,List.getElem_mem hi,(Mw p).1⟩)
    exact wpAny_pure (wpAny_pure (q s.heap false (Heap.SameBut.refl a s.heap) ⟨es,ep,t,⟨⟨o,ho,hx,hd⟩,x.elems,x.nd,fun j=>(x.mem j).trans ⟨.inl,fun z=>z.elim id fun e=>e ▸ there⟩,Nat.le_succ_of_le x.len,x.fits,x.tab,x.led⟩⟩))
  | none=>
    have fresh:k∉AO es:=fun m=>by
      obtain ⟨e,he,ek⟩:=List.mem_map.mp m
      have no:=List.findIdx?_eq_none_iff.mp c e he
      obtain ⟨⟨k',hk',_⟩,_⟩:=x.elems e he
      rw [(Mw hk').1] at ek
      subst ek
      rw [hk'] at no
      cases no
    have HS:∀ (b:Bool) {s1:Shared} {R':Unit→Shared→Prop},R' () s1→wpAny (model P w) A (match b with | true=>rule "set.scan.the-table-gave-way" | false=>pure ()) R' E s1:=fun b {s1 R'} z=>by
      cases b with
      | true=>exact wpAny_rule z
      | false=>exact wpAny_pure z
    have pm:=layNew_perm t es (hashInt k) (.int k tk)
    have ft:=layNew_fits t es (hashInt k) (.int k tk)
    obtain ⟨tb,ld⟩:=HN x.tab es (hashInt k) (.int k tk)
    dsimp only
    generalize layNew t es (hashInt k) (.int k tk)=W at pm ft tb ld ⊢
    obtain ⟨es1,t1,wd,gv⟩:=W
    dsimp only at pm ft tb ld ⊢
    rw [Array.toList_push] at pm
    have e1:ElemsOf (intKind P w) es1.toList:=(x.elems.push (intKind_is P w k tk) rfl).perm pm
    have kp:(AO es1).Perm (AO es++[k]):=by
      have z:=pm.map fun e=>numOf e.2
      rwa [List.map_append] at z
    have n1:(AO es1).Nodup:=kp.nodup_iff.mpr (List.nodup_append.mpr ⟨x.nd,by simp,fun a ha b hb=>by
      have e:b=k:=by simpa using hb
      subst e
      exact fun z=>fresh (z ▸ ha)⟩)
    have m1:∀ j,j∈AO es1↔(M j∨j=k):=fun j=>by
      rw [kp.mem_iff,List.mem_append,x.mem j]
      simp
    have s1:es1.size≤n + 1:=by
      rw [← Array.length_toList,pm.length_eq,List.length_append,Array.length_toList]
      exact Nat.succ_le_succ x.len
    refine wpAny_bind (HS _ ?_)
    have Ux:t1.led=L:=ld.trans x.led
    split
    · refine wpAny_bind ?_
      rw [hashByValue_scannable 8 (x:=.int k tk) rfl]
      refine wpAny_pure ?_
      refine Ju ?_ ho hx hd e1 n1 m1 s1 ft tb Ux hn fun h' z1 z2=>?_
      · intro b s2 R' z
        exact HS b z
      · exact wpAny_pure (q h' true z1 z2)
    · refine wpAny_bind (wpAny_pure ?_)
      refine Ju ?_ ho hx hd e1 n1 m1 s1 ft tb Ux hn fun h' z1 z2=>?_
      · intro b s2 R' z
        exact HS b z
      · exact wpAny_pure (q h' true z1 z2)
end
theorem DU.to {P:Program} {w:World} {h:Heap} {a:Addr} {L:Bool} {M M':Int→Prop} {n n':Nat} (q:DU P w h a L M n) (e:∀ k,M k↔M' k) (le:n≤n'):DU P w h a L M' n':=by
  obtain ⟨es,ep,t,x⟩:=q
  exact ⟨es,ep,t,⟨x.at_,x.elems,x.nd,fun k=>(x.mem k).trans (e k),Nat.le_trans x.len le,x.fits,x.tab,x.led⟩⟩
section
variable {P:Program} {w:World} {A:Around} {R:Result→Shared→Prop} {I S:Addr} {fp wr:List Addr} {G:Array GenState→Array GenState→Prop} {n:Nat} {Pv:Nat→Value→Prop} {St:Nat→Shared→Prop} {L:Bool}
end
section
variable {P:Program} {w:World} {A:Around} {E:Value→Shared→Prop} {s:Shared}
end
end L2
set_option Elab.async false
set_option linter.all false
set_option maxRecDepth 100000
namespace L2
open PySem PySem.Spec PyProof.Rows
def Rp (h:Heap) (S:Addr) (es:Array (Int×Value)) (ep:Nat) (t:SetTable):Prop:=∃ o,h.get? S=some o∧o.data=.set es ep t
section
variable {P:Program} {w:World} {A:Around} {E:Value→Shared→Prop} {s:Shared} {it S:Addr} {es:Array (Int×Value)} {ep i n:Nat} {t:SetTable} {R:Option Value→Shared→Prop}
end
section
variable {P:Program} {w:World} {A:Around} {it S T:Addr} {es:Array (Int×Value)} {ep:Nat} {t:SetTable}
theorem Rp.keep {h h':Heap} (x:Rp h S es ep t) (k:∀ o,h.get? S=some o→h'.get? S=some o):Rp h' S es ep t:=by
  obtain ⟨o,g,d⟩:=x
  exact ⟨o,k o g,d⟩
end
structure Xw (P:Program) (w:World) (A:Around) (s s':Shared) (S it:Addr) (fp:List Addr) (vals:Array Value) (St:Nat→Heap→Prop):Prop where
  walk:Walks P w A it fp [it] vals.size (fun i v=>vals[i]?=some v) St
  st:St 0 s'.heap
  below:∀ b∈fp,b < s'.heap.objs.size
  new:∀ b∈fp,b=S∨s.heap.objs.size≤b
  old:s.heap.objs.size≤it
  gens:s'.gens=s.gens
  os:s'.os=s.os
  keep:∀ b o,s.heap.get? b=some o→s'.heap.get? b=some o
section
variable {P:Program} {w:World} {A:Around} {E:Value→Shared→Prop} {s:Shared} {S:Addr} {L:Bool} {M:Int→Prop} {n:Nat} {es:Array (Int×Value)} {ep:Nat} {t:SetTable}
end
end L2
set_option Elab.async false
set_option linter.all false
set_option maxRecDepth 100000
namespace L2
open PySem PySem.Spec PyProof.Rows
section
variable {P:Program} {w:World} {A:Around} {E:Value→Shared→Prop} {s:Shared} {S:Addr} {M:Int→Prop} {n:Nat}
end
section
variable {X:Cx} {pins:List (Addr×Obj)} {σ:St} {H:Hp} {s:Shared}
def cz (K:PySem.W.Frag) (t:TA):TE:=fun σ H Q=>t σ H fun vs H1=>∃ (p:Addr) (ns:List Int),vs=[.ref p]∧fE K H1 p (ns.map V.int)∧ns.length < 64∧∀ (D:Addr) (ks:List Int),L2.new K H1 D→ks.Pairwise (· < ·)→(∀ k,k∈ks↔k∈ns)→ks.length≤ns.length→Q (.ref D) (upd H1 D (.lst (ks.map V.int)))
end
end L2
set_option Elab.async false
set_option linter.all false
set_option maxRecDepth 100000
namespace L2
open PySem PySem.Spec PyProof.Rows
theorem Inv.Ou {X:Cx} {pins:List (Addr×Obj)} {σ:St} {H:Hp} {s:Shared} {h':Heap} {ch:List Addr} {T:Addr} {o:HO} {t':Nat} (I:Inv X pins σ H s) (k:∀ b u,b∉ch→s.heap.get? b=some u→h'.get? b=some u) (hf:∀ b∈ch,tZ X pins H b)
    (hp:s.heap.objs.size≤T) (new:iY X.prog X.w (upd H T o) h' T o):Inv X pins σ (upd H T o) { s with heap:=h',toks:=t' }:=by
  have fr:=I.gm.fresh hp
  have out:∀ b u,H b=some u→b∉ch:=fun b u e z=>by rw [(hf b z).1] at e;cases e
  refine I.step (g':=s.gens) (d':=s.drawn) (ch:=ch) (fun b hb=>⟨(hf b hb).2.2.2.1,(hf b hb).2.1,(hf b hb).2.2.2.2.1,(hf b hb).2.2.2.2.2⟩) (fun b u _ _ hc e _=>k b u hc e) (fun b u _ _ hc e _=>⟨u.slots,k b u hc e⟩)
    (fun b u _ e z=>by rw [bE (Nat.ne_of_lt (Nat.lt_of_lt_of_le (Heap.lt_size e) hp))];exact z) (fun b u hc e=>⟨u,k b u hc e⟩) (fun b xs e=>by rw [bE (bJ e fr)];exact e) (fun b u v e=>by rw [bE (bJ e fr)];exact e)
    (fun b ps e=>⟨#[],by rw [bE (bJ e fr),e];simp⟩) (fun m hm=>?_) (fun b u e=>?_) I.bare
  · obtain ⟨ob,es,ep,ho,r⟩:=hm
    exact ⟨ob,es,ep,k _ ob (fun z=>(hf _ z).2.1 rfl) ho,r⟩
  · by_cases hb:b=T
    · subst hb
      rw [av] at e
      cases e
      exact new
    · rw [bE hb] at e
      refine (I.gm b u e).GW (fun c v hc q=>k c v ?_ q) (fun c q=>by rw [bE (bJ q fr)];exact q) fun c xs q=>by rw [bE (bJ q fr)];exact q
      rcases hc with z | z
      · rw [z];exact out b u e
      · exact out c _ z
def Uy (K:PySem.W.Frag) (a:Addr):It:=⟨fun i H=>∃ xs x,fE K H a xs∧xs[i]?=some x,fun i H x H'=>∃ T v,L2.new K H T∧(∀ xs,fE K H a xs→xs[i]?=some v)∧x=.ref T∧H'=upd H T (.tup [.int i,v]),fun i H=>∃ xs,fE K H a xs∧xs.length≤i⟩
theorem K6 {P:Program} {w:World} {K:PySem.W.Frag} {es:List Expr} {k:Nat} {tp:Pos} (a e it:Addr) (ne:e≠it):Turn P w K (.Tuple es k tp) (Uy K a) [e,it] e (fun i h=>(∃ old,IsEnum h e it ((i:Nat):Int) old)∧h.IsListIter it a i) where
  mem:=by simp
  obj:=fun i h st b hb=>by
    simp only [List.mem_cons,List.not_mem_nil,or_false] at hb
    rcases hb with rfl | rfl
    · obtain ⟨⟨old,g⟩,_⟩:=st
      exact ⟨_,g,fun v z=>by cases z⟩
    · obtain ⟨_,o,g,c,d⟩:=st
      exact ⟨o,g,fun v z=>by rw [d] at z;cases z⟩
  keep:=fun i h h' st kk=>⟨let ⟨old,g⟩:=st.1;⟨old,kk e (by simp) _ g⟩,st.2.at fun o g=>kk it (by simp) o g⟩
  item:=by
    intro X hP hw hK hc i pins s σ H E I hf st hg
    subst hP hw hK
    obtain ⟨xs,x,hq,hx⟩:=hg
    obtain ⟨its,rv,p,hz⟩:=I.list hq
    obtain ⟨u,hu,ru⟩:=rv.get hx
    obtain ⟨⟨old,he⟩,hit⟩:=st
    refine wpAny_pyNext_enum_item he hit p.isList (x:=u) (by simpa using hu) ne fun h1 he1 hit1 gT sz kp=>?_
    refine ⟨_,rfl,wpAny_letOwnedTupleGo_enum he1 fun h2 he2 sb=>?_⟩
    have ltE:e < s.heap.objs.size:=Heap.lt_size he
    have gT2:h2.get? s.heap.objs.size=some { cls:=.type "tuple",data:=.seq #[.int i s.toks,u] }:=(sb.2 _ (Nat.ne_of_gt ltE)).trans gT
    have I1:Inv X pins σ (upd H s.heap.objs.size (.tup [.int i,x])) { s with heap:=h2,toks:=s.toks + 1 }:=by
      refine I.Ou (ch:=[e,it]) (fun b o hb g=>?_) hf (Nat.le_refl _) ⟨(show 2≤sizeLine by decide),[.int i s.toks,u],.cons ⟨_,rfl⟩ (.cons ru .nil),_,gT2,rfl,_,rfl⟩
      simp only [List.mem_cons,List.not_mem_nil,or_false,not_or] at hb
      exact (sb.2 b hb.1).trans (kp b o hb.1 hb.2 g)
    refine ⟨.ref s.heap.objs.size,_,I1,rfl,⟨_,x,⟨I.gm.fresh (Nat.le_refl _),I1.vc av⟩,fun ys hy=>by rw [I.FH hy hq];exact hx,rfl,rfl⟩,⟨⟨_,by simpa using he2⟩,hit1.at fun o g=>(sb.2 it (Ne.symm ne)).trans g⟩,fun b hb=>?_⟩
    have ltb:b < s.heap.objs.size:=by
      simp only [List.mem_cons,List.not_mem_nil,or_false] at hb
      rcases hb with rfl | rfl
      · exact ltE
      · obtain ⟨o,g,_⟩:=hit
        exact Heap.lt_size g
    rw [bE (Nat.ne_of_lt ltb)]
    exact (hf b hb).1
  done:=by
    intro X hP hw hK hc i pins s σ H E I hf st hg
    subst hP hw hK
    obtain ⟨xs,hq,hx⟩:=hg
    obtain ⟨its,rv,p,hz⟩:=I.list hq
    obtain ⟨⟨old,he⟩,hit⟩:=st
    obtain ⟨f0,f1,f2,f3,f4,f5⟩:=hf it (by simp)
    have hl:=rv.length
    exact wpAny_pyNext_enum_end (I.ok.hd hc) he hit p.isList (by simp;omega) fun h' eb=>⟨rfl,I.turned (t':=s.toks) (fun b o hb g=>eb b o hb g) f0 f1 f3 f4 f5⟩
  self:=fun _ _ _ _ _ st h=>let ⟨_,g⟩:=st.1;wpAny_pyIter_enum g h
section
variable {X:Cx}
def Qe (K:PySem.W.Frag) (tl:TA):TI:=fun σ H R=>tl σ H fun vs H1=>∃ a,vs=[.ref a]∧(∃ xs,fE K H1 a xs)∧R (Uy K a) H1
theorem Uz {l:Expr} {t:TA} {es:List Expr} {k:Nat} {p pos tp:Pos} (hg:Gl X "enumerate") (hm:X.mg "enumerate"=none) (ha:JA X [l] t) (hs:starEach [l] X.env=(false,eval l X.env)::starEach [] X.env:=by rfl):
    JI X (.Tuple es k tp) (.Call (.Name "enumerate" p) [l] [] pos) (Qe X.K t):=⟨by
  intro pins s σ H R I h
  refine Call_ (Ay I hg hm DN (PyProof.Rows.callWith_type1 (eo (ha.h pos pins s σ H _ I h) fun us s1 ⟨vs,H1,I1,r1,q1⟩=>?_) hs rfl))
  obtain ⟨a,rfl,⟨xs,hx⟩,q⟩:=q1
  obtain ⟨u,rfl,ru⟩:=vals1 r1
  cases ru
  obtain ⟨its,rv,ht,hz⟩:=I1.list hx
  refine call_enumerate_list ht.isList fun h2 he hit sz kp=>?_
  have I2:Inv X pins σ H1 { s1 with heap:=h2 }:=I1.kept (t':=s1.toks) kp
  refine wpAny_pyIter_enum he ⟨_,[s1.heap.objs.size + 1,s1.heap.objs.size],_,Uy X.K a,H1,rfl,I2,K6 a _ _ (Nat.succ_ne_self _),⟨⟨_,he⟩,hit⟩,fun b hb=>?_,q⟩
  simp only [List.mem_cons,List.not_mem_nil,or_false] at hb
  have le:s1.heap.objs.size≤b:=by
    rcases hb with rfl | rfl
    · exact Nat.le_succ _
    · exact Nat.le_refl _
  exact I1.NK le (I1.gm.fresh le)⟩
theorem AR:gR X (.type "tuple") (fun xs H Q=>∃ (p:Addr) (ys:List V),xs=[.ref p]∧H p=some (.lst ys)∧∀ l,L2.new X.K H l→Q (.ref l) (upd H l (.tup ys))):=by
  intro pins s σ H xs us Q I r h
  obtain ⟨p,ys,e,hq,q⟩:=h
  refine eo (B7 pins s σ H xs us (fun v H'=>∃ l,H l=none∧v=.ref l∧H'=upd H l (.tup ys)) I r ⟨p,ys,e,.inl ⟨fE.of hq,fun l hl=>⟨l,hl,rfl,rfl⟩⟩⟩) fun u s' ⟨v,H',I',rv,l,hl,e1,e2⟩=>?_
  subst e1 e2
  exact ⟨_,_,I',rv,q l ⟨hl,I'.vc av⟩⟩
end
section
variable {K:PySem.W.Frag} {g:TG} {tt:TT} {te:TE} {D a:Addr} {Q:Hp→Prop} {σ:St} {H:Hp} {xs:List V}
theorem cA {ta:TA} {src:List (Option Nat)} {Q:VK}:Rg K (Qe K ta) src g tt te σ H Q=ta σ H (fun vs H1=>∃ a,vs=[.ref a]∧(∃ xs,fE K H1 a xs)∧∀ D,L2.new K H1 D→iy (Uy K a) g tt te D (fun H'=>Q (.ref D) H') (pick σ src) (upd H1 D (.lst []))):=rfl
theorem Ov (Pv:Nat→List V→St→Hp→Prop) (h0:Pv 0 [] σ H) (hl:∀ i acc σ H,i≤xs.length→Pv i acc σ H→fE K H a xs)
    (hs:∀ i x acc σ H T,xs[i]?=some x→Pv i acc σ H→L2.new K H T→g (.ref T) σ (upd H T (.tup [.int i,x])) fun σ2 H2=>tt σ2 H2 fun b H3=>if b=true then te σ2 H3 fun v H4=>H4 D=some (.lst acc)∧acc.length < sizeLine∧Pv (i + 1) (acc++[v]) σ2 (upd H4 D (.lst (acc++[v]))) else Pv (i + 1) acc σ2 H3)
    (hd:∀ acc σ H,Pv xs.length acc σ H→Q H):iy (Uy K a) g tt te D Q σ H:=by
  refine DR (n:=xs.length) Pv h0 (fun i acc σ H hi h=>⟨xs,_,hl i acc σ H (Nat.le_of_lt hi) h,List.getElem?_eq_getElem hi⟩) (fun acc σ H h=>⟨xs,hl _ acc σ H (Nat.le_refl _) h,Nat.le_refl _⟩) (fun i acc σ H x H' hi h hy=>?_) hd
  obtain ⟨T,v,nT,hv,rfl,rfl⟩:=hy
  exact hs i v acc σ _ T (hv xs (hl i acc σ _ (Nat.le_of_lt hi) h)) h nT
end
section
variable {X:Cx}
end
end L2
set_option Elab.async false
set_option linter.all false
set_option maxRecDepth 100000
namespace L2
open PySem PySem.Spec PyProof.Rows
section
variable {X:Cx}
end
section
variable {K:PySem.W.Frag} {ta:TA} {g:TG} {tb:TS} {D:Ends} {σ:St} {H:Hp} {a b:Addr} {xs ys:List V}
end
section
variable {X:Cx}
end
mutual
def wt:PyData→Nat
  | .none=>1
  | .bool _=>1
  | .int _=>1
  | .str _=>1
  | .list ds=>C3 ds + 1
  | .tuple ds=>C3 ds + 1
  | .dict _=>1
def C3:List PyData→Nat
  | []=>0
  | d::ds=>wt d + C3 ds
end
mutual
def bare:PyData→Bool
  | .none=>true
  | .int i=>decide (i.natAbs.log2 < 1920)
  | .list ds=>qe ds
  | .tuple ds=>qe ds
  | _=>false
def qe:List PyData→Bool
  | []=>true
  | d::ds=>bare d&&qe ds
end
theorem Ga (ts:List Str):(listText ts).length≤piled ts + 2:=by
  cases ts with
  | nil=>exact Nat.le_of_eq rfl
  | cons t r=>
    have h:=textFrom_length_pos r 1 (("[":Str)++(if (0:Nat) > 0 then ", " else "":String)++t) (Nat.succ_pos 0)
    have e:((("[":Str)++(if (0:Nat) > 0 then ", " else "":String)++t)).length=1 + t.length:=by
      rw [strLen_append,strLen_append];rfl
    have hX:(listText (t::r)).length=(textFrom 0 "[" (t::r)).length + 1:=by
      show (textFrom 0 "[" (t::r)++"]").length=_
      rw [strLen_append];rfl
    have hY:(textFrom 0 "[" (t::r)).length=(textFrom 1 (("[":Str)++(if (0:Nat) > 0 then ", " else "":String)++t) r).length:=rfl
    rw [hX,hY,h,e,piled_cons];omega
theorem DV (ts:List Str):(tupleText ts).length≤piled ts + 3:=by
  unfold tupleText
  rw [strLen_append,strLen_append]
  have e1:((("(":String):Str)).length=1:=rfl
  have e3:(((if ts.length==1 then ",)" else ")":String):Str)).length≤2:=by split <;> decide
  rw [e1]
  by_cases h:ts=[]
  · subst h
    have:(Str.join ", " []).length=0:=rfl
    omega
  · have:=join_length_add ts h
    omega
mutual
theorem shown_le:∀ {d:PyData},bare d=true→d.shown.length + 4≤1930 * wt d
  | .none,_=>by simp only [PyData.shown,wt];decide
  | .int i,h=>by
    simp only [bare,decide_eq_true_eq] at h
    have:=int_text_len_1921 h
    simp only [PyData.shown,wt]
    omega
  | .list ds,h=>by
    simp only [bare] at h
    have:=shownAll_le h
    have l:=Ga (PyData.shownAll ds)
    simp only [PyData.shown,wt]
    omega
  | .tuple ds,h=>by
    simp only [bare] at h
    have:=shownAll_le h
    have l:=DV (PyData.shownAll ds)
    simp only [PyData.shown,wt]
    omega
  | .bool _,h=>by simp [bare] at h
  | .str _,h=>by simp [bare] at h
  | .dict _,h=>by simp [bare] at h
theorem shownAll_le:∀ {ds:List PyData},qe ds=true→piled (PyData.shownAll ds)≤1930 * C3 ds
  | [],_=>by simp [PyData.shownAll,piled,C3]
  | d::ds,h=>by
    simp only [qe,Bool.and_eq_true] at h
    have h1:=shown_le h.1
    have h2:=shownAll_le h.2
    simp only [PyData.shownAll,piled_cons,C3]
    omega
end
mutual
theorem K7:∀ {d:PyData},bare d=true→d.showable=true∧d.hasDict=false
  | .none,_=>by simp only [PyData.showable,PyData.hasDict];exact ⟨trivial,trivial⟩
  | .int i,h=>by
    simp only [bare] at h
    simp only [PyData.showable,PyData.hasDict]
    exact ⟨h,trivial⟩
  | .list ds,h=>by
    simp only [bare] at h
    simp only [PyData.showable,PyData.hasDict]
    exact qf h
  | .tuple ds,h=>by
    simp only [bare] at h
    simp only [PyData.showable,PyData.hasDict]
    exact qf h
  | .bool _,h=>by simp [bare] at h
  | .str _,h=>by simp [bare] at h
  | .dict _,h=>by simp [bare] at h
theorem qf:∀ {ds:List PyData},qe ds=true→PyData.showableAll ds=true∧PyData.hasDictAll ds=false
  | [],_=>by simp [PyData.showableAll,PyData.hasDictAll]
  | d::ds,h=>by
    simp only [qe,Bool.and_eq_true] at h
    have h1:=K7 h.1
    have h2:=qf h.2
    simp only [PyData.showableAll,PyData.hasDictAll,h1.1,h1.2,h2.1,h2.2,Bool.and_self,Bool.or_self]
    exact ⟨trivial,trivial⟩
end
section
variable {X:Cx}
end
end L2
set_option Elab.async false
set_option linter.all false
set_option maxRecDepth 100000
namespace PySem
open Sem (wp)
end PySem
namespace PySem
namespace F
end F
section
variable {prog:Program} {w:World} {A:Around} {E:Value→Shared→Prop} {s:Shared}
end
section
variable {prog:Program} {w:World} {A:Around} {R:Result→Shared→Prop} {I:Addr} {fp wr:List Addr} {G:Array GenState→Array GenState→Prop} {n:Nat} {P:Nat→Value→Prop} {St:Nat→Shared→Prop} {K:Type} [DecidableEq K] {knd:KeyKind prog w K}
end
end PySem
namespace PySem
section
variable {prog:Program} {w:World} {K:Type} [DecidableEq K] {knd:KeyKind prog w K} {A:Around} {E:Value→Shared→Prop} {s:Shared}
end
end PySem
namespace L2
open PySem PySem.Spec PyProof.Rows
section
variable {X:Cx}
end
end L2
set_option Elab.async false
set_option linter.all false
set_option maxRecDepth 100000
namespace L2
open PySem PySem.Spec PyProof.Rows
section
variable {X:Cx} {pins:List (Addr×Obj)} {σ:St} {H:Hp} {s:Shared}
end
section
variable {X:Cx} {sc:Scope} {N:List Str} {src:List (Option Nat)} {tg iter elt:Expr} {ifs:List Expr} {td:TE} {g:TG} {tt:TT} {te:TE} {pos:Pos}
end
section
variable {prog:Program} {w:World} {A:Around} {R:Result→Shared→Prop} {s:Shared}
end
section
variable {X:Cx} {sc:Scope} {N:List Str} {src:List (Option Nat)} {tg iter kx vx:Expr} {ifs:List Expr} {wi:TI} {g:TG} {tt:TT} {tk tv:TE} {pos:Pos}
end
end L2
set_option Elab.async false
set_option linter.all false
set_option maxRecDepth 100000
set_option maxHeartbeats 4000000
namespace L2
open PySem PySem.Spec PyProof.Rows
section
variable {P:Program} {w:World} {A:Around} {E:Value→Shared→Prop} {s:Shared} {S:Addr} {vs:List (Key×Value)} {ep:Nat}
end
section
variable {X:Cx}
end
end L2
set_option Elab.async false
set_option linter.all false
set_option maxRecDepth 100000
set_option maxHeartbeats 4000000
namespace L2
open PySem PySem.Spec PyProof.Rows
section
variable {X:Cx}
theorem Jw:∀ {ts:List Str} {its:List Value},Vals (ts.map V.str) its→∃ l:List (Str×Tok),its=strValues l∧l.map (·.1)=ts
  | [],_,r=>by rw [List.map_nil] at r;cases r;exact ⟨[],rfl,rfl⟩
  | t::ts,_,r=>by
    rw [List.map_cons] at r
    cases r with
    | cons h hr=>
      obtain ⟨u,rfl⟩:=h
      obtain ⟨l,rfl,e⟩:=Jw hr
      exact ⟨(t,u)::l,rfl,by rw [List.map_cons,e]⟩
def DW (sep:Str) (ts:List Str):Nat:=ts.foldl (fun n x=>n + x.length + sep.length) 0
def rJoin (K:PySem.W.Frag):V→List V→Hp→VK→Prop:=fun x vs H Q=>∃ (sep:Str) (p:Addr) (ts:List Str),x=.str sep∧vs=[.ref p]∧fE K H p (ts.map V.str)∧DW sep ts≤sizeLine∧(Str.join sep ts).length≤sizeLine∧Q (.str (Str.join sep ts)) H
theorem Ow:KJ X "str.join" (rJoin X.K):=by
  intro pins s σ H x vs v us Q I rx rv h
  obtain ⟨sep,p,ts,rfl,rfl,hx,hl,hj,q⟩:=h
  obtain ⟨t,rfl⟩:=rx
  obtain ⟨u,rfl,ru⟩:=vals1 rv
  cases ru
  obtain ⟨its,r,pl,hz⟩:=I.list hx
  obtain ⟨l,rfl,el⟩:=Jw r
  refine call_meets PySem.F.slot_str_join (typeIs_str _ _ _) PySem.F.entry_str_join (PySem.F.args_str_join_2 _ _) (meets_str_join_list sep t p l ?_) ⟨pl.isList,?_⟩
  · rw [el]
    unfold Builtin.Str.tooLong
    rw [List.foldl_toArray]
    simpa [DW] using hl
  · have fin:∀ t' k,EP X pins σ Q (.str (Str.join sep ts) t') { s with toks:=k }:=fun t' k=>⟨.str _,H,I.tok k,⟨t',rfl⟩,q⟩
    have eg:∀ l':List (Str×Tok),Builtin.Str.glued sep (l'.map (·.1))=Str.join sep (l'.map (·.1)):=fun l'=>StrLaws.glued_eq_join sep _
    match l,el with
    | [],el=>
      have e:=eg []
      rw [el] at e
      show _∧_
      rw [el,e]
      exact ⟨hj,fin _ _⟩
    | [pp],el=>
      have e:pp.1=Str.join sep ts:=by rw [← el];rfl
      show wants (EP X pins σ Q) X.xe (Except.ok (Flow.ret (Value.str pp.1 pp.2))) s
      rw [e]
      exact fin _ _
    | a::b::r,el=>
      show _∧_
      rw [show Builtin.Str.glued sep ((a::b::r).map (·.1))=Str.join sep ts from by rw [← el];exact eg _]
      exact ⟨hj,fin _ _⟩
end
end L2
set_option Elab.async false
set_option linter.all false
set_option maxRecDepth 100000
set_option maxHeartbeats 4000000
namespace L2
open PySem PySem.Spec PyProof.Rows
theorem Ab {a b:Str} (h:a.cps.toList=b.cps.toList):a=b:=Str.ext' (Array.toList_inj.1 h)
theorem Jx (a b:Str):(a++b).cps.toList=a.cps.toList++b.cps.toList:=by rw [Str.cps_append,Array.toList_append]
section
variable {X:Cx}
end
end L2
set_option Elab.async false
set_option linter.all false
set_option maxRecDepth 100000
set_option maxHeartbeats 4000000
namespace L2
open PySem PySem.Spec PyProof.Rows
section
variable {X:Cx}
end
end L2
set_option Elab.async false
set_option linter.all false
set_option maxRecDepth 100000
set_option maxHeartbeats 4000000
namespace L2
open PySem PySem.Spec PyProof.Rows
end L2
namespace L2
open PySem PySem.Spec PyProof.Rows
section
variable {prog:Program} {w:World} {A:Around} {E:Value→Shared→Prop} {s:Shared}
structure ZT (g:Heap) (z ti to p1 p2 t1 t2:Addr) (out:Value) (k1 k2:Nat):Prop where
  zip:IsZip g z ti to out
  its:IsPair g ti (.ref p1) (.ref p2)
  fst:IsTupIter g p1 t1 k1
  snd:IsTupIter g p2 t2 k2
end
section
variable {X:Cx}
end
section
variable {K:PySem.W.Frag} {g:TG} {tt:TT} {te:TE} {D:Addr} {σ:St} {H:Hp} {Q:Hp→Prop} {a b:Addr} {xs ys:List V}
end
section
variable {X:Cx}
end
end L2
set_option Elab.async false
set_option linter.all false
set_option maxRecDepth 100000
set_option maxHeartbeats 4000000
namespace L2
open PySem PySem.Spec PyProof.Rows
def Nu (P:Program) (w:World):DA:=fun outer H s E e s'=>∃ (a:Addr) (cls a0:Value) (B:Heap) (H':Hp),e=.ref a∧s'.os=s.os∧AllBare s'.gens∧Heap.FlyingW B outer a cls a0 s'.heap∧Un (CL outer) [] H H' s.heap s'.heap∧
  (∀ b o,s.heap.get? b=some o→H b=none→b∉CL outer→B.get? b=some o)∧(∀ b o,s.heap.get? b=some o→b∉CL outer→∃ o',B.get? b=some o')∧zJ P w H' B∧s.heap.get? a=none∧E cls none H'
section
variable {X:Cx} {E:XK}
end
section
variable {P:Program} {w:World} {K:PySem.W.Frag} {mg:Str→Option Value} {base:Heap} {N:List Str} {qual:Str} {scope:Scope} {f:Addr} {cd:Value} {A:Around} {outer:List Env} {s0:Shared} {H0:Hp} {E:XK} {CX:DA}
structure Exc (K:PySem.W.Frag) (C:Addr):Prop where
  is:PySem.W.excIn K C [.type "ValueError",.type "Exception",.type "BaseException",.type "object"] "ValueError.__new__"=true
theorem Exc.obj {h:Heap} {C:Addr} (X:K.In h) (e:Exc K C):∃ bm Nn nm q bs hdct sn sub ab col dd k0 k1 k2 k3 k5 mN,h.get? C=some (excClassObj nm q C Nn bs bm hdct sn sub ab col dd k0 k1 k2 k3 k5 "ValueError.__new__")∧h.Ns Nn mN∧mN "__init__"=none∧OwnTail h [.type "ValueError",.type "Exception",.type "BaseException",.type "object"] bm:=by
  have q:=e.is
  unfold PySem.W.excIn at q
  split at q
  · rename_i dd cd sl ho
    split at q
    · rename_i C' bm k0 k1 k2 k3 n k5 hm hs
      simp only [Bool.and_eq_true,beq_iff_eq,Bool.not_eq_true'] at q
      obtain ⟨⟨⟨⟨⟨rfl,rfl⟩,hdel⟩,ht⟩,gm⟩,hni⟩:=q
      obtain ⟨nm,bs,mro,ns,qn,hd,sn,sub,ab,col,del⟩:=cd
      have e1:mro=.ref C'::bm:=hm
      have e2:del=false:=hdel
      subst e1 e2
      obtain ⟨l⟩:=sl
      have e3:l=[k0,k1,k2,k3,some (.builtin "ValueError.__new__"),k5]:=hs
      subst e3
      exact ⟨bm,ns,nm,qn,bs,hd,sn,sub,ab,col,dd,k0,k1,k2,k3,k5,_,X _ _ ho,.of_isNs (PySem.W.isNs_of_in X gm),PySem.W.nsMap_none_of_in X gm hni,PySem.W.tail_of_in X ht⟩
    · cases q
  · cases q
end
end L2
namespace L2
open PySem PySem.Spec PyProof.Rows PySem.W PySem.Calls PySem.Builtin PySem.Builtin.ObjectAttr PySem.Builtin.Getset_descriptor
structure ara (K:PySem.W.Frag) (C:Addr):Prop where
  ga:findIn K (.ref C) "__getattribute__"=some (some (.builtin "BaseException.__getattribute__"))
  gh:findIn K (.ref C) "__getattr__"=some none
  cl:findIn K (.ref C) "__class__"=some (some (.builtin "object.__class__"))
  mo:mroIn K C (.type "object")=some true
  mb:mroIn K C (.type "BaseException")=some true
  gt:specialIn K (.builtin "object.__class__") "__get__"=some (some (.builtin "getset_descriptor.__get__"))
  tk:takesIn K (.builtin "object.__class__")=some true
  is:(clsIn K C).isSome=true
def XAt (a C:Addr) (h:Heap):Prop:=∃ o,h.get? a=some o∧o.cls=.ref C
section
variable {K:PySem.W.Frag} {prog:Program} {w:World} {A:Around} {E:Value→Shared→Prop} {s:Shared} {a C:Addr}
theorem XAt.ty {M:Model} {h:Heap} (x:XAt a C h):Looks M h (typeOf (.ref a)) (.ref C):=by
  obtain ⟨o,e,c⟩:=x
  exact c ▸ (Looks.ld e).andThen .now
end
end L2
set_option Elab.async false
set_option linter.all false
set_option maxRecDepth 100000
set_option maxHeartbeats 4000000
namespace L2
open PySem PySem.Spec PyProof.Rows
def Cx.Qf (X:Cx) (xe:Value→Shared→Prop) (pn:List (Addr×Obj)):Cx:={ X with xe:=xe,pn:=pn }
def Cx.HU (X:Cx) (a:Addr) (xe:Value→Shared→Prop) (pn:List (Addr×Obj)):Cx:={ X with A:=X.A.mark (some (.ref a)),calm:=false,xe:=xe,pn:=pn }
section
variable {X:Cx} {pins apL:List (Addr×Obj)} {σ:St} {H H':Hp} {s:Shared} {xe:Value→Shared→Prop}
theorem Inv.Qf (I:Inv X pins σ H s):Inv (X.Qf xe (X.pn++pins)) [] σ H s:=
  ⟨⟨I.ok.mod,I.ok.kind,I.ok.glob,I.ok.blt,I.ok.above,I.ok.inj,I.ok.has,I.ok.Nz,I.ok.hd,I.ok.frames,I.ok.Qs,I.ok.TN,I.ok.bs,I.ok.Jb,I.ok.FD,I.ok.GX,I.ok.rD,I.ok.LG⟩,I.os,I.bare,I.base,I.loc,I.cell,I.free,I.mU,fun p hp=>I.pin p (by rw [List.append_nil] at hp;exact hp),I.gm,I.len⟩
theorem Inv.HU {a:Addr} (I:Inv X pins σ H s):Inv (X.HU a xe (X.pn++pins)) [] σ H s:=
  ⟨⟨I.ok.mod,I.ok.kind,I.ok.glob,I.ok.blt,I.ok.above,I.ok.inj,I.ok.has,I.ok.Nz,(fun z=>nomatch z),I.ok.frames,I.ok.Qs,I.ok.TN,I.ok.bs,I.ok.Jb,I.ok.FD,I.ok.GX,I.ok.rD,I.ok.LG⟩,I.os,I.bare,I.base,I.loc,I.cell,I.free,I.mU,fun p hp=>I.pin p (by rw [List.append_nil] at hp;exact hp),I.gm,I.len⟩
end
def Ends.gone (D:Ends) (i:Nat):Ends:={ nx:=fun σ H=>D.nx (σ.set i none) H,rt:=D.rt,bk:=fun σ H=>D.bk (σ.set i none) H,ct:=fun σ H=>D.ct (σ.set i none) H }
section
variable {X:Cx}
end
end L2
set_option Elab.async false
set_option linter.all false
set_option maxRecDepth 100000
set_option maxHeartbeats 4000000
namespace L2
open PySem PySem.Spec PyProof.Rows
def UA (P:Program) (w:World) (K:PySem.W.Frag) (mg:Str→Option Value) (base:Heap) (N:List Str) (qual:Str) (scope:Scope) (f:Addr) (cd:Value) (A:Around) (outer:List Env) (s:Shared) (H:Hp) (E:XK) (cl:List (Str×Addr)):Cx where
  prog:=P
  w:=w
  K:=K
  mg:=mg
  base:=base
  A:=A.deeper (PySem.W.envX qual scope s.heap.objs.size f cd cl)
  N:=N
  s₀:=s
  H₀:=H
  env:=PySem.W.envX qual scope s.heap.objs.size f cd cl
  outer:=outer
  stack:=PySem.W.envX qual scope s.heap.objs.size f cd cl::outer
  ex:=[]
  calm:=true
  fn:=fun _=>false
  pn:=[]
  xe:=fun e s'=>wpAny (model P w) (A.deeper (PySem.W.envX qual scope s.heap.objs.size f cd cl)) (leaving (PySem.W.envX qual scope s.heap.objs.size f cd cl) e) (fun _ s''=>Nu P w outer H s E e s'') (fun e' s''=>Nu P w outer H s E e' s'') s'
structure UB (K:PySem.W.Frag) (H:Hp) (h:Heap) (f:Addr) (name qual:Str) (params:Arguments) (body:Expr) (scope:Scope) (cl:List (Str×Addr)) (pm Gb:Value) (c':Addr) (N:List Str) (σ:St):Prop where
  obj:h.get? f=some (PySem.W.kla_obj name qual params body scope cl pm c' Gb)
  code:h.CodeRec (.ref c') qual
  free:∀ x c,cl.lookup x=some c→H c=none∧∃ v,h.IsCell c v
  inj:∀ x y c,cl.lookup x=some c→cl.lookup y=some c→x=y
  has:∀ x,(scope.names.lookup x=some .cell∨scope.names.lookup x=some .free)→∃ c,cl.lookup x=some c
  vals:∀ (i:Nat) (x:Str) (v:V),N[i]?=some x→σ[i]?=some (some v)→∃ u c,RelV v u∧cl.lookup x=some c∧h.IsCell c (some u)∧scope.names.lookup x=some .free
  len:σ.length=N.length
section
variable {P:Program} {w:World} {K:PySem.W.Frag} {mg:Str→Option Value} {base:Heap} {N:List Str} {name qual:Str} {scope:Scope} {f c':Addr} {A:Around} {outer:List Env} {s:Shared} {H:Hp} {E:XK} {cl:List (Str×Addr)} {params:Arguments} {body:Expr} {pm Gb:Value} {σ:St} {Q:VK} {k:Nat} {te:TE}
end
section
variable {X:Cx} {N:List Str} {name qual:Str} {scope:Scope} {f c':Addr} {E:XK} {cl:List (Str×Addr)} {params:Arguments} {body:Expr} {pm Gb:Value} {σl:St} {k i:Nat} {te:TE} {x:Str} {p pos:Pos}
theorem UB.on {pins:List (Addr×Obj)} {σ:St} {s:Shared} (L:UB X.K X.H₀ X.s₀.heap f name qual params body scope cl pm Gb c' N σl) (hf:X.H₀ f=none∧f∉X.fs) (hc:X.H₀ c'=some (.ext fun h=>h.CodeRec (.ref c') qual)) (hcl:∀ x c,cl.lookup x=some c→c∉X.fs) (hex:X.ex=[])
    (I:Inv X pins σ X.H₀ s):UB X.K X.H₀ s.heap f name qual params body scope cl pm Gb c' N σl:=by
  have nx:∀ b:Addr,b∉X.ex:=fun b=>by rw [hex];simp
  have ck:∀ y c v,cl.lookup y=some c→X.s₀.heap.IsCell c v→s.heap.IsCell c v:=fun y c v e ⟨o,q,d⟩=>⟨o,I.base.keep c o q (L.free y c e).1 (hcl y c e) (nx c),d⟩
  refine ⟨I.base.keep f _ L.obj hf.1 hf.2 (nx f),(I.gm c' _ hc).1,fun y c e=>?_,L.inj,L.has,fun j y v e1 e2=>?_,L.len⟩
  · obtain ⟨n,v,z⟩:=L.free y c e
    exact ⟨n,v,ck y c v e z⟩
  · obtain ⟨u,c,r,e,z,q⟩:=L.vals j y v e1 e2
    exact ⟨u,c,r,e,ck y c _ e z,q⟩
end
end L2
set_option Elab.async false
set_option linter.all false
set_option maxRecDepth 100000
set_option maxHeartbeats 4000000
namespace L2
open PySem PySem.Spec PyProof.Rows
def HV (H:Hp) (ps:Array Value) (qual:Str):Prop:=TriplesOk ps.toList∧∀ q v,codeAmong q ps.toList=some v→∃ c',v=.ref c'∧H c'=some (.ext fun h=>h.CodeRec (.ref c') qual)
structure aaO (X:Cx) (c P:Addr):Prop where
  code:X.env.code=.ref c
  hd:PySem.W.CodeHd X.base c P
  bt:∃ bm ob,X.mg "__builtins__"=some (.ref bm)∧bm≠builtinsNs∧X.base.get? bm=some ob∧ob.cls=.type "module"∧ob.dict=some builtinsNs∧ob.data=.plain
section
variable {X:Cx} {pins:List (Addr×Obj)} {σ:St} {H:Hp} {s:Shared} {c P:Addr} {ps:Array Value} {params:Arguments} {body:Expr} {scope:Scope} {pos:Pos} {A:Around} {E:Value→Shared→Prop} {Q:Value→Shared→Prop}
structure Made (X:Cx) (pins:List (Addr×Obj)) (σ:St) (H:Hp) (P:Addr) (qual:Str) (params:Arguments) (body:Expr) (scope:Scope) (H':Hp) (s':Shared) (f c':Addr) (pm Gb:Value):Prop where
  inv:Inv X pins σ H' s'
  tab:∃ ps',H' P=some (.Ja ps')∧HV H' ps' qual
  code:H' c'=some (.ext fun h=>h.CodeRec (.ref c') qual)
  keep:∀ b o,H b=some o→b≠P→H' b=some o
  mod:∀ b xs,H b=none→lR X.K b=some xs→H' b=none
  obj:s'.heap.get? f=some (PySem.W.kla_obj "<lambda>" qual params body scope (jf X.env scope.names []) pm c' Gb)
  free:H' f=none
  above:X.s₀.heap.objs.size≤f
end
section
variable {X:Cx} {pins:List (Addr×Obj)} {σ:St} {H H':Hp} {s':Shared} {P f c':Addr} {qual:Str} {params:Arguments} {body:Expr} {scope:Scope} {pm Gb:Value} {N:List Str} {src:List (Option Nat)}
theorem Made.lam (M:Made X pins σ H P qual params body scope H' s' f c' pm Gb) (c:vY X scope N src):UB X.K H' s'.heap f "<lambda>" qual params body scope (jf X.env scope.names []) pm Gb c' N (pick σ src):=by
  have I:=M.inv
  refine ⟨M.obj,(I.gm c' _ M.code).1,fun x d e=>⟨I.mU x d (dI e),I.cell x d (dI e)⟩,fun x y d e1 e2=>I.ok.inj x y d (dI e1) (dI e2),fun x h=>?_,fun i x v e1 e2=>?_,by unfold pick;rw [List.length_map];exact c.len.symm⟩
  · have m:(x,NameKind.free)∈scope.names:=by
      rcases h with h | h
      · exact absurd rfl (c.cell _ (lookup_mem h))
      · exact lookup_mem h
    obtain ⟨d,hd⟩:=I.ok.has x (c.free m)
    exact ⟨d,vW m hd⟩
  · obtain ⟨j,e3,e4⟩:=C1 e2
    obtain ⟨a1,a2,a3⟩:=c.at_ e1 e3
    obtain ⟨m,_,hl⟩:=I.loc
    have vis:TM X.env.scope x:=by
      rcases a2 with z | z
      · exact .inr (.inl z)
      · exact .inr (.inr z)
    obtain ⟨u,r,q⟩:=hl j x v a1 e4 vis
    rcases q with ⟨z,_⟩ | ⟨_,d,e,z⟩
    · rw [z] at a2
      rcases a2 with z | z <;> cases z
    · exact ⟨u,d,r,vW (lookup_mem a3) e,z,a3⟩
theorem Made.apart (M:Made X pins σ H P qual params body scope H' s' f c' pm Gb) (TR:∀ x,X.fn x=true):f∉CL X.stack∧∀ x d,(jf X.env scope.names []).lookup x=some d→d∉CL X.stack:=by
  have I:=M.inv
  have old:∀ b,X.s₀.heap.objs.size≤b→b∉X.fs:=fun b hb z=>by
    obtain ⟨_,o,e,_⟩:=I.ok.rD.mem z
    exact absurd (Nat.lt_of_lt_of_le (Heap.lt_size e) hb) (Nat.lt_irrefl _)
  refine ⟨fun z=>?_,fun x d e z=>?_⟩
  · rcases List.mem_cons.mp (I.uP f z) with q | q
    · obtain ⟨m,⟨o,es,ep,e,k,_⟩,_⟩:=I.loc
      rw [← q,M.obj] at e
      cases e
      cases k
    · exact old f M.above q
  · rcases List.mem_cons.mp (I.uP d z) with q | q
    · exact I.PZ x d (dI e) q
    · exact old d (I.ok.Nz x d (TR x) (dI e)) q
end
section
variable {P:Program} {w:World} {K:PySem.W.Frag} {mg:Str→Option Value} {base:Heap} {x qual:Str} {st:Stmt} {f:Addr} {fd:FuncData} {N ps:List Str} {k:Nat}
theorem fc.okX {sp:Sp} (F:fc K x qual st f fd) (S:ay N ps (aa st)) (len:∀ vs H Q E,sp vs H Q E→vs.length=ps.length)
    (mW:∀ (cJ:Value) (A:Around) (outer:List Env) (s:Shared) (H:Hp) (vs:List V) (Q:VK) (E:XK),dU k (A.deeper (envOfC qual (aa st) s.heap.objs.size f cJ))→sp vs H Q E→
      ∃ t,JB (vM (Nu P w) P w K mg base N qual (aa st) f cJ A outer s H E) (ah st) t∧t { nx:=fun _ H'=>Q .eO H',rt:=Q } (start N vs) H):aL P w K mg base (Nu P w) (k + 1) f fd ps sp:=by
  obtain ⟨oc,od,kV,doc,pm,an,cJ,ct,Fx,rfl,lk,Du⟩:=F.ex
  refine FL lk Du S len fun A outer s H vs Q E hr yg=>?_
  obtain ⟨t,h,q⟩:=mW cJ A outer s H vs Q E hr yg
  exact ⟨t,h.h,q⟩
theorem fc.Xx {sp:Sp} {c:Addr} {oc:Value} {od an:Option Addr} {kV doc pm ct:Value} {Fx:Array (Option Value)} (lk:K.lookup f=some ⟨oc,od,.func (PySem.W.fnOf x qual (ai st) (ah st) (aa st) .none kV doc pm an (.ref c) ct),Fx⟩) (Du:PySem.W.codeIn K (.ref c) qual=true) (S:ay N ps (aa st)) (len:∀ vs H Q E,sp vs H Q E→vs.length=ps.length)
    (mW:∀ (A:Around) (outer:List Env) (s:Shared) (H:Hp) (vs:List V) (Q:VK) (E:XK),dU k (A.deeper (envOfC qual (aa st) s.heap.objs.size f (.ref c)))→sp vs H Q E→
      ∃ t,JB (vM dF P w K mg base N qual (aa st) f (.ref c) A outer s H E).Jd (ah st) t∧t { nx:=fun _ H'=>Q .eO H',rt:=Q } (start N vs) H):aL P w K mg base dF (k + 1) f (PySem.W.fnOf x qual (ai st) (ah st) (aa st) .none kV doc pm an (.ref c) ct) ps sp:=by
  refine FL lk Du S len fun A outer s H vs Q E hr yg=>?_
  obtain ⟨t,h,q⟩:=mW A outer s H vs Q E hr yg
  exact ⟨t,h.h.Jd,q⟩
structure Jy (P:Program) (w:World) (K:PySem.W.Frag) (mg:Str→Option Value) (base:Heap) (x:Str) (k:Nat) (ps:List Str) (sp:Sp):Prop where
  ex:∃ (f:Addr) (fd:FuncData),aL P w K mg base (Nu P w) k f fd ps sp∧Binds K fd ps []∧PySem.W.keepIn K (.ref f)=true∧mg x=some (.ref f)
end
end L2
set_option Elab.async false
set_option linter.all false
set_option maxRecDepth 100000
set_option maxHeartbeats 4000000
namespace L2
open PySem PySem.Spec PyProof.Rows
section
variable {X:Cx}
end
end L2
set_option Elab.async false
set_option linter.all false
set_option maxRecDepth 100000
set_option maxHeartbeats 4000000
namespace L2
open PySem PySem.Spec PyProof.Rows
structure UC (params:Arguments) (body:Expr) (scope:Scope):Prop where
  kind:scope.kind=.function
  co:scope.isCoroutine=false
  gen:scope.isGenerator=false
  cell:∀ x∈scope.names,x.2≠.cell
  bind:∀ (name qual:Str) (cl:List (Str×Addr)) (pm Gb:Value) (c':Addr),bindArgs (PySem.W.kla_fn name qual params body scope cl pm (.ref c') Gb) ⟨[],[]⟩=pure []
structure UD (K:PySem.W.Frag) (outer:List Env) (s:Shared) (H:Hp) (f c':Addr) (name qual:Str) (params:Arguments) (body:Expr) (scope:Scope) (cl:List (Str×Addr)) (pm Gb:Value) (N:List Str) (σl:St):Prop where
  lam:UB K H s.heap f name qual params body scope cl pm Gb c' N σl
  free:H f=none∧f∉CL outer
  code:H c'=some (.ext fun h=>h.CodeRec (.ref c') qual)
  cls:∀ x d,cl.lookup x=some d→d∉CL outer
  sc:UC params body scope
structure apM (P:Program) (w:World) (K:PySem.W.Frag) (mg:Str→Option Value) (base:Heap) (y:Str) (k:Nat) (tw:(XK→TE)→St→Hp→VK→Prop):Prop where
  up:∀ te te':XK→TE,(∀ E σ H Q,te E σ H Q→te' E σ H Q)→∀ σ H Q,tw te σ H Q→tw te' σ H Q
  ex:∃ fW,PySem.W.keepIn K (.ref fW)=true∧mg y=some (.ref fW)∧∀ (A:Around) (outer:List Env) (s:Shared) (H:Hp) (f c':Addr) (name qual:Str) (params:Arguments) (body:Expr) (scope:Scope) (cl:List (Str×Addr)) (pm Gb:Value) (N:List Str) (σl:St) (te:XK→TE) (Q:VK),
    (∀ E E' σ H Q Q',te E σ H Q→(∀ c x H',E c x H'→E' c x H')→(∀ v H',Q v H'→Q' v H')→te E' σ H Q')→dU (k + 2) A→zL P w K mg base A outer s H→UD K outer s H f c' name qual params body scope cl pm Gb N σl→
    (∀ (E:XK) (A':Around) (Rq:List Env) (s1:Shared),dU k (A'.deeper (PySem.W.envX qual scope s1.heap.objs.size f (.ref c') cl))→JE (UA P w K mg base N qual scope f (.ref c') A' Rq s1 H E cl) body (te E))→tw te σl H Q→
    codeAny (model P w) A (.call (.ref fW) ⟨[.ref f],[]⟩) (CR dF outer P w H s Q fun _ _ _=>False) s
structure ard (K:PySem.W.Frag) (T:Addr) (qual:Str) (H H':Hp):Prop where
  tab:∃ ps,H' T=some (.Ja ps)∧HV H' ps qual
  keep:∀ b o,H b=some o→b≠T→H' b=some o
  mod:∀ b xs,H b=none→lR K b=some xs→H' b=none
end L2
set_option Elab.async false
set_option linter.all false
set_option maxRecDepth 100000
set_option maxHeartbeats 4000000
namespace L2
open PySem PySem.Spec PyProof.Rows HT
section
variable {prog:Program} {w:World} {A:Around} {E:Value→Shared→Prop} {s:Shared}
end
theorem ir {X:Cx} {all rest:List Stmt} {t2:TS} {G:TS→Prop} (h2:JB X rest t2) (k:∀ r,JB X rest r→r=t2→∃ t,JB X all t∧G t):∃ t,JB X all t∧G t:=k t2 h2 rfl
theorem zf {CX:DA} {P:Program} {w:World} {K:PySem.W.Frag} {mg:Str→Option Value} {base:Heap} {N:List Str} {qual:Str} {scope:Scope} {f:Addr} {cd:Value} {A:Around} {outer:List Env} {s:Shared} {H:Hp} {E:XK}:(vM CX P w K mg base N qual scope f cd A outer s H E).N=N:=rfl
section
variable {X:Cx}
def Rr (K:PySem.W.Frag):R2:=fun x y H Q=>∃ a b xs ys,x=.ref a∧y=.ref b∧tupQ K H a=some xs∧tupQ K H b=some ys∧xs≠[]∧xs.length + ys.length≤sizeLine∧
  (if ys=[] then Q (.ref a) H else ∀ p,L2.new K H p→Q (.ref p) (upd H p (.tup (xs++ys))))
theorem Mx:nK X (binaryOp .Add) (Rr X.K):=by
  intro pins s σ H x y v u Q I rx ry h
  obtain ⟨a,b,xs,ys,rfl,rfl,ha,hb,hx,hz,h⟩:=h
  refine eo (N5 pins s σ H _ _ v u (fun v' H'=>(ys=[]∧v'=.ref a∧H'=H)∨(ys≠[]∧∃ l,H l=none∧v'=.ref l∧H'=upd H l (.tup (xs++ys)))) I rx ry ⟨a,b,xs,ys,rfl,rfl,cD ha,cD hb,hx,hz,fun e=>.inl ⟨e,rfl,rfl⟩,fun e l hl=>.inr ⟨e,l,hl,rfl,rfl⟩⟩) fun u' s' ⟨v',H',I',rv,q⟩=>?_
  rcases q with ⟨e,rfl,rfl⟩ | ⟨e,l,hl,rfl,rfl⟩
  · rw [if_pos e] at h
    exact ⟨_,_,I',rv,h⟩
  · rw [if_neg e] at h
    exact ⟨_,_,I',rv,h l ⟨hl,I'.vc av⟩⟩
def gz (K:PySem.W.Frag):V→Option Int→Option Int→Hp→VK→Prop:=fun x lo hi H Q=>∃ a xs,x=.ref a∧tupQ K H a=some xs∧∀ q H',tupQ K H' q=some (yh xs lo hi)→Ext K H H'→Q (.ref q) H'
def dJ (K:PySem.W.Frag):R2:=fun x y H Q=>∃ a b xs ys,x=.ref a∧y=.ref b∧tupQ K H a=some xs∧tupQ K H b=some ys∧xs≠[]∧xs.length + ys.length≤sizeLine∧∀ q H',tupQ K H' q=some (xs++ys)→Ext K H H'→Q (.ref q) H'
theorem My:nK X (binaryOp .Add) (dJ X.K):=by
  intro pins s σ H x y v u Q I rx ry h
  obtain ⟨a,b,xs,ys,rfl,rfl,ha,hb,hx,hz,h⟩:=h
  refine Mx pins s σ H _ _ v u Q I rx ry ⟨a,b,xs,ys,rfl,rfl,ha,hb,hx,hz,?_⟩
  split
  · rename_i e
    refine h a H ?_ Ext.refl
    rw [e,List.append_nil]
    exact ha
  · exact fun p np=>h p _ ao (Ext.new np)
end
structure XT (K:PySem.W.Frag) (T:Addr) (q:Str) (H H':Hp):Prop where
  Ox:∃ ps,H T=some (.Ja ps)
  tab:∃ ps,H' T=some (.Ja ps)∧HV H' ps q
  keep:∀ b o,H b=some o→b≠T→H' b=some o
  mod:∀ b xs,H b=none→lR K b=some xs→H' b=none
section
variable {K:PySem.W.Frag} {T:Addr} {q:Str} {H H1 H2:Hp}
theorem HV.ext {ps:Array Value} (h:HV H ps q) (x:∀ b o,H b=some o→(∀ ps,o≠.Ja ps)→H1 b=some o):HV H1 ps q:=⟨h.1,fun p v e=>by
  obtain ⟨c,rfl,hc⟩:=h.2 p v e
  exact ⟨c,rfl,x _ _ hc nofun⟩⟩
theorem XT.refl (h:∃ ps,H T=some (.Ja ps)∧HV H ps q):XT K T q H H:=⟨let ⟨ps,e,_⟩:=h;⟨ps,e⟩,h,fun _ _ e _=>e,fun _ _ e _=>e⟩
theorem XT.trans (x:XT K T q H H1) (y:XT K T q H1 H2):XT K T q H H2:=⟨x.Ox,y.tab,fun b o e n=>y.keep b o (x.keep b o e n) n,fun b xs e k=>y.mod b xs (x.mod b xs e k) k⟩
theorem XT.ext (x:XT K T q H H1) (y:Ext K H1 H2):XT K T q H H2:=by
  obtain ⟨ps,e,c⟩:=x.tab
  exact ⟨x.Ox,⟨ps,y.same _ _ e,c.ext fun b o h _=>y.same b o h⟩,fun b o e n=>y.same _ _ (x.keep b o e n),fun b xs e k=>y.mod b xs (x.mod b xs e k) k⟩
theorem XT.at (x:XT K T q H H1) {b:Addr} {o:HO} (h:H b=some o) (n:∀ ps,o≠.Ja ps):H1 b=some o:=x.keep b o h fun z=>by
  obtain ⟨ps,e⟩:=x.Ox
  rw [z,e] at h
  cases h
  exact n _ rfl
theorem XT.tup (x:XT K T q H H1) {a:Addr} {vs:List V} (h:tupQ K H a=some vs):tupQ K H1 a=some vs:=by
  unfold tupQ at h ⊢
  split at h
  · next e=>rw [x.at e nofun];exact h
  · cases h
  · next e=>rw [x.mod a vs e h];exact h
end
end L2
set_option Elab.async false
set_option linter.all false
set_option maxRecDepth 100000
set_option maxHeartbeats 4000000
namespace L2
open PySem PySem.Spec PyProof.Rows
section
variable {X:Cx}
end
section
variable {X:Cx}
def cT (K:PySem.W.Frag):R2:=fun x y H Q=>∃ a b xs ys,x=.ref a∧y=.ref b∧tupQ K H a=some xs∧tupQ K H b=some ys∧xs.length + ys.length≤sizeLine∧∀ q H',tupQ K H' q=some (xs++ys)→Ext K H H'→Q (.ref q) H'
end
mutual
theorem eqv_refl:∀ (d:PyData),d.canLay0=true→PyData.eqv d d=true
  | .none,_=>by simp [PyData.eqv]
  | .bool b,_=>by simp [PyData.eqv]
  | .int i,_=>by simp [PyData.eqv]
  | .str x,_=>by simp [PyData.eqv]
  | .list ds,h=>by
    simp only [PyData.canLay0] at h
    simp only [PyData.eqv]
    exact eqvAll_refl ds h
  | .tuple ds,h=>by
    simp only [PyData.canLay0] at h
    simp only [PyData.eqv]
    exact eqvAll_refl ds h
  | .dict _,h=>by simp [PyData.canLay0] at h
theorem eqvAll_refl:∀ (ds:List PyData),PyData.canLayAll0 ds=true→PyData.eqvAll ds ds=true
  | [],_=>by simp [PyData.eqvAll]
  | d::ds,h=>by
    simp only [PyData.canLayAll0,Bool.and_eq_true] at h
    simp only [PyData.eqvAll,Bool.and_eq_true]
    exact ⟨eqv_refl d h.1,eqvAll_refl ds h.2⟩
end
end L2
set_option Elab.async false
set_option linter.all false
set_option maxRecDepth 100000
set_option maxHeartbeats 4000000
namespace L2
open PySem PySem.Spec PyProof.Rows
section
variable {X:Cx} {o e value:Expr} {f:Str} {pos pos' T8 p:Pos} {ta tv te:TE}
theorem i0 (he:JE X e ta) (hb:attributeBase e f X.env (eval e X.env)=eval e X.env:=by rfl):JE X (.Attribute e f pos) (jZ X.K ta f):=⟨QT he.h hb⟩
theorem wc (ha:JE X o ta) (hv:JE X value tv) (hs:swapsWith value (some (.Attribute o f pos')) pos.line X.env=pure false:=by rfl):JS X (.Assign [.Attribute o f pos'] value pos) (j0 X.K ta tv f):=⟨QU ha.h hv.h hs⟩
end
structure yl (K:PySem.W.Frag) (x qual:Str) (st:Stmt) (f:Addr) (fd:FuncData):Prop where
  ex:∃ (oc:Value) (od:Option Addr) (dV kV doc pm:Value) (an:Option Addr) (cJ ct:Value) (Fx:Array (Option Value)),
    fd=PySem.W.fnOf x qual (ai st) (ah st) (aa st) dV kV doc pm an cJ ct∧K.lookup f=some ⟨oc,od,.func fd,Fx⟩∧PySem.W.codeIn K cJ qual=true
section
variable {P:Program} {w:World} {K:PySem.W.Frag} {mg:Str→Option Value} {base:Heap} {x qual:Str} {st:Stmt} {f:Addr} {fd:FuncData} {N ps:List Str} {k:Nat} {sp:Sp}
theorem gM {oc:Value} {od an:Option Addr} {Fx:Array (Option Value)} {dV kV doc pm cJ ct:Value} (l:K.lookup f=some ⟨oc,od,.func (PySem.W.fnOf x qual (ai st) (ah st) (aa st) dV kV doc pm an cJ ct),Fx⟩)
    (c:PySem.W.codeIn K cJ qual=true):yl K x qual st f (PySem.W.fnOf x qual (ai st) (ah st) (aa st) dV kV doc pm an cJ ct):=⟨oc,od,dV,kV,doc,pm,an,cJ,ct,Fx,rfl,l,c⟩
theorem yl.okX (F:yl K x qual st f fd) (S:ay N ps (aa st)) (len:∀ vs H Q E,sp vs H Q E→vs.length=ps.length)
    (mW:∀ (cJ:Value) (A:Around) (outer:List Env) (s:Shared) (H:Hp) (vs:List V) (Q:VK) (E:XK),dU k (A.deeper (envOfC qual (aa st) s.heap.objs.size f cJ))→sp vs H Q E→
      ∃ t,JB (vM (Nu P w) P w K mg base N qual (aa st) f cJ A outer s H E) (ah st) t∧t { nx:=fun _ H'=>Q .eO H',rt:=Q } (start N vs) H):aL P w K mg base (Nu P w) (k + 1) f fd ps sp:=by
  obtain ⟨oc,od,dV,kV,doc,pm,an,cJ,ct,Fx,rfl,lk,Du⟩:=F.ex
  refine FL lk Du S len fun A outer s H vs Q E hr yg=>?_
  obtain ⟨t,h,q⟩:=mW cJ A outer s H vs Q E hr yg
  exact ⟨t,h.h,q⟩
end
def dB (K:PySem.W.Frag) (C:Addr) (sp:Sp) (jz:List V) (E:XK) (t:TA):TE:=fun σ H Q=>t σ H fun vs H1=>∀ x dx,new K H1 x→new K H1 dx→dx≠x→
  sp (.ref x::(vs++jz)) (upd (upd H1 dx (.own x)) x (.ins C dx [])) (fun v H2=>v=.eO∧Q (.ref x) H2) E
structure aaP (P:Program) (w:World) (K:PySem.W.Frag) (mg:Str→Option Value) (base:Heap) (x:Str) (k:Nat) (ps:List Str) (jz:List V) (C:Addr) (sp:Sp):Prop where
  ex:∃ (f:Addr) (fd:FuncData) (ds:List Value),Mk K C f∧aL P w K mg base (Nu P w) k f fd ps sp∧Binds K fd ps ds∧Vals jz ds∧mg x=some (.ref C)
section
variable {X:Cx} {CX:DA} {k:Nat} {f C:Addr} {fd:FuncData} {ps:List Str} {sp:Sp} {jz:List V} {ds:List Value} {E:XK} {y:Str} {p pos:Pos} {e:Expr} {es:List Expr} {t:TA}
theorem C4 {pins:List (Addr×Obj)} {σ:St} {H:Hp} {s:Shared} {Q:VK} {us:List Value} {vs:List V} (M:Mk X.K C f) (F:aL X.prog X.w X.K X.mg X.base CX k f fd ps sp) (hr:dU (k + 1) X.A) (hb:Binds X.K fd ps ds) (hd:Vals jz ds)
    (hx:Passes CX X E) (I:Inv X pins σ H s) (r:Vals vs us)
    (h:∀ x dx,new X.K H x→new X.K H dx→dx≠x→sp (.ref x::(vs++jz)) (upd (upd H dx (.own x)) x (.ins C dx [])) (fun v H2=>v=.eO∧Q (.ref x) H2) E):
    wpAny (model X.prog X.w) X.A (call (.ref C) us) (EP X pins σ Q) X.xe s:=by
  have I2:=Inv.made (C:=C) I
  have hq:=h (s.heap.objs.size + 1) s.heap.objs.size ⟨I.gm.fresh (Nat.le_succ _),I2.vc av⟩ I.new (Nat.ne_of_lt (Nat.lt_succ_self _))
  have r2:Vals (V.ref (s.heap.objs.size + 1)::(vs++jz)) (Value.ref (s.heap.objs.size + 1)::(us++ds)):=.cons rfl (r.append hd)
  have hl:(Value.ref (s.heap.objs.size + 1)::us++ds).length=ps.length:=by
    have e:=r2.length
    rw [F.len _ _ _ _ hq] at e
    exact e.symm
  refine wpAny_call (FI (f:=f) I.nJ M.makes M.init (beq_iff_eq.mp M.fn) (codeAny_mono (F.run _ X.stack _ _ ⟨Value.ref (s.heap.objs.size + 1)::us,[]⟩ (Value.ref (s.heap.objs.size + 1)::(us++ds)) _ _ E (hr.make C us [])
    (I2.Hq.make C us []) (hb _ (Value.ref (s.heap.objs.size + 1)::us) I2.nJ hl) r2 hq) fun r s' hq'=>?_))
  cases r with
  | error e=>exact hx pins σ _ _ e s' I2 hq'
  | ok fl=>
    cases fl with
    | ret u=>
      obtain ⟨v,H',I3,rv,ev,q3⟩:=I2.after hq'
      subst ev
      exact ⟨rv,⟨V.ref (s.heap.objs.size + 1),H',I3,rfl,q3⟩⟩
    | next=>exact False.elim hq'
    | brk=>exact False.elim hq'
    | cont=>exact False.elim hq'
end
theorem Ext.made {K:PySem.W.Frag} {H:Hp} {x dx:Addr} {o o':HO} (n:L2.new K H x) (m:L2.new K H dx) (ne:dx≠x):Ext K H (upd (upd H dx o') x o):=
  (Ext.new m).trans (Ext.new (cW.mpr ⟨ne.symm,n⟩))
structure Jz (P:Program) (w:World) (K:PySem.W.Frag) (a:Addr) (vs:List (Key×Value)):Prop where
  of:∀ h:Heap,K.In h→h.DictOf (p6 P w) a vs
  ne:(a==sysModules)=false
section
variable {X:Cx} {a:Addr} {vs:List (Key×Value)} {o i:Expr} {to ti:TE} {pos:Pos}
theorem Oz (d:Jz X.prog X.w X.K a vs):nK X (compareOp .In) (fun x y H Q=>∃ k,x=kV k∧y=.ref a∧Q (.bl (valueAt vs k).isSome) H):=by
  intro pins s σ H x y v u Q I rx ry h
  obtain ⟨k,rfl,rfl,q⟩:=h
  cases (show u=Value.ref a from ry)
  exact wpAny_in_of (P9 rx) d.ne (d.of _ I.nJ).mapOf ⟨.bl _,H,I.tok _,rfl,q⟩
theorem Rt (d:Jz X.prog X.w X.K a vs) (ho:JE X o to) (hi:JE X i ti) (hs:Ug i):JE X (.Subscript o i pos) (fun σ H Q=>to σ H fun x H1=>ti σ H1 fun y H2=>∃ k v u,x=.ref a∧y=kV k∧valueAt vs k=some u∧RelV v u∧Q v H2):=⟨by
  intro pins s σ H Q I h
  refine Oa PySem.F.slot_dict_getitem.lookup hs (eo (ho.h pins s σ H _ I h) fun u s1 ⟨x,H1,I1,rx,q1⟩=>eo (hi.h pins s1 σ H1 _ I1 q1) fun iv s2 ⟨y,H2,I2,ry,k,v,u',ex,ey,l,rv,q2⟩=>?_)
  subst ex ey
  obtain rfl:u=Value.ref a:=rx
  have dd:=d.of _ I2.nJ
  refine ⟨?_,wpAny_getItem_of (P9 ry) dd.mapOf l ⟨v,H2,I2.tok _,rv,q2⟩⟩
  exact dd.typeIs⟩
end
theorem HW {P:Program} {w:World} {K:PySem.W.Frag} {a:Addr} {es:List (Str×Tok×Value)} {n:Nat} (l:K.lookup a=some ⟨.type "dict",none,.dict (es.map fun e=>(⟨PyData.keyHash w.params e.1,.str e.1 e.2.1,e.2.2⟩:DictEntry)).toArray n,#[]⟩)
    (nd:(es.map fun e=>((.inr e.1:Key))).Nodup) (ne:(a==sysModules)=false):Jz P w K a (es.map fun e=>((.inr e.1:Key),e.2.2)):=by
  refine ⟨fun h X=>⟨_,_,_,X a _ l,⟨rfl,rfl,rfl⟩,rfl,?_,?_,?_⟩,ne⟩
  · intro e he
    have he:=Array.mem_toList_iff.mpr he
    rw [List.toList_toArray] at he
    obtain ⟨z,_,rfl⟩:=List.mem_map.mp he
    exact ⟨.inr z.1,by show (z.1==z.1)=true;simp,rfl⟩
  · rw [List.toList_toArray]
    clear l nd
    induction es with
    | nil=>exact .nil
    | cons z r ih=>exact .cons (by show (z.1==z.1)=true;simp) rfl ih
  · rw [List.map_map]
    exact nd
section
variable {X:Cx}
end
section
variable {X:Cx}
end
end L2
set_option Elab.async false
set_option linter.all false
set_option maxRecDepth 100000
set_option maxHeartbeats 4000000
namespace HT
open PySem PySem.Spec PyProof.Rows
section
variable {prog:Program} {w:World} {A:Around} {E:Value→Shared→Prop} {s:Shared}
end
end HT
namespace L2
open PySem PySem.Spec PyProof.Rows
section
variable {X:Cx} {e:Expr} {te:TE} {pos:Pos}
end
end L2
set_option Elab.async false
set_option linter.all false
set_option maxRecDepth 100000
set_option maxHeartbeats 4000000
namespace L2
open PySem PySem.Spec PyProof.Rows
structure cQ (P:Program) (w:World) (K:PySem.W.Frag) (mg:Str→Option Value) (base:Heap) (C:Addr) (m:Str) (k:Nat) (ps:List Str) (jz:List V) (sp:Sp):Prop where
  ex:∃ (f:Addr) (fd:FuncData) (ds:List Value),Meth K C m f∧aL P w K mg base dF k f fd ps sp∧Binds K fd ps ds∧Vals jz ds
structure apN (P:Program) (w:World) (K:PySem.W.Frag) (mg:Str→Option Value) (base:Heap) (C:Addr) (m:Str) (k:Nat) (ps:List Str) (jz:List V) (sp:Sp):Prop where
  ex:∃ (f:Addr) (fd:FuncData) (ds:List Value),Meth K C m f∧aL P w K mg base (Nu P w) k f fd ps sp∧Binds K fd ps ds∧Vals jz ds
structure Maker (P:Program) (w:World) (K:PySem.W.Frag) (mg:Str→Option Value) (base:Heap) (x:Str) (k:Nat) (ps:List Str) (jz:List V) (C:Addr) (sp:Sp):Prop where
  ex:∃ (f:Addr) (fd:FuncData) (ds:List Value),Mk K C f∧aL P w K mg base dF k f fd ps sp∧Binds K fd ps ds∧Vals jz ds∧mg x=some (.ref C)
section
variable {X:Cx} {k:Nat} {C:Addr} {ps:List Str} {sp:Sp} {jz:List V} {E:XK} {m y:Str} {apos pos p:Pos} {o e value:Expr} {es:List Expr} {t:TA} {ta tv:TE} {pl:Sem Bool}
theorem UE (M:cQ X.prog X.w X.K X.mg X.base C m k ps jz sp) (c:lQ X.K C) (hr:dU k X.A) (ho:JE X o ta) (ha:JA X (e::es) t)
    (G6:starEach (e::es) X.env=(false,eval e X.env)::starEach es X.env:=by rfl) (vI:(backTo pos (starEach es X.env)).any (·.1)=false:=by rfl)
    (ht:eval (.Call (.Attribute o m apos) (e::es) [] pos) X.env=(do
      let ov ← eval o X.env
      standAt apos.atName
      let (f,first) ← holding [ov] (getMethod ov m pl)
      callWith pos f first (backTo pos (starEach (e::es) X.env)) (backToKw pos (keywordEach [] X.env))):=by rfl):
    JE X (.Call (.Attribute o m apos) (e::es) [] pos) (eZ C m sp jz E0 ta t):=⟨by
  obtain ⟨f,fd,ds,hm,F,b,vd⟩:=M.ex
  exact NW ho.h c hm F hr b vd rK ha.h G6 vI ht⟩
theorem rQ (M:cQ X.prog X.w X.K X.mg X.base C m k ps jz sp) (c:lQ X.K C) (hr:dU k X.A) (ho:JE X o ta)
    (ht:eval (.Call (.Attribute o m apos) [] [] pos) X.env=(do
      let ov ← eval o X.env
      standAt apos.atName
      let (f,first) ← holding [ov] (getMethod ov m pl)
      callWith pos f first (backTo pos (starEach [] X.env)) (backToKw pos (keywordEach [] X.env))):=by rfl):
    JE X (.Call (.Attribute o m apos) [] [] pos) (eZ C m sp jz E0 ta iG):=⟨by
  obtain ⟨f,fd,ds,hm,F,b,vd⟩:=M.ex
  exact LW ho.h c hm F hr b vd rK ht⟩
theorem nR (M:Maker X.prog X.w X.K X.mg X.base y k ps jz C sp) (hr:dU (k + 1) X.A) (hg:Gl X y) (ha:JA X (e::es) t)
    (zc:(y==("__debug__":Str))=false:=by decide) (he:starEach (e::es) X.env=(false,eval e X.env)::starEach es X.env:=by rfl) (vI:(backTo pos (starEach es X.env)).any (·.1)=false:=by rfl):
    JE X (.Call (.Name y p) (e::es) [] pos) (dB X.K C sp jz E0 t):=⟨by
  intro pins s σ H Q I h
  obtain ⟨f,fd,ds,M,F,b,vd,mm⟩:=M.ex
  refine wpAny_Call_Name_kw (p7 I hg mm ?_ zc)
  refine PySem.W.callWith_K (h₀:=X.base) I.ok.mod.LF M.kp (eo (ha.h pos pins s σ H _ I h) fun us s1 ⟨vs,H1,I1,r,q⟩=>⟨I1.nJ,?_⟩) he vI
  exact C4 M F hr b vd rK I1 r q⟩
theorem Ru (M:Maker X.prog X.w X.K X.mg X.base y k ps jz C sp) (hr:dU (k + 1) X.A) (hg:Gl X y)
    (zc:(y==("__debug__":Str))=false:=by decide):JE X (.Call (.Name y p) [] [] pos) (dB X.K C sp jz E0 iG):=⟨by
  intro pins s σ H Q I h
  obtain ⟨f,fd,ds,M,F,b,vd,mm⟩:=M.ex
  refine wpAny_Call_Name_kw (p7 I hg mm ?_ zc)
  exact PySem.W.callWith_K0 I.nJ M.kp (C4 (us:=[]) M F hr b vd rK I .nil h)⟩
end
section
variable {P:Program} {w:World} {K:PySem.W.Frag} {mg:Str→Option Value} {base:Heap} {x qual:Str} {st:Stmt} {f:Addr} {fd:FuncData} {N ps:List Str} {k:Nat} {sp:Sp}
theorem yl.fM (F:yl K x qual st f fd) (S:ay N ps (aa st)) (len:∀ vs H Q E,sp vs H Q E→vs.length=ps.length)
    (mW:∀ (cJ:Value) (A:Around) (outer:List Env) (s:Shared) (H:Hp) (vs:List V) (Q:VK) (E:XK),dU k (A.deeper (envOfC qual (aa st) s.heap.objs.size f cJ))→sp vs H Q E→
      ∃ t,JB (vM dF P w K mg base N qual (aa st) f cJ A outer s H E).Jd (ah st) t∧t { nx:=fun _ H'=>Q .eO H',rt:=Q } (start N vs) H):aL P w K mg base dF (k + 1) f fd ps sp:=by
  obtain ⟨oc,od,dV,kV,doc,pm,an,cJ,ct,Fx,rfl,lk,Du⟩:=F.ex
  refine FL lk Du S len fun A outer s H vs Q E hr yg=>?_
  obtain ⟨t,h,q⟩:=mW cJ A outer s H vs Q E hr yg
  exact ⟨t,h.h.Jd,q⟩
end
section
variable {X:Cx}
theorem DX:gR X (.builtin "isinstance") (fun xs H Q=>∃ x C t b,xs=[x,.ref C]∧uV X.K H x t∧PySem.W.kitOne X.K t (.ref C)=some b∧Q (.bl b) H):=by
  intro pins s σ H xs us Q I r h
  obtain ⟨x,C,t,b,rfl,ty,e,q⟩:=h
  obtain ⟨u,w',rfl,ru,rw'⟩:=vals2 r
  cases rw'
  exact CN I ru ty e fun tk=>⟨.bl b,H,I.tok tk,rfl,q⟩
end
end L2
set_option Elab.async false
set_option linter.all false
set_option maxRecDepth 100000
set_option maxHeartbeats 4000000
namespace L2
open PySem PySem.Spec PyProof.Rows
section
variable {X:Cx}
end
section
variable {P:Program} {w:World} {A:Around} {E:Value→Shared→Prop} {s:Shared} {S:Addr} {vs:List (Key×Value)} {ep:Nat}
end
section
variable {X:Cx}
end
end L2
set_option Elab.async false
set_option linter.all false
set_option maxRecDepth 100000
set_option maxHeartbeats 4000000
namespace L2
open PySem PySem.Spec PyProof.Rows
section
variable {X:Cx}
end
end L2
set_option Elab.async false
set_option linter.all false
set_option maxRecDepth 100000
set_option maxHeartbeats 4000000
namespace L2
open PySem PySem.Spec PyProof.Rows
section
variable {X:Cx}
def bO:V→List V→Hp→VK→Prop:=fun x vs H Q=>∃ a,x=.str a∧vs=[]∧Q (.bl (Txt.isascii a)) H
theorem HX:KJ X "str.isascii" bO:=by
  intro pins s σ H x vs v us Q I rx rv h
  obtain ⟨a,rfl,rfl,q⟩:=h
  obtain ⟨t,rfl⟩:=rx
  cases rv
  exact call_meets PySem.F.slot_str_isascii (typeIs_str _ _ _) PySem.F.entry_str_isascii (PySem.F.args_str_isascii_1 _) (gives_str_isascii a t).meets (show (Made.val _).post _ s from ⟨.bl _,H,I,rfl,q⟩)
def bP:V→List V→Hp→VK→Prop:=fun x vs H Q=>∃ a,x=.str a∧vs=[]∧Q (.bl (Txt.isdigit a)) H
theorem HY:KJ X "str.isdigit" bP:=by
  intro pins s σ H x vs v us Q I rx rv h
  obtain ⟨a,rfl,rfl,q⟩:=h
  obtain ⟨t,rfl⟩:=rx
  cases rv
  exact call_meets PySem.F.slot_str_isdigit (typeIs_str _ _ _) PySem.F.entry_str_isdigit (PySem.F.args_str_isdigit_1 _) (gives_str_isdigit a t).meets (show (Made.val _).post _ s from ⟨.bl _,H,I,rfl,q⟩)
def cO:V→List V→Hp→VK→Prop:=fun x vs H Q=>∃ a b,x=.str a∧vs=[.str b]∧a.length≤sizeLine∧Q (.str (Txt.removeprefix a b)) H
theorem zO:KJ X "str.removeprefix" cO:=by
  intro pins s σ H x vs v us Q I rx rv h
  obtain ⟨a,b,rfl,rfl,ha,q⟩:=h
  obtain ⟨t,rfl⟩:=rx
  obtain ⟨u,rfl,ru⟩:=vals1 rv
  obtain ⟨t2,rfl⟩:=ru
  exact call_meets PySem.F.slot_str_removeprefix (typeIs_str _ _ _) PySem.F.entry_str_removeprefix (PySem.F.args_str_removeprefix_2 _ _) (gives_str_removeprefix a b t t2).meets (post_affix ha _ fun t' k=>⟨.str _,H,I.tok k,⟨t',rfl⟩,q⟩)
theorem C5:∀ (ts:List Str) (k:Nat),Vals (ts.map V.str) (strsFrom k ts)
  | [],_=>.nil
  | t::ts,k=>.cons ⟨_,rfl⟩ (C5 ts (k + 1))
def dM (K:PySem.W.Frag):V→List V→Hp→VK→Prop:=fun x vs H Q=>∃ a b,x=.str a∧vs=[.str b]∧(b.length==0)=false∧a.length≤sizeLine∧(Txt.split a b).length≤sizeLine∧∀ D,L2.new K H D→Q (.ref D) (upd H D (.lst ((Txt.split a b).map V.str)))
theorem Mz:KJ X "str.split" (dM X.K):=by
  intro pins s σ H x vs v us Q I rx rv h
  obtain ⟨a,b,rfl,rfl,hb,ha,hn,q⟩:=h
  obtain ⟨t,rfl⟩:=rx
  obtain ⟨u,rfl,ru⟩:=vals1 rv
  obtain ⟨t2,rfl⟩:=ru
  have fin:∀ {its:List Value} {k:Nat},Vals ((Txt.split a b).map V.str) its→EP X pins σ Q (.ref s.heap.objs.size) { s with toks:=k,heap:=s.heap.push { cls:=.type "list",data:=.seq its.toArray } }:=fun {its k} vv=>by
    have I2:Inv X pins σ (upd H s.heap.objs.size (.lst ((Txt.split a b).map V.str))) { s with toks:=k,heap:=s.heap.push { cls:=.type "list",data:=.seq its.toArray } }:=
      I.laid (t':=k) (fun b ob q=>Heap.get?_push_of_some _ q) (Nat.le_refl _) ⟨by rw [List.length_map];exact hn,its,0,vv,Heap.get?_push_size _ rfl⟩
    exact ⟨.ref s.heap.objs.size,_,I2,rfl,q _ ⟨I.gm.fresh (Nat.le_refl _),I2.vc av⟩⟩
  have e1:∀ {ts:List Str},Txt.split a b=ts→∀ {its:List Value} {k:Nat},Vals (ts.map V.str) its→EP X pins σ Q (.ref s.heap.objs.size) { s with toks:=k,heap:=s.heap.push { cls:=.type "list",data:=.seq its.toArray } }:=fun {ts} e {its k} vv=>fin (by rw [e];exact vv)
  have one:Vals ([a].map V.str) [.str a t]:=.cons ⟨t,rfl⟩ .nil
  cases h1:(decide (a.length < b.length)||decide (Builtin.Str.strKind a < Builtin.Str.strKind b)) with
  | true=>exact call_meets PySem.F.slot_str_split (typeIs_str _ _ _) PySem.F.entry_str_split (PySem.F.args_str_split_2 _ _) (meets_str_split_cannot_occur a b t t2 h1) (e1 (by unfold Txt.split;rw [if_pos h1]) (its:=[.str a t]) (k:=s.toks) one)
  | false=>
    cases h2:(Builtin.Str.occurrences a b 0 a.length (a.length + 1)).isEmpty with
    | true=>exact call_meets PySem.F.slot_str_split (typeIs_str _ _ _) PySem.F.entry_str_split (PySem.F.args_str_split_2 _ _) (meets_str_split_not_found a b t t2 h1 hb h2) (e1 (by unfold Txt.split;rw [h1,h2,if_neg (by decide),if_pos rfl]) (its:=[.str a t]) (k:=s.toks) one)
    | false=>
      have e2:Txt.split a b=Builtin.Str.partsBetween a (Builtin.Str.occurrences a b 0 a.length (a.length + 1)) b.length:=by unfold Txt.split;rw [h1,h2,if_neg (by decide),if_neg (by decide)]
      exact call_meets PySem.F.slot_str_split (typeIs_str _ _ _) PySem.F.entry_str_split (PySem.F.args_str_split_2 _ _) (meets_str_split_sep a b t t2 h1 hb h2 ha (e2 ▸ hn)) (e1 e2 (C5 _ _))
theorem K8:gR X (.type "int") (fun xs H Q=>∃ a n,xs=[.str a]∧PySem.intText? a=some n∧a.length≤640∧Q (.int n) H):=by
  intro pins s σ H xs us Q I r h
  obtain ⟨a,n,rfl,hn,hl,q⟩:=h
  obtain ⟨u,rfl,ru⟩:=vals1 r
  obtain ⟨t,rfl⟩:=ru
  exact PySem.W.KIN.call_text hn hl ⟨.int n,H,I.tok _,⟨_,rfl⟩,q⟩
end
end L2
set_option Elab.async false
set_option linter.all false
set_option maxRecDepth 100000
set_option maxHeartbeats 4000000
namespace L2
open PySem PySem.Spec PyProof.Rows PySem.W
section
variable {prog:Program} {w:World} {A:Around} {E:Value→Shared→Prop} {s:Shared}
theorem K9 {l:Addr} {items:Array Value} {n i:Nat} {Q:List Value→Shared→Prop} (hl:s.heap.IsList l items) (hh:A.handled=none) (hi:i < n) (hn:n≤items.size + 1) (hz:items.size≤sizeLine)
    (h:∀ h₂ tk,Heap.ExtBut s.heap.objs.size s.heap h₂→Q (items.toList.take i++[.ref h₂.objs.size]++(items.toList.drop i).drop (items.size + 1 - n))
      { s with heap:=h₂.push { cls:=.type "list",data:=.seq ((items.toList.drop i).take (items.size + 1 - n)).toArray },toks:=tk }):wpAny (model prog w) A (unpackItems (.ref l) n (some i)) Q E s:=by
  have GV:l≠s.heap.objs.size:=by obtain ⟨o,ho,_⟩:=hl;exact Nat.ne_of_lt (Heap.lt_size ho)
  have hll:l < s.heap.objs.size:=by obtain ⟨o,ho,_⟩:=hl;exact Heap.lt_size ho
  unfold unpackItems
  refine wpAny_bind ?_
  unfold notIterableAtAll
  refine wpAny_bind (wpAny_specialOf hl.typeIs slot_list_iter.lookup ?_)
  refine wpAny_pure ?_
  simp only [Bool.false_eq_true,if_false]
  refine wpAny_bind (wpAny_holding (wpAny_pyIter_list hl ?_))
  refine wpAny_bind (wpAny_holding (kun_draw GV i 0 _ _ ⟨_,Heap.get?_push_size _ rfl,rfl,rfl⟩ (hl.push _) (by omega) fun h₁ hit₁ hs₁=>?_))
  have hl₁:h₁.IsList l items:=(hl.push _).extBut hs₁.extBut GV
  rw [Nat.zero_add] at hit₁
  have hit₁':=hit₁
  obtain ⟨oi,hoi,_⟩:=hit₁'
  have hl₁':=hl₁
  obtain ⟨ol,hol,_⟩:=hl₁'
  rw [List.drop_zero]
  have hfl:(items.toList.take i).length=i:=by rw [List.length_take,Array.length_toList];omega
  rw [if_neg (show ¬ ((items.toList.take i).length < i) by rw [hfl];omega)]
  refine wpAny_bind (wpAny_holding (kun_collect (s:={ s with heap:=h₁ }) (T:="list_iterator") (.inr (.inr (.inl rfl))) (Walks.list (A:=A.in1) hh s.heap.objs.size l GV items) (fun j u st=>st.1.typeIs) (k:=i) (by omega) ⟨hit₁,hl₁⟩ (Heap.lt_size hoi) (Heap.lt_size hol) (fun h₂ tk hk=>?_) hz))
  have hrl:(items.toList.drop i).length=items.size - i:=by rw [List.length_drop,Array.length_toList]
  have aaR:(items.toList.drop i).length - (n - 1 - i)=items.size + 1 - n:=by rw [hrl];omega
  show wpAny _ _ (if (items.toList.drop i).length < n - 1 - i then _ else _) _ _ _
  rw [if_neg (by rw [hrl];omega)]
  show wpAny _ _ (newList ((items.toList.drop i).take ((items.toList.drop i).length - (n - 1 - i))) >>=fun d=>pure (items.toList.take i++[d]++(items.toList.drop i).drop ((items.toList.drop i).length - (n - 1 - i)))) _ _ _
  rw [aaR]
  have he:Heap.ExtBut s.heap.objs.size s.heap h₂:=fun b o hb e=>hk b o hb (hs₁.extBut b o hb (Heap.get?_push_of_some _ e))
  exact wpAny_bind (wpAny_newList (s:={ s with heap:=h₂,toks:=tk }) (wpAny_pure (h h₂ tk he)) (by rw [List.length_take,hrl];omega))
end
section
variable {X:Cx} {es:List Expr} {pos:Pos} {e:Expr}
theorem C6 {vs:List V} {us:List Value} (h:Vals vs us):∀ n:Nat,Vals (vs.take n) (us.take n):=by
  induction h with
  | nil=>intro n;simp;exact .nil
  | cons a b ih=>intro n;cases n with
    | zero=>exact .nil
    | succ n=>exact .cons a (ih n)
theorem ym {vs:List V} {us:List Value} (h:Vals vs us):∀ n:Nat,Vals (vs.drop n) (us.drop n):=by
  induction h with
  | nil=>intro n;simp;exact .nil
  | cons a b ih=>intro n;cases n with
    | zero=>exact .cons a b
    | succ n=>exact ih n
theorem MB {vs ws:List V} {us xs:List Value} (h:Vals vs us) (h2:Vals ws xs):Vals (vs++ws) (us++xs):=by
  induction h with
  | nil=>exact h2
  | cons a b ih=>exact .cons a ih
def dN (K:PySem.W.Frag) (n i:Nat) (t:GZ):TG:=fun v σ H Q=>∃ a xs,v=.ref a∧fE K H a xs∧n≤xs.length + 1∧
  ∀ D,L2.new K H D→t (xs.take i++.ref D::(xs.drop i).drop (xs.length + 1 - n)) σ (upd H D (.lst ((xs.drop i).take (xs.length + 1 - n)))) Q
theorem Rv {k:Nat} {t:GZ} {n i:Nat} (hc:X.calm=true) (h:Qa X es t) (hi:i < n:=by decide) (hn:(assignEach es X.env).length=n:=by rfl) (G6:(assignEach es X.env).findIdx? (·.1)=some i:=by rfl):JG X (.Tuple es k pos) (dN X.K n i t):=⟨by
  intro pins s σ H v u Q I r hw
  obtain ⟨a,xs,e1,hq,hl,hw⟩:=hw
  subst e1
  cases r
  obtain ⟨its,rv,ht,hz⟩:=I.list hq
  have ln:xs.length=its.length:=rv.length
  rw [assign_Tuple]
  refine wpAny_bind (wpAny_standAt ?_)
  unfold unpack
  rw [hn,G6]
  refine wpAny_bind (wpAny_holding (K9 ht.isList (I.ok.hd hc) hi (by simpa [← ln] using hl) (by simpa [← ln] using hz) fun h₂ tk hx=>?_))
  have I0:Inv X pins σ H { s with heap:=h₂,toks:=tk }:=I.kept (t':=tk) fun b o e=>hx b o (Nat.ne_of_lt (Heap.lt_size e)) e
  have I1:Inv X pins σ (upd H h₂.objs.size (.lst ((xs.drop i).take (xs.length + 1 - n)))) { s with heap:=h₂.push { cls:=.type "list",data:=.seq ((its.drop i).take (xs.length + 1 - n)).toArray },toks:=tk }:=
    I0.laid (t':=tk) (fun b ob q=>Heap.get?_push_of_some _ q) (Nat.le_refl _) ⟨by rw [List.length_take,List.length_drop];omega,_,0,C6 (ym rv i) _,Heap.get?_push_size _ rfl⟩
  have:=h.h pins _ σ _ _ (its.take i++[.ref h₂.objs.size]++(its.drop i).drop (xs.length + 1 - n)) Q I1 (by
    rw [List.append_assoc]
    exact MB (C6 rv i) (.cons rfl (ym (ym rv i) _))) (hw _ ⟨I0.gm.fresh (Nat.le_refl _),I1.vc av⟩)
  simpa [← ln] using this⟩
theorem Rw {t:TG} {u:GZ} (h1:JG X e t) (h2:Qa X es u) {p:Pos} (hs:(assignEach (.Starred e p::es) X.env).map (·.2)=assign e X.env::(assignEach es X.env).map (·.2):=by rfl):Qa X (.Starred e p::es) (fm t u):=⟨by
  intro pins s σ H vs us Q I r h
  obtain ⟨v,vr,e1,h⟩:=h
  subst e1
  cases r with
  | cons r rr=>
    rw [hs]
    refine assignInOrder_cons (eo (h1.h pins s σ H _ _ _ I r h) fun _ s1 ⟨σ1,H1,I1,q1⟩=>?_)
    exact h2.h pins s1 σ1 H1 _ _ Q I1 rr q1⟩
theorem La {C:Addr} {k:Nat} {ps:List Str} {sp:Sp} (M:cQ X.prog X.w X.K X.mg X.base C "__str__" k ps [] sp) (hr:dU (k + 2) X.A):
    gR X (.type "str") (fun xs H Q=>∃ a dx fs,xs=[.ref a]∧H a=some (.ins C dx fs)∧sp [.ref a] H (fun v H'=>∃ t,v=.str t∧Q (.str t) H') E0):=by
  intro pins s σ H xs us Q I r h
  obtain ⟨a,dx,fs,rfl,ea,yg⟩:=h
  obtain ⟨u,rfl,ru⟩:=r.one
  cases (show u=Value.ref a from ru)
  obtain ⟨f,fd,ds,hm,F,b,vd⟩:=M.ex
  cases vd
  obtain ⟨mA,O,_⟩:=p8 I.gm ea
  obtain ⟨od,J,_⟩:=O.look
  have hl:=F.len _ _ _ _ yg
  refine kso_call hr.in1.in1.Ho I.nJ J hm.at_ hm.fn ?_
  refine wpAny_call (codeAny_mono (F.run X.A.in1.in1 X.stack s H ⟨[.ref a],[]⟩ [.ref a] [.ref a] _ E0 hr.in1.in1 I.Hq.in1.in1 (by have:=b s [.ref a] I.nJ (by rw [List.append_nil];exact hl);rwa [List.append_nil] at this) (.cons rfl .nil) yg) fun r s' hq=>?_)
  cases r with
  | error e=>exact rK pins σ H s e s' I hq
  | ok fl=>
    cases fl with
    | ret u=>
      obtain ⟨v,H',I',rv,t,rfl,q⟩:=I.after hq
      obtain ⟨t',rfl⟩:=rv
      exact ⟨.str t,H',I',⟨_,rfl⟩,q⟩
    | next=>exact False.elim hq
    | brk=>exact False.elim hq
    | cont=>exact False.elim hq
theorem OA {k:Nat} {ps:List Str} {sp:Sp} {f:Addr} {fd:FuncData} {pins:List (Addr×Obj)} {σ:St} {H:Hp} {s:Shared} {A:Around} {vs:List V} {us:List Value} {Q:VK} {R:Value→Shared→Prop}
    (F:aL X.prog X.w X.K X.mg X.base dF k f fd ps sp) (b:Binds X.K fd ps []) (hr:dU k A) (he:zL X.prog X.w X.K X.mg X.base A X.stack s H) (I:Inv X pins σ H s) (rv:Vals vs us) (yg:sp vs H Q E0)
    (h:∀ v u H' s',Inv X pins σ H' s'→RelV v u→Q v H'→R u s'):wpAny (model X.prog X.w) A (call (.ref f) us) R X.xe s:=by
  have hl:=F.len _ _ _ _ yg
  refine wpAny_call (codeAny_mono (F.run A X.stack s H ⟨us,[]⟩ us vs _ E0 hr he (by have:=b s us I.nJ (by rw [List.append_nil,← rv.length];exact hl);rwa [List.append_nil] at this) rv yg) fun r s' hq=>?_)
  cases r with
  | error e=>exact rK pins σ H s e s' I hq
  | ok fl=>
    cases fl with
    | ret u=>
      obtain ⟨v,H',I',rv,q⟩:=I.after hq
      exact h v u H' s' I' rv q
    | next=>exact False.elim hq
    | brk=>exact False.elim hq
    | cont=>exact False.elim hq
structure JC (K:PySem.W.Frag) (C D:Addr):Prop where
  nf:notFirst K C (.ref D)=true
  ne:findIn K (.ref C) "__ne__"=some (some (.builtin "object.__ne__"))
  ob:subIn K (.ref C) (.type "object")=some true
theorem Rx {op:CmpOp} {A:Around} {E:Value→Shared→Prop} {s:Shared} {K:PySem.W.Frag} {x y C D:Addr} {ox oy:Obj} {od od':Option Obj} {P:Program} {w:World} {Q:Value→Shared→Prop} (hu:A.units < cLine) (Z:K.In s.heap) (J:InstAt s.heap x ox C od) (J':InstAt s.heap y oy D od') (hn:notFirst K C (.ref D)=true)
    (one:wpAny (model P w) A (tryCompare (.ref x) (cmpInfo op).2.1 (.ref y)) (fun r s'=>∃ v,r=some v∧Q v s') E s):wpAny (model P w) A (richCompare op (.ref x) (.ref y)) Q E s:=by
  unfold richCompare
  simp only [oneThing_ref]
  refine wpAny_holding (wpAny_bind (wpAny_cRoomFor hu ?_))
  refine wpAny_bind (J.type.here (wpAny_bind (J'.type.here ?_)))
  split
  · rename_i q
    have e:subIn K (.ref D) (.ref C)=some false:=by
      rcases Bool.or_eq_true_iff.mp hn with e | e
      · rw [beq_iff_eq.mp e] at q;simp at q
      · exact beq_iff_eq.mp e
    refine wpAny_bind ((looks_subIn Z e).here ?_)
    simp only [Bool.false_eq_true,if_false]
    refine wpAny_bind (wpAny_mono one (fun r s' z=>?_) fun _ _ e=>e)
    obtain ⟨v,rfl,hq⟩:=z
    exact wpAny_pure hq
  · refine wpAny_bind (wpAny_pure ?_)
    simp only [Bool.false_eq_true,if_false]
    refine wpAny_bind (wpAny_mono one (fun r s' z=>?_) fun _ _ e=>e)
    obtain ⟨v,rfl,hq⟩:=z
    exact wpAny_pure hq
def lG (K:PySem.W.Frag) (C:Addr) (sp:Sp):R2:=fun x y H Q=>∃ a dx fs c D dy gs,x=.ref a∧y=.ref c∧H a=some (.ins C dx fs)∧H c=some (.ins D dy gs)∧JC K C D∧sp [.ref a,.ref c] H (fun v H'=>∃ b,v=.bl b∧Q (.bl b) H') E0
theorem JD {K:PySem.W.Frag} {M:Model} {h:Heap} (self:Value):Looks M h (bindSpecial (.builtin "object.__ne__") self) (.builtin "object.__ne__",[self]):=Looks.of_pure (by kernel_rfl)
def j9 (K:PySem.W.Frag) (C:Addr) (sp:Sp):R2:=fun x y H Q=>∃ a dx fs c D dy gs,x=.ref a∧y=.ref c∧H a=some (.ins C dx fs)∧H c=some (.ins D dy gs)∧JC K C D∧sp [.ref a,.ref c] H (fun v H'=>∃ b,v=.bl b∧Q (.bl !b) H') E0
theorem Ry {C:Addr} {k:Nat} {ps:List Str} {sp:Sp} (M:cQ X.prog X.w X.K X.mg X.base C "__eq__" k ps [] sp) (hr:dU (k + 1) X.A):nK X (compareOp .NotEq) (j9 X.K C sp):=by
  intro pins s σ H x y v u Q I rx ry h
  obtain ⟨a,dx,fs,c,D,dy,gs,rfl,rfl,ea,ec,q,yg⟩:=h
  cases (show v=Value.ref a from rx)
  cases (show u=Value.ref c from ry)
  obtain ⟨f,fd,ds,hm,F,b,vd⟩:=M.ex
  cases vd
  obtain ⟨mA,O,_⟩:=p8 I.gm ea
  obtain ⟨od,J,_⟩:=O.look
  obtain ⟨mA',O',_⟩:=p8 I.gm ec
  obtain ⟨od',J',_⟩:=O'.look
  show wpAny _ _ (richCompare .NotEq _ _) _ _ _
  refine Rx hr.Ho I.nJ J J' q.nf ?_
  show wpAny _ _ (tryCompare _ "__ne__" _) _ _ _
  unfold tryCompare
  simp only [callSpecialIfBound?,bindSpecialIfBound?]
  have core:wpAny (model X.prog X.w) X.A (call (.builtin "object.__ne__") [.ref a,.ref c]) (fun r s'=>∃ b,r=.bool b∧EP X pins σ Q (.bool b) s') X.xe s:=by
    refine wpAny_call (codeAny_call_builtin (by decide +kernel) PySem.F.cmpEntry_ne (check_slot PySem.F.cmpKind_ne PySem.F.cmpSplit_ne (J.type.andThen (looks_subIn I.nJ q.ob)) (PySem.F.cmpArgs_ne _ _) ?_))
    unfold Builtin.«object.__ne__»
    repeat (first
      | with_reducible refine wpAny_cRoomFor hr.in1.Ho ?_
      | (refine wpAny_bind (m:=callSpecialIfBound? (.ref a) (Str.ofString "__eq__") [.ref c])
          (ifBound_K I.nJ J hm.at_ hm.fn (OA F b hr.in1 I.Hq.in1 I (.cons (show RelV (.ref a) (.ref a) from rfl) (.cons (show RelV (.ref c) (.ref c) from rfl) .nil)) yg fun v u H' s' I' rv hq=>?_)))
      | wp_step)
    obtain ⟨b,rfl,hq⟩:=hq
    cases (show u=Value.bool b from rv)
    have fin:∃ b',Value.bool (!b)=.bool b'∧EP X pins σ Q (.bool b') s':=⟨_,rfl,.bl (!b),H',I',rfl,hq⟩
    repeat (first | exact fin | exact wpAny_pure fin | exact wpAny_truthy_bool fin | (refine wpAny_bind (m:=truthy (.bool _)) (wpAny_truthy_bool ?_)) | wp_step)
  refine wpAny_bind (wpAny_holding (wpAny_bind (wpAny_bind (wpAny_bind (J.type.here ((looks_findIn I.nJ q.ne).here ?_))))))
  have fin:wpAny (model X.prog X.w) X.A (call (.builtin "object.__ne__") ([.ref a]++[.ref c]) >>=fun v=>pure (some v)) (fun r s'=>∃ b,r=some (.bool b)∧EP X pins σ Q (.bool b) s') X.xe s:=wpAny_bind (wpAny_mono core (fun v s' ⟨b,e,h'⟩=>wpAny_pure ⟨b,by rw [e],h'⟩) fun _ _ h'=>h')
  refine wpAny_bind (wpAny_askSetting (wpAny_ite ?_))
  split
  · refine wpAny_bind ((JD (K:=X.K) _).here (wpAny_pure ?_))
    refine wpAny_mono fin (fun r s' ⟨b,e,h'⟩=>?_) fun _ _ z=>z
    subst e
    exact wpAny_pure ⟨_,rfl,h'⟩
  · refine wpAny_tryCatch (wpAny_bind ((JD (K:=X.K) _).here (wpAny_pure ?_)))
    refine wpAny_mono fin (fun r s' ⟨b,e,h'⟩=>?_) fun _ _ z=>z
    subst e
    exact wpAny_pure ⟨_,rfl,h'⟩
theorem uc:gR X (.builtin "isinstance") (fun xs H Q=>∃ x C t b,xs=[x,.ref C]∧Qd X.K H x t∧PySem.W.kitOne X.K t (.ref C)=some b∧Q (.bl b) H):=by
  intro pins s σ H xs us Q I r h
  obtain ⟨x,C,t,b,rfl,ty,e,q⟩:=h
  rcases ty with ty | ⟨a,ys,rfl,ht,rfl⟩
  · exact DX pins s σ H _ us Q I r ⟨x,C,t,b,rfl,ty,e,q⟩
  · obtain ⟨u,w',rfl,ru,rw'⟩:=vals2 r
    cases rw'
    cases (show u=Value.ref a from ru)
    obtain ⟨its,_,ob,hz⟩:=I.tuple (cD ht)
    obtain ⟨o,h1,h2,_⟩:=ob
    exact PySem.W.kia_one PySem.W.kitx_tuple I.nJ ⟨o,h1,h2⟩ e (fun z=>nomatch z) fun tk=>⟨.bl b,H,I.tok tk,rfl,q⟩
end
end L2
set_option Elab.async false
set_option linter.all false
set_option maxRecDepth 100000
set_option maxHeartbeats 4000000
namespace L2
open PySem PySem.Spec PyProof.Rows
def lH:List Nat→List Nat
  | 45::cs=>cs
  | l=>l
def we (c:Nat):Bool:=decide (48≤c)&&decide (c≤57)
def HZ (l:List Nat):Bool:=!(lH l).isEmpty&&(lH l).all we&&decide ((lH l).length≤60)&&!(decide ((lH l).head?=some 48)&&decide (l≠[48]))
def MC (l:List Nat):Int:=match l with
  | 45::cs=>-((NumText.digitsVal cs:Nat):Int)
  | l=>((NumText.digitsVal l:Nat):Int)
theorem wg {l:List Nat} (h:l.head?≠some 45):lH l=l:=by
  unfold lH
  split
  · exact absurd rfl h
  · rfl
theorem JH {l:List Nat} (h:l.head?≠some 45):MC l=((NumText.digitsVal l:Nat):Int):=by
  unfold MC
  split
  · exact absurd rfl h
  · rfl
theorem Lb:(Str.ofString "-").cps.toList=[45]:=by decide +kernel
theorem AS (t:Str):(Txt.removeprefix t "-").cps.toList=lH t.cps.toList:=by
  rw [StrLaws.removeprefix_eq t "-",StrLaws.subAt_eq,Lb,show (Str.ofString "-").length=1 from by decide +kernel]
  have hl:t.length=t.cps.toList.length:=by simp [Str.length]
  rw [hl]
  cases e:t.cps.toList with
  | nil=>simp [lH,e]
  | cons c r=>
    by_cases z:c=45
    · subst z
      simp [lH]
    · rw [wg (by simp [z])]
      simp [z,e]
theorem digit_ascii:∀ c,c < 128→Unicode.isDigit c=we c:=by decide +kernel
theorem OB (b:Str):(Txt.isascii b&&Txt.isdigit b)=(!(b.cps.toList).isEmpty&&b.cps.toList.all we):=by
  unfold Txt.isascii Txt.isdigit
  have hl:b.length=b.cps.toList.length:=by simp [Str.length]
  rw [hl,← Array.all_toList,← Array.all_toList]
  generalize b.cps.toList=l
  rw [Bool.eq_iff_iff]
  simp only [Bool.and_eq_true,List.all_eq_true,decide_eq_true_eq,Bool.not_eq_true',List.isEmpty_eq_false_iff,ne_eq]
  constructor
  · rintro ⟨h1,h2,h3⟩
    refine ⟨fun e=>by subst e;simp at h2,fun c hc=>?_⟩
    rw [← digit_ascii c (h1 c hc)]
    exact h3 c hc
  · rintro ⟨h1,h2⟩
    have lt:∀ c∈l,c < 128:=fun c hc=>by
      have:=h2 c hc
      simp only [we,Bool.and_eq_true,decide_eq_true_eq] at this
      omega
    refine ⟨lt,List.length_pos_iff.mpr h1,fun c hc=>?_⟩
    rw [digit_ascii c (lt c hc)]
    exact h2 c hc
theorem Lc {cs:List Nat} (h:cs.all we=true):NumText.AllDigits cs:=by
  intro c hc
  have:=List.all_eq_true.mp h c hc
  unfold we at this
  simpa using this
theorem DY {l:List Nat} (h:HZ l=true):lH l≠[]∧NumText.AllDigits (lH l)∧(lH l).length≤60∧((lH l).head?=some 48→l=[48]):=by
  simp only [HZ,Bool.and_eq_true,Bool.not_eq_true',List.isEmpty_eq_false_iff,decide_eq_true_eq,Bool.and_eq_false_imp,decide_eq_false_iff_not,ne_eq,Classical.not_not] at h
  exact ⟨h.1.1.1,Lc h.1.1.2,h.1.2,h.2⟩
theorem JJ {t:Str} (h:HZ t.cps.toList=true):t.length≤61:=by
  obtain ⟨h1,h2,h3,h4⟩:=DY h
  have hl:t.length=t.cps.toList.length:=by simp [Str.length]
  rw [hl]
  cases e:t.cps.toList with
  | nil=>simp
  | cons c r=>
    by_cases z:c=45
    · subst z
      rw [e] at h3
      simp only [lH] at h3
      rw [List.length_cons];omega
    · rw [e,wg (by simp [z])] at h3
      omega
theorem OC {t:Str} (h:HZ t.cps.toList=true):PySem.intText? t=some (MC t.cps.toList):=by
  have hlen:=JJ h
  obtain ⟨h1,h2,h3,h4⟩:=DY h
  cases e:t.cps.toList with
  | nil=>rw [e] at h1;exact absurd rfl h1
  | cons c r=>
    by_cases z:c=45
    · subst z
      rw [e] at h1 h2
      exact PySem.intText_neg e h2 h1 (by omega)
    · have OD:(c::r).head?≠some 45:=by simp [z]
      rw [JH OD,← e]
      rw [e,wg OD,← e] at h2
      exact PySem.intText_digits h2 (by rw [e];simp) (by omega)
end L2
set_option Elab.async false
set_option linter.all false
set_option maxRecDepth 100000
set_option maxHeartbeats 4000000
namespace L2
open PySem PySem.Spec PyProof.Rows
end L2
set_option Elab.async false
set_option linter.all false
set_option maxRecDepth 100000
set_option maxHeartbeats 4000000
namespace L2
open PySem PySem.Spec PyProof.Rows PySem.W PySem.AutoSeq1 PySem.MeetsSeq
section
variable {P:Program} {w:World} {A:Around} {E:Value→Shared→Prop} {s:Shared} {K:PySem.W.Frag} {x C:Addr} {ox:Obj} {od:Option Obj}
end
inductive Tq (K:PySem.W.Frag) (H:Hp):V→Prop where
  | eO:Tq K H .eO
  | int (i:Int):Tq K H (.int i)
  | str (t:Str):Tq K H (.str t)
  | tup {a:Addr} {xs:List V} (h:uQ K H a xs):Tq K H (.ref a)
  | lst {a:Addr} {xs:List V} (h:fE K H a xs):Tq K H (.ref a)
structure aaS (K:PySem.W.Frag) (C:Addr):Prop where
  t:subIn K (.ref C) (.type "tuple")=some false
  l:subIn K (.ref C) (.type "list")=some false
  i:subIn K (.ref C) (.type "int")=some false
  s:subIn K (.ref C) (.type "str")=some false
  n:subIn K (.ref C) (.type "NoneType")=some false
section
variable {X:Cx} {pins:List (Addr×Obj)} {σ:St} {H:Hp} {s:Shared} {A:Around} {E:Value→Shared→Prop} {x C dx:Addr} {fs:List (Str×V)}
end
section
variable {X:Cx}
def lI (K:PySem.W.Frag) (C:Addr) (sp:Sp):R2:=fun x y H Q=>∃ a dx fs l vs,x=.ref a∧y=.ref l∧H a=some (.ins C dx fs)∧H l=some (.lst vs)∧(∀ y∈vs,Tq K H y)∧(∀ y∈vs,∀ Q:VK,Q (.bl false) H→sp [.ref a,y] H Q E0)∧Q (.bl false) H
end
end L2
set_option Elab.async false
set_option linter.all false
set_option maxRecDepth 100000
set_option maxHeartbeats 4000000
namespace L2
open PySem PySem.Spec PyProof.Rows
section
variable {X:Cx}
end
section
variable {K:PySem.W.Frag} {g:TG} {tt:TT} {te:TE} {D:Addr} {Q:Hp→Prop} {σ:St} {H:Hp} {x:Str} {tb:TS} {DD:Ends}
end
theorem aL.quiet {P:Program} {w:World} {K:PySem.W.Frag} {mg:Str→Option Value} {base:Heap} {k:Nat} {f:Addr} {fd:FuncData} {ps:List Str} {sp LV:Sp} (F:aL P w K mg base (Nu P w) k f fd ps sp)
    (h:∀ vs H Q E,LV vs H Q E→sp vs H Q fun _ _ _=>False):aL P w K mg base dF k f fd ps LV:=
  ⟨fun vs H Q E q=>F.len vs H Q _ (h _ _ _ _ q),fun A outer s H args us vs Q E hr he hb hv hs=>codeAny_mono (F.run A outer s H args us vs Q _ hr he hb hv (h _ _ _ _ hs)) fun r s' z=>by
    cases r with
    | ok fl=>cases fl <;> exact z
    | error e=>
      obtain ⟨_,_,_,_,_,_,_,_,_,_,_,_,_,_,q⟩:=z
      exact q⟩
theorem Jy.quiet {P:Program} {w:World} {K:PySem.W.Frag} {mg:Str→Option Value} {base:Heap} {x:Str} {k:Nat} {ps:List Str} {sp LV:Sp} (C:Jy P w K mg base x k ps sp)
    (h:∀ vs H Q E,LV vs H Q E→sp vs H Q fun _ _ _=>False):Callee P w K mg base x k ps LV:=by
  obtain ⟨f,fd,F,b,kp,m⟩:=C.ex
  exact ⟨f,fd,F.quiet h,b,kp,m⟩
end L2
set_option Elab.async false
set_option linter.all false
set_option maxRecDepth 100000
set_option maxHeartbeats 4000000
namespace L2
open PySem PySem.Spec PyProof.Rows
structure FnAt (P:Program) (w:World) (K:PySem.W.Frag) (mg:Str→Option Value) (base:Heap) (k:Nat) (ps:List Str) (sp:Sp) (f:Addr):Prop where
  ex:∃ fd:FuncData,aL P w K mg base dF k f fd ps sp∧Binds K fd ps []∧PySem.W.keepIn K (.ref f)=true
section
variable {X:Cx}
end
section
variable {X:Cx}
end
section
variable {K:PySem.W.Frag} {g:TG} {tb:TS} {DD:Ends} {σ:St} {H:Hp} {x:Str}
end
section
variable {prog:Program} {w:World} {A:Around} {E:Value→Shared→Prop} {s:Shared}
end
section
variable {X:Cx} {es:List Expr} {pos:Pos}
end
section
variable {K:PySem.W.Frag} {ta:TA} {g:TG} {tb:TS} {DD:Ends} {σ:St} {H:Hp} {a b D:Addr} {xs ys:List V} {tt:TT} {te:TE} {Q:Hp→Prop} {n:Nat}
end
section
variable {K:PySem.W.Frag} {g:TG} {tb:TS} {DD:Ends} {σ:St} {H:Hp} {x:Str}
end
end L2
set_option Elab.async false
set_option linter.all false
set_option maxRecDepth 100000
set_option maxHeartbeats 4000000
namespace L2
open PySem PySem.Spec PyProof PyProof.Rows
inductive Rz (X:Cx):List ExceptHandler→List (Addr×Nat×TS)→Prop
  | nil:Rz X [] []
  | cons {x n:Str} {CF:Addr} {i:Nat} {np hp:Pos} {Qg:List Stmt} {b0:Stmt} {ts:TS} {r:List ExceptHandler} {rs:List (Addr×Nat×TS)} (hi:X.N[i]?=some n) (hl:X.env.kindOf n=some .local) (hg:Gl X x) (hm:X.mg x=some (.ref CF))
      (hs:∀ (a:Addr) (xe:Value→Shared→Prop) (pn:List (Addr×Obj)),JB (X.HU a xe pn) (b0::Qg) ts) (hr:Rz X r rs) (zc:(x==("__debug__":Str))=false:=by decide):Rz X (.ExceptHandler (some (.Name x np)) (some n) (b0::Qg) hp::r) ((CF,i,ts)::rs)
section
variable {X:Cx}
end
end L2
set_option Elab.async false
set_option linter.all false
set_option maxRecDepth 100000
set_option maxHeartbeats 4000000
namespace L2
open PySem PySem.Spec PyProof.Rows
section
variable {X:Cx}
end
section
variable {X:Cx}
end
section
variable {K:PySem.W.Frag} {g:TG} {tb:TS} {D:Ends} {σ:St} {H:Hp} {a:Addr} {xs:List V}
end
end L2
set_option Elab.async false
set_option linter.all false
set_option maxRecDepth 100000
set_option maxHeartbeats 4000000
namespace L2
open PySem PySem.Spec PyProof.Rows
def Qh (is:List Nat) (m:Nat):List V→List V→List V:=fun us ws=>if us.length=0∧ws.length=m then is.map fun i=>ws.getD i .eO else []
def gp (is:List Nat) (m:Nat):List Value→List Value→List Value:=fun us ws=>if us.length=0∧ws.length=m then is.map fun i=>ws.getD i .none else []
theorem gF {is:List Nat} {a:V}:Qh is 1 [] [a]=is.map fun i=>[a].getD i .eO:=rfl
theorem gG {is:List Nat} {a b:V}:Qh is 2 [] [a,b]=is.map fun i=>[a,b].getD i .eO:=rfl
theorem gH {is:List Nat} {a b c:V}:Qh is 3 [] [a,b,c]=is.map fun i=>[a,b,c].getD i .eO:=rfl
theorem gI {is:List Nat} {a b c d:V}:Qh is 4 [] [a,b,c,d]=is.map fun i=>[a,b,c,d].getD i .eO:=rfl
theorem Ld {zs:List V} {ws:List Value} (r:Vals zs ws) (i:Nat):RelV (zs.getD i .eO) (ws.getD i .none):=by
  induction r generalizing i with
  | nil=>exact rfl
  | cons h t ih=>
    cases i with
    | zero=>exact h
    | succ i=>exact ih i
theorem wj {zs:List V} {ws:List Value} (r:Vals zs ws):∀ is:List Nat,Vals (is.map fun i=>zs.getD i .eO) (is.map fun i=>ws.getD i .none)
  | []=>.nil
  | i::is=>.cons (Ld r i) (wj r is)
theorem fN {K:PySem.W.Frag} {fd:FuncData} {ps ks:List Str} {is:List Nat} {m:Nat} (hp:0 < ps.length) (h:∀ (s:Shared) (ws:List Value),K.In s.heap→ws.length=m→BindsTo s fd ⟨[],ks.zip ws⟩ (ps.zip (is.map fun i=>ws.getD i .none))):uW K fd ps ks (gp is m) (Qh is m) where
  to:=fun s us ws hK hl=>by
    unfold gp at hl ⊢
    split
    · next c=>
      obtain rfl:us=[]:=List.length_eq_zero_iff.mp c.1
      exact h s ws hK c.2
    · next c=>
      rw [if_neg c] at hl
      simp only [List.length_nil] at hl
      omega
  rel:=fun {vs us zs ws} r rz=>by
    unfold gp Qh
    rw [r.length,rz.length]
    split
    · exact wj rz is
    · exact .nil
structure bL (P:Program) (w:World) (K:PySem.W.Frag) (mg:Str→Option Value) (base:Heap) (x:Str) (k:Nat) (ps ks:List Str) (is:List Nat) (sp:Sp):Prop where
  ex:∃ f fd,aL P w K mg base dF k f fd ps sp∧uW K fd ps ks (gp is ks.length) (Qh is ks.length)∧PySem.W.keepIn K (.ref f)=true∧mg x=some (.ref f)
section
variable {X:Cx}
theorem iW {x:Str} {k:Nat} {ps ks:List Str} {is:List Nat} {sp:Sp} {p5:List Keyword} {tk:TA} {p pos:Pos} (C:bL X.prog X.w X.K X.mg X.base x k ps ks is sp) (hr:dU k X.A) (hg:Gl X x) (NZ:JK X p5 tk)
    (AA:(backToKw pos (keywordEach p5 X.env)).all (·.1.isSome)=true:=by rfl) (N1:(backToKw pos (keywordEach p5 X.env)).filterMap (·.1)=ks:=by rfl) (zc:(x==("__debug__":Str))=false:=by decide)
    (vI:((backTo pos (starEach [] X.env)).any (·.1)||(backToKw pos (keywordEach p5 X.env)).any (·.1.isNone))=false:=by rfl):
    JE X (.Call (.Name x p) [] p5 pos) (DB sp (Qh is ks.length) E0 iG tk):=⟨by
  obtain ⟨f,fd,F,b,kp,mm⟩:=C.ex
  intro pins s σ H Q I h
  refine wpAny_Call_Name_kw (p7 I hg mm ?_ zc)
  refine PySem.W.callWith_KW0 (h₀:=X.base) I.ok.mod.LF kp AA ?_ vI
  refine eo (NZ.h pos pins s σ H _ I h) fun ws s2 ⟨zs,H2,I2,rz,q2⟩=>⟨I2.nJ,?_⟩
  rw [N1]
  exact Jj (us:=[]) (vs:=[]) F hr b rK I2 .nil rz q2⟩
end
structure Ia (K:PySem.W.Frag) (fd:FuncData) (ps ks:List Str) (is:List Nat) (ds:List Value):Prop where
  to:∀ (s:Shared) (v:Value) (ws:List Value),K.In s.heap→ws.length=ks.length→BindsTo s fd ⟨[v],ks.zip ws⟩ (ps.zip (v::(is.map (fun i=>ws.getD i .none)++ds)))
structure jd (P:Program) (w:World) (K:PySem.W.Frag) (mg:Str→Option Value) (base:Heap) (x:Str) (k:Nat) (ps ks:List Str) (is:List Nat) (jz:List V) (C:Addr) (sp:Sp):Prop where
  ex:∃ (f:Addr) (fd:FuncData) (ds:List Value),Mk K C f∧aL P w K mg base dF k f fd ps sp∧Ia K fd ps ks is ds∧Vals jz ds∧mg x=some (.ref C)
structure MD (P:Program) (w:World) (K:PySem.W.Frag) (mg:Str→Option Value) (base:Heap) (C:Addr) (m:Str) (k:Nat) (ps ks:List Str) (is:List Nat) (jz:List V) (sp:Sp):Prop where
  ex:∃ (f:Addr) (fd:FuncData) (ds:List Value),Meth K C m f∧aL P w K mg base dF k f fd ps sp∧Ia K fd ps ks is ds∧Vals jz ds
def dO (K:PySem.W.Frag) (C:Addr) (sp:Sp) (is:List Nat) (m:Nat) (jz:List V) (E:XK) (tk:TA):TE:=fun σ H Q=>tk σ H fun zs H1=>zs.length=m∧∀ x dx,new K H1 x→new K H1 dx→dx≠x→
  sp (.ref x::(is.map (fun i=>zs.getD i .eO)++jz)) (upd (upd H1 dx (.own x)) x (.ins C dx [])) (fun v H2=>v=.eO∧Q (.ref x) H2) E
def dQ (C:Addr) (nm:Str) (sp:Sp) (is:List Nat) (m:Nat) (jz:List V) (E:XK) (ta:TE) (tk:TA):TE:=fun σ H Q=>ta σ H fun x H1=>∃ a dx fs,x=.ref a∧H1 a=some (.ins C dx fs)∧fs.lookup nm=none∧
  tk σ H1 fun zs H2=>zs.length=m∧sp (x::(is.map (fun i=>zs.getD i .eO)++jz)) H2 Q E
section
variable {X:Cx} {k:Nat} {f C:Addr} {fd:FuncData} {ps ks:List Str} {is:List Nat} {sp:Sp} {jz:List V} {ds:List Value} {E:XK}
theorem Le {pins:List (Addr×Obj)} {σ:St} {H:Hp} {s:Shared} {Q:VK} {ws:List Value} {zs:List V} (M:Mk X.K C f) (F:aL X.prog X.w X.K X.mg X.base dF k f fd ps sp) (hr:dU (k + 1) X.A) (hb:Ia X.K fd ps ks is ds) (hd:Vals jz ds)
    (I:Inv X pins σ H s) (r:Vals zs ws) (hn:zs.length=ks.length)
    (h:∀ x dx,new X.K H x→new X.K H dx→dx≠x→sp (.ref x::(is.map (fun i=>zs.getD i .eO)++jz)) (upd (upd H dx (.own x)) x (.ins C dx [])) (fun v H2=>v=.eO∧Q (.ref x) H2) E0):
    wpAny (model X.prog X.w) X.A (call (.ref C) [] (ks.zip ws)) (EP X pins σ Q) X.xe s:=by
  have I2:=Inv.made (C:=C) I
  have hq:=h (s.heap.objs.size + 1) s.heap.objs.size ⟨I.gm.fresh (Nat.le_succ _),I2.vc av⟩ I.new (Nat.ne_of_lt (Nat.lt_succ_self _))
  have r2:Vals (V.ref (s.heap.objs.size + 1)::(is.map (fun i=>zs.getD i .eO)++jz)) (Value.ref (s.heap.objs.size + 1)::(is.map (fun i=>ws.getD i .none)++ds)):=.cons rfl ((wj r is).append hd)
  refine wpAny_call (FI (f:=f) (vs:=[]) I.nJ M.makes M.init (beq_iff_eq.mp M.fn) (codeAny_mono (F.run _ X.stack _ _ ⟨[Value.ref (s.heap.objs.size + 1)],ks.zip ws⟩ (Value.ref (s.heap.objs.size + 1)::(is.map (fun i=>ws.getD i .none)++ds)) _ _ E0 (hr.make C [] (ks.zip ws))
    (I2.Hq.make C [] (ks.zip ws)) (hb.to _ _ ws I2.nJ (by rw [← r.length,hn])) r2 hq) fun r s' hq'=>?_))
  cases r with
  | error e=>exact rK pins σ _ _ e s' I2 hq'
  | ok fl=>
    cases fl with
    | ret u=>
      obtain ⟨v,H',I3,rv,ev,q3⟩:=I2.after hq'
      subst ev
      exact ⟨rv,⟨V.ref (s.heap.objs.size + 1),H',I3,rfl,q3⟩⟩
    | next=>exact False.elim hq'
    | brk=>exact False.elim hq'
    | cont=>exact False.elim hq'
theorem ve {y:Str} {p pos:Pos} {p5:List Keyword} {tk:TA} (M:jd X.prog X.w X.K X.mg X.base y k ps ks is jz C sp) (hr:dU (k + 1) X.A) (hg:Gl X y) (NZ:JK X p5 tk)
    (AA:(backToKw pos (keywordEach p5 X.env)).all (·.1.isSome)=true:=by rfl) (N1:(backToKw pos (keywordEach p5 X.env)).filterMap (·.1)=ks:=by rfl) (zc:(y==("__debug__":Str))=false:=by decide)
    (vI:((backTo pos (starEach [] X.env)).any (·.1)||(backToKw pos (keywordEach p5 X.env)).any (·.1.isNone))=false:=by rfl):
    JE X (.Call (.Name y p) [] p5 pos) (dO X.K C sp is ks.length jz E0 tk):=⟨by
  obtain ⟨f,fd,ds,M,F,b,vd,mm⟩:=M.ex
  intro pins s σ H Q I h
  refine wpAny_Call_Name_kw (p7 I hg mm ?_ zc)
  refine PySem.W.callWith_KW0 (h₀:=X.base) I.ok.mod.LF M.kp AA ?_ vI
  refine eo (NZ.h pos pins s σ H _ I h) fun ws s2 ⟨zs,H2,I2,rz,hn,q2⟩=>⟨I2.nJ,?_⟩
  rw [N1]
  exact Le M F hr b vd I2 rz hn q2⟩
theorem RA {o:Expr} {ta:TE} {m:Str} {apos pos:Pos} {p5:List Keyword} {tk:TA} {pl:Sem Bool} (M:MD X.prog X.w X.K X.mg X.base C m k ps ks is jz sp) (c:lQ X.K C) (hr:dU k X.A) (ho:JE X o ta) (NZ:JK X p5 tk)
    (AA:(backToKw pos (keywordEach p5 X.env)).all (·.1.isSome)=true:=by rfl) (N1:(backToKw pos (keywordEach p5 X.env)).filterMap (·.1)=ks:=by rfl)
    (vI:((backTo pos (starEach [] X.env)).any (·.1)||(backToKw pos (keywordEach p5 X.env)).any (·.1.isNone))=false:=by rfl)
    (ht:eval (.Call (.Attribute o m apos) [] p5 pos) X.env=(do
      let ov ← eval o X.env
      standAt apos.atName
      let (f,first) ← holding [ov] (getMethod ov m pl)
      callWith pos f first (backTo pos (starEach [] X.env)) (backToKw pos (keywordEach p5 X.env))):=by rfl):
    JE X (.Call (.Attribute o m apos) [] p5 pos) (dQ C m sp is ks.length jz E0 ta tk):=⟨by
  obtain ⟨f,fd,ds,hm,F,b,vd⟩:=M.ex
  intro pins s σ H Q I h
  refine PySem.W.methodCall_KW (pl:=pl) (eo (ho.h pins s σ H _ I h) fun u s1 ⟨x,H1,I1,rx,a,dx,fs,ex,ea,l,q⟩=>?_) ht
  subst ex
  obtain rfl:u=Value.ref a:=rx
  refine uU I1 ea c hm l ?_
  refine PySem.W.callWith_KW0 (first:=[.ref a]) (h₀:=X.base) I.ok.mod.LF hm.kp AA ?_ vI
  refine eo (NZ.h pos pins s1 σ H1 _ I1 q) fun ws s2 ⟨zs,H2,I2,rz,hn,q2⟩=>⟨I2.nJ,?_⟩
  rw [N1]
  have r2:Vals (V.ref a::(is.map (fun i=>zs.getD i .eO)++jz)) (Value.ref a::(is.map (fun i=>ws.getD i .none)++ds)):=.cons rfl ((wj rz is).append vd)
  refine wpAny_call (codeAny_mono (F.run X.A X.stack s2 H2 ⟨[.ref a],ks.zip ws⟩ _ _ Q E0 hr I2.Hq (b.to s2 _ ws I2.nJ (by rw [← rz.length,hn])) r2 q2) fun r s' hq=>?_)
  match r,hq with
  | .error e,hq=>exact rK pins σ H2 s2 e s' I2 hq
  | .ok (.ret u),hq=>exact I2.after hq⟩
end
end L2
set_option Elab.async false
set_option linter.all false
set_option maxRecDepth 100000
set_option maxHeartbeats 4000000
namespace K19
open PySem L2
local macro_rules | `(tactic| walk_at "rd")=>`(tactic| simp only [jT,fF,jV,iZ,cY,jX,jU,gn,fG,jy,tC,tu,xX,tD,rI,rU,fH,tB,fC,jS,fD,jQ,xV,jR,xW,dm,vJ,eX,iG,lD,lC,ee,List.getElem?_cons_zero,List.getElem?_cons_succ,List.set_cons_zero,List.set_cons_succ,Option.some.injEq,V.int.injEq,V.bl.injEq,V.ref.injEq,V.ty.injEq,V.str.injEq,List.cons.injEq,exists_eq_left',exists_eq_left,exists_and_left,and_true,true_and,and_assoc,zd,lE,fP,yd,ye,jY,HO.lst.injEq,HO.tup.injEq,bN,dX,dY,dZ,d7,d8,d9,av,aW,aX,cB,gq,gr,gu,decide_eq_true_eq,L2.start,List.map_cons,List.map_nil,List.length_cons,List.length_nil,Nat.reduceAdd,Nat.reduceSub,List.replicate_succ,List.replicate_zero,List.cons_append,List.nil_append,List.append_nil,bw,bx,aB,bV,yi,jA,kg,sizeLine_eq,Int.reduceLE,Int.reduceLT,Int.reducePow,Int.reduceToNat,Int.reduceAdd,Int.reduceSub,Int.reduceMul,Int.reduceNeg,Nat.reduceLeDiff,Nat.reducePow,Nat.reduceLT,Int.reduceEq,true_or,or_true,ite_true,ite_false,if_true,if_false,Bool.not_true,Bool.not_false,Bool.false_eq_true,decide_true,decide_false,j6,bz,bA,ao,xY,cI,fJ,kr,gz,fR,dJ,cT,fK,fQ,cW,dj,j5,j7,fL,fm,jW,xZ,cN,dB,j0,jZ,eZ,j3,zf,eY,bW,bX,bY,join_some,cu,iU,vO,aB,lG,j9,lI,cR,dN,ki,bO,bP,cO,dM,bB,bZ,cg,cS,gw,gx,gy,ef,dW,cA,cz,bC,bD,aY,cy,dO,dQ,gF,gG,gH,gI,List.getD_cons_zero,List.getD_cons_succ])
local macro_rules | `(tactic| walk_at "rn")=>`(tactic| simp only [jT,fF,jV,iZ,cY,jX,jU,gn,fG,jy,tC,tu,xX,tD,rI,rU,fH,tB,fC,jS,fD,jQ,xV,jR,xW,dm,vJ,eX,iG,lD,lC,ee,List.getElem?_cons_zero,List.getElem?_cons_succ,List.set_cons_zero,List.set_cons_succ,Option.some.injEq,V.int.injEq,V.bl.injEq,V.ref.injEq,V.ty.injEq,V.str.injEq,List.cons.injEq,exists_eq_left',exists_eq_left,exists_and_left,and_true,true_and,and_assoc,zd,lE,fP,yd,ye,jY,HO.lst.injEq,HO.tup.injEq,bN,dX,dY,dZ,d7,d8,d9,av,aW,aX,cB,gq,gr,gu,decide_eq_true_eq,L2.start,List.map_cons,List.map_nil,List.length_cons,List.length_nil,Nat.reduceAdd,Nat.reduceSub,List.replicate_succ,List.replicate_zero,List.cons_append,List.nil_append,List.append_nil,bw,bx,aB,bV,yi,jA,kg,sizeLine_eq,Int.reduceLE,Int.reduceLT,Int.reducePow,Int.reduceToNat,Int.reduceAdd,Int.reduceSub,Int.reduceMul,Int.reduceNeg,Nat.reduceLeDiff,Nat.reducePow,Nat.reduceLT,Int.reduceEq,true_or,or_true,ite_true,ite_false,if_true,if_false,Bool.not_true,Bool.not_false,Bool.false_eq_true,decide_true,decide_false,j6,bz,bA,ao,xY,cI,fJ,kr,gz,fR,dJ,cT,fK,fQ,dj,j5,j7,fL,fm,jW,xZ,cN,dB,j0,jZ,eZ,j3,zf,eY,bW,bX,bY,join_some,cu,iU,vO,aB,lG,j9,lI,cR,dN,ki,bO,bP,cO,dM,bB,bZ,cg,cS,gw,gx,gy,ef,dW,cA,cz,bC,bD,aY,cy,dO,dQ,gF,gG,gH,gI,List.getD_cons_zero,List.getD_cons_succ])
local macro_rules | `(tactic| simp_arith [$hs,*])=>`(tactic| simp only [jT,fF,jV,iZ,cY,jX,jU,gn,fG,jy,tC,tu,xX,tD,rI,rU,fH,tB,fC,jS,fD,jQ,xV,jR,xW,dm,vJ,eX,iG,lD,lC,ee,List.getElem?_cons_zero,List.getElem?_cons_succ,List.set_cons_zero,List.set_cons_succ,Option.some.injEq,V.int.injEq,V.bl.injEq,V.ref.injEq,V.ty.injEq,V.str.injEq,List.cons.injEq,exists_eq_left',exists_eq_left,exists_and_left,and_true,true_and,and_assoc,zd,lE,fP,yd,ye,jY,HO.lst.injEq,HO.tup.injEq,bN,dX,dY,dZ,d7,d8,d9,av,aW,aX,cB,gq,gr,gu,decide_eq_true_eq,L2.start,List.map_cons,List.map_nil,List.length_cons,List.length_nil,Nat.reduceAdd,Nat.reduceSub,List.replicate_succ,List.replicate_zero,List.cons_append,List.nil_append,List.append_nil,bw,bx,aB,bV,yi,jA,kg,sizeLine_eq,Int.reduceLE,Int.reduceLT,Int.reducePow,Int.reduceToNat,Int.reduceAdd,Int.reduceSub,Int.reduceMul,Int.reduceNeg,Nat.reduceLeDiff,Nat.reducePow,Nat.reduceLT,Int.reduceEq,true_or,or_true,ite_true,ite_false,if_true,if_false,Bool.not_true,Bool.not_false,Bool.false_eq_true,decide_true,decide_false,j6,bz,bA,ao,xY,cI,fJ,kr,gz,fR,dJ,cT,fK,fQ,dj,j5,j7,fL,fm,jW,xZ,cN,dB,j0,jZ,eZ,j3,zf,eY,bW,bX,bY,join_some,cu,iU,vO,aB,lG,j9,lI,cR,dN,ki,bO,bP,cO,dM,bB,bZ,cg,cS,gw,gx,gy,ef,dW,cA,cz,bC,bD,aY,cy,dO,dQ,gF,gG,gH,gI,List.getD_cons_zero,List.getD_cons_succ,$hs,*])
def top (i:Nat):Stmt:=PySem.Challenge.pw_notefall_k19_arguments_by_their_names.main.body.getD i (.Pass ⟨0,0,0,0⟩)
abbrev jg:Stmt:=top 14
abbrev ku:Stmt:=top 15
abbrev ff:Stmt:=top 16
abbrev pH:Stmt:=top 17
abbrev iH:Stmt:=top 18
abbrev jh:Stmt:=top 19
abbrev fh:Stmt:=top 20
abbrev mE:Stmt:=top 21
abbrev mF:Stmt:=top 22
abbrev mG:Stmt:=top 26
abbrev ji:Stmt:=top 27
abbrev fS:Stmt:=top 28
abbrev jj:Stmt:=top 29
abbrev yo:Stmt:=top 30
abbrev yp:Stmt:=top 31
abbrev gW:Stmt:=top 32
abbrev pI:Stmt:=top 33
abbrev pJ:Stmt:=top 34
abbrev mH:Stmt:=top 36
abbrev iI:Stmt:=top 37
abbrev mJ:Stmt:=top 38
abbrev gX:Stmt:=top 39
abbrev C7:Stmt:=top 40
abbrev mK:Stmt:=top 41
abbrev pK:Stmt:=top 42
abbrev yq:Stmt:=top 43
abbrev tK:Stmt:=top 45
abbrev kF:Stmt:=top 46
abbrev pL:Stmt:=top 47
abbrev mL:Stmt:=top 48
abbrev lT:Stmt:=top 49
abbrev fT:Stmt:=top 50
abbrev kH:Stmt:=top 51
abbrev yr:Stmt:=top 52
abbrev pM:Stmt:=top 53
abbrev iJ:Stmt:=top 56
abbrev gY:Stmt:=top 57
abbrev fU:Stmt:=top 58
abbrev jk:Stmt:=top 63
abbrev fV:Stmt:=top 64
abbrev mO:Stmt:=top 65
abbrev gZ:Stmt:=inClass (top 66) 1
abbrev jl:Stmt:=inClass (top 66) 2
abbrev jm:Stmt:=inClass (top 66) 3
abbrev fX:Stmt:=inClass (top 66) 4
abbrev g5:Stmt:=inClass (top 66) 5
abbrev bQ:Stmt:=inClass (top 67) 0
abbrev kI:Stmt:=inClass (top 67) 1
abbrev iK:Stmt:=inClass (top 67) 2
abbrev kJ:Stmt:=inClass (top 67) 3
abbrev bH:Stmt:=inClass (top 68) 0
abbrev jn:Stmt:=inClass (top 68) 1
abbrev g6:Stmt:=inClass (top 68) 2
abbrev jo:Stmt:=inClass (top 68) 3
abbrev bR:Stmt:=inClass (top 69) 0
abbrev kK:Stmt:=inClass (top 69) 1
abbrev iL:Stmt:=inClass (top 69) 2
abbrev kL:Stmt:=inClass (top 69) 3
abbrev bI:Stmt:=inClass (top 70) 0
abbrev jq:Stmt:=inClass (top 70) 1
abbrev g7:Stmt:=inClass (top 70) 2
abbrev jr:Stmt:=inClass (top 70) 3
abbrev bh:Stmt:=inClass (top 71) 0
abbrev iM:Stmt:=inClass (top 71) 1
abbrev fY:Stmt:=inClass (top 71) 2
abbrev iN:Stmt:=inClass (top 71) 3
abbrev bq:Stmt:=inClass (top 72) 0
abbrev iO:Stmt:=inClass (top 72) 1
abbrev fZ:Stmt:=inClass (top 72) 2
abbrev iP:Stmt:=inClass (top 72) 3
abbrev cX:Stmt:=inClass (top 73) 0
abbrev jt:Stmt:=inClass (top 73) 1
abbrev aZ:Stmt:=inClass (top 74) 0
abbrev g8:Stmt:=inClass (top 74) 1
abbrev kM:Stmt:=top 75
abbrev mP:Stmt:=top 76
abbrev iQ:Stmt:=top 77
abbrev ju:Stmt:=top 79
abbrev jv:Stmt:=top 80
abbrev iR:Stmt:=top 81
abbrev jw:Stmt:=top 82
abbrev iS:Stmt:=top 83
abbrev aV:Stmt:=top 84
abbrev dR:Stmt:=top 85
abbrev dS:Stmt:=top 86
abbrev lZ:Stmt:=top 87
def things:List (Str×Int):=[("put",3),("drop",2),("add",3),("wipe",3),("raise",4),("level",4),("mark",1),("forget",2)]
def thv (u1 u2 u3 u4 u5 u6 u7 u8:Tok):List (Key×Value):=[(.inr "put",.int 3 u1),(.inr "drop",.int 2 u2),(.inr "add",.int 3 u3),(.inr "wipe",.int 3 u4),(.inr "raise",.int 4 u5),(.inr "level",.int 4 u6),(.inr "mark",.int 1 u7),(.inr "forget",.int 2 u8)]
structure B (P:Program) (w:World) (K:PySem.W.Frag) (mg:Str→Option Value) (br aG aC aP:Addr) (tE tM tN tF u1 u2 u3 u4 u5 u6 u7 u8 t1 t2 t3 t4:Tok):Prop where
  len:mg "len"=none
  isinstance:mg "isinstance"=none
  int:mg "int"=none
  bool:mg "bool"=none
  tuple:mg "tuple"=none
  str:mg "str"=none
  list:mg "list"=none
  range:mg "range"=none
  min:mg "min"=none
  max:mg "max"=none
  any:mg "any"=none
  sum:mg "sum"=none
  sorted:mg "sorted"=none
  set:mg "set"=none
  enumerate:mg "enumerate"=none
  all:mg "all"=none
  Xy:mg "END"=some (.int 1000000000000 tE)
  AU:mg "MOST_VALUE"=some (.int 1000000000000000000000000000000 tM)
  DZ:mg "MOST_FIGURES"=some (.int 60 tF)
  OE:mg "NO_MORE"=some (.str "no more" tN)
  Lf:mg "MOST_TRAY"=some (.int 64 t1)
  Lg:mg "LEAST_FAN"=some (.int 3 t2)
  MF:mg "MOST_FAN"=some (.int 16 t3)
  Lh:mg "MOST_ROWS"=some (.int 64 t4)
  MG:mg "THINGS"=some (.ref br)
  MH:mg "GONE"=some (.ref aG)
  Gd:mg "CLEARING"=some (.ref aC)
  UG:mg "PLANS"=some (.ref aP)
  kG:lR K aG=some [.str "gone"]
  kC:∃ g1 g2,lR K aC=some [.ref g1,.ref g2]∧lR K g1=some [.str "gone"]∧lR K g2=some [.str "gone"]
  kP:lR K aP=some [.str "fullest",.str "eldest"]
  things:Jz P w K br (thv u1 u2 u3 u4 u5 u6 u7 u8)
section
variable {P:Program} {w:World} {K:PySem.W.Frag} {mg:Str→Option Value} {br aG aC aP:Addr} {tE tM tN tF u1 u2 u3 u4 u5 u6 u7 u8 t1 t2 t3 t4:Tok}
theorem B.D0 (_:B P w K mg br aG aC aP tE tM tN tF u1 u2 u3 u4 u5 u6 u7 u8 t1 t2 t3 t4):RelV (.int 1000000000000) (.int 1000000000000 tE):=⟨tE,rfl⟩
theorem B.ud (_:B P w K mg br aG aC aP tE tM tN tF u1 u2 u3 u4 u5 u6 u7 u8 t1 t2 t3 t4):RelV (.int 1000000000000000000000000000000) (.int 1000000000000000000000000000000 tM):=⟨tM,rfl⟩
theorem B.zP (_:B P w K mg br aG aC aP tE tM tN tF u1 u2 u3 u4 u5 u6 u7 u8 t1 t2 t3 t4):RelV (.int 60) (.int 60 tF):=⟨tF,rfl⟩
theorem B.Ib (_:B P w K mg br aG aC aP tE tM tN tF u1 u2 u3 u4 u5 u6 u7 u8 t1 t2 t3 t4):RelV (.str "no more") (.str "no more" tN):=⟨tN,rfl⟩
theorem B.D3 (_:B P w K mg br aG aC aP tE tM tN tF u1 u2 u3 u4 u5 u6 u7 u8 t1 t2 t3 t4):RelV (.int 64) (.int 64 t1):=⟨t1,rfl⟩
theorem B.D4 (_:B P w K mg br aG aC aP tE tM tN tF u1 u2 u3 u4 u5 u6 u7 u8 t1 t2 t3 t4):RelV (.int 3) (.int 3 t2):=⟨t2,rfl⟩
theorem B.Ge (_:B P w K mg br aG aC aP tE tM tN tF u1 u2 u3 u4 u5 u6 u7 u8 t1 t2 t3 t4):RelV (.int 16) (.int 16 t3):=⟨t3,rfl⟩
theorem B.D5 (_:B P w K mg br aG aC aP tE tM tN tF u1 u2 u3 u4 u5 u6 u7 u8 t1 t2 t3 t4):RelV (.int 64) (.int 64 t4):=⟨t4,rfl⟩
theorem B.C8 (_:B P w K mg br aG aC aP tE tM tN tF u1 u2 u3 u4 u5 u6 u7 u8 t1 t2 t3 t4):RelV (.ref br) (.ref br):=rfl
theorem B.wk (_:B P w K mg br aG aC aP tE tM tN tF u1 u2 u3 u4 u5 u6 u7 u8 t1 t2 t3 t4):RelV (.ref aG) (.ref aG):=rfl
theorem B.zg (_:B P w K mg br aG aC aP tE tM tN tF u1 u2 u3 u4 u5 u6 u7 u8 t1 t2 t3 t4):RelV (.ref aC) (.ref aC):=rfl
theorem B.MI (_:B P w K mg br aG aC aP tE tM tN tF u1 u2 u3 u4 u5 u6 u7 u8 t1 t2 t3 t4):RelV (.ref aP) (.ref aP):=rfl
end
inductive aR where
  | plus (n:Int) | is (n:Int) | gone
def aR.v:aR→List V
  | .plus n=>[.str "plus",.int n]
  | .is n=>[.str "is",.int n]
  | .gone=>[.str "gone"]
def aR.yu:aR→Prop
  | .plus _=>False
  | _=>True
def oV:Option Int→V
  | some i=>.int i
  | none=>.eO
def aR.f:aR→Option Int→Option Int
  | .plus n,some i=>some (i + n)
  | .plus _,none=>none
  | .is n,_=>some n
  | .gone,_=>none
def Gf (t n:aR):Option Int→Option Int
  | some i=>t.f (some i)
  | none=>n.f none
def Act (K:PySem.W.Frag) (H:Hp) (v:V) (t n:aR):Prop:=∃ a r s,v=.ref a∧tupQ K H a=some [.ref r,.ref s]∧tupQ K H r=some t.v∧tupQ K H s=some n.v∧n.yu
theorem Act.ext {K:PySem.W.Frag} {H H':Hp} {v:V} {t n:aR} (h:Act K H v t n) (x:Ext K H H'):Act K H' v t n:=by
  obtain ⟨a,r,s,rfl,e1,e2,e3,e4⟩:=h
  exact ⟨a,r,s,rfl,x.tup e1,x.tup e2,x.tup e3,e4⟩
theorem Act.kp {K:PySem.W.Frag} {H H':Hp} {v:V} {t n:aR} {p:Addr} {xs:List V} (h:Act K H v t n) (k:Kp K p H H') (hp:H p=some (.lst xs)):Act K H' v t n:=by
  obtain ⟨a,r,s,rfl,e1,e2,e3,e4⟩:=h
  exact ⟨a,r,s,rfl,k.tup hp e1,k.tup hp e2,k.tup hp e3,e4⟩
theorem s1:¬ (("plus":Str)="is"):=by decide +kernel
theorem s2:¬ (("gone":Str)="is"):=by decide +kernel
theorem s3:¬ (("is":Str)="plus"):=by decide +kernel
theorem s4:¬ (("gone":Str)="plus"):=by decide +kernel
def L3 (x y z:Int):HO:=.lst [.int x,.int y,.int z]
def Ic (K:PySem.W.Frag):Sp:=fun vs H Q _=>∃ c,vs=[.int c]∧∀ (p:Addr) (x y z:Int),new K H p→Q (.ref p) (upd H p (L3 x y z))
def AV (K:PySem.W.Frag):Sp:=fun vs H Q _=>∃ p x y z m,vs=[.ref p,.int m]∧H p=some (L3 x y z)∧0 < m∧m < 10 ^ 100∧
  ∀ (r x y z:Int) (H':Hp),0≤r→r < m→H' p=some (L3 x y z)→Kp K p H H'→Q (.int r) H'
def AW (K:PySem.W.Frag):Sp:=fun vs H Q _=>∃ v t n val,vs=[v,oV val]∧Act K H v t n∧∀ H',Ext K H H'→Q (oV (Gf t n val)) H'
section
variable {P:Program} {w:World} {K:PySem.W.Frag} {mg:Str→Option Value} {base:Heap}
theorem D6:ay ["_law_cell"] ["_law_cell"] (aa ju):=⟨rfl,rfl,rfl,by decide +kernel,rfl,by decide +kernel,by decide +kernel⟩
theorem D7 {f:Addr} {fd:FuncData} (F:fc K "_law_well" "_law_well" ju f fd) {br aG aC aP:Addr} {tE tM tN tF u1 u2 u3 u4 u5 u6 u7 u8 t1 t2 t3 t4:Tok} (B:B P w K mg br aG aC aP tE tM tN tF u1 u2 u3 u4 u5 u6 u7 u8 t1 t2 t3 t4):aL P w K mg base dF 1 f fd ["_law_cell"] (Ic K):=by
  refine F.fM D6 (fun vs H Q E h=>?_) (fun cJ A outer s H vs Q E hr h=>?_)
  · obtain ⟨c,rfl,_⟩:=h
    rfl
  obtain ⟨c,rfl,q⟩:=h
  refine ⟨_,(aK (aU (ua (af (nL uS (ev 0) (vS KW rfl B.int Hv (af (rM T6 (ev 0) (ze 1000000000000000000) (aO _)) az))) (af (ev 0) (af ei az)))))),?_⟩
  try walk_at "rd"
  refine ⟨?_,fun p hp=>q p _ _ _ hp⟩
  right
  split <;> decide
theorem jC:ay ["_law_well_here","_law_many","_law_found","_law_mixed"] ["_law_well_here","_law_many"] (aa jv):=⟨rfl,rfl,rfl,by decide +kernel,rfl,by decide +kernel,by decide +kernel⟩
theorem D8 {f:Addr} {fd:FuncData} (F:fc K "_law_draw" "_law_draw" jv f fd) {br aG aC aP:Addr} {tE tM tN tF u1 u2 u3 u4 u5 u6 u7 u8 t1 t2 t3 t4:Tok} (B:B P w K mg br aG aC aP tE tM tN tF u1 u2 u3 u4 u5 u6 u7 u8 t1 t2 t3 t4):aL P w K mg base dF 1 f fd ["_law_well_here","_law_many"] (AV K):=by
  refine F.fM jC (fun vs H Q E h=>?_) (fun cJ A outer s H vs Q E hr h=>?_)
  · obtain ⟨p,x,y,z,m,rfl,_⟩:=h
    rfl
  obtain ⟨p,x,y,z,m,rfl,hp,h0,h1,q⟩:=h
  unfold L3 at hp
  refine ⟨_,(aE (nQ (eV T5 (ko ez (ev 0) ei (fun _ _=>rfl)) ei (aO _)) (aE (sset (i:=2) jC.nd rfl (Or.inl rfl) (nL yc (ko ez (ev 0) ei (fun _ _=>rfl)) (ev 1)))
      (aE (qc (nL vQ (ko ez (ev 0) ei (fun _ _=>rfl)) (ev 1)) (Up (ev 0) ei set_list))
      (aK (aU (ev 2))))) fq)
      (aE (qc (nL ie (ko ez (ev 0) ei (fun _ _=>rfl)) ei) (Up (ev 0) ei set_list))
      (aE (sset (i:=3) jC.nd rfl (Or.inl rfl) (nL ie (nL yc (ko ez (ev 0) ei (fun _ _=>rfl)) ei) (nL uS (nL vQ (ko ez (ev 0) ei (fun _ _=>rfl)) ei) ei)))
      (aE (sset (i:=3) jC.nd rfl (Or.inl rfl) (nL yc (nL uS (nL ie (nL ie (ev 3) (nL uS ei (ko ez (ev 0) ei (fun _ _=>rfl)))) ei) ei) ei))
      (aE (sset (i:=3) jC.nd rfl (Or.inl rfl) (nL yc (nL uS (ev 3) (nL ie (nL ie (nL vQ (ev 3) ei) ei) (ko ez (ev 0) ei (fun _ _=>rfl)))) ei))
      (aK (aU (nL yc (nL yc (nL uS (ev 3) (nL ie (nL vQ (ev 3) ei) ei)) ei) (ev 1))))))))),?_⟩
  simp only [jT,fF,jV,iZ,cY,jX,jU,gn,fG,jy,tC,tu,xX,tD,rI,rU,fH,tB,fC,jS,fD,jQ,xV,jR,xW,dm,vJ,eX,iG,lD,lC,ee,List.getElem?_cons_zero,List.getElem?_cons_succ,List.set_cons_zero,List.set_cons_succ,Option.some.injEq,V.int.injEq,V.bl.injEq,V.ref.injEq,V.ty.injEq,V.str.injEq,List.cons.injEq,exists_eq_left',exists_eq_left,exists_and_left,and_true,true_and,and_assoc,zd,lE,fP,yd,ye,jY,HO.lst.injEq,HO.tup.injEq,bN,dX,dY,dZ,d7,d8,d9,av,aW,aX,cB,gq,gr,gu,decide_eq_true_eq,L2.start,List.map_cons,List.map_nil,List.length_cons,List.length_nil,Nat.reduceAdd,Nat.reduceSub,List.replicate_succ,List.replicate_zero,List.cons_append,List.nil_append,List.append_nil,bw,bx,aB,bV,yi,jA,kg,sizeLine_eq,Int.reduceLE,Int.reduceLT,Int.reducePow,Int.reduceToNat,Int.reduceAdd,Int.reduceSub,Int.reduceMul,Int.reduceNeg,Nat.reduceLeDiff,Nat.reducePow,Nat.reduceLT,Int.reduceEq,true_or,or_true,ite_true,ite_false,if_true,if_false,Bool.not_true,Bool.not_false,Bool.false_eq_true,decide_true,decide_false,j6,bz,bA,ao,xY,cI,fJ,kr,gz,fR,dJ,cT,fK,fQ,cW,dj,j5,j7,fL,fm,jW,xZ,cN,dB,j0,jZ,eZ,j3,zf,eY,bW,bX,bY,join_some,cu,iU,vO,aB,lG,j9,lI,cR,dN,ki,bO,bP,cO,dM,bB,bZ,cg,cS,gw,gx,gy,ef,dW,cA,cz,bC,bD,aY,cy,dO,dQ,gF,gG,gH,gI,List.getD_cons_zero,List.getD_cons_succ,hp,mX hp]
  have g:∀ (u v z:Int),Kp K p H (upd H p (L3 u v z)):=fun u v z=>Kp.upd hp
  refine B8 (fun c=>⟨h0,h0,by omega,?_⟩) (fun c=>?_)
  · exact q _ _ _ _ _ (Int.emod_nonneg _ (by omega)) (Int.emod_lt_of_pos _ h0) av (g _ _ _)
  · refine ⟨?_,?_,h0,q _ _ _ _ _ (Int.emod_nonneg _ (by omega)) (Int.emod_lt_of_pos _ h0) av (g _ _ _)⟩
    all_goals omega
structure Nt where
  n:Int
  lo:Int
  hi:Int
  t:aR
  m:aR
structure Nt.ok (e:Nt):Prop where
  n1:1≤e.n
  lo0:0≤e.lo
  lt:e.lo < e.hi
  Rn:e.hi≤1000000000000
  one:e.hi - e.lo=1∨e.m=.gone
  np:e.m.yu
def cM (K:PySem.W.Frag) (H:Hp) (v:V) (e:Nt):Prop:=∃ a w,v=.ref a∧tupQ K H a=some [.int e.n,.int e.lo,.int e.hi,w]∧Act K H w e.t e.m
theorem cM.ext {K:PySem.W.Frag} {H H':Hp} {v:V} {e:Nt} (h:cM K H v e) (x:Ext K H H'):cM K H' v e:=by
  obtain ⟨a,w,rfl,h1,h2⟩:=h
  exact ⟨a,w,rfl,x.tup h1,h2.ext x⟩
theorem cM.kp {K:PySem.W.Frag} {H H':Hp} {v:V} {e:Nt} {p:Addr} {xs:List V} (h:cM K H v e) (k:Kp K p H H') (hp:H p=some (.lst xs)):cM K H' v e:=by
  obtain ⟨a,w,rfl,h1,h2⟩:=h
  exact ⟨a,w,rfl,k.tup hp h1,h2.kp k hp⟩
def aR.of:Option Int→aR
  | some k=>.is k
  | none=>.gone
def aR.then:aR→aR→aR→aR
  | .plus a,.plus b,_=>.plus (a + b)
  | .plus _,t,_=>t
  | .is a,t,n=>aR.of (Gf t n (some a))
  | .gone,t,n=>aR.of (Gf t n none)
theorem aR.C9 (o:Option Int):(aR.of o).yu:=by cases o <;> trivial
theorem aR.zh {h:aR} (t n:aR) (hh:h.yu):(h.then t n).yu:=by
  cases h with
  | plus k=>exact hh.elim
  | is k=>exact aR.C9 _
  | gone=>exact aR.C9 _
def jD (K:PySem.W.Frag):Sp:=fun vs H Q _=>∃ v t n v' t' n',vs=[v,v']∧Act K H v t n∧Act K H v' t' n'∧∀ u H',Act K H' u (t.then t' n') (n.then t' n')→Ext K H H'→Q u H'
def aR.d:aR→PyData
  | .plus n=>.tuple [.str "plus",.int n]
  | .is n=>.tuple [.str "is",.int n]
  | .gone=>.tuple [.str "gone"]
def Gg (t n:aR):PyData:=.tuple [t.d,n.d]
theorem aR.UH {K:PySem.W.Frag} {H:Hp} {r:Addr} {h:aR} (e:tupQ K H r=some h.v):Is K H h.d (.ref r):=by
  cases h with
  | plus n=>simp only [aR.d,Is,cZ];exact ⟨r,_,rfl,cD e,_,_,rfl,rfl,_,_,rfl,rfl,rfl⟩
  | is n=>simp only [aR.d,Is,cZ];exact ⟨r,_,rfl,cD e,_,_,rfl,rfl,_,_,rfl,rfl,rfl⟩
  | gone=>simp only [aR.d,Is,cZ];exact ⟨r,_,rfl,cD e,_,_,rfl,rfl,rfl⟩
theorem Act.is {K:PySem.W.Frag} {H:Hp} {v:V} {t n:aR} (h:Act K H v t n):Is K H (Gg t n) v:=by
  obtain ⟨a,r,s,rfl,e1,e2,e3,_⟩:=h
  simp only [Gg,Is,cZ]
  exact ⟨a,_,rfl,cD e1,_,_,rfl,aR.UH e2,_,_,rfl,aR.UH e3,rfl⟩
theorem OF (t n:aR):Hx (Gg t n)=true:=by cases t <;> cases n <;> rfl
def Gh:Sp:=fun vs H Q _=>∃ i,vs=[.int i]∧Q (.bl true) H
def aR.word:aR→Str
  | .plus _=>"plus"
  | .is _=>"is"
  | .gone=>"gone"
def aR.hd:aR→PyData
  | .plus n=>.tuple [.str "plus",.int n]
  | .is n=>.tuple [.str "is",.int n]
  | .gone=>.tuple [.str "gone"]
theorem aR.Dc {K:PySem.W.Frag} {H:Hp} {r:Addr} {h:aR} (e:tupQ K H r=some h.v):Is K H h.hd (.ref r):=by
  cases h with
  | plus n=>simp only [aR.hd,Is,cZ];exact ⟨r,_,rfl,cD e,_,_,rfl,rfl,_,_,rfl,rfl,rfl⟩
  | is n=>simp only [aR.hd,Is,cZ];exact ⟨r,_,rfl,cD e,_,_,rfl,rfl,_,_,rfl,rfl,rfl⟩
  | gone=>simp only [aR.hd,Is,cZ];exact ⟨r,_,rfl,cD e,_,_,rfl,rfl,rfl⟩
theorem aR.shaped (h:aR):SeqAt.shaped h.hd=true:=by
  cases h <;> simp only [SeqAt.shaped,aR.hd,PyData.canLay0,PyData.canLayAll0,PyData.depth,PyData.depthAll] <;> decide +kernel
theorem aR.AX (h:aR):PyData.eqv h.hd aR.gone.hd=(match h with | .gone=>true | _=>false):=by
  cases h <;> simp only [aR.hd,PyData.eqv,PyData.eqvAll] <;> decide +kernel
def Ie (K:PySem.W.Frag):Sp:=fun vs H Q _=>∃ r h a ws,vs=[.ref r,.ref a]∧tupQ K H r=some (aR.v h)∧tupQ K H a=some ws∧ws.all rH=true∧(h=.gone∨N7 (.str h.word) ws=true)∧∀ H',Ext K H H'→Q (.bl true) H'
def pN (K:PySem.W.Frag):Sp:=fun vs H Q _=>∃ v t n,vs=[v]∧Act K H v t n∧∀ H',Ext K H H'→Q (.bl true) H'
def qg (K:PySem.W.Frag):Sp:=fun vs H Q _=>∃ v t n,vs=[v]∧Act K H v t n∧∀ H',Ext K H H'→Q .eO H'
def vf (K:PySem.W.Frag):Sp:=fun vs H Q _=>∃ r h val,vs=[.ref r,oV val]∧tupQ K H r=some (aR.v h)∧(val=none→h.yu)∧Q (oV (h.f val)) H
def D9 (K:PySem.W.Frag):Sp:=fun vs H Q _=>∃ v t n val,vs=[v,oV val]∧Act K H v t n∧Q (oV (Gf t n val)) H
theorem Ea:ay ["thing"] ["thing"] (aa jg):=⟨rfl,rfl,rfl,by decide +kernel,rfl,by decide +kernel,by decide +kernel⟩
theorem Eb {f:Addr} {fd:FuncData} (F:fc K "is_number" "is_number" jg f fd) {br aG aC aP:Addr} {tE tM tN tF u1 u2 u3 u4 u5 u6 u7 u8 t1 t2 t3 t4:Tok} (B:B P w K mg br aG aC aP tE tM tN tF u1 u2 u3 u4 u5 u6 u7 u8 t1 t2 t3 t4):aL P w K mg base dF 1 f fd ["thing"] Gh:=by
  refine F.fM Ea (fun vs H Q E h=>?_) (fun cJ A outer s H vs Q E hr h=>?_)
  · obtain ⟨x,rfl,_⟩:=h
    rfl
  obtain ⟨i,rfl,q⟩:=h
  refine ⟨_,(aK (aU (qb (dH cE rfl B.isinstance bF (af (ev 0) (af (vR rfl B.int Hv) az))) (rB (Uk (dH cE rfl B.isinstance bF (af (ev 0) (af (vR rfl B.bool Oe) az)))))))),?_⟩
  try walk_at "rd"
  exact ⟨_,.inl (.int i),true,rfl,KR ⟨_,.inl (.int i),false,rfl,q⟩⟩
theorem Ig:ay ["thing","words"] ["thing","words"] (aa mG):=⟨rfl,rfl,rfl,by decide +kernel,rfl,by decide +kernel,by decide +kernel⟩
theorem Ih {f:Addr} {fd:FuncData} (F:fc K "is_half" "is_half" mG f fd) {br aG aC aP:Addr} {tE tM tN tF u1 u2 u3 u4 u5 u6 u7 u8 t1 t2 t3 t4:Tok} (B:B P w K mg br aG aC aP tE tM tN tF u1 u2 u3 u4 u5 u6 u7 u8 t1 t2 t3 t4) (cU:Callee P w K mg base "is_number" 1 ["thing"] Gh):aL P w K mg base dF 2 f fd ["thing","words"] (Ie K):=by
  refine F.fM Ig (fun vs H Q E h=>?_) (fun cJ A outer s H vs Q E hr h=>?_)
  · obtain ⟨r,h,a,ws,rfl,_⟩:=h
    rfl
  obtain ⟨r,h,a,ws,rfl,hr1,ha,hf,hw,q⟩:=h
  refine ⟨_,(aE (nQ (tw (B4 (lF (j4 (dH cE rfl B.isinstance bF (af (ev 0) (af (vR rfl B.tuple pF) az))))) (B4 (eV KY (dH kq rfl B.len rL (af (ev 0) az)) (bU (af ei (af ei az))) (by with_unfolding_all rfl)) (rC (lF (j4 (dH cE rfl B.isinstance bF (af (ko ez (ev 0) ei (fun _ _=>rfl)) (af (vR rfl B.str p9) az))))))))) (aK (aU yj)) fq)
      (aE (nQ (eV mV (dH kq rfl B.len rL (af (ev 0) az)) ei (aO _)) (aK (aU (rM mV (ko ez (ev 0) ei (fun _ _=>rfl)) gK (aO _)))) fq)
      (aK (aU (qb (rM Ml (ko ez (ev 0) ei (fun _ _=>rfl)) (ev 1) (by with_unfolding_all rfl)) (rB (aI cU (hr.mono (by decide)) rfl (af (ko ez (ev 0) ei (fun _ _=>rfl)) az)))))))),?_⟩
  have ht:Qd K H (.ref r) (.type "tuple"):=.tup hr1
  have g1:N7 (V.int 2) [V.int 1,V.int 2]=true:=by decide +kernel
  have g2:N7 (V.int 1) [V.int 1,V.int 2]=true:=by decide +kernel
  cases h with
  | plus n=>
    simp only [jT,fF,jV,iZ,cY,jX,jU,gn,fG,jy,tC,tu,xX,tD,rI,rU,fH,tB,fC,jS,fD,jQ,xV,jR,xW,dm,vJ,eX,iG,lD,lC,ee,List.getElem?_cons_zero,List.getElem?_cons_succ,List.set_cons_zero,List.set_cons_succ,Option.some.injEq,V.int.injEq,V.bl.injEq,V.ref.injEq,V.ty.injEq,V.str.injEq,List.cons.injEq,exists_eq_left',exists_eq_left,exists_and_left,and_true,true_and,and_assoc,zd,lE,fP,yd,ye,jY,HO.lst.injEq,HO.tup.injEq,bN,dX,dY,dZ,d7,d8,d9,av,aW,aX,cB,gq,gr,gu,decide_eq_true_eq,L2.start,List.map_cons,List.map_nil,List.length_cons,List.length_nil,Nat.reduceAdd,Nat.reduceSub,List.replicate_succ,List.replicate_zero,List.cons_append,List.nil_append,List.append_nil,bw,bx,aB,bV,yi,jA,kg,sizeLine_eq,Int.reduceLE,Int.reduceLT,Int.reducePow,Int.reduceToNat,Int.reduceAdd,Int.reduceSub,Int.reduceMul,Int.reduceNeg,Nat.reduceLeDiff,Nat.reducePow,Nat.reduceLT,Int.reduceEq,true_or,or_true,ite_true,ite_false,if_true,if_false,Bool.not_true,Bool.not_false,Bool.false_eq_true,decide_true,decide_false,j6,bz,bA,ao,xY,cI,fJ,kr,gz,fR,dJ,cT,fK,fQ,cW,dj,j5,j7,fL,fm,jW,xZ,cN,dB,j0,jZ,eZ,j3,zf,eY,bW,bX,bY,join_some,cu,iU,vO,aB,lG,j9,lI,cR,dN,ki,bO,bP,cO,dM,bB,bZ,cg,cS,gw,gx,gy,ef,dW,cA,cz,bC,bD,aY,cy,dO,dQ,gF,gG,gH,gI,List.getD_cons_zero,List.getD_cons_succ,dw hr1,aR.v]
    refine ⟨_,ht,true,rfl,?_⟩
    try walk_at "rd"
    refine fun p np=>⟨rfl,rfl,?_⟩
    have e1:=dw ((Ext.new (o:=.tup [V.int 1,V.int 2]) np).tup hr1)
    have e2:=dw ((Ext.new (o:=.tup [V.int 1,V.int 2]) np).tup ha)
    simp only [jT,fF,jV,iZ,cY,jX,jU,gn,fG,jy,tC,tu,xX,tD,rI,rU,fH,tB,fC,jS,fD,jQ,xV,jR,xW,dm,vJ,eX,iG,lD,lC,ee,List.getElem?_cons_zero,List.getElem?_cons_succ,List.set_cons_zero,List.set_cons_succ,Option.some.injEq,V.int.injEq,V.bl.injEq,V.ref.injEq,V.ty.injEq,V.str.injEq,List.cons.injEq,exists_eq_left',exists_eq_left,exists_and_left,and_true,true_and,and_assoc,zd,lE,fP,yd,ye,jY,HO.lst.injEq,HO.tup.injEq,bN,dX,dY,dZ,d7,d8,d9,av,aW,aX,cB,gq,gr,gu,decide_eq_true_eq,L2.start,List.map_cons,List.map_nil,List.length_cons,List.length_nil,Nat.reduceAdd,Nat.reduceSub,List.replicate_succ,List.replicate_zero,List.cons_append,List.nil_append,List.append_nil,bw,bx,aB,bV,yi,jA,kg,sizeLine_eq,Int.reduceLE,Int.reduceLT,Int.reducePow,Int.reduceToNat,Int.reduceAdd,Int.reduceSub,Int.reduceMul,Int.reduceNeg,Nat.reduceLeDiff,Nat.reducePow,Nat.reduceLT,Int.reduceEq,true_or,or_true,ite_true,ite_false,if_true,if_false,Bool.not_true,Bool.not_false,Bool.false_eq_true,decide_true,decide_false,j6,bz,bA,ao,xY,cI,fJ,kr,gz,fR,dJ,cT,fK,fQ,cW,dj,j5,j7,fL,fm,jW,xZ,cN,dB,j0,jZ,eZ,j3,zf,eY,bW,bX,bY,join_some,cu,iU,vO,aB,lG,j9,lI,cR,dN,ki,bO,bP,cO,dM,bB,bZ,cg,cS,gw,gx,gy,ef,dW,cA,cz,bC,bD,aY,cy,dO,dQ,gF,gG,gH,gI,List.getD_cons_zero,List.getD_cons_succ,e1,e2,aR.v,g1,Int.cast_ofNat_Int]
    have hw':N7 (.str "plus") ws=true:=by
      rcases hw with hw | hw
      · cases hw
      · exact hw
    exact ⟨_,.inl (.str _),true,rfl,L6 ⟨rfl,hf,gS hw' ⟨n,rfl,q _ (Ext.new np)⟩⟩⟩
  | is n=>
    simp only [jT,fF,jV,iZ,cY,jX,jU,gn,fG,jy,tC,tu,xX,tD,rI,rU,fH,tB,fC,jS,fD,jQ,xV,jR,xW,dm,vJ,eX,iG,lD,lC,ee,List.getElem?_cons_zero,List.getElem?_cons_succ,List.set_cons_zero,List.set_cons_succ,Option.some.injEq,V.int.injEq,V.bl.injEq,V.ref.injEq,V.ty.injEq,V.str.injEq,List.cons.injEq,exists_eq_left',exists_eq_left,exists_and_left,and_true,true_and,and_assoc,zd,lE,fP,yd,ye,jY,HO.lst.injEq,HO.tup.injEq,bN,dX,dY,dZ,d7,d8,d9,av,aW,aX,cB,gq,gr,gu,decide_eq_true_eq,L2.start,List.map_cons,List.map_nil,List.length_cons,List.length_nil,Nat.reduceAdd,Nat.reduceSub,List.replicate_succ,List.replicate_zero,List.cons_append,List.nil_append,List.append_nil,bw,bx,aB,bV,yi,jA,kg,sizeLine_eq,Int.reduceLE,Int.reduceLT,Int.reducePow,Int.reduceToNat,Int.reduceAdd,Int.reduceSub,Int.reduceMul,Int.reduceNeg,Nat.reduceLeDiff,Nat.reducePow,Nat.reduceLT,Int.reduceEq,true_or,or_true,ite_true,ite_false,if_true,if_false,Bool.not_true,Bool.not_false,Bool.false_eq_true,decide_true,decide_false,j6,bz,bA,ao,xY,cI,fJ,kr,gz,fR,dJ,cT,fK,fQ,cW,dj,j5,j7,fL,fm,jW,xZ,cN,dB,j0,jZ,eZ,j3,zf,eY,bW,bX,bY,join_some,cu,iU,vO,aB,lG,j9,lI,cR,dN,ki,bO,bP,cO,dM,bB,bZ,cg,cS,gw,gx,gy,ef,dW,cA,cz,bC,bD,aY,cy,dO,dQ,gF,gG,gH,gI,List.getD_cons_zero,List.getD_cons_succ,dw hr1,aR.v]
    refine ⟨_,ht,true,rfl,?_⟩
    try walk_at "rd"
    refine fun p np=>⟨rfl,rfl,?_⟩
    have e1:=dw ((Ext.new (o:=.tup [V.int 1,V.int 2]) np).tup hr1)
    have e2:=dw ((Ext.new (o:=.tup [V.int 1,V.int 2]) np).tup ha)
    simp only [jT,fF,jV,iZ,cY,jX,jU,gn,fG,jy,tC,tu,xX,tD,rI,rU,fH,tB,fC,jS,fD,jQ,xV,jR,xW,dm,vJ,eX,iG,lD,lC,ee,List.getElem?_cons_zero,List.getElem?_cons_succ,List.set_cons_zero,List.set_cons_succ,Option.some.injEq,V.int.injEq,V.bl.injEq,V.ref.injEq,V.ty.injEq,V.str.injEq,List.cons.injEq,exists_eq_left',exists_eq_left,exists_and_left,and_true,true_and,and_assoc,zd,lE,fP,yd,ye,jY,HO.lst.injEq,HO.tup.injEq,bN,dX,dY,dZ,d7,d8,d9,av,aW,aX,cB,gq,gr,gu,decide_eq_true_eq,L2.start,List.map_cons,List.map_nil,List.length_cons,List.length_nil,Nat.reduceAdd,Nat.reduceSub,List.replicate_succ,List.replicate_zero,List.cons_append,List.nil_append,List.append_nil,bw,bx,aB,bV,yi,jA,kg,sizeLine_eq,Int.reduceLE,Int.reduceLT,Int.reducePow,Int.reduceToNat,Int.reduceAdd,Int.reduceSub,Int.reduceMul,Int.reduceNeg,Nat.reduceLeDiff,Nat.reducePow,Nat.reduceLT,Int.reduceEq,true_or,or_true,ite_true,ite_false,if_true,if_false,Bool.not_true,Bool.not_false,Bool.false_eq_true,decide_true,decide_false,j6,bz,bA,ao,xY,cI,fJ,kr,gz,fR,dJ,cT,fK,fQ,cW,dj,j5,j7,fL,fm,jW,xZ,cN,dB,j0,jZ,eZ,j3,zf,eY,bW,bX,bY,join_some,cu,iU,vO,aB,lG,j9,lI,cR,dN,ki,bO,bP,cO,dM,bB,bZ,cg,cS,gw,gx,gy,ef,dW,cA,cz,bC,bD,aY,cy,dO,dQ,gF,gG,gH,gI,List.getD_cons_zero,List.getD_cons_succ,e1,e2,aR.v,g1,Int.cast_ofNat_Int]
    have hw':N7 (.str "is") ws=true:=by
      rcases hw with hw | hw
      · cases hw
      · exact hw
    exact ⟨_,.inl (.str _),true,rfl,L6 ⟨rfl,hf,gS hw' ⟨n,rfl,q _ (Ext.new np)⟩⟩⟩
  | gone=>
    simp only [jT,fF,jV,iZ,cY,jX,jU,gn,fG,jy,tC,tu,xX,tD,rI,rU,fH,tB,fC,jS,fD,jQ,xV,jR,xW,dm,vJ,eX,iG,lD,lC,ee,List.getElem?_cons_zero,List.getElem?_cons_succ,List.set_cons_zero,List.set_cons_succ,Option.some.injEq,V.int.injEq,V.bl.injEq,V.ref.injEq,V.ty.injEq,V.str.injEq,List.cons.injEq,exists_eq_left',exists_eq_left,exists_and_left,and_true,true_and,and_assoc,zd,lE,fP,yd,ye,jY,HO.lst.injEq,HO.tup.injEq,bN,dX,dY,dZ,d7,d8,d9,av,aW,aX,cB,gq,gr,gu,decide_eq_true_eq,L2.start,List.map_cons,List.map_nil,List.length_cons,List.length_nil,Nat.reduceAdd,Nat.reduceSub,List.replicate_succ,List.replicate_zero,List.cons_append,List.nil_append,List.append_nil,bw,bx,aB,bV,yi,jA,kg,sizeLine_eq,Int.reduceLE,Int.reduceLT,Int.reducePow,Int.reduceToNat,Int.reduceAdd,Int.reduceSub,Int.reduceMul,Int.reduceNeg,Nat.reduceLeDiff,Nat.reducePow,Nat.reduceLT,Int.reduceEq,true_or,or_true,ite_true,ite_false,if_true,if_false,Bool.not_true,Bool.not_false,Bool.false_eq_true,decide_true,decide_false,j6,bz,bA,ao,xY,cI,fJ,kr,gz,fR,dJ,cT,fK,fQ,cW,dj,j5,j7,fL,fm,jW,xZ,cN,dB,j0,jZ,eZ,j3,zf,eY,bW,bX,bY,join_some,cu,iU,vO,aB,lG,j9,lI,cR,dN,ki,bO,bP,cO,dM,bB,bZ,cg,cS,gw,gx,gy,ef,dW,cA,cz,bC,bD,aY,cy,dO,dQ,gF,gG,gH,gI,List.getD_cons_zero,List.getD_cons_succ,dw hr1,aR.v]
    refine ⟨_,ht,true,rfl,?_⟩
    try walk_at "rd"
    refine fun p np=>⟨rfl,rfl,?_⟩
    have e1:=dw ((Ext.new (o:=.tup [V.int 1,V.int 2]) np).tup hr1)
    have e2:=dw ((Ext.new (o:=.tup [V.int 1,V.int 2]) np).tup ha)
    simp only [jT,fF,jV,iZ,cY,jX,jU,gn,fG,jy,tC,tu,xX,tD,rI,rU,fH,tB,fC,jS,fD,jQ,xV,jR,xW,dm,vJ,eX,iG,lD,lC,ee,List.getElem?_cons_zero,List.getElem?_cons_succ,List.set_cons_zero,List.set_cons_succ,Option.some.injEq,V.int.injEq,V.bl.injEq,V.ref.injEq,V.ty.injEq,V.str.injEq,List.cons.injEq,exists_eq_left',exists_eq_left,exists_and_left,and_true,true_and,and_assoc,zd,lE,fP,yd,ye,jY,HO.lst.injEq,HO.tup.injEq,bN,dX,dY,dZ,d7,d8,d9,av,aW,aX,cB,gq,gr,gu,decide_eq_true_eq,L2.start,List.map_cons,List.map_nil,List.length_cons,List.length_nil,Nat.reduceAdd,Nat.reduceSub,List.replicate_succ,List.replicate_zero,List.cons_append,List.nil_append,List.append_nil,bw,bx,aB,bV,yi,jA,kg,sizeLine_eq,Int.reduceLE,Int.reduceLT,Int.reducePow,Int.reduceToNat,Int.reduceAdd,Int.reduceSub,Int.reduceMul,Int.reduceNeg,Nat.reduceLeDiff,Nat.reducePow,Nat.reduceLT,Int.reduceEq,true_or,or_true,ite_true,ite_false,if_true,if_false,Bool.not_true,Bool.not_false,Bool.false_eq_true,decide_true,decide_false,j6,bz,bA,ao,xY,cI,fJ,kr,gz,fR,dJ,cT,fK,fQ,cW,dj,j5,j7,fL,fm,jW,xZ,cN,dB,j0,jZ,eZ,j3,zf,eY,bW,bX,bY,join_some,cu,iU,vO,aB,lG,j9,lI,cR,dN,ki,bO,bP,cO,dM,bB,bZ,cg,cS,gw,gx,gy,ef,dW,cA,cz,bC,bD,aY,cy,dO,dQ,gF,gG,gH,gI,List.getD_cons_zero,List.getD_cons_succ,e1,e2,aR.v,g2,Int.cast_ofNat_Int]
    exact ⟨_,.inl (.str _),true,rfl,L6 (q _ (Ext.new np))⟩
theorem qh:ay ["thing","there","none"] ["thing"] (aa ji):=⟨rfl,rfl,rfl,by decide +kernel,rfl,by decide +kernel,by decide +kernel⟩
theorem wm {f:Addr} {fd:FuncData} (F:fc K "is_action" "is_action" ji f fd) {br aG aC aP:Addr} {tE tM tN tF u1 u2 u3 u4 u5 u6 u7 u8 t1 t2 t3 t4:Tok} (B:B P w K mg br aG aC aP tE tM tN tF u1 u2 u3 u4 u5 u6 u7 u8 t1 t2 t3 t4) (kN:Callee P w K mg base "is_half" 2 ["thing","words"] (Ie K)):aL P w K mg base dF 3 f fd ["thing"] (pN K):=by
  refine F.fM qh (fun vs H Q E h=>?_) (fun cJ A outer s H vs Q E hr h=>?_)
  · obtain ⟨v,t,n,rfl,_⟩:=h
    rfl
  obtain ⟨v,t,n,rfl,⟨a,r,s',rfl,ha,ht,hn,hp⟩,q⟩:=h
  refine ⟨_,(aE (nQ (tw (B4 (lF (j4 (dH cE rfl B.isinstance bF (af (ev 0) (af (vR rfl B.tuple pF) az))))) (rC (eV pD (dH kq rfl B.len rL (af (ev 0) az)) ei (aO _))))) (aK (aU yj)) fq)
      (aE (qc (ev 0) (kc (n:=2) rfl (cK (bG (i:=1) qh.nd rfl (Or.inl rfl)) (cK (bG (i:=2) qh.nd rfl (Or.inl rfl)) pG))))
      (aK (aU (qb (aI kN (hr.mono (by decide)) rfl (af (ev 1) (af (bU (af gK (af gK az))) az))) (rB (aI kN (hr.mono (by decide)) rfl (af (ev 2) (af (bU (af gK az)) az))))))))),?_⟩
  simp only [jT,fF,jV,iZ,cY,jX,jU,gn,fG,jy,tC,tu,xX,tD,rI,rU,fH,tB,fC,jS,fD,jQ,xV,jR,xW,dm,vJ,eX,iG,lD,lC,ee,List.getElem?_cons_zero,List.getElem?_cons_succ,List.set_cons_zero,List.set_cons_succ,Option.some.injEq,V.int.injEq,V.bl.injEq,V.ref.injEq,V.ty.injEq,V.str.injEq,List.cons.injEq,exists_eq_left',exists_eq_left,exists_and_left,and_true,true_and,and_assoc,zd,lE,fP,yd,ye,jY,HO.lst.injEq,HO.tup.injEq,bN,dX,dY,dZ,d7,d8,d9,av,aW,aX,cB,gq,gr,gu,decide_eq_true_eq,L2.start,List.map_cons,List.map_nil,List.length_cons,List.length_nil,Nat.reduceAdd,Nat.reduceSub,List.replicate_succ,List.replicate_zero,List.cons_append,List.nil_append,List.append_nil,bw,bx,aB,bV,yi,jA,kg,sizeLine_eq,Int.reduceLE,Int.reduceLT,Int.reducePow,Int.reduceToNat,Int.reduceAdd,Int.reduceSub,Int.reduceMul,Int.reduceNeg,Nat.reduceLeDiff,Nat.reducePow,Nat.reduceLT,Int.reduceEq,true_or,or_true,ite_true,ite_false,if_true,if_false,Bool.not_true,Bool.not_false,Bool.false_eq_true,decide_true,decide_false,j6,bz,bA,ao,xY,cI,fJ,kr,gz,fR,dJ,cT,fK,fQ,cW,dj,j5,j7,fL,fm,jW,xZ,cN,dB,j0,jZ,eZ,j3,zf,eY,bW,bX,bY,join_some,cu,iU,vO,aB,lG,j9,lI,cR,dN,ki,bO,bP,cO,dM,bB,bZ,cg,cS,gw,gx,gy,ef,dW,cA,cz,bC,bD,aY,cy,dO,dQ,gF,gG,gH,gI,List.getD_cons_zero,List.getD_cons_succ,dw ha,ha]
  refine ⟨_,Qd.tup ha,true,rfl,?_⟩
  simp only [jT,fF,jV,iZ,cY,jX,jU,gn,fG,jy,tC,tu,xX,tD,rI,rU,fH,tB,fC,jS,fD,jQ,xV,jR,xW,dm,vJ,eX,iG,lD,lC,ee,List.getElem?_cons_zero,List.getElem?_cons_succ,List.set_cons_zero,List.set_cons_succ,Option.some.injEq,V.int.injEq,V.bl.injEq,V.ref.injEq,V.ty.injEq,V.str.injEq,List.cons.injEq,exists_eq_left',exists_eq_left,exists_and_left,and_true,true_and,and_assoc,zd,lE,fP,yd,ye,jY,HO.lst.injEq,HO.tup.injEq,bN,dX,dY,dZ,d7,d8,d9,av,aW,aX,cB,gq,gr,gu,decide_eq_true_eq,L2.start,List.map_cons,List.map_nil,List.length_cons,List.length_nil,Nat.reduceAdd,Nat.reduceSub,List.replicate_succ,List.replicate_zero,List.cons_append,List.nil_append,List.append_nil,bw,bx,aB,bV,yi,jA,kg,sizeLine_eq,Int.reduceLE,Int.reduceLT,Int.reducePow,Int.reduceToNat,Int.reduceAdd,Int.reduceSub,Int.reduceMul,Int.reduceNeg,Nat.reduceLeDiff,Nat.reducePow,Nat.reduceLT,Int.reduceEq,true_or,or_true,ite_true,ite_false,if_true,if_false,Bool.not_true,Bool.not_false,Bool.false_eq_true,decide_true,decide_false,j6,bz,bA,ao,xY,cI,fJ,kr,gz,fR,dJ,cT,fK,fQ,cW,dj,j5,j7,fL,fm,jW,xZ,cN,dB,j0,jZ,eZ,j3,zf,eY,bW,bX,bY,join_some,cu,iU,vO,aB,lG,j9,lI,cR,dN,ki,bO,bP,cO,dM,bB,bZ,cg,cS,gw,gx,gy,ef,dW,cA,cz,bC,bD,aY,cy,dO,dQ,gF,gG,gH,gI,List.getD_cons_zero,List.getD_cons_succ,Int.cast_ofNat_Int]
  intro p np
  refine ⟨r,t,p,_,rfl,(Ext.new np).tup ht,ao,rfl,?_,fun H1 x1=>?_⟩
  · cases t with
    | plus n=>exact .inr (by simp only [aR.word];decide +kernel)
    | is n=>exact .inr (by simp only [aR.word];decide +kernel)
    | gone=>exact .inl rfl
  try walk_at "rd"
  intro p2 n2
  refine ⟨s',n,p2,_,rfl,((Ext.new np).trans (x1.trans (Ext.new n2))).tup hn,ao,rfl,?_,fun H2 x2=>q _ ((Ext.new np).trans (x1.trans ((Ext.new n2).trans x2)))⟩
  cases n with
  | plus n=>exact hp.elim
  | is n=>exact .inr (by simp only [aR.word];decide +kernel)
  | gone=>exact .inl rfl
theorem zQ:ay ["thing"] ["thing"] (aa fS):=⟨rfl,rfl,rfl,by decide +kernel,rfl,by decide +kernel,by decide +kernel⟩
theorem zR {f:Addr} {fd:FuncData} (F:fc K "check_action" "check_action" fS f fd) {br aG aC aP:Addr} {tE tM tN tF u1 u2 u3 u4 u5 u6 u7 u8 t1 t2 t3 t4:Tok} (B:B P w K mg br aG aC aP tE tM tN tF u1 u2 u3 u4 u5 u6 u7 u8 t1 t2 t3 t4) (eT:Callee P w K mg base "is_action" 3 ["thing"] (pN K)):aL P w K mg base dF 4 f fd ["thing"] (qg K):=by
  refine F.fM zQ (fun vs H Q E h=>?_) (fun cJ A outer s H vs Q E hr h=>?_)
  · obtain ⟨v,t,n,rfl,_⟩:=h
    rfl
  obtain ⟨v,t,n,rfl,a,q⟩:=h
  refine ⟨_,(aK (nQ (lF (j4 (aI eT (hr.mono (by decide)) rfl (af (ev 0) az)))) (aK u9) fq)),?_⟩
  try walk_at "rd"
  refine ⟨v,t,n,rfl,a,fun H1 x1=>?_⟩
  try walk_at "rd"
  exact q _ x1
theorem qi:ay ["half","value","word","number"] ["half","value"] (aa jj):=⟨rfl,rfl,rfl,by decide +kernel,rfl,by decide +kernel,by decide +kernel⟩
theorem Ec {f:Addr} {fd:FuncData} (F:fc K "half_acts" "half_acts" jj f fd) {br aG aC aP:Addr} {tE tM tN tF u1 u2 u3 u4 u5 u6 u7 u8 t1 t2 t3 t4:Tok} (B:B P w K mg br aG aC aP tE tM tN tF u1 u2 u3 u4 u5 u6 u7 u8 t1 t2 t3 t4):aL P w K mg base dF 1 f fd ["half","value"] (vf K):=by
  refine F.Xr qi (fun vs H Q E h=>?_) (fun cJ A outer s H vs Q E hr hm h=>?_)
  · obtain ⟨r,h,val,rfl,_⟩:=h
    rfl
  obtain ⟨r,h,val,rfl,hq,hv,q⟩:=h
  refine ⟨_,(aE (nQ (eV (yk hr.units) (ev 0) (ig rfl B.MH B.wk) (aO _)) (aK (aU uX)) fq)
      (aE (qc (ev 0) (kc (n:=2) rfl (cK (bG (i:=2) qi.nd rfl (Or.inl rfl)) (cK (bG (i:=3) qi.nd rfl (Or.inl rfl)) pG))))
      (aK (aU (Ul (eV mV (ev 2) gK (aO _)) (nL ie (ev 1) (ev 3)) (ev 3)))))),?_⟩
  try walk_at "rd"
  refine ⟨h.hd,aR.Dc hq,aR.gone.hd,aR.Dc (h:=.gone) (hm.tup B.kG),h.shaped,aR.shaped .gone,?_⟩
  rw [aR.AX]
  cases h with
  | plus n=>
    cases val with
    | none=>exact (hv rfl).elim
    | some i=>
      simp only [jT,fF,jV,iZ,cY,jX,jU,gn,fG,jy,tC,tu,xX,tD,rI,rU,fH,tB,fC,jS,fD,jQ,xV,jR,xW,dm,vJ,eX,iG,lD,lC,ee,List.getElem?_cons_zero,List.getElem?_cons_succ,List.set_cons_zero,List.set_cons_succ,Option.some.injEq,V.int.injEq,V.bl.injEq,V.ref.injEq,V.ty.injEq,V.str.injEq,List.cons.injEq,exists_eq_left',exists_eq_left,exists_and_left,and_true,true_and,and_assoc,zd,lE,fP,yd,ye,jY,HO.lst.injEq,HO.tup.injEq,bN,dX,dY,dZ,d7,d8,d9,av,aW,aX,cB,gq,gr,gu,decide_eq_true_eq,L2.start,List.map_cons,List.map_nil,List.length_cons,List.length_nil,Nat.reduceAdd,Nat.reduceSub,List.replicate_succ,List.replicate_zero,List.cons_append,List.nil_append,List.append_nil,bw,bx,aB,bV,yi,jA,kg,sizeLine_eq,Int.reduceLE,Int.reduceLT,Int.reducePow,Int.reduceToNat,Int.reduceAdd,Int.reduceSub,Int.reduceMul,Int.reduceNeg,Nat.reduceLeDiff,Nat.reducePow,Nat.reduceLT,Int.reduceEq,true_or,or_true,ite_true,ite_false,if_true,if_false,Bool.not_true,Bool.not_false,Bool.false_eq_true,decide_true,decide_false,j6,bz,bA,ao,xY,cI,fJ,kr,gz,fR,dJ,cT,fK,fQ,cW,dj,j5,j7,fL,fm,jW,xZ,cN,dB,j0,jZ,eZ,j3,zf,eY,bW,bX,bY,join_some,cu,iU,vO,aB,lG,j9,lI,cR,dN,ki,bO,bP,cO,dM,bB,bZ,cg,cS,gw,gx,gy,ef,dW,cA,cz,bC,bD,aY,cy,dO,dQ,gF,gG,gH,gI,List.getD_cons_zero,List.getD_cons_succ,hq,aR.v,oV]
      exact q
  | is n=>
    simp only [jT,fF,jV,iZ,cY,jX,jU,gn,fG,jy,tC,tu,xX,tD,rI,rU,fH,tB,fC,jS,fD,jQ,xV,jR,xW,dm,vJ,eX,iG,lD,lC,ee,List.getElem?_cons_zero,List.getElem?_cons_succ,List.set_cons_zero,List.set_cons_succ,Option.some.injEq,V.int.injEq,V.bl.injEq,V.ref.injEq,V.ty.injEq,V.str.injEq,List.cons.injEq,exists_eq_left',exists_eq_left,exists_and_left,and_true,true_and,and_assoc,zd,lE,fP,yd,ye,jY,HO.lst.injEq,HO.tup.injEq,bN,dX,dY,dZ,d7,d8,d9,av,aW,aX,cB,gq,gr,gu,decide_eq_true_eq,L2.start,List.map_cons,List.map_nil,List.length_cons,List.length_nil,Nat.reduceAdd,Nat.reduceSub,List.replicate_succ,List.replicate_zero,List.cons_append,List.nil_append,List.append_nil,bw,bx,aB,bV,yi,jA,kg,sizeLine_eq,Int.reduceLE,Int.reduceLT,Int.reducePow,Int.reduceToNat,Int.reduceAdd,Int.reduceSub,Int.reduceMul,Int.reduceNeg,Nat.reduceLeDiff,Nat.reducePow,Nat.reduceLT,Int.reduceEq,true_or,or_true,ite_true,ite_false,if_true,if_false,Bool.not_true,Bool.not_false,Bool.false_eq_true,decide_true,decide_false,j6,bz,bA,ao,xY,cI,fJ,kr,gz,fR,dJ,cT,fK,fQ,cW,dj,j5,j7,fL,fm,jW,xZ,cN,dB,j0,jZ,eZ,j3,zf,eY,bW,bX,bY,join_some,cu,iU,vO,aB,lG,j9,lI,cR,dN,ki,bO,bP,cO,dM,bB,bZ,cg,cS,gw,gx,gy,ef,dW,cA,cz,bC,bD,aY,cy,dO,dQ,gF,gG,gH,gI,List.getD_cons_zero,List.getD_cons_succ,hq,aR.v,s3]
    cases val with
    | none=>exact q
    | some i=>exact q
  | gone=>
    try walk_at "rd"
    cases val with
    | none=>exact q
    | some i=>exact q
theorem Ed:ay ["action","value","there","none"] ["action","value"] (aa yo):=⟨rfl,rfl,rfl,by decide +kernel,rfl,by decide +kernel,by decide +kernel⟩
theorem OG {f:Addr} {fd:FuncData} (F:fc K "does" "does" yo f fd) {br aG aC aP:Addr} {tE tM tN tF u1 u2 u3 u4 u5 u6 u7 u8 t1 t2 t3 t4:Tok} (B:B P w K mg br aG aC aP tE tM tN tF u1 u2 u3 u4 u5 u6 u7 u8 t1 t2 t3 t4) (nU:Callee P w K mg base "half_acts" 1 ["half","value"] (vf K)):aL P w K mg base dF 2 f fd ["action","value"] (D9 K):=by
  refine F.fM Ed (fun vs H Q E h=>?_) (fun cJ A outer s H vs Q E hr h=>?_)
  · obtain ⟨v,t,n,val,rfl,_⟩:=h
    rfl
  obtain ⟨v,t,n,val,rfl,⟨a,r,s',rfl,ha,ht,hn,hp⟩,q⟩:=h
  refine ⟨_,(aE (qc (ev 0) (kc (n:=2) rfl (cK (bG (i:=2) Ed.nd rfl (Or.inl rfl)) (cK (bG (i:=3) Ed.nd rfl (Or.inl rfl)) pG))))
      (aK (aU (aI nU (hr.mono (by decide)) rfl (af (Ul (eV Dy (ev 1) uX (aO _)) (ev 3) (ev 2)) (af (ev 1) az)))))),?_⟩
  cases val with
  | none=>
    simp only [jT,fF,jV,iZ,cY,jX,jU,gn,fG,jy,tC,tu,xX,tD,rI,rU,fH,tB,fC,jS,fD,jQ,xV,jR,xW,dm,vJ,eX,iG,lD,lC,ee,List.getElem?_cons_zero,List.getElem?_cons_succ,List.set_cons_zero,List.set_cons_succ,Option.some.injEq,V.int.injEq,V.bl.injEq,V.ref.injEq,V.ty.injEq,V.str.injEq,List.cons.injEq,exists_eq_left',exists_eq_left,exists_and_left,and_true,true_and,and_assoc,zd,lE,fP,yd,ye,jY,HO.lst.injEq,HO.tup.injEq,bN,dX,dY,dZ,d7,d8,d9,av,aW,aX,cB,gq,gr,gu,decide_eq_true_eq,L2.start,List.map_cons,List.map_nil,List.length_cons,List.length_nil,Nat.reduceAdd,Nat.reduceSub,List.replicate_succ,List.replicate_zero,List.cons_append,List.nil_append,List.append_nil,bw,bx,aB,bV,yi,jA,kg,sizeLine_eq,Int.reduceLE,Int.reduceLT,Int.reducePow,Int.reduceToNat,Int.reduceAdd,Int.reduceSub,Int.reduceMul,Int.reduceNeg,Nat.reduceLeDiff,Nat.reducePow,Nat.reduceLT,Int.reduceEq,true_or,or_true,ite_true,ite_false,if_true,if_false,Bool.not_true,Bool.not_false,Bool.false_eq_true,decide_true,decide_false,j6,bz,bA,ao,xY,cI,fJ,kr,gz,fR,dJ,cT,fK,fQ,cW,dj,j5,j7,fL,fm,jW,xZ,cN,dB,j0,jZ,eZ,j3,zf,eY,bW,bX,bY,join_some,cu,iU,vO,aB,lG,j9,lI,cR,dN,ki,bO,bP,cO,dM,bB,bZ,cg,cS,gw,gx,gy,ef,dW,cA,cz,bC,bD,aY,cy,dO,dQ,gF,gG,gH,gI,List.getD_cons_zero,List.getD_cons_succ,ha,oV]
    exact ⟨s',n,none,rfl,hn,fun _=>hp,q⟩
  | some i=>
    simp only [jT,fF,jV,iZ,cY,jX,jU,gn,fG,jy,tC,tu,xX,tD,rI,rU,fH,tB,fC,jS,fD,jQ,xV,jR,xW,dm,vJ,eX,iG,lD,lC,ee,List.getElem?_cons_zero,List.getElem?_cons_succ,List.set_cons_zero,List.set_cons_succ,Option.some.injEq,V.int.injEq,V.bl.injEq,V.ref.injEq,V.ty.injEq,V.str.injEq,List.cons.injEq,exists_eq_left',exists_eq_left,exists_and_left,and_true,true_and,and_assoc,zd,lE,fP,yd,ye,jY,HO.lst.injEq,HO.tup.injEq,bN,dX,dY,dZ,d7,d8,d9,av,aW,aX,cB,gq,gr,gu,decide_eq_true_eq,L2.start,List.map_cons,List.map_nil,List.length_cons,List.length_nil,Nat.reduceAdd,Nat.reduceSub,List.replicate_succ,List.replicate_zero,List.cons_append,List.nil_append,List.append_nil,bw,bx,aB,bV,yi,jA,kg,sizeLine_eq,Int.reduceLE,Int.reduceLT,Int.reducePow,Int.reduceToNat,Int.reduceAdd,Int.reduceSub,Int.reduceMul,Int.reduceNeg,Nat.reduceLeDiff,Nat.reducePow,Nat.reduceLT,Int.reduceEq,true_or,or_true,ite_true,ite_false,if_true,if_false,Bool.not_true,Bool.not_false,Bool.false_eq_true,decide_true,decide_false,j6,bz,bA,ao,xY,cI,fJ,kr,gz,fR,dJ,cT,fK,fQ,cW,dj,j5,j7,fL,fm,jW,xZ,cN,dB,j0,jZ,eZ,j3,zf,eY,bW,bX,bY,join_some,cu,iU,vO,aB,lG,j9,lI,cR,dN,ki,bO,bP,cO,dM,bB,bZ,cg,cS,gw,gx,gy,ef,dW,cA,cz,bC,bD,aY,cy,dO,dQ,gF,gG,gH,gI,List.getD_cons_zero,List.getD_cons_succ,ha,oV,reduceCtorEq]
    exact ⟨r,t,some i,rfl,ht,(fun z=>nomatch z),q⟩
theorem OH:ay ["action","value"] ["action","value"] (aa yp):=⟨rfl,rfl,rfl,by decide +kernel,rfl,by decide +kernel,by decide +kernel⟩
theorem JL {f:Addr} {fd:FuncData} (F:fc K "acts" "acts" yp f fd) {br aG aC aP:Addr} {tE tM tN tF u1 u2 u3 u4 u5 u6 u7 u8 t1 t2 t3 t4:Tok} (B:B P w K mg br aG aC aP tE tM tN tF u1 u2 u3 u4 u5 u6 u7 u8 t1 t2 t3 t4) (bS:Callee P w K mg base "check_action" 4 ["thing"] (qg K)) (jE:Callee P w K mg base "does" 2 ["action","value"] (D9 K)):aL P w K mg base dF 5 f fd ["action","value"] (AW K):=by
  refine F.fM OH (fun vs H Q E h=>?_) (fun cJ A outer s H vs Q E hr h=>?_)
  · obtain ⟨v,t,n,val,rfl,_⟩:=h
    rfl
  obtain ⟨v,t,n,val,rfl,a,q⟩:=h
  refine ⟨_,(aE (iT (aI bS (hr.mono (by decide)) rfl (af (ev 0) az)))
      (aK (aU (aI jE (hr.mono (by decide)) rfl (af (ev 0) (af (ev 1) az)))))),?_⟩
  try walk_at "rd"
  refine ⟨v,t,n,rfl,a,fun H1 x1=>?_⟩
  try walk_at "rd"
  exact ⟨v,t,n,val,rfl,a.ext x1,q _ x1⟩
def yv (K:PySem.W.Frag):Sp:=fun vs H Q _=>∃ r h v t n,vs=[.ref r,v]∧tupQ K H r=some (aR.v h)∧Act K H v t n∧∀ u H',tupQ K H' u=some (aR.v (h.then t n))→Ext K H H'→Q (.ref u) H'
theorem iz:ay ["half","other","there","none","word","number"] ["half","other"] (aa gW):=⟨rfl,rfl,rfl,by decide +kernel,rfl,by decide +kernel,by decide +kernel⟩
theorem AY {f:Addr} {fd:FuncData} (F:fc K "half_behind" "half_behind" gW f fd) {br aG aC aP:Addr} {tE tM tN tF u1 u2 u3 u4 u5 u6 u7 u8 t1 t2 t3 t4:Tok} (B:B P w K mg br aG aC aP tE tM tN tF u1 u2 u3 u4 u5 u6 u7 u8 t1 t2 t3 t4):aL P w K mg base dF 1 f fd ["half","other"] (yv K):=by
  refine F.Xr iz (fun vs H Q E h=>?_) (fun cJ A outer s H vs Q E hr hm h=>?_)
  · obtain ⟨r,h,v,t,n,rfl,_⟩:=h
    rfl
  obtain ⟨r,h,v,t,n,rfl,hq,⟨a,r',s',rfl,ha,ht,hn,hp⟩,q⟩:=h
  refine ⟨_,(aE (qc (ev 1) (kc (n:=2) rfl (cK (bG (i:=2) iz.nd rfl (Or.inl rfl)) (cK (bG (i:=3) iz.nd rfl (Or.inl rfl)) pG))))
      (aE (nQ (eV (yk hr.units) (ev 0) (ig rfl B.MH B.wk) (aO _)) (aK (aU (ev 3))) fq)
      (aE (nQ (eV pD (ko ez (ev 2) ei (fun _ _=>rfl)) gK (aO _)) (aK (aU (ev 2))) fq)
      (aE (qc (ev 0) (kc (n:=2) rfl (cK (bG (i:=4) iz.nd rfl (Or.inl rfl)) (cK (bG (i:=5) iz.nd rfl (Or.inl rfl)) pG))))
      (aK (aU (bU (af (ev 4) (af (nL ie (ev 5) (ko ez (ev 2) ei (fun _ _=>rfl))) az))))))))),?_⟩
  simp only [jT,fF,jV,iZ,cY,jX,jU,gn,fG,jy,tC,tu,xX,tD,rI,rU,fH,tB,fC,jS,fD,jQ,xV,jR,xW,dm,vJ,eX,iG,lD,lC,ee,List.getElem?_cons_zero,List.getElem?_cons_succ,List.set_cons_zero,List.set_cons_succ,Option.some.injEq,V.int.injEq,V.bl.injEq,V.ref.injEq,V.ty.injEq,V.str.injEq,List.cons.injEq,exists_eq_left',exists_eq_left,exists_and_left,and_true,true_and,and_assoc,zd,lE,fP,yd,ye,jY,HO.lst.injEq,HO.tup.injEq,bN,dX,dY,dZ,d7,d8,d9,av,aW,aX,cB,gq,gr,gu,decide_eq_true_eq,L2.start,List.map_cons,List.map_nil,List.length_cons,List.length_nil,Nat.reduceAdd,Nat.reduceSub,List.replicate_succ,List.replicate_zero,List.cons_append,List.nil_append,List.append_nil,bw,bx,aB,bV,yi,jA,kg,sizeLine_eq,Int.reduceLE,Int.reduceLT,Int.reducePow,Int.reduceToNat,Int.reduceAdd,Int.reduceSub,Int.reduceMul,Int.reduceNeg,Nat.reduceLeDiff,Nat.reducePow,Nat.reduceLT,Int.reduceEq,true_or,or_true,ite_true,ite_false,if_true,if_false,Bool.not_true,Bool.not_false,Bool.false_eq_true,decide_true,decide_false,j6,bz,bA,ao,xY,cI,fJ,kr,gz,fR,dJ,cT,fK,fQ,cW,dj,j5,j7,fL,fm,jW,xZ,cN,dB,j0,jZ,eZ,j3,zf,eY,bW,bX,bY,join_some,cu,iU,vO,aB,lG,j9,lI,cR,dN,ki,bO,bP,cO,dM,bB,bZ,cg,cS,gw,gx,gy,ef,dW,cA,cz,bC,bD,aY,cy,dO,dQ,gF,gG,gH,gI,List.getD_cons_zero,List.getD_cons_succ,ha]
  refine ⟨h.hd,aR.Dc hq,aR.gone.hd,aR.Dc (h:=.gone) (hm.tup B.kG),h.shaped,aR.shaped .gone,?_⟩
  rw [aR.AX]
  cases h with
  | gone=>
    try walk_at "rd"
    refine q _ _ ?_ Ext.refl
    cases n with
    | plus k=>exact hp.elim
    | is k=>exact hn
    | gone=>exact hn
  | plus k=>
    simp only [jT,fF,jV,iZ,cY,jX,jU,gn,fG,jy,tC,tu,xX,tD,rI,rU,fH,tB,fC,jS,fD,jQ,xV,jR,xW,dm,vJ,eX,iG,lD,lC,ee,List.getElem?_cons_zero,List.getElem?_cons_succ,List.set_cons_zero,List.set_cons_succ,Option.some.injEq,V.int.injEq,V.bl.injEq,V.ref.injEq,V.ty.injEq,V.str.injEq,List.cons.injEq,exists_eq_left',exists_eq_left,exists_and_left,and_true,true_and,and_assoc,zd,lE,fP,yd,ye,jY,HO.lst.injEq,HO.tup.injEq,bN,dX,dY,dZ,d7,d8,d9,av,aW,aX,cB,gq,gr,gu,decide_eq_true_eq,L2.start,List.map_cons,List.map_nil,List.length_cons,List.length_nil,Nat.reduceAdd,Nat.reduceSub,List.replicate_succ,List.replicate_zero,List.cons_append,List.nil_append,List.append_nil,bw,bx,aB,bV,yi,jA,kg,sizeLine_eq,Int.reduceLE,Int.reduceLT,Int.reducePow,Int.reduceToNat,Int.reduceAdd,Int.reduceSub,Int.reduceMul,Int.reduceNeg,Nat.reduceLeDiff,Nat.reducePow,Nat.reduceLT,Int.reduceEq,true_or,or_true,ite_true,ite_false,if_true,if_false,Bool.not_true,Bool.not_false,Bool.false_eq_true,decide_true,decide_false,j6,bz,bA,ao,xY,cI,fJ,kr,gz,fR,dJ,cT,fK,fQ,cW,dj,j5,j7,fL,fm,jW,xZ,cN,dB,j0,jZ,eZ,j3,zf,eY,bW,bX,bY,join_some,cu,iU,vO,aB,lG,j9,lI,cR,dN,ki,bO,bP,cO,dM,bB,bZ,cg,cS,gw,gx,gy,ef,dW,cA,cz,bC,bD,aY,cy,dO,dQ,gF,gG,gH,gI,List.getD_cons_zero,List.getD_cons_succ,dw ht]
    cases t with
    | plus j=>
      simp only [jT,fF,jV,iZ,cY,jX,jU,gn,fG,jy,tC,tu,xX,tD,rI,rU,fH,tB,fC,jS,fD,jQ,xV,jR,xW,dm,vJ,eX,iG,lD,lC,ee,List.getElem?_cons_zero,List.getElem?_cons_succ,List.set_cons_zero,List.set_cons_succ,Option.some.injEq,V.int.injEq,V.bl.injEq,V.ref.injEq,V.ty.injEq,V.str.injEq,List.cons.injEq,exists_eq_left',exists_eq_left,exists_and_left,and_true,true_and,and_assoc,zd,lE,fP,yd,ye,jY,HO.lst.injEq,HO.tup.injEq,bN,dX,dY,dZ,d7,d8,d9,av,aW,aX,cB,gq,gr,gu,decide_eq_true_eq,L2.start,List.map_cons,List.map_nil,List.length_cons,List.length_nil,Nat.reduceAdd,Nat.reduceSub,List.replicate_succ,List.replicate_zero,List.cons_append,List.nil_append,List.append_nil,bw,bx,aB,bV,yi,jA,kg,sizeLine_eq,Int.reduceLE,Int.reduceLT,Int.reducePow,Int.reduceToNat,Int.reduceAdd,Int.reduceSub,Int.reduceMul,Int.reduceNeg,Nat.reduceLeDiff,Nat.reducePow,Nat.reduceLT,Int.reduceEq,true_or,or_true,ite_true,ite_false,if_true,if_false,Bool.not_true,Bool.not_false,Bool.false_eq_true,decide_true,decide_false,j6,bz,bA,ao,xY,cI,fJ,kr,gz,fR,dJ,cT,fK,fQ,cW,dj,j5,j7,fL,fm,jW,xZ,cN,dB,j0,jZ,eZ,j3,zf,eY,bW,bX,bY,join_some,cu,iU,vO,aB,lG,j9,lI,cR,dN,ki,bO,bP,cO,dM,bB,bZ,cg,cS,gw,gx,gy,ef,dW,cA,cz,bC,bD,aY,cy,dO,dQ,gF,gG,gH,gI,List.getD_cons_zero,List.getD_cons_succ,aR.v,hq]
      intro p np
      exact q p _ ao (Ext.new np)
    | is j=>
      simp only [jT,fF,jV,iZ,cY,jX,jU,gn,fG,jy,tC,tu,xX,tD,rI,rU,fH,tB,fC,jS,fD,jQ,xV,jR,xW,dm,vJ,eX,iG,lD,lC,ee,List.getElem?_cons_zero,List.getElem?_cons_succ,List.set_cons_zero,List.set_cons_succ,Option.some.injEq,V.int.injEq,V.bl.injEq,V.ref.injEq,V.ty.injEq,V.str.injEq,List.cons.injEq,exists_eq_left',exists_eq_left,exists_and_left,and_true,true_and,and_assoc,zd,lE,fP,yd,ye,jY,HO.lst.injEq,HO.tup.injEq,bN,dX,dY,dZ,d7,d8,d9,av,aW,aX,cB,gq,gr,gu,decide_eq_true_eq,L2.start,List.map_cons,List.map_nil,List.length_cons,List.length_nil,Nat.reduceAdd,Nat.reduceSub,List.replicate_succ,List.replicate_zero,List.cons_append,List.nil_append,List.append_nil,bw,bx,aB,bV,yi,jA,kg,sizeLine_eq,Int.reduceLE,Int.reduceLT,Int.reducePow,Int.reduceToNat,Int.reduceAdd,Int.reduceSub,Int.reduceMul,Int.reduceNeg,Nat.reduceLeDiff,Nat.reducePow,Nat.reduceLT,Int.reduceEq,true_or,or_true,ite_true,ite_false,if_true,if_false,Bool.not_true,Bool.not_false,Bool.false_eq_true,decide_true,decide_false,j6,bz,bA,ao,xY,cI,fJ,kr,gz,fR,dJ,cT,fK,fQ,cW,dj,j5,j7,fL,fm,jW,xZ,cN,dB,j0,jZ,eZ,j3,zf,eY,bW,bX,bY,join_some,cu,iU,vO,aB,lG,j9,lI,cR,dN,ki,bO,bP,cO,dM,bB,bZ,cg,cS,gw,gx,gy,ef,dW,cA,cz,bC,bD,aY,cy,dO,dQ,gF,gG,gH,gI,List.getD_cons_zero,List.getD_cons_succ,aR.v,hq,s3]
      exact q _ _ ht Ext.refl
    | gone=>
      simp only [jT,fF,jV,iZ,cY,jX,jU,gn,fG,jy,tC,tu,xX,tD,rI,rU,fH,tB,fC,jS,fD,jQ,xV,jR,xW,dm,vJ,eX,iG,lD,lC,ee,List.getElem?_cons_zero,List.getElem?_cons_succ,List.set_cons_zero,List.set_cons_succ,Option.some.injEq,V.int.injEq,V.bl.injEq,V.ref.injEq,V.ty.injEq,V.str.injEq,List.cons.injEq,exists_eq_left',exists_eq_left,exists_and_left,and_true,true_and,and_assoc,zd,lE,fP,yd,ye,jY,HO.lst.injEq,HO.tup.injEq,bN,dX,dY,dZ,d7,d8,d9,av,aW,aX,cB,gq,gr,gu,decide_eq_true_eq,L2.start,List.map_cons,List.map_nil,List.length_cons,List.length_nil,Nat.reduceAdd,Nat.reduceSub,List.replicate_succ,List.replicate_zero,List.cons_append,List.nil_append,List.append_nil,bw,bx,aB,bV,yi,jA,kg,sizeLine_eq,Int.reduceLE,Int.reduceLT,Int.reducePow,Int.reduceToNat,Int.reduceAdd,Int.reduceSub,Int.reduceMul,Int.reduceNeg,Nat.reduceLeDiff,Nat.reducePow,Nat.reduceLT,Int.reduceEq,true_or,or_true,ite_true,ite_false,if_true,if_false,Bool.not_true,Bool.not_false,Bool.false_eq_true,decide_true,decide_false,j6,bz,bA,ao,xY,cI,fJ,kr,gz,fR,dJ,cT,fK,fQ,cW,dj,j5,j7,fL,fm,jW,xZ,cN,dB,j0,jZ,eZ,j3,zf,eY,bW,bX,bY,join_some,cu,iU,vO,aB,lG,j9,lI,cR,dN,ki,bO,bP,cO,dM,bB,bZ,cg,cS,gw,gx,gy,ef,dW,cA,cz,bC,bD,aY,cy,dO,dQ,gF,gG,gH,gI,List.getD_cons_zero,List.getD_cons_succ,aR.v,hq,s4]
      exact q _ _ ht Ext.refl
  | is k=>
    simp only [jT,fF,jV,iZ,cY,jX,jU,gn,fG,jy,tC,tu,xX,tD,rI,rU,fH,tB,fC,jS,fD,jQ,xV,jR,xW,dm,vJ,eX,iG,lD,lC,ee,List.getElem?_cons_zero,List.getElem?_cons_succ,List.set_cons_zero,List.set_cons_succ,Option.some.injEq,V.int.injEq,V.bl.injEq,V.ref.injEq,V.ty.injEq,V.str.injEq,List.cons.injEq,exists_eq_left',exists_eq_left,exists_and_left,and_true,true_and,and_assoc,zd,lE,fP,yd,ye,jY,HO.lst.injEq,HO.tup.injEq,bN,dX,dY,dZ,d7,d8,d9,av,aW,aX,cB,gq,gr,gu,decide_eq_true_eq,L2.start,List.map_cons,List.map_nil,List.length_cons,List.length_nil,Nat.reduceAdd,Nat.reduceSub,List.replicate_succ,List.replicate_zero,List.cons_append,List.nil_append,List.append_nil,bw,bx,aB,bV,yi,jA,kg,sizeLine_eq,Int.reduceLE,Int.reduceLT,Int.reducePow,Int.reduceToNat,Int.reduceAdd,Int.reduceSub,Int.reduceMul,Int.reduceNeg,Nat.reduceLeDiff,Nat.reducePow,Nat.reduceLT,Int.reduceEq,true_or,or_true,ite_true,ite_false,if_true,if_false,Bool.not_true,Bool.not_false,Bool.false_eq_true,decide_true,decide_false,j6,bz,bA,ao,xY,cI,fJ,kr,gz,fR,dJ,cT,fK,fQ,cW,dj,j5,j7,fL,fm,jW,xZ,cN,dB,j0,jZ,eZ,j3,zf,eY,bW,bX,bY,join_some,cu,iU,vO,aB,lG,j9,lI,cR,dN,ki,bO,bP,cO,dM,bB,bZ,cg,cS,gw,gx,gy,ef,dW,cA,cz,bC,bD,aY,cy,dO,dQ,gF,gG,gH,gI,List.getD_cons_zero,List.getD_cons_succ,dw ht]
    cases t with
    | plus j=>
      simp only [jT,fF,jV,iZ,cY,jX,jU,gn,fG,jy,tC,tu,xX,tD,rI,rU,fH,tB,fC,jS,fD,jQ,xV,jR,xW,dm,vJ,eX,iG,lD,lC,ee,List.getElem?_cons_zero,List.getElem?_cons_succ,List.set_cons_zero,List.set_cons_succ,Option.some.injEq,V.int.injEq,V.bl.injEq,V.ref.injEq,V.ty.injEq,V.str.injEq,List.cons.injEq,exists_eq_left',exists_eq_left,exists_and_left,and_true,true_and,and_assoc,zd,lE,fP,yd,ye,jY,HO.lst.injEq,HO.tup.injEq,bN,dX,dY,dZ,d7,d8,d9,av,aW,aX,cB,gq,gr,gu,decide_eq_true_eq,L2.start,List.map_cons,List.map_nil,List.length_cons,List.length_nil,Nat.reduceAdd,Nat.reduceSub,List.replicate_succ,List.replicate_zero,List.cons_append,List.nil_append,List.append_nil,bw,bx,aB,bV,yi,jA,kg,sizeLine_eq,Int.reduceLE,Int.reduceLT,Int.reducePow,Int.reduceToNat,Int.reduceAdd,Int.reduceSub,Int.reduceMul,Int.reduceNeg,Nat.reduceLeDiff,Nat.reducePow,Nat.reduceLT,Int.reduceEq,true_or,or_true,ite_true,ite_false,if_true,if_false,Bool.not_true,Bool.not_false,Bool.false_eq_true,decide_true,decide_false,j6,bz,bA,ao,xY,cI,fJ,kr,gz,fR,dJ,cT,fK,fQ,cW,dj,j5,j7,fL,fm,jW,xZ,cN,dB,j0,jZ,eZ,j3,zf,eY,bW,bX,bY,join_some,cu,iU,vO,aB,lG,j9,lI,cR,dN,ki,bO,bP,cO,dM,bB,bZ,cg,cS,gw,gx,gy,ef,dW,cA,cz,bC,bD,aY,cy,dO,dQ,gF,gG,gH,gI,List.getD_cons_zero,List.getD_cons_succ,aR.v,hq]
      intro p np
      exact q p _ ao (Ext.new np)
    | is j=>
      simp only [jT,fF,jV,iZ,cY,jX,jU,gn,fG,jy,tC,tu,xX,tD,rI,rU,fH,tB,fC,jS,fD,jQ,xV,jR,xW,dm,vJ,eX,iG,lD,lC,ee,List.getElem?_cons_zero,List.getElem?_cons_succ,List.set_cons_zero,List.set_cons_succ,Option.some.injEq,V.int.injEq,V.bl.injEq,V.ref.injEq,V.ty.injEq,V.str.injEq,List.cons.injEq,exists_eq_left',exists_eq_left,exists_and_left,and_true,true_and,and_assoc,zd,lE,fP,yd,ye,jY,HO.lst.injEq,HO.tup.injEq,bN,dX,dY,dZ,d7,d8,d9,av,aW,aX,cB,gq,gr,gu,decide_eq_true_eq,L2.start,List.map_cons,List.map_nil,List.length_cons,List.length_nil,Nat.reduceAdd,Nat.reduceSub,List.replicate_succ,List.replicate_zero,List.cons_append,List.nil_append,List.append_nil,bw,bx,aB,bV,yi,jA,kg,sizeLine_eq,Int.reduceLE,Int.reduceLT,Int.reducePow,Int.reduceToNat,Int.reduceAdd,Int.reduceSub,Int.reduceMul,Int.reduceNeg,Nat.reduceLeDiff,Nat.reducePow,Nat.reduceLT,Int.reduceEq,true_or,or_true,ite_true,ite_false,if_true,if_false,Bool.not_true,Bool.not_false,Bool.false_eq_true,decide_true,decide_false,j6,bz,bA,ao,xY,cI,fJ,kr,gz,fR,dJ,cT,fK,fQ,cW,dj,j5,j7,fL,fm,jW,xZ,cN,dB,j0,jZ,eZ,j3,zf,eY,bW,bX,bY,join_some,cu,iU,vO,aB,lG,j9,lI,cR,dN,ki,bO,bP,cO,dM,bB,bZ,cg,cS,gw,gx,gy,ef,dW,cA,cz,bC,bD,aY,cy,dO,dQ,gF,gG,gH,gI,List.getD_cons_zero,List.getD_cons_succ,aR.v,hq,s3]
      exact q _ _ ht Ext.refl
    | gone=>
      simp only [jT,fF,jV,iZ,cY,jX,jU,gn,fG,jy,tC,tu,xX,tD,rI,rU,fH,tB,fC,jS,fD,jQ,xV,jR,xW,dm,vJ,eX,iG,lD,lC,ee,List.getElem?_cons_zero,List.getElem?_cons_succ,List.set_cons_zero,List.set_cons_succ,Option.some.injEq,V.int.injEq,V.bl.injEq,V.ref.injEq,V.ty.injEq,V.str.injEq,List.cons.injEq,exists_eq_left',exists_eq_left,exists_and_left,and_true,true_and,and_assoc,zd,lE,fP,yd,ye,jY,HO.lst.injEq,HO.tup.injEq,bN,dX,dY,dZ,d7,d8,d9,av,aW,aX,cB,gq,gr,gu,decide_eq_true_eq,L2.start,List.map_cons,List.map_nil,List.length_cons,List.length_nil,Nat.reduceAdd,Nat.reduceSub,List.replicate_succ,List.replicate_zero,List.cons_append,List.nil_append,List.append_nil,bw,bx,aB,bV,yi,jA,kg,sizeLine_eq,Int.reduceLE,Int.reduceLT,Int.reducePow,Int.reduceToNat,Int.reduceAdd,Int.reduceSub,Int.reduceMul,Int.reduceNeg,Nat.reduceLeDiff,Nat.reducePow,Nat.reduceLT,Int.reduceEq,true_or,or_true,ite_true,ite_false,if_true,if_false,Bool.not_true,Bool.not_false,Bool.false_eq_true,decide_true,decide_false,j6,bz,bA,ao,xY,cI,fJ,kr,gz,fR,dJ,cT,fK,fQ,cW,dj,j5,j7,fL,fm,jW,xZ,cN,dB,j0,jZ,eZ,j3,zf,eY,bW,bX,bY,join_some,cu,iU,vO,aB,lG,j9,lI,cR,dN,ki,bO,bP,cO,dM,bB,bZ,cg,cS,gw,gx,gy,ef,dW,cA,cz,bC,bD,aY,cy,dO,dQ,gF,gG,gH,gI,List.getD_cons_zero,List.getD_cons_succ,aR.v,hq,s4]
      exact q _ _ ht Ext.refl
theorem yw:ay ["one","other","there","none"] ["one","other"] (aa pI):=⟨rfl,rfl,rfl,by decide +kernel,rfl,by decide +kernel,by decide +kernel⟩
theorem Li {f:Addr} {fd:FuncData} (F:fc K "joined" "joined" pI f fd) {br aG aC aP:Addr} {tE tM tN tF u1 u2 u3 u4 u5 u6 u7 u8 t1 t2 t3 t4:Tok} (B:B P w K mg br aG aC aP tE tM tN tF u1 u2 u3 u4 u5 u6 u7 u8 t1 t2 t3 t4) (i6:Callee P w K mg base "half_behind" 1 ["half","other"] (yv K)):aL P w K mg base dF 2 f fd ["one","other"] (jD K):=by
  refine F.fM yw (fun vs H Q E h=>?_) (fun cJ A outer s H vs Q E hr h=>?_)
  · obtain ⟨v,t,n,v',t',n',rfl,_⟩:=h
    rfl
  obtain ⟨v,t,n,v',t',n',rfl,⟨a,r,s',rfl,ha,ht,hn,hp⟩,A',q⟩:=h
  refine ⟨_,(aE (qc (ev 0) (kc (n:=2) rfl (cK (bG (i:=2) yw.nd rfl (Or.inl rfl)) (cK (bG (i:=3) yw.nd rfl (Or.inl rfl)) pG))))
      (aK (aU (bU (af (aI i6 (hr.mono (by decide)) rfl (af (ev 2) (af (ev 1) az))) (af (aI i6 (hr.mono (by decide)) rfl (af (ev 3) (af (ev 1) az))) az)))))),?_⟩
  simp only [jT,fF,jV,iZ,cY,jX,jU,gn,fG,jy,tC,tu,xX,tD,rI,rU,fH,tB,fC,jS,fD,jQ,xV,jR,xW,dm,vJ,eX,iG,lD,lC,ee,List.getElem?_cons_zero,List.getElem?_cons_succ,List.set_cons_zero,List.set_cons_succ,Option.some.injEq,V.int.injEq,V.bl.injEq,V.ref.injEq,V.ty.injEq,V.str.injEq,List.cons.injEq,exists_eq_left',exists_eq_left,exists_and_left,and_true,true_and,and_assoc,zd,lE,fP,yd,ye,jY,HO.lst.injEq,HO.tup.injEq,bN,dX,dY,dZ,d7,d8,d9,av,aW,aX,cB,gq,gr,gu,decide_eq_true_eq,L2.start,List.map_cons,List.map_nil,List.length_cons,List.length_nil,Nat.reduceAdd,Nat.reduceSub,List.replicate_succ,List.replicate_zero,List.cons_append,List.nil_append,List.append_nil,bw,bx,aB,bV,yi,jA,kg,sizeLine_eq,Int.reduceLE,Int.reduceLT,Int.reducePow,Int.reduceToNat,Int.reduceAdd,Int.reduceSub,Int.reduceMul,Int.reduceNeg,Nat.reduceLeDiff,Nat.reducePow,Nat.reduceLT,Int.reduceEq,true_or,or_true,ite_true,ite_false,if_true,if_false,Bool.not_true,Bool.not_false,Bool.false_eq_true,decide_true,decide_false,j6,bz,bA,ao,xY,cI,fJ,kr,gz,fR,dJ,cT,fK,fQ,cW,dj,j5,j7,fL,fm,jW,xZ,cN,dB,j0,jZ,eZ,j3,zf,eY,bW,bX,bY,join_some,cu,iU,vO,aB,lG,j9,lI,cR,dN,ki,bO,bP,cO,dM,bB,bZ,cg,cS,gw,gx,gy,ef,dW,cA,cz,bC,bD,aY,cy,dO,dQ,gF,gG,gH,gI,List.getD_cons_zero,List.getD_cons_succ,ha]
  refine ⟨r,t,v',t',n',rfl,ht,A',fun u1 H1 e1 x1=>?_⟩
  try walk_at "rd"
  refine ⟨s',n,v',t',n',rfl,x1.tup hn,A'.ext x1,fun u2 H2 e2 x2=>?_⟩
  try walk_at "rd"
  intro p np
  exact q _ _ ⟨p,u1,u2,rfl,ao,(x2.trans (Ext.new np)).tup e1,(Ext.new np).tup e2,aR.zh _ _ hp⟩ (x1.trans (x2.trans (Ext.new np)))
theorem Lj:ay ["one","other"] ["one","other"] (aa pJ):=⟨rfl,rfl,rfl,by decide +kernel,rfl,by decide +kernel,by decide +kernel⟩
theorem De {f:Addr} {fd:FuncData} (F:fc K "behind" "behind" pJ f fd) {br aG aC aP:Addr} {tE tM tN tF u1 u2 u3 u4 u5 u6 u7 u8 t1 t2 t3 t4:Tok} (B:B P w K mg br aG aC aP tE tM tN tF u1 u2 u3 u4 u5 u6 u7 u8 t1 t2 t3 t4) (bS:Callee P w K mg base "check_action" 4 ["thing"] (qg K)) (gU:Callee P w K mg base "joined" 2 ["one","other"] (jD K)):aL P w K mg base dF 5 f fd ["one","other"] (jD K):=by
  refine F.fM Lj (fun vs H Q E h=>?_) (fun cJ A outer s H vs Q E hr h=>?_)
  · obtain ⟨v,t,n,v',t',n',rfl,_⟩:=h
    rfl
  obtain ⟨v,t,n,v',t',n',rfl,a,A',q⟩:=h
  refine ⟨_,(aE (iT (aI bS (hr.mono (by decide)) rfl (af (ev 0) az)))
      (aE (iT (aI bS (hr.mono (by decide)) rfl (af (ev 1) az)))
      (aK (aU (aI gU (hr.mono (by decide)) rfl (af (ev 0) (af (ev 1) az))))))),?_⟩
  try walk_at "rd"
  refine ⟨v,t,n,rfl,a,fun H1 x1=>?_⟩
  try walk_at "rd"
  refine ⟨v',t',n',rfl,A'.ext x1,fun H2 x2=>?_⟩
  try walk_at "rd"
  exact ⟨v,t,n,v',t',n',rfl,a.ext (x1.trans x2),A'.ext (x1.trans x2),fun u H3 e x3=>q u H3 e (x1.trans (x2.trans x3))⟩
end
section
variable {P:Program} {w:World} {K:PySem.W.Frag} {mg:Str→Option Value} {base:Heap}
def nV:Sp:=fun vs H Q _=>∃ i lo hi,vs=[.int i,.int lo,.int hi]∧Q (.bl (decide (lo≤i∧i≤hi))) H
def Ef:Sp:=fun vs H Q _=>∃ i lo,vs=[.int i,.int lo]∧Q (.bl (decide (lo≤i))) H
def tL:Sp:=fun vs H Q _=>∃ i,vs=[.int i]∧Q (.bl (decide (0≤i∧i≤999999999999))) H
def qj:Sp:=fun vs H Q _=>∃ lo hi,vs=[.int lo,.int hi]∧0≤lo∧lo < hi∧hi≤1000000000000∧Q (.bl true) H
def vg:Sp:=fun vs H Q _=>∃ i,vs=[.int i]∧0≤i∧i≤999999999999∧Q .eO H
def vh:Sp:=fun vs H Q _=>∃ lo hi,vs=[.int lo,.int hi]∧0≤lo∧lo < hi∧hi≤1000000000000∧Q .eO H
theorem Gi:ay ["thing","low","high"] ["thing","low","high"] (aa ku):=⟨rfl,rfl,rfl,by decide +kernel,rfl,by decide +kernel,by decide +kernel⟩
theorem zj {f:Addr} {fd:FuncData} (F:fc K "is_whole" "is_whole" ku f fd) {br aG aC aP:Addr} {tE tM tN tF u1 u2 u3 u4 u5 u6 u7 u8 t1 t2 t3 t4:Tok} (B:B P w K mg br aG aC aP tE tM tN tF u1 u2 u3 u4 u5 u6 u7 u8 t1 t2 t3 t4) (cU:Callee P w K mg base "is_number" 1 ["thing"] Gh):aL P w K mg base dF 2 f fd ["thing","low","high"] nV:=by
  refine F.fM Gi (fun vs H Q E h=>?_) (fun cJ A outer s H vs Q E hr h=>?_)
  · obtain ⟨i,lo,hi,rfl,_⟩:=h
    rfl
  obtain ⟨i,lo,hi,rfl,q⟩:=h
  refine ⟨_,(aK (aU (qb (aI cU (hr.mono (by decide)) rfl (af (ev 0) az)) (rB (AH vL vL (ev 1) (ev 0) (ev 2)))))),?_⟩
  try walk_at "rn"
  refine ⟨i,rfl,?_⟩
  try walk_at "rn"
  refine B8 (fun c=>?_) (fun c=>?_)
  · have e:decide (lo≤i∧i≤hi)=decide (i≤hi):=by simp [c]
    rw [e] at q
    exact q
  · have e:decide (lo≤i∧i≤hi)=false:=by simp [c]
    rw [e] at q
    exact q
theorem yx:ay ["thing","low"] ["thing","low"] (aa ff):=⟨rfl,rfl,rfl,by decide +kernel,rfl,by decide +kernel,by decide +kernel⟩
theorem yz {f:Addr} {fd:FuncData} (F:fc K "is_whole_from" "is_whole_from" ff f fd) {br aG aC aP:Addr} {tE tM tN tF u1 u2 u3 u4 u5 u6 u7 u8 t1 t2 t3 t4:Tok} (B:B P w K mg br aG aC aP tE tM tN tF u1 u2 u3 u4 u5 u6 u7 u8 t1 t2 t3 t4) (cU:Callee P w K mg base "is_number" 1 ["thing"] Gh):aL P w K mg base dF 2 f fd ["thing","low"] Ef:=by
  refine F.fM yx (fun vs H Q E h=>?_) (fun cJ A outer s H vs Q E hr h=>?_)
  · obtain ⟨i,lo,rfl,_⟩:=h
    rfl
  obtain ⟨i,lo,rfl,q⟩:=h
  refine ⟨_,(aK (aU (qb (aI cU (hr.mono (by decide)) rfl (af (ev 0) az)) (rB (rM vL (ev 1) (ev 0) (aO _)))))),?_⟩
  try walk_at "rn"
  refine ⟨i,rfl,?_⟩
  try walk_at "rn"
  exact q
theorem Lk:ay ["thing"] ["thing"] (aa pH):=⟨rfl,rfl,rfl,by decide +kernel,rfl,by decide +kernel,by decide +kernel⟩
theorem Df {f:Addr} {fd:FuncData} (F:fc K "is_key" "is_key" pH f fd) {br aG aC aP:Addr} {tE tM tN tF u1 u2 u3 u4 u5 u6 u7 u8 t1 t2 t3 t4:Tok} (B:B P w K mg br aG aC aP tE tM tN tF u1 u2 u3 u4 u5 u6 u7 u8 t1 t2 t3 t4) (bf:Callee P w K mg base "is_whole" 2 ["thing","low","high"] nV):aL P w K mg base dF 3 f fd ["thing"] tL:=by
  refine F.fM Lk (fun vs H Q E h=>?_) (fun cJ A outer s H vs Q E hr h=>?_)
  · obtain ⟨i,rfl,_⟩:=h
    rfl
  obtain ⟨i,rfl,q⟩:=h
  refine ⟨_,(aK (aU (aI bf (hr.mono (by decide)) rfl (af (ev 0) (af ei (af (nL Dw (ig rfl B.Xy B.D0) ei) az)))))),?_⟩
  try walk_at "rn"
  exact ⟨i,_,_,rfl,q⟩
theorem Ca:ay ["low","high"] ["low","high"] (aa iH):=⟨rfl,rfl,rfl,by decide +kernel,rfl,by decide +kernel,by decide +kernel⟩
theorem ue {f:Addr} {fd:FuncData} (F:fc K "is_stretch" "is_stretch" iH f fd) {br aG aC aP:Addr} {tE tM tN tF u1 u2 u3 u4 u5 u6 u7 u8 t1 t2 t3 t4:Tok} (B:B P w K mg br aG aC aP tE tM tN tF u1 u2 u3 u4 u5 u6 u7 u8 t1 t2 t3 t4) (bf:Callee P w K mg base "is_whole" 2 ["thing","low","high"] nV):aL P w K mg base dF 3 f fd ["low","high"] qj:=by
  refine F.fM Ca (fun vs H Q E h=>?_) (fun cJ A outer s H vs Q E hr h=>?_)
  · obtain ⟨lo,hi,rfl,_⟩:=h
    rfl
  obtain ⟨lo,hi,rfl,l0,lh,h1,q⟩:=h
  refine ⟨_,(aK (aU (qb (aI bf (hr.mono (by decide)) rfl (af (ev 0) (af ei (af (ig rfl B.Xy B.D0) az)))) (qb (aI bf (hr.mono (by decide)) rfl (af (ev 1) (af ei (af (ig rfl B.Xy B.D0) az)))) (rB (rM za (ev 0) (ev 1) (aO _))))))),?_⟩
  try walk_at "rn"
  refine ⟨lo,_,_,rfl,?_⟩
  rw [decide_eq_true (show 0≤lo∧lo≤1000000000000 by omega)]
  try walk_at "rn"
  refine ⟨hi,_,_,rfl,?_⟩
  rw [decide_eq_true (show 0≤hi∧hi≤1000000000000 by omega)]
  try walk_at "rn"
  rw [decide_eq_true lh]
  exact q
theorem Eg:ay ["thing"] ["thing"] (aa jh):=⟨rfl,rfl,rfl,by decide +kernel,rfl,by decide +kernel,by decide +kernel⟩
theorem Eh {f:Addr} {fd:FuncData} (F:fc K "check_key" "check_key" jh f fd) {br aG aC aP:Addr} {tE tM tN tF u1 u2 u3 u4 u5 u6 u7 u8 t1 t2 t3 t4:Tok} (B:B P w K mg br aG aC aP tE tM tN tF u1 u2 u3 u4 u5 u6 u7 u8 t1 t2 t3 t4) (cF:Callee P w K mg base "is_key" 3 ["thing"] tL):aL P w K mg base dF 4 f fd ["thing"] vg:=by
  refine F.fM Eg (fun vs H Q E h=>?_) (fun cJ A outer s H vs Q E hr h=>?_)
  · obtain ⟨i,rfl,_⟩:=h
    rfl
  obtain ⟨i,rfl,h0,h1,q⟩:=h
  refine ⟨_,(aK (nQ (lF (j4 (aI cF (hr.mono (by decide)) rfl (af (ev 0) az)))) (aK u9) fq)),?_⟩
  try walk_at "rn"
  refine ⟨i,rfl,?_⟩
  rw [decide_eq_true (show 0≤i∧i≤999999999999 from ⟨h0,h1⟩)]
  try walk_at "rn"
  exact q
theorem yC:ay ["low","high"] ["low","high"] (aa fh):=⟨rfl,rfl,rfl,by decide +kernel,rfl,by decide +kernel,by decide +kernel⟩
theorem yD {f:Addr} {fd:FuncData} (F:fc K "check_stretch" "check_stretch" fh f fd) {br aG aC aP:Addr} {tE tM tN tF u1 u2 u3 u4 u5 u6 u7 u8 t1 t2 t3 t4:Tok} (B:B P w K mg br aG aC aP tE tM tN tF u1 u2 u3 u4 u5 u6 u7 u8 t1 t2 t3 t4) (aH:Callee P w K mg base "is_stretch" 3 ["low","high"] qj):aL P w K mg base dF 4 f fd ["low","high"] vh:=by
  refine F.fM yC (fun vs H Q E h=>?_) (fun cJ A outer s H vs Q E hr h=>?_)
  · obtain ⟨lo,hi,rfl,_⟩:=h
    rfl
  obtain ⟨lo,hi,rfl,l0,lh,h1,q⟩:=h
  refine ⟨_,(aK (nQ (lF (j4 (aI aH (hr.mono (by decide)) rfl (af (ev 0) (af (ev 1) az))))) (aK u9) fq)),?_⟩
  try walk_at "rn"
  refine ⟨lo,hi,rfl,l0,lh,h1,?_⟩
  try walk_at "rn"
  exact q
def rR (K:PySem.W.Frag):Sp:=fun vs H Q _=>∃ v e,vs=[v]∧cM K H v e∧e.ok∧∀ H',Ext K H H'→Q (.bl true) H'
def lJ (K:PySem.W.Frag):Sp:=fun vs H Q _=>∃ v e,vs=[v]∧cM K H v e∧e.ok∧∀ H',Ext K H H'→Q .eO H'
theorem mY:ay ["thing","number","low","high","action"] ["thing"] (aa mH):=⟨rfl,rfl,rfl,by decide +kernel,rfl,by decide +kernel,by decide +kernel⟩
theorem AZ {f:Addr} {fd:FuncData} (F:fc K "is_note" "is_note" mH f fd) {br aG aC aP:Addr} {tE tM tN tF u1 u2 u3 u4 u5 u6 u7 u8 t1 t2 t3 t4:Tok} (B:B P w K mg br aG aC aP tE tM tN tF u1 u2 u3 u4 u5 u6 u7 u8 t1 t2 t3 t4) (bM:Callee P w K mg base "is_whole_from" 2 ["thing","low"] Ef) (aH:Callee P w K mg base "is_stretch" 3 ["low","high"] qj) (eT:Callee P w K mg base "is_action" 3 ["thing"] (pN K)):aL P w K mg base dF 4 f fd ["thing"] (rR K):=by
  refine F.Xr mY (fun vs H Q E h=>?_) (fun cJ A outer s H vs Q E hr hm h=>?_)
  · obtain ⟨v,e,rfl,_⟩:=h
    rfl
  obtain ⟨v,e,rfl,⟨a,w,rfl,ha,hA⟩,ok,q⟩:=h
  refine ⟨_,(aE (nQ (tw (B4 (lF (j4 (dH cE rfl B.isinstance bF (af (ev 0) (af (vR rfl B.tuple pF) az))))) (rC (eV pD (dH kq rfl B.len rL (af (ev 0) az)) ei (aO _))))) (aK (aU yj)) fq)
      (aE (qc (ev 0) (kc (n:=4) rfl (cK (bG (i:=1) mY.nd rfl (Or.inl rfl)) (cK (bG (i:=2) mY.nd rfl (Or.inl rfl)) (cK (bG (i:=3) mY.nd rfl (Or.inl rfl)) (cK (bG (i:=4) mY.nd rfl (Or.inl rfl)) pG))))))
      (aE (nQ (tw (B4 (lF (j4 (aI bM (hr.mono (by decide)) rfl (af (ev 1) (af ei az))))) (B4 (lF (j4 (aI aH (hr.mono (by decide)) rfl (af (ev 2) (af (ev 3) az))))) (rC (lF (j4 (aI eT (hr.mono (by decide)) rfl (af (ev 4) az)))))))) (aK (aU yj)) fq)
      (aK (aU (eor (rM mV (nL Dw (ev 3) (ev 2)) ei (aO _)) (rB (rM (yk hr.units) (ko ez (ev 4) ei (fun _ _=>rfl)) (ig rfl B.MH B.wk) (aO _))))))))),?_⟩
  simp_arith [dw ha,ha]
  refine ⟨_,Qd.tup ha,true,rfl,?_⟩
  simp_arith [Int.cast_ofNat_Int]
  refine ⟨_,_,rfl,?_⟩
  rw [decide_eq_true ok.n1]
  try walk_at "rn"
  refine ⟨_,_,rfl,ok.lo0,ok.lt,ok.Rn,?_⟩
  try walk_at "rn"
  refine ⟨_,_,_,rfl,hA,fun H1 x1=>?_⟩
  try walk_at "rn"
  have A1:=hA.ext x1
  obtain ⟨a1,r1,s1,rfl,e1,e2,e3,e4⟩:=A1
  refine B8 (fun c=>q _ x1) (fun c=>?_)
  simp_arith [dw e1]
  have em:e.m=.gone:=ok.one.resolve_left c
  rw [em] at e3
  refine ⟨_,aR.Dc e3,_,aR.Dc (h:=.gone) ((hm.ext x1).tup B.kG),aR.shaped .gone,aR.shaped .gone,?_⟩
  rw [aR.AX]
  exact q _ x1
theorem Cb:ay ["thing"] ["thing"] (aa iI):=⟨rfl,rfl,rfl,by decide +kernel,rfl,by decide +kernel,by decide +kernel⟩
theorem Cc {f:Addr} {fd:FuncData} (F:fc K "check_note" "check_note" iI f fd) {br aG aC aP:Addr} {tE tM tN tF u1 u2 u3 u4 u5 u6 u7 u8 t1 t2 t3 t4:Tok} (B:B P w K mg br aG aC aP tE tM tN tF u1 u2 u3 u4 u5 u6 u7 u8 t1 t2 t3 t4) (tO:Callee P w K mg base "is_note" 4 ["thing"] (rR K)):aL P w K mg base dF 5 f fd ["thing"] (lJ K):=by
  refine F.fM Cb (fun vs H Q E h=>?_) (fun cJ A outer s H vs Q E hr h=>?_)
  · obtain ⟨v,e,rfl,_⟩:=h
    rfl
  obtain ⟨v,e,rfl,hN,ok,q⟩:=h
  refine ⟨_,(aK (nQ (lF (j4 (aI tO (hr.mono (by decide)) rfl (af (ev 0) az)))) (aK u9) fq)),?_⟩
  try walk_at "rn"
  refine ⟨v,e,rfl,hN,ok,fun H1 x1=>?_⟩
  try walk_at "rn"
  exact q _ x1
def Nt.has (e:Nt) (k:Int):Bool:=decide (e.lo≤k∧k < e.hi)
def Nt.Qi (e e':Nt):Bool:=decide (e.lo < e'.hi∧e'.lo < e.hi)
def mx (a b:Int):Int:=if b > a then b else a
def mn (a b:Int):Int:=if b < a then b else a
def Nt.cut (e:Nt) (lo hi:Int):Nt:={ e with lo:=mx e.lo lo,hi:=mn e.hi hi }
def wo (K:PySem.W.Frag):Sp:=fun vs H Q _=>∃ v e k,vs=[v,.int k]∧cM K H v e∧Q (.bl (e.has k)) H
def wu (K:PySem.W.Frag):Sp:=fun vs H Q _=>∃ v e v' e',vs=[v,v']∧cM K H v e∧cM K H v' e'∧Q (.bl (e.Qi e')) H
def Dg (K:PySem.W.Frag):Sp:=fun vs H Q _=>∃ v e lo hi,vs=[v,.int lo,.int hi]∧cM K H v e∧
  (mx e.lo lo < mn e.hi hi→∀ b H',cM K H' b (e.cut lo hi)→Ext K H H'→Q b H')∧(¬ mx e.lo lo < mn e.hi hi→Q .eO H)
theorem Ii:ay ["note","key"] ["note","key"] (aa mJ):=⟨rfl,rfl,rfl,by decide +kernel,rfl,by decide +kernel,by decide +kernel⟩
theorem Ij {f:Addr} {fd:FuncData} (F:fc K "has_key" "has_key" mJ f fd) {br aG aC aP:Addr} {tE tM tN tF u1 u2 u3 u4 u5 u6 u7 u8 t1 t2 t3 t4:Tok} (B:B P w K mg br aG aC aP tE tM tN tF u1 u2 u3 u4 u5 u6 u7 u8 t1 t2 t3 t4):aL P w K mg base dF 1 f fd ["note","key"] (wo K):=by
  refine F.fM Ii (fun vs H Q E h=>?_) (fun cJ A outer s H vs Q E hr h=>?_)
  · obtain ⟨v,e,k,rfl,_⟩:=h
    rfl
  obtain ⟨v,e,k,rfl,⟨a,w,rfl,ha,hA⟩,q⟩:=h
  refine ⟨_,(aK (aU (AH vL za (ko ez (ev 0) ei (fun _ _=>rfl)) (ev 1) (ko ez (ev 0) ei (fun _ _=>rfl))))),?_⟩
  simp_arith [dw ha]
  refine B8 (fun c=>?_) (fun c=>?_)
  · have e1:e.has k=decide (k < e.hi):=by simp [Nt.has,c]
    rw [e1] at q
    exact q
  · have e1:e.has k=false:=by simp [Nt.has,c]
    rw [e1] at q
    exact q
theorem A0:ay ["note","other"] ["note","other"] (aa gX):=⟨rfl,rfl,rfl,by decide +kernel,rfl,by decide +kernel,by decide +kernel⟩
theorem A3 {f:Addr} {fd:FuncData} (F:fc K "have_common" "have_common" gX f fd) {br aG aC aP:Addr} {tE tM tN tF u1 u2 u3 u4 u5 u6 u7 u8 t1 t2 t3 t4:Tok} (B:B P w K mg br aG aC aP tE tM tN tF u1 u2 u3 u4 u5 u6 u7 u8 t1 t2 t3 t4):aL P w K mg base dF 1 f fd ["note","other"] (wu K):=by
  refine F.fM A0 (fun vs H Q E h=>?_) (fun cJ A outer s H vs Q E hr h=>?_)
  · obtain ⟨v,e,v',e',rfl,_⟩:=h
    rfl
  obtain ⟨v,e,v',e',rfl,⟨a,w,rfl,ha,hA⟩,⟨a',w',rfl,ha',hA'⟩,q⟩:=h
  refine ⟨_,(aK (aU (qb (rM za (ko ez (ev 0) ei (fun _ _=>rfl)) (ko ez (ev 1) ei (fun _ _=>rfl)) (aO _)) (rB (rM za (ko ez (ev 1) ei (fun _ _=>rfl)) (ko ez (ev 0) ei (fun _ _=>rfl)) (aO _)))))),?_⟩
  simp_arith [dw ha,dw ha']
  refine B8 (fun c=>?_) (fun c=>?_)
  · have e1:e.Qi e'=decide (e'.lo < e.hi):=by simp [Nt.Qi,c]
    rw [e1] at q
    exact q
  · have e1:e.Qi e'=false:=by simp [Nt.Qi,c]
    rw [e1] at q
    exact q
theorem vj:ay ["note","low","high","number","note_low","note_high","action","first","end"] ["note","low","high"] (aa C7):=⟨rfl,rfl,rfl,by decide +kernel,rfl,by decide +kernel,by decide +kernel⟩
theorem RB {f:Addr} {fd:FuncData} (F:fc K "cut" "cut" C7 f fd) {br aG aC aP:Addr} {tE tM tN tF u1 u2 u3 u4 u5 u6 u7 u8 t1 t2 t3 t4:Tok} (B:B P w K mg br aG aC aP tE tM tN tF u1 u2 u3 u4 u5 u6 u7 u8 t1 t2 t3 t4):aL P w K mg base dF 1 f fd ["note","low","high"] (Dg K):=by
  refine F.fM vj (fun vs H Q E h=>?_) (fun cJ A outer s H vs Q E hr h=>?_)
  · obtain ⟨v,e,lo,hi,rfl,_⟩:=h
    rfl
  obtain ⟨v,e,lo,hi,rfl,⟨a,w,rfl,ha,hA⟩,q1,q2⟩:=h
  refine ⟨_,(aE (qc (ev 0) (kc (n:=4) rfl (cK (bG (i:=3) vj.nd rfl (Or.inl rfl)) (cK (bG (i:=4) vj.nd rfl (Or.inl rfl)) (cK (bG (i:=5) vj.nd rfl (Or.inl rfl)) (cK (bG (i:=6) vj.nd rfl (Or.inl rfl)) pG))))))
      (aE (sset (i:=7) vj.nd rfl (Or.inl rfl) (dH (Kz rfl) rfl B.max Ra (af (ev 4) (af (ev 1) az))))
      (aE (sset (i:=8) vj.nd rfl (Or.inl rfl) (dH (KA rfl) rfl B.min Rb (af (ev 5) (af (ev 2) az))))
      (aK (aU (Ul (eV za (ev 7) (ev 8) (aO _)) (bU (af (ev 3) (af (ev 7) (af (ev 8) (af (ev 6) az))))) uX)))))),?_⟩
  simp_arith [ha]
  refine B8 (fun c=>fun b nb=>?_) (fun c=>q2 c)
  exact q1 c _ _ ⟨b,w,rfl,ao,hA.ext (Ext.new nb)⟩ (Ext.new nb)
theorem Nt.RC {e:Nt} (h:e.ok) {lo hi:Int} (c:mx e.lo lo < mn e.hi hi):(e.cut lo hi).ok:=by
  have l1:e.lo≤mx e.lo lo:=by unfold mx;split <;> omega
  have h1:mn e.hi hi≤e.hi:=by unfold mn;split <;> omega
  have:=h.lo0
  have:=h.Rn
  refine ⟨h.n1,by show 0≤mx e.lo lo;omega,c,by show mn e.hi hi≤_;omega,?_,h.np⟩
  rcases h.one with z | z
  · left
    show mn e.hi hi - mx e.lo lo=1
    omega
  · exact .inr z
def wz (K:PySem.W.Frag):Sp:=fun vs H Q _=>∃ v e k,vs=[v,.int k]∧cM K H v e∧e.ok∧0≤k∧k≤999999999999∧∀ H',Ext K H H'→Q (.bl (e.has k)) H'
def wA (K:PySem.W.Frag):Sp:=fun vs H Q _=>∃ v e v' e',vs=[v,v']∧cM K H v e∧cM K H v' e'∧e.ok∧e'.ok∧∀ H',Ext K H H'→Q (.bl (e.Qi e')) H'
def yE (K:PySem.W.Frag):Sp:=fun vs H Q _=>∃ v e lo hi,vs=[v,.int lo,.int hi]∧cM K H v e∧e.ok∧0≤lo∧lo < hi∧hi≤1000000000000∧
  (mx e.lo lo < mn e.hi hi→∀ b H',cM K H' b (e.cut lo hi)→Ext K H H'→Q b H')∧(¬ mx e.lo lo < mn e.hi hi→∀ H',Ext K H H'→Q .eO H')
theorem Ik:ay ["note","key"] ["note","key"] (aa mK):=⟨rfl,rfl,rfl,by decide +kernel,rfl,by decide +kernel,by decide +kernel⟩
theorem A4 {f:Addr} {fd:FuncData} (F:fc K "touches" "touches" mK f fd) {br aG aC aP:Addr} {tE tM tN tF u1 u2 u3 u4 u5 u6 u7 u8 t1 t2 t3 t4:Tok} (B:B P w K mg br aG aC aP tE tM tN tF u1 u2 u3 u4 u5 u6 u7 u8 t1 t2 t3 t4) (bg:Callee P w K mg base "check_note" 5 ["thing"] (lJ K)) (jx:Callee P w K mg base "check_key" 4 ["thing"] vg) (g9:Callee P w K mg base "has_key" 1 ["note","key"] (wo K)):aL P w K mg base dF 6 f fd ["note","key"] (wz K):=by
  refine F.fM Ik (fun vs H Q E h=>?_) (fun cJ A outer s H vs Q E hr h=>?_)
  · obtain ⟨v,e,k,rfl,_⟩:=h
    rfl
  obtain ⟨v,e,k,rfl,hN,ok,k0,k1,q⟩:=h
  refine ⟨_,(aE (iT (aI bg (hr.mono (by decide)) rfl (af (ev 0) az)))
      (aE (iT (aI jx (hr.mono (by decide)) rfl (af (ev 1) az)))
      (aK (aU (aI g9 (hr.mono (by decide)) rfl (af (ev 0) (af (ev 1) az))))))),?_⟩
  try walk_at "rn"
  refine ⟨v,e,rfl,hN,ok,fun H1 x1=>?_⟩
  try walk_at "rn"
  refine ⟨k,rfl,k0,k1,?_⟩
  try walk_at "rn"
  exact ⟨v,e,k,rfl,hN.ext x1,q _ x1⟩
theorem Ll:ay ["note","other"] ["note","other"] (aa pK):=⟨rfl,rfl,rfl,by decide +kernel,rfl,by decide +kernel,by decide +kernel⟩
theorem Dh {f:Addr} {fd:FuncData} (F:fc K "shares" "shares" pK f fd) {br aG aC aP:Addr} {tE tM tN tF u1 u2 u3 u4 u5 u6 u7 u8 t1 t2 t3 t4:Tok} (B:B P w K mg br aG aC aP tE tM tN tF u1 u2 u3 u4 u5 u6 u7 u8 t1 t2 t3 t4) (bg:Callee P w K mg base "check_note" 5 ["thing"] (lJ K)) (dg:Callee P w K mg base "have_common" 1 ["note","other"] (wu K)):aL P w K mg base dF 6 f fd ["note","other"] (wA K):=by
  refine F.fM Ll (fun vs H Q E h=>?_) (fun cJ A outer s H vs Q E hr h=>?_)
  · obtain ⟨v,e,v',e',rfl,_⟩:=h
    rfl
  obtain ⟨v,e,v',e',rfl,hN,hN',ok,ok',q⟩:=h
  refine ⟨_,(aE (iT (aI bg (hr.mono (by decide)) rfl (af (ev 0) az)))
      (aE (iT (aI bg (hr.mono (by decide)) rfl (af (ev 1) az)))
      (aK (aU (aI dg (hr.mono (by decide)) rfl (af (ev 0) (af (ev 1) az))))))),?_⟩
  try walk_at "rn"
  refine ⟨v,e,rfl,hN,ok,fun H1 x1=>?_⟩
  try walk_at "rn"
  refine ⟨v',e',rfl,hN'.ext x1,ok',fun H2 x2=>?_⟩
  try walk_at "rn"
  exact ⟨v,e,v',e',rfl,hN.ext (x1.trans x2),hN'.ext (x1.trans x2),q _ (x1.trans x2)⟩
theorem OI:ay ["note","low","high"] ["note","low","high"] (aa yq):=⟨rfl,rfl,rfl,by decide +kernel,rfl,by decide +kernel,by decide +kernel⟩
theorem JM {f:Addr} {fd:FuncData} (F:fc K "part" "part" yq f fd) {br aG aC aP:Addr} {tE tM tN tF u1 u2 u3 u4 u5 u6 u7 u8 t1 t2 t3 t4:Tok} (B:B P w K mg br aG aC aP tE tM tN tF u1 u2 u3 u4 u5 u6 u7 u8 t1 t2 t3 t4) (bg:Callee P w K mg base "check_note" 5 ["thing"] (lJ K)) (fj:Callee P w K mg base "check_stretch" 4 ["low","high"] vh) (nW:Callee P w K mg base "cut" 1 ["note","low","high"] (Dg K)):aL P w K mg base dF 6 f fd ["note","low","high"] (yE K):=by
  refine F.fM OI (fun vs H Q E h=>?_) (fun cJ A outer s H vs Q E hr h=>?_)
  · obtain ⟨v,e,lo,hi,rfl,_⟩:=h
    rfl
  obtain ⟨v,e,lo,hi,rfl,hN,ok,l0,lh,h1,q1,q2⟩:=h
  refine ⟨_,(aE (iT (aI bg (hr.mono (by decide)) rfl (af (ev 0) az)))
      (aE (iT (aI fj (hr.mono (by decide)) rfl (af (ev 1) (af (ev 2) az))))
      (aK (aU (aI nW (hr.mono (by decide)) rfl (af (ev 0) (af (ev 1) (af (ev 2) az)))))))),?_⟩
  try walk_at "rn"
  refine ⟨v,e,rfl,hN,ok,fun H1 x1=>?_⟩
  try walk_at "rn"
  refine ⟨lo,hi,rfl,l0,lh,h1,?_⟩
  try walk_at "rn"
  exact ⟨v,e,lo,hi,rfl,hN.ext x1,fun c b H' hb x=>q1 c b H' hb (x1.trans x),fun c=>q2 c _ x1⟩
end
section
variable {P:Program} {w:World} {K:PySem.W.Frag} {mg:Str→Option Value} {base:Heap}
theorem aaV:oV none=.eO:=rfl
theorem aaW {i:Int}:oV (some i)=.int i:=rfl
theorem _root_.L2.Ext.Ox {K:PySem.W.Frag} {H H':Hp} {D:Addr} (x:Ext K H H') (h:H' D=none):H D=none:=by
  cases e:H D with
  | none=>rfl
  | some o=>rw [x.at e] at h;cases h
abbrev Tr:=List (V×Nt)
def cG (K:PySem.W.Frag) (H:Hp) (L:Tr):Prop:=∀ q∈L,cM K H q.1 q.2∧q.2.ok
theorem cG.ext {K:PySem.W.Frag} {H H':Hp} {L:Tr} (h:cG K H L) (x:Ext K H H'):cG K H' L:=fun q hq=>⟨(h q hq).1.ext x,(h q hq).2⟩
theorem cG.kp {K:PySem.W.Frag} {H H':Hp} {L:Tr} {p:Addr} {xs:List V} (h:cG K H L) (k:Kp K p H H') (hp:H p=some (.lst xs)):cG K H' L:=fun q hq=>⟨(h q hq).1.kp k hp,(h q hq).2⟩
theorem cG.sub {K:PySem.W.Frag} {H:Hp} {L L':Tr} (h:cG K H L) (s:∀ q∈L',q∈L):cG K H L':=fun q hq=>h q (s q hq)
theorem cG.app {K:PySem.W.Frag} {H:Hp} {L L':Tr} (h:cG K H L) (h':cG K H L'):cG K H (L++L'):=fun q hq=>(List.mem_append.mp hq).elim (h q) (h' q)
abbrev Tr.v (L:Tr):List V:=L.map (·.1)
def Il (at_:Option Int) (n:Int):Bool:=match at_ with | none=>true | some w=>decide (n≤w)
def RD (L:Tr) (key:Int) (at_:Option Int) (v:Option Int):Option Int:=(L.filter fun q=>q.2.has key&&Il at_ q.2.n).foldl (fun v q=>Gf q.2.t q.2.m v) v
theorem JN {K:PySem.W.Frag} {c D:Addr} {L:Tr} {f:V×Nt→Bool} {tt:TT} {v0:Option V} {rest:St} {H:Hp} {Q:Hp→Prop} (hk:fE K H c L.v) (UI:∀ H',Ext K H H'→fE K H' c L.v) (nD:new K H D) (hz:L.length≤1000)
    (test:∀ q∈L,∀ H' (Q:Bool→Hp→Prop),Ext K H H'→(∀ H'',Ext K H' H''→Q (f q) H'')→tt (some q.1::rest) H' Q)
    (fin:∀ H',H' D=some (.lst (Tr.v (L.filter f)))→Ext K H H'→Q H'):iy (GU K c) (cY 0) tt (jy 0) D Q (v0::rest) (upd H D (.lst [])):=by
  refine vZ (xs:=L.v) (fun i acc σ' H'=>∃ (v0:Option V),σ'=v0::rest∧H' D=some (.lst acc)∧acc=Tr.v ((L.take i).filter f)∧Kp K D (upd H D (.lst [])) H') ?_ ?_ ?_ ?_
  · exact ⟨_,rfl,av,rfl,Kp.refl⟩
  · rintro i acc σ' H' _ ⟨v0,rfl,hD,rfl,k⟩
    exact UI H' (k.ext nD)
  · rintro i x acc σ' H' hx ⟨v0,rfl,hD,rfl,k⟩
    rw [List.getElem?_map] at hx
    obtain ⟨q,ek,rfl⟩:=Option.map_eq_some_iff.mp hx
    have et:L.take (i + 1)=L.take i++[q]:=by rw [List.take_add_one,ek];rfl
    have hlen:((L.take i).filter f).length≤1000:=Nat.le_trans (List.length_filter_le _ _) (by rw [List.length_take];omega)
    refine test q (List.mem_of_getElem? ek) H' _ (k.ext nD) fun H5 x5=>?_
    have hD5:=x5.at hD
    cases ci:f q with
    | true=>
      refine KR ⟨q.1,rfl,hD5,by rw [List.length_map];exact Nat.lt_of_le_of_lt hlen (by decide),_,rfl,av,by rw [et,List.filter_append,List.filter_cons_of_pos ci];simp [Tr.v],k.trans (x5.kp.trans (Kp.upd hD5))⟩
    | false=>
      exact L6 ⟨_,rfl,hD5,by rw [et,List.filter_append,List.filter_cons_of_neg (by rw [ci];decide),List.filter_nil,List.append_nil],k.trans x5.kp⟩
  · rintro acc σ' H' ⟨v0,rfl,hD,rfl,k⟩
    rw [List.length_map,List.take_length] at hD
    exact fin H' hD (k.ext nD)
def Im (K:PySem.W.Frag):Sp:=fun vs H Q _=>∃ (r:Addr) (L:Tr) (at_:Option Int),vs=[.ref r,oV at_]∧H r=some (.lst L.v)∧cG K H L∧L.length≤1000∧∀ (D:Addr) H',H' D=some (.lst (Tr.v (L.filter fun q=>Il at_ q.2.n)))→Ext K H H'→Q (.ref D) H'
def vm (K:PySem.W.Frag):Sp:=fun vs H Q _=>∃ (r:Addr) (L:Tr) (key:Int),vs=[.ref r,.int key]∧H r=some (.lst L.v)∧cG K H L∧L.length≤1000∧∀ (D:Addr) H',H' D=some (.lst (Tr.v (L.filter fun q=>q.2.has key)))→Ext K H H'→Q (.ref D) H'
def yF (K:PySem.W.Frag):Sp:=fun vs H Q _=>∃ (r:Addr) (L:Tr) (key:Int) (val at_:Option Int),vs=[.ref r,.int key,oV val,oV at_]∧H r=some (.lst L.v)∧cG K H L∧L.length≤1000∧∀ H',Ext K H H'→Q (oV (RD L key at_ val)) H'
theorem MJ:ay ["tray","at"] ["tray","at"] (aa tK):=⟨rfl,rfl,rfl,by decide +kernel,rfl,by decide +kernel,by decide +kernel⟩
theorem MK {f:Addr} {fd:FuncData} (F:fc K "up_to" "up_to" tK f fd) {br aG aC aP:Addr} {tE tM tN tF u1 u2 u3 u4 u5 u6 u7 u8 t1 t2 t3 t4:Tok} (B:B P w K mg br aG aC aP tE tM tN tF u1 u2 u3 u4 u5 u6 u7 u8 t1 t2 t3 t4):aL P w K mg base dF 1 f fd ["tray","at"] (Im K):=by
  refine F.fM MJ (fun vs H Q E h=>?_) (fun cJ A outer s H vs Q E hr h=>?_)
  · obtain ⟨r,L,at_,rfl,_⟩:=h
    rfl
  obtain ⟨r,L,at_,rfl,hr0,hT,hz,q⟩:=h
  refine ⟨_,(aK (aU (Ri (vY.mk (N:=["note","at"]) (src:=[none,some 1]) rfl rfl) rfl (qR (ev 0)) (fun _ _ _ _=>(bG (i:=0) (show (["note","at"]:List Str).Nodup from by decide +kernel) rfl (Or.inl rfl))) (fun _ _ _ _=>(Mm (tw (B4 (eV Dy (ev 1) uX (aO _)) (rC (eV vL (ko (Mr K) (ev 0) ei (fun _ _=>rfl)) (ev 1) (aO _))))))) (fun _ _ _ _=>(ev 0))))),?_⟩
  try walk_at "rn"
  refine ⟨⟨_,fE.of hr0⟩,fun D nD=>?_⟩
  refine JN (f:=fun q=>Il at_ q.2.n) (fE.of hr0) (fun H' x=>fE.of (x.at hr0)) nD hz (fun n hn H' Q' xx qq=>?_) (fun H' hD xD=>q D H' hD xD)
  obtain ⟨a,w,e1,e2,e3⟩:=((hT.ext xx) n hn).1
  have qk:=qq _ Ext.refl
  cases at_ with
  | none=>
    simp_arith [aaV]
    exact qk
  | some m=>
    simp_arith [aaW,reduceCtorEq]
    rw [e1]
    simp_arith [dw e2]
    exact qk
theorem Gj:ay ["tray","key"] ["tray","key"] (aa kF):=⟨rfl,rfl,rfl,by decide +kernel,rfl,by decide +kernel,by decide +kernel⟩
theorem Gk {f:Addr} {fd:FuncData} (F:fc K "touching" "touching" kF f fd) {br aG aC aP:Addr} {tE tM tN tF u1 u2 u3 u4 u5 u6 u7 u8 t1 t2 t3 t4:Tok} (B:B P w K mg br aG aC aP tE tM tN tF u1 u2 u3 u4 u5 u6 u7 u8 t1 t2 t3 t4) (g9:Callee P w K mg base "has_key" 1 ["note","key"] (wo K)):aL P w K mg base dF 2 f fd ["tray","key"] (vm K):=by
  refine F.fM Gj (fun vs H Q E h=>?_) (fun cJ A outer s H vs Q E hr h=>?_)
  · obtain ⟨r,L,key,rfl,_⟩:=h
    rfl
  obtain ⟨r,L,key,rfl,hr0,hT,hz,q⟩:=h
  refine ⟨_,(aK (aU (Ri (vY.mk (N:=["note","key"]) (src:=[none,some 1]) rfl rfl) rfl (qR (ev 0)) (fun _ _ _ _=>(bG (i:=0) (show (["note","key"]:List Str).Nodup from by decide +kernel) rfl (Or.inl rfl))) (fun _ _ _ _=>(Mm (j4 (aI g9 (hr.mono (by decide)) rfl (af (ev 0) (af (ev 1) az)))))) (fun _ _ _ _=>(ev 0))))),?_⟩
  try walk_at "rn"
  refine ⟨⟨_,fE.of hr0⟩,fun D nD=>?_⟩
  refine JN (f:=fun q=>q.2.has key) (fE.of hr0) (fun H' x=>fE.of (x.at hr0)) nD hz (fun n hn H' Q' xx qq=>?_) (fun H' hD xD=>q D H' hD xD)
  try walk_at "rn"
  exact ⟨n.1,n.2,key,rfl,((hT.ext xx) n hn).1,⟨_,rfl,qq _ Ext.refl⟩⟩
theorem Ei:ay ["tray","key","value","at","note"] ["tray","key","value","at"] (aa lT):=⟨rfl,rfl,rfl,by decide +kernel,rfl,by decide +kernel,by decide +kernel⟩
theorem Ej {f:Addr} {fd:FuncData} (F:fc K "seen" "seen" lT f fd) {br aG aC aP:Addr} {tE tM tN tF u1 u2 u3 u4 u5 u6 u7 u8 t1 t2 t3 t4:Tok} (B:B P w K mg br aG aC aP tE tM tN tF u1 u2 u3 u4 u5 u6 u7 u8 t1 t2 t3 t4) (nX:Callee P w K mg base "up_to" 1 ["tray","at"] (Im K)) (iA:Callee P w K mg base "touching" 2 ["tray","key"] (vm K)) (jE:Callee P w K mg base "does" 2 ["action","value"] (D9 K)):aL P w K mg base dF 3 f fd ["tray","key","value","at"] (yF K):=by
  refine F.fM Ei (fun vs H Q E h=>?_) (fun cJ A outer s H vs Q E hr h=>?_)
  · obtain ⟨r,L,key,val,at_,rfl,_⟩:=h
    rfl
  obtain ⟨r,L,key,val,at_,rfl,hr0,hT,hz,q⟩:=h
  refine ⟨_,(aE (Og PassesOwn.never rfl (qR (aI iA (hr.mono (by decide)) rfl (af (aI nX (hr.mono (by decide)) rfl (af (ev 0) (af (ev 3) az))) (af (ev 1) az)))) (bG (i:=4) Ei.nd rfl (Or.inl rfl))
        (aK (sset (i:=2) Ei.nd rfl (Or.inl rfl) (aI jE (hr.mono (by decide)) rfl (af (ko ez (ev 4) ei (fun _ _=>rfl)) (af (ev 2) az))))))
      (aK (aU (ev 2)))),?_⟩
  try walk_at "rn"
  refine ⟨r,L,at_,rfl,hr0,hT,hz,fun D1 H1 hD1 x1=>?_⟩
  try walk_at "rn"
  have T1:cG K H1 (L.filter fun q=>Il at_ q.2.n):=(hT.ext x1).sub fun q hq=>(List.mem_filter.mp hq).1
  refine ⟨D1,_,key,rfl,hD1,T1,Nat.le_trans (List.length_filter_le _ _) hz,fun D2 H2 B5 x2=>?_⟩
  rw [List.filter_filter] at B5
  try walk_at "rn"
  refine ⟨⟨_,fE.of B5⟩,?_⟩
  have T2:cG K H2 (L.filter fun q=>q.2.has key&&Il at_ q.2.n):=(hT.ext (x1.trans x2)).sub fun q hq=>(List.mem_filter.mp hq).1
  have eS:RD L key at_ val=(L.filter fun q=>q.2.has key&&Il at_ q.2.n).foldl (fun v q=>Gf q.2.t q.2.m v) val:=rfl
  rw [eS] at q
  generalize (L.filter fun q=>q.2.has key&&Il at_ q.2.n)=M at B5 T2 q
  obtain ⟨Pv,eP⟩:∃ Pv:Nat→St→Hp→Prop,Pv=fun i σ' H'=>∃ (v4:Option V),σ'=[some (.ref r),some (.int key),some (oV ((M.take i).foldl (fun v q=>Gf q.2.t q.2.m v) val)),some (oV at_),v4]∧H'=H2:=⟨_,rfl⟩
  refine tH (xs:=Tr.v M) Pv ?_ ?_ ?_ ?_
  · rw [eP]
    exact ⟨_,rfl,rfl⟩
  · intro i σ' H' _ h
    rw [eP] at h
    obtain ⟨_,_,rfl⟩:=h
    exact fE.of B5
  · intro i x σ' H' hx h
    rw [eP] at h
    obtain ⟨v4,rfl,rfl⟩:=h
    rw [List.getElem?_map] at hx
    obtain ⟨m,em,rfl⟩:=Option.map_eq_some_iff.mp hx
    obtain ⟨⟨a,w,e1,e2,e3⟩,_⟩:=T2 m (List.mem_of_getElem? em)
    rw [e1]
    simp_arith [dw e2]
    refine ⟨w,_,_,_,rfl,e3,?_⟩
    rw [eP]
    refine ⟨some (.ref a),?_,rfl⟩
    rw [List.take_add_one,em,Option.toList_some,List.foldl_append]
    rfl
  intro σ' H' h
  rw [eP] at h
  obtain ⟨v4,rfl,rfl⟩:=h
  try walk_at "rn"
  rw [List.length_map,List.take_length]
  exact q _ (x1.trans x2)
def Nt.d (e:Nt):PyData:=.tuple [.int e.n,.int e.lo,.int e.hi,Gg e.t e.m]
theorem cM.is {K:PySem.W.Frag} {H:Hp} {v:V} {e:Nt} (h:cM K H v e):Is K H e.d v:=by
  obtain ⟨a,w,rfl,h1,h2⟩:=h
  simp only [Nt.d,Is,cZ]
  exact ⟨a,_,rfl,cD h1,_,_,rfl,rfl,_,_,rfl,rfl,_,_,rfl,rfl,_,_,rfl,h2.is,rfl⟩
theorem Nt.shaped (e:Nt):SeqAt.shaped e.d=true:=by
  obtain ⟨n,lo,hi,t,m⟩:=e
  cases t <;> cases m <;> simp only [SeqAt.shaped,Nt.d,Gg,aR.d,PyData.canLay0,PyData.canLayAll0,PyData.depth,PyData.depthAll] <;> decide +kernel
theorem Nt.Hx (e:Nt):L2.Hx e.d=true:=by simp [Nt.d,L2.Hx,uY,OF]
theorem Nt.same (e:Nt):PyData.eqv e.d e.d=true:=(Jq e.Hx e.Hx).mpr rfl
theorem OJ {α:Type} {K:PySem.W.Frag} {c D:Addr} {L:List α} {f g:α→V} {te:TE} {v0:Option V} {rest:St} {H:Hp} {Q:Hp→Prop} (hk:H c=some (.lst (L.map f))) (nD:new K H D) (hz:L.length≤1000)
    (elt:∀ q∈L,∀ H' (Q:VK),Ext K H H'→Q (g q) H'→te (some (f q)::rest) H' Q)
    (fin:∀ H',H' D=some (.lst (L.map g))→Ext K H H'→Q H'):iy (GU K c) (cY 0) iU te D Q (v0::rest) (upd H D (.lst [])):=by
  refine vZ (xs:=L.map f) (fun i acc σ' H'=>∃ (v0:Option V),σ'=v0::rest∧H' D=some (.lst acc)∧acc=(L.take i).map g∧Kp K D (upd H D (.lst [])) H') ?_ ?_ ?_ ?_
  · exact ⟨_,rfl,av,rfl,Kp.refl⟩
  · rintro i acc σ' H' _ ⟨v0,rfl,hD,rfl,k⟩
    exact fE.of ((k.ext nD).at hk)
  · rintro i x acc σ' H' hx ⟨v0,rfl,hD,rfl,k⟩
    rw [List.getElem?_map] at hx
    obtain ⟨q,ek,rfl⟩:=Option.map_eq_some_iff.mp hx
    have hlen:((L.take i).map g).length≤1000:=by rw [List.length_map,List.length_take];omega
    unfold cY iU
    refine KR ?_
    refine elt q (List.mem_of_getElem? ek) H' _ (k.ext nD) ⟨hD,Nat.lt_of_le_of_lt hlen (by decide),_,rfl,av,?_,k.trans (Kp.upd hD)⟩
    rw [List.take_add_one,ek,Option.toList_some,List.map_append]
    rfl
  · rintro acc σ' H' ⟨v0,rfl,hD,rfl,k⟩
    rw [List.length_map,List.take_length] at hD
    exact fin H' hD (k.ext nD)
abbrev Tr.ns (L:Tr):List Nt:=L.map (·.2)
def Di (ns:List Nt) (e:Nt) (i:Nat):Bool:=match ns[i]? with | some q=>q.Qi e | none=>false
def Qj (ns:List Nt) (e:Nt) (i:Nat):List Nat:=(List.range i).filter (Di ns e)
def A5 (ns:List Nt) (e:Nt):Option Nat:=(Qj ns e ns.length).getLast?
def iV (i:Nat):V:=.int i
theorem ML (ns:List Nt) (e:Nt) (i:Nat):Qj ns e (i + 1)=Qj ns e i++(if Di ns e i=true then [i] else []):=by
  unfold Qj
  rw [List.range_succ,List.filter_append]
  cases c:Di ns e i <;> simp [c]
theorem OL (ns:List Nt) (e:Nt) (i:Nat):(Qj ns e i).length≤i:=Nat.le_trans (List.length_filter_le _ _) (by rw [List.length_range];exact Nat.le_refl _)
def Io (K:PySem.W.Frag):Sp:=fun vs H Q _=>∃ (r:Addr) (L:Tr) (v:V) (e:Nt),vs=[.ref r,v]∧H r=some (.lst L.v)∧cG K H L∧cM K H v e∧L.length≤100∧
  ∀ H',Ext K H H'→Q (match A5 L.ns e with | some i=>.int i | none=>.eO) H'
theorem qS:ay ["tray","note","places"] ["tray","note"] (aa fT):=⟨rfl,rfl,rfl,by decide +kernel,rfl,by decide +kernel,by decide +kernel⟩
theorem zS {f:Addr} {fd:FuncData} (F:fc K "last_sharing" "last_sharing" fT f fd) {br aG aC aP:Addr} {tE tM tN tF u1 u2 u3 u4 u5 u6 u7 u8 t1 t2 t3 t4:Tok} (B:B P w K mg br aG aC aP tE tM tN tF u1 u2 u3 u4 u5 u6 u7 u8 t1 t2 t3 t4) (dg:Callee P w K mg base "have_common" 1 ["note","other"] (wu K)):aL P w K mg base dF 2 f fd ["tray","note"] (Io K):=by
  refine F.fM qS (fun vs H Q E h=>?_) (fun cJ A outer s H vs Q E hr h=>?_)
  · obtain ⟨r,L,v,e,rfl,_⟩:=h
    rfl
  obtain ⟨r,L,v,e,rfl,hr0,hT,hN,hz,q⟩:=h
  refine ⟨_,(aE (slc (i:=2) qS.nd rfl (Or.inl rfl) (vY.mk (N:=["place","other","note"]) (src:=[none,none,some 1]) rfl rfl) rfl (Uz rfl B.enumerate (af (ev 0) az)) (fun _ _ _ _=>(Ms K (n:=2) rfl (cK (bG (i:=0) (show (["place","other","note"]:List Str).Nodup from by decide +kernel) rfl (Or.inl rfl)) (cK (bG (i:=1) (show (["place","other","note"]:List Str).Nodup from by decide +kernel) rfl (Or.inl rfl)) pG)))) (fun _ _ _ _=>(Mm (j4 (aI dg (hr.mono (by decide)) rfl (af (ev 1) (af (ev 2) az)))))) (fun _ _ _ _=>(ev 0)))
      (aK (aU (Ul (Mb (ev 2) (fun _=>rfl)) (ko ez (ev 2) (eun LP ei) (fun _ _=>rfl)) uX)))),?_⟩
  try walk_at "rn"
  refine ⟨⟨_,fE.of hr0⟩,fun D nD=>?_⟩
  obtain ⟨Pv,eP⟩:∃ Pv:Nat→List V→St→Hp→Prop,Pv=fun i acc σ' H'=>∃ (v0 v1:Option V),σ'=[v0,v1,some v]∧H' D=some (.lst acc)∧acc=(Qj L.ns e i).map iV∧Kp K D (upd H D (.lst [])) H':=⟨_,rfl⟩
  refine Ov (xs:=Tr.v L) Pv ?_ ?_ ?_ ?_
  · rw [eP]
    exact ⟨_,_,rfl,av,rfl,Kp.refl⟩
  · intro i acc σ' H' _ h
    rw [eP] at h
    obtain ⟨v0,v1,rfl,hD,rfl,k⟩:=h
    exact fE.of ((k.ext nD).at hr0)
  · intro i x acc σ' H' T hx h nT
    rw [eP] at h
    obtain ⟨v0,v1,rfl,hD,rfl,k⟩:=h
    rw [List.getElem?_map] at hx
    obtain ⟨m,em,rfl⟩:=Option.map_eq_some_iff.mp hx
    have hi:i < L.length:=(List.getElem?_eq_some_iff.mp em).1
    have xT:=Ext.new (K:=K) (o:=.tup [.int i,m.1]) nT
    have xx:=(k.ext nD).trans xT
    have tT:tupQ K (upd H' T (.tup [.int i,m.1])) T=some [.int i,m.1]:=ao
    have Qk:=xT.at hD
    have kD:=k.trans xT.kp
    have cm:Di L.ns e i=m.2.Qi e:=by unfold Di;rw [Tr.ns,List.getElem?_map,em];rfl
    have lp:=OL L.ns e i
    generalize upd H' T (.tup [.int i,m.1])=G at xx tT Qk kD ⊢
    simp_arith [tT]
    refine ⟨m.1,m.2,v,e,rfl,(hT.ext xx m (List.mem_of_getElem? em)).1,hN.ext xx,⟨_,rfl,?_⟩⟩
    have pl:=ML L.ns e i
    rw [cm] at pl
    refine B8 (fun c=>?_) (fun c=>?_)
    · rw [if_pos c] at pl
      rw [eP]
      exact ⟨Qk,by rw [List.length_map];omega,_,_,rfl,av,by rw [pl,List.map_append];rfl,kD.trans (Kp.upd Qk)⟩
    · rw [if_neg c,List.append_nil] at pl
      rw [eP]
      exact ⟨_,_,rfl,Qk,by rw [pl],kD⟩
  intro acc σ' H1 h
  rw [eP] at h
  clear eP
  obtain ⟨v0,v1,rfl,hD,rfl,k⟩:=h
  have x1:=k.ext nD
  rw [List.length_map,show L.length=L.ns.length by rw [List.length_map]] at hD
  try walk_at "rn"
  refine ⟨_,.inl ⟨_,fE.of hD,rfl⟩,?_⟩
  have q1:=q H1 x1
  unfold A5 at q1
  generalize Qj L.ns e L.ns.length=ps at hD q1
  cases ps with
  | nil=>exact aS (by simp) q1
  | cons a ps=>
    refine gS (by simp) ?_
    rw [mX hD]
    have lt:(a::ps).length - 1 < (a::ps).length:=by simp
    refine ⟨_,rfl,_,K0 (by simp),?_⟩
    rw [List.getLast?_eq_getElem?,List.getElem?_eq_getElem lt] at q1
    simp only [List.length_map,List.getElem_map] at q1 ⊢
    exact q1
def Ip (e e':Nt) (ms:List Int):Bool:=decide (e.lo=e'.lo∧e.hi=e'.hi)&&!(ms.any fun m=>decide (e.n≤m∧m < e'.n))
def MM (K:PySem.W.Frag):Sp:=fun vs H Q _=>∃ (v:V) (e:Nt) (v':V) (e':Nt) (m:Addr) (ms:List Int),vs=[v,v',.ref m]∧cM K H v e∧cM K H v' e'∧H m=some (.lst (ms.map V.int))∧ms.length≤100∧∀ H',Ext K H H'→Q (.bl (Ip e e' ms)) H'
theorem Gm:ay ["elder","note","marks"] ["elder","note","marks"] (aa kH):=⟨rfl,rfl,rfl,by decide +kernel,rfl,by decide +kernel,by decide +kernel⟩
theorem Gn {f:Addr} {fd:FuncData} (F:fc K "may_join" "may_join" kH f fd) {br aG aC aP:Addr} {tE tM tN tF u1 u2 u3 u4 u5 u6 u7 u8 t1 t2 t3 t4:Tok} (B:B P w K mg br aG aC aP tE tM tN tF u1 u2 u3 u4 u5 u6 u7 u8 t1 t2 t3 t4):aL P w K mg base dF 1 f fd ["elder","note","marks"] (MM K):=by
  refine F.fM Gm (fun vs H Q E h=>?_) (fun cJ A outer s H vs Q E hr h=>?_)
  · obtain ⟨v,e,v',e',m,ms,rfl,_⟩:=h
    rfl
  obtain ⟨v,e,v',e',m,ms,rfl,⟨a,w,rfl,ha,hA⟩,⟨a',w',rfl,ha',hA'⟩,hm,lm,q⟩:=h
  refine ⟨_,(aE (nQ (tw (B4 (eV pD (ko ez (ev 0) ei (fun _ _=>rfl)) (ko ez (ev 1) ei (fun _ _=>rfl)) (aO _)) (rC (eV pD (ko ez (ev 0) ei (fun _ _=>rfl)) (ko ez (ev 1) ei (fun _ _=>rfl)) (aO _))))) (aK (aU yj)) fq)
      (aK (aU (Uk (dH (K5 rfl) rfl B.any Rc (af (Ri (vY.mk (N:=["mark","elder","note"]) (src:=[none,some 0,some 1]) rfl rfl) rfl (qR (ev 2)) (fun _ _ _ _=>(bG (i:=0) (show (["mark","elder","note"]:List Str).Nodup from by decide +kernel) rfl (Or.inl rfl))) (fun _ _ _ _=>AJ) (fun _ _ _ _=>(AH vL za (ko (Mr K) (ev 1) ei (fun _ _=>rfl)) (ev 0) (ko (Mr K) (ev 2) ei (fun _ _=>rfl))))) az)))))),?_⟩
  simp_arith [dw ha,dw ha']
  have no:¬ (e.lo=e'.lo∧e.hi=e'.hi)→Q (.bl false) H:=fun c=>by
    have q1:=q H Ext.refl
    unfold Ip at q1
    rw [decide_eq_false c] at q1
    exact q1
  refine B8 (fun c=>no ?_) (fun c=>B8 (fun c2=>no ?_) (fun c2=>?_))
  · intro z
    simp [z.1] at c
  · intro z
    simp [z.2] at c2
  have c3:e.lo=e'.lo∧e.hi=e'.hi:=⟨by simpa using c,by simpa using c2⟩
  refine ⟨⟨_,fE.of hm⟩,fun D nD=>?_⟩
  refine OJ (f:=V.int) (g:=fun k=>V.bl (decide (e.n≤k∧k < e'.n))) hm nD (by omega) (fun k hk H' Q' xx qq=>?_) (fun H1 hD1 x1=>?_)
  · simp_arith [dw (xx.tup ha),dw (xx.tup ha')]
    refine B8 (fun c=>?_) (fun c=>?_)
    · rw [show decide (e.n≤k∧k < e'.n)=decide (k < e'.n) by simp [c]] at qq
      exact qq
    · rw [show decide (e.n≤k∧k < e'.n)=false by simp [c]] at qq
      exact qq
  refine ⟨ms.map fun k=>decide (e.n≤k∧k < e'.n),?_,?_⟩
  · rw [List.map_map]
    exact fE.of hD1
  have q1:=q H1 x1
  unfold Ip at q1
  rw [decide_eq_true c3,Bool.true_and] at q1
  rw [List.any_map]
  exact q1
def MO (el e:Nt):Nt:=⟨e.n,e.lo,e.hi,el.t.then e.t e.m,el.m.then e.t e.m⟩
def A6 (ns:List Nt) (e:Nt) (ms:List Int):List Nt:=match A5 ns e with
  | none=>ns++[e]
  | some p=>match ns[p]? with
    | none=>ns++[e]
    | some el=>if Ip el e ms=true then ns.eraseIdx p++[MO el e] else ns++[e]
theorem Lm {ns:List Nt} {e:Nt} {p:Nat} (h:A5 ns e=some p):p < ns.length∧Di ns e p=true:=by
  have m:=List.mem_of_getLast? h
  unfold Qj at m
  obtain ⟨m1,m2⟩:=List.mem_filter.mp m
  exact ⟨List.mem_range.mp m1,m2⟩
theorem OM {el e:Nt} (h:el.ok) (h':e.ok) (c:el.lo=e.lo∧el.hi=e.hi):(MO el e).ok:=by
  refine ⟨h'.n1,h'.lo0,h'.lt,h'.Rn,?_,aR.zh _ _ h.np⟩
  rcases h'.one with z | z
  · exact .inl z
  · rcases h.one with y | y
    · left
      show e.hi - e.lo=1
      omega
    · right
      show el.m.then e.t e.m=.gone
      rw [y,z]
      rfl
theorem Ln {el e:Nt} {ms:List Int} (h:Ip el e ms=true):el.lo=e.lo∧el.hi=e.hi:=by
  unfold Ip at h
  simp only [Bool.and_eq_true,decide_eq_true_eq] at h
  exact h.1
def yG (K:PySem.W.Frag):Sp:=fun vs H Q _=>∃ (r:Addr) (L:Tr) (v:V) (e:Nt) (m:Addr) (ms:List Int),vs=[.ref r,v,.ref m]∧H r=some (.lst L.v)∧cG K H L∧cM K H v e∧e.ok∧L.length≤100∧H m=some (.lst (ms.map V.int))∧ms.length≤100∧
  ∀ (D:Addr) (M:Tr) H',H D=none→H' D=some (.lst M.v)→cG K H' M→M.ns=A6 L.ns e ms→M.length≤L.length + 1→Ext K H H'→Q (.ref D) H'
theorem A7 {K:PySem.W.Frag} {H:Hp} {L:Tr} {v:V} {e:Nt} (h:cG K H L) (hN:cM K H v e) (ok:e.ok):cG K H (L++[(v,e)]):=cG.app h fun q hq=>by
  have eq:q=(v,e):=by simpa using hq
  subst eq
  exact ⟨hN,ok⟩
theorem ql:ay ["tray","note","marks","place","number","low","high","action","both"] ["tray","note","marks"] (aa yr):=⟨rfl,rfl,rfl,by decide +kernel,rfl,by decide +kernel,by decide +kernel⟩
theorem JP {f:Addr} {fd:FuncData} (F:fc K "laid" "laid" yr f fd) {br aG aC aP:Addr} {tE tM tN tF u1 u2 u3 u4 u5 u6 u7 u8 t1 t2 t3 t4:Tok} (B:B P w K mg br aG aC aP tE tM tN tF u1 u2 u3 u4 u5 u6 u7 u8 t1 t2 t3 t4) (gb:Callee P w K mg base "last_sharing" 2 ["tray","note"] (Io K)) (kO:Callee P w K mg base "may_join" 1 ["elder","note","marks"] (MM K)) (gU:Callee P w K mg base "joined" 2 ["one","other"] (jD K)):aL P w K mg base dF 3 f fd ["tray","note","marks"] (yG K):=by
  refine F.fM ql (fun vs H Q E h=>?_) (fun cJ A outer s H vs Q E hr h=>?_)
  · obtain ⟨r,L,v,e,m,ms,rfl,_⟩:=h
    rfl
  obtain ⟨r,L,v,e,m,ms,rfl,hr0,hT,hN,ok,hz,hm,lm,q⟩:=h
  refine ⟨_,(aE (sset (i:=3) ql.nd rfl (Or.inl rfl) (aI gb (hr.mono (by decide)) rfl (af (ev 0) (af (ev 1) az))))
      (aE (nQ (tw (B4 (eV Dy (ev 3) uX (aO _)) (rC (lF (j4 (aI kO (hr.mono (by decide)) rfl (af (ko ez (ev 0) (ev 3) (fun _ _=>rfl)) (af (ev 1) (af (ev 2) az))))))))) (aK (aU (nL vU (ev 0) (ua (af (ev 1) az))))) fq)
      (aE (qc (ev 1) (kc (n:=4) rfl (cK (bG (i:=4) ql.nd rfl (Or.inl rfl)) (cK (bG (i:=5) ql.nd rfl (Or.inl rfl)) (cK (bG (i:=6) ql.nd rfl (Or.inl rfl)) (cK (bG (i:=7) ql.nd rfl (Or.inl rfl)) pG))))))
      (aE (sset (i:=8) ql.nd rfl (Or.inl rfl) (bU (af (ev 4) (af (ev 5) (af (ev 6) (af (aI gU (hr.mono (by decide)) rfl (af (ko ez (ko ez (ev 0) (ev 3) (fun _ _=>rfl)) ei (fun _ _=>rfl)) (af (ev 7) az))) az))))))
      (aK (aU (nL vU (nL vU (Hw AI (ev 0) Mc (Me (ev 3))) (Hw AI (ev 0) (Me (nL ie (ev 3) ei)) Mc)) (ua (af (ev 8) az))))))))),?_⟩
  try walk_at "rn"
  refine ⟨r,L,v,e,rfl,hr0,hT,hN,hz,fun H1 x1=>?_⟩
  have plain:∀ H2,Ext K H H2→A6 L.ns e ms=L.ns++[e]→∀ b,new K H2 b→∃ xs,(upd H2 b (.lst [v])) r=some (.lst xs)∧xs.length≤16777215∧∀ b2,new K (upd H2 b (.lst [v])) b2→Q (.ref b2) (upd (upd H2 b (.lst [v])) b2 (.lst (xs++[v]))):=by
    intro H2 x2 e2 b nw
    have x3:=x2.trans (Ext.new (K:=K) (o:=.lst [v]) nw)
    refine ⟨_,x3.at hr0,by rw [List.length_map];omega,fun b2 nb2=>?_⟩
    have x4:=x3.trans (Ext.new (K:=K) (o:=.lst (L.v++[v])) nb2)
    exact q b2 (L++[(v,e)]) _ (x3.Ox nb2.1) (by rw [av];simp [Tr.v]) (A7 (hT.ext x4) (hN.ext x4) ok) (by rw [e2,Tr.ns,List.map_append];rfl) (by rw [List.length_append];exact Nat.le_refl _) x4
  cases c:A5 L.ns e with
  | none=>
    simp_arith [eq_self]
    exact plain H1 x1 (by unfold A6;rw [c])
  | some p=>
    obtain ⟨pl,pc⟩:=Lm c
    rw [List.length_map] at pl
    have mp:L[p]∈L:=List.getElem_mem pl
    have elp:L.ns[p]?=some L[p].2:=by rw [Tr.ns,List.getElem?_map,List.getElem?_eq_getElem pl];rfl
    have avp:DG L.v (p:Int)=some L[p].1:=tG (by rw [List.getElem?_map,List.getElem?_eq_getElem pl];rfl)
    simp_arith [reduceCtorEq,mX (x1.at hr0)]
    refine ⟨_,avp,⟨L[p].1,L[p].2,v,e,m,ms,rfl,(hT.ext x1 _ mp).1,hN.ext x1,x1.at hm,lm,fun H2 x2=>⟨_,rfl,?_⟩⟩⟩
    have Lo:=x1.trans x2
    by_cases cj:Ip L[p].2 e ms=true
    · rw [cj]
      obtain ⟨a,w,ev,ha,hA⟩:=hN.ext Lo
      obtain ⟨a0,w0,e0,ha0,hA0⟩:=(hT.ext Lo _ mp).1
      rw [ev]
      simp_arith [ha,mX (Lo.at hr0)]
      refine ⟨_,avp,a0,e0,?_⟩
      simp_arith [dw ha0]
      refine ⟨w0,_,_,w,_,_,rfl,hA0,hA,fun u H3 hu x3=>?_⟩
      have Fy:=Lo.trans x3
      try walk_at "rn"
      intro b1 n1
      have y1:=Ext.new (K:=K) (o:=.tup [.int e.n,.int e.lo,.int e.hi,u]) n1
      have c1:yh L.v none (some (p:Int))=L.v.take p:=Js _ p
      have c2:yh L.v (some ((p:Int) + 1)) none=L.v.drop (p + 1):=by rw [show (p:Int) + 1=((p + 1:Nat):Int) by omega];exact KZ _ _
      refine ⟨L.v,fE.of ((Fy.trans y1).at hr0),?_⟩
      rw [c1]
      intro b2 n2
      have y2:=Ext.new (K:=K) (o:=.lst (L.v.take p)) n2
      refine ⟨L.v,fE.of ((Fy.trans (y1.trans y2)).at hr0),?_⟩
      rw [c2]
      intro b3 n3
      have y3:=Ext.new (K:=K) (o:=.lst (L.v.drop (p + 1))) n3
      have l1:(L.v.take p).length≤100:=by rw [List.length_take,List.length_map];omega
      have l2:(L.v.drop (p + 1)).length≤100:=by rw [List.length_drop,List.length_map];omega
      refine ⟨_,y3.at av,by omega,?_⟩
      intro b4 n4 b5 n5
      have y4:=Ext.new (K:=K) (o:=.lst (L.v.take p++L.v.drop (p + 1))) n4
      have y5:=Ext.new (K:=K) (o:=.lst [.ref b1]) n5
      refine ⟨_,y5.at av,by rw [List.length_append];omega,fun b6 n6=>?_⟩
      have y6:=Ext.new (K:=K) (o:=.lst (L.v.take p++L.v.drop (p + 1)++[.ref b1])) n6
      have y26:=y2.trans (y3.trans (y4.trans (y5.trans y6)))
      have y16:=y1.trans y26
      refine q b6 (L.take p++L.drop (p + 1)++[(.ref b1,MO L[p].2 e)]) _ ((Fy.trans (y1.trans (y2.trans (y3.trans (y4.trans y5))))).Ox n6.1) ?_ ?_ ?_ ?_ (Fy.trans y16)
      · rw [av];simp [Tr.v,List.map_take,List.map_drop]
      · refine A7 ((hT.ext (Fy.trans y16)).sub fun q hq=>?_) ⟨b1,u,rfl,y26.tup ao,hu.ext y16⟩ (OM (hT _ mp).2 ok (Ln cj))
        rcases List.mem_append.mp hq with z | z
        · exact List.mem_of_mem_take z
        · exact List.mem_of_mem_drop z
      · unfold A6
        rw [c]
        dsimp only
        rw [elp]
        dsimp only
        rw [if_pos cj,List.eraseIdx_eq_take_drop_succ,Tr.ns,List.map_append,List.map_append,List.map_take,List.map_drop]
        rfl
      · rw [List.length_append,List.length_append,List.length_take,List.length_drop]
        simp only [List.length_cons,List.length_nil]
        omega
    · rw [Bool.not_eq_true] at cj
      rw [cj]
      try walk_at "rn"
      exact plain H2 Lo (by unfold A6;rw [c];dsimp only;rw [elp];dsimp only;rw [cj];rfl)
def nO (e:Nt) (lo hi:Int):Option Nt:=if mx e.lo lo < mn e.hi hi then some (e.cut lo hi) else none
abbrev Pr:=List (V×Option Nt)
def oB (K:PySem.W.Frag) (H:Hp) (q:V×Option Nt):Prop:=match q.2 with | none=>q.1=.eO | some e=>cM K H q.1 e∧e.ok
def iu (K:PySem.W.Frag) (H:Hp) (L:Pr):Prop:=∀ q∈L,oB K H q
theorem oB.ext {K:PySem.W.Frag} {H H':Hp} {q:V×Option Nt} (h:oB K H q) (x:Ext K H H'):oB K H' q:=by
  obtain ⟨v,o⟩:=q
  cases o with
  | none=>exact h
  | some e=>exact ⟨h.1.ext x,h.2⟩
theorem oB.kp {K:PySem.W.Frag} {H H':Hp} {q:V×Option Nt} {p:Addr} {xs:List V} (h:oB K H q) (k:Kp K p H H') (hp:H p=some (.lst xs)):oB K H' q:=by
  obtain ⟨v,o⟩:=q
  cases o with
  | none=>exact h
  | some e=>exact ⟨h.1.kp k hp,h.2⟩
theorem iu.ext {K:PySem.W.Frag} {H H':Hp} {L:Pr} (h:iu K H L) (x:Ext K H H'):iu K H' L:=fun q hq=>(h q hq).ext x
theorem iu.kp {K:PySem.W.Frag} {H H':Hp} {L:Pr} {p:Addr} {xs:List V} (h:iu K H L) (k:Kp K p H H') (hp:H p=some (.lst xs)):iu K H' L:=fun q hq=>(h q hq).kp k hp
theorem iu.snoc {K:PySem.W.Frag} {H:Hp} {L:Pr} {q:V×Option Nt} (h:iu K H L) (hq:oB K H q):iu K H (L++[q]):=fun q' hq'=>by
  rcases List.mem_append.mp hq' with z | z
  · exact h q' z
  · have e:q'=q:=by simpa using z
    rw [e];exact hq
def mZ (L:Pr):Tr:=L.filterMap fun q=>q.2.map fun e=>(q.1,e)
theorem Dj {K:PySem.W.Frag} {H:Hp} {L:Pr} (h:iu K H L):cG K H (mZ L):=fun q hq=>by
  obtain ⟨⟨v,o⟩,h1,h2⟩:=List.mem_filterMap.mp hq
  obtain ⟨e,h3,h4⟩:=Option.map_eq_some_iff.mp h2
  have hp:=h _ h1
  cases h4
  dsimp only at h3
  subst h3
  exact hp
theorem A8 (L:Pr):(mZ L).map (·.2)=(L.map (·.2)).filterMap id:=by
  unfold mZ
  rw [List.map_filterMap,List.filterMap_map]
  congr 1
  funext q
  cases h:q.2 <;> simp [h]
theorem vn (L:Pr):(mZ L).length≤L.length:=List.length_filterMap_le ..
theorem RE {K:PySem.W.Frag} {H:Hp} {q:V×Option Nt} (h:oB K H q):decide (q.1=V.eO)=q.2.isNone:=by
  obtain ⟨v,o⟩:=q
  cases o with
  | none=>have e:v=V.eO:=h;rw [e];rfl
  | some e=>
    obtain ⟨⟨a,w,e1,_⟩,_⟩:=h
    have e2:v=V.ref a:=e1
    rw [e2];rfl
theorem JQ {K:PySem.W.Frag} {c D:Addr} {L:Pr} {tt:TT} {v0:Option V} {rest:St} {H:Hp} {Q:Hp→Prop} (hk:H c=some (.lst (L.map (·.1)))) (hP:iu K H L) (nD:new K H D) (hz:L.length≤1000)
    (test:∀ (v:V) H' (Q:Bool→Hp→Prop),Q (!decide (v=V.eO)) H'→tt (some v::rest) H' Q)
    (fin:∀ H',H' D=some (.lst (Tr.v (mZ L)))→Ext K H H'→Q H'):iy (GU K c) (cY 0) tt (jy 0) D Q (v0::rest) (upd H D (.lst [])):=by
  refine vZ (xs:=L.map (·.1)) (fun i acc σ' H'=>∃ (v0:Option V),σ'=v0::rest∧H' D=some (.lst acc)∧acc=Tr.v (mZ (L.take i))∧Kp K D (upd H D (.lst [])) H') ?_ ?_ ?_ ?_
  · exact ⟨_,rfl,av,rfl,Kp.refl⟩
  · rintro i acc σ' H' _ ⟨v0,rfl,hD,rfl,k⟩
    exact fE.of ((k.ext nD).at hk)
  · rintro i x acc σ' H' hx ⟨v0,rfl,hD,rfl,k⟩
    rw [List.getElem?_map] at hx
    obtain ⟨q,ek,rfl⟩:=Option.map_eq_some_iff.mp hx
    have et:L.take (i + 1)=L.take i++[q]:=by rw [List.take_add_one,ek];rfl
    have hlen:(mZ (L.take i)).length≤1000:=Nat.le_trans (vn _) (by rw [List.length_take];omega)
    have hpv:=RE (hP q (List.mem_of_getElem? ek))
    refine test q.1 H' _ ?_
    rw [hpv]
    cases ci:q.2 with
    | some e=>
      refine KR ⟨q.1,rfl,hD,by rw [List.length_map];exact Nat.lt_of_le_of_lt hlen (by decide),_,rfl,av,?_,k.trans (Kp.upd hD)⟩
      rw [et]
      simp [mZ,ci,Tr.v]
    | none=>
      refine L6 ⟨_,rfl,hD,?_,k⟩
      rw [et]
      simp [mZ,ci]
  · rintro acc σ' H' ⟨v0,rfl,hD,rfl,k⟩
    rw [List.length_map,List.take_length] at hD
    exact fin H' hD (k.ext nD)
theorem JR {α:Type} (l:List α):(l.map fun _=>2).sum=2 * l.length:=by
  induction l with
  | nil=>rfl
  | cons a l ih=>rw [List.map_cons,List.sum_cons,ih,List.length_cons];omega
def RG (ns:List Nt) (lo hi:Int):List Nt:=(ns.map fun e=>nO e lo hi).filterMap id
def outF (ns:List Nt) (lo hi:Int):List Nt:=(ns.flatMap fun e=>[nO e 0 lo,nO e hi 1000000000000]).filterMap id
def pO (K:PySem.W.Frag) (F:List Nt→Int→Int→List Nt):Sp:=fun vs H Q _=>∃ (r:Addr) (L:Tr) (lo hi:Int),vs=[.ref r,.int lo,.int hi]∧H r=some (.lst L.v)∧cG K H L∧L.length≤400∧
  ∀ (D:Addr) (M:Tr) H',H D=none→H' D=some (.lst M.v)→cG K H' M→M.ns=F L.ns lo hi→M.length≤2 * L.length→Ext K H H'→Q (.ref D) H'
theorem JU {K:PySem.W.Frag} {v:V} {e:Nt} {lo hi:Int} {H:Hp} {Q:VK} (hN:cM K H v e) (ok:e.ok) (h:∀ (u:V) H',oB K H' (u,nO e lo hi)→Ext K H H'→Q u H'):Cal (Dg K) [v,.int lo,.int hi] H Q ⟨0⟩ E0:=by
  refine ⟨v,e,lo,hi,rfl,hN,fun c b H' hb x=>h b H' ?_ x,fun c=>h .eO H ?_ Ext.refl⟩
  · unfold nO
    rw [if_pos c]
    exact ⟨hb,Nt.RC ok c⟩
  · unfold nO
    rw [if_neg c]
    rfl
theorem Dk:ay ["tray","low","high","parts"] ["tray","low","high"] (aa pL):=⟨rfl,rfl,rfl,by decide +kernel,rfl,by decide +kernel,by decide +kernel⟩
theorem Lp {f:Addr} {fd:FuncData} (F:fc K "within" "within" pL f fd) {br aG aC aP:Addr} {tE tM tN tF u1 u2 u3 u4 u5 u6 u7 u8 t1 t2 t3 t4:Tok} (B:B P w K mg br aG aC aP tE tM tN tF u1 u2 u3 u4 u5 u6 u7 u8 t1 t2 t3 t4) (nW:Callee P w K mg base "cut" 1 ["note","low","high"] (Dg K)):aL P w K mg base dF 2 f fd ["tray","low","high"] (pO K RG):=by
  refine F.fM Dk (fun vs H Q E h=>?_) (fun cJ A outer s H vs Q E hr h=>?_)
  · obtain ⟨r,L,lo,hi,rfl,_⟩:=h
    rfl
  obtain ⟨r,L,lo,hi,rfl,hr0,hT,hz,q⟩:=h
  refine ⟨_,(aE (slc (i:=3) Dk.nd rfl (Or.inl rfl) (vY.mk (N:=["note","low","high"]) (src:=[none,some 1,some 2]) rfl rfl) rfl (qR (ev 0)) (fun _ _ _ _=>(bG (i:=0) (show (["note","low","high"]:List Str).Nodup from by decide +kernel) rfl (Or.inl rfl))) (fun _ _ _ _=>AJ) (fun _ _ _ _=>(aI nW (hr.mono (by decide)) rfl (af (ev 0) (af (ev 1) (af (ev 2) az))))))
      (aK (aU (Ri (vY.mk (N:=["piece"]) (src:=[none]) rfl rfl) rfl (qR (ev 3)) (fun _ _ _ _=>(bG (i:=0) (show (["piece"]:List Str).Nodup from by decide +kernel) rfl (Or.inl rfl))) (fun _ _ _ _=>(Mm (eV Ji (ev 0) uX (aO _)))) (fun _ _ _ _=>(ev 0)))))),?_⟩
  try walk_at "rn"
  refine ⟨⟨_,fE.of hr0⟩,fun D nD=>?_⟩
  obtain ⟨Pv,eP⟩:∃ Pv:Nat→List V→St→Hp→Prop,Pv=fun i acc σ' H'=>∃ (v0:Option V) (M:Pr),σ'=[v0,some (.int lo),some (.int hi)]∧H' D=some (.lst acc)∧acc=M.map (·.1)∧iu K H' M∧M.map (·.2)=(L.take i).map (fun q=>nO q.2 lo hi)∧Kp K D (upd H D (.lst [])) H':=⟨_,rfl⟩
  refine vZ (xs:=Tr.v L) Pv ?_ ?_ ?_ ?_
  · rw [eP]
    exact ⟨_,[],rfl,av,rfl,(fun q hq=>nomatch hq),rfl,Kp.refl⟩
  · intro i acc σ' H' _ h
    rw [eP] at h
    obtain ⟨v0,M,rfl,hD,rfl,hM,eM,k⟩:=h
    exact fE.of ((k.ext nD).at hr0)
  · intro i x acc σ' H' hx h
    rw [eP] at h
    obtain ⟨v0,M,rfl,hD,rfl,hM,eM,k⟩:=h
    rw [List.getElem?_map] at hx
    obtain ⟨m,em,rfl⟩:=Option.map_eq_some_iff.mp hx
    have hT':=(hT.ext (k.ext nD)) m (List.mem_of_getElem? em)
    have lM:M.length≤400:=by
      have:=congrArg List.length eM
      rw [List.length_map,List.length_map,List.length_take] at this
      omega
    try walk_at "rn"
    refine JU hT'.1 hT'.2 fun u H2 hu x2=>?_
    rw [eP]
    have B5:=x2.at hD
    refine ⟨B5,by rw [List.length_map];omega,_,M++[(u,nO m.2 lo hi)],rfl,av,by rw [List.map_append];rfl,((hM.ext x2).snoc hu).kp (Kp.upd B5) B5,?_,k.trans (x2.kp.trans (Kp.upd B5))⟩
    rw [List.map_append,eM,List.take_add_one,em,Option.toList_some,List.map_append]
    rfl
  intro acc σ' H1 h
  rw [eP] at h
  clear eP
  obtain ⟨v0,M,rfl,hD,rfl,hM,eM,k⟩:=h
  rw [List.length_map,List.take_length] at eM
  have x1:=k.ext nD
  have lM:M.length=L.length:=by
    have:=congrArg List.length eM
    rwa [List.length_map,List.length_map] at this
  try walk_at "rn"
  refine ⟨⟨_,fE.of hD⟩,fun D2 nD2=>?_⟩
  refine JQ hD hM nD2 (by omega) (fun v H' Q' qq=>?_) (fun H2 B5 x2=>?_)
  · try walk_at "rn"
    exact qq
  refine q D2 (mZ M) H2 (x1.Ox nD2.1) B5 (Dj (hM.ext x2)) ?_ (Nat.le_trans (vn M) (by omega)) (x1.trans x2)
  rw [Tr.ns,A8,eM,RG,Tr.ns,List.map_map]
  rfl
theorem A9:ay ["tray","low","high","parts"] ["tray","low","high"] (aa mL):=⟨rfl,rfl,rfl,by decide +kernel,rfl,by decide +kernel,by decide +kernel⟩
theorem Iq {f:Addr} {fd:FuncData} (F:fc K "without" "without" mL f fd) {br aG aC aP:Addr} {tE tM tN tF u1 u2 u3 u4 u5 u6 u7 u8 t1 t2 t3 t4:Tok} (B:B P w K mg br aG aC aP tE tM tN tF u1 u2 u3 u4 u5 u6 u7 u8 t1 t2 t3 t4) (nW:Callee P w K mg base "cut" 1 ["note","low","high"] (Dg K)):aL P w K mg base dF 2 f fd ["tray","low","high"] (pO K outF):=by
  refine F.fM A9 (fun vs H Q E h=>?_) (fun cJ A outer s H vs Q E hr h=>?_)
  · obtain ⟨r,L,lo,hi,rfl,_⟩:=h
    rfl
  obtain ⟨r,L,lo,hi,rfl,hr0,hT,hz,q⟩:=h
  refine ⟨_,(aE (aaM (i:=3) A9.nd rfl (Or.inl rfl) (vY.mk (N:=["note","first","end","low","high"]) (src:=[none,none,none,some 1,some 2]) rfl rfl) rfl (qR (ev 0)) (fun _ _ _ _=>(bG (i:=0) (show (["note","first","end","low","high"]:List Str).Nodup from by decide +kernel) rfl (Or.inl rfl))) (fun _ _ _ _=>AJ) (fun _ _ _ _=>(Uu K (Hy K (af (Hy K (af ei (af (ev 3) az))) (af (Hy K (af (ev 4) (af (ig rfl B.Xy B.D0) az))) az))))) (fun _ _ _ _=>(Ms K (n:=2) rfl (cK (bG (i:=1) (show (["note","first","end","low","high"]:List Str).Nodup from by decide +kernel) rfl (Or.inl rfl)) (cK (bG (i:=2) (show (["note","first","end","low","high"]:List Str).Nodup from by decide +kernel) rfl (Or.inl rfl)) pG)))) (fun _ _ _ _=>AJ) (fun _ _ _ _=>(aI nW (hr.mono (by decide)) rfl (af (ev 0) (af (ev 1) (af (ev 2) az))))))
      (aK (aU (Ri (vY.mk (N:=["piece"]) (src:=[none]) rfl rfl) rfl (qR (ev 3)) (fun _ _ _ _=>(bG (i:=0) (show (["piece"]:List Str).Nodup from by decide +kernel) rfl (Or.inl rfl))) (fun _ _ _ _=>(Mm (eV Ji (ev 0) uX (aO _)))) (fun _ _ _ _=>(ev 0)))))),?_⟩
  try walk_at "rn"
  refine ⟨⟨_,fE.of hr0⟩,fun D nD=>?_⟩
  obtain ⟨Pv,eP⟩:∃ Pv:Nat→List V→St→Hp→Prop,Pv=fun i acc σ' H'=>∃ (v0 v1 v2:Option V) (M:Pr),σ'=[v0,v1,v2,some (.int lo),some (.int hi)]∧H' D=some (.lst acc)∧acc=M.map (·.1)∧iu K H' M∧M.map (·.2)=(L.take i).flatMap (fun q=>[nO q.2 0 lo,nO q.2 hi 1000000000000])∧Kp K D (upd H D (.lst [])) H':=⟨_,rfl⟩
  refine Oo (xs:=Tr.v L) Pv ?_ ?_ ?_ ?_
  · rw [eP]
    exact ⟨_,_,_,[],rfl,av,rfl,(fun q hq=>nomatch hq),rfl,Kp.refl⟩
  · intro i acc σ' H' _ h
    rw [eP] at h
    obtain ⟨v0,v1,v2,M,rfl,hD,rfl,hM,eM,k⟩:=h
    exact fE.of ((k.ext nD).at hr0)
  · intro i x acc σ' H' hx h
    rw [eP] at h
    obtain ⟨v0,v1,v2,M,rfl,hD,rfl,hM,eM,k⟩:=h
    rw [List.getElem?_map] at hx
    obtain ⟨m,em,rfl⟩:=Option.map_eq_some_iff.mp hx
    try walk_at "rn"
    intro a1 n1 a2 n2 a3 n3
    have x1:=Ext.new (K:=K) (o:=.tup [.int 0,.int lo]) n1
    have x2:=Ext.new (K:=K) (o:=.tup [.int hi,.int 1000000000000]) n2
    have x3:=Ext.new (K:=K) (o:=.tup [.ref a1,.ref a2]) n3
    have Fy:=x1.trans (x2.trans x3)
    have t1:=(x2.trans x3).tup (ao (K:=K) (H:=H') (a:=a1) (xs:=[.int 0,.int lo]))
    have t2:=x3.tup (ao (K:=K) (H:=upd H' a1 (.tup [.int 0,.int lo])) (a:=a2) (xs:=[.int hi,.int 1000000000000]))
    have t3:tupQ K (upd (upd (upd H' a1 (.tup [.int 0,.int lo])) a2 (.tup [.int hi,.int 1000000000000])) a3 (.tup [.ref a1,.ref a2])) a3=some [.ref a1,.ref a2]:=ao
    generalize upd (upd (upd H' a1 (.tup [.int 0,.int lo])) a2 (.tup [.int hi,.int 1000000000000])) a3 (.tup [.ref a1,.ref a2])=G at Fy t1 t2 t3 ⊢
    refine ⟨⟨_,cD t3⟩,?_⟩
    have lM:M.length≤800:=by
      have h:=congrArg List.length eM
      rw [List.length_map,List.length_flatMap] at h
      have h2:∀ (l:List (V×Nt)),(l.map fun q=>[nO q.2 0 lo,nO q.2 hi 1000000000000].length).sum=2 * l.length:=fun l=>JR l
      rw [h2,List.length_take] at h
      omega
    have Xz:=Fy.at hD
    obtain ⟨Pi,eI⟩:∃ Pv:Nat→List V→St→Hp→Prop,Pv=fun j acc σ' H2=>∃ (v1 v2:Option V) (M':Pr),σ'=[some m.1,v1,v2,some (.int lo),some (.int hi)]∧H2 D=some (.lst acc)∧acc=M'.map (·.1)∧iu K H2 M'∧M'.map (·.2)=M.map (·.2)++[nO m.2 0 lo,nO m.2 hi 1000000000000].take j∧Kp K D G H2:=⟨_,rfl⟩
    refine Ro (xs:=[.ref a1,.ref a2]) Pi ?_ ?_ ?_ ?_
    · rw [eI]
      exact ⟨_,_,M,rfl,Xz,rfl,hM.ext Fy,by simp,Kp.refl⟩
    · intro j acc σ' H2 _ h
      rw [eI] at h
      obtain ⟨v1,v2,M',rfl,B5,rfl,hM2,eM2,k2⟩:=h
      exact cD (k2.tup Xz t3)
    · intro j x acc σ' H2 hj h
      rw [eI] at h
      obtain ⟨v1,v2,M',rfl,B5,rfl,hM2,eM2,k2⟩:=h
      have hj2:j < 2:=(List.getElem?_eq_some_iff.mp hj).1
      obtain ⟨ax,l,h,rfl,ht,hc⟩:∃ (ax:Addr) (l h:Int),x=.ref ax∧tupQ K G ax=some [.int l,.int h]∧[nO m.2 0 lo,nO m.2 hi 1000000000000].take (j + 1)=[nO m.2 0 lo,nO m.2 hi 1000000000000].take j++[nO m.2 l h]:=by
        match j,hj2 with
        | 0,_=>cases hj;exact ⟨a1,0,lo,rfl,t1,rfl⟩
        | 1,_=>cases hj;exact ⟨a2,hi,_,rfl,t2,rfl⟩
      have hT2:=((hT.ext (k.ext nD)).ext Fy) m (List.mem_of_getElem? em)
      have lM2:M'.length≤900:=by
        have h:=congrArg List.length eM2
        rw [List.length_append,List.length_map,List.length_map,List.length_take] at h
        omega
      simp_arith [k2.tup Xz ht]
      refine JU (hT2.1.kp k2 Xz) hT2.2 fun u H3 hu x3=>?_
      rw [eI]
      have XA:=x3.at B5
      refine ⟨XA,by rw [List.length_map];omega,_,_,M'++[(u,nO m.2 l h)],rfl,av,by rw [List.map_append];rfl,((hM2.ext x3).snoc hu).kp (Kp.upd XA) XA,?_,k2.trans (x3.kp.trans (Kp.upd XA))⟩
      rw [List.map_append,eM2,hc,List.append_assoc]
      rfl
    intro acc σ' H2 h
    rw [eI] at h
    obtain ⟨v1,v2,M',rfl,B5,rfl,hM2,eM2,k2⟩:=h
    rw [eP]
    refine ⟨_,_,_,M',rfl,B5,rfl,hM2,?_,k.trans (Fy.kp.trans k2)⟩
    rw [eM2,eM,List.take_add_one,em,Option.toList_some,List.flatMap_append]
    rfl
  intro acc σ' H1 h
  rw [eP] at h
  clear eP
  obtain ⟨v0,v1,v2,M,rfl,hD,rfl,hM,eM,k⟩:=h
  rw [List.length_map,List.take_length] at eM
  have x1:=k.ext nD
  have lM:M.length=2 * L.length:=by
    have h:=congrArg List.length eM
    rw [List.length_map,List.length_flatMap] at h
    have h2:∀ (l:List (V×Nt)),(l.map fun q=>[nO q.2 0 lo,nO q.2 hi 1000000000000].length).sum=2 * l.length:=fun l=>JR l
    rwa [h2] at h
  try walk_at "rn"
  refine ⟨⟨_,fE.of hD⟩,fun D2 nD2=>?_⟩
  refine JQ hD hM nD2 (by omega) (fun v H' Q' qq=>?_) (fun H2 B5 x2=>?_)
  · try walk_at "rn"
    exact qq
  refine q D2 (mZ M) H2 (x1.Ox nD2.1) B5 (Dj (hM.ext x2)) ?_ (Nat.le_trans (vn M) (by omega)) (x1.trans x2)
  rw [Tr.ns,A8,eM,outF,Tr.ns,List.flatMap_map]
def pP (K:PySem.W.Frag):Sp:=fun vs H Q _=>∃ (r:Addr) (L:Tr) (lo hi:Int),vs=[.ref r,.int lo,.int hi]∧H r=some (.lst L.v)∧cG K H L∧L.length≤400∧
  ∀ (t D D':Addr) (M M':Tr) H',H D=none→H D'=none→D≠D'→tupQ K H' t=some [.ref D,.ref D']→H' D=some (.lst M.v)→H' D'=some (.lst M'.v)→cG K H' M→cG K H' M'→M.ns=RG L.ns lo hi→M'.ns=outF L.ns lo hi→M.length≤2 * L.length→M'.length≤2 * L.length→Ext K H H'→Q (.ref t) H'
theorem Lq:ay ["tray","low","high"] ["tray","low","high"] (aa pM):=⟨rfl,rfl,rfl,by decide +kernel,rfl,by decide +kernel,by decide +kernel⟩
theorem Dl {f:Addr} {fd:FuncData} (F:fc K "poured" "poured" pM f fd) {br aG aC aP:Addr} {tE tM tN tF u1 u2 u3 u4 u5 u6 u7 u8 t1 t2 t3 t4:Tok} (B:B P w K mg br aG aC aP tE tM tN tF u1 u2 u3 u4 u5 u6 u7 u8 t1 t2 t3 t4) (pQ:Callee P w K mg base "within" 2 ["tray","low","high"] (pO K RG)) (mQ:Callee P w K mg base "without" 2 ["tray","low","high"] (pO K outF)):aL P w K mg base dF 3 f fd ["tray","low","high"] (pP K):=by
  refine F.fM Lq (fun vs H Q E h=>?_) (fun cJ A outer s H vs Q E hr h=>?_)
  · obtain ⟨r,L,lo,hi,rfl,_⟩:=h
    rfl
  obtain ⟨r,L,lo,hi,rfl,hr0,hT,hz,q⟩:=h
  refine ⟨_,(aK (aU (bU (af (aI pQ (hr.mono (by decide)) rfl (af (ev 0) (af (ev 1) (af (ev 2) az)))) (af (aI mQ (hr.mono (by decide)) rfl (af (ev 0) (af (ev 1) (af (ev 2) az)))) az))))),?_⟩
  try walk_at "rn"
  refine ⟨r,L,lo,hi,rfl,hr0,hT,hz,fun D M H1 nD hD hM eM lM x1=>?_⟩
  try walk_at "rn"
  refine ⟨r,L,lo,hi,rfl,x1.at hr0,hT.ext x1,hz,fun D' M' H2 nD' Qk hM' eM' lM' x2=>?_⟩
  try walk_at "rn"
  intro t nt
  have x3:=Ext.new (K:=K) (o:=.tup [.ref D,.ref D']) nt
  exact q t D D' M M' _ nD (x1.Ox nD') (bJ hD nD') ao ((x2.trans x3).at hD) (x3.at Qk) (hM.ext (x2.trans x3)) (hM'.ext x3) eM eM' lM lM' (x1.trans (x2.trans x3))
end
inductive Kd where
  | put | drop | add | wipe | raise | level | mark | forget
  deriving DecidableEq
def Kd.word:Kd→Str
  | .put=>"put"
  | .drop=>"drop"
  | .add=>"add"
  | .wipe=>"wipe"
  | .raise=>"raise"
  | .level=>"level"
  | .mark=>"mark"
  | .forget=>"forget"
def Kd.names:Kd→List Str
  | .put=>["key","value"]
  | .drop=>["key"]
  | .add=>["key","by"]
  | .wipe=>["low","high"]
  | .raise=>["low","high","by"]
  | .level=>["low","high","value"]
  | .mark=>[]
  | .forget=>["mark"]
structure Cs where
  aM:Addr
  aD:Addr
  aN:Addr
  aA:Addr
  aq:Addr
  au:Addr
  aJ:Addr
  ak:Addr
def Cs.at (s:Cs):Kd→Addr
  | .put=>s.aM
  | .drop=>s.aD
  | .add=>s.aN
  | .wipe=>s.aA
  | .raise=>s.aq
  | .level=>s.au
  | .mark=>s.aJ
  | .forget=>s.ak
def Dm (i:Int):Prop:=0≤i∧i≤999999999999
def Gp (i:Int):Prop:=-1000000000000000000000000000000≤i∧i≤1000000000000000000000000000000
def Ir (i j:Int):Prop:=0≤i∧i < j∧j≤1000000000000
def Kd.ok:Kd→List Int→Prop
  | .put,us=>∃ k v,us=[k,v]∧Dm k∧Gp v
  | .drop,us=>∃ k,us=[k]∧Dm k
  | .add,us=>∃ k v,us=[k,v]∧Dm k∧Gp v
  | .wipe,us=>∃ l h,us=[l,h]∧Ir l h
  | .raise,us=>∃ l h v,us=[l,h,v]∧Ir l h∧Gp v
  | .level,us=>∃ l h v,us=[l,h,v]∧Ir l h∧Gp v
  | .mark,us=>us=[]
  | .forget,us=>∃ m,us=[m]∧1≤m∧m≤1000000000000000000000000000000
def Kd.told (k:Kd) (us:List Int):List V:=.str k.word::us.map V.int
def Kd.Ek (k:Kd) (us:List Int):List (Str×V):=k.names.zip (us.map V.int)
def gc (C:Addr) (H:Hp) (a:Addr) (k:Kd) (us:List Int):Prop:=∃ dx,H a=some (.ins C dx (k.Ek us))
section
variable {P:Program} {w:World} {K:PySem.W.Frag} {mg:Str→Option Value} {base:Heap}
def El:Sp:=fun vs H Q _=>∃ i,vs=[.int i]∧Dm i∧Q (.bl true) H
def Dn:Sp:=fun vs H Q _=>∃ i,vs=[.int i]∧Gp i∧Q (.bl true) H
def JV:Sp:=fun vs H Q _=>∃ i j,vs=[.int i,.int j]∧Ir i j∧Q (.bl true) H
def uf:Sp:=fun vs H Q _=>vs=[.bl true,.str "no more"]∧Q .eO H
def bu (k:Kd) (C:Addr):Sp:=fun vs H Q _=>∃ x dx us,vs=.ref x::(us.map V.int++[.str "no more"])∧k.ok us∧H x=some (.ins C dx [])∧Q .eO (upd H x (.ins C dx (k.Ek us)))
def gf (K:PySem.W.Frag) (k:Kd) (C:Addr):Sp:=fun vs H Q _=>∃ a us,vs=[.ref a]∧k.ok us∧gc C H a k us∧∀ T,new K H T→Q (.ref T) (upd H T (.tup (k.told us)))
theorem Em:ay ["thing"] ["thing"] (aa jk):=⟨rfl,rfl,rfl,by decide +kernel,rfl,by decide +kernel,by decide +kernel⟩
theorem En {f:Addr} {fd:FuncData} (F:fc K "is_amount" "is_amount" jk f fd) {br aG aC aP:Addr} {tE tM tN tF u1 u2 u3 u4 u5 u6 u7 u8 t1 t2 t3 t4:Tok} (B:B P w K mg br aG aC aP tE tM tN tF u1 u2 u3 u4 u5 u6 u7 u8 t1 t2 t3 t4) (bf:Callee P w K mg base "is_whole" 2 ["thing","low","high"] nV):aL P w K mg base dF 3 f fd ["thing"] Dn:=by
  refine F.fM Em (fun vs H Q E h=>?_) (fun cJ A outer s H vs Q E hr h=>?_)
  · obtain ⟨i,rfl,_⟩:=h
    rfl
  obtain ⟨i,rfl,ok,q⟩:=h
  refine ⟨_,(aK (aU (aI bf (hr.mono (by decide)) rfl (af (ev 0) (af (eun LP (ig rfl B.AU B.ud)) (af (ig rfl B.AU B.ud) az)))))),?_⟩
  try walk_at "rn"
  refine ⟨i,_,_,rfl,?_⟩
  rw [decide_eq_true (show -1000000000000000000000000000000≤i∧i≤1000000000000000000000000000000 from ok)]
  exact q
theorem zT:ay ["fit","more"] ["fit","more"] (aa fV):=⟨rfl,rfl,rfl,by decide +kernel,rfl,by decide +kernel,by decide +kernel⟩
theorem zU {f:Addr} {fd:FuncData} (F:fc K "check_things" "check_things" fV f fd) {br aG aC aP:Addr} {tE tM tN tF u1 u2 u3 u4 u5 u6 u7 u8 t1 t2 t3 t4:Tok} (B:B P w K mg br aG aC aP tE tM tN tF u1 u2 u3 u4 u5 u6 u7 u8 t1 t2 t3 t4):aL P w K mg base dF 1 f fd ["fit","more"] uf:=by
  refine F.fM zT (fun vs H Q E h=>?_) (fun cJ A outer s H vs Q E hr h=>?_)
  · obtain ⟨rfl,_⟩:=h
    rfl
  obtain ⟨rfl,q⟩:=h
  refine ⟨_,(aK (nQ (tw (B4 (lF (Mb (ev 0) (fun _=>rfl))) (B4 (lF (j4 (dH cE rfl B.isinstance bF (af (ev 1) (af (vR rfl B.str p9) az))))) (rC (eV pD (ev 1) (ig rfl B.OE B.Ib) (aO _)))))) (aK u9) fq)),?_⟩
  try walk_at "rn"
  exact ⟨true,rfl,_,.inl (.str _),true,rfl,q⟩
theorem MP {H:Hp} {a:Addr} {o:HO} (h:H a=some o):upd H a o=H:=by
  funext b
  by_cases z:b=a
  · subst z;rw [av,h]
  · rw [bE z]
theorem qm {f:Str} {y:V} {fs:List (Str×V)} {n:Nat} (h:fs.length≤n) (hn:n < 999):(rF f y fs).length≤n + 1:=by
  have:=rG f y fs
  omega
theorem zV:ay ["self","key","value","more"] ["self","key","value","more"] (aa bQ):=⟨rfl,rfl,rfl,by decide +kernel,rfl,by decide +kernel,by decide +kernel⟩
theorem qT {f aM:Addr} {fd:FuncData} (F:yl K "__init__" "Put.__init__" bQ f fd) {br aG aC aP:Addr} {tE tM tN tF u1 u2 u3 u4 u5 u6 u7 u8 t1 t2 t3 t4:Tok} (B:B P w K mg br aG aC aP tE tM tN tF u1 u2 u3 u4 u5 u6 u7 u8 t1 t2 t3 t4) (jF:lQ K aM) (eU:aQ K aM "key") (eH:aQ K aM "value") (aj:Callee P w K mg base "check_things" 1 ["fit","more"] uf) (cF:Callee P w K mg base "is_key" 3 ["thing"] El) (aT:Callee P w K mg base "is_amount" 3 ["thing"] Dn):aL P w K mg base dF 4 f fd ["self","key","value","more"] (bu .put aM):=by
  refine F.fM zV (fun vs H Q E h=>?_) (fun cJ A outer s H vs Q E hr h=>?_)
  · obtain ⟨x,dx,us,rfl,ok,_⟩:=h
    obtain ⟨u0,u1,rfl,o1,o2⟩:=ok
    rfl
  obtain ⟨x,dx,us,rfl,ok,hx,q⟩:=h
  obtain ⟨u0,u1,rfl,o1,o2⟩:=ok
  refine ⟨_,(aE (iT (aI aj (hr.mono (by decide)) rfl (af (qb (aI cF (hr.mono (by decide)) rfl (af (ev 1) az)) (rB (aI aT (hr.mono (by decide)) rfl (af (ev 2) az)))) (af (ev 3) az))))
      (aE (wc (ev 0) (ev 1))
      (aK (wc (ev 0) (ev 2))))),?_⟩
  try walk_at "rn"
  exact ⟨u0,rfl,o1,_,rfl,u1,rfl,o2,rfl,_,_,_,hx,jF,eU,by decide,_,_,_,rfl,jF,eH,Nat.lt_of_le_of_lt (qm (Nat.zero_le 0:([]:List (Str×V)).length≤0) (by decide)) (by decide),by first | exact q | (simp only [mh];exact q)⟩
theorem yH:ay ["self","key","more"] ["self","key","more"] (aa bH):=⟨rfl,rfl,rfl,by decide +kernel,rfl,by decide +kernel,by decide +kernel⟩
theorem pR {f aD:Addr} {fd:FuncData} (F:yl K "__init__" "Drop.__init__" bH f fd) {br aG aC aP:Addr} {tE tM tN tF u1 u2 u3 u4 u5 u6 u7 u8 t1 t2 t3 t4:Tok} (B:B P w K mg br aG aC aP tE tM tN tF u1 u2 u3 u4 u5 u6 u7 u8 t1 t2 t3 t4) (je:lQ K aD) (eU:aQ K aD "key") (aj:Callee P w K mg base "check_things" 1 ["fit","more"] uf) (cF:Callee P w K mg base "is_key" 3 ["thing"] El):aL P w K mg base dF 4 f fd ["self","key","more"] (bu .drop aD):=by
  refine F.fM yH (fun vs H Q E h=>?_) (fun cJ A outer s H vs Q E hr h=>?_)
  · obtain ⟨x,dx,us,rfl,ok,_⟩:=h
    obtain ⟨u0,rfl,o1⟩:=ok
    rfl
  obtain ⟨x,dx,us,rfl,ok,hx,q⟩:=h
  obtain ⟨u0,rfl,o1⟩:=ok
  refine ⟨_,(aE (iT (aI aj (hr.mono (by decide)) rfl (af (aI cF (hr.mono (by decide)) rfl (af (ev 1) az)) (af (ev 2) az))))
      (aK (wc (ev 0) (ev 1)))),?_⟩
  try walk_at "rn"
  exact ⟨u0,rfl,o1,rfl,_,_,_,hx,je,eU,by decide,by first | exact q | (simp only [mh];exact q)⟩
theorem zW:ay ["self","key","by","more"] ["self","key","by","more"] (aa bR):=⟨rfl,rfl,rfl,by decide +kernel,rfl,by decide +kernel,by decide +kernel⟩
theorem qU {f aN:Addr} {fd:FuncData} (F:yl K "__init__" "Add.__init__" bR f fd) {br aG aC aP:Addr} {tE tM tN tF u1 u2 u3 u4 u5 u6 u7 u8 t1 t2 t3 t4:Tok} (B:B P w K mg br aG aC aP tE tM tN tF u1 u2 u3 u4 u5 u6 u7 u8 t1 t2 t3 t4) (jG:lQ K aN) (eU:aQ K aN "key") (pS:aQ K aN "by") (aj:Callee P w K mg base "check_things" 1 ["fit","more"] uf) (cF:Callee P w K mg base "is_key" 3 ["thing"] El) (aT:Callee P w K mg base "is_amount" 3 ["thing"] Dn):aL P w K mg base dF 4 f fd ["self","key","by","more"] (bu .add aN):=by
  refine F.fM zW (fun vs H Q E h=>?_) (fun cJ A outer s H vs Q E hr h=>?_)
  · obtain ⟨x,dx,us,rfl,ok,_⟩:=h
    obtain ⟨u0,u1,rfl,o1,o2⟩:=ok
    rfl
  obtain ⟨x,dx,us,rfl,ok,hx,q⟩:=h
  obtain ⟨u0,u1,rfl,o1,o2⟩:=ok
  refine ⟨_,(aE (iT (aI aj (hr.mono (by decide)) rfl (af (qb (aI cF (hr.mono (by decide)) rfl (af (ev 1) az)) (rB (aI aT (hr.mono (by decide)) rfl (af (ev 2) az)))) (af (ev 3) az))))
      (aE (wc (ev 0) (ev 1))
      (aK (wc (ev 0) (ev 2))))),?_⟩
  try walk_at "rn"
  exact ⟨u0,rfl,o1,_,rfl,u1,rfl,o2,rfl,_,_,_,hx,jG,eU,by decide,_,_,_,rfl,jG,pS,Nat.lt_of_le_of_lt (qm (Nat.zero_le 0:([]:List (Str×V)).length≤0) (by decide)) (by decide),by first | exact q | (simp only [mh];exact q)⟩
theorem yI:ay ["self","low","high","more"] ["self","low","high","more"] (aa bI):=⟨rfl,rfl,rfl,by decide +kernel,rfl,by decide +kernel,by decide +kernel⟩
theorem pT {f aA:Addr} {fd:FuncData} (F:yl K "__init__" "Wipe.__init__" bI f fd) {br aG aC aP:Addr} {tE tM tN tF u1 u2 u3 u4 u5 u6 u7 u8 t1 t2 t3 t4:Tok} (B:B P w K mg br aG aC aP tE tM tN tF u1 u2 u3 u4 u5 u6 u7 u8 t1 t2 t3 t4) (iB:lQ K aA) (fu:aQ K aA "low") (dh:aQ K aA "high") (aj:Callee P w K mg base "check_things" 1 ["fit","more"] uf) (aH:Callee P w K mg base "is_stretch" 3 ["low","high"] JV):aL P w K mg base dF 4 f fd ["self","low","high","more"] (bu .wipe aA):=by
  refine F.fM yI (fun vs H Q E h=>?_) (fun cJ A outer s H vs Q E hr h=>?_)
  · obtain ⟨x,dx,us,rfl,ok,_⟩:=h
    obtain ⟨u0,u1,rfl,o1⟩:=ok
    rfl
  obtain ⟨x,dx,us,rfl,ok,hx,q⟩:=h
  obtain ⟨u0,u1,rfl,o1⟩:=ok
  refine ⟨_,(aE (iT (aI aj (hr.mono (by decide)) rfl (af (aI aH (hr.mono (by decide)) rfl (af (ev 1) (af (ev 2) az))) (af (ev 3) az))))
      (aE (wc (ev 0) (ev 1))
      (aK (wc (ev 0) (ev 2))))),?_⟩
  try walk_at "rn"
  exact ⟨u0,u1,rfl,o1,rfl,_,_,_,hx,iB,fu,by decide,_,_,_,rfl,iB,dh,Nat.lt_of_le_of_lt (qm (Nat.zero_le 0:([]:List (Str×V)).length≤0) (by decide)) (by decide),by first | exact q | (simp only [mh];exact q)⟩
theorem wB:ay ["self","low","high","by","more"] ["self","low","high","by","more"] (aa bh):=⟨rfl,rfl,rfl,by decide +kernel,rfl,by decide +kernel,by decide +kernel⟩
theorem nY {f aq:Addr} {fd:FuncData} (F:yl K "__init__" "Raise.__init__" bh f fd) {br aG aC aP:Addr} {tE tM tN tF u1 u2 u3 u4 u5 u6 u7 u8 t1 t2 t3 t4:Tok} (B:B P w K mg br aG aC aP tE tM tN tF u1 u2 u3 u4 u5 u6 u7 u8 t1 t2 t3 t4) (eK:lQ K aq) (fu:aQ K aq "low") (dh:aQ K aq "high") (pS:aQ K aq "by") (aj:Callee P w K mg base "check_things" 1 ["fit","more"] uf) (aH:Callee P w K mg base "is_stretch" 3 ["low","high"] JV) (aT:Callee P w K mg base "is_amount" 3 ["thing"] Dn):aL P w K mg base dF 4 f fd ["self","low","high","by","more"] (bu .raise aq):=by
  refine F.fM wB (fun vs H Q E h=>?_) (fun cJ A outer s H vs Q E hr h=>?_)
  · obtain ⟨x,dx,us,rfl,ok,_⟩:=h
    obtain ⟨u0,u1,u2,rfl,o1,o2⟩:=ok
    rfl
  obtain ⟨x,dx,us,rfl,ok,hx,q⟩:=h
  obtain ⟨u0,u1,u2,rfl,o1,o2⟩:=ok
  refine ⟨_,(aE (iT (aI aj (hr.mono (by decide)) rfl (af (qb (aI aH (hr.mono (by decide)) rfl (af (ev 1) (af (ev 2) az))) (rB (aI aT (hr.mono (by decide)) rfl (af (ev 3) az)))) (af (ev 4) az))))
      (aE (wc (ev 0) (ev 1))
      (aE (wc (ev 0) (ev 2))
      (aK (wc (ev 0) (ev 3)))))),?_⟩
  try walk_at "rn"
  exact ⟨u0,u1,rfl,o1,_,rfl,u2,rfl,o2,rfl,_,_,_,hx,eK,fu,by decide,_,_,_,rfl,eK,dh,Nat.lt_of_le_of_lt (qm (Nat.zero_le 0:([]:List (Str×V)).length≤0) (by decide)) (by decide),_,_,_,rfl,eK,pS,Nat.lt_of_le_of_lt (qm (qm (Nat.zero_le 0:([]:List (Str×V)).length≤0) (by decide)) (by decide)) (by decide),by first | exact q | (simp only [mh];exact q)⟩
theorem wC:ay ["self","low","high","value","more"] ["self","low","high","value","more"] (aa bq):=⟨rfl,rfl,rfl,by decide +kernel,rfl,by decide +kernel,by decide +kernel⟩
theorem nZ {f au:Addr} {fd:FuncData} (F:yl K "__init__" "Level.__init__" bq f fd) {br aG aC aP:Addr} {tE tM tN tF u1 u2 u3 u4 u5 u6 u7 u8 t1 t2 t3 t4:Tok} (B:B P w K mg br aG aC aP tE tM tN tF u1 u2 u3 u4 u5 u6 u7 u8 t1 t2 t3 t4) (eL:lQ K au) (fu:aQ K au "low") (dh:aQ K au "high") (eH:aQ K au "value") (aj:Callee P w K mg base "check_things" 1 ["fit","more"] uf) (aH:Callee P w K mg base "is_stretch" 3 ["low","high"] JV) (aT:Callee P w K mg base "is_amount" 3 ["thing"] Dn):aL P w K mg base dF 4 f fd ["self","low","high","value","more"] (bu .level au):=by
  refine F.fM wC (fun vs H Q E h=>?_) (fun cJ A outer s H vs Q E hr h=>?_)
  · obtain ⟨x,dx,us,rfl,ok,_⟩:=h
    obtain ⟨u0,u1,u2,rfl,o1,o2⟩:=ok
    rfl
  obtain ⟨x,dx,us,rfl,ok,hx,q⟩:=h
  obtain ⟨u0,u1,u2,rfl,o1,o2⟩:=ok
  refine ⟨_,(aE (iT (aI aj (hr.mono (by decide)) rfl (af (qb (aI aH (hr.mono (by decide)) rfl (af (ev 1) (af (ev 2) az))) (rB (aI aT (hr.mono (by decide)) rfl (af (ev 3) az)))) (af (ev 4) az))))
      (aE (wc (ev 0) (ev 1))
      (aE (wc (ev 0) (ev 2))
      (aK (wc (ev 0) (ev 3)))))),?_⟩
  try walk_at "rn"
  exact ⟨u0,u1,rfl,o1,_,rfl,u2,rfl,o2,rfl,_,_,_,hx,eL,fu,by decide,_,_,_,rfl,eL,dh,Nat.lt_of_le_of_lt (qm (Nat.zero_le 0:([]:List (Str×V)).length≤0) (by decide)) (by decide),_,_,_,rfl,eL,eH,Nat.lt_of_le_of_lt (qm (qm (Nat.zero_le 0:([]:List (Str×V)).length≤0) (by decide)) (by decide)) (by decide),by first | exact q | (simp only [mh];exact q)⟩
theorem yJ:ay ["self","more"] ["self","more"] (aa cX):=⟨rfl,rfl,rfl,by decide +kernel,rfl,by decide +kernel,by decide +kernel⟩
theorem yK {f aJ:Addr} {fd:FuncData} (F:yl K "__init__" "Mark.__init__" cX f fd) {br aG aC aP:Addr} {tE tM tN tF u1 u2 u3 u4 u5 u6 u7 u8 t1 t2 t3 t4:Tok} (B:B P w K mg br aG aC aP tE tM tN tF u1 u2 u3 u4 u5 u6 u7 u8 t1 t2 t3 t4) (Ba:lQ K aJ)  (aj:Callee P w K mg base "check_things" 1 ["fit","more"] uf):aL P w K mg base dF 2 f fd ["self","more"] (bu .mark aJ):=by
  refine F.fM yJ (fun vs H Q E h=>?_) (fun cJ A outer s H vs Q E hr h=>?_)
  · obtain ⟨x,dx,us,rfl,ok,_⟩:=h
    obtain rfl:=ok
    rfl
  obtain ⟨x,dx,us,rfl,ok,hx,q⟩:=h
  obtain rfl:=ok
  refine ⟨_,(aK (iT (aI aj (hr.mono (by decide)) rfl (af yj (af (ev 1) az))))),?_⟩
  try walk_at "rn"
  exact ⟨rfl,by rw [show upd H x (.ins aJ dx (Kd.Ek .mark []))=H from MP hx] at q;exact q⟩
theorem vo:ay ["self","mark","more"] ["self","mark","more"] (aa aZ):=⟨rfl,rfl,rfl,by decide +kernel,rfl,by decide +kernel,by decide +kernel⟩
theorem m5 {f ak:Addr} {fd:FuncData} (F:yl K "__init__" "Forget.__init__" aZ f fd) {br aG aC aP:Addr} {tE tM tN tF u1 u2 u3 u4 u5 u6 u7 u8 t1 t2 t3 t4:Tok} (B:B P w K mg br aG aC aP tE tM tN tF u1 u2 u3 u4 u5 u6 u7 u8 t1 t2 t3 t4) (m6:lQ K ak) (Eo:aQ K ak "mark") (aj:Callee P w K mg base "check_things" 1 ["fit","more"] uf) (bM:Callee P w K mg base "is_whole_from" 2 ["thing","low"] Ef):aL P w K mg base dF 3 f fd ["self","mark","more"] (bu .forget ak):=by
  refine F.fM vo (fun vs H Q E h=>?_) (fun cJ A outer s H vs Q E hr h=>?_)
  · obtain ⟨x,dx,us,rfl,ok,_⟩:=h
    obtain ⟨u0,rfl,o1,o2⟩:=ok
    rfl
  obtain ⟨x,dx,us,rfl,ok,hx,q⟩:=h
  obtain ⟨u0,rfl,o1,o2⟩:=ok
  refine ⟨_,(aE (iT (aI aj (hr.mono (by decide)) rfl (af (aI bM (hr.mono (by decide)) rfl (af (ev 1) (af ei az))) (af (ev 2) az))))
      (aK (wc (ev 0) (ev 1)))),?_⟩
  try walk_at "rn"
  exact ⟨u0,1,rfl,by rw [decide_eq_true o1],_,_,_,hx,m6,Eo,by decide,by first | exact q | (simp only [mh];exact q)⟩
end
def gone:PyData:=.tuple [.str "gone"]
def JX (v:Int):PyData:=.tuple [.str "is",.int v]
def ug (v:Int):PyData:=.tuple [.str "plus",.int v]
def Kd.act:Kd→List Int→PyData
  | .put,[_,v]=>.tuple [JX v,JX v]
  | .drop,_=>.tuple [gone,gone]
  | .add,[_,v]=>.tuple [ug v,JX v]
  | .wipe,_=>.tuple [gone,gone]
  | .raise,[_,_,v]=>.tuple [ug v,gone]
  | .level,[_,_,v]=>.tuple [JX v,gone]
  | _,_=>.none
def Kd.span:Kd→List Int→Option (Int×Int)
  | .put,[k,_]=>some (k,k + 1)
  | .drop,[k]=>some (k,k + 1)
  | .add,[k,_]=>some (k,k + 1)
  | .wipe,[l,h]=>some (l,h)
  | .raise,[l,h,_]=>some (l,h)
  | .level,[l,h,_]=>some (l,h)
  | _,_=>none
section
variable {P:Program} {w:World} {K:PySem.W.Frag} {mg:Str→Option Value} {base:Heap}
def n8 (K:PySem.W.Frag) (k:Kd) (C:Addr):Sp:=fun vs H Q _=>∃ a us,vs=[.ref a]∧k.ok us∧gc C H a k us∧∀ v H',Ext K H H'→Is K H' (k.act us) v→Q v H'
def jH (K:PySem.W.Frag) (k:Kd) (C:Addr):Sp:=fun vs H Q _=>∃ a us,vs=[.ref a]∧k.ok us∧gc C H a k us∧match k.span us with
  | some (l,h)=>∀ T,new K H T→Q (.ref T) (upd H T (.tup [.int l,.int h]))
  | none=>Q .eO H
theorem vp {H:Hp} {T:Addr} {a b:V} {d e:PyData} (h:uQ K H T [a,b]) (ha:Is K H d a) (hb:Is K H e b):Is K H (.tuple [d,e]) (.ref T):=by
  unfold Is cZ cZ cZ
  exact ⟨T,_,rfl,h,_,_,rfl,ha,_,_,rfl,hb,rfl⟩
theorem Lr {H:Hp} {T:Addr} {x:Str} {v:Int} (h:uQ K H T [.str x,.int v]):Is K H (.tuple [.str x,.int v]) (.ref T):=vp h (by unfold Is;rfl) (by unfold Is;rfl)
theorem yL {H:Hp} {T:Addr} (h:uQ K H T [.str "gone"]):Is K H gone (.ref T):=by
  unfold gone Is cZ cZ
  exact ⟨T,_,rfl,h,_,_,rfl,by unfold Is;rfl,rfl⟩
def JY:Sp:=fun vs H Q _=>∃ a,vs=[.ref a]∧Q .eO H
theorem Gq:ay ["self"] ["self"] (aa kI):=⟨rfl,rfl,rfl,by decide +kernel,rfl,by decide +kernel,by decide +kernel⟩
theorem Gr {f aM:Addr} {fd:FuncData} (F:fc K "told" "Put.told" kI f fd) {br aG aC aP:Addr} {tE tM tN tF u1 u2 u3 u4 u5 u6 u7 u8 t1 t2 t3 t4:Tok} (B:B P w K mg br aG aC aP tE tM tN tF u1 u2 u3 u4 u5 u6 u7 u8 t1 t2 t3 t4) (jF:lQ K aM) (eU:aQ K aM "key") (eH:aQ K aM "value"):aL P w K mg base dF 1 f fd ["self"] (gf K .put aM):=by
  refine F.fM Gq (fun vs H Q E h=>?_) (fun cJ A outer s H vs Q E hr h=>?_)
  · obtain ⟨a,us,rfl,_⟩:=h
    rfl
  obtain ⟨a,us,rfl,ok,⟨dx,ha⟩,q⟩:=h
  obtain ⟨u0,u1,rfl,o1,o2⟩:=ok
  refine ⟨_,(aK (aU (bU (af gK (af (i0 (ev 0)) (af (i0 (ev 0)) az)))))),?_⟩
  try walk_at "rn"
  exact ⟨_,_,_,ha,jF,eU,_,rfl,_,_,_,ha,jF,eH,_,rfl,q⟩
theorem Ep:ay ["self"] ["self"] (aa jn):=⟨rfl,rfl,rfl,by decide +kernel,rfl,by decide +kernel,by decide +kernel⟩
theorem Er {f aD:Addr} {fd:FuncData} (F:fc K "told" "Drop.told" jn f fd) {br aG aC aP:Addr} {tE tM tN tF u1 u2 u3 u4 u5 u6 u7 u8 t1 t2 t3 t4:Tok} (B:B P w K mg br aG aC aP tE tM tN tF u1 u2 u3 u4 u5 u6 u7 u8 t1 t2 t3 t4) (je:lQ K aD) (eU:aQ K aD "key"):aL P w K mg base dF 1 f fd ["self"] (gf K .drop aD):=by
  refine F.fM Ep (fun vs H Q E h=>?_) (fun cJ A outer s H vs Q E hr h=>?_)
  · obtain ⟨a,us,rfl,_⟩:=h
    rfl
  obtain ⟨a,us,rfl,ok,⟨dx,ha⟩,q⟩:=h
  obtain ⟨u0,rfl,o1⟩:=ok
  refine ⟨_,(aK (aU (bU (af gK (af (i0 (ev 0)) az))))),?_⟩
  try walk_at "rn"
  exact ⟨_,_,_,ha,je,eU,_,rfl,q⟩
theorem Gs:ay ["self"] ["self"] (aa kK):=⟨rfl,rfl,rfl,by decide +kernel,rfl,by decide +kernel,by decide +kernel⟩
theorem Gu {f aN:Addr} {fd:FuncData} (F:fc K "told" "Add.told" kK f fd) {br aG aC aP:Addr} {tE tM tN tF u1 u2 u3 u4 u5 u6 u7 u8 t1 t2 t3 t4:Tok} (B:B P w K mg br aG aC aP tE tM tN tF u1 u2 u3 u4 u5 u6 u7 u8 t1 t2 t3 t4) (jG:lQ K aN) (eU:aQ K aN "key") (pS:aQ K aN "by"):aL P w K mg base dF 1 f fd ["self"] (gf K .add aN):=by
  refine F.fM Gs (fun vs H Q E h=>?_) (fun cJ A outer s H vs Q E hr h=>?_)
  · obtain ⟨a,us,rfl,_⟩:=h
    rfl
  obtain ⟨a,us,rfl,ok,⟨dx,ha⟩,q⟩:=h
  obtain ⟨u0,u1,rfl,o1,o2⟩:=ok
  refine ⟨_,(aK (aU (bU (af gK (af (i0 (ev 0)) (af (i0 (ev 0)) az)))))),?_⟩
  try walk_at "rn"
  exact ⟨_,_,_,ha,jG,eU,_,rfl,_,_,_,ha,jG,pS,_,rfl,q⟩
theorem Es:ay ["self"] ["self"] (aa jq):=⟨rfl,rfl,rfl,by decide +kernel,rfl,by decide +kernel,by decide +kernel⟩
theorem Et {f aA:Addr} {fd:FuncData} (F:fc K "told" "Wipe.told" jq f fd) {br aG aC aP:Addr} {tE tM tN tF u1 u2 u3 u4 u5 u6 u7 u8 t1 t2 t3 t4:Tok} (B:B P w K mg br aG aC aP tE tM tN tF u1 u2 u3 u4 u5 u6 u7 u8 t1 t2 t3 t4) (iB:lQ K aA) (fu:aQ K aA "low") (dh:aQ K aA "high"):aL P w K mg base dF 1 f fd ["self"] (gf K .wipe aA):=by
  refine F.fM Es (fun vs H Q E h=>?_) (fun cJ A outer s H vs Q E hr h=>?_)
  · obtain ⟨a,us,rfl,_⟩:=h
    rfl
  obtain ⟨a,us,rfl,ok,⟨dx,ha⟩,q⟩:=h
  obtain ⟨u0,u1,rfl,o1⟩:=ok
  refine ⟨_,(aK (aU (bU (af gK (af (i0 (ev 0)) (af (i0 (ev 0)) az)))))),?_⟩
  try walk_at "rn"
  exact ⟨_,_,_,ha,iB,fu,_,rfl,_,_,_,ha,iB,dh,_,rfl,q⟩
theorem Cd:ay ["self"] ["self"] (aa iM):=⟨rfl,rfl,rfl,by decide +kernel,rfl,by decide +kernel,by decide +kernel⟩
theorem Ce {f aq:Addr} {fd:FuncData} (F:fc K "told" "Raise.told" iM f fd) {br aG aC aP:Addr} {tE tM tN tF u1 u2 u3 u4 u5 u6 u7 u8 t1 t2 t3 t4:Tok} (B:B P w K mg br aG aC aP tE tM tN tF u1 u2 u3 u4 u5 u6 u7 u8 t1 t2 t3 t4) (eK:lQ K aq) (fu:aQ K aq "low") (dh:aQ K aq "high") (pS:aQ K aq "by"):aL P w K mg base dF 1 f fd ["self"] (gf K .raise aq):=by
  refine F.fM Cd (fun vs H Q E h=>?_) (fun cJ A outer s H vs Q E hr h=>?_)
  · obtain ⟨a,us,rfl,_⟩:=h
    rfl
  obtain ⟨a,us,rfl,ok,⟨dx,ha⟩,q⟩:=h
  obtain ⟨u0,u1,u2,rfl,o1,o2⟩:=ok
  refine ⟨_,(aK (aU (bU (af gK (af (i0 (ev 0)) (af (i0 (ev 0)) (af (i0 (ev 0)) az))))))),?_⟩
  try walk_at "rn"
  exact ⟨_,_,_,ha,eK,fu,_,rfl,_,_,_,ha,eK,dh,_,rfl,_,_,_,ha,eK,pS,_,rfl,q⟩
theorem Cf:ay ["self"] ["self"] (aa iO):=⟨rfl,rfl,rfl,by decide +kernel,rfl,by decide +kernel,by decide +kernel⟩
theorem Cg {f au:Addr} {fd:FuncData} (F:fc K "told" "Level.told" iO f fd) {br aG aC aP:Addr} {tE tM tN tF u1 u2 u3 u4 u5 u6 u7 u8 t1 t2 t3 t4:Tok} (B:B P w K mg br aG aC aP tE tM tN tF u1 u2 u3 u4 u5 u6 u7 u8 t1 t2 t3 t4) (eL:lQ K au) (fu:aQ K au "low") (dh:aQ K au "high") (eH:aQ K au "value"):aL P w K mg base dF 1 f fd ["self"] (gf K .level au):=by
  refine F.fM Cf (fun vs H Q E h=>?_) (fun cJ A outer s H vs Q E hr h=>?_)
  · obtain ⟨a,us,rfl,_⟩:=h
    rfl
  obtain ⟨a,us,rfl,ok,⟨dx,ha⟩,q⟩:=h
  obtain ⟨u0,u1,u2,rfl,o1,o2⟩:=ok
  refine ⟨_,(aK (aU (bU (af gK (af (i0 (ev 0)) (af (i0 (ev 0)) (af (i0 (ev 0)) az))))))),?_⟩
  try walk_at "rn"
  exact ⟨_,_,_,ha,eL,fu,_,rfl,_,_,_,ha,eL,dh,_,rfl,_,_,_,ha,eL,eH,_,rfl,q⟩
theorem Eu:ay ["self"] ["self"] (aa jt):=⟨rfl,rfl,rfl,by decide +kernel,rfl,by decide +kernel,by decide +kernel⟩
theorem Ew {f aJ:Addr} {fd:FuncData} (F:fc K "told" "Mark.told" jt f fd) {br aG aC aP:Addr} {tE tM tN tF u1 u2 u3 u4 u5 u6 u7 u8 t1 t2 t3 t4:Tok} (B:B P w K mg br aG aC aP tE tM tN tF u1 u2 u3 u4 u5 u6 u7 u8 t1 t2 t3 t4) (Ba:lQ K aJ):aL P w K mg base dF 1 f fd ["self"] (gf K .mark aJ):=by
  refine F.fM Eu (fun vs H Q E h=>?_) (fun cJ A outer s H vs Q E hr h=>?_)
  · obtain ⟨a,us,rfl,_⟩:=h
    rfl
  obtain ⟨a,us,rfl,ok,⟨dx,ha⟩,q⟩:=h
  obtain rfl:=ok
  refine ⟨_,(aK (aU (bU (af gK az)))),?_⟩
  try walk_at "rn"
  exact q
theorem Bb:ay ["self"] ["self"] (aa g8):=⟨rfl,rfl,rfl,by decide +kernel,rfl,by decide +kernel,by decide +kernel⟩
theorem Bc {f ak:Addr} {fd:FuncData} (F:fc K "told" "Forget.told" g8 f fd) {br aG aC aP:Addr} {tE tM tN tF u1 u2 u3 u4 u5 u6 u7 u8 t1 t2 t3 t4:Tok} (B:B P w K mg br aG aC aP tE tM tN tF u1 u2 u3 u4 u5 u6 u7 u8 t1 t2 t3 t4) (m6:lQ K ak) (Eo:aQ K ak "mark"):aL P w K mg base dF 1 f fd ["self"] (gf K .forget ak):=by
  refine F.fM Bb (fun vs H Q E h=>?_) (fun cJ A outer s H vs Q E hr h=>?_)
  · obtain ⟨a,us,rfl,_⟩:=h
    rfl
  obtain ⟨a,us,rfl,ok,⟨dx,ha⟩,q⟩:=h
  obtain ⟨u0,rfl,o1,o2⟩:=ok
  refine ⟨_,(aK (aU (bU (af gK (af (i0 (ev 0)) az))))),?_⟩
  try walk_at "rn"
  exact ⟨_,_,_,ha,m6,Eo,_,rfl,q⟩
theorem Ci:ay ["self"] ["self"] (aa iK):=⟨rfl,rfl,rfl,by decide +kernel,rfl,by decide +kernel,by decide +kernel⟩
theorem Cj {f aM:Addr} {fd:FuncData} (F:fc K "action" "Put.action" iK f fd) {br aG aC aP:Addr} {tE tM tN tF u1 u2 u3 u4 u5 u6 u7 u8 t1 t2 t3 t4:Tok} (B:B P w K mg br aG aC aP tE tM tN tF u1 u2 u3 u4 u5 u6 u7 u8 t1 t2 t3 t4) (jF:lQ K aM) (eU:aQ K aM "key") (eH:aQ K aM "value"):aL P w K mg base dF 1 f fd ["self"] (n8 K .put aM):=by
  refine F.fM Ci (fun vs H Q E h=>?_) (fun cJ A outer s H vs Q E hr h=>?_)
  · obtain ⟨a,us,rfl,_⟩:=h
    rfl
  obtain ⟨a,us,rfl,ok,⟨dx,ha⟩,q⟩:=h
  obtain ⟨u0,u1,rfl,o1,o2⟩:=ok
  refine ⟨_,(aK (aU (bU (af (bU (af gK (af (i0 (ev 0)) az))) (af (bU (af gK (af (i0 (ev 0)) az))) az))))),?_⟩
  try walk_at "rn"
  exact ⟨_,_,_,ha,jF,eH,_,rfl,fun p n0=>⟨_,_,_,(Ext.new n0).at ha,jF,eH,_,rfl,fun p1 n1 p2 n2=>q _ _ ((Ext.new n0).trans ((Ext.new n1).trans (Ext.new n2))) (vp (cD ao) (Lr (cD (((Ext.new n1).trans (Ext.new n2)).tup ao))) (Lr (cD ((Ext.new n2).tup ao))))⟩⟩
theorem Gv:ay ["self"] ["self"] (aa kJ):=⟨rfl,rfl,rfl,by decide +kernel,rfl,by decide +kernel,by decide +kernel⟩
theorem Gw {f aM:Addr} {fd:FuncData} (F:fc K "span" "Put.span" kJ f fd) {br aG aC aP:Addr} {tE tM tN tF u1 u2 u3 u4 u5 u6 u7 u8 t1 t2 t3 t4:Tok} (B:B P w K mg br aG aC aP tE tM tN tF u1 u2 u3 u4 u5 u6 u7 u8 t1 t2 t3 t4) (jF:lQ K aM) (eU:aQ K aM "key") (eH:aQ K aM "value"):aL P w K mg base dF 1 f fd ["self"] (jH K .put aM):=by
  refine F.fM Gv (fun vs H Q E h=>?_) (fun cJ A outer s H vs Q E hr h=>?_)
  · obtain ⟨a,us,rfl,_⟩:=h
    rfl
  obtain ⟨a,us,rfl,ok,⟨dx,ha⟩,q⟩:=h
  obtain ⟨u0,u1,rfl,o1,o2⟩:=ok
  refine ⟨_,(aK (aU (bU (af (i0 (ev 0)) (af (nL ie (i0 (ev 0)) ei) az))))),?_⟩
  try walk_at "rn"
  exact ⟨_,_,_,ha,jF,eU,_,rfl,_,_,_,ha,jF,eU,_,rfl,_,rfl,q⟩
theorem Bd:ay ["self"] ["self"] (aa g6):=⟨rfl,rfl,rfl,by decide +kernel,rfl,by decide +kernel,by decide +kernel⟩
theorem Be {f aD:Addr} {fd:FuncData} (F:fc K "action" "Drop.action" g6 f fd) {br aG aC aP:Addr} {tE tM tN tF u1 u2 u3 u4 u5 u6 u7 u8 t1 t2 t3 t4:Tok} (B:B P w K mg br aG aC aP tE tM tN tF u1 u2 u3 u4 u5 u6 u7 u8 t1 t2 t3 t4) (je:lQ K aD) (eU:aQ K aD "key"):aL P w K mg base dF 1 f fd ["self"] (n8 K .drop aD):=by
  refine F.fM Bd (fun vs H Q E h=>?_) (fun cJ A outer s H vs Q E hr h=>?_)
  · obtain ⟨a,us,rfl,_⟩:=h
    rfl
  obtain ⟨a,us,rfl,ok,⟨dx,ha⟩,q⟩:=h
  obtain ⟨u0,rfl,o1⟩:=ok
  refine ⟨_,(aK (aU (ig rfl B.Gd B.zg))),?_⟩
  try walk_at "rn"
  obtain ⟨g1,g2,e0,e1,e2⟩:=B.kC
  exact q _ _ Ext.refl (vp (kU e0) (yL (kU e1)) (yL (kU e2)))
theorem Ex:ay ["self"] ["self"] (aa jo):=⟨rfl,rfl,rfl,by decide +kernel,rfl,by decide +kernel,by decide +kernel⟩
theorem Ey {f aD:Addr} {fd:FuncData} (F:fc K "span" "Drop.span" jo f fd) {br aG aC aP:Addr} {tE tM tN tF u1 u2 u3 u4 u5 u6 u7 u8 t1 t2 t3 t4:Tok} (B:B P w K mg br aG aC aP tE tM tN tF u1 u2 u3 u4 u5 u6 u7 u8 t1 t2 t3 t4) (je:lQ K aD) (eU:aQ K aD "key"):aL P w K mg base dF 1 f fd ["self"] (jH K .drop aD):=by
  refine F.fM Ex (fun vs H Q E h=>?_) (fun cJ A outer s H vs Q E hr h=>?_)
  · obtain ⟨a,us,rfl,_⟩:=h
    rfl
  obtain ⟨a,us,rfl,ok,⟨dx,ha⟩,q⟩:=h
  obtain ⟨u0,rfl,o1⟩:=ok
  refine ⟨_,(aK (aU (bU (af (i0 (ev 0)) (af (nL ie (i0 (ev 0)) ei) az))))),?_⟩
  try walk_at "rn"
  exact ⟨_,_,_,ha,je,eU,_,rfl,_,_,_,ha,je,eU,_,rfl,_,rfl,q⟩
theorem Ck:ay ["self"] ["self"] (aa iL):=⟨rfl,rfl,rfl,by decide +kernel,rfl,by decide +kernel,by decide +kernel⟩
theorem Cm {f aN:Addr} {fd:FuncData} (F:fc K "action" "Add.action" iL f fd) {br aG aC aP:Addr} {tE tM tN tF u1 u2 u3 u4 u5 u6 u7 u8 t1 t2 t3 t4:Tok} (B:B P w K mg br aG aC aP tE tM tN tF u1 u2 u3 u4 u5 u6 u7 u8 t1 t2 t3 t4) (jG:lQ K aN) (eU:aQ K aN "key") (pS:aQ K aN "by"):aL P w K mg base dF 1 f fd ["self"] (n8 K .add aN):=by
  refine F.fM Ck (fun vs H Q E h=>?_) (fun cJ A outer s H vs Q E hr h=>?_)
  · obtain ⟨a,us,rfl,_⟩:=h
    rfl
  obtain ⟨a,us,rfl,ok,⟨dx,ha⟩,q⟩:=h
  obtain ⟨u0,u1,rfl,o1,o2⟩:=ok
  refine ⟨_,(aK (aU (bU (af (bU (af gK (af (i0 (ev 0)) az))) (af (bU (af gK (af (i0 (ev 0)) az))) az))))),?_⟩
  try walk_at "rn"
  exact ⟨_,_,_,ha,jG,pS,_,rfl,fun p n0=>⟨_,_,_,(Ext.new n0).at ha,jG,pS,_,rfl,fun p1 n1 p2 n2=>q _ _ ((Ext.new n0).trans ((Ext.new n1).trans (Ext.new n2))) (vp (cD ao) (Lr (cD (((Ext.new n1).trans (Ext.new n2)).tup ao))) (Lr (cD ((Ext.new n2).tup ao))))⟩⟩
theorem Gx:ay ["self"] ["self"] (aa kL):=⟨rfl,rfl,rfl,by decide +kernel,rfl,by decide +kernel,by decide +kernel⟩
theorem Gy {f aN:Addr} {fd:FuncData} (F:fc K "span" "Add.span" kL f fd) {br aG aC aP:Addr} {tE tM tN tF u1 u2 u3 u4 u5 u6 u7 u8 t1 t2 t3 t4:Tok} (B:B P w K mg br aG aC aP tE tM tN tF u1 u2 u3 u4 u5 u6 u7 u8 t1 t2 t3 t4) (jG:lQ K aN) (eU:aQ K aN "key") (pS:aQ K aN "by"):aL P w K mg base dF 1 f fd ["self"] (jH K .add aN):=by
  refine F.fM Gx (fun vs H Q E h=>?_) (fun cJ A outer s H vs Q E hr h=>?_)
  · obtain ⟨a,us,rfl,_⟩:=h
    rfl
  obtain ⟨a,us,rfl,ok,⟨dx,ha⟩,q⟩:=h
  obtain ⟨u0,u1,rfl,o1,o2⟩:=ok
  refine ⟨_,(aK (aU (bU (af (i0 (ev 0)) (af (nL ie (i0 (ev 0)) ei) az))))),?_⟩
  try walk_at "rn"
  exact ⟨_,_,_,ha,jG,eU,_,rfl,_,_,_,ha,jG,eU,_,rfl,_,rfl,q⟩
theorem Bf:ay ["self"] ["self"] (aa g7):=⟨rfl,rfl,rfl,by decide +kernel,rfl,by decide +kernel,by decide +kernel⟩
theorem Bg {f aA:Addr} {fd:FuncData} (F:fc K "action" "Wipe.action" g7 f fd) {br aG aC aP:Addr} {tE tM tN tF u1 u2 u3 u4 u5 u6 u7 u8 t1 t2 t3 t4:Tok} (B:B P w K mg br aG aC aP tE tM tN tF u1 u2 u3 u4 u5 u6 u7 u8 t1 t2 t3 t4) (iB:lQ K aA) (fu:aQ K aA "low") (dh:aQ K aA "high"):aL P w K mg base dF 1 f fd ["self"] (n8 K .wipe aA):=by
  refine F.fM Bf (fun vs H Q E h=>?_) (fun cJ A outer s H vs Q E hr h=>?_)
  · obtain ⟨a,us,rfl,_⟩:=h
    rfl
  obtain ⟨a,us,rfl,ok,⟨dx,ha⟩,q⟩:=h
  obtain ⟨u0,u1,rfl,o1⟩:=ok
  refine ⟨_,(aK (aU (ig rfl B.Gd B.zg))),?_⟩
  try walk_at "rn"
  obtain ⟨g1,g2,e0,e1,e2⟩:=B.kC
  exact q _ _ Ext.refl (vp (kU e0) (yL (kU e1)) (yL (kU e2)))
theorem Ez:ay ["self"] ["self"] (aa jr):=⟨rfl,rfl,rfl,by decide +kernel,rfl,by decide +kernel,by decide +kernel⟩
theorem EA {f aA:Addr} {fd:FuncData} (F:fc K "span" "Wipe.span" jr f fd) {br aG aC aP:Addr} {tE tM tN tF u1 u2 u3 u4 u5 u6 u7 u8 t1 t2 t3 t4:Tok} (B:B P w K mg br aG aC aP tE tM tN tF u1 u2 u3 u4 u5 u6 u7 u8 t1 t2 t3 t4) (iB:lQ K aA) (fu:aQ K aA "low") (dh:aQ K aA "high"):aL P w K mg base dF 1 f fd ["self"] (jH K .wipe aA):=by
  refine F.fM Ez (fun vs H Q E h=>?_) (fun cJ A outer s H vs Q E hr h=>?_)
  · obtain ⟨a,us,rfl,_⟩:=h
    rfl
  obtain ⟨a,us,rfl,ok,⟨dx,ha⟩,q⟩:=h
  obtain ⟨u0,u1,rfl,o1⟩:=ok
  refine ⟨_,(aK (aU (bU (af (i0 (ev 0)) (af (i0 (ev 0)) az))))),?_⟩
  try walk_at "rn"
  exact ⟨_,_,_,ha,iB,fu,_,rfl,_,_,_,ha,iB,dh,_,rfl,q⟩
theorem zX:ay ["self"] ["self"] (aa fY):=⟨rfl,rfl,rfl,by decide +kernel,rfl,by decide +kernel,by decide +kernel⟩
theorem zY {f aq:Addr} {fd:FuncData} (F:fc K "action" "Raise.action" fY f fd) {br aG aC aP:Addr} {tE tM tN tF u1 u2 u3 u4 u5 u6 u7 u8 t1 t2 t3 t4:Tok} (B:B P w K mg br aG aC aP tE tM tN tF u1 u2 u3 u4 u5 u6 u7 u8 t1 t2 t3 t4) (eK:lQ K aq) (fu:aQ K aq "low") (dh:aQ K aq "high") (pS:aQ K aq "by"):aL P w K mg base dF 1 f fd ["self"] (n8 K .raise aq):=by
  refine F.fM zX (fun vs H Q E h=>?_) (fun cJ A outer s H vs Q E hr h=>?_)
  · obtain ⟨a,us,rfl,_⟩:=h
    rfl
  obtain ⟨a,us,rfl,ok,⟨dx,ha⟩,q⟩:=h
  obtain ⟨u0,u1,u2,rfl,o1,o2⟩:=ok
  refine ⟨_,(aK (aU (bU (af (bU (af gK (af (i0 (ev 0)) az))) (af (ig rfl B.MH B.wk) az))))),?_⟩
  try walk_at "rn"
  exact ⟨_,_,_,ha,eK,pS,_,rfl,fun p n0 p1 n1=>q _ _ ((Ext.new n0).trans (Ext.new n1)) (vp (cD ao) (Lr (cD ((Ext.new n1).tup ao))) (yL (kU B.kG)))⟩
theorem Cn:ay ["self"] ["self"] (aa iN):=⟨rfl,rfl,rfl,by decide +kernel,rfl,by decide +kernel,by decide +kernel⟩
theorem Co {f aq:Addr} {fd:FuncData} (F:fc K "span" "Raise.span" iN f fd) {br aG aC aP:Addr} {tE tM tN tF u1 u2 u3 u4 u5 u6 u7 u8 t1 t2 t3 t4:Tok} (B:B P w K mg br aG aC aP tE tM tN tF u1 u2 u3 u4 u5 u6 u7 u8 t1 t2 t3 t4) (eK:lQ K aq) (fu:aQ K aq "low") (dh:aQ K aq "high") (pS:aQ K aq "by"):aL P w K mg base dF 1 f fd ["self"] (jH K .raise aq):=by
  refine F.fM Cn (fun vs H Q E h=>?_) (fun cJ A outer s H vs Q E hr h=>?_)
  · obtain ⟨a,us,rfl,_⟩:=h
    rfl
  obtain ⟨a,us,rfl,ok,⟨dx,ha⟩,q⟩:=h
  obtain ⟨u0,u1,u2,rfl,o1,o2⟩:=ok
  refine ⟨_,(aK (aU (bU (af (i0 (ev 0)) (af (i0 (ev 0)) az))))),?_⟩
  try walk_at "rn"
  exact ⟨_,_,_,ha,eK,fu,_,rfl,_,_,_,ha,eK,dh,_,rfl,q⟩
theorem zZ:ay ["self"] ["self"] (aa fZ):=⟨rfl,rfl,rfl,by decide +kernel,rfl,by decide +kernel,by decide +kernel⟩
theorem z0 {f au:Addr} {fd:FuncData} (F:fc K "action" "Level.action" fZ f fd) {br aG aC aP:Addr} {tE tM tN tF u1 u2 u3 u4 u5 u6 u7 u8 t1 t2 t3 t4:Tok} (B:B P w K mg br aG aC aP tE tM tN tF u1 u2 u3 u4 u5 u6 u7 u8 t1 t2 t3 t4) (eL:lQ K au) (fu:aQ K au "low") (dh:aQ K au "high") (eH:aQ K au "value"):aL P w K mg base dF 1 f fd ["self"] (n8 K .level au):=by
  refine F.fM zZ (fun vs H Q E h=>?_) (fun cJ A outer s H vs Q E hr h=>?_)
  · obtain ⟨a,us,rfl,_⟩:=h
    rfl
  obtain ⟨a,us,rfl,ok,⟨dx,ha⟩,q⟩:=h
  obtain ⟨u0,u1,u2,rfl,o1,o2⟩:=ok
  refine ⟨_,(aK (aU (bU (af (bU (af gK (af (i0 (ev 0)) az))) (af (ig rfl B.MH B.wk) az))))),?_⟩
  try walk_at "rn"
  exact ⟨_,_,_,ha,eL,eH,_,rfl,fun p n0 p1 n1=>q _ _ ((Ext.new n0).trans (Ext.new n1)) (vp (cD ao) (Lr (cD ((Ext.new n1).tup ao))) (yL (kU B.kG)))⟩
theorem Cp:ay ["self"] ["self"] (aa iP):=⟨rfl,rfl,rfl,by decide +kernel,rfl,by decide +kernel,by decide +kernel⟩
theorem Cq {f au:Addr} {fd:FuncData} (F:fc K "span" "Level.span" iP f fd) {br aG aC aP:Addr} {tE tM tN tF u1 u2 u3 u4 u5 u6 u7 u8 t1 t2 t3 t4:Tok} (B:B P w K mg br aG aC aP tE tM tN tF u1 u2 u3 u4 u5 u6 u7 u8 t1 t2 t3 t4) (eL:lQ K au) (fu:aQ K au "low") (dh:aQ K au "high") (eH:aQ K au "value"):aL P w K mg base dF 1 f fd ["self"] (jH K .level au):=by
  refine F.fM Cp (fun vs H Q E h=>?_) (fun cJ A outer s H vs Q E hr h=>?_)
  · obtain ⟨a,us,rfl,_⟩:=h
    rfl
  obtain ⟨a,us,rfl,ok,⟨dx,ha⟩,q⟩:=h
  obtain ⟨u0,u1,u2,rfl,o1,o2⟩:=ok
  refine ⟨_,(aK (aU (bU (af (i0 (ev 0)) (af (i0 (ev 0)) az))))),?_⟩
  try walk_at "rn"
  exact ⟨_,_,_,ha,eL,fu,_,rfl,_,_,_,ha,eL,dh,_,rfl,q⟩
theorem Bh:ay ["self"] ["self"] (aa gZ):=⟨rfl,rfl,rfl,by decide +kernel,rfl,by decide +kernel,by decide +kernel⟩
theorem m7 {f:Addr} {fd:FuncData} (F:fc K "action" "Deed.action" gZ f fd) {br aG aC aP:Addr} {tE tM tN tF u1 u2 u3 u4 u5 u6 u7 u8 t1 t2 t3 t4:Tok} (B:B P w K mg br aG aC aP tE tM tN tF u1 u2 u3 u4 u5 u6 u7 u8 t1 t2 t3 t4):aL P w K mg base dF 1 f fd ["self"] JY:=by
  refine F.fM Bh (fun vs H Q E h=>?_) (fun cJ A outer s H vs Q E hr h=>?_)
  · obtain ⟨a,rfl,_⟩:=h
    rfl
  obtain ⟨a,rfl,q⟩:=h
  refine ⟨_,(aK (aU uX)),?_⟩
  try walk_at "rn"
  exact q
theorem EB:ay ["self"] ["self"] (aa jl):=⟨rfl,rfl,rfl,by decide +kernel,rfl,by decide +kernel,by decide +kernel⟩
theorem qo {f:Addr} {fd:FuncData} (F:fc K "span" "Deed.span" jl f fd) {br aG aC aP:Addr} {tE tM tN tF u1 u2 u3 u4 u5 u6 u7 u8 t1 t2 t3 t4:Tok} (B:B P w K mg br aG aC aP tE tM tN tF u1 u2 u3 u4 u5 u6 u7 u8 t1 t2 t3 t4):aL P w K mg base dF 1 f fd ["self"] JY:=by
  refine F.fM EB (fun vs H Q E h=>?_) (fun cJ A outer s H vs Q E hr h=>?_)
  · obtain ⟨a,rfl,_⟩:=h
    rfl
  obtain ⟨a,rfl,q⟩:=h
  refine ⟨_,(aK (aU uX)),?_⟩
  try walk_at "rn"
  exact q
end
theorem MQ {α:Type} {K:PySem.W.Frag} {c D:Addr} {L:List α} {f g:α→V} {te:TE} {v0:Option V} {rest:St} {H:Hp} {Q:Hp→Prop} (hk:tupQ K H c=some (L.map f)) (nD:new K H D) (hz:L.length≤1000)
    (elt:∀ q∈L,∀ H' (Q:VK),Ext K H H'→(∀ H'',Ext K H' H''→Q (g q) H'')→te (some (f q)::rest) H' Q)
    (fin:∀ H',H' D=some (.lst (L.map g))→Ext K H H'→Q H'):iy (P4 K c) (cY 0) iU te D Q (v0::rest) (upd H D (.lst [])):=by
  refine Rj (xs:=L.map f) (fun i acc σ' H'=>∃ (v0:Option V),σ'=v0::rest∧H' D=some (.lst acc)∧acc=(L.take i).map g∧Kp K D (upd H D (.lst [])) H') ?_ ?_ ?_ ?_
  · exact ⟨_,rfl,av,rfl,Kp.refl⟩
  · rintro i acc σ' H' _ ⟨v0,rfl,hD,rfl,k⟩
    exact cD ((k.ext nD).tup hk)
  · rintro i x acc σ' H' hx ⟨v0,rfl,hD,rfl,k⟩
    rw [List.getElem?_map] at hx
    obtain ⟨q,ek,rfl⟩:=Option.map_eq_some_iff.mp hx
    have hlen:((L.take i).map g).length≤1000:=by rw [List.length_map,List.length_take];omega
    unfold cY iU
    refine KR ?_
    refine elt q (List.mem_of_getElem? ek) H' _ (k.ext nD) fun H'' x''=>⟨x''.at hD,Nat.lt_of_le_of_lt hlen (by decide),_,rfl,av,?_,k.trans (x''.kp.trans (Kp.upd (x''.at hD)))⟩
    rw [List.take_add_one,ek,Option.toList_some,List.map_append]
    rfl
  · rintro acc σ' H' ⟨v0,rfl,hD,rfl,k⟩
    rw [List.length_map,List.take_length] at hD
    exact fin H' hD (k.ext nD)
abbrev Itm:=Str ⊕ Int
def XC:Itm→V
  | .inl t=>.str t
  | .inr i=>.int i
def m8 (i:Int):Str:=Str.ofString (toString i)
def Nv:Itm→Str
  | .inl t=>t
  | .inr i=>m8 i
def Kd.items (k:Kd) (us:List Int):List Itm:=.inl k.word::us.map .inr
def Kd.text (k:Kd) (us:List Int):Str:=Str.join (Str.ofString " ") ((k.items us).map Nv)
theorem Kd.Iu (k:Kd) (us:List Int):k.told us=(k.items us).map XC:=by
  unfold Kd.told Kd.items
  rw [List.map_cons,List.map_map]
  rfl
def itS:Itm→Prop
  | .inl t=>t.length≤101
  | .inr i=>i.natAbs < 10 ^ 100
theorem MU {i:Int} (h:i.natAbs < 10 ^ 100):(m8 i).length≤101:=by
  unfold m8
  rw [PySem.ofString_length]
  exact int_text_length_le10 (by decide) h
theorem ON {i:Int} (h:i.natAbs < 10 ^ 100):i.natAbs.log2 < 1920:=by
  by_cases e:i.natAbs=0
  · rw [e];decide
  · exact Nat.lt_trans ((Nat.log2_lt (k:=400) e).2 (Nat.lt_trans h (by decide))) (by decide)
theorem JZ {q:Itm} (h:itS q):(Nv q).length≤101:=by
  cases q with
  | inl t=>exact h
  | inr i=>exact MU h
theorem Kd.small {k:Kd} {us:List Int} (h:k.ok us):us.length≤3∧∀ i∈us,i.natAbs < 10 ^ 100:=by
  cases k <;> simp only [Kd.ok,Dm,Gp,Ir] at h
  · obtain ⟨a,b,rfl,h1,h2⟩:=h;exact ⟨by simp,by simp only [List.mem_cons,List.not_mem_nil,or_false];rintro i (rfl | rfl) <;> omega⟩
  · obtain ⟨a,rfl,h1⟩:=h;exact ⟨by simp,by simp only [List.mem_cons,List.not_mem_nil,or_false];rintro i rfl;omega⟩
  · obtain ⟨a,b,rfl,h1,h2⟩:=h;exact ⟨by simp,by simp only [List.mem_cons,List.not_mem_nil,or_false];rintro i (rfl | rfl) <;> omega⟩
  · obtain ⟨a,b,rfl,h1⟩:=h;exact ⟨by simp,by simp only [List.mem_cons,List.not_mem_nil,or_false];rintro i (rfl | rfl) <;> omega⟩
  · obtain ⟨a,b,c,rfl,h1,h2⟩:=h;exact ⟨by simp,by simp only [List.mem_cons,List.not_mem_nil,or_false];rintro i (rfl | rfl | rfl) <;> omega⟩
  · obtain ⟨a,b,c,rfl,h1,h2⟩:=h;exact ⟨by simp,by simp only [List.mem_cons,List.not_mem_nil,or_false];rintro i (rfl | rfl | rfl) <;> omega⟩
  · subst h;exact ⟨by simp,by simp⟩
  · obtain ⟨a,rfl,h1⟩:=h;exact ⟨by simp,by simp only [List.mem_cons,List.not_mem_nil,or_false];rintro i rfl;omega⟩
theorem Kd.UJ {k:Kd} {us:List Int} (h:k.ok us):(k.items us).length≤4∧∀ q∈k.items us,itS q:=by
  obtain ⟨h1,h2⟩:=Kd.small h
  refine ⟨by simp only [Kd.items,List.length_cons,List.length_map];omega,fun q hq=>?_⟩
  rcases List.mem_cons.mp hq with rfl | hq
  · show k.word.length≤101
    cases k <;> decide +kernel
  · obtain ⟨i,hi,rfl⟩:=List.mem_map.mp hq
    exact h2 i hi
theorem Ls {sep:Str} {m:Nat} (ts:List Str) (h:∀ t∈ts,t.length≤m):DW sep ts≤ts.length * (m + sep.length):=by
  have e:∀ (ts:List Str) (k:Nat),(∀ t∈ts,t.length≤m)→ts.foldl (fun n x=>n + x.length + sep.length) k≤k + ts.length * (m + sep.length):=by
    intro ts
    induction ts with
    | nil=>intro k _;simp
    | cons x r ih=>
      intro k h
      rw [List.foldl_cons,List.length_cons,Nat.add_mul]
      have h1:=ih (k + x.length + sep.length) fun t m=>h t (List.mem_cons_of_mem _ m)
      have h2:=h x List.mem_cons_self
      omega
  have:=e ts 0 h
  unfold DW
  omega
theorem join_le {sep:Str} {m:Nat}:∀ (ts:List Str),(∀ t∈ts,t.length≤m)→(Str.join sep ts).length≤ts.length * (m + sep.length)
  | [],_=>by simp [Str.join,Str.empty,Str.length]
  | [x],h=>by
    have:=h x List.mem_cons_self
    show x.length≤1 * (m + sep.length)
    omega
  | x::y::r,h=>by
    have e:=join_le (sep:=sep) (y::r) fun t m=>h t (List.mem_cons_of_mem _ m)
    have h2:=h x List.mem_cons_self
    show (x++sep++Str.join sep (y::r)).length≤_
    rw [Str.length_append,Str.length_append,List.length_cons (a:=x),Nat.add_mul]
    omega
def Kd.pU (k:Kd) (us:List Int):PyData:=.tuple (.str k.word::us.map .int)
def Kd.note (k:Kd) (us:List Int) (n:Int):PyData:=match k.span us with
  | some (l,h)=>.tuple [.int n,.int l,.int h,k.act us]
  | none=>.none
section
variable {P:Program} {w:World} {K:PySem.W.Frag} {mg:Str→Option Value} {base:Heap}
structure DC (K:PySem.W.Frag) (C bT:Addr):Prop where
  cl:lQ K C
  ca:PySem.W.findIn K (.ref C) "__class__"=some (some (.builtin "object.__class__"))
  gt:PySem.W.specialIn K (.builtin "object.__class__") "__get__"=some (some (.builtin "getset_descriptor.__get__"))
  tk:PySem.W.takesIn K (.builtin "object.__class__")=some true
  mo:PySem.W.mroIn K C (.type "object")=some true
  JX:PySem.W.kitOne K (.ref C) (.ref bT)=some true
theorem Bj {f:Str}:∀ {ns:List Str} {vs:List V},f∉ns→(ns.zip vs).lookup f=none
  | [],_,_=>rfl
  | n::ns,[],_=>rfl
  | n::ns,v::vs,h=>by
    rw [List.zip_cons_cons,List.lookup_cons]
    have:(f==n)=false:=by simpa using fun e:f=n=>h (by rw [e];exact List.mem_cons_self)
    rw [this]
    exact Bj fun m=>h (List.mem_cons_of_mem _ m)
theorem Ac (k:Kd) (us:List Int):(k.Ek us).lookup ("told":Str)=none:=Bj (show ("told":Str)∉k.names by cases k <;> decide +kernel)
theorem OO (k:Kd) (us:List Int):(k.Ek us).lookup ("span":Str)=none:=Bj (show ("span":Str)∉k.names by cases k <;> decide +kernel)
theorem Lu (k:Kd) (us:List Int):(k.Ek us).lookup ("action":Str)=none:=Bj (show ("action":Str)∉k.names by cases k <;> decide +kernel)
theorem rS {k:Kd} {us:List Int} (ok:k.ok us):SeqAt.shaped (k.pU us)=true:=by
  cases k
  · obtain ⟨a,b,rfl,_⟩:=ok;simp only [SeqAt.shaped,Kd.pU,List.map,PyData.canLay0,PyData.canLayAll0,PyData.depth,PyData.depthAll];decide +kernel
  · obtain ⟨a,rfl,_⟩:=ok;simp only [SeqAt.shaped,Kd.pU,List.map,PyData.canLay0,PyData.canLayAll0,PyData.depth,PyData.depthAll];decide +kernel
  · obtain ⟨a,b,rfl,_⟩:=ok;simp only [SeqAt.shaped,Kd.pU,List.map,PyData.canLay0,PyData.canLayAll0,PyData.depth,PyData.depthAll];decide +kernel
  · obtain ⟨a,b,rfl,_⟩:=ok;simp only [SeqAt.shaped,Kd.pU,List.map,PyData.canLay0,PyData.canLayAll0,PyData.depth,PyData.depthAll];decide +kernel
  · obtain ⟨a,b,c,rfl,_⟩:=ok;simp only [SeqAt.shaped,Kd.pU,List.map,PyData.canLay0,PyData.canLayAll0,PyData.depth,PyData.depthAll];decide +kernel
  · obtain ⟨a,b,c,rfl,_⟩:=ok;simp only [SeqAt.shaped,Kd.pU,List.map,PyData.canLay0,PyData.canLayAll0,PyData.depth,PyData.depthAll];decide +kernel
  · obtain rfl:=ok;simp only [SeqAt.shaped,Kd.pU,List.map,PyData.canLay0,PyData.canLayAll0,PyData.depth,PyData.depthAll];decide +kernel
  · obtain ⟨a,rfl,_⟩:=ok;simp only [SeqAt.shaped,Kd.pU,List.map,PyData.canLay0,PyData.canLayAll0,PyData.depth,PyData.depthAll];decide +kernel
def MV:Sp:=fun vs H Q _=>∃ i:Int,vs=[.int i]∧i.natAbs < 10 ^ 100∧Q (.str (m8 i)) H
def Bk:Sp:=fun vs H Q _=>∃ q:Itm,vs=[XC q]∧itS q∧Q (.str (Nv q)) H
def yN (K:PySem.W.Frag) (cs:Cs):Sp:=fun vs H Q _=>∃ a n k us,vs=[.ref a,.int n]∧Kd.ok k us∧gc (cs.at k) H a k us∧∀ v H',Ext K H H'→Is K H' (k.note us n) v→Q v H'
def J0 (K:PySem.W.Frag) (cs:Cs):Sp:=fun vs H Q _=>∃ a k us,vs=[.ref a]∧Kd.ok k us∧gc (cs.at k) H a k us∧∀ H',Ext K H H'→Q (.str (k.text us)) H'
def MW (K:PySem.W.Frag) (cs:Cs) (bT:Addr):Sp:=fun vs H Q _=>∃ a v k us,vs=[.ref a,v]∧Kd.ok k us∧gc (cs.at k) H a k us∧
  ((∃ b k' us',v=.ref b∧Kd.ok k' us'∧gc (cs.at k') H b k' us'∧∀ H',Ext K H H'→Q (.bl (PyData.eqv (k.pU us) (k'.pU us'))) H')∨(∃ t,Qd K H v t∧PySem.W.kitOne K t (.ref bT)=some false∧Q (.bl false) H))
def Iv (K:PySem.W.Frag):Sp:=fun vs H Q _=>∃ r k us,vs=[.ref r]∧tupQ K H r=some (Kd.told k us)∧Kd.ok k us∧Q (.bl true) H
def Bl (K:PySem.W.Frag) (cs:Cs):Sp:=fun vs H Q _=>∃ r k us,vs=[.ref r]∧tupQ K H r=some (Kd.told k us)∧Kd.ok k us∧∀ a H',Ext K H H'→gc (cs.at k) H' a k us→Q (.ref a) H'
theorem gc.ext {C:Addr} {H H':Hp} {a:Addr} {k:Kd} {us:List Int} (h:gc C H a k us) (x:Ext K H H'):gc C H' a k us:=let ⟨dx,e⟩:=h;⟨dx,x.at e⟩
theorem gc.ty {C bT:Addr} {H:Hp} {a:Addr} {k:Kd} {us:List Int} (h:gc C H a k us) (d:DC K C bT):uV K H (.ref a) (.ref C):=let ⟨_,e⟩:=h;.ins e d.cl d.ca d.gt d.tk d.mo
theorem Bm {H:Hp}:∀ us:List Int,cZ K H (us.map PyData.int) (us.map V.int)
  | []=>by unfold cZ;rfl
  | i::us=>by
    rw [List.map_cons,List.map_cons]
    unfold cZ
    exact ⟨_,_,rfl,by unfold Is;rfl,Bm us⟩
theorem MX {H:Hp} {T:Addr} {k:Kd} {us:List Int} (h:tupQ K H T=some (k.told us)):Is K H (k.pU us) (.ref T):=by
  unfold Kd.pU Is
  refine ⟨T,_,rfl,cD h,?_⟩
  unfold cZ
  exact ⟨_,_,rfl,by unfold Is;rfl,Bm us⟩
theorem Cr:ay ["number"] ["number"] (aa iJ):=⟨rfl,rfl,rfl,by decide +kernel,rfl,by decide +kernel,by decide +kernel⟩
theorem Ct {f:Addr} {fd:FuncData} (F:fc K "figures_of" "figures_of" iJ f fd) {br aG aC aP:Addr} {tE tM tN tF u1 u2 u3 u4 u5 u6 u7 u8 t1 t2 t3 t4:Tok} (B:B P w K mg br aG aC aP tE tM tN tF u1 u2 u3 u4 u5 u6 u7 u8 t1 t2 t3 t4):aL P w K mg base dF 1 f fd ["number"] MV:=by
  refine F.fM Cr (fun vs H Q E h=>?_) (fun cJ A outer s H vs Q E hr h=>?_)
  · obtain ⟨i,rfl,_⟩:=h
    rfl
  obtain ⟨i,rfl,h,q⟩:=h
  refine ⟨_,(aK (aU (vS Dz rfl B.str p9 (af (ev 0) az)))),?_⟩
  try walk_at "rn"
  exact ⟨ON h,q⟩
theorem Iw:ay ["thing"] ["thing"] (aa mO):=⟨rfl,rfl,rfl,by decide +kernel,rfl,by decide +kernel,by decide +kernel⟩
theorem Iz {f:Addr} {fd:FuncData} (F:fc K "word_of" "word_of" mO f fd) {br aG aC aP:Addr} {tE tM tN tF u1 u2 u3 u4 u5 u6 u7 u8 t1 t2 t3 t4:Tok} (B:B P w K mg br aG aC aP tE tM tN tF u1 u2 u3 u4 u5 u6 u7 u8 t1 t2 t3 t4) (mj:Callee P w K mg base "figures_of" 1 ["number"] MV):aL P w K mg base dF 2 f fd ["thing"] Bk:=by
  refine F.fM Iw (fun vs H Q E h=>?_) (fun cJ A outer s H vs Q E hr h=>?_)
  · obtain ⟨z,rfl,_⟩:=h
    rfl
  obtain ⟨z,rfl,sz,q⟩:=h
  refine ⟨_,(aK (aU (Ul (j4 (dH cE rfl B.isinstance bF (af (ev 0) (af (vR rfl B.str p9) az)))) (ev 0) (aI mj (hr.mono (by decide)) rfl (af (ev 0) az))))),?_⟩
  try walk_at "rn"
  cases z with
  | inl t=>exact ⟨_,.inl (.str _),true,rfl,q⟩
  | inr i=>exact ⟨_,.inl (.int _),false,rfl,i,rfl,sz,q⟩
theorem mq:ay ["self","number","span","low","high"] ["self","number"] (aa jm):=⟨rfl,rfl,rfl,by decide +kernel,rfl,by decide +kernel,by decide +kernel⟩
theorem wD {f:Addr} {fd:FuncData} (F:fc K "note" "Deed.note" jm f fd) {br aG aC aP:Addr} {tE tM tN tF u1 u2 u3 u4 u5 u6 u7 u8 t1 t2 t3 t4:Tok} (B:B P w K mg br aG aC aP tE tM tN tF u1 u2 u3 u4 u5 u6 u7 u8 t1 t2 t3 t4) {cs:Cs} (MS:∀ k:Kd,cQ P w K mg base (cs.at k) "span" 1 ["self"] [] (jH K k (cs.at k))) (MA:∀ k:Kd,cQ P w K mg base (cs.at k) "action" 1 ["self"] [] (n8 K k (cs.at k))) {bT:Addr} (dc:∀ k:Kd,DC K (cs.at k) bT):aL P w K mg base dF 2 f fd ["self","number"] (yN K cs):=by
  refine F.fM mq (fun vs H Q E h=>?_) (fun cJ A outer s H vs Q E hr h=>?_)
  · obtain ⟨a,n,k,us,rfl,_⟩:=h
    rfl
  obtain ⟨a,n,k,us,rfl,ok,ha,q⟩:=h
  refine ⟨_,(aE (sset (i:=2) mq.nd rfl (Or.inl rfl) (rQ (MS k) (dc k).cl (hr.mono (by decide)) (ev 0)))
      (aE (nQ (eV Dy (ev 2) uX (aO _)) (aK (aU uX)) fq)
      (aE (qc (ev 2) (kc (n:=2) rfl (cK (bG (i:=3) mq.nd rfl (Or.inl rfl)) (cK (bG (i:=4) mq.nd rfl (Or.inl rfl)) pG))))
      (aK (aU (bU (af (ev 1) (af (ev 3) (af (ev 4) (af (rQ (MA k) (dc k).cl (hr.mono (by decide)) (ev 0)) az)))))))))),?_⟩
  try walk_at "rn"
  obtain ⟨dx,e⟩:=ha
  refine ⟨dx,_,e,OO k us,a,us,rfl,ok,⟨dx,e⟩,?_⟩
  unfold Kd.note at q
  cases yg:k.span us with
  | none=>
    rw [yg] at q
    exact gS rfl (q _ _ Ext.refl (by unfold Is;rfl))
  | some lh=>
    obtain ⟨l,h⟩:=lh
    rw [yg] at q
    intro T nT
    refine aS (by simp) ⟨T,rfl,_,ao,rfl,_,_,rfl,_,_,rfl,rfl,dx,_,(Ext.new nT).at e,Lu k us,a,us,rfl,ok,⟨dx,(Ext.new nT).at e⟩,fun v H' x' hv=>?_⟩
    intro T2 n2
    refine q _ _ ((Ext.new nT).trans (x'.trans (Ext.new n2))) ?_
    unfold Is
    refine ⟨T2,_,rfl,cD ao,?_⟩
    simp only [cZ]
    exact ⟨_,_,rfl,by unfold Is;rfl,_,_,rfl,by unfold Is;rfl,_,_,rfl,by unfold Is;rfl,_,_,rfl,Is.same (Ext.new n2).same hv,rfl⟩
theorem z4:ay ["self"] ["self"] (aa fX):=⟨rfl,rfl,rfl,by decide +kernel,rfl,by decide +kernel,by decide +kernel⟩
theorem qV {f:Addr} {fd:FuncData} (F:fc K "__str__" "Deed.__str__" fX f fd) {br aG aC aP:Addr} {tE tM tN tF u1 u2 u3 u4 u5 u6 u7 u8 t1 t2 t3 t4:Tok} (B:B P w K mg br aG aC aP tE tM tN tF u1 u2 u3 u4 u5 u6 u7 u8 t1 t2 t3 t4) {cs:Cs} (MT:∀ k:Kd,cQ P w K mg base (cs.at k) "told" 1 ["self"] [] (gf K k (cs.at k))) {bT:Addr} (dc:∀ k:Kd,DC K (cs.at k) bT) (mR:Callee P w K mg base "word_of" 2 ["thing"] Bk):aL P w K mg base dF 3 f fd ["self"] (J0 K cs):=by
  refine F.fM z4 (fun vs H Q E h=>?_) (fun cJ A outer s H vs Q E hr h=>?_)
  · obtain ⟨a,k,us,rfl,_⟩:=h
    rfl
  obtain ⟨a,k,us,rfl,ok,ha,q⟩:=h
  refine ⟨_,(aK (aU (Qc PySem.F.plainAttrs_str PySem.F.slot_str_join PySem.F.type_str_join Ow gK (af (Ri (vY.mk (N:=["thing"]) (src:=[none]) rfl rfl) rfl (Uq (rQ (MT k) (dc k).cl (hr.mono (by decide)) (ev 0))) (fun _ _ _ _=>(bG (i:=0) (show (["thing"]:List Str).Nodup from by decide +kernel) rfl (Or.inl rfl))) (fun _ _ _ _=>AJ) (fun _ _ _ _=>(aI mR (hr.mono (by decide)) rfl (af (ev 0) az)))) az)))),?_⟩
  try walk_at "rn"
  obtain ⟨dx,e⟩:=ha
  obtain ⟨z1,z2⟩:=Kd.UJ ok
  refine ⟨dx,_,e,Ac k us,a,us,rfl,ok,⟨dx,e⟩,fun T nT=>⟨T,rfl,⟨_,cD ao⟩,fun D nD=>?_⟩⟩
  have hk:tupQ K (upd H T (.tup (k.told us))) T=some ((k.items us).map XC):=by rw [← Kd.Iu];exact ao
  refine MQ (f:=XC) (g:=fun q=>V.str (Nv q)) hk nD (by omega) (fun z hz H' Q' xx qq=>?_) (fun H1 hD x1=>?_)
  · try walk_at "rn"
    exact ⟨z,rfl,z2 z hz,qq _ Ext.refl⟩
  have z3:∀ t∈(k.items us).map Nv,t.length≤101:=fun t ht=>by
    obtain ⟨z,hz,rfl⟩:=List.mem_map.mp ht
    exact JZ (z2 z hz)
  have l1:=Ls (sep:=Str.ofString " ") _ z3
  have l2:=join_le (sep:=Str.ofString " ") _ z3
  rw [List.length_map,show (Str.ofString " ").length=1 from by decide +kernel] at l1 l2
  have sz:=sizeLine_eq
  refine ⟨_,D,(k.items us).map Nv,rfl,rfl,by rw [List.map_map];exact fE.of hD,by omega,by omega,q _ ((Ext.new nT).trans x1)⟩
theorem Bo:ay ["self","other"] ["self","other"] (aa g5):=⟨rfl,rfl,rfl,by decide +kernel,rfl,by decide +kernel,by decide +kernel⟩
theorem rT {f:Addr} {fd:FuncData} (F:fc K "__eq__" "Deed.__eq__" g5 f fd) {br aG aC aP:Addr} {tE tM tN tF u1 u2 u3 u4 u5 u6 u7 u8 t1 t2 t3 t4:Tok} (B:B P w K mg br aG aC aP tE tM tN tF u1 u2 u3 u4 u5 u6 u7 u8 t1 t2 t3 t4) {cs:Cs} (MT:∀ k:Kd,cQ P w K mg base (cs.at k) "told" 1 ["self"] [] (gf K k (cs.at k))) {bT:Addr} (dc:∀ k:Kd,DC K (cs.at k) bT) (Dd:mg "Deed"=some (.ref bT)):aL P w K mg base dF 2 f fd ["self","other"] (MW K cs bT):=by
  refine F.fM Bo (fun vs H Q E h=>?_) (fun cJ A outer s H vs Q E hr h=>?_)
  · obtain ⟨a,v,k,us,rfl,_⟩:=h
    rfl
  obtain ⟨a,v,k,us,rfl,ok,⟨dx,ea⟩,⟨b,k',us',rfl,ok',hb,q⟩ | ⟨t,ty,kt,q⟩⟩:=h
  · refine ⟨_,(aK (aU (qb (dH uc rfl B.isinstance bF (af (ev 1) (af (ig rfl Dd (show RelV (.ref bT) (.ref bT) from rfl)) az))) (rB (rM (yk hr.units) (rQ (MT k) (dc k).cl (hr.mono (by decide)) (ev 0)) (rQ (MT k') (dc k').cl (hr.mono (by decide)) (ev 1)) (aO _)))))),?_⟩
    try walk_at "rn"
    refine ⟨_,.inl (hb.ty (dc k')),true,(dc k').JX,gS rfl ?_⟩
    obtain ⟨dy,eb⟩:=hb
    exact ⟨dx,_,ea,Ac k us,a,us,rfl,ok,⟨dx,ea⟩,fun T nT=>⟨dy,_,(Ext.new nT).at eb,Ac k' us',b,us',rfl,ok',⟨dy,(Ext.new nT).at eb⟩,fun T2 n2=>⟨_,MX ((Ext.new n2).tup ao),_,MX ao,rS ok,rS ok',q _ ((Ext.new nT).trans (Ext.new n2))⟩⟩⟩
  · obtain ⟨k',_⟩:∃ k':Kd,k'=k:=⟨k,rfl⟩
    refine ⟨_,(aK (aU (qb (dH uc rfl B.isinstance bF (af (ev 1) (af (ig rfl Dd (show RelV (.ref bT) (.ref bT) from rfl)) az))) (rB (rM (yk hr.units) (rQ (MT k) (dc k).cl (hr.mono (by decide)) (ev 0)) (rQ (MT k') (dc k').cl (hr.mono (by decide)) (ev 1)) (aO _)))))),?_⟩
    try walk_at "rn"
    exact ⟨t,ty,false,kt,aS (by decide) q⟩
theorem Gz:ay ["told"] ["told"] (aa kM):=⟨rfl,rfl,rfl,by decide +kernel,rfl,by decide +kernel,by decide +kernel⟩
theorem GA {f:Addr} {fd:FuncData} (F:fc K "has_form" "has_form" kM f fd) {br aG aC aP:Addr} {tE tM tN tF u1 u2 u3 u4 u5 u6 u7 u8 t1 t2 t3 t4:Tok} (B:B P w K mg br aG aC aP tE tM tN tF u1 u2 u3 u4 u5 u6 u7 u8 t1 t2 t3 t4):aL P w K mg base dF 1 f fd ["told"] (Iv K):=by
  refine F.fM Gz (fun vs H Q E h=>?_) (fun cJ A outer s H vs Q E hr h=>?_)
  · obtain ⟨r,k,us,rfl,_⟩:=h
    rfl
  obtain ⟨r,k,us,rfl,hr1,ok,q⟩:=h
  refine ⟨_,(aE (nQ (tw (B4 (lF (j4 (dH cE rfl B.isinstance bF (af (ev 0) (af (vR rfl B.tuple pF) az))))) (B4 (eV mV (dH kq rfl B.len rL (af (ev 0) az)) ei (aO _)) (rC (lF (j4 (dH cE rfl B.isinstance bF (af (ko ez (ev 0) ei (fun _ _=>rfl)) (af (vR rfl B.str p9) az))))))))) (aK (aU yj)) fq)
      (aK (aU (qb (rM (Oz B.things) (ko ez (ev 0) ei (fun _ _=>rfl)) (ig rfl B.MG B.C8) (by with_unfolding_all rfl)) (rB (rM mV (dH kq rfl B.len rL (af (ev 0) az)) (Rt B.things (ig rfl B.MG B.C8) (ko ez (ev 0) ei (fun _ _=>rfl)) (fun _ _=>rfl)) (aO _))))))),?_⟩
  try walk_at "rn"
  refine ⟨_,.inr ⟨_,_,rfl,hr1,rfl⟩,true,rfl,?_⟩
  simp_arith [dw hr1]
  cases k
  · obtain ⟨a,b,rfl,_⟩:=ok
    exact aS (by simp [Kd.told]) ⟨_,cB,_,.inl (.str _),true,rfl,aS (by decide) ⟨_,cB,.inr "put",rfl,gS rfl ⟨_,cB,.inr "put",rfl,.int 3,.int 3 u1,rfl,⟨_,rfl⟩,rfl,q⟩⟩⟩
  · obtain ⟨a,rfl,_⟩:=ok
    exact aS (by simp [Kd.told]) ⟨_,cB,_,.inl (.str _),true,rfl,aS (by decide) ⟨_,cB,.inr "drop",rfl,gS rfl ⟨_,cB,.inr "drop",rfl,.int 2,.int 2 u2,rfl,⟨_,rfl⟩,rfl,q⟩⟩⟩
  · obtain ⟨a,b,rfl,_⟩:=ok
    exact aS (by simp [Kd.told]) ⟨_,cB,_,.inl (.str _),true,rfl,aS (by decide) ⟨_,cB,.inr "add",rfl,gS rfl ⟨_,cB,.inr "add",rfl,.int 3,.int 3 u3,rfl,⟨_,rfl⟩,rfl,q⟩⟩⟩
  · obtain ⟨a,b,rfl,_⟩:=ok
    exact aS (by simp [Kd.told]) ⟨_,cB,_,.inl (.str _),true,rfl,aS (by decide) ⟨_,cB,.inr "wipe",rfl,gS rfl ⟨_,cB,.inr "wipe",rfl,.int 3,.int 3 u4,rfl,⟨_,rfl⟩,rfl,q⟩⟩⟩
  · obtain ⟨a,b,c,rfl,_⟩:=ok
    exact aS (by simp [Kd.told]) ⟨_,cB,_,.inl (.str _),true,rfl,aS (by decide) ⟨_,cB,.inr "raise",rfl,gS rfl ⟨_,cB,.inr "raise",rfl,.int 4,.int 4 u5,rfl,⟨_,rfl⟩,rfl,q⟩⟩⟩
  · obtain ⟨a,b,c,rfl,_⟩:=ok
    exact aS (by simp [Kd.told]) ⟨_,cB,_,.inl (.str _),true,rfl,aS (by decide) ⟨_,cB,.inr "level",rfl,gS rfl ⟨_,cB,.inr "level",rfl,.int 4,.int 4 u6,rfl,⟨_,rfl⟩,rfl,q⟩⟩⟩
  · obtain rfl:=ok
    exact aS (by simp [Kd.told]) ⟨_,cB,_,.inl (.str _),true,rfl,aS (by decide) ⟨_,cB,.inr "mark",rfl,gS rfl ⟨_,cB,.inr "mark",rfl,.int 1,.int 1 u7,rfl,⟨_,rfl⟩,rfl,q⟩⟩⟩
  · obtain ⟨a,rfl,_⟩:=ok
    exact aS (by simp [Kd.told]) ⟨_,cB,_,.inl (.str _),true,rfl,aS (by decide) ⟨_,cB,.inr "forget",rfl,gS rfl ⟨_,cB,.inr "forget",rfl,.int 2,.int 2 u8,rfl,⟨_,rfl⟩,rfl,q⟩⟩⟩
end
section
variable {P:Program} {w:World} {K:PySem.W.Frag} {mg:Str→Option Value} {base:Heap}
theorem n9 {C:Addr} {k:Kd} {us:List Int} {H:Hp} {Q:VK} (ok:k.ok us) (q:∀ a H',Ext K H H'→gc C H' a k us→Q (.ref a) H'):
    ∀ x dx,new K H x→new K H dx→dx≠x→bu k C (.ref x::(us.map V.int++[.str "no more"])) (upd (upd H dx (.own x)) x (.ins C dx [])) (fun v H2=>v=.eO∧Q (.ref x) H2) E0:=by
  intro x dx n1 n2 ne
  refine ⟨x,dx,us,rfl,ok,av,rfl,q _ _ ?_ ⟨dx,av⟩⟩
  rw [mh]
  exact Ext.made n1 n2 ne
theorem Bp:ay ["told","word"] ["told"] (aa mP):=⟨rfl,rfl,rfl,by decide +kernel,rfl,by decide +kernel,by decide +kernel⟩
theorem Bq {f:Addr} {fd:FuncData} (F:fc K "deed_of" "deed_of" mP f fd) {br aG aC aP:Addr} {tE tM tN tF u1 u2 u3 u4 u5 u6 u7 u8 t1 t2 t3 t4:Tok} (B:B P w K mg br aG aC aP tE tM tN tF u1 u2 u3 u4 u5 u6 u7 u8 t1 t2 t3 t4) {cs:Cs} (kQ:Callee P w K mg base "has_form" 1 ["told"] (Iv K)) (uh:Maker P w K mg base "Put" 4 ["self","key","value","more"] [.str "no more"] cs.aM (bu .put cs.aM)) (oH:Maker P w K mg base "Drop" 4 ["self","key","more"] [.str "no more"] cs.aD (bu .drop cs.aD)) (um:Maker P w K mg base "Add" 4 ["self","key","by","more"] [.str "no more"] cs.aN (bu .add cs.aN)) (oJ:Maker P w K mg base "Wipe" 4 ["self","low","high","more"] [.str "no more"] cs.aA (bu .wipe cs.aA)) (kX:Maker P w K mg base "Raise" 4 ["self","low","high","by","more"] [.str "no more"] cs.aq (bu .raise cs.aq)) (kY:Maker P w K mg base "Level" 4 ["self","low","high","value","more"] [.str "no more"] cs.au (bu .level cs.au)) (yO:Maker P w K mg base "Mark" 2 ["self","more"] [.str "no more"] cs.aJ (bu .mark cs.aJ)) (i7:Maker P w K mg base "Forget" 3 ["self","mark","more"] [.str "no more"] cs.ak (bu .forget cs.ak)):aL P w K mg base dF 6 f fd ["told"] (Bl K cs):=by
  refine F.fM Bp (fun vs H Q E h=>?_) (fun cJ A outer s H vs Q E hr h=>?_)
  · obtain ⟨r,k,us,rfl,_⟩:=h
    rfl
  obtain ⟨r,k,us,rfl,hr1,ok,q⟩:=h
  refine ⟨_,(aE (nQ (lF (j4 (aI kQ (hr.mono (by decide)) rfl (af (ev 0) az)))) (aK u9) fq)
      (aE (sset (i:=1) Bp.nd rfl (Or.inl rfl) (ko ez (ev 0) ei (fun _ _=>rfl)))
      (aE (nQ (eV mV (ev 1) gK (aO _)) (aK (aU (nR uh (hr.mono (by decide)) rfl (af (ko ez (ev 0) ei (fun _ _=>rfl)) (af (ko ez (ev 0) ei (fun _ _=>rfl)) az))))) fq)
      (aE (nQ (eV mV (ev 1) gK (aO _)) (aK (aU (nR oH (hr.mono (by decide)) rfl (af (ko ez (ev 0) ei (fun _ _=>rfl)) az)))) fq)
      (aE (nQ (eV mV (ev 1) gK (aO _)) (aK (aU (nR um (hr.mono (by decide)) rfl (af (ko ez (ev 0) ei (fun _ _=>rfl)) (af (ko ez (ev 0) ei (fun _ _=>rfl)) az))))) fq)
      (aE (nQ (eV mV (ev 1) gK (aO _)) (aK (aU (nR oJ (hr.mono (by decide)) rfl (af (ko ez (ev 0) ei (fun _ _=>rfl)) (af (ko ez (ev 0) ei (fun _ _=>rfl)) az))))) fq)
      (aE (nQ (eV mV (ev 1) gK (aO _)) (aK (aU (nR kX (hr.mono (by decide)) rfl (af (ko ez (ev 0) ei (fun _ _=>rfl)) (af (ko ez (ev 0) ei (fun _ _=>rfl)) (af (ko ez (ev 0) ei (fun _ _=>rfl)) az)))))) fq)
      (aE (nQ (eV mV (ev 1) gK (aO _)) (aK (aU (nR kY (hr.mono (by decide)) rfl (af (ko ez (ev 0) ei (fun _ _=>rfl)) (af (ko ez (ev 0) ei (fun _ _=>rfl)) (af (ko ez (ev 0) ei (fun _ _=>rfl)) az)))))) fq)
      (aE (nQ (eV mV (ev 1) gK (aO _)) (aK (aU (Ru yO (hr.mono (by decide)) rfl))) fq)
      (aK (aU (nR i7 (hr.mono (by decide)) rfl (af (ko ez (ev 0) ei (fun _ _=>rfl)) az))))))))))))),?_⟩
  try walk_at "rn"
  refine ⟨r,k,us,rfl,hr1,ok,true,rfl,?_⟩
  simp_arith [dw hr1]
  refine ⟨_,cB,?_⟩
  cases k
  · have IA:=ok
    obtain ⟨u,v,rfl,o1,o2⟩:=ok
    exact ⟨rfl,gS rfl (⟨_,rfl,⟨_,rfl,n9 (C:=cs.aM) IA q⟩⟩)⟩
  · have IA:=ok
    obtain ⟨u,rfl,o1⟩:=ok
    exact ⟨rfl,aS (show ¬ (V.str "drop"=V.str "put") by decide +kernel) ( ⟨rfl,gS rfl (⟨_,rfl,n9 (C:=cs.aD) IA q⟩)⟩)⟩
  · have IA:=ok
    obtain ⟨u,v,rfl,o1,o2⟩:=ok
    exact ⟨rfl,aS (show ¬ (V.str "add"=V.str "put") by decide +kernel) ( ⟨rfl,aS (show ¬ (V.str "add"=V.str "drop") by decide +kernel) ( ⟨rfl,gS rfl (⟨_,rfl,⟨_,rfl,n9 (C:=cs.aN) IA q⟩⟩)⟩)⟩)⟩
  · have IA:=ok
    obtain ⟨u,v,rfl,o1⟩:=ok
    exact ⟨rfl,aS (show ¬ (V.str "wipe"=V.str "put") by decide +kernel) ( ⟨rfl,aS (show ¬ (V.str "wipe"=V.str "drop") by decide +kernel) ( ⟨rfl,aS (show ¬ (V.str "wipe"=V.str "add") by decide +kernel) ( ⟨rfl,gS rfl (⟨_,rfl,⟨_,rfl,n9 (C:=cs.aA) IA q⟩⟩)⟩)⟩)⟩)⟩
  · have IA:=ok
    obtain ⟨u,v,x,rfl,o1,o2⟩:=ok
    exact ⟨rfl,aS (show ¬ (V.str "raise"=V.str "put") by decide +kernel) ( ⟨rfl,aS (show ¬ (V.str "raise"=V.str "drop") by decide +kernel) ( ⟨rfl,aS (show ¬ (V.str "raise"=V.str "add") by decide +kernel) ( ⟨rfl,aS (show ¬ (V.str "raise"=V.str "wipe") by decide +kernel) ( ⟨rfl,gS rfl (⟨_,rfl,⟨_,rfl,⟨_,rfl,n9 (C:=cs.aq) IA q⟩⟩⟩)⟩)⟩)⟩)⟩)⟩
  · have IA:=ok
    obtain ⟨u,v,x,rfl,o1,o2⟩:=ok
    exact ⟨rfl,aS (show ¬ (V.str "level"=V.str "put") by decide +kernel) ( ⟨rfl,aS (show ¬ (V.str "level"=V.str "drop") by decide +kernel) ( ⟨rfl,aS (show ¬ (V.str "level"=V.str "add") by decide +kernel) ( ⟨rfl,aS (show ¬ (V.str "level"=V.str "wipe") by decide +kernel) ( ⟨rfl,aS (show ¬ (V.str "level"=V.str "raise") by decide +kernel) ( ⟨rfl,gS rfl (⟨_,rfl,⟨_,rfl,⟨_,rfl,n9 (C:=cs.au) IA q⟩⟩⟩)⟩)⟩)⟩)⟩)⟩)⟩
  · have IA:=ok
    obtain rfl:=ok
    exact ⟨rfl,aS (show ¬ (V.str "mark"=V.str "put") by decide +kernel) ( ⟨rfl,aS (show ¬ (V.str "mark"=V.str "drop") by decide +kernel) ( ⟨rfl,aS (show ¬ (V.str "mark"=V.str "add") by decide +kernel) ( ⟨rfl,aS (show ¬ (V.str "mark"=V.str "wipe") by decide +kernel) ( ⟨rfl,aS (show ¬ (V.str "mark"=V.str "raise") by decide +kernel) ( ⟨rfl,aS (show ¬ (V.str "mark"=V.str "level") by decide +kernel) ( ⟨rfl,gS rfl (n9 (C:=cs.aJ) IA q)⟩)⟩)⟩)⟩)⟩)⟩)⟩
  · have IA:=ok
    obtain ⟨u,rfl,o1,o2⟩:=ok
    exact ⟨rfl,aS (show ¬ (V.str "forget"=V.str "put") by decide +kernel) ( ⟨rfl,aS (show ¬ (V.str "forget"=V.str "drop") by decide +kernel) ( ⟨rfl,aS (show ¬ (V.str "forget"=V.str "add") by decide +kernel) ( ⟨rfl,aS (show ¬ (V.str "forget"=V.str "wipe") by decide +kernel) ( ⟨rfl,aS (show ¬ (V.str "forget"=V.str "raise") by decide +kernel) ( ⟨rfl,aS (show ¬ (V.str "forget"=V.str "level") by decide +kernel) ( ⟨rfl,aS (show ¬ (V.str "forget"=V.str "mark") by decide +kernel) ( ((⟨_,rfl,n9 (C:=cs.ak) IA q⟩)))⟩)⟩)⟩)⟩)⟩)⟩)⟩
end
theorem GB {c:Nat}:∀ {p q A B:List Nat},c∉p→c∉q→p++c::A=q++c::B→p=q∧A=B
  | [],[],A,B,_,_,h=>by simpa using h
  | [],y::q,A,B,_,hq,h=>by
    have:=(List.cons.inj h).1
    exact absurd (by rw [this];exact List.mem_cons_self) hq
  | x::p,[],A,B,hp,_,h=>by
    have:=(List.cons.inj h).1
    exact absurd (by rw [← this];exact List.mem_cons_self) hp
  | x::p,y::q,A,B,hp,hq,h=>by
    obtain ⟨h1,h2⟩:=List.cons.inj h
    obtain ⟨e1,e2⟩:=GB (fun m=>hp (List.mem_cons_of_mem _ m)) (fun m=>hq (List.mem_cons_of_mem _ m)) h2
    exact ⟨by rw [h1,e1],e2⟩
theorem Ab {x y:Str} (h:x.cps.toList=y.cps.toList):x=y:=by
  cases x;cases y
  simp only at h
  rw [Array.toList_inj.mp h]
theorem wF (c:Nat) (x y:Str) (r:List Str):(Str.join ⟨#[c]⟩ (x::y::r)).cps.toList=x.cps.toList++c::(Str.join ⟨#[c]⟩ (y::r)).cps.toList:=by
  show (x++⟨#[c]⟩++Str.join ⟨#[c]⟩ (y::r)).cps.toList=_
  rw [Jx,Jx]
  simp
theorem GC {c:Nat}:∀ {ps qs:List Str},ps≠[]→qs≠[]→(∀ p∈ps,c∉p.cps.toList)→(∀ p∈qs,c∉p.cps.toList)→Str.join ⟨#[c]⟩ ps=Str.join ⟨#[c]⟩ qs→ps=qs
  | [],_,h,_,_,_,_=>absurd rfl h
  | _::_,[],_,h,_,_,_=>absurd rfl h
  | [x],[y],_,_,_,_,h=>by
    have:x=y:=h
    rw [this]
  | [x],y::z::r,_,_,hp,_,h=>by
    have h:=congrArg (fun s=>s.cps.toList) h
    rw [wF] at h
    have:c∈x.cps.toList:=by
      show c∈(Str.join ⟨#[c]⟩ [x]).cps.toList
      rw [h];simp
    exact absurd this (hp x List.mem_cons_self)
  | x::z::r,[y],_,_,_,hq,h=>by
    have h:=congrArg (fun s=>s.cps.toList) h
    rw [wF] at h
    have:c∈y.cps.toList:=by
      show c∈(Str.join ⟨#[c]⟩ [y]).cps.toList
      rw [← h];simp
    exact absurd this (hq y List.mem_cons_self)
  | x::x2::r,y::y2::s,_,_,hp,hq,h=>by
    have h:=congrArg (fun s=>s.cps.toList) h
    rw [wF,wF] at h
    obtain ⟨e1,e2⟩:=GB (hp x List.mem_cons_self) (hq y List.mem_cons_self) h
    rw [Ab e1,GC (by simp) (by simp) (fun p m=>hp p (List.mem_cons_of_mem _ m)) (fun p m=>hq p (List.mem_cons_of_mem _ m)) (Ab e2)]
theorem MY (x:Str) (c:Nat):Txt.split x ⟨#[c]⟩≠[]:=by
  unfold Txt.split
  split
  · simp
  · split
    · simp
    · rw [StrLaws.partsBetween_eq]
      cases Builtin.Str.occurrences x ⟨#[c]⟩ 0 x.length (x.length + 1) <;> simp [StrLaws.partsFrom]
theorem IB {c:Nat} {ps:List Str} (h0:ps≠[]) (h:∀ p∈ps,c∉p.cps.toList):Txt.split (Str.join ⟨#[c]⟩ ps) ⟨#[c]⟩=ps:=
  GC (MY _ _) h0 (StrLaws.split_free _ _) h (StrLaws.join_split _ _)
theorem MZ:Str.ofString " "=⟨#[32]⟩:=by decide +kernel
theorem Cu:∀ m:Nat,0 < m→(Nat.toDigits 10 m).head?≠some '0':=by
  intro m
  induction m using Nat.strongRecOn with
  | _ m ih=>
    intro hm
    by_cases h:m < 10
    · rw [Nat.toDigits_of_lt_base h]
      have:∀ d,d < 10→0 < d→([Nat.digitChar d]:List Char).head?≠some '0':=by decide
      exact this m h hm
    · have e:=Nat.toDigits_append_toDigits (b:=10) (n:=m / 10) (d:=m % 10) (by decide) (by omega) (by omega)
      rw [show 10 * (m / 10) + m % 10=m by omega] at e
      rw [← e]
      have:=ih (m / 10) (by omega) (by omega)
      cases q:Nat.toDigits 10 (m / 10) with
      | nil=>have:=PySem.toDigits_len_ge 10 (m / 10);rw [q] at this;simp at this
      | cons a r=>rw [q] at this;simpa using this
theorem Lv (m:Nat) (h:m < 10 ^ 60):let l:=(Nat.toDigits 10 m).map Char.toNat;l≠[]∧l.all we=true∧l.length≤60∧(l.head?=some 48→l=[48])∧NumText.digitsVal l=m:=by
  refine ⟨?_,?_,?_,?_,PySem.W.KIN.val_back m⟩
  · intro e
    have:=PySem.toDigits_len_ge 10 m
    rw [List.map_eq_nil_iff.mp e] at this
    simp at this
  · rw [List.all_eq_true]
    intro c hc
    obtain ⟨ch,Lz,e⟩:=List.mem_map.mp hc
    have r:=PyProof.Rows.digit_range (Nat.isDigit_of_mem_toDigits (by decide) (by decide) Lz)
    rw [← e]
    simp only [we,Bool.and_eq_true,decide_eq_true_eq]
    exact r
  · rw [List.length_map]
    have:=PySem.digitsCore_len_pow 10 (by decide) 60 (m + 1) m [] (by decide) h
    simpa [Nat.toDigits] using this
  · intro e
    by_cases z:m=0
    · subst z;decide
    · exfalso
      have:=Cu m (by omega)
      cases q:Nat.toDigits 10 m with
      | nil=>rw [q] at e;simp at e
      | cons a r=>
        rw [q] at e this
        simp only [List.map_cons,List.head?_cons,Option.some.injEq] at e this
        exact this (congrArg some (Char.toNat_inj.mp (e.trans (by decide))))
theorem OP (i:Int):(m8 i).cps.toList=if i < 0 then 45::(Nat.toDigits 10 i.natAbs).map Char.toNat else (Nat.toDigits 10 i.natAbs).map Char.toNat:=by
  unfold m8
  cases i with
  | ofNat m=>
    rw [if_neg (by simp)]
    exact PySem.W.KIN.signs_num m
  | negSucc m=>
    rw [if_pos (by omega),PyProof.Rows.signs_ofString]
    show ("-"++Nat.repr (m + 1)).toList.map Char.toNat=_
    rw [String.toList_append,List.map_append,Nat.toList_repr]
    rfl
theorem OQ {i:Int} (h:i.natAbs < 10 ^ 60):HZ (m8 i).cps.toList=true∧MC (m8 i).cps.toList=i:=by
  obtain ⟨h1,h2,h3,h4,h5⟩:=Lv i.natAbs h
  rw [OP]
  split
  · rename_i neg
    refine ⟨?_,?_⟩
    · simp only [HZ,lH,Bool.and_eq_true,Bool.not_eq_true',List.isEmpty_eq_false_iff,decide_eq_true_eq,Bool.and_eq_false_imp,decide_eq_false_iff_not,ne_eq,Classical.not_not]
      refine ⟨⟨⟨h1,h2⟩,h3⟩,fun e=>?_⟩
      have:=h4 e
      rw [this] at h5
      have:i.natAbs=0:=by rw [← h5];decide
      omega
    · simp only [MC]
      rw [h5]
      omega
  · rename_i neg
    have OD:((Nat.toDigits 10 i.natAbs).map Char.toNat).head?≠some 45:=fun e=>by
      have:=List.all_eq_true.mp h2 45 (List.mem_of_head? e)
      exact absurd this (by decide)
    rw [JH OD]
    refine ⟨?_,by rw [h5];omega⟩
    simp only [HZ,wg OD,Bool.and_eq_true,Bool.not_eq_true',List.isEmpty_eq_false_iff,decide_eq_true_eq,Bool.and_eq_false_imp,decide_eq_false_iff_not,ne_eq,Classical.not_not]
    exact ⟨⟨⟨h1,h2⟩,h3⟩,h4⟩
theorem OR {α:Type} {K:PySem.W.Frag} {c D:Addr} {L:List α} {f g:α→V} {te:TE} {v0:Option V} {rest:St} {H:Hp} {Q:Hp→Prop} (hk:H c=some (.lst (L.map f))) (nD:new K H D) (hz:L.length≤1000)
    (elt:∀ q∈L,∀ H' (Q:VK),Ext K H H'→(∀ H'',Ext K H' H''→Q (g q) H'')→te (some (f q)::rest) H' Q)
    (fin:∀ H',H' D=some (.lst (L.map g))→Ext K H H'→Q H'):iy (GU K c) (cY 0) iU te D Q (v0::rest) (upd H D (.lst [])):=by
  refine vZ (xs:=L.map f) (fun i acc σ' H'=>∃ (v0:Option V),σ'=v0::rest∧H' D=some (.lst acc)∧acc=(L.take i).map g∧Kp K D (upd H D (.lst [])) H') ?_ ?_ ?_ ?_
  · exact ⟨_,rfl,av,rfl,Kp.refl⟩
  · rintro i acc σ' H' _ ⟨v0,rfl,hD,rfl,k⟩
    exact fE.of ((k.ext nD).at hk)
  · rintro i x acc σ' H' hx ⟨v0,rfl,hD,rfl,k⟩
    rw [List.getElem?_map] at hx
    obtain ⟨q,ek,rfl⟩:=Option.map_eq_some_iff.mp hx
    have hlen:((L.take i).map g).length≤1000:=by rw [List.length_map,List.length_take];omega
    unfold cY iU
    refine KR ?_
    refine elt q (List.mem_of_getElem? ek) H' _ (k.ext nD) fun H'' x''=>⟨x''.at hD,Nat.lt_of_le_of_lt hlen (by decide),_,rfl,av,?_,k.trans (x''.kp.trans (Kp.upd (x''.at hD)))⟩
    rw [List.take_add_one,ek,Option.toList_some,List.map_append]
    rfl
  · rintro acc σ' H' ⟨v0,rfl,hD,rfl,k⟩
    rw [List.length_map,List.take_length] at hD
    exact fin H' hD (k.ext nD)
section
variable {P:Program} {w:World} {K:PySem.W.Frag} {mg:Str→Option Value} {base:Heap}
def M0:Sp:=fun vs H Q _=>∃ t:Str,vs=[.str t]∧t.length≤16777216∧Q (.bl (Txt.isascii t&&Txt.isdigit t&&decide (t.length≤60))) H
def RH:Sp:=fun vs H Q _=>∃ i:Int,vs=[.str (m8 i)]∧i.natAbs < 10 ^ 60∧Q (.int i) H
def OS (K:PySem.W.Frag) (cs:Cs):Sp:=fun vs H Q _=>∃ k us,vs=[.str (Kd.text k us)]∧Kd.ok k us∧∀ a H',Ext K H H'→gc (cs.at k) H' a k us→Q (.ref a) H'
theorem Br:ay ["text"] ["text"] (aa gY):=⟨rfl,rfl,rfl,by decide +kernel,rfl,by decide +kernel,by decide +kernel⟩
theorem Bs {f:Addr} {fd:FuncData} (F:fc K "are_figures" "are_figures" gY f fd) {br aG aC aP:Addr} {tE tM tN tF u1 u2 u3 u4 u5 u6 u7 u8 t1 t2 t3 t4:Tok} (B:B P w K mg br aG aC aP tE tM tN tF u1 u2 u3 u4 u5 u6 u7 u8 t1 t2 t3 t4):aL P w K mg base dF 1 f fd ["text"] M0:=by
  refine F.fM Br (fun vs H Q E h=>?_) (fun cJ A outer s H vs Q E hr h=>?_)
  · obtain ⟨t,rfl,_⟩:=h
    rfl
  obtain ⟨t,rfl,hl,q⟩:=h
  refine ⟨_,(aK (aU (qb (Um PySem.F.plainAttrs_str PySem.F.slot_str_isascii PySem.F.type_str_isascii HX (ev 0)) (qb (Um PySem.F.plainAttrs_str PySem.F.slot_str_isdigit PySem.F.type_str_isdigit HY (ev 0)) (rB (rM vL (dH DM rfl B.len rL (af (ev 0) az)) (ig rfl B.DZ B.zP) (aO _))))))),?_⟩
  try walk_at "rn"
  cases h1:Txt.isascii t
  · rw [h1] at q
    exact aS (by decide) q
  cases h2:Txt.isdigit t
  · rw [h1,h2] at q
    exact gS rfl (aS (by decide) q)
  · rw [h1,h2] at q
    refine gS rfl (gS rfl ⟨hl,?_⟩)
    rw [show decide ((t.length:Int)≤60)=(true&&true&&decide (t.length≤60)) from by simp only [Bool.true_and];exact decide_eq_decide.mpr (by omega)]
    exact q
theorem qW:ay ["text","bare"] ["text"] (aa fU):=⟨rfl,rfl,rfl,by decide +kernel,rfl,by decide +kernel,by decide +kernel⟩
theorem z5 {f:Addr} {fd:FuncData} (F:fc K "read_figures" "read_figures" fU f fd) {br aG aC aP:Addr} {tE tM tN tF u1 u2 u3 u4 u5 u6 u7 u8 t1 t2 t3 t4:Tok} (B:B P w K mg br aG aC aP tE tM tN tF u1 u2 u3 u4 u5 u6 u7 u8 t1 t2 t3 t4) (kZ:Callee P w K mg base "are_figures" 1 ["text"] M0):aL P w K mg base dF 2 f fd ["text"] RH:=by
  refine F.fM qW (fun vs H Q E h=>?_) (fun cJ A outer s H vs Q E hr h=>?_)
  · obtain ⟨i,rfl,_⟩:=h
    rfl
  obtain ⟨i,rfl,hi,q⟩:=h
  obtain ⟨hf,hv⟩:=OQ hi
  have hlen:=JJ hf
  obtain ⟨b1,b2,b3,b4⟩:=DY hf
  have hbl:(Txt.removeprefix (m8 i) (Str.ofString "-")).length=(lH (m8 i).cps.toList).length:=by rw [← AS];simp [Str.length]
  have are:(Txt.isascii (Txt.removeprefix (m8 i) (Str.ofString "-"))&&Txt.isdigit (Txt.removeprefix (m8 i) (Str.ofString "-"))&&decide ((Txt.removeprefix (m8 i) (Str.ofString "-")).length≤60))=true:=by
    rw [OB,AS,hbl,decide_eq_true b3,Bool.and_true,Bool.and_eq_true]
    refine ⟨by simpa using b1,List.all_eq_true.mpr fun c hc=>?_⟩
    have:=b2 c hc
    simp only [we,Bool.and_eq_true,decide_eq_true_eq]
    exact this
  refine ⟨_,(aE (nQ (lF (j4 (dH cE rfl B.isinstance bF (af (ev 0) (af (vR rfl B.str p9) az))))) (aK (aU uX)) fq)
      (aE (sset (i:=1) qW.nd rfl (Or.inl rfl) (Qc PySem.F.plainAttrs_str PySem.F.slot_str_removeprefix PySem.F.type_str_removeprefix zO (ev 0) (af gK az)))
      (aE (nQ (lF (j4 (aI kZ (hr.mono (by decide)) rfl (af (ev 1) az)))) (aK (aU uX)) fq)
      (aE (nQ (tw (aaD (eV mV (ko Q2 (ev 1) ei (fun _ _=>rfl)) gK (aO _)) (Uo (eV pD (ev 0) gK (aO _))))) (aK (aU uX)) fq)
      (aK (aU (vS K8 rfl B.int Hv (af (ev 0) az)))))))),?_⟩
  try walk_at "rn"
  refine ⟨_,.inl (.str _),true,rfl,aS (by decide) ⟨by omega,_,rfl,by omega,_,rfl,?_⟩⟩
  rw [are]
  refine aS (by decide) ?_
  have fin:∃ x,intText? (m8 i)=some x∧(m8 i).length≤640∧Q (V.int x) H:=⟨_,OC hf,by omega,by rw [hv];exact q⟩
  refine ⟨by omega,?_⟩
  rw [AS]
  cases e:lH (m8 i).cps.toList with
  | nil=>exact absurd e b1
  | cons c r=>
    refine ⟨c,cB,?_⟩
    split
    · rename_i hc
      have hc:c=48:=by
        have:=congrArg (fun s:Str=>s.cps.toList) hc
        have h0:(Str.ofString "0").cps.toList=[48]:=by decide +kernel
        simp only [h0] at this
        simpa using this
      have h48:=b4 (by rw [e,hc];rfl)
      have:m8 i=Str.ofString "0":=Ab (by rw [h48];decide +kernel)
      rw [decide_eq_true this]
      exact aS (by decide) fin
    · exact fin
theorem Kd.OT {k:Kd} {us:List Int} (h:k.ok us):us.length≤3∧∀ i∈us,i.natAbs < 10 ^ 60:=by
  cases k <;> simp only [Kd.ok,Dm,Gp,Ir] at h
  · obtain ⟨a,b,rfl,h1,h2⟩:=h;exact ⟨by simp,by simp only [List.mem_cons,List.not_mem_nil,or_false];rintro i (rfl | rfl) <;> omega⟩
  · obtain ⟨a,rfl,h1⟩:=h;exact ⟨by simp,by simp only [List.mem_cons,List.not_mem_nil,or_false];rintro i rfl;omega⟩
  · obtain ⟨a,b,rfl,h1,h2⟩:=h;exact ⟨by simp,by simp only [List.mem_cons,List.not_mem_nil,or_false];rintro i (rfl | rfl) <;> omega⟩
  · obtain ⟨a,b,rfl,h1⟩:=h;exact ⟨by simp,by simp only [List.mem_cons,List.not_mem_nil,or_false];rintro i (rfl | rfl) <;> omega⟩
  · obtain ⟨a,b,c,rfl,h1,h2⟩:=h;exact ⟨by simp,by simp only [List.mem_cons,List.not_mem_nil,or_false];rintro i (rfl | rfl | rfl) <;> omega⟩
  · obtain ⟨a,b,c,rfl,h1,h2⟩:=h;exact ⟨by simp,by simp only [List.mem_cons,List.not_mem_nil,or_false];rintro i (rfl | rfl | rfl) <;> omega⟩
  · subst h;exact ⟨by simp,by simp⟩
  · obtain ⟨a,rfl,h1⟩:=h;exact ⟨by simp,by simp only [List.mem_cons,List.not_mem_nil,or_false];rintro i rfl;omega⟩
theorem IC {k:Kd} {us:List Int} (h:k.ok us):Txt.split (k.text us) (Str.ofString " ")=(k.items us).map Nv:=by
  unfold Kd.text
  rw [MZ]
  refine IB (by simp [Kd.items]) fun p hp=>?_
  obtain ⟨q,hq,rfl⟩:=List.mem_map.mp hp
  rcases List.mem_cons.mp hq with rfl | hq
  · show 32∉k.word.cps.toList
    cases k <;> decide +kernel
  · obtain ⟨i,hi,rfl⟩:=List.mem_map.mp hq
    exact PyProof.Rows.int_text_free' 32 ⟨by decide,by decide⟩ i
theorem oK:ay ["text","word","numbers"] ["text"] (aa iQ):=⟨rfl,rfl,rfl,by decide +kernel,rfl,by decide +kernel,by decide +kernel⟩
theorem uo {f:Addr} {fd:FuncData} (F:fc K "read_words" "read_words" iQ f fd) {br aG aC aP:Addr} {tE tM tN tF u1 u2 u3 u4 u5 u6 u7 u8 t1 t2 t3 t4:Tok} (B:B P w K mg br aG aC aP tE tM tN tF u1 u2 u3 u4 u5 u6 u7 u8 t1 t2 t3 t4) {cs:Cs} (mS:Callee P w K mg base "deed_of" 6 ["told"] (Bl K cs)) (gg:Callee P w K mg base "read_figures" 2 ["text"] RH):aL P w K mg base dF 7 f fd ["text"] (OS K cs):=by
  refine F.fM oK (fun vs H Q E h=>?_) (fun cJ A outer s H vs Q E hr h=>?_)
  · obtain ⟨k,us,rfl,_⟩:=h
    rfl
  obtain ⟨k,us,rfl,ok,q⟩:=h
  obtain ⟨z1,z2⟩:=Kd.UJ ok
  obtain ⟨s1,s2⟩:=Kd.OT ok
  have es:=IC ok
  have z3:∀ t∈(k.items us).map Nv,t.length≤101:=fun t ht=>by
    obtain ⟨z,hz,rfl⟩:=List.mem_map.mp ht
    exact JZ (z2 z hz)
  have l2:=join_le (sep:=Str.ofString " ") _ z3
  rw [List.length_map,show (Str.ofString " ").length=1 from by decide +kernel] at l2
  have l3:(k.text us).length≤16777216:=by unfold Kd.text;omega
  refine ⟨_,(aE (nQ (lF (j4 (dH cE rfl B.isinstance bF (af (ev 0) (af (vR rfl B.str p9) az))))) (aK u9) fq)
      (aE (qc (Qc PySem.F.plainAttrs_str PySem.F.slot_str_split PySem.F.type_str_split Mz (ev 0) (af gK az)) (Rv (n:=2) (i:=1) rfl (cK (bG (i:=1) oK.nd rfl (Or.inl rfl)) (Rw (bG (i:=2) oK.nd rfl (Or.inl rfl)) pG))))
      (aK (aU (aI mS (hr.mono (by decide)) rfl (af (nL My (bU (af (ev 1) az)) (vS AR rfl B.tuple pF (af (Ri (vY.mk (N:=["number"]) (src:=[none]) rfl rfl) rfl (qR (ev 2)) (fun _ _ _ _=>(bG (i:=0) (show (["number"]:List Str).Nodup from by decide +kernel) rfl (Or.inl rfl))) (fun _ _ _ _=>AJ) (fun _ _ _ _=>(aI gg (hr.mono (by decide)) rfl (af (ev 0) az)))) az))) az)))))),?_⟩
  try walk_at "rn"
  refine ⟨_,.inl (.str _),true,rfl,aS (by decide) ⟨by decide +kernel,l3,?_⟩⟩
  rw [es]
  refine ⟨by rw [List.length_map];omega,fun D nD=>?_⟩
  have ev:((k.items us).map Nv).map V.str=V.str k.word::us.map fun i=>V.str (m8 i):=by simp [Kd.items,Nv]
  rw [ev]
  refine ⟨_,fE.of av,by simp,fun D1 n1=>?_⟩
  rw [show List.take ((V.str k.word::us.map fun i=>V.str (m8 i)).length + 1 - 2) (List.drop 1 (V.str k.word::us.map fun i=>V.str (m8 i)))=us.map (fun i=>V.str (m8 i)) from by simp;exact List.take_of_length_le (by simp)]
  refine ⟨V.str k.word,[V.ref D1],by simp,V.ref D1,[],rfl,rfl,fun p np=>⟨D1,rfl,⟨_,fE.of ((Ext.new np).at av)⟩,fun D2 n2=>?_⟩⟩
  refine OR (f:=fun i=>V.str (m8 i)) (g:=V.int) ((Ext.new np).at av) n2 (by omega) (fun i hi H' Q' xx qq=>?_) (fun H1 hD x1=>?_)
  · try walk_at "rn"
    exact ⟨i,rfl,s2 i hi,qq _ Ext.refl⟩
  refine ⟨_,hD,fun l nl=>⟨_,((x1.trans (Ext.new nl)).tup ao),by simp,by simp only [List.length_cons,List.length_nil,List.length_map];omega,fun q' H' ht x'=>?_⟩⟩
  exact ⟨q',k,us,rfl,ht,ok,fun a H'' xx hd=>q a H'' ((Ext.new nD).trans ((Ext.new n1).trans ((Ext.new np).trans (x1.trans ((Ext.new nl).trans (x'.trans xx)))))) hd⟩
end
section
variable {P:Program} {w:World} {K:PySem.W.Frag} {mg:Str→Option Value} {base:Heap}
def Ad (K:PySem.W.Frag):Sp:=fun vs H Q _=>∃ p x y z,vs=[.ref p]∧H p=some (L3 x y z)∧∀ (v:V) (t:aR) (x y z:Int) (H':Hp),Act K H' v t .gone→H' p=some (L3 x y z)→Kp K p H H'→Q v H'
def EC (K:PySem.W.Frag):Sp:=fun vs H Q _=>∃ p x y z,vs=[.ref p]∧H p=some (L3 x y z)∧∀ (a:Addr) (lo hi x y z:Int) (H':Hp),tupQ K H' a=some [.int lo,.int hi]→0≤lo→lo < hi→hi≤1000000000000→H' p=some (L3 x y z)→Kp K p H H'→Q (.ref a) H'
def ED (K:PySem.W.Frag):Sp:=fun vs H Q _=>∃ p x y z n,vs=[.ref p,.int n]∧H p=some (L3 x y z)∧1≤n∧∀ (v:V) (e:Nt) (x y z:Int) (H':Hp),cM K H' v e→e.ok→e.n=n→H' p=some (L3 x y z)→Kp K p H H'→Q v H'
theorem oM:ay ["_law_well_here","_law_way","_law_amount"] ["_law_well_here"] (aa iR):=⟨rfl,rfl,rfl,by decide +kernel,rfl,by decide +kernel,by decide +kernel⟩
theorem Cv {f:Addr} {fd:FuncData} (F:fc K "_law_doing" "_law_doing" iR f fd) {br aG aC aP:Addr} {tE tM tN tF u1 u2 u3 u4 u5 u6 u7 u8 t1 t2 t3 t4:Tok} (B:B P w K mg br aG aC aP tE tM tN tF u1 u2 u3 u4 u5 u6 u7 u8 t1 t2 t3 t4) (bK:Callee P w K mg base "_law_draw" 1 ["_law_well_here","_law_many"] (AV K)):aL P w K mg base dF 2 f fd ["_law_well_here"] (Ad K):=by
  refine F.fM oM (fun vs H Q E h=>?_) (fun cJ A outer s H vs Q E hr h=>?_)
  · obtain ⟨p,x,y,z,rfl,_⟩:=h
    rfl
  obtain ⟨p,x,y,z,rfl,hp,q⟩:=h
  refine ⟨_,(aE (sset (i:=1) oM.nd rfl (Or.inl rfl) (aI bK (hr.mono (by decide)) rfl (af (ev 0) (af ei az))))
      (aE (sset (i:=2) oM.nd rfl (Or.inl rfl) (nL Dw (aI bK (hr.mono (by decide)) rfl (af (ev 0) (af (ze 1000000000) az))) (ze 1000000)))
      (aK (aU (bU (af (ko ez (ua (af (bU (af gK (af (ev 2) az))) (af (bU (af gK (af (ev 2) az))) (af (bU (af gK az)) az)))) (ev 1) (fun _ _=>rfl)) (af (bU (af gK az)) az))))))),?_⟩
  try walk_at "rn"
  refine ⟨p,_,_,_,3,rfl,hp,by decide,by decide,fun way x y z H1 w0 w1 g1 k1=>?_⟩
  refine ⟨p,_,_,_,1000000000,rfl,g1,by decide,by decide,fun am x y z H2 a0 a1 g2 k2=>?_⟩
  try walk_at "rn"
  intro r1 m1 r2 m2 r3 m3 l m4
  have y1:=Ext.new (K:=K) (o:=.tup (aR.plus (am - 1000000)).v) m1
  have y2:=Ext.new (K:=K) (o:=.tup (aR.is (am - 1000000)).v) m2
  have y3:=Ext.new (K:=K) (o:=.tup aR.gone.v) m3
  have y4:=Ext.new (K:=K) (o:=.lst [V.ref r1,V.ref r2,V.ref r3]) m4
  have f1:=(y2.trans (y3.trans y4)).tup (ao (H:=H2) (a:=r1) (xs:=(aR.plus (am - 1000000)).v))
  have f2:=(y3.trans y4).tup (ao (H:=upd H2 r1 (.tup (aR.plus (am - 1000000)).v)) (a:=r2) (xs:=(aR.is (am - 1000000)).v))
  have f3:=y4.tup (ao (H:=upd (upd H2 r1 (.tup (aR.plus (am - 1000000)).v)) r2 (.tup (aR.is (am - 1000000)).v)) (a:=r3) (xs:=aR.gone.v))
  have yy:=y1.trans (y2.trans (y3.trans y4))
  have pk:∃ r h,DG [V.ref r1,V.ref r2,V.ref r3] way=some (.ref r)∧tupQ K (upd (upd (upd (upd H2 r1 (.tup (aR.plus (am - 1000000)).v)) r2 (.tup (aR.is (am - 1000000)).v)) r3 (.tup aR.gone.v)) l (.lst [V.ref r1,V.ref r2,V.ref r3])) r=some (aR.v h):=by
    obtain rfl | rfl | rfl:way=0∨way=1∨way=2:=by omega
    · exact ⟨r1,_,rfl,f1⟩
    · exact ⟨r2,_,rfl,f2⟩
    · exact ⟨r3,_,rfl,f3⟩
  obtain ⟨r,h,er,fr⟩:=pk
  refine ⟨_,er,fun g ng T nT=>?_⟩
  have y5:=Ext.new (K:=K) (o:=.tup aR.gone.v) ng
  have y6:=Ext.new (K:=K) (o:=.tup [V.ref r,V.ref g]) nT
  have zz:=yy.trans (y5.trans y6)
  exact q _ h _ _ _ _ ⟨T,r,g,rfl,ao,(y5.trans y6).tup fr,y6.tup ao,trivial⟩ (zz.at g2) (k1.trans (k2.trans zz.kp))
theorem wG:ay ["_law_well_here","_law_least"] ["_law_well_here"] (aa jw):=⟨rfl,rfl,rfl,by decide +kernel,rfl,by decide +kernel,by decide +kernel⟩
theorem EE {f:Addr} {fd:FuncData} (F:fc K "_law_ends" "_law_ends" jw f fd) {br aG aC aP:Addr} {tE tM tN tF u1 u2 u3 u4 u5 u6 u7 u8 t1 t2 t3 t4:Tok} (B:B P w K mg br aG aC aP tE tM tN tF u1 u2 u3 u4 u5 u6 u7 u8 t1 t2 t3 t4) (bK:Callee P w K mg base "_law_draw" 1 ["_law_well_here","_law_many"] (AV K)):aL P w K mg base dF 2 f fd ["_law_well_here"] (EC K):=by
  refine F.fM wG (fun vs H Q E h=>?_) (fun cJ A outer s H vs Q E hr h=>?_)
  · obtain ⟨p,x,y,z,rfl,_⟩:=h
    rfl
  obtain ⟨p,x,y,z,rfl,hp,q⟩:=h
  refine ⟨_,(aE (sset (i:=1) wG.nd rfl (Or.inl rfl) (nL uS (aI bK (hr.mono (by decide)) rfl (af (ev 0) (af (ze 1000000) az))) (ko ez (ua (af ei (af (ze 100000) az))) (aI bK (hr.mono (by decide)) rfl (af (ev 0) (af ei az))) (fun _ _=>rfl))))
      (aK (aU (bU (af (ev 1) (af (nL ie (nL ie (ev 1) ei) (aI bK (hr.mono (by decide)) rfl (af (ev 0) (af (ko ez (ua (af ei (af (ze 1000000000) az))) (aI bK (hr.mono (by decide)) rfl (af (ev 0) (af ei az))) (fun _ _=>rfl)) az)))) az)))))),?_⟩
  try walk_at "rn"
  refine ⟨p,_,_,_,1000000,rfl,hp,by decide,by decide,fun a x y z H1 a0 a1 g1 k1=>?_⟩
  intro l nl
  have y1:=Ext.new (K:=K) (o:=.lst [V.int 1,V.int 100000]) nl
  have pl:l≠p:=(bJ g1 nl.1).symm
  refine ⟨p,_,_,_,2,rfl,y1.at g1,by decide,by decide,fun d x y z H2 d0 d1 g2 k2=>?_⟩
  obtain ⟨u,eu,mu⟩:=L8 (xs:=[V.int 1,V.int 100000]) d0 d1
  obtain ⟨c,rfl,c0,c1⟩:∃ c:Int,u=.int c∧1≤c∧c≤100000:=by
    simp only [List.mem_cons,List.not_mem_nil,or_false] at mu
    rcases mu with rfl | rfl <;> exact ⟨_,rfl,by decide,by decide⟩
  refine ⟨_,rfl,_,mX (k2.keep l _ av pl),_,eu,_,rfl,_,rfl,.inl ⟨by omega,by omega⟩,fun l2 nl2=>?_⟩
  have y2:=Ext.new (K:=K) (o:=.lst [V.int 30,V.int 1000000000]) nl2
  have pl2:l2≠p:=(bJ g2 nl2.1).symm
  refine ⟨p,_,_,_,2,rfl,y2.at g2,by decide,by decide,fun d' x y z H3 d0' d1' g3 k3=>?_⟩
  obtain ⟨u,eu,mu⟩:=L8 (xs:=[V.int 30,V.int 1000000000]) d0' d1'
  obtain ⟨b,rfl,b0,b1⟩:∃ b:Int,u=.int b∧0 < b∧b≤1000000000:=by
    simp only [List.mem_cons,List.not_mem_nil,or_false] at mu
    rcases mu with rfl | rfl <;> exact ⟨_,rfl,by decide,by decide⟩
  refine ⟨_,rfl,_,mX (k3.keep l2 _ av pl2),_,eu,p,_,_,_,b,rfl,g3,b0,by omega,fun r x y z H4 r0 r1 g4 k4=>⟨_,rfl,fun T nT=>?_⟩⟩
  have y5:=Ext.new (K:=K) (o:=.tup [V.int (a * c),V.int (a * c + 1 + r)]) nT
  have m0:0≤a * c:=Int.mul_nonneg a0 (by omega)
  have m1:a * c≤999999 * 100000:=Int.mul_le_mul (by omega) c1 (by omega) (by decide)
  exact q T _ _ _ _ _ _ ao m0 (by omega) (by omega) (y5.at g4) (k1.trans (y1.kp.trans (k2.trans (y2.kp.trans (k3.trans (k4.trans y5.kp))))))
theorem oO:ay ["_law_well_here","_law_count","_law_least","_law_beyond"] ["_law_well_here","_law_count"] (aa iS):=⟨rfl,rfl,rfl,by decide +kernel,rfl,by decide +kernel,by decide +kernel⟩
theorem Cw {f:Addr} {fd:FuncData} (F:fc K "_law_paper" "_law_paper" iS f fd) {br aG aC aP:Addr} {tE tM tN tF u1 u2 u3 u4 u5 u6 u7 u8 t1 t2 t3 t4:Tok} (B:B P w K mg br aG aC aP tE tM tN tF u1 u2 u3 u4 u5 u6 u7 u8 t1 t2 t3 t4) (gJ:Callee P w K mg base "_law_ends" 2 ["_law_well_here"] (EC K)) (eN:Callee P w K mg base "_law_doing" 2 ["_law_well_here"] (Ad K)):aL P w K mg base dF 3 f fd ["_law_well_here","_law_count"] (ED K):=by
  refine F.fM oO (fun vs H Q E h=>?_) (fun cJ A outer s H vs Q E hr h=>?_)
  · obtain ⟨p,x,y,z,n,rfl,_⟩:=h
    rfl
  obtain ⟨p,x,y,z,n,rfl,hp,n1,q⟩:=h
  refine ⟨_,(aE (qc (aI gJ (hr.mono (by decide)) rfl (af (ev 0) az)) (kc (n:=2) rfl (cK (bG (i:=2) oO.nd rfl (Or.inl rfl)) (cK (bG (i:=3) oO.nd rfl (Or.inl rfl)) pG))))
      (aK (aU (bU (af (ev 1) (af (ev 2) (af (ev 3) (af (aI eN (hr.mono (by decide)) rfl (af (ev 0) az)) az)))))))),?_⟩
  try walk_at "rn"
  refine ⟨p,_,_,_,rfl,hp,fun a lo hi x y z H1 ea l0 lh h1 g1 k1=>?_⟩
  simp_arith [ea]
  refine ⟨p,_,_,_,rfl,g1,fun v t x y z H2 A2 g2 k2=>?_⟩
  try walk_at "rn"
  intro T nT
  have yT:=Ext.new (K:=K) (o:=.tup [V.int n,V.int lo,V.int hi,v]) nT
  exact q _ ⟨n,lo,hi,t,.gone⟩ _ _ _ _ ⟨T,v,rfl,ao,A2.ext yT⟩ ⟨n1,l0,lh,h1,.inr rfl,trivial⟩ rfl (yT.at g2) (k1.trans (k2.trans yT.kp))
end
section
variable {P:Program} {w:World} {K:PySem.W.Frag} {mg:Str→Option Value} {base:Heap}
def EF:Sp:=fun vs H Q _=>vs=[.str (Str.ofString "eldest")]∧Q (.bl true) H
def Ae (K:PySem.W.Frag):Sp:=fun vs H Q _=>∃ T a,vs=[.ref T]∧tupQ K H T=some [.int a,.int 3,.int 1,.str (Str.ofString "eldest")]∧Q (.bl (decide (1≤a∧a≤64))) H
theorem ID:ay ["thing"] ["thing"] (aa mE):=⟨rfl,rfl,rfl,by decide +kernel,rfl,by decide +kernel,by decide +kernel⟩
theorem IE {f:Addr} {fd:FuncData} (F:fc K "is_plan" "is_plan" mE f fd) {br aG aC aP:Addr} {tE tM tN tF u1 u2 u3 u4 u5 u6 u7 u8 t1 t2 t3 t4:Tok} (B:B P w K mg br aG aC aP tE tM tN tF u1 u2 u3 u4 u5 u6 u7 u8 t1 t2 t3 t4):aL P w K mg base dF 1 f fd ["thing"] EF:=by
  refine F.Xr ID (fun vs H Q E h=>?_) (fun cJ A outer s H vs Q E hr hm h=>?_)
  · obtain ⟨rfl,_⟩:=h
    rfl
  obtain ⟨rfl,q⟩:=h
  refine ⟨_,(aK (aU (qb (dH cE rfl B.isinstance bF (af (ev 0) (af (vR rfl B.str p9) az))) (rB (rM Ml (ev 0) (ig rfl B.UG B.MI) (by with_unfolding_all rfl)))))),?_⟩
  try walk_at "rn"
  refine ⟨_,.inl (.str _),true,rfl,?_⟩
  rw [if_pos rfl]
  exact ⟨_,dw (hm.tup B.kP),rfl,rfl,q⟩
theorem m9:ay ["thing","tray","fan","rows","plan"] ["thing"] (aa mF):=⟨rfl,rfl,rfl,by decide +kernel,rfl,by decide +kernel,by decide +kernel⟩
theorem Bt {f:Addr} {fd:FuncData} (F:fc K "is_rule" "is_rule" mF f fd) {br aG aC aP:Addr} {tE tM tN tF u1 u2 u3 u4 u5 u6 u7 u8 t1 t2 t3 t4:Tok} (B:B P w K mg br aG aC aP tE tM tN tF u1 u2 u3 u4 u5 u6 u7 u8 t1 t2 t3 t4) (bf:Callee P w K mg base "is_whole" 2 ["thing","low","high"] nV) (mT:Callee P w K mg base "is_plan" 1 ["thing"] EF):aL P w K mg base dF 3 f fd ["thing"] (Ae K):=by
  refine F.fM m9 (fun vs H Q E h=>?_) (fun cJ A outer s H vs Q E hr h=>?_)
  · obtain ⟨T,a,rfl,_⟩:=h
    rfl
  obtain ⟨T,a,rfl,hT,q⟩:=h
  refine ⟨_,(aE (nQ (tw (B4 (lF (j4 (dH cE rfl B.isinstance bF (af (ev 0) (af (vR rfl B.tuple pF) az))))) (rC (eV pD (dH kq rfl B.len rL (af (ev 0) az)) ei (aO _))))) (aK (aU yj)) fq)
      (aE (qc (ev 0) (kc (n:=4) rfl (cK (bG (i:=1) m9.nd rfl (Or.inl rfl)) (cK (bG (i:=2) m9.nd rfl (Or.inl rfl)) (cK (bG (i:=3) m9.nd rfl (Or.inl rfl)) (cK (bG (i:=4) m9.nd rfl (Or.inl rfl)) pG))))))
      (aE (nQ (tw (B4 (lF (j4 (aI bf (hr.mono (by decide)) rfl (af (ev 1) (af ei (af (ig rfl B.Lf B.D3) az)))))) (rC (lF (j4 (aI bf (hr.mono (by decide)) rfl (af (ev 2) (af (ig rfl B.Lg B.D4) (af (ig rfl B.MF B.Ge) az))))))))) (aK (aU yj)) fq)
      (aK (aU (qb (aI bf (hr.mono (by decide)) rfl (af (ev 3) (af ei (af (ig rfl B.Lh B.D5) az)))) (rB (aI mT (hr.mono (by decide)) rfl (af (ev 4) az))))))))),?_⟩
  try walk_at "rn"
  refine ⟨_,.tup hT,true,rfl,aS (by decide) ⟨_,dw hT,aS (by simp) ⟨_,hT,rfl,_,_,rfl,_,_,rfl,_,_,rfl,_,_,rfl,rfl,_,_,_,rfl,_,rfl,?_⟩⟩⟩
  by_cases c:1≤a∧a≤64
  · rw [decide_eq_true c] at q ⊢
    exact aS (by decide) ⟨_,_,_,rfl,_,rfl,aS (by decide) ⟨_,_,_,rfl,_,rfl,gS (by decide) ⟨rfl,q⟩⟩⟩
  · rw [decide_eq_false c] at q ⊢
    exact gS rfl q
def Bu (e:Nt) (lo hi:Int):PyData:=if mx e.lo lo < mn e.hi hi then (e.cut lo hi).d else .none
theorem IF (e:Nt) (lo hi:Int):SeqAt.shaped (Bu e lo hi)=true∧PyData.eqv (Bu e lo hi) (Bu e lo hi)=true:=by
  unfold Bu
  split
  · exact ⟨Nt.shaped _,Nt.same _⟩
  · exact ⟨rfl,rfl⟩
def Bv (K:PySem.W.Frag):Sp:=fun vs H Q _=>∃ v e v' e' k a lo hi,vs=[v,v',.int k,.ref a]∧cM K H v e∧e.ok∧cM K H v' e'∧e'.ok∧0≤k∧k≤999999999999∧tupQ K H a=some [.int lo,.int hi]∧0≤lo∧lo < hi∧hi≤1000000000000∧∀ H',Ext K H H'→Q (.bl true) H'
theorem GD {v:V} {e:Nt} {lo hi:Int} {H:Hp} {Q:VK} {E:XK} (hv:cM K H v e) (ok:e.ok) (l0:0≤lo) (lh:lo < hi) (h1:hi≤1000000000000) (q:∀ u H',Is K H' (Bu e lo hi) u→Ext K H H'→Q u H'):yE K [v,.int lo,.int hi] H Q E:=by
  refine ⟨v,e,lo,hi,rfl,hv,ok,l0,lh,h1,fun c b H' hb x=>q b H' ?_ x,fun c H' x=>q .eO H' ?_ x⟩
  · unfold Bu;rw [if_pos c];exact hb.is
  · unfold Bu;rw [if_neg c];exact rfl
theorem iX:ay ["_law_paper_here","_law_second","_law_where","_law_ends_here","_law_least","_law_beyond"] ["_law_paper_here","_law_second","_law_where","_law_ends_here"] (aa dR):=⟨rfl,rfl,rfl,by decide +kernel,rfl,by decide +kernel,by decide +kernel⟩
theorem t7 {f:Addr} {fd:FuncData} (F:fc K "_law_notes_right" "_law_notes_right" dR f fd) {br aG aC aP:Addr} {tE tM tN tF u1 u2 u3 u4 u5 u6 u7 u8 t1 t2 t3 t4:Tok} (B:B P w K mg br aG aC aP tE tM tN tF u1 u2 u3 u4 u5 u6 u7 u8 t1 t2 t3 t4) (qp:bL P w K mg base "is_note" 4 ["thing"] ["thing"] [0] (rR K)) (qt:bL P w K mg base "touches" 6 ["note","key"] ["key","note"] [1,0] (wz K)) (tP:Callee P w K mg base "touches" 6 ["note","key"] (wz K)) (tQ:bL P w K mg base "shares" 6 ["note","other"] ["other","note"] [1,0] (wA K)) (wH:Callee P w K mg base "shares" 6 ["note","other"] (wA K)) (Af:bL P w K mg base "part" 6 ["note","low","high"] ["high","note","low"] [1,2,0] (yE K)) (EG:Callee P w K mg base "part" 6 ["note","low","high"] (yE K)):aL P w K mg base dF 7 f fd ["_law_paper_here","_law_second","_law_where","_law_ends_here"] (Bv K):=by
  refine F.fM iX (fun vs H Q E h=>?_) (fun cJ A outer s H vs Q E hr h=>?_)
  · obtain ⟨v,e,v',e',k,a,lo,hi,rfl,_⟩:=h
    rfl
  obtain ⟨v,e,v',e',k,a,lo,hi,rfl,hv,ok,Xn,ok',k0,k1,ha,l0,lh,h1,q⟩:=h
  refine ⟨_,(aE (qc (ev 3) (kc (n:=2) rfl (cK (bG (i:=4) iX.nd rfl (Or.inl rfl)) (cK (bG (i:=5) iX.nd rfl (Or.inl rfl)) pG))))
      (aE (nQ (tw (B4 (eV Jr (iW qp (hr.mono (by decide)) rfl (cH (ev 0) lS)) yj (aO _)) (rC (eV pD (iW qt (hr.mono (by decide)) rfl (cH (ev 2) (cH (ev 0) lS))) (aI tP (hr.mono (by decide)) rfl (af (ev 0) (af (ev 2) az))) (aO _))))) (aK (aU yj)) fq)
      (aE (nQ (eV pD (iW tQ (hr.mono (by decide)) rfl (cH (ev 1) (cH (ev 0) lS))) (aI wH (hr.mono (by decide)) rfl (af (ev 0) (af (ev 1) az))) (aO _)) (aK (aU yj)) fq)
      (aK (aU (rM (yk hr.units) (iW Af (hr.mono (by decide)) rfl (cH (ev 5) (cH (ev 0) (cH (ev 4) lS)))) (aI EG (hr.mono (by decide)) rfl (af (ev 0) (af (ev 4) (af (ev 5) az)))) (aO _))))))),?_⟩
  simp_arith [ha]
  refine ⟨v,e,rfl,hv,ok,fun H1 x1=>⟨_,rfl,aS (by decide) ?_⟩⟩
  refine ⟨v,e,k,rfl,hv.ext x1,ok,k0,k1,fun H2 x2=>?_⟩
  have Lo:=x1.trans x2
  refine ⟨v,e,k,rfl,hv.ext Lo,ok,k0,k1,fun H3 x3=>⟨rfl,aS (by simp) ?_⟩⟩
  have Fy:=Lo.trans x3
  refine ⟨v,e,v',e',rfl,hv.ext Fy,Xn.ext Fy,ok,ok',fun H4 x4=>?_⟩
  have UK:=Fy.trans x4
  refine ⟨v,e,v',e',rfl,hv.ext UK,Xn.ext UK,ok,ok',fun H5 x5=>⟨rfl,aS (by simp) ?_⟩⟩
  have x15:=UK.trans x5
  refine GD (hv.ext x15) ok l0 lh h1 fun u H6 hu x6=>?_
  refine GD (hv.ext (x15.trans x6)) ok l0 lh h1 fun u' H7 hu' x7=>?_
  obtain ⟨sd,se⟩:=IF e lo hi
  refine ⟨_,Is.same x7.same hu,_,hu',sd,sd,?_⟩
  rw [se]
  exact q _ (x15.trans (x6.trans x7))
def OU (L:List Nt):PyData:=.list (L.map Nt.d)
theorem GF {H:Hp}:∀ {M:Tr},cG K H M→cZ K H (M.ns.map Nt.d) M.v
  | [],_=>by simp [cZ]
  | m::M,h=>by
    simp only [List.map_cons,cZ]
    exact ⟨_,_,rfl,(h m List.mem_cons_self).1.is,GF fun q hq=>h q (List.mem_cons_of_mem _ hq)⟩
theorem EH {H:Hp} {D:Addr} {M:Tr} (h:H D=some (.lst M.v)) (g:cG K H M):Is K H (OU M.ns) (.ref D):=by
  simp only [OU,Is]
  exact ⟨D,_,rfl,fE.of h,GF g⟩
theorem J8:∀ L:List Nt,PyData.canLayAll0 (L.map Nt.d)=true∧PyData.depthAll (L.map Nt.d)≤6
  | []=>by simp [PyData.canLayAll0,PyData.depthAll]
  | e::L=>by
    have ih:=J8 L
    have he:e.d.canLay0=true∧e.d.depth≤6:=by
      obtain ⟨n,lo,hi,t,m⟩:=e
      cases t <;> cases m <;> simp only [Nt.d,Gg,aR.d,PyData.canLay0,PyData.canLayAll0,PyData.depth,PyData.depthAll] <;> exact ⟨by decide +kernel,by decide +kernel⟩
    simp only [List.map_cons,PyData.canLayAll0,PyData.depthAll,ih.1,he.1,Bool.and_true]
    exact ⟨trivial,Nat.max_le.mpr ⟨he.2,ih.2⟩⟩
theorem Ag (L:List Nt):(OU L).canLay0=true∧(OU L).depth≤7:=by
  have h:=J8 L
  unfold OU
  simp only [PyData.canLay0,PyData.depth]
  exact ⟨h.1,by omega⟩
theorem Dp {d:PyData} (h:d.canLay0=true) (g:d.depth≤64):SeqAt.shaped d=true:=by
  unfold SeqAt.shaped
  rw [h,decide_eq_true g]
  rfl
theorem IG (L:List Nt):SeqAt.shaped (OU L)=true:=Dp (Ag L).1 (Nat.le_trans (Ag L).2 (by decide))
def M3 (L M:List Nt):PyData:=.tuple [OU L,OU M]
theorem GG (L M:List Nt):SeqAt.shaped (M3 L M)=true:=by
  have h:=Ag L
  have g:=Ag M
  refine Dp ?_ ?_
  · simp only [M3,PyData.canLay0,PyData.canLayAll0,h.1,g.1,Bool.and_self]
  · simp only [M3,PyData.depth,PyData.depthAll]
    omega
theorem lK {d:PyData} (h:SeqAt.shaped d=true):PyData.eqv d d=true:=eqv_refl d (SeqAt.canLay_of_shaped h)
theorem GH {r:Addr} {L:Tr} {lo hi:Int} {H:Hp} {Q:VK} {E:XK} (hr:H r=some (.lst L.v)) (hL:cG K H L) (ll:L.length≤400) (q:∀ t H',Is K H' (M3 (RG L.ns lo hi) (outF L.ns lo hi)) (.ref t)→Ext K H H'→Q (.ref t) H'):pP K [.ref r,.int lo,.int hi] H Q E:=by
  refine ⟨r,L,lo,hi,rfl,hr,hL,ll,fun t D D' M M' H' _ _ _ ht hD Qk tM tM' eM eM' _ _ x=>q t H' ?_ x⟩
  have i1:=EH hD tM
  have i2:=EH Qk tM'
  rw [eM] at i1
  rw [eM'] at i2
  simp only [M3,Is,cZ]
  exact ⟨t,_,rfl,cD ht,_,_,rfl,i1,_,_,rfl,i2,rfl⟩
theorem GI {r m:Addr} {L:Tr} {v:V} {e:Nt} {ms:List Int} {H:Hp} {Q:VK} {E:XK} (hr:H r=some (.lst L.v)) (hL:cG K H L) (hv:cM K H v e) (ok:e.ok) (ll:L.length≤100) (hm:H m=some (.lst (ms.map V.int))) (lm:ms.length≤100) (q:∀ D H',Is K H' (OU (A6 L.ns e ms)) (.ref D)→Ext K H H'→Q (.ref D) H'):yG K [.ref r,v,.ref m] H Q E:=by
  refine ⟨r,L,v,e,m,ms,rfl,hr,hL,hv,ok,ll,hm,lm,fun D M H' _ hD tM eM _ x=>q D H' ?_ x⟩
  have i1:=EH hD tM
  rw [eM] at i1
  exact i1
def Bw (K:PySem.W.Frag):Sp:=fun vs H Q _=>∃ r L k a lo hi m ms,vs=[.ref r,.int k,.ref a,.ref m]∧H r=some (.lst (Tr.v L))∧cG K H L∧L.length≤100∧tupQ K H a=some [.int lo,.int hi]∧0≤lo∧lo < hi∧hi≤1000000000000∧H m=some (.lst (List.map V.int ms))∧ms.length≤100∧∀ H',Ext K H H'→Q (.bl true) H'
theorem fO:ay ["_law_papers","_law_where","_law_ends_here","_law_looks","_law_least","_law_beyond","_law_added"] ["_law_papers","_law_where","_law_ends_here","_law_looks"] (aa dS):=⟨rfl,rfl,rfl,by decide +kernel,rfl,by decide +kernel,by decide +kernel⟩
theorem t8 {f:Addr} {fd:FuncData} (F:fc K "_law_trays_right" "_law_trays_right" dS f fd) {br aG aC aP:Addr} {tE tM tN tF u1 u2 u3 u4 u5 u6 u7 u8 t1 t2 t3 t4:Tok} (B:B P w K mg br aG aC aP tE tM tN tF u1 u2 u3 u4 u5 u6 u7 u8 t1 t2 t3 t4) (tR:bL P w K mg base "poured" 3 ["tray","low","high"] ["high","tray","low"] [1,2,0] (pP K)) (wI:Callee P w K mg base "poured" 3 ["tray","low","high"] (pP K)) (Ah:bL P w K mg base "laid" 3 ["tray","note","marks"] ["marks","note","tray"] [2,1,0] (yG K)) (EI:Callee P w K mg base "laid" 3 ["tray","note","marks"] (yG K)) (Ai:bL P w K mg base "seen" 3 ["tray","key","value","at"] ["at","value","key","tray"] [3,2,1,0] (yF K)) (Aj:DS P w K mg base "seen" 3 ["tray","key","value","at"] ["at"] 3 1 (yF K)):aL P w K mg base dF 4 f fd ["_law_papers","_law_where","_law_ends_here","_law_looks"] (Bw K):=by
  refine F.fM fO (fun vs H Q E h=>?_) (fun cJ A outer s H vs Q E hr h=>?_)
  · obtain ⟨r,L,k,a,lo,hi,m,ms,rfl,_⟩:=h
    rfl
  obtain ⟨r,L,k,a,lo,hi,m,ms,rfl,hr',hL,ll,ha,l0,lh,h1,hm,lm,q⟩:=h
  refine ⟨_,(aE (qc (ev 2) (kc (n:=2) rfl (cK (bG (i:=4) fO.nd rfl (Or.inl rfl)) (cK (bG (i:=5) fO.nd rfl (Or.inl rfl)) pG))))
      (aE (nQ (eV (DO hr.units) (iW tR (hr.mono (by decide)) rfl (cH (ev 5) (cH (ev 0) (cH (ev 4) lS)))) (aI wI (hr.mono (by decide)) rfl (af (ev 0) (af (ev 4) (af (ev 5) az)))) (aO _)) (aK (aU yj)) fq)
      (aE (sset (i:=6) fO.nd rfl (Or.inl rfl) (bU (af ei (af (ev 4) (af (ev 5) (af (bU (af (bU (af gK (af ei az))) (af (bU (af gK az)) az))) az))))))
      (aE (nQ (eV (DO hr.units) (iW Ah (hr.mono (by decide)) rfl (cH (ev 3) (cH (ev 6) (cH (ev 0) lS)))) (aI EI (hr.mono (by decide)) rfl (af (ev 0) (af (ev 6) (af (ev 3) az)))) (aO _)) (aK (aU yj)) fq)
      (aK (aU (rM mV (iW Ai (hr.mono (by decide)) rfl (cH ei (cH ei (cH (ev 1) (cH (ev 0) lS))))) (Rm Aj (hr.mono (by decide)) rfl (af (ev 0) (af (ev 1) (af ei az))) (cH ei lS)) (aO _)))))))),?_⟩
  simp_arith [ha]
  refine GH hr' hL (by omega) fun t1 H1 i1 x1=>?_
  refine GH (x1.at hr') (hL.ext x1) (by omega) fun t2 H2 i2 x2=>?_
  have sd:=GG (RG L.ns lo hi) (outF L.ns lo hi)
  refine ⟨_,Is.same x2.same i1,_,i2,sd,sd,?_⟩
  rw [lK sd]
  have Lo:=x1.trans x2
  refine aS (by decide) ?_
  intro r1 m1 r2 m2 T nT N nN
  have y1:=Ext.new (K:=K) (o:=.tup (aR.plus 1).v) m1
  have y2:=Ext.new (K:=K) (o:=.tup aR.gone.v) m2
  have y3:=Ext.new (K:=K) (o:=.tup [V.ref r1,V.ref r2]) nT
  have y4:=Ext.new (K:=K) (o:=.tup [V.int 90,V.int lo,V.int hi,V.ref T]) nN
  have hN:cM K _ (.ref N) ⟨90,lo,hi,.plus 1,.gone⟩:=⟨N,.ref T,rfl,ao,T,r1,r2,rfl,y4.tup ao,(y2.trans (y3.trans y4)).tup ao,(y3.trans y4).tup ao,trivial⟩
  have okN:Nt.ok ⟨90,lo,hi,.plus 1,.gone⟩:=⟨(show (1:Int)≤90 by decide),l0,lh,h1,.inr rfl,trivial⟩
  have x3:=Lo.trans (y1.trans (y2.trans (y3.trans y4)))
  refine GI (x3.at hr') (hL.ext x3) hN okN ll (x3.at hm) lm fun D1 H4 j1 x4=>?_
  have XD:=x3.trans x4
  refine GI (XD.at hr') (hL.ext XD) (hN.ext x4) okN ll (XD.at hm) lm fun D2 H5 j2 x5=>?_
  have sl:=IG (A6 L.ns ⟨90,lo,hi,.plus 1,.gone⟩ ms)
  refine ⟨_,Is.same x5.same j1,_,j2,sl,sl,?_⟩
  rw [lK sl]
  refine aS (by decide) ?_
  have x35:=XD.trans x5
  refine ⟨r,L,k,some 4,some 3,rfl,x35.at hr',hL.ext x35,by omega,fun H6 x6=>?_⟩
  have x36:=x35.trans x6
  refine ⟨r,L,k,some 4,some 3,rfl,x36.at hr',hL.ext x36,by omega,fun H7 x7=>?_⟩
  have x37:=x36.trans x7
  generalize RD L k (some 3) (some 4)=o
  have fin:Q (.bl (decide (oV o=oV o))) H7:=by rw [decide_eq_true rfl];exact q _ x37
  cases o with
  | none=>exact ⟨rfl,fin⟩
  | some i=>exact ⟨rfl,fin⟩
end
section
variable {X:Cx} {cs:Cs}
theorem EJ {k:Nat} {ps:List Str} {sp:Sp} (M:∀ j:Kd,cQ X.prog X.w X.K X.mg X.base (cs.at j) "__eq__" k ps [] sp) (hr:dU (k + 1) X.A):nK X (compareOp .NotEq) (fun x y H Q=>∃ j:Kd,j9 X.K (cs.at j) sp x y H Q):=
  fun pins s σ H x y v u Q I rx ry ⟨j,h⟩=>Ry (M j) hr pins s σ H x y v u Q I rx ry h
theorem II {k:Nat} {ps:List Str} {sp:Sp} (M:∀ j:Kd,cQ X.prog X.w X.K X.mg X.base (cs.at j) "__str__" k ps [] sp) (hr:dU (k + 2) X.A):
    gR X (.type "str") (fun xs H Q=>∃ (j:Kd) (a dx:Addr) (fs:List (Str×V)),xs=[.ref a]∧H a=some (.ins (cs.at j) dx fs)∧sp [.ref a] H (fun v H'=>∃ t,v=.str t∧Q (.str t) H') E0):=
  fun pins s σ H xs us Q I r ⟨j,h⟩=>La (M j) hr pins s σ H xs us Q I r h
end
def UL {ι:Type} (t:ι→TE):TE:=fun σ H Q=>∃ k,t k σ H Q
theorem RI {X:Cx} {ι:Type} {e:Expr} {t:ι→TE} (h:∀ k,JE X e (t k)):JE X e (UL t):=⟨fun pins s σ H Q I ⟨k,q⟩=>(h k).h pins s σ H Q I q⟩
section
variable {P:Program} {w:World} {K:PySem.W.Frag} {mg:Str→Option Value} {base:Heap}
theorem M4 {H H1:Hp} {v:Addr} (x:Ext K H H1) (n:new K H1 v):new K H v:=by
  refine ⟨?_,n.2⟩
  have h1:=n.1
  cases e:H v with
  | none=>rfl
  | some o=>
    rw [x.same v o e] at h1
    cases h1
theorem fz {C:Addr} {k:Kd} {us:List Int} {H:Hp} {R:Addr→Hp→Prop} (ok:k.ok us) (q:∀ a H',Ext K H H'→gc C H' a k us→R a H'):
    ∀ x dx,new K H x→new K H dx→dx≠x→bu k C (.ref x::(us.map V.int++[.str "no more"])) (upd (upd H dx (.own x)) x (.ins C dx [])) (fun v H2=>v=.eO∧R x H2) E0:=by
  intro x dx n1 n2 ne
  refine ⟨x,dx,us,rfl,ok,av,rfl,q _ _ ?_ ⟨dx,av⟩⟩
  rw [mh]
  exact Ext.made n1 n2 ne
theorem EK {k:Kd} {us:List Int} (ok:k.ok us) (n:Int):SeqAt.shaped (k.note us n)=true:=by
  cases k
  · obtain ⟨a,b,rfl,_⟩:=ok;simp only [SeqAt.shaped,Kd.act,Kd.note,Kd.span,JX,ug,gone,PyData.canLay0,PyData.canLayAll0,PyData.depth,PyData.depthAll];decide +kernel
  · obtain ⟨a,rfl,_⟩:=ok;simp only [SeqAt.shaped,Kd.act,Kd.note,Kd.span,JX,ug,gone,PyData.canLay0,PyData.canLayAll0,PyData.depth,PyData.depthAll];decide +kernel
  · obtain ⟨a,b,rfl,_⟩:=ok;simp only [SeqAt.shaped,Kd.act,Kd.note,Kd.span,JX,ug,gone,PyData.canLay0,PyData.canLayAll0,PyData.depth,PyData.depthAll];decide +kernel
  · obtain ⟨a,b,rfl,_⟩:=ok;simp only [SeqAt.shaped,Kd.act,Kd.note,Kd.span,JX,ug,gone,PyData.canLay0,PyData.canLayAll0,PyData.depth,PyData.depthAll];decide +kernel
  · obtain ⟨a,b,c,rfl,_⟩:=ok;simp only [SeqAt.shaped,Kd.act,Kd.note,Kd.span,JX,ug,gone,PyData.canLay0,PyData.canLayAll0,PyData.depth,PyData.depthAll];decide +kernel
  · obtain ⟨a,b,c,rfl,_⟩:=ok;simp only [SeqAt.shaped,Kd.act,Kd.note,Kd.span,JX,ug,gone,PyData.canLay0,PyData.canLayAll0,PyData.depth,PyData.depthAll];decide +kernel
  · obtain rfl:=ok;simp only [SeqAt.shaped,Kd.act,Kd.note,Kd.span,JX,ug,gone,PyData.canLay0,PyData.canLayAll0,PyData.depth,PyData.depthAll];decide +kernel
  · obtain ⟨a,rfl,_⟩:=ok;simp only [SeqAt.shaped,Kd.act,Kd.note,Kd.span,JX,ug,gone,PyData.canLay0,PyData.canLayAll0,PyData.depth,PyData.depthAll];decide +kernel
theorem Ka (k:Kd) (us:List Int):(k.Ek us).lookup ("note":Str)=none:=Bj (show ("note":Str)∉k.names by cases k <;> decide +kernel)
theorem IJ {cs:Cs} {bT p p' dx dy:Addr} {kd:Kd} {us:List Int} {H:Hp} {R:Bool→Hp→Prop} (ok:Kd.ok kd us) (hp:H p=some (.ins (cs.at kd) dx (kd.Ek us))) (Ak:H p'=some (.ins (cs.at kd) dy (kd.Ek us))) (q:∀ H',Ext K H H'→R true H'):MW K cs bT [.ref p,.ref p'] H (fun v H'=>∃ b,v=.bl b∧R b H') E0:=by
  refine ⟨p,.ref p',kd,us,rfl,ok,⟨dx,hp⟩,.inl ⟨p',kd,us,rfl,ok,⟨dy,Ak⟩,fun H' x=>⟨_,rfl,?_⟩⟩⟩
  rw [lK (rS ok)]
  exact q H' x
theorem aa3:∀ vs H Q E,El vs H Q E→tL vs H Q E:=fun vs H Q E ⟨i,e,ok,q⟩=>⟨i,e,by rw [decide_eq_true (show 0≤i∧i≤999999999999 from ok)];exact q⟩
theorem aa4:∀ vs H Q E,JV vs H Q E→qj vs H Q E:=fun vs H Q E ⟨i,j,e,ok,q⟩=>⟨i,j,e,ok.1,ok.2.1,ok.2.2,q⟩
theorem _root_.L2.Callee.weak {x:Str} {k:Nat} {ps:List Str} {sp LV:Sp} (C:Callee P w K mg base x k ps sp) (h:∀ vs H Q E,LV vs H Q E→sp vs H Q E):Callee P w K mg base x k ps LV:=by
  obtain ⟨f,fd,F,b,kp,m⟩:=C.ex
  exact ⟨f,fd,F.imp h,b,kp,m⟩
def z6 (K:PySem.W.Frag) (cs:Cs) (H:Hp) (v:V):Prop:=∃ t a b k us,v=.ref t∧tupQ K H t=some [.ref a,.ref b]∧Kd.ok k us∧gc (cs.at k) H a k us∧gc (cs.at k) H b k us
theorem z6.ext {cs:Cs} {H H':Hp} {v:V} (h:z6 K cs H v) (x:Ext K H H'):z6 K cs H' v:=by
  obtain ⟨t,a,b,k,us,rfl,ht,ok,da,db⟩:=h
  exact ⟨t,a,b,k,us,rfl,x.tup ht,ok,da.ext x,db.ext x⟩
theorem z6.put {cs:Cs} {H:Hp} {v:V} {p:Addr} {xs ys:List V} (h:z6 K cs H v) (hp:H p=some (.lst xs)):z6 K cs (upd H p (.lst ys)) v:=by
  obtain ⟨t,a,b,k,us,rfl,ht,ok,⟨dx,ha⟩,⟨dy,hb⟩⟩:=h
  exact ⟨t,a,b,k,us,rfl,(Oi (fun e=>by rw [e] at ht;unfold tupQ at ht;rw [hp] at ht;cases ht)).trans ht,ok,⟨dx,(bE (fun e=>by rw [e,hp] at ha;cases ha)).trans ha⟩,⟨dy,(bE (fun e=>by rw [e,hp] at hb;cases hb)).trans hb⟩⟩
theorem wJ {cs:Cs} {H G G':Hp} {P t a b:Addr} {vs:List V} {k:Kd} {us:List Int} (nP:new K H P) (hP:G P=some (.lst vs)) (hv:∀ v∈vs,z6 K cs G v) (x:Ext K H G) (y:Ext K G G') (ht:tupQ K G' t=some [.ref a,.ref b]) (ok:Kd.ok k us) (da:gc (cs.at k) G' a k us) (db:gc (cs.at k) G' b k us):
    ∃ G2,G2=upd G' P (.lst (vs++[.ref t]))∧G2 P=some (.lst (vs++[.ref t]))∧(∀ v∈vs++[V.ref t],z6 K cs G2 v)∧Ext K H G2:=by
  have hP':=y.at hP
  refine ⟨_,rfl,av,fun v m=>?_,⟨fun z o e=>(bE (bJ e nP.1)).trans ((x.trans y).at e),fun z zs e m=>(bE (fun w=>by rw [w,nP.2] at m;cases m)).trans ((x.trans y).mod z zs e m)⟩⟩
  rcases List.mem_append.mp m with m | m
  · exact ((hv v m).ext y).put hP'
  · obtain rfl:=List.mem_singleton.mp m
    exact z6.put ⟨t,a,b,k,us,rfl,ht,ok,da,db⟩ hP'
def Bx (K:PySem.W.Frag):Sp:=fun vs H Q _=>∃ k a lo hi am,vs=[.int k,.ref a,.int am]∧0≤k∧k≤1000000∧tupQ K H a=some [.int lo,.int hi]∧Ir lo hi∧Gp am∧∀ H',Ext K H H'→Q (.bl true) H'
theorem di:ay ["_law_where","_law_ends_here","_law_amount","_law_least","_law_beyond","_law_pairs","_law_named","_law_placed"] ["_law_where","_law_ends_here","_law_amount"] (aa aV):=⟨rfl,rfl,rfl,by decide +kernel,rfl,by decide +kernel,by decide +kernel⟩
theorem t9 {f:Addr} {fd:FuncData} (F:fc K "_law_deeds_right" "_law_deeds_right" aV f fd) {br aG aC aP:Addr} {tE tM tN tF u1 u2 u3 u4 u5 u6 u7 u8 t1 t2 t3 t4:Tok} (B:B P w K mg br aG aC aP tE tM tN tF u1 u2 u3 u4 u5 u6 u7 u8 t1 t2 t3 t4) {cs:Cs} {bT:Addr} (dc:∀ k:Kd,DC K (cs.at k) bT) (ec:∀ k j:Kd,JC K (cs.at k) (cs.at j)) (ME:∀ k:Kd,cQ P w K mg base (cs.at k) "__eq__" 2 ["self","other"] [] (MW K cs bT)) (MR:∀ k:Kd,cQ P w K mg base (cs.at k) "__str__" 3 ["self"] [] (J0 K cs)) (MT:∀ k:Kd,cQ P w K mg base (cs.at k) "told" 1 ["self"] [] (gf K k (cs.at k))) (MN:∀ k:Kd,cQ P w K mg base (cs.at k) "note" 2 ["self","number"] [] (yN K cs)) (XE:∀ k:Kd,MD P w K mg base (cs.at k) "note" 2 ["self","number"] ["number"] [0] [] (yN K cs))
    (EL:jd P w K mg base "Put" 4 ["self","key","value","more"] ["value","key"] [1,0] [.str "no more"] cs.aM (bu .put cs.aM)) (uh:Maker P w K mg base "Put" 4 ["self","key","value","more"] [.str "no more"] cs.aM (bu .put cs.aM)) (Al:jd P w K mg base "Drop" 4 ["self","key","more"] ["key"] [0] [.str "no more"] cs.aD (bu .drop cs.aD)) (oH:Maker P w K mg base "Drop" 4 ["self","key","more"] [.str "no more"] cs.aD (bu .drop cs.aD)) (EM:jd P w K mg base "Add" 4 ["self","key","by","more"] ["by","key"] [1,0] [.str "no more"] cs.aN (bu .add cs.aN)) (um:Maker P w K mg base "Add" 4 ["self","key","by","more"] [.str "no more"] cs.aN (bu .add cs.aN)) (Am:jd P w K mg base "Wipe" 4 ["self","low","high","more"] ["high","low"] [1,0] [.str "no more"] cs.aA (bu .wipe cs.aA)) (oJ:Maker P w K mg base "Wipe" 4 ["self","low","high","more"] [.str "no more"] cs.aA (bu .wipe cs.aA)) (wK:jd P w K mg base "Raise" 4 ["self","low","high","by","more"] ["by","high","low"] [2,1,0] [.str "no more"] cs.aq (bu .raise cs.aq)) (kX:Maker P w K mg base "Raise" 4 ["self","low","high","by","more"] [.str "no more"] cs.aq (bu .raise cs.aq)) (wL:jd P w K mg base "Level" 4 ["self","low","high","value","more"] ["value","low","high"] [1,2,0] [.str "no more"] cs.au (bu .level cs.au)) (kY:Maker P w K mg base "Level" 4 ["self","low","high","value","more"] [.str "no more"] cs.au (bu .level cs.au)) (tS:jd P w K mg base "Forget" 3 ["self","mark","more"] ["mark"] [0] [.str "no more"] cs.ak (bu .forget cs.ak)) (i7:Maker P w K mg base "Forget" 3 ["self","mark","more"] [.str "no more"] cs.ak (bu .forget cs.ak)) (qu:bL P w K mg base "deed_of" 6 ["told"] ["told"] [0] (Bl K cs)) (lg:bL P w K mg base "read_words" 7 ["text"] ["text"] [0] (OS K cs)):aL P w K mg base dF 8 f fd ["_law_where","_law_ends_here","_law_amount"] (Bx K):=by
  refine F.fM di (fun vs H Q E h=>?_) (fun cJ A outer s H vs Q E hr h=>?_)
  · obtain ⟨k,a,lo,hi,am,rfl,_⟩:=h
    rfl
  obtain ⟨k,a,lo,hi,am,rfl,k0,k1,ha,st,oa,q⟩:=h
  refine ir (rest:=(ah aV).drop 7) (aE (Og PassesOwn.never rfl (qR (ev 5)) (kc (n:=2) rfl (cK (bG (i:=6) di.nd rfl (Or.inl rfl)) (cK (bG (i:=7) di.nd rfl (Or.inl rfl)) pG)))
        (aE (nQ (tw (B4 (eV (EJ ME (hr.mono (by decide))) (ev 6) (ev 7) (aO _)) (rC (eV (DO hr.units) (RI fun k:Kd=>RA (XE k) (dc k).cl (hr.mono (by decide)) (ev 6) (cH ei lS)) (RI fun k:Kd=>UE (MN k) (dc k).cl (hr.mono (by decide)) (ev 7) (af ei az)) (aO _))))) (aK (aU yj)) fq)
      (aK (nQ (tw (B4 (eV (EJ ME (hr.mono (by decide))) (iW qu (hr.mono (by decide)) rfl (cH (RI fun k:Kd=>rQ (MT k) (dc k).cl (hr.mono (by decide)) (ev 6)) lS)) (ev 7) (aO _)) (rC (eV (EJ ME (hr.mono (by decide))) (iW lg (hr.mono (by decide)) rfl (cH (vS (II MR (hr.mono (by decide))) rfl B.str p9 (af (ev 6) az)) lS)) (ev 7) (aO _))))) (aK (aU yj)) fq))))
      (aK (aU yj))) fun r7 J7 e7=>?_
  refine ir (rest:=(ah aV).drop 6) (aE (iT (Qc PySem.F.plainAttrs_list PySem.F.slot_list_append PySem.F.type_list_append kj (ev 5) (af (bU (af (ve tS (hr.mono (by decide)) rfl (cH (nL ie (ev 0) ei) lS)) (af (nR i7 (hr.mono (by decide)) rfl (af (nL ie (ev 0) ei) az)) az))) az)))
      J7) fun r6 J6 e6=>?_
  refine ir (rest:=(ah aV).drop 5) (aE (iT (Qc PySem.F.plainAttrs_list PySem.F.slot_list_append PySem.F.type_list_append kj (ev 5) (af (bU (af (ve wL (hr.mono (by decide)) rfl (cH (ev 2) (cH (ev 3) (cH (ev 4) lS)))) (af (nR kY (hr.mono (by decide)) rfl (af (ev 3) (af (ev 4) (af (ev 2) az)))) az))) az)))
      J6) fun r5 J5 e5=>?_
  refine ir (rest:=(ah aV).drop 4) (aE (iT (Qc PySem.F.plainAttrs_list PySem.F.slot_list_append PySem.F.type_list_append kj (ev 5) (af (bU (af (ve wK (hr.mono (by decide)) rfl (cH (ev 2) (cH (ev 4) (cH (ev 3) lS)))) (af (nR kX (hr.mono (by decide)) rfl (af (ev 3) (af (ev 4) (af (ev 2) az)))) az))) az)))
      J5) fun r4 J4 e4=>?_
  refine ir (rest:=(ah aV).drop 3) (aE (iT (Qc PySem.F.plainAttrs_list PySem.F.slot_list_append PySem.F.type_list_append kj (ev 5) (af (bU (af (ve Am (hr.mono (by decide)) rfl (cH (ev 4) (cH (ev 3) lS))) (af (nR oJ (hr.mono (by decide)) rfl (af (ev 3) (af (ev 4) az))) az))) az)))
      J4) fun r3 J3 e3=>?_
  refine ir (rest:=(ah aV).drop 2) (aE (iT (Qc PySem.F.plainAttrs_list PySem.F.slot_list_append PySem.F.type_list_append kj (ev 5) (af (bU (af (ve EM (hr.mono (by decide)) rfl (cH (ev 2) (cH (ev 0) lS))) (af (nR um (hr.mono (by decide)) rfl (af (ev 0) (af (ev 2) az))) az))) az)))
      J3) fun r2 J2 e2=>?_
  refine ir (rest:=(ah aV).drop 1) (aE (sset (i:=5) di.nd rfl (Or.inl rfl) (ua (af (bU (af (ve EL (hr.mono (by decide)) rfl (cH (ev 2) (cH (ev 0) lS))) (af (nR uh (hr.mono (by decide)) rfl (af (ev 0) (af (ev 2) az))) az))) (af (bU (af (ve Al (hr.mono (by decide)) rfl (cH (ev 0) lS)) (af (nR oH (hr.mono (by decide)) rfl (af (ev 0) az)) az))) az))))
      J2) fun r1 J1 e1=>?_
  refine ⟨_,(aE (qc (ev 1) (kc (n:=2) rfl (cK (bG (i:=3) di.nd rfl (Or.inl rfl)) (cK (bG (i:=4) di.nd rfl (Or.inl rfl)) pG))))
      J1),?_⟩
  simp_arith [ha]
  rw [e1]
  try walk_at "rn"
  have okP:Kd.ok .put [k,am]:=⟨k,am,rfl,⟨k0,by omega⟩,oa⟩
  have okD:Kd.ok .drop [k]:=⟨k,rfl,k0,by omega⟩
  have okA:Kd.ok .add [k,am]:=⟨k,am,rfl,⟨k0,by omega⟩,oa⟩
  have okW:Kd.ok .wipe [lo,hi]:=⟨lo,hi,rfl,st⟩
  have okR:Kd.ok .raise [lo,hi,am]:=⟨lo,hi,am,rfl,st,oa⟩
  have Xx:Kd.ok .level [lo,hi,am]:=⟨lo,hi,am,rfl,st,oa⟩
  have okF:Kd.ok .forget [k + 1]:=⟨k + 1,rfl,by omega,by omega⟩
  refine fz (C:=cs.aM) (k:=.put) (us:=[k,am]) okP fun a1 H1 x1 d1=>?_
  refine fz (C:=cs.aM) (k:=.put) (us:=[k,am]) okP fun b1 H2 x2 d2=>?_
  intro t1 n1
  have y1:=Ext.new (K:=K) (o:=.tup [V.ref a1,V.ref b1]) n1
  refine fz (C:=cs.aD) (k:=.drop) (us:=[k]) okD fun a2 H3 x3 d3=>?_
  refine fz (C:=cs.aD) (k:=.drop) (us:=[k]) okD fun b2 H4 x4 d4=>?_
  intro t2 n2 Pr nPr
  have y2:=Ext.new (K:=K) (o:=.tup [V.ref a2,V.ref b2]) n2
  have y3:=Ext.new (K:=K) (o:=.lst [V.ref t1,V.ref t2]) nPr
  have z1:=y1.trans (x3.trans (x4.trans (y2.trans y3)))
  have p1:z6 K cs _ (.ref t1):=⟨t1,a1,b1,.put,[k,am],rfl,(x3.trans (x4.trans (y2.trans y3))).tup ao,okP,d1.ext (x2.trans z1),d2.ext z1⟩
  have p2:z6 K cs _ (.ref t2):=⟨t2,a2,b2,.drop,[k],rfl,y3.tup ao,okD,d3.ext (x4.trans (y2.trans y3)),d4.ext (y2.trans y3)⟩
  have nP:new K H Pr:=M4 (x1.trans (x2.trans (y1.trans (x3.trans (x4.trans y2))))) nPr
  have xG0:=x1.trans (x2.trans z1)
  have XF:=av (H:=upd H4 t2 (.tup [V.ref a2,V.ref b2])) (a:=Pr) (o:=.lst [V.ref t1,V.ref t2])
  generalize upd (upd H4 t2 (.tup [V.ref a2,V.ref b2])) Pr (.lst [V.ref t1,V.ref t2])=G0 at p1 p2 xG0 XF ⊢
  have vG0:∀ v∈[V.ref t1,V.ref t2],z6 K cs G0 v:=by
    intro v m
    simp only [List.mem_cons,List.not_mem_nil,or_false] at m
    rcases m with rfl | rfl
    · exact p1
    · exact p2
  clear p1 p2 z1 y1 y2 y3 x1 x2 x3 x4 d1 d2 d3 d4
  rw [e2]
  try walk_at "rn"
  refine ⟨.inl ⟨_,fE.of XF⟩,?_⟩
  refine fz (C:=cs.aN) (k:=.add) (us:=[k,am]) okA fun a1 H1 x1 d1=>?_
  refine fz (C:=cs.aN) (k:=.add) (us:=[k,am]) okA fun b1 H2 x2 d2=>?_
  intro t nt
  have yt:=Ext.new (K:=K) (o:=.tup [V.ref a1,V.ref b1]) nt
  have y:=x1.trans (x2.trans yt)
  refine ⟨_,y.at XF,by simp,?_⟩
  obtain ⟨G1,e,hG1,vG1,xG1⟩:=wJ (cs:=cs) (k:=.add) nP XF vG0 xG0 y ao okA (d1.ext (x2.trans yt)) (d2.ext yt)
  rw [← e]
  clear e y yt x1 x2 d1 d2
  rw [e3]
  try walk_at "rn"
  refine ⟨.inl ⟨_,fE.of hG1⟩,?_⟩
  refine fz (C:=cs.aA) (k:=.wipe) (us:=[lo,hi]) okW fun a1 H1 x1 d1=>?_
  refine fz (C:=cs.aA) (k:=.wipe) (us:=[lo,hi]) okW fun b1 H2 x2 d2=>?_
  intro t nt
  have yt:=Ext.new (K:=K) (o:=.tup [V.ref a1,V.ref b1]) nt
  have y:=x1.trans (x2.trans yt)
  refine ⟨_,y.at hG1,by simp,?_⟩
  obtain ⟨G2,e,hG2,vG2,xG2⟩:=wJ (cs:=cs) (k:=.wipe) nP hG1 vG1 xG1 y ao okW (d1.ext (x2.trans yt)) (d2.ext yt)
  rw [← e]
  clear e y yt x1 x2 d1 d2
  rw [e4]
  try walk_at "rn"
  refine ⟨.inl ⟨_,fE.of hG2⟩,?_⟩
  refine fz (C:=cs.aq) (k:=.raise) (us:=[lo,hi,am]) okR fun a1 H1 x1 d1=>?_
  refine fz (C:=cs.aq) (k:=.raise) (us:=[lo,hi,am]) okR fun b1 H2 x2 d2=>?_
  intro t nt
  have yt:=Ext.new (K:=K) (o:=.tup [V.ref a1,V.ref b1]) nt
  have y:=x1.trans (x2.trans yt)
  refine ⟨_,y.at hG2,by simp,?_⟩
  obtain ⟨G3,e,hG3,vG3,xG3⟩:=wJ (cs:=cs) (k:=.raise) nP hG2 vG2 xG2 y ao okR (d1.ext (x2.trans yt)) (d2.ext yt)
  rw [← e]
  clear e y yt x1 x2 d1 d2
  rw [e5]
  try walk_at "rn"
  refine ⟨.inl ⟨_,fE.of hG3⟩,?_⟩
  refine fz (C:=cs.au) (k:=.level) (us:=[lo,hi,am]) Xx fun a1 H1 x1 d1=>?_
  refine fz (C:=cs.au) (k:=.level) (us:=[lo,hi,am]) Xx fun b1 H2 x2 d2=>?_
  intro t nt
  have yt:=Ext.new (K:=K) (o:=.tup [V.ref a1,V.ref b1]) nt
  have y:=x1.trans (x2.trans yt)
  refine ⟨_,y.at hG3,by simp,?_⟩
  obtain ⟨G4,e,hG4,vG4,xG4⟩:=wJ (cs:=cs) (k:=.level) nP hG3 vG3 xG3 y ao Xx (d1.ext (x2.trans yt)) (d2.ext yt)
  rw [← e]
  clear e y yt x1 x2 d1 d2
  rw [e6]
  try walk_at "rn"
  refine ⟨.inl ⟨_,fE.of hG4⟩,?_⟩
  refine fz (C:=cs.ak) (k:=.forget) (us:=[k + 1]) okF fun a1 H1 x1 d1=>?_
  refine fz (C:=cs.ak) (k:=.forget) (us:=[k + 1]) okF fun b1 H2 x2 d2=>?_
  intro t nt
  have yt:=Ext.new (K:=K) (o:=.tup [V.ref a1,V.ref b1]) nt
  have y:=x1.trans (x2.trans yt)
  refine ⟨_,y.at hG4,by simp,?_⟩
  obtain ⟨G5,e,hG5,vG5,xG5⟩:=wJ (cs:=cs) (k:=.forget) nP hG4 vG4 xG4 y ao okF (d1.ext (x2.trans yt)) (d2.ext yt)
  rw [← e]
  clear e y yt x1 x2 d1 d2
  rw [e7]
  try walk_at "rn"
  refine ⟨⟨_,fE.of hG5⟩,tH (xs:=_) (fun i σ H'=>(∃ v6 v7,σ=[some (V.int k),some (V.ref a),some (V.int am),some (V.int lo),some (V.int hi),some (V.ref Pr),v6,v7])∧Ext K G5 H') ⟨⟨_,_,rfl⟩,Ext.refl⟩ (fun i σ H' _ h=>h.2.same.seq (fE.of hG5)) ?_ ?_⟩
  · rintro i v σ H6 hi' ⟨⟨v6,v7,rfl⟩,x6⟩
    obtain ⟨t,p,p',kd,us,rfl,ht,ok,⟨dx,hp⟩,⟨dy,Ak⟩⟩:=(vG5 v (List.mem_of_getElem? hi')).ext x6
    simp_arith [ht,UL]
    refine ⟨kd,_,_,hp,_,_,_,Ak,ec _ _,IJ ok hp Ak fun H7 x7=>aS (by decide) ?_⟩
    have hp:=x7.at hp
    have Ak:=x7.at Ak
    refine ⟨kd,_,_,hp,Ka _ _,p,7,kd,us,rfl,ok,⟨dx,hp⟩,fun u1 H8 x8 i1=>?_⟩
    have hp:=x8.at hp
    have Ak:=x8.at Ak
    refine ⟨kd,_,_,Ak,Ka _ _,p',7,kd,us,rfl,ok,⟨dy,Ak⟩,fun u2 H9 x9 i2=>?_⟩
    have hp:=x9.at hp
    have Ak:=x9.at Ak
    have sn:=EK ok 7
    refine ⟨_,Is.same x9.same i1,_,i2,sn,sn,?_⟩
    rw [lK sn]
    refine aS (by decide) ?_
    refine ⟨kd,_,_,hp,Ac _ _,p,us,rfl,ok,⟨dx,hp⟩,fun T nT=>?_⟩
    have xT:=Ext.new (K:=K) (o:=.tup (kd.told us)) nT
    refine ⟨T,kd,us,rfl,ao,ok,fun a1 H10 x10 ⟨dz,hz⟩=>?_⟩
    have xT:=xT.trans x10
    have hp:=xT.at hp
    have Ak:=xT.at Ak
    refine ⟨kd,a1,rfl,_,_,p',rfl,hz,_,_,_,Ak,ec _ _,IJ ok hz Ak fun H11 x11=>aS (by decide) ?_⟩
    have hp:=x11.at hp
    have Ak:=x11.at Ak
    refine ⟨kd,p,rfl,_,_,hp,p,kd,us,rfl,ok,⟨dx,hp⟩,fun H12 Lo=>⟨_,rfl,?_⟩⟩
    have Ak:=Lo.at Ak
    refine ⟨kd,us,rfl,ok,fun a2 H13 Fy ⟨dz2,hz2⟩=>?_⟩
    have Ak:=Fy.at Ak
    refine ⟨kd,a2,rfl,_,_,p',rfl,hz2,_,_,_,Ak,ec _ _,IJ ok hz2 Ak fun H14 UK=>aS (by decide) ?_⟩
    exact ⟨⟨_,rfl⟩,x6.trans (x7.trans (x8.trans (x9.trans (xT.trans (x11.trans (Lo.trans (Fy.trans UK)))))))⟩
  · rintro σ H6 ⟨⟨v6,v7,rfl⟩,x6⟩
    try walk_at "rn"
    exact q _ (xG5.trans x6)
end
section
variable {P:Program} {w:World} {K:PySem.W.Frag} {mg:Str→Option Value} {base:Heap}
theorem GJ {a c d F R:Prop} [Decidable a] [Decidable c] [Decidable d] (h1:a→¬ c) (h2:¬ a→¬ d) (r:R):if a then (if c then F else R) else (if d then F else R):=by
  by_cases z:a
  · rw [if_pos z,if_neg (h1 z)];exact r
  · rw [if_neg z,if_neg (h2 z)];exact r
def qv:Stmt→List Stmt
  | .For _ _ b _ _=>b
  | _=>[]
theorem GK (t n:aR):SeqAt.shaped (Gg t n)=true:=by
  cases t <;> cases n <;> simp only [SeqAt.shaped,Gg,aR.d,PyData.canLay0,PyData.canLayAll0,PyData.depth,PyData.depthAll] <;> decide +kernel
theorem kR:ay ["_law_script","_law_cell","_law_well_here","_law_doing_here","_law_after","_law_amount","_law_where","_law_ends_here","_law_least","_law_beyond","_law_papers","_law_second","_law_paper_here"] ["_law_script"] (aa lZ):=⟨rfl,rfl,rfl,by decide +kernel,rfl,by decide +kernel,by decide +kernel⟩
def Kc (K:PySem.W.Frag):Sp:=fun vs H Q _=>∃ (a:Addr) (ns:List Int),vs=[.ref a]∧fE K H a (ns.map V.int)∧ns.length≤63∧Oc H∧∀ H',Q (.bl true) H'
theorem RJ {f:Addr} {fd:FuncData} (F:fc K "law" "law" lZ f fd) {br aG aC aP:Addr} {tE tM tN tF u1 u2 u3 u4 u5 u6 u7 u8 t1 t2 t3 t4:Tok} (B:B P w K mg br aG aC aP tE tM tN tF u1 u2 u3 u4 u5 u6 u7 u8 t1 t2 t3 t4) (An:bL P w K mg base "acts" 5 ["action","value"] ["value","action"] [1,0] (AW K)) (EN:Callee P w K mg base "acts" 5 ["action","value"] (AW K)) (mw:bL P w K mg base "is_action" 3 ["thing"] ["thing"] [0] (pN K)) (tU:bL P w K mg base "behind" 5 ["one","other"] ["other","one"] [1,0] (jD K)) (wM:Callee P w K mg base "behind" 5 ["one","other"] (jD K)) (oh:bL P w K mg base "is_whole" 2 ["thing","low","high"] ["high","thing","low"] [1,2,0] nV) (tV:bL P w K mg base "is_key" 3 ["thing"] ["thing"] [0] tL) (qw:bL P w K mg base "is_rule" 3 ["thing"] ["thing"] [0] (Ae K)) (lq:bL P w K mg base "is_stretch" 3 ["low","high"] ["high","low"] [1,0] qj)
    (oj:Callee P w K mg base "_law_well" 1 ["_law_cell"] (Ic K)) (bK:Callee P w K mg base "_law_draw" 1 ["_law_well_here","_law_many"] (AV K)) (eN:Callee P w K mg base "_law_doing" 2 ["_law_well_here"] (Ad K)) (gJ:Callee P w K mg base "_law_ends" 2 ["_law_well_here"] (EC K)) (jI:Callee P w K mg base "_law_paper" 3 ["_law_well_here","_law_count"] (ED K)) (gO:Callee P w K mg base "_law_deeds_right" 8 ["_law_where","_law_ends_here","_law_amount"] (Bx K)) (gP:Callee P w K mg base "_law_trays_right" 4 ["_law_papers","_law_where","_law_ends_here","_law_looks"] (Bw K)) (gQ:Callee P w K mg base "_law_notes_right" 7 ["_law_paper_here","_law_second","_law_where","_law_ends_here"] (Bv K)):aL P w K mg base dF 9 f fd ["_law_script"] (Kc K):=by
  refine F.fM kR (fun vs H Q E h=>?_) (fun cJ A outer s H vs Q E hr h=>?_)
  · obtain ⟨a,ns,rfl,_⟩:=h
    rfl
  obtain ⟨sa,ns,rfl,hs,hl,on,q⟩:=h
  refine ir (rest:=(qv ((ah lZ).getD 0 (.Pass ⟨0,0,0,0⟩))).drop 13) (aE (nQ (tw (B4 (lF (j4 (aI gO (hr.mono (by decide)) rfl (af (ev 6) (af (ev 7) (af (ev 5) az)))))) (rC (lF (j4 (aI gP (hr.mono (by decide)) rfl (af (ev 10) (af (ev 6) (af (ev 7) (af (ua (af ei (af ei az))) az)))))))))) (aK (aU yj)) fq)
      (aK (Og PassesOwn.never rfl (qR (nL vU (ev 10) (ua (af (ev 11) az)))) (bG (i:=12) kR.nd rfl (Or.inl rfl))
        (aK (nQ (lF (j4 (aI gQ (hr.mono (by decide)) rfl (af (ev 12) (af (ev 11) (af (ev 6) (af (ev 7) az))))))) (aK (aU yj)) fq))))) fun r13 J13 e13=>?_
  refine ir (rest:=(qv ((ah lZ).getD 0 (.Pass ⟨0,0,0,0⟩))).drop 11) (aE (slc (i:=10) kR.nd rfl (Or.inl rfl) (vY.mk (N:=["_law_k","_law_well_here"]) (src:=[none,some 2]) rfl rfl) rfl (Oh rfl B.range (af (aI bK (hr.mono (by decide)) rfl (af (ev 2) (af ei az))) az)) (fun _ _ _ _=>(bG (i:=0) (show (["_law_k","_law_well_here"]:List Str).Nodup from by decide +kernel) rfl (Or.inl rfl))) (fun _ _ _ _=>AJ) (fun _ _ _ _=>(aI jI (hr.mono (by decide)) rfl (af (ev 1) (af (nL ie ei (ev 0)) az)))))
      (aE (sset (i:=11) kR.nd rfl (Or.inl rfl) (aI jI (hr.mono (by decide)) rfl (af (ev 2) (af ei az))))
      J13)) fun r11 J11 e11=>?_
  refine ir (rest:=(qv ((ah lZ).getD 0 (.Pass ⟨0,0,0,0⟩))).drop 10) (aE (nQ (tw (B4 (eV pD (iW qw (hr.mono (by decide)) rfl (cH (bU (af (ev 8) (af ei (af ei (af gK az))))) lS)) (AH za za ei (ev 8) ei) (aO _)) (rC (eV Mj (iW lq (hr.mono (by decide)) rfl (cH (ev 9) (cH (ev 8) lS))) yj (aO _))))) (aK (aU yj)) fq)
      J11) fun r10 J10 e10=>?_
  refine ir (rest:=(qv ((ah lZ).getD 0 (.Pass ⟨0,0,0,0⟩))).drop 9) (aE (nQ (tw (B4 (eV pD (iW oh (hr.mono (by decide)) rfl (cH (ev 9) (cH (ev 6) (cH (ev 8) lS)))) (AH vL vL (ev 8) (ev 6) (ev 9)) (aO _)) (rC (eV Mj (iW tV (hr.mono (by decide)) rfl (cH (ev 6) lS)) yj (aO _))))) (aK (aU yj)) fq)
      J10) fun r9 J9 e9=>?_
  refine ir (rest:=(qv ((ah lZ).getD 0 (.Pass ⟨0,0,0,0⟩))).drop 6) (aE (sset (i:=6) kR.nd rfl (Or.inl rfl) (aI bK (hr.mono (by decide)) rfl (af (ev 2) (af (ze 1000000) az))))
      (aE (sset (i:=7) kR.nd rfl (Or.inl rfl) (aI gJ (hr.mono (by decide)) rfl (af (ev 2) az)))
      (aE (qc (ev 7) (kc (n:=2) rfl (cK (bG (i:=8) kR.nd rfl (Or.inl rfl)) (cK (bG (i:=9) kR.nd rfl (Or.inl rfl)) pG))))
      J9))) fun r6 J6 e6=>?_
  refine ir (rest:=(qv ((ah lZ).getD 0 (.Pass ⟨0,0,0,0⟩))).drop 5) (aE (nQ (eV (DO hr.units) (iW tU (hr.mono (by decide)) rfl (cH (ev 4) (cH (ev 3) lS))) (aI wM (hr.mono (by decide)) rfl (af (ev 3) (af (ev 4) az))) (aO _)) (aK (aU yj)) fq)
      J6) fun r5 J5 e5=>?_
  refine ir (rest:=(qv ((ah lZ).getD 0 (.Pass ⟨0,0,0,0⟩))).drop 4) (aE (nQ (tw (B4 (eV pD (iW An (hr.mono (by decide)) rfl (cH (ev 5) (cH (ev 3) lS))) (aI EN (hr.mono (by decide)) rfl (af (ev 3) (af (ev 5) az))) (aO _)) (rC (eV Jr (iW mw (hr.mono (by decide)) rfl (cH (ev 3) lS)) yj (aO _))))) (aK (aU yj)) fq)
      J5) fun r4 J4 e4=>?_
  refine ⟨_,(aE (Og PassesOwn.never rfl (qR (nL vU (ua (af ei (af ei az))) (Hw AI (ev 0) Mc (Me ei)))) (bG (i:=1) kR.nd rfl (Or.inl rfl))
        (aE (sset (i:=2) kR.nd rfl (Or.inr rfl) (aI oj (hr.mono (by decide)) rfl (af (ev 1) az)))
      (aE (sset (i:=3) kR.nd rfl (Or.inl rfl) (aI eN (hr.mono (by decide)) rfl (af (ev 2) az)))
      (aE (sset (i:=4) kR.nd rfl (Or.inl rfl) (aI eN (hr.mono (by decide)) rfl (af (ev 2) az)))
      (aE (sset (i:=5) kR.nd rfl (Or.inl rfl) (nL Dw (aI bK (hr.mono (by decide)) rfl (af (ev 2) (af (ze 1000000000) az))) ei))
      J4)))))
      (aK (aU yj))),?_⟩
  try walk_at "rn"
  intro b0 n0
  have y0:=Ext.new (K:=K) (o:=.lst [V.int 0,V.int 3]) n0
  refine ⟨_,y0.same.seq hs,fun b1 n1=>?_⟩
  have e12:yh (ns.map V.int) none (some 12)=(ns.take 12).map V.int:=by
    rw [show (12:Int)=((12:Nat):Int) from rfl,Js,List.map_take]
  rw [e12] at *
  have y1:=Ext.new (K:=K) (o:=.lst ((ns.take 12).map V.int)) n1
  refine ⟨_,y1.at av,by simp;omega,fun D nD=>⟨⟨_,fE.of av⟩,?_⟩⟩
  have hD:=av (H:=upd (upd H b0 (.lst [V.int 0,V.int 3])) b1 (.lst ((ns.take 12).map V.int))) (a:=D) (o:=.lst ([V.int 0,V.int 3]++(ns.take 12).map V.int))
  generalize upd (upd (upd H b0 (.lst [V.int 0,V.int 3])) b1 (.lst ((ns.take 12).map V.int))) D (.lst ([V.int 0,V.int 3]++(ns.take 12).map V.int))=H0 at hD ⊢
  have allI:∀ v∈[V.int 0,V.int 3]++(ns.take 12).map V.int,∃ c,v=V.int c:=by
    intro v m
    rcases List.mem_append.mp m with m | m
    · simp only [List.mem_cons,List.not_mem_nil,or_false] at m
      rcases m with rfl | rfl <;> exact ⟨_,rfl⟩
    · obtain ⟨c,_,rfl⟩:=List.mem_map.mp m
      exact ⟨c,rfl⟩
  obtain ⟨Pv,hPv⟩:∃ Pv:Nat→St→Hp→Prop,Pv=fun i σ H'=>(∃ v1 v2 v3 v4 v5 v6 v7 v8 v9 v10 v11 v12:Option V,σ=[some (V.ref sa),v1,v2,v3,v4,v5,v6,v7,v8,v9,v10,v11,v12])∧Ext K H0 H':=⟨_,rfl⟩
  refine tH (xs:=_) Pv (by rw [hPv];exact ⟨⟨_,_,_,_,_,_,_,_,_,_,_,_,rfl⟩,Ext.refl⟩) (fun i σ H' _ h=>by rw [hPv] at h;exact h.2.same.seq (fE.of hD)) ?_ (fun σ H' h=>?_)
  case refine_2=>
    rw [hPv] at h
    obtain ⟨⟨v1,v2,v3,v4,v5,v6,v7,v8,v9,v10,v11,v12,rfl⟩,_⟩:=h
    try walk_at "rn"
    exact q _
  intro i v σ H1 hi h
  rw [hPv] at h
  obtain ⟨⟨v1,v2,v3,v4,v5,v6,v7,v8,v9,v10,v11,v12,rfl⟩,x1⟩:=h
  obtain ⟨c,rfl⟩:=allI v (List.mem_of_getElem? hi)
  try walk_at "rn"
  refine ⟨c,rfl,fun p x y z np=>?_⟩
  have xp:=x1.trans (Ext.new (K:=K) (o:=L3 x y z) np)
  refine ⟨p,x,y,z,rfl,av,fun d1 t1 x y z H2 A1 g2 k2=>?_⟩
  refine ⟨p,_,_,_,rfl,g2,fun d2 t2 x y z H3 A2 g3 k3=>?_⟩
  refine ⟨p,_,_,_,1000000000,rfl,g3,by decide,by decide,fun am x y z H4 a0 a1 g4 k4=>⟨_,rfl,?_⟩⟩
  rw [e4]
  try walk_at "rn"
  have A1:=(A1.kp k3 g2).kp k4 g3
  have A2:=A2.kp k4 g3
  refine ⟨_,t1,.gone,some (am - 500),rfl,A1,fun H5 x5=>?_⟩
  refine ⟨_,t1,.gone,some (am - 500),rfl,A1.ext x5,fun H6 x6=>⟨by cases Gf t1 .gone (some (am - 500)) <;> rfl,aS (by simp) ?_⟩⟩
  have x46:=x5.trans x6
  refine ⟨_,t1,.gone,rfl,A1.ext x46,fun H7 x7=>⟨_,rfl,aS (by decide) ?_⟩⟩
  rw [e5]
  try walk_at "rn"
  have XG:=x46.trans x7
  refine ⟨_,_,_,_,_,_,rfl,A1.ext XG,A2.ext XG,fun u1 H8 B1 x8=>?_⟩
  have XH:=XG.trans x8
  refine ⟨_,_,_,_,_,_,rfl,A1.ext XH,A2.ext XH,fun u2 H9 B2 x9=>?_⟩
  have x49:=XH.trans x9
  have sh:=GK (t1.then t2 .gone) (aR.gone.then t2 .gone)
  refine ⟨_,Is.same x9.same B1.is,_,B2.is,sh,sh,?_⟩
  rw [lK sh]
  refine aS (by decide) ?_
  rw [e6]
  try walk_at "rn"
  have kk:=(Ext.kp (p:=p) xp)
  have RK:=k2.trans (k3.trans (k4.trans x49.kp))
  refine ⟨p,_,_,_,1000000,rfl,x49.at g4,by decide,by decide,fun wh x y z HA w0 w1 gA kA=>?_⟩
  refine ⟨p,_,_,_,rfl,gA,fun ea lo hi x y z HB eE l0 lh h1 gB kB=>?_⟩
  refine ⟨ea,rfl,_,eE,rfl,_,_,rfl,_,_,rfl,rfl,?_⟩
  have kB:=RK.trans (kA.trans kB)
  clear A1 A2 B1 B2 g2 g3 g4 gA k2 k3 k4 RK kA x5 x6 x7 x8 x9 x46 XG XH x49 sh
  rw [e9]
  try walk_at "rn"
  refine ⟨wh,lo,hi,rfl,?_⟩
  try walk_at "rn"
  refine GJ (fun z=>by simp [z]) (fun z=>by simp [z]) ?_
  refine ⟨wh,rfl,_,rfl,aS (by rw [decide_eq_true ⟨w0,by omega⟩];decide) ?_⟩
  rw [e10]
  try walk_at "rn"
  intro T nT
  have yT:=Ext.new (K:=K) (o:=.tup [V.int lo,V.int 3,V.int 1,V.str (Str.ofString "eldest")]) nT
  refine ⟨T,lo,rfl,ao,?_⟩
  try walk_at "rn"
  refine GJ (fun z=>by rw [show decide (1≤lo∧lo≤64)=decide (lo < 65) from decide_eq_decide.mpr ⟨fun h=>by omega,fun h=>⟨by omega,by omega⟩⟩];simp) (fun z=>by rw [show decide (1≤lo∧lo≤64)=false from decide_eq_false (by omega)];simp) ?_
  refine ⟨lo,hi,rfl,l0,lh,h1,_,rfl,aS (by decide) ?_⟩
  rw [e11]
  try walk_at "rn"
  refine ⟨p,_,_,_,6,rfl,yT.at gB,by decide,by decide,fun n x y z HC n0 n1 gC kC=>⟨_,rfl,by omega,by omega,fun DL nDL=>?_⟩⟩
  have eC:=kC.tup (yT.at gB) (yT.tup eE)
  have kC:=kB.trans (yT.kp.trans kC)
  have pDL:p≠DL:=bJ gC nDL.1
  obtain ⟨Jv,hJ⟩:∃ Jv:Nat→List V→St→Hp→Prop,Jv=fun j acc σ' H'=>∃ (L:Tr) (v0:Option V) (x y z:Int),σ'=[v0,some (V.ref p)]∧acc=Tr.v L∧H' DL=some (.lst acc)∧cG K H' L∧L.length=j∧H' p=some (L3 x y z)∧Jt K p DL (upd HC DL (.lst [])) H':=⟨_,rfl⟩
  refine Mq Jv (by rw [hJ];exact ⟨[],_,_,_,_,rfl,rfl,av,(fun q hq=>nomatch hq),rfl,(Ext.new nDL).at gC,Jt.refl⟩) ?_ ?_
  · intro j acc σ' H' hj h
    rw [hJ] at h
    obtain ⟨L,v0,x,y,z,rfl,rfl,Tt,hL,lL,gp,k5⟩:=h
    try walk_at "rn"
    refine ⟨p,_,_,_,_,rfl,gp,by omega,fun v e x y z H2 hN okN en g2 k2=>?_⟩
    have B5:=k2.keep DL _ Tt pDL.symm
    have hL2:=A7 (hL.kp k2 gp) hN okN
    refine ⟨B5,by simp [lL];omega,?_⟩
    rw [hJ]
    refine ⟨L++[(v,e)],_,_,_,_,rfl,by simp,av,hL2.kp (Kp.upd B5) B5,by simp [lL],(bE pDL).trans g2,⟨fun q' o h e1 e2=>?_,fun b xs h e=>?_⟩⟩
    · rw [bE e2]
      exact k2.keep q' o (k5.keep q' o h e1 e2) e1
    · rw [bE (fun z=>by rw [z,nDL.2] at e;cases e)]
      exact k2.mod b xs (k5.mod b xs h e) e
  intro acc σ' HD h
  rw [hJ] at h
  obtain ⟨L,v0,x,y,z,rfl,rfl,Tt,hL,lL,gD,k5⟩:=h
  have kD:Kp K p HC HD:=k5.kp nDL
  have eD:=kD.tup gC eC
  refine ⟨p,_,_,_,9,rfl,gD,by decide,fun w2 e2 x y z HE hN2 okN2 _ gE kE=>?_⟩
  rw [e13]
  try walk_at "rn"
  have Tt:=kE.keep DL _ Tt pDL.symm
  have hL:=hL.kp kE gD
  have eE:=kE.tup gD eD
  have xE:Ext K H0 HE:=x1.trans ((kC.trans (kD.trans kE)).ext np)
  clear k5 kC kD kE gC gD gB gE kB kk xp
  refine ⟨wh,ea,lo,hi,am - 500,rfl,w0,by omega,eE,⟨l0,lh,h1⟩,⟨by omega,by omega⟩,fun HF xF=>⟨_,rfl,aS (by decide) ?_⟩⟩
  intro M nM
  have yM:=Ext.new (K:=K) (o:=.lst [V.int 2,V.int 50]) nM
  have xM:=xF.trans yM
  refine ⟨DL,L,wh,ea,lo,hi,M,[2,50],rfl,xM.at Tt,hL.ext xM,by omega,xM.tup eE,l0,lh,h1,av,by decide,fun HG xG=>⟨_,rfl,aS (by decide) ?_⟩⟩
  have xG:=xM.trans xG
  intro S nS
  have xS:=xG.trans (Ext.new (K:=K) (o:=.lst [w2]) nS)
  refine ⟨_,xS.at Tt,by simp;omega,fun PL nPL=>⟨⟨_,fE.of av⟩,?_⟩⟩
  have xP:=xS.trans (Ext.new (K:=K) (o:=.lst (Tr.v L++[w2])) nPL)
  have hPL:=av (H:=upd HG S (.lst [w2])) (a:=PL) (o:=.lst (Tr.v L++[w2]))
  generalize upd (upd HG S (.lst [w2])) PL (.lst (Tr.v L++[w2]))=HP at xP hPL ⊢
  have all:∀ v∈Tr.v L++[w2],∃ e,cM K HP v e∧e.ok:=by
    intro v m
    rcases List.mem_append.mp m with m | m
    · obtain ⟨q',hq',rfl⟩:=List.mem_map.mp m
      exact ⟨q'.2,(hL q' hq').1.ext xP,(hL q' hq').2⟩
    · rw [List.mem_singleton.mp m]
      exact ⟨e2,hN2.ext xP,okN2⟩
  refine tH (xs:=_) (fun j σ H'=>(∃ v12,σ=[some (V.ref sa),some (V.int c),some (V.ref p),some d1,some d2,some (V.int (am - 500)),some (V.int wh),some (V.ref ea),some (V.int lo),some (V.int hi),some (V.ref DL),some w2,v12])∧Ext K HP H') ⟨⟨_,rfl⟩,Ext.refl⟩ (fun j σ H' _ h=>h.2.same.seq (fE.of hPL)) ?_ ?_
  · rintro j v σ HQ hj ⟨⟨v12,rfl⟩,xQ⟩
    obtain ⟨e,hv,ok⟩:=all v (List.mem_of_getElem? hj)
    try walk_at "rn"
    refine ⟨v,e,w2,e2,wh,ea,lo,hi,rfl,hv.ext xQ,ok,hN2.ext (xP.trans xQ),okN2,w0,by omega,(xP.trans xQ).tup eE,l0,lh,h1,fun HR xR=>⟨_,rfl,aS (by decide) ?_⟩⟩
    exact ⟨⟨_,rfl⟩,xQ.trans xR⟩
  · rintro σ HQ ⟨⟨v12,rfl⟩,xQ⟩
    show Pv (i + 1) _ _
    rw [hPv]
    exact ⟨⟨_,_,_,_,_,_,_,_,_,_,_,_,rfl⟩,xE.trans (xP.trans xQ)⟩
end
theorem all_mk {l:PySem.W.OpenLaw} {w:World} {K:PySem.W.Frag} {h:Heap} {mg:Str→Option Value} {fa f1 f2 f3 f4 f5 f6 f7 f8 f9 UM UN XI UO UP XJ XM UQ XN XO XQ XR UR US UT XS XU Tu XW XX UU XY XZ UW X0 UX X3 X4 X5 X6 X7 X8 OV OW UY UZ U0 U1 U3 U4 U5 U6 U7 U8 U9 Va Vb Vc Vd Ve Vf Vg Vh Vi Vj Vk Vl Vm Yb Vn Vo Vp wN Cy Cz Yc Vq Vr Yd Ye Yg Yh Yi Yj Yk Yl f86:Addr} {od1 an1 od2 an2 od3 an3 od4 an4 od5 an5 od6 an6 od7 an7 od8 an8 od9 an9 abf abg abh abi abj abk abl abm abn abo abp abq abr abt abu abv abw abx aby abz abA abB abC abD abE abF abG abH abI abJ abK abL abM abN abO RL abP abQ abR abS abT abU abV abW abX abY abZ ab0 ab1 ab2 ab3 ab4 ab5 ab6 ab7 ab8 ab9 acd ace acf acg ach aci acj ack acm acn aco acp RM acq acr acs acu acv acw acy RN acz acA acB acC acD acE acF RO acG acH acI acJ acK acL acM RP acN acO acP acQ acR acS acT RQ acU acV acW acX acY acZ ac0 RS ac1 ac2 ac3 ac4 ac5 ac6 ac7 Vs ac8 ac9 ada RT adb ade adf adg adh adi adj adk adl adm adn ado adp adq ads adt adu adw adx ady adz adA adB adC adD adE adF adG adH adI adJ Vt:Option Addr} {sl1 Xp sl3 sl4 sl5 sl6 sl7 sl8 sl9 adK adL adM adN adO adP adQ adR adS adT adU adV adW adX adY adZ ad0 ad1 ad2 ad3 ad4 ad5 ad6 ad7 ad8 ad9 aea aeb aec aed aee aef aeg aeh aei aej aek ael aem aen aeo aep aeq aer aes aet aeu aev aew aex aey aez aeA aeB aeC aeD aeE aeF aeG aeH aeI aeJ aeK aeL aeM aeN aeO aeP aeQ aeR aeS aeT aeU aeV aeW aeX aeY:Array (Option Value)} {oc1 kV1 dc1 pm1 cd1 ct1 oc2 kV2 dc2 pm2 cd2 ct2 oc3 kV3 dc3 pm3 cd3 ct3 oc4 kV4 dc4 pm4 cd4 ct4 oc5 kV5 dc5 pm5 cd5 ct5 oc6 kV6 dc6 pm6 cd6 ct6 oc7 kV7 dc7 pm7 cd7 ct7 oc8 kV8 dc8 pm8 cd8 ct8 oc9 kV9 dc9 pm9 cd9 ct9 aeZ ae0 ae1 ae2 Vu ae3 ae4 ae5 ae6 ae7 Vv ae8 ae9 afa afb afc Vw afd afe afg afh afi Vx afj afk afl afm afn Vy afo afp afq afr afs Vz aft afu afv afw afx VA afy afz afA afB afC VB afD afE afF afG afH VC afI afJ afK afL afM VD afN afO afP afQ afR VE afS afT afU afV afW VF afX afY afZ af0 af1 VG af2 af3 af4 af5 af6 VH af7 af8 af9 aga agb VI agc agd age agf agg VJ agh agi agj agk agl VL agm agn RU RV OX RW ago agp agq agr VM ags agt agu agv agw VN agx agy agz agA agB VO agC agD agE agF agG VP agH agI agJ agK agL VQ agM agN agO agP agQ VR agR agS agT agU agV VS agW agX agY agZ ag0 VT ag1 ag2 ag3 ag4 ag5 VU ag6 ag7 ag8 ag9 aha VV ahb ahc ahd ahe ahf VW ahg ahh ahi ahj ahk VX ahl ahm ahn aho ahp VY ahq ahr ahs aht ahu VZ ahv ahw ahx ahy ahz V0 ahA ahB ahC ahD ahE V1 ahF ahG RX RY RZ OY R0 ahH ahI ahJ ahK V2 ahL ahM ahN ahO ahP V3 ahQ ahR ahS ahT ahU V4 ahV ahW R1 R3 R4 OZ R5 ahX ahY ahZ ah0 V5 ah1 ah2 ah3 ah4 ah5 V6 ah6 ah7 ah8 ah9 aia V7 aib aic R6 R7 R8 O0 R9 aid aie aif aih V8 aii aij aik ail aim V9 ain aio aip aiq air Wa ais ait Sb Sd Se O1 Sf aiu aiv aiw aix Wb aiy aiz aiA aiB aiC Wc aiD aiE aiF aiG aiH Wd aiI aiJ Sg Sh Si O2 Sj aiK aiL aiM aiN We aiO aiP aiQ aiR aiS Wf aiT aiU aiV aiW aiX Wg aiY aiZ Sk Sl Sm O3 Sn ai0 ai1 ai2 ai3 Wh ai4 ai5 ai6 ai7 ai8 Wi ai9 aja ajb ajc ajd Wj aje ajf Wk Wl Wm So Wn ajg ajh aji ajj Wo ajk ajl Sq Ss Su O4 Sv ajm ajn ajo ajp Wq ajq ajr ajs ajt aju Wr ajv ajw ajx ajy ajz Ws ajA ajB ajC ajD ajE Wt ajF ajG ajH ajI ajJ Wu ajK ajL ajM ajN ajO Wv ajP ajQ ajR ajS ajT Ww ajU ajV ajW ajX ajY Wx ajZ aj0 aj1 aj2 aj3 Wy aj4 aj5 aj6 aj7 aj8 Wz aj9 aka akb akc akd WA ake akf akg akh aki WB akj akk akl akm akn WC ako akp akq akr aks WD akt aku akv akw akx WE aky akz WG WH WI Sw WJ:Value} {tE:Tok} {tM:Tok} {tF:Tok} {tN:Tok} {br:Addr} {aG:Addr} {aC:Addr} {t1:Tok} {t2:Tok} {t3:Tok} {t4:Tok} {aP:Addr} {bT:Addr} {aM:Addr} {aD:Addr} {aN:Addr} {aA:Addr} {aq:Addr} {au:Addr} {aJ:Addr} {ak:Addr} {s1 s2 s3 s4 s5 s6 s7 s8 u1 u2 u3 u4 u5 u6 u7 u8:Tok} {nT:Nat} {dG:Option Addr} {v1:Tok} {nG:Nat} {slG:Array (Option Value)} {dC:Option Addr} {g1 g2:Addr} {nC:Nat} {slC:Array (Option Value)} {dC1:Option Addr} {v2:Tok} {nC1:Nat} {akA:Array (Option Value)} {dC2:Option Addr} {v3:Tok} {nC2:Nat} {akB:Array (Option Value)} {dP:Option Addr} {w1 w2:Tok} {nP:Nat} {slP:Array (Option Value)} {Ym:Addr} {akC:Value} {akD:Option Addr} {Sx:Array DictEntry} {akE:Nat} {akF:Array (Option Value)} {Yn:Addr} {akG:Option Addr} {akH:Nat} {akI:Array (Option Value)} {akJ:Value} {Sy:Tok} {Yo:Addr} {akK:Option Addr} {akL:Nat} {akM:Array (Option Value)} {akN:Value} {Sz:Tok} {Yp:Addr} {akO:Option Addr} {akP:Nat} {akQ:Array (Option Value)} {akR:Value} {SD:Tok} {Yq:Addr} {akS:Option Addr} {akT:Nat} {akU:Array (Option Value)} {akV:Value} {SE:Tok} {Yr:Addr} {akW:Option Addr} {akX:Nat} {akY:Array (Option Value)} {akZ:Value} {SG:Tok} {Ys:Addr} {ak0:Option Addr} {ak1:Nat} {ak2:Array (Option Value)} {ak3:Value} {SH:Tok} {d68:Addr} {ak5:Option Addr} {ak6:Nat} {ak7:Array (Option Value)} {ak8:Value} {Yt:Tok} {Yu:Addr} {ak9:Option Addr} {ala:Nat} {alb:Array (Option Value)} {alc:Value} {SI:Tok} (X:K.In h) (G:h.Ns mainGlobals mg) (hfa:mg "law"=some (.ref fa))
    (EO:PySem.W.plainGet K bT Str.empty=true) (ER:PySem.W.hasDictIn K bT=true) (ES:PySem.W.plainOver K bT=true) (ET:PySem.W.findIn K (.ref bT) "__setattr__"=some (some (.builtin "object.__setattr__")))
    (nc:PySem.W.findIn K (.ref aM) "key"=some none)
    (jJ:PySem.W.findIn K (.ref aM) "value"=some none)
    (IK:PySem.W.plainGet K aM Str.empty=true) (IL:PySem.W.hasDictIn K aM=true) (IM:PySem.W.plainOver K aM=true) (IP:PySem.W.findIn K (.ref aM) "__setattr__"=some (some (.builtin "object.__setattr__")))
    (lN:PySem.W.findIn K (.ref aD) "key"=some none)
    (EU:PySem.W.plainGet K aD Str.empty=true) (EV:PySem.W.hasDictIn K aD=true) (EW:PySem.W.plainOver K aD=true) (EX:PySem.W.findIn K (.ref aD) "__setattr__"=some (some (.builtin "object.__setattr__")))
    (pV:PySem.W.findIn K (.ref aN) "by"=some none)
    (nh:PySem.W.findIn K (.ref aN) "key"=some none)
    (IQ:PySem.W.plainGet K aN Str.empty=true) (IS:PySem.W.hasDictIn K aN=true) (IT:PySem.W.plainOver K aN=true) (IU:PySem.W.findIn K (.ref aN) "__setattr__"=some (some (.builtin "object.__setattr__")))
    (jK:PySem.W.findIn K (.ref aA) "high"=some none)
    (lO:PySem.W.findIn K (.ref aA) "low"=some none)
    (EY:PySem.W.plainGet K aA Str.empty=true) (EZ:PySem.W.hasDictIn K aA=true) (E1:PySem.W.plainOver K aA=true) (E2:PySem.W.findIn K (.ref aA) "__setattr__"=some (some (.builtin "object.__setattr__")))
    (lP:PySem.W.findIn K (.ref aq) "by"=some none)
    (i8:PySem.W.findIn K (.ref aq) "high"=some none)
    (jL:PySem.W.findIn K (.ref aq) "low"=some none)
    (By:PySem.W.plainGet K aq Str.empty=true) (BA:PySem.W.hasDictIn K aq=true) (BB:PySem.W.plainOver K aq=true) (BC:PySem.W.findIn K (.ref aq) "__setattr__"=some (some (.builtin "object.__setattr__")))
    (i9:PySem.W.findIn K (.ref au) "high"=some none)
    (jM:PySem.W.findIn K (.ref au) "low"=some none)
    (iC:PySem.W.findIn K (.ref au) "value"=some none)
    (BD:PySem.W.plainGet K au Str.empty=true) (BE:PySem.W.hasDictIn K au=true) (BF:PySem.W.plainOver K au=true) (BG:PySem.W.findIn K (.ref au) "__setattr__"=some (some (.builtin "object.__setattr__")))
    (E3:PySem.W.plainGet K aJ Str.empty=true) (E4:PySem.W.hasDictIn K aJ=true) (E5:PySem.W.plainOver K aJ=true) (E6:PySem.W.findIn K (.ref aJ) "__setattr__"=some (some (.builtin "object.__setattr__")))
    (ni:PySem.W.findIn K (.ref ak) "mark"=some none)
    (yP:PySem.W.plainGet K ak Str.empty=true) (yQ:PySem.W.hasDictIn K ak=true) (yR:PySem.W.plainOver K ak=true) (yS:PySem.W.findIn K (.ref ak) "__setattr__"=some (some (.builtin "object.__setattr__")))
    (a1:PySem.W.nsIn K mainGlobals "is_number"=some (some (.ref f1))) (l1:K.lookup f1=some ⟨oc1,od1,.func (PySem.W.fnOf "is_number" "is_number" (ai jg) (ah jg) (aa jg) .none kV1 dc1 pm1 an1 cd1 ct1),sl1⟩) (c1:PySem.W.codeIn K cd1 "is_number"=true) (k1:PySem.W.keepIn K (.ref f1)=true)
    (a2:PySem.W.nsIn K mainGlobals "is_half"=some (some (.ref f2))) (l2:K.lookup f2=some ⟨oc2,od2,.func (PySem.W.fnOf "is_half" "is_half" (ai mG) (ah mG) (aa mG) .none kV2 dc2 pm2 an2 cd2 ct2),Xp⟩) (c2:PySem.W.codeIn K cd2 "is_half"=true) (k2:PySem.W.keepIn K (.ref f2)=true)
    (a3:PySem.W.nsIn K mainGlobals "is_action"=some (some (.ref f3))) (l3:K.lookup f3=some ⟨oc3,od3,.func (PySem.W.fnOf "is_action" "is_action" (ai ji) (ah ji) (aa ji) .none kV3 dc3 pm3 an3 cd3 ct3),sl3⟩) (c3:PySem.W.codeIn K cd3 "is_action"=true) (k3:PySem.W.keepIn K (.ref f3)=true)
    (a4:PySem.W.nsIn K mainGlobals "check_action"=some (some (.ref f4))) (l4:K.lookup f4=some ⟨oc4,od4,.func (PySem.W.fnOf "check_action" "check_action" (ai fS) (ah fS) (aa fS) .none kV4 dc4 pm4 an4 cd4 ct4),sl4⟩) (c4:PySem.W.codeIn K cd4 "check_action"=true) (k4:PySem.W.keepIn K (.ref f4)=true)
    (a5:PySem.W.nsIn K mainGlobals "half_acts"=some (some (.ref f5))) (l5:K.lookup f5=some ⟨oc5,od5,.func (PySem.W.fnOf "half_acts" "half_acts" (ai jj) (ah jj) (aa jj) .none kV5 dc5 pm5 an5 cd5 ct5),sl5⟩) (c5:PySem.W.codeIn K cd5 "half_acts"=true) (k5:PySem.W.keepIn K (.ref f5)=true)
    (a6:PySem.W.nsIn K mainGlobals "does"=some (some (.ref f6))) (l6:K.lookup f6=some ⟨oc6,od6,.func (PySem.W.fnOf "does" "does" (ai yo) (ah yo) (aa yo) .none kV6 dc6 pm6 an6 cd6 ct6),sl6⟩) (c6:PySem.W.codeIn K cd6 "does"=true) (k6:PySem.W.keepIn K (.ref f6)=true)
    (a7:PySem.W.nsIn K mainGlobals "acts"=some (some (.ref f7))) (l7:K.lookup f7=some ⟨oc7,od7,.func (PySem.W.fnOf "acts" "acts" (ai yp) (ah yp) (aa yp) .none kV7 dc7 pm7 an7 cd7 ct7),sl7⟩) (c7:PySem.W.codeIn K cd7 "acts"=true) (k7:PySem.W.keepIn K (.ref f7)=true)
    (a8:PySem.W.nsIn K mainGlobals "half_behind"=some (some (.ref f8))) (l8:K.lookup f8=some ⟨oc8,od8,.func (PySem.W.fnOf "half_behind" "half_behind" (ai gW) (ah gW) (aa gW) .none kV8 dc8 pm8 an8 cd8 ct8),sl8⟩) (c8:PySem.W.codeIn K cd8 "half_behind"=true) (k8:PySem.W.keepIn K (.ref f8)=true)
    (a9:PySem.W.nsIn K mainGlobals "joined"=some (some (.ref f9))) (l9:K.lookup f9=some ⟨oc9,od9,.func (PySem.W.fnOf "joined" "joined" (ai pI) (ah pI) (aa pI) .none kV9 dc9 pm9 an9 cd9 ct9),sl9⟩) (c9:PySem.W.codeIn K cd9 "joined"=true) (k9:PySem.W.keepIn K (.ref f9)=true)
    (Yv:PySem.W.nsIn K mainGlobals "behind"=some (some (.ref UM))) (l10:K.lookup UM=some ⟨aeZ,abf,.func (PySem.W.fnOf "behind" "behind" (ai pJ) (ah pJ) (aa pJ) .none ae0 ae1 ae2 abg Vu ae3),adK⟩) (c10:PySem.W.codeIn K Vu "behind"=true) (WK:PySem.W.keepIn K (.ref UM)=true)
    (Yw:PySem.W.nsIn K mainGlobals "is_whole"=some (some (.ref UN))) (l11:K.lookup UN=some ⟨ae4,abh,.func (PySem.W.fnOf "is_whole" "is_whole" (ai ku) (ah ku) (aa ku) .none ae5 ae6 ae7 abi Vv ae8),adL⟩) (c11:PySem.W.codeIn K Vv "is_whole"=true) (WL:PySem.W.keepIn K (.ref UN)=true)
    (a12:PySem.W.nsIn K mainGlobals "is_whole_from"=some (some (.ref XI))) (l12:K.lookup XI=some ⟨ae9,abj,.func (PySem.W.fnOf "is_whole_from" "is_whole_from" (ai ff) (ah ff) (aa ff) .none afa afb afc abk Vw afd),adM⟩) (c12:PySem.W.codeIn K Vw "is_whole_from"=true) (Yx:PySem.W.keepIn K (.ref XI)=true)
    (Yy:PySem.W.nsIn K mainGlobals "is_key"=some (some (.ref UO))) (l13:K.lookup UO=some ⟨afe,abl,.func (PySem.W.fnOf "is_key" "is_key" (ai pH) (ah pH) (aa pH) .none afg afh afi abm Vx afj),adN⟩) (c13:PySem.W.codeIn K Vx "is_key"=true) (WM:PySem.W.keepIn K (.ref UO)=true)
    (Yz:PySem.W.nsIn K mainGlobals "is_stretch"=some (some (.ref UP))) (l14:K.lookup UP=some ⟨afk,abn,.func (PySem.W.fnOf "is_stretch" "is_stretch" (ai iH) (ah iH) (aa iH) .none afl afm afn abo Vy afo),adO⟩) (c14:PySem.W.codeIn K Vy "is_stretch"=true) (WN:PySem.W.keepIn K (.ref UP)=true)
    (a15:PySem.W.nsIn K mainGlobals "check_key"=some (some (.ref XJ))) (l15:K.lookup XJ=some ⟨afp,abp,.func (PySem.W.fnOf "check_key" "check_key" (ai jh) (ah jh) (aa jh) .none afq afr afs abq Vz aft),adP⟩) (c15:PySem.W.codeIn K Vz "check_key"=true) (YA:PySem.W.keepIn K (.ref XJ)=true)
    (a16:PySem.W.nsIn K mainGlobals "check_stretch"=some (some (.ref XM))) (l16:K.lookup XM=some ⟨afu,abr,.func (PySem.W.fnOf "check_stretch" "check_stretch" (ai fh) (ah fh) (aa fh) .none afv afw afx abt VA afy),adQ⟩) (c16:PySem.W.codeIn K VA "check_stretch"=true) (YB:PySem.W.keepIn K (.ref XM)=true)
    (YC:PySem.W.nsIn K mainGlobals "is_note"=some (some (.ref UQ))) (l17:K.lookup UQ=some ⟨afz,abu,.func (PySem.W.fnOf "is_note" "is_note" (ai mH) (ah mH) (aa mH) .none afA afB afC abv VB afD),adR⟩) (c17:PySem.W.codeIn K VB "is_note"=true) (WO:PySem.W.keepIn K (.ref UQ)=true)
    (a18:PySem.W.nsIn K mainGlobals "check_note"=some (some (.ref XN))) (l18:K.lookup XN=some ⟨afE,abw,.func (PySem.W.fnOf "check_note" "check_note" (ai iI) (ah iI) (aa iI) .none afF afG afH abx VC afI),adS⟩) (c18:PySem.W.codeIn K VC "check_note"=true) (YD:PySem.W.keepIn K (.ref XN)=true)
    (a19:PySem.W.nsIn K mainGlobals "has_key"=some (some (.ref XO))) (l19:K.lookup XO=some ⟨afJ,aby,.func (PySem.W.fnOf "has_key" "has_key" (ai mJ) (ah mJ) (aa mJ) .none afK afL afM abz VD afN),adT⟩) (c19:PySem.W.codeIn K VD "has_key"=true) (YE:PySem.W.keepIn K (.ref XO)=true)
    (a20:PySem.W.nsIn K mainGlobals "have_common"=some (some (.ref XQ))) (l20:K.lookup XQ=some ⟨afO,abA,.func (PySem.W.fnOf "have_common" "have_common" (ai gX) (ah gX) (aa gX) .none afP afQ afR abB VE afS),adU⟩) (c20:PySem.W.codeIn K VE "have_common"=true) (YF:PySem.W.keepIn K (.ref XQ)=true)
    (a21:PySem.W.nsIn K mainGlobals "cut"=some (some (.ref XR))) (l21:K.lookup XR=some ⟨afT,abC,.func (PySem.W.fnOf "cut" "cut" (ai C7) (ah C7) (aa C7) .none afU afV afW abD VF afX),adV⟩) (c21:PySem.W.codeIn K VF "cut"=true) (YG:PySem.W.keepIn K (.ref XR)=true)
    (YH:PySem.W.nsIn K mainGlobals "touches"=some (some (.ref UR))) (l22:K.lookup UR=some ⟨afY,abE,.func (PySem.W.fnOf "touches" "touches" (ai mK) (ah mK) (aa mK) .none afZ af0 af1 abF VG af2),adW⟩) (c22:PySem.W.codeIn K VG "touches"=true) (WQ:PySem.W.keepIn K (.ref UR)=true)
    (YI:PySem.W.nsIn K mainGlobals "shares"=some (some (.ref US))) (l23:K.lookup US=some ⟨af3,abG,.func (PySem.W.fnOf "shares" "shares" (ai pK) (ah pK) (aa pK) .none af4 af5 af6 abH VH af7),adX⟩) (c23:PySem.W.codeIn K VH "shares"=true) (WR:PySem.W.keepIn K (.ref US)=true)
    (YJ:PySem.W.nsIn K mainGlobals "part"=some (some (.ref UT))) (l24:K.lookup UT=some ⟨af8,abI,.func (PySem.W.fnOf "part" "part" (ai yq) (ah yq) (aa yq) .none af9 aga agb abJ VI agc),adY⟩) (c24:PySem.W.codeIn K VI "part"=true) (WS:PySem.W.keepIn K (.ref UT)=true)
    (a25:PySem.W.nsIn K mainGlobals "up_to"=some (some (.ref XS))) (l25:K.lookup XS=some ⟨agd,abK,.func (PySem.W.fnOf "up_to" "up_to" (ai tK) (ah tK) (aa tK) .none age agf agg abL VJ agh),adZ⟩) (c25:PySem.W.codeIn K VJ "up_to"=true) (YK:PySem.W.keepIn K (.ref XS)=true)
    (a26:PySem.W.nsIn K mainGlobals "touching"=some (some (.ref XU))) (l26:K.lookup XU=some ⟨agi,abM,.func (PySem.W.fnOf "touching" "touching" (ai kF) (ah kF) (aa kF) .none agj agk agl abN VL agm),ad0⟩) (c26:PySem.W.codeIn K VL "touching"=true) (YL:PySem.W.keepIn K (.ref XU)=true)
    (WT:PySem.W.nsIn K mainGlobals "seen"=some (some (.ref Tu))) (l27:K.lookup Tu=some ⟨agn,abO,.func (PySem.W.fnOf "seen" "seen" (ai lT) (ah lT) (aa lT) .none (.ref Ym) RU RV RL OX RW),ad1⟩) (c27:PySem.W.codeIn K OX "seen"=true) (Tv:PySem.W.keepIn K (.ref Tu)=true)
    (SJ:K.lookup Ym=some ⟨akC,akD,.dict Sx akE,akF⟩) (SK:rP Sx=true) (SN:nsFind Sx "at"=some .none)
    (a28:PySem.W.nsIn K mainGlobals "last_sharing"=some (some (.ref XW))) (l28:K.lookup XW=some ⟨ago,abP,.func (PySem.W.fnOf "last_sharing" "last_sharing" (ai fT) (ah fT) (aa fT) .none agp agq agr abQ VM ags),ad2⟩) (c28:PySem.W.codeIn K VM "last_sharing"=true) (YM:PySem.W.keepIn K (.ref XW)=true)
    (a29:PySem.W.nsIn K mainGlobals "may_join"=some (some (.ref XX))) (l29:K.lookup XX=some ⟨agt,abR,.func (PySem.W.fnOf "may_join" "may_join" (ai kH) (ah kH) (aa kH) .none agu agv agw abS VN agx),ad3⟩) (c29:PySem.W.codeIn K VN "may_join"=true) (YN:PySem.W.keepIn K (.ref XX)=true)
    (YO:PySem.W.nsIn K mainGlobals "laid"=some (some (.ref UU))) (l30:K.lookup UU=some ⟨agy,abT,.func (PySem.W.fnOf "laid" "laid" (ai yr) (ah yr) (aa yr) .none agz agA agB abU VO agC),ad4⟩) (c30:PySem.W.codeIn K VO "laid"=true) (WU:PySem.W.keepIn K (.ref UU)=true)
    (a31:PySem.W.nsIn K mainGlobals "within"=some (some (.ref XY))) (l31:K.lookup XY=some ⟨agD,abV,.func (PySem.W.fnOf "within" "within" (ai pL) (ah pL) (aa pL) .none agE agF agG abW VP agH),ad5⟩) (c31:PySem.W.codeIn K VP "within"=true) (YQ:PySem.W.keepIn K (.ref XY)=true)
    (a32:PySem.W.nsIn K mainGlobals "without"=some (some (.ref XZ))) (l32:K.lookup XZ=some ⟨agI,abX,.func (PySem.W.fnOf "without" "without" (ai mL) (ah mL) (aa mL) .none agJ agK agL abY VQ agM),ad6⟩) (c32:PySem.W.codeIn K VQ "without"=true) (YR:PySem.W.keepIn K (.ref XZ)=true)
    (YS:PySem.W.nsIn K mainGlobals "poured"=some (some (.ref UW))) (l33:K.lookup UW=some ⟨agN,abZ,.func (PySem.W.fnOf "poured" "poured" (ai pM) (ah pM) (aa pM) .none agO agP agQ ab0 VR agR),ad7⟩) (c33:PySem.W.codeIn K VR "poured"=true) (WV:PySem.W.keepIn K (.ref UW)=true)
    (a34:PySem.W.nsIn K mainGlobals "is_plan"=some (some (.ref X0))) (l34:K.lookup X0=some ⟨agS,ab1,.func (PySem.W.fnOf "is_plan" "is_plan" (ai mE) (ah mE) (aa mE) .none agT agU agV ab2 VS agW),ad8⟩) (c34:PySem.W.codeIn K VS "is_plan"=true) (YT:PySem.W.keepIn K (.ref X0)=true)
    (YU:PySem.W.nsIn K mainGlobals "is_rule"=some (some (.ref UX))) (l35:K.lookup UX=some ⟨agX,ab3,.func (PySem.W.fnOf "is_rule" "is_rule" (ai mF) (ah mF) (aa mF) .none agY agZ ag0 ab4 VT ag1),ad9⟩) (c35:PySem.W.codeIn K VT "is_rule"=true) (WW:PySem.W.keepIn K (.ref UX)=true)
    (a36:PySem.W.nsIn K mainGlobals "figures_of"=some (some (.ref X3))) (l36:K.lookup X3=some ⟨ag2,ab5,.func (PySem.W.fnOf "figures_of" "figures_of" (ai iJ) (ah iJ) (aa iJ) .none ag3 ag4 ag5 ab6 VU ag6),aea⟩) (c36:PySem.W.codeIn K VU "figures_of"=true) (YV:PySem.W.keepIn K (.ref X3)=true)
    (a37:PySem.W.nsIn K mainGlobals "are_figures"=some (some (.ref X4))) (l37:K.lookup X4=some ⟨ag7,ab7,.func (PySem.W.fnOf "are_figures" "are_figures" (ai gY) (ah gY) (aa gY) .none ag8 ag9 aha ab8 VV ahb),aeb⟩) (c37:PySem.W.codeIn K VV "are_figures"=true) (YW:PySem.W.keepIn K (.ref X4)=true)
    (a38:PySem.W.nsIn K mainGlobals "read_figures"=some (some (.ref X5))) (l38:K.lookup X5=some ⟨ahc,ab9,.func (PySem.W.fnOf "read_figures" "read_figures" (ai fU) (ah fU) (aa fU) .none ahd ahe ahf acd VW ahg),aec⟩) (c38:PySem.W.codeIn K VW "read_figures"=true) (YX:PySem.W.keepIn K (.ref X5)=true)
    (a39:PySem.W.nsIn K mainGlobals "is_amount"=some (some (.ref X6))) (l39:K.lookup X6=some ⟨ahh,ace,.func (PySem.W.fnOf "is_amount" "is_amount" (ai jk) (ah jk) (aa jk) .none ahi ahj ahk acf VX ahl),aed⟩) (c39:PySem.W.codeIn K VX "is_amount"=true) (YY:PySem.W.keepIn K (.ref X6)=true)
    (a40:PySem.W.nsIn K mainGlobals "check_things"=some (some (.ref X7))) (l40:K.lookup X7=some ⟨ahm,acg,.func (PySem.W.fnOf "check_things" "check_things" (ai fV) (ah fV) (aa fV) .none ahn aho ahp ach VY ahq),aee⟩) (c40:PySem.W.codeIn K VY "check_things"=true) (YZ:PySem.W.keepIn K (.ref X7)=true)
    (a41:PySem.W.nsIn K mainGlobals "word_of"=some (some (.ref X8))) (l41:K.lookup X8=some ⟨ahr,aci,.func (PySem.W.fnOf "word_of" "word_of" (ai mO) (ah mO) (aa mO) .none ahs aht ahu acj VZ ahv),aef⟩) (c41:PySem.W.codeIn K VZ "word_of"=true) (Y0:PySem.W.keepIn K (.ref X8)=true)
    (i42:PySem.W.findIn K (.ref bT) "action"=some (some (.ref OV))) (l42:K.lookup OV=some ⟨ahw,ack,.func (PySem.W.fnOf "action" "Deed.action" (ai gZ) (ah gZ) (aa gZ) .none ahx ahy ahz acm V0 ahA),aeg⟩) (c42:PySem.W.codeIn K V0 "Deed.action"=true) (Tw:PySem.W.keepIn K (.ref OV)=true) (WX:PySem.W.isFn K (.ref OV)=true)
    (i43:PySem.W.findIn K (.ref bT) "span"=some (some (.ref OW))) (l43:K.lookup OW=some ⟨ahB,acn,.func (PySem.W.fnOf "span" "Deed.span" (ai jl) (ah jl) (aa jl) .none ahC ahD ahE aco V1 ahF),aeh⟩) (c43:PySem.W.codeIn K V1 "Deed.span"=true) (Tz:PySem.W.keepIn K (.ref OW)=true) (WY:PySem.W.isFn K (.ref OW)=true)
    (Y3:K.lookup UY=some ⟨ahG,acp,.func (PySem.W.fnOf "__init__" "Put.__init__" (ai bQ) (ah bQ) (aa bQ) (.ref Yn) RX RY RZ RM OY R0),aei⟩) (Y4:PySem.W.codeIn K OY "Put.__init__"=true) (WZ:K.lookup Yn=some ⟨akJ,akG,.seq #[.none,.none,.str "no more" Sy] akH,akI⟩)
    (Y5:PySem.W.makesIn K aM=true) (Y6:PySem.W.findIn K (.ref aM) "__init__"=some (some (.ref UY))) (Y7:PySem.W.isFn K (.ref UY)=true) (Y8:PySem.W.keepIn K (.ref aM)=true)
    (SO:∀ S (u0 u1 u2:Value),PySem.W.peek K S (bindArgs (PySem.W.fnOf "__init__" "Put.__init__" (ai bQ) (ah bQ) (aa bQ) (.ref Yn) RX RY RZ RM OY R0) ⟨[u0,u1,u2],[]⟩)=some [(("self":Str),u0),(("key":Str),u1),(("value":Str),u2),(("more":Str),.str "no more" Sy)])
    (SQ:∀ S (u0 u1 u2:Value),PySem.W.peek K S (bindArgs (PySem.W.fnOf "__init__" "Put.__init__" (ai bQ) (ah bQ) (aa bQ) (.ref Yn) RX RY RZ RM OY R0) ⟨[u0],[(("value":Str),u1),(("key":Str),u2)]⟩)=some [(("self":Str),u0),(("key":Str),u2),(("value":Str),u1),(("more":Str),.str "no more" Sy)])
    (O5:PySem.W.plainGet K aM Str.empty=true) (O6:PySem.W.hasDictIn K aM=true) (O7:PySem.W.plainOver K aM=true) (O8:PySem.W.findIn K (.ref aM) "__setattr__"=some (some (.builtin "object.__setattr__")))
    (Ao:PySem.W.findIn K (.ref aM) "key"=some none)
    (tW:PySem.W.findIn K (.ref aM) "value"=some none)
    (i45:PySem.W.findIn K (.ref aM) "told"=some (some (.ref UZ))) (l45:K.lookup UZ=some ⟨ahH,acq,.func (PySem.W.fnOf "told" "Put.told" (ai kI) (ah kI) (aa kI) .none ahI ahJ ahK acr V2 ahL),aej⟩) (c45:PySem.W.codeIn K V2 "Put.told"=true) (Y9:PySem.W.keepIn K (.ref UZ)=true) (OD:PySem.W.isFn K (.ref UZ)=true)
    (i46:PySem.W.findIn K (.ref aM) "action"=some (some (.ref U0))) (l46:K.lookup U0=some ⟨ahM,acs,.func (PySem.W.fnOf "action" "Put.action" (ai iK) (ah iK) (aa iK) .none ahN ahO ahP acu V3 ahQ),aek⟩) (c46:PySem.W.codeIn K V3 "Put.action"=true) (Za:PySem.W.keepIn K (.ref U0)=true) (n46:PySem.W.isFn K (.ref U0)=true)
    (i47:PySem.W.findIn K (.ref aM) "span"=some (some (.ref U1))) (l47:K.lookup U1=some ⟨ahR,acv,.func (PySem.W.fnOf "span" "Put.span" (ai kJ) (ah kJ) (aa kJ) .none ahS ahT ahU acw V4 ahV),ael⟩) (c47:PySem.W.codeIn K V4 "Put.span"=true) (Zb:PySem.W.keepIn K (.ref U1)=true) (n47:PySem.W.isFn K (.ref U1)=true)
    (Zc:K.lookup U3=some ⟨ahW,acy,.func (PySem.W.fnOf "__init__" "Drop.__init__" (ai bH) (ah bH) (aa bH) (.ref Yo) R1 R3 R4 RN OZ R5),aem⟩) (Zd:PySem.W.codeIn K OZ "Drop.__init__"=true) (W0:K.lookup Yo=some ⟨akN,akK,.seq #[.none,.str "no more" Sz] akL,akM⟩)
    (Ze:PySem.W.makesIn K aD=true) (Zf:PySem.W.findIn K (.ref aD) "__init__"=some (some (.ref U3))) (Zg:PySem.W.isFn K (.ref U3)=true) (Zh:PySem.W.keepIn K (.ref aD)=true)
    (SR:∀ S (u0 u1:Value),PySem.W.peek K S (bindArgs (PySem.W.fnOf "__init__" "Drop.__init__" (ai bH) (ah bH) (aa bH) (.ref Yo) R1 R3 R4 RN OZ R5) ⟨[u0,u1],[]⟩)=some [(("self":Str),u0),(("key":Str),u1),(("more":Str),.str "no more" Sz)])
    (SS:∀ S (u0 u1:Value),PySem.W.peek K S (bindArgs (PySem.W.fnOf "__init__" "Drop.__init__" (ai bH) (ah bH) (aa bH) (.ref Yo) R1 R3 R4 RN OZ R5) ⟨[u0],[(("key":Str),u1)]⟩)=some [(("self":Str),u0),(("key":Str),u1),(("more":Str),.str "no more" Sz)])
    (O9:PySem.W.plainGet K aD Str.empty=true) (Pa:PySem.W.hasDictIn K aD=true) (Pb:PySem.W.plainOver K aD=true) (Pc:PySem.W.findIn K (.ref aD) "__setattr__"=some (some (.builtin "object.__setattr__")))
    (Aq:PySem.W.findIn K (.ref aD) "key"=some none)
    (i49:PySem.W.findIn K (.ref aD) "told"=some (some (.ref U4))) (l49:K.lookup U4=some ⟨ahX,acz,.func (PySem.W.fnOf "told" "Drop.told" (ai jn) (ah jn) (aa jn) .none ahY ahZ ah0 acA V5 ah1),aen⟩) (c49:PySem.W.codeIn K V5 "Drop.told"=true) (RK:PySem.W.keepIn K (.ref U4)=true) (n49:PySem.W.isFn K (.ref U4)=true)
    (i50:PySem.W.findIn K (.ref aD) "action"=some (some (.ref U5))) (l50:K.lookup U5=some ⟨ah2,acB,.func (PySem.W.fnOf "action" "Drop.action" (ai g6) (ah g6) (aa g6) .none ah3 ah4 ah5 acC V6 ah6),aeo⟩) (c50:PySem.W.codeIn K V6 "Drop.action"=true) (Zi:PySem.W.keepIn K (.ref U5)=true) (n50:PySem.W.isFn K (.ref U5)=true)
    (i51:PySem.W.findIn K (.ref aD) "span"=some (some (.ref U6))) (l51:K.lookup U6=some ⟨ah7,acD,.func (PySem.W.fnOf "span" "Drop.span" (ai jo) (ah jo) (aa jo) .none ah8 ah9 aia acE V7 aib),aep⟩) (c51:PySem.W.codeIn K V7 "Drop.span"=true) (Zj:PySem.W.keepIn K (.ref U6)=true) (n51:PySem.W.isFn K (.ref U6)=true)
    (Zk:K.lookup U7=some ⟨aic,acF,.func (PySem.W.fnOf "__init__" "Add.__init__" (ai bR) (ah bR) (aa bR) (.ref Yp) R6 R7 R8 RO O0 R9),aeq⟩) (Zl:PySem.W.codeIn K O0 "Add.__init__"=true) (W2:K.lookup Yp=some ⟨akR,akO,.seq #[.none,.none,.str "no more" SD] akP,akQ⟩)
    (Zm:PySem.W.makesIn K aN=true) (Zn:PySem.W.findIn K (.ref aN) "__init__"=some (some (.ref U7))) (Zo:PySem.W.isFn K (.ref U7)=true) (Zp:PySem.W.keepIn K (.ref aN)=true)
    (SV:∀ S (u0 u1 u2:Value),PySem.W.peek K S (bindArgs (PySem.W.fnOf "__init__" "Add.__init__" (ai bR) (ah bR) (aa bR) (.ref Yp) R6 R7 R8 RO O0 R9) ⟨[u0,u1,u2],[]⟩)=some [(("self":Str),u0),(("key":Str),u1),(("by":Str),u2),(("more":Str),.str "no more" SD)])
    (SW:∀ S (u0 u1 u2:Value),PySem.W.peek K S (bindArgs (PySem.W.fnOf "__init__" "Add.__init__" (ai bR) (ah bR) (aa bR) (.ref Yp) R6 R7 R8 RO O0 R9) ⟨[u0],[(("by":Str),u1),(("key":Str),u2)]⟩)=some [(("self":Str),u0),(("key":Str),u2),(("by":Str),u1),(("more":Str),.str "no more" SD)])
    (Pd:PySem.W.plainGet K aN Str.empty=true) (Pe:PySem.W.hasDictIn K aN=true) (Pf:PySem.W.plainOver K aN=true) (Pg:PySem.W.findIn K (.ref aN) "__setattr__"=some (some (.builtin "object.__setattr__")))
    (Ar:PySem.W.findIn K (.ref aN) "key"=some none)
    (E7:PySem.W.findIn K (.ref aN) "by"=some none)
    (i53:PySem.W.findIn K (.ref aN) "told"=some (some (.ref U8))) (l53:K.lookup U8=some ⟨aid,acG,.func (PySem.W.fnOf "told" "Add.told" (ai kK) (ah kK) (aa kK) .none aie aif aih acH V8 aii),aer⟩) (c53:PySem.W.codeIn K V8 "Add.told"=true) (Zq:PySem.W.keepIn K (.ref U8)=true) (n53:PySem.W.isFn K (.ref U8)=true)
    (i54:PySem.W.findIn K (.ref aN) "action"=some (some (.ref U9))) (l54:K.lookup U9=some ⟨aij,acI,.func (PySem.W.fnOf "action" "Add.action" (ai iL) (ah iL) (aa iL) .none aik ail aim acJ V9 ain),aes⟩) (c54:PySem.W.codeIn K V9 "Add.action"=true) (Zr:PySem.W.keepIn K (.ref U9)=true) (n54:PySem.W.isFn K (.ref U9)=true)
    (i55:PySem.W.findIn K (.ref aN) "span"=some (some (.ref Va))) (l55:K.lookup Va=some ⟨aio,acK,.func (PySem.W.fnOf "span" "Add.span" (ai kL) (ah kL) (aa kL) .none aip aiq air acL Wa ais),aet⟩) (c55:PySem.W.codeIn K Wa "Add.span"=true) (Zs:PySem.W.keepIn K (.ref Va)=true) (n55:PySem.W.isFn K (.ref Va)=true)
    (Zt:K.lookup Vb=some ⟨ait,acM,.func (PySem.W.fnOf "__init__" "Wipe.__init__" (ai bI) (ah bI) (aa bI) (.ref Yq) Sb Sd Se RP O1 Sf),aeu⟩) (Zu:PySem.W.codeIn K O1 "Wipe.__init__"=true) (W3:K.lookup Yq=some ⟨akV,akS,.seq #[.none,.none,.str "no more" SE] akT,akU⟩)
    (Zv:PySem.W.makesIn K aA=true) (Zw:PySem.W.findIn K (.ref aA) "__init__"=some (some (.ref Vb))) (Zx:PySem.W.isFn K (.ref Vb)=true) (Zy:PySem.W.keepIn K (.ref aA)=true)
    (SX:∀ S (u0 u1 u2:Value),PySem.W.peek K S (bindArgs (PySem.W.fnOf "__init__" "Wipe.__init__" (ai bI) (ah bI) (aa bI) (.ref Yq) Sb Sd Se RP O1 Sf) ⟨[u0,u1,u2],[]⟩)=some [(("self":Str),u0),(("low":Str),u1),(("high":Str),u2),(("more":Str),.str "no more" SE)])
    (SY:∀ S (u0 u1 u2:Value),PySem.W.peek K S (bindArgs (PySem.W.fnOf "__init__" "Wipe.__init__" (ai bI) (ah bI) (aa bI) (.ref Yq) Sb Sd Se RP O1 Sf) ⟨[u0],[(("high":Str),u1),(("low":Str),u2)]⟩)=some [(("self":Str),u0),(("low":Str),u2),(("high":Str),u1),(("more":Str),.str "no more" SE)])
    (Ph:PySem.W.plainGet K aA Str.empty=true) (Pj:PySem.W.hasDictIn K aA=true) (Pk:PySem.W.plainOver K aA=true) (Pn:PySem.W.findIn K (.ref aA) "__setattr__"=some (some (.builtin "object.__setattr__")))
    (As:PySem.W.findIn K (.ref aA) "low"=some none)
    (wO:PySem.W.findIn K (.ref aA) "high"=some none)
    (i57:PySem.W.findIn K (.ref aA) "told"=some (some (.ref Vc))) (l57:K.lookup Vc=some ⟨aiu,acN,.func (PySem.W.fnOf "told" "Wipe.told" (ai jq) (ah jq) (aa jq) .none aiv aiw aix acO Wb aiy),aev⟩) (c57:PySem.W.codeIn K Wb "Wipe.told"=true) (Zz:PySem.W.keepIn K (.ref Vc)=true) (n57:PySem.W.isFn K (.ref Vc)=true)
    (i58:PySem.W.findIn K (.ref aA) "action"=some (some (.ref Vd))) (l58:K.lookup Vd=some ⟨aiz,acP,.func (PySem.W.fnOf "action" "Wipe.action" (ai g7) (ah g7) (aa g7) .none aiA aiB aiC acQ Wc aiD),aew⟩) (c58:PySem.W.codeIn K Wc "Wipe.action"=true) (ZA:PySem.W.keepIn K (.ref Vd)=true) (n58:PySem.W.isFn K (.ref Vd)=true)
    (i59:PySem.W.findIn K (.ref aA) "span"=some (some (.ref Ve))) (l59:K.lookup Ve=some ⟨aiE,acR,.func (PySem.W.fnOf "span" "Wipe.span" (ai jr) (ah jr) (aa jr) .none aiF aiG aiH acS Wd aiI),aex⟩) (c59:PySem.W.codeIn K Wd "Wipe.span"=true) (ZC:PySem.W.keepIn K (.ref Ve)=true) (n59:PySem.W.isFn K (.ref Ve)=true)
    (ZD:K.lookup Vf=some ⟨aiJ,acT,.func (PySem.W.fnOf "__init__" "Raise.__init__" (ai bh) (ah bh) (aa bh) (.ref Yr) Sg Sh Si RQ O2 Sj),aey⟩) (ZE:PySem.W.codeIn K O2 "Raise.__init__"=true) (W4:K.lookup Yr=some ⟨akZ,akW,.seq #[.none,.none,.none,.str "no more" SG] akX,akY⟩)
    (ZF:PySem.W.makesIn K aq=true) (ZG:PySem.W.findIn K (.ref aq) "__init__"=some (some (.ref Vf))) (ZH:PySem.W.isFn K (.ref Vf)=true) (ZI:PySem.W.keepIn K (.ref aq)=true)
    (S1:∀ S (u0 u1 u2 u3:Value),PySem.W.peek K S (bindArgs (PySem.W.fnOf "__init__" "Raise.__init__" (ai bh) (ah bh) (aa bh) (.ref Yr) Sg Sh Si RQ O2 Sj) ⟨[u0,u1,u2,u3],[]⟩)=some [(("self":Str),u0),(("low":Str),u1),(("high":Str),u2),(("by":Str),u3),(("more":Str),.str "no more" SG)])
    (S2:∀ S (u0 u1 u2 u3:Value),PySem.W.peek K S (bindArgs (PySem.W.fnOf "__init__" "Raise.__init__" (ai bh) (ah bh) (aa bh) (.ref Yr) Sg Sh Si RQ O2 Sj) ⟨[u0],[(("by":Str),u1),(("high":Str),u2),(("low":Str),u3)]⟩)=some [(("self":Str),u0),(("low":Str),u3),(("high":Str),u2),(("by":Str),u1),(("more":Str),.str "no more" SG)])
    (Po:PySem.W.plainGet K aq Str.empty=true) (Pp:PySem.W.hasDictIn K aq=true) (Pq:PySem.W.plainOver K aq=true) (Pu:PySem.W.findIn K (.ref aq) "__setattr__"=some (some (.builtin "object.__setattr__")))
    (Au:PySem.W.findIn K (.ref aq) "low"=some none)
    (wQ:PySem.W.findIn K (.ref aq) "high"=some none)
    (E8:PySem.W.findIn K (.ref aq) "by"=some none)
    (i61:PySem.W.findIn K (.ref aq) "told"=some (some (.ref Vg))) (l61:K.lookup Vg=some ⟨aiK,acU,.func (PySem.W.fnOf "told" "Raise.told" (ai iM) (ah iM) (aa iM) .none aiL aiM aiN acV We aiO),aez⟩) (c61:PySem.W.codeIn K We "Raise.told"=true) (ZJ:PySem.W.keepIn K (.ref Vg)=true) (n61:PySem.W.isFn K (.ref Vg)=true)
    (i62:PySem.W.findIn K (.ref aq) "action"=some (some (.ref Vh))) (l62:K.lookup Vh=some ⟨aiP,acW,.func (PySem.W.fnOf "action" "Raise.action" (ai fY) (ah fY) (aa fY) .none aiQ aiR aiS acX Wf aiT),aeA⟩) (c62:PySem.W.codeIn K Wf "Raise.action"=true) (ZK:PySem.W.keepIn K (.ref Vh)=true) (n62:PySem.W.isFn K (.ref Vh)=true)
    (i63:PySem.W.findIn K (.ref aq) "span"=some (some (.ref Vi))) (l63:K.lookup Vi=some ⟨aiU,acY,.func (PySem.W.fnOf "span" "Raise.span" (ai iN) (ah iN) (aa iN) .none aiV aiW aiX acZ Wg aiY),aeB⟩) (c63:PySem.W.codeIn K Wg "Raise.span"=true) (ZL:PySem.W.keepIn K (.ref Vi)=true) (n63:PySem.W.isFn K (.ref Vi)=true)
    (ZM:K.lookup Vj=some ⟨aiZ,ac0,.func (PySem.W.fnOf "__init__" "Level.__init__" (ai bq) (ah bq) (aa bq) (.ref Ys) Sk Sl Sm RS O3 Sn),aeC⟩) (ZN:PySem.W.codeIn K O3 "Level.__init__"=true) (W5:K.lookup Ys=some ⟨ak3,ak0,.seq #[.none,.none,.none,.str "no more" SH] ak1,ak2⟩)
    (ZO:PySem.W.makesIn K au=true) (ZP:PySem.W.findIn K (.ref au) "__init__"=some (some (.ref Vj))) (ZQ:PySem.W.isFn K (.ref Vj)=true) (ZR:PySem.W.keepIn K (.ref au)=true)
    (S3:∀ S (u0 u1 u2 u3:Value),PySem.W.peek K S (bindArgs (PySem.W.fnOf "__init__" "Level.__init__" (ai bq) (ah bq) (aa bq) (.ref Ys) Sk Sl Sm RS O3 Sn) ⟨[u0,u1,u2,u3],[]⟩)=some [(("self":Str),u0),(("low":Str),u1),(("high":Str),u2),(("value":Str),u3),(("more":Str),.str "no more" SH)])
    (S4:∀ S (u0 u1 u2 u3:Value),PySem.W.peek K S (bindArgs (PySem.W.fnOf "__init__" "Level.__init__" (ai bq) (ah bq) (aa bq) (.ref Ys) Sk Sl Sm RS O3 Sn) ⟨[u0],[(("value":Str),u1),(("low":Str),u2),(("high":Str),u3)]⟩)=some [(("self":Str),u0),(("low":Str),u2),(("high":Str),u3),(("value":Str),u1),(("more":Str),.str "no more" SH)])
    (Pw:PySem.W.plainGet K au Str.empty=true) (Px:PySem.W.hasDictIn K au=true) (Py:PySem.W.plainOver K au=true) (Pz:PySem.W.findIn K (.ref au) "__setattr__"=some (some (.builtin "object.__setattr__")))
    (Av:PySem.W.findIn K (.ref au) "low"=some none)
    (wR:PySem.W.findIn K (.ref au) "high"=some none)
    (tX:PySem.W.findIn K (.ref au) "value"=some none)
    (i65:PySem.W.findIn K (.ref au) "told"=some (some (.ref Vk))) (l65:K.lookup Vk=some ⟨ai0,ac1,.func (PySem.W.fnOf "told" "Level.told" (ai iO) (ah iO) (aa iO) .none ai1 ai2 ai3 ac2 Wh ai4),aeD⟩) (c65:PySem.W.codeIn K Wh "Level.told"=true) (ZS:PySem.W.keepIn K (.ref Vk)=true) (n65:PySem.W.isFn K (.ref Vk)=true)
    (i66:PySem.W.findIn K (.ref au) "action"=some (some (.ref Vl))) (l66:K.lookup Vl=some ⟨ai5,ac3,.func (PySem.W.fnOf "action" "Level.action" (ai fZ) (ah fZ) (aa fZ) .none ai6 ai7 ai8 ac4 Wi ai9),aeE⟩) (c66:PySem.W.codeIn K Wi "Level.action"=true) (ZU:PySem.W.keepIn K (.ref Vl)=true) (n66:PySem.W.isFn K (.ref Vl)=true)
    (i67:PySem.W.findIn K (.ref au) "span"=some (some (.ref Vm))) (l67:K.lookup Vm=some ⟨aja,ac5,.func (PySem.W.fnOf "span" "Level.span" (ai iP) (ah iP) (aa iP) .none ajb ajc ajd ac6 Wj aje),aeF⟩) (c67:PySem.W.codeIn K Wj "Level.span"=true) (ZV:PySem.W.keepIn K (.ref Vm)=true) (n67:PySem.W.isFn K (.ref Vm)=true)
    (l68:K.lookup Yb=some ⟨ajf,ac7,.func (PySem.W.fnOf "__init__" "Mark.__init__" (ai cX) (ah cX) (aa cX) (.ref d68) Wk Wl Wm Vs So Wn),aeG⟩) (c68:PySem.W.codeIn K So "Mark.__init__"=true) (W6:K.lookup d68=some ⟨ak8,ak5,.seq #[.str "no more" Yt] ak6,ak7⟩)
    (k68:PySem.W.makesIn K aJ=true) (i68:PySem.W.findIn K (.ref aJ) "__init__"=some (some (.ref Yb))) (n68:PySem.W.isFn K (.ref Yb)=true) (p68:PySem.W.keepIn K (.ref aJ)=true)
    (S5:∀ S (u0:Value),PySem.W.peek K S (bindArgs (PySem.W.fnOf "__init__" "Mark.__init__" (ai cX) (ah cX) (aa cX) (.ref d68) Wk Wl Wm Vs So Wn) ⟨[u0],[]⟩)=some [(("self":Str),u0),(("more":Str),.str "no more" Yt)])
    (S6:PySem.W.plainGet K aJ Str.empty=true) (S7:PySem.W.hasDictIn K aJ=true) (S8:PySem.W.plainOver K aJ=true) (S9:PySem.W.findIn K (.ref aJ) "__setattr__"=some (some (.builtin "object.__setattr__")))
    (i69:PySem.W.findIn K (.ref aJ) "told"=some (some (.ref Vn))) (l69:K.lookup Vn=some ⟨ajg,ac8,.func (PySem.W.fnOf "told" "Mark.told" (ai jt) (ah jt) (aa jt) .none ajh aji ajj ac9 Wo ajk),aeH⟩) (c69:PySem.W.codeIn K Wo "Mark.told"=true) (ZW:PySem.W.keepIn K (.ref Vn)=true) (n69:PySem.W.isFn K (.ref Vn)=true)
    (ZX:K.lookup Vo=some ⟨ajl,ada,.func (PySem.W.fnOf "__init__" "Forget.__init__" (ai aZ) (ah aZ) (aa aZ) (.ref Yu) Sq Ss Su RT O4 Sv),aeI⟩) (ZY:PySem.W.codeIn K O4 "Forget.__init__"=true) (W7:K.lookup Yu=some ⟨alc,ak9,.seq #[.none,.str "no more" SI] ala,alb⟩)
    (ZZ:PySem.W.makesIn K ak=true) (Z0:PySem.W.findIn K (.ref ak) "__init__"=some (some (.ref Vo))) (Z1:PySem.W.isFn K (.ref Vo)=true) (Z2:PySem.W.keepIn K (.ref ak)=true)
    (Tc:∀ S (u0 u1:Value),PySem.W.peek K S (bindArgs (PySem.W.fnOf "__init__" "Forget.__init__" (ai aZ) (ah aZ) (aa aZ) (.ref Yu) Sq Ss Su RT O4 Sv) ⟨[u0,u1],[]⟩)=some [(("self":Str),u0),(("mark":Str),u1),(("more":Str),.str "no more" SI)])
    (Td:∀ S (u0 u1:Value),PySem.W.peek K S (bindArgs (PySem.W.fnOf "__init__" "Forget.__init__" (ai aZ) (ah aZ) (aa aZ) (.ref Yu) Sq Ss Su RT O4 Sv) ⟨[u0],[(("mark":Str),u1)]⟩)=some [(("self":Str),u0),(("mark":Str),u1),(("more":Str),.str "no more" SI)])
    (PB:PySem.W.plainGet K ak Str.empty=true) (PC:PySem.W.hasDictIn K ak=true) (PD:PySem.W.plainOver K ak=true) (PJ:PySem.W.findIn K (.ref ak) "__setattr__"=some (some (.builtin "object.__setattr__")))
    (wU:PySem.W.findIn K (.ref ak) "mark"=some none)
    (i71:PySem.W.findIn K (.ref ak) "told"=some (some (.ref Vp))) (l71:K.lookup Vp=some ⟨ajm,adb,.func (PySem.W.fnOf "told" "Forget.told" (ai g8) (ah g8) (aa g8) .none ajn ajo ajp ade Wq ajq),aeJ⟩) (c71:PySem.W.codeIn K Wq "Forget.told"=true) (Z3:PySem.W.keepIn K (.ref Vp)=true) (n71:PySem.W.isFn K (.ref Vp)=true)
    (i72:PySem.W.findIn K (.ref bT) "note"=some (some (.ref wN))) (l72:K.lookup wN=some ⟨ajr,adf,.func (PySem.W.fnOf "note" "Deed.note" (ai jm) (ah jm) (aa jm) .none ajs ajt aju adg Wr ajv),aeK⟩) (c72:PySem.W.codeIn K Wr "Deed.note"=true) (Dq:PySem.W.keepIn K (.ref wN)=true) (E9:PySem.W.isFn K (.ref wN)=true)
    (i73:PySem.W.findIn K (.ref bT) "__str__"=some (some (.ref Cy))) (l73:K.lookup Cy=some ⟨ajw,adh,.func (PySem.W.fnOf "__str__" "Deed.__str__" (ai fX) (ah fX) (aa fX) .none ajx ajy ajz adi Ws ajA),aeL⟩) (c73:PySem.W.codeIn K Ws "Deed.__str__"=true) (LA:PySem.W.keepIn K (.ref Cy)=true) (M5:PySem.W.isFn K (.ref Cy)=true)
    (i74:PySem.W.findIn K (.ref bT) "__eq__"=some (some (.ref Cz))) (l74:K.lookup Cz=some ⟨ajB,adj,.func (PySem.W.fnOf "__eq__" "Deed.__eq__" (ai g5) (ah g5) (aa g5) .none ajC ajD ajE adk Wt ajF),aeM⟩) (c74:PySem.W.codeIn K Wt "Deed.__eq__"=true) (LB:PySem.W.keepIn K (.ref Cz)=true) (M6:PySem.W.isFn K (.ref Cz)=true)
    (a75:PySem.W.nsIn K mainGlobals "has_form"=some (some (.ref Yc))) (l75:K.lookup Yc=some ⟨ajG,adl,.func (PySem.W.fnOf "has_form" "has_form" (ai kM) (ah kM) (aa kM) .none ajH ajI ajJ adm Wu ajK),aeN⟩) (c75:PySem.W.codeIn K Wu "has_form"=true) (Z4:PySem.W.keepIn K (.ref Yc)=true)
    (Z5:PySem.W.nsIn K mainGlobals "deed_of"=some (some (.ref Vq))) (l76:K.lookup Vq=some ⟨ajL,adn,.func (PySem.W.fnOf "deed_of" "deed_of" (ai mP) (ah mP) (aa mP) .none ajM ajN ajO ado Wv ajP),aeO⟩) (c76:PySem.W.codeIn K Wv "deed_of"=true) (W8:PySem.W.keepIn K (.ref Vq)=true)
    (Z6:PySem.W.nsIn K mainGlobals "read_words"=some (some (.ref Vr))) (l77:K.lookup Vr=some ⟨ajQ,adp,.func (PySem.W.fnOf "read_words" "read_words" (ai iQ) (ah iQ) (aa iQ) .none ajR ajS ajT adq Ww ajU),aeP⟩) (c77:PySem.W.codeIn K Ww "read_words"=true) (W9:PySem.W.keepIn K (.ref Vr)=true)
    (a78:PySem.W.nsIn K mainGlobals "_law_well"=some (some (.ref Yd))) (l78:K.lookup Yd=some ⟨ajV,ads,.func (PySem.W.fnOf "_law_well" "_law_well" (ai ju) (ah ju) (aa ju) .none ajW ajX ajY adt Wx ajZ),aeQ⟩) (c78:PySem.W.codeIn K Wx "_law_well"=true) (Z7:PySem.W.keepIn K (.ref Yd)=true)
    (a79:PySem.W.nsIn K mainGlobals "_law_draw"=some (some (.ref Ye))) (l79:K.lookup Ye=some ⟨aj0,adu,.func (PySem.W.fnOf "_law_draw" "_law_draw" (ai jv) (ah jv) (aa jv) .none aj1 aj2 aj3 adw Wy aj4),aeR⟩) (c79:PySem.W.codeIn K Wy "_law_draw"=true) (Z8:PySem.W.keepIn K (.ref Ye)=true)
    (a80:PySem.W.nsIn K mainGlobals "_law_doing"=some (some (.ref Yg))) (l80:K.lookup Yg=some ⟨aj5,adx,.func (PySem.W.fnOf "_law_doing" "_law_doing" (ai iR) (ah iR) (aa iR) .none aj6 aj7 aj8 ady Wz aj9),aeS⟩) (c80:PySem.W.codeIn K Wz "_law_doing"=true) (Z9:PySem.W.keepIn K (.ref Yg)=true)
    (a81:PySem.W.nsIn K mainGlobals "_law_ends"=some (some (.ref Yh))) (l81:K.lookup Yh=some ⟨aka,adz,.func (PySem.W.fnOf "_law_ends" "_law_ends" (ai jw) (ah jw) (aa jw) .none akb akc akd adA WA ake),aeT⟩) (c81:PySem.W.codeIn K WA "_law_ends"=true) (k81:PySem.W.keepIn K (.ref Yh)=true)
    (a82:PySem.W.nsIn K mainGlobals "_law_paper"=some (some (.ref Yi))) (l82:K.lookup Yi=some ⟨akf,adB,.func (PySem.W.fnOf "_law_paper" "_law_paper" (ai iS) (ah iS) (aa iS) .none akg akh aki adC WB akj),aeU⟩) (c82:PySem.W.codeIn K WB "_law_paper"=true) (k82:PySem.W.keepIn K (.ref Yi)=true)
    (a83:PySem.W.nsIn K mainGlobals "_law_deeds_right"=some (some (.ref Yj))) (l83:K.lookup Yj=some ⟨akk,adD,.func (PySem.W.fnOf "_law_deeds_right" "_law_deeds_right" (ai aV) (ah aV) (aa aV) .none akl akm akn adE WC ako),aeV⟩) (c83:PySem.W.codeIn K WC "_law_deeds_right"=true) (k83:PySem.W.keepIn K (.ref Yj)=true)
    (a84:PySem.W.nsIn K mainGlobals "_law_notes_right"=some (some (.ref Yk))) (l84:K.lookup Yk=some ⟨akp,adF,.func (PySem.W.fnOf "_law_notes_right" "_law_notes_right" (ai dR) (ah dR) (aa dR) .none akq akr aks adG WD akt),aeW⟩) (c84:PySem.W.codeIn K WD "_law_notes_right"=true) (k84:PySem.W.keepIn K (.ref Yk)=true)
    (a85:PySem.W.nsIn K mainGlobals "_law_trays_right"=some (some (.ref Yl))) (l85:K.lookup Yl=some ⟨aku,adH,.func (PySem.W.fnOf "_law_trays_right" "_law_trays_right" (ai dS) (ah dS) (aa dS) .none akv akw akx adI WE aky),aeX⟩) (c85:PySem.W.codeIn K WE "_law_trays_right"=true) (k85:PySem.W.keepIn K (.ref Yl)=true)
    (a86:PySem.W.nsIn K mainGlobals "law"=some (some (.ref f86))) (l86:K.lookup f86=some ⟨akz,adJ,.func (PySem.W.fnOf "law" "law" (ai lZ) (ah lZ) (aa lZ) .none WG WH WI Vt Sw WJ),aeY⟩) (c86:PySem.W.codeIn K Sw "law"=true) (k86:PySem.W.keepIn K (.ref f86)=true)
    (M7:PySem.W.nsIn K mainGlobals "len"=some none)
    (qx:PySem.W.nsIn K mainGlobals "isinstance"=some none)
    (M8:PySem.W.nsIn K mainGlobals "int"=some none)
    (IV:PySem.W.nsIn K mainGlobals "bool"=some none)
    (Fb:PySem.W.nsIn K mainGlobals "tuple"=some none)
    (M9:PySem.W.nsIn K mainGlobals "str"=some none)
    (IW:PySem.W.nsIn K mainGlobals "list"=some none)
    (Fc:PySem.W.nsIn K mainGlobals "range"=some none)
    (Na:PySem.W.nsIn K mainGlobals "min"=some none)
    (Nb:PySem.W.nsIn K mainGlobals "max"=some none)
    (Nc:PySem.W.nsIn K mainGlobals "any"=some none)
    (Nd:PySem.W.nsIn K mainGlobals "sum"=some none)
    (BH:PySem.W.nsIn K mainGlobals "sorted"=some none)
    (Nf:PySem.W.nsIn K mainGlobals "set"=some none)
    (rV:PySem.W.nsIn K mainGlobals "enumerate"=some none)
    (Ng:PySem.W.nsIn K mainGlobals "all"=some none)
    (Nh:PySem.W.nsIn K mainGlobals "END"=some (some (.int 1000000000000 tE)))
    (qy:PySem.W.nsIn K mainGlobals "MOST_VALUE"=some (some (.int 1000000000000000000000000000000 tM)))
    (nj:PySem.W.nsIn K mainGlobals "MOST_FIGURES"=some (some (.int 60 tF)))
    (yU:PySem.W.nsIn K mainGlobals "NO_MORE"=some (some (.str "no more" tN)))
    (BI:PySem.W.nsIn K mainGlobals "THINGS"=some (some (.ref br)))
    (IX:PySem.W.nsIn K mainGlobals "GONE"=some (some (.ref aG)))
    (vq:PySem.W.nsIn K mainGlobals "CLEARING"=some (some (.ref aC)))
    (rW:PySem.W.nsIn K mainGlobals "MOST_TRAY"=some (some (.int 64 t1)))
    (rX:PySem.W.nsIn K mainGlobals "LEAST_FAN"=some (some (.int 3 t2)))
    (vt:PySem.W.nsIn K mainGlobals "MOST_FAN"=some (some (.int 16 t3)))
    (rY:PySem.W.nsIn K mainGlobals "MOST_ROWS"=some (some (.int 64 t4)))
    (Fd:PySem.W.nsIn K mainGlobals "PLANS"=some (some (.ref aP)))
    (Fe:PySem.W.nsIn K mainGlobals "Deed"=some (some (.ref bT)))
    (Ke:PySem.W.nsIn K mainGlobals "Put"=some (some (.ref aM)))
    (Ff:PySem.W.nsIn K mainGlobals "Drop"=some (some (.ref aD)))
    (Kf:PySem.W.nsIn K mainGlobals "Add"=some (some (.ref aN)))
    (Fg:PySem.W.nsIn K mainGlobals "Wipe"=some (some (.ref aA)))
    (Aw:PySem.W.nsIn K mainGlobals "Raise"=some (some (.ref aq)))
    (Ax:PySem.W.nsIn K mainGlobals "Level"=some (some (.ref au)))
    (IY:PySem.W.nsIn K mainGlobals "Mark"=some (some (.ref aJ)))
    (wV:PySem.W.nsIn K mainGlobals "Forget"=some (some (.ref ak)))
    (Te:K.lookup br=some ⟨.type "dict",none,.dict (List.toArray (⟨PyData.keyHash w.params "put",.str "put" s1,.int 3 u1⟩::⟨PyData.keyHash w.params "drop",.str "drop" s2,.int 2 u2⟩::⟨PyData.keyHash w.params "add",.str "add" s3,.int 3 u3⟩::⟨PyData.keyHash w.params "wipe",.str "wipe" s4,.int 3 u4⟩::⟨PyData.keyHash w.params "raise",.str "raise" s5,.int 4 u5⟩::⟨PyData.keyHash w.params "level",.str "level" s6,.int 4 u6⟩::⟨PyData.keyHash w.params "mark",.str "mark" s7,.int 1 u7⟩::⟨PyData.keyHash w.params "forget",.str "forget" s8,.int 2 u8⟩::[])) nT,#[]⟩)
    (Ni:(br==sysModules)=false)
    (Tf:K.lookup aG=some ⟨.type "tuple",dG,.seq #[.str "gone" v1] nG,slG⟩)
    (Tg:K.lookup aC=some ⟨.type "tuple",dC,.seq #[.ref g1,.ref g2] nC,slC⟩)
    (Nj:K.lookup g1=some ⟨.type "tuple",dC1,.seq #[.str "gone" v2] nC1,akA⟩)
    (Nk:K.lookup g2=some ⟨.type "tuple",dC2,.seq #[.str "gone" v3] nC2,akB⟩)
    (CA:PySem.W.specialIn K (.builtin "object.__class__") "__get__"=some (some (.builtin "getset_descriptor.__get__")))
    (CB:PySem.W.takesIn K (.builtin "object.__class__")=some true)
    (Fi:PySem.W.findIn K (.ref aM) "__class__"=some (some (.builtin "object.__class__")))
    (jN:PySem.W.mroIn K aM (.type "object")=some true)
    (Fj:PySem.W.kitOne K (.ref aM) (.ref bT)=some true)
    (lu:PySem.W.findIn K (.ref aM) "__ne__"=some (some (.builtin "object.__ne__")))
    (wW:PySem.W.subIn K (.ref aM) (.type "tuple")=some false)
    (zk:PySem.W.subIn K (.ref aM) (.type "list")=some false)
    (BJ:PySem.W.subIn K (.ref aM) (.type "int")=some false)
    (BK:PySem.W.subIn K (.ref aM) (.type "str")=some false)
    (qX:PySem.W.subIn K (.ref aM) (.type "NoneType")=some false)
    (BL:PySem.W.kitOne K (.ref aM) (.ref aM)=some true)
    (zl:PySem.W.kitOne K (.ref aM) (.ref aD)=some false)
    (rZ:PySem.W.subIn K (.ref aD) (.ref aM)=some false)
    (BN:PySem.W.kitOne K (.ref aM) (.ref aN)=some false)
    (vz:PySem.W.subIn K (.ref aN) (.ref aM)=some false)
    (zm:PySem.W.kitOne K (.ref aM) (.ref aA)=some false)
    (sf:PySem.W.subIn K (.ref aA) (.ref aM)=some false)
    (wX:PySem.W.kitOne K (.ref aM) (.ref aq)=some false)
    (qz:PySem.W.subIn K (.ref aq) (.ref aM)=some false)
    (wY:PySem.W.kitOne K (.ref aM) (.ref au)=some false)
    (qA:PySem.W.subIn K (.ref au) (.ref aM)=some false)
    (zo:PySem.W.kitOne K (.ref aM) (.ref aJ)=some false)
    (sj:PySem.W.subIn K (.ref aJ) (.ref aM)=some false)
    (uq:PySem.W.kitOne K (.ref aM) (.ref ak)=some false)
    (oQ:PySem.W.subIn K (.ref ak) (.ref aM)=some false)
    (om:PySem.W.findIn K (.ref aM) "note"=some (some (.ref wN)))
    (vA:PySem.W.findIn K (.ref aM) "__str__"=some (some (.ref Cy)))
    (yV:PySem.W.findIn K (.ref aM) "__eq__"=some (some (.ref Cz)))
    (BO:PySem.W.findIn K (.ref aD) "__class__"=some (some (.builtin "object.__class__")))
    (iD:PySem.W.mroIn K aD (.type "object")=some true)
    (BP:PySem.W.kitOne K (.ref aD) (.ref bT)=some true)
    (ja:PySem.W.findIn K (.ref aD) "__ne__"=some (some (.builtin "object.__ne__")))
    (ur:PySem.W.subIn K (.ref aD) (.type "tuple")=some false)
    (wZ:PySem.W.subIn K (.ref aD) (.type "list")=some false)
    (zp:PySem.W.subIn K (.ref aD) (.type "int")=some false)
    (zq:PySem.W.subIn K (.ref aD) (.type "str")=some false)
    (pW:PySem.W.subIn K (.ref aD) (.type "NoneType")=some false)
    (zu:PySem.W.kitOne K (.ref aD) (.ref aM)=some false)
    (sq:PySem.W.subIn K (.ref aM) (.ref aD)=some false)
    (w4:PySem.W.kitOne K (.ref aD) (.ref aD)=some true)
    (zv:PySem.W.kitOne K (.ref aD) (.ref aN)=some false)
    (sr:PySem.W.subIn K (.ref aN) (.ref aD)=some false)
    (w5:PySem.W.kitOne K (.ref aD) (.ref aA)=some false)
    (qB:PySem.W.subIn K (.ref aA) (.ref aD)=some false)
    (uu:PySem.W.kitOne K (.ref aD) (.ref aq)=some false)
    (oS:PySem.W.subIn K (.ref aq) (.ref aD)=some false)
    (uv:PySem.W.kitOne K (.ref aD) (.ref au)=some false)
    (oU:PySem.W.subIn K (.ref au) (.ref aD)=some false)
    (w6:PySem.W.kitOne K (.ref aD) (.ref aJ)=some false)
    (qC:PySem.W.subIn K (.ref aJ) (.ref aD)=some false)
    (su:PySem.W.kitOne K (.ref aD) (.ref ak)=some false)
    (nk:PySem.W.subIn K (.ref ak) (.ref aD)=some false)
    (mz:PySem.W.findIn K (.ref aD) "note"=some (some (.ref wN)))
    (sy:PySem.W.findIn K (.ref aD) "__str__"=some (some (.ref Cy)))
    (vB:PySem.W.findIn K (.ref aD) "__eq__"=some (some (.ref Cz)))
    (Fl:PySem.W.findIn K (.ref aN) "__class__"=some (some (.builtin "object.__class__")))
    (jO:PySem.W.mroIn K aN (.type "object")=some true)
    (Fo:PySem.W.kitOne K (.ref aN) (.ref bT)=some true)
    (ly:PySem.W.findIn K (.ref aN) "__ne__"=some (some (.builtin "object.__ne__")))
    (w9:PySem.W.subIn K (.ref aN) (.type "tuple")=some false)
    (zw:PySem.W.subIn K (.ref aN) (.type "list")=some false)
    (BQ:PySem.W.subIn K (.ref aN) (.type "int")=some false)
    (BR:PySem.W.subIn K (.ref aN) (.type "str")=some false)
    (qY:PySem.W.subIn K (.ref aN) (.type "NoneType")=some false)
    (BS:PySem.W.kitOne K (.ref aN) (.ref aM)=some false)
    (vC:PySem.W.subIn K (.ref aM) (.ref aN)=some false)
    (zx:PySem.W.kitOne K (.ref aN) (.ref aD)=some false)
    (sA:PySem.W.subIn K (.ref aD) (.ref aN)=some false)
    (BU:PySem.W.kitOne K (.ref aN) (.ref aN)=some true)
    (zy:PySem.W.kitOne K (.ref aN) (.ref aA)=some false)
    (sC:PySem.W.subIn K (.ref aA) (.ref aN)=some false)
    (xg:PySem.W.kitOne K (.ref aN) (.ref aq)=some false)
    (qD:PySem.W.subIn K (.ref aq) (.ref aN)=some false)
    (xh:PySem.W.kitOne K (.ref aN) (.ref au)=some false)
    (qE:PySem.W.subIn K (.ref au) (.ref aN)=some false)
    (zA:PySem.W.kitOne K (.ref aN) (.ref aJ)=some false)
    (sD:PySem.W.subIn K (.ref aJ) (.ref aN)=some false)
    (uw:PySem.W.kitOne K (.ref aN) (.ref ak)=some false)
    (oW:PySem.W.subIn K (.ref ak) (.ref aN)=some false)
    (oq:PySem.W.findIn K (.ref aN) "note"=some (some (.ref wN)))
    (vD:PySem.W.findIn K (.ref aN) "__str__"=some (some (.ref Cy)))
    (yW:PySem.W.findIn K (.ref aN) "__eq__"=some (some (.ref Cz)))
    (BV:PySem.W.findIn K (.ref aA) "__class__"=some (some (.builtin "object.__class__")))
    (iE:PySem.W.mroIn K aA (.type "object")=some true)
    (BW:PySem.W.kitOne K (.ref aA) (.ref bT)=some true)
    (jb:PySem.W.findIn K (.ref aA) "__ne__"=some (some (.builtin "object.__ne__")))
    (ux:PySem.W.subIn K (.ref aA) (.type "tuple")=some false)
    (xj:PySem.W.subIn K (.ref aA) (.type "list")=some false)
    (zB:PySem.W.subIn K (.ref aA) (.type "int")=some false)
    (zC:PySem.W.subIn K (.ref aA) (.type "str")=some false)
    (pX:PySem.W.subIn K (.ref aA) (.type "NoneType")=some false)
    (zD:PySem.W.kitOne K (.ref aA) (.ref aM)=some false)
    (sE:PySem.W.subIn K (.ref aM) (.ref aA)=some false)
    (xm:PySem.W.kitOne K (.ref aA) (.ref aD)=some false)
    (qF:PySem.W.subIn K (.ref aD) (.ref aA)=some false)
    (zE:PySem.W.kitOne K (.ref aA) (.ref aN)=some false)
    (sF:PySem.W.subIn K (.ref aN) (.ref aA)=some false)
    (xo:PySem.W.kitOne K (.ref aA) (.ref aA)=some true)
    (uy:PySem.W.kitOne K (.ref aA) (.ref aq)=some false)
    (oX:PySem.W.subIn K (.ref aq) (.ref aA)=some false)
    (uz:PySem.W.kitOne K (.ref aA) (.ref au)=some false)
    (oY:PySem.W.subIn K (.ref au) (.ref aA)=some false)
    (xq:PySem.W.kitOne K (.ref aA) (.ref aJ)=some false)
    (qG:PySem.W.subIn K (.ref aJ) (.ref aA)=some false)
    (sG:PySem.W.kitOne K (.ref aA) (.ref ak)=some false)
    (nq:PySem.W.subIn K (.ref ak) (.ref aA)=some false)
    (mC:PySem.W.findIn K (.ref aA) "note"=some (some (.ref wN)))
    (sH:PySem.W.findIn K (.ref aA) "__str__"=some (some (.ref Cy)))
    (vE:PySem.W.findIn K (.ref aA) "__eq__"=some (some (.ref Cz)))
    (yX:PySem.W.findIn K (.ref aq) "__class__"=some (some (.builtin "object.__class__")))
    (gi:PySem.W.mroIn K aq (.type "object")=some true)
    (yY:PySem.W.kitOne K (.ref aq) (.ref bT)=some true)
    (ia:PySem.W.findIn K (.ref aq) "__ne__"=some (some (.builtin "object.__ne__")))
    (sI:PySem.W.subIn K (.ref aq) (.type "tuple")=some false)
    (uA:PySem.W.subIn K (.ref aq) (.type "list")=some false)
    (xr:PySem.W.subIn K (.ref aq) (.type "int")=some false)
    (xu:PySem.W.subIn K (.ref aq) (.type "str")=some false)
    (ou:PySem.W.subIn K (.ref aq) (.type "NoneType")=some false)
    (xw:PySem.W.kitOne K (.ref aq) (.ref aM)=some false)
    (qH:PySem.W.subIn K (.ref aM) (.ref aq)=some false)
    (uB:PySem.W.kitOne K (.ref aq) (.ref aD)=some false)
    (oZ:PySem.W.subIn K (.ref aD) (.ref aq)=some false)
    (xy:PySem.W.kitOne K (.ref aq) (.ref aN)=some false)
    (qI:PySem.W.subIn K (.ref aN) (.ref aq)=some false)
    (uC:PySem.W.kitOne K (.ref aq) (.ref aA)=some false)
    (o4:PySem.W.subIn K (.ref aA) (.ref aq)=some false)
    (sJ:PySem.W.kitOne K (.ref aq) (.ref aq)=some true)
    (sL:PySem.W.kitOne K (.ref aq) (.ref au)=some false)
    (nu:PySem.W.subIn K (.ref au) (.ref aq)=some false)
    (uD:PySem.W.kitOne K (.ref aq) (.ref aJ)=some false)
    (o5:PySem.W.subIn K (.ref aJ) (.ref aq)=some false)
    (qZ:PySem.W.kitOne K (.ref aq) (.ref ak)=some false)
    (lU:PySem.W.subIn K (.ref ak) (.ref aq)=some false)
    (lz:PySem.W.findIn K (.ref aq) "note"=some (some (.ref wN)))
    (qJ:PySem.W.findIn K (.ref aq) "__str__"=some (some (.ref Cy)))
    (sM:PySem.W.findIn K (.ref aq) "__eq__"=some (some (.ref Cz)))
    (yZ:PySem.W.findIn K (.ref au) "__class__"=some (some (.builtin "object.__class__")))
    (gj:PySem.W.mroIn K au (.type "object")=some true)
    (y9:PySem.W.kitOne K (.ref au) (.ref bT)=some true)
    (ic:PySem.W.findIn K (.ref au) "__ne__"=some (some (.builtin "object.__ne__")))
    (sN:PySem.W.subIn K (.ref au) (.type "tuple")=some false)
    (uE:PySem.W.subIn K (.ref au) (.type "list")=some false)
    (xA:PySem.W.subIn K (.ref au) (.type "int")=some false)
    (xB:PySem.W.subIn K (.ref au) (.type "str")=some false)
    (ow:PySem.W.subIn K (.ref au) (.type "NoneType")=some false)
    (xC:PySem.W.kitOne K (.ref au) (.ref aM)=some false)
    (qK:PySem.W.subIn K (.ref aM) (.ref au)=some false)
    (uF:PySem.W.kitOne K (.ref au) (.ref aD)=some false)
    (o6:PySem.W.subIn K (.ref aD) (.ref au)=some false)
    (xH:PySem.W.kitOne K (.ref au) (.ref aN)=some false)
    (qL:PySem.W.subIn K (.ref aN) (.ref au)=some false)
    (uG:PySem.W.kitOne K (.ref au) (.ref aA)=some false)
    (o7:PySem.W.subIn K (.ref aA) (.ref au)=some false)
    (sO:PySem.W.kitOne K (.ref au) (.ref aq)=some false)
    (nv:PySem.W.subIn K (.ref aq) (.ref au)=some false)
    (sP:PySem.W.kitOne K (.ref au) (.ref au)=some true)
    (uH:PySem.W.kitOne K (.ref au) (.ref aJ)=some false)
    (o8:PySem.W.subIn K (.ref aJ) (.ref au)=some false)
    (rj:PySem.W.kitOne K (.ref au) (.ref ak)=some false)
    (lV:PySem.W.subIn K (.ref ak) (.ref au)=some false)
    (lA:PySem.W.findIn K (.ref au) "note"=some (some (.ref wN)))
    (qM:PySem.W.findIn K (.ref au) "__str__"=some (some (.ref Cy)))
    (sQ:PySem.W.findIn K (.ref au) "__eq__"=some (some (.ref Cz)))
    (BX:PySem.W.findIn K (.ref aJ) "__class__"=some (some (.builtin "object.__class__")))
    (iF:PySem.W.mroIn K aJ (.type "object")=some true)
    (BY:PySem.W.kitOne K (.ref aJ) (.ref bT)=some true)
    (jc:PySem.W.findIn K (.ref aJ) "__ne__"=some (some (.builtin "object.__ne__")))
    (uI:PySem.W.subIn K (.ref aJ) (.type "tuple")=some false)
    (xJ:PySem.W.subIn K (.ref aJ) (.type "list")=some false)
    (zF:PySem.W.subIn K (.ref aJ) (.type "int")=some false)
    (zG:PySem.W.subIn K (.ref aJ) (.type "str")=some false)
    (pY:PySem.W.subIn K (.ref aJ) (.type "NoneType")=some false)
    (zH:PySem.W.kitOne K (.ref aJ) (.ref aM)=some false)
    (sR:PySem.W.subIn K (.ref aM) (.ref aJ)=some false)
    (xK:PySem.W.kitOne K (.ref aJ) (.ref aD)=some false)
    (qN:PySem.W.subIn K (.ref aD) (.ref aJ)=some false)
    (zI:PySem.W.kitOne K (.ref aJ) (.ref aN)=some false)
    (sS:PySem.W.subIn K (.ref aN) (.ref aJ)=some false)
    (xN:PySem.W.kitOne K (.ref aJ) (.ref aA)=some false)
    (qO:PySem.W.subIn K (.ref aA) (.ref aJ)=some false)
    (uJ:PySem.W.kitOne K (.ref aJ) (.ref aq)=some false)
    (o9:PySem.W.subIn K (.ref aq) (.ref aJ)=some false)
    (uK:PySem.W.kitOne K (.ref aJ) (.ref au)=some false)
    (pe:PySem.W.subIn K (.ref au) (.ref aJ)=some false)
    (xO:PySem.W.kitOne K (.ref aJ) (.ref aJ)=some true)
    (sU:PySem.W.kitOne K (.ref aJ) (.ref ak)=some false)
    (ny:PySem.W.subIn K (.ref ak) (.ref aJ)=some false)
    (mD:PySem.W.findIn K (.ref aJ) "note"=some (some (.ref wN)))
    (sV:PySem.W.findIn K (.ref aJ) "__str__"=some (some (.ref Cy)))
    (vF:PySem.W.findIn K (.ref aJ) "__eq__"=some (some (.ref Cz)))
    (nA:PySem.W.findIn K (.ref aJ) "action"=some (some (.ref OV)))
    (qP:PySem.W.findIn K (.ref aJ) "span"=some (some (.ref OW)))
    (vG:PySem.W.findIn K (.ref ak) "__class__"=some (some (.builtin "object.__class__")))
    (eW:PySem.W.mroIn K ak (.type "object")=some true)
    (vH:PySem.W.kitOne K (.ref ak) (.ref bT)=some true)
    (fB:PySem.W.findIn K (.ref ak) "__ne__"=some (some (.builtin "object.__ne__")))
    (rm:PySem.W.subIn K (.ref ak) (.type "tuple")=some false)
    (sW:PySem.W.subIn K (.ref ak) (.type "list")=some false)
    (uL:PySem.W.subIn K (.ref ak) (.type "int")=some false)
    (uM:PySem.W.subIn K (.ref ak) (.type "str")=some false)
    (nB:PySem.W.subIn K (.ref ak) (.type "NoneType")=some false)
    (uN:PySem.W.kitOne K (.ref ak) (.ref aM)=some false)
    (pq:PySem.W.subIn K (.ref aM) (.ref ak)=some false)
    (sX:PySem.W.kitOne K (.ref ak) (.ref aD)=some false)
    (nE:PySem.W.subIn K (.ref aD) (.ref ak)=some false)
    (uO:PySem.W.kitOne K (.ref ak) (.ref aN)=some false)
    (pA:PySem.W.subIn K (.ref aN) (.ref ak)=some false)
    (sY:PySem.W.kitOne K (.ref ak) (.ref aA)=some false)
    (nF:PySem.W.subIn K (.ref aA) (.ref ak)=some false)
    (rq:PySem.W.kitOne K (.ref ak) (.ref aq)=some false)
    (lW:PySem.W.subIn K (.ref aq) (.ref ak)=some false)
    (rA:PySem.W.kitOne K (.ref ak) (.ref au)=some false)
    (lX:PySem.W.subIn K (.ref au) (.ref ak)=some false)
    (sZ:PySem.W.kitOne K (.ref ak) (.ref aJ)=some false)
    (nH:PySem.W.subIn K (.ref aJ) (.ref ak)=some false)
    (pZ:PySem.W.kitOne K (.ref ak) (.ref ak)=some true)
    (jP:PySem.W.findIn K (.ref ak) "note"=some (some (.ref wN)))
    (pB:PySem.W.findIn K (.ref ak) "__str__"=some (some (.ref Cy)))
    (qQ:PySem.W.findIn K (.ref ak) "__eq__"=some (some (.ref Cz)))
    (kT:PySem.W.findIn K (.ref ak) "action"=some (some (.ref OV)))
    (nI:PySem.W.findIn K (.ref ak) "span"=some (some (.ref OW)))
    (Dr:PySem.W.kitOne K (.type "tuple") (.ref bT)=some false)
    (GL:PySem.W.kitOne K (.type "list") (.ref bT)=some false)
    (Kg:PySem.W.kitOne K (.type "int") (.ref bT)=some false)
    (Kh:PySem.W.kitOne K (.type "str") (.ref bT)=some false)
    (xU:PySem.W.kitOne K (.type "NoneType") (.ref bT)=some false)
    (Th:K.lookup aP=some ⟨.type "tuple",dP,.seq #[.str "fullest" w1,.str "eldest" w2] nP,slP⟩):
    ∃ fd:FuncData,(∀ (s:Shared) (v:Value),BindsTo s fd ⟨[v],[]⟩ [("_law_script",v)])∧∀ base:Heap,K.In base→base.Ns mainGlobals mg→aL l.prog w K mg base dF 9 fa fd ["_law_script"] (Kc K):=by
  have e:=hfa.symm.trans (PySem.W.mg_of X G a86)
  cases e
  have B:=(B.mk (PySem.W.mg_none_of X G M7) (PySem.W.mg_none_of X G qx) (PySem.W.mg_none_of X G M8) (PySem.W.mg_none_of X G IV) (PySem.W.mg_none_of X G Fb) (PySem.W.mg_none_of X G M9) (PySem.W.mg_none_of X G IW) (PySem.W.mg_none_of X G Fc) (PySem.W.mg_none_of X G Na) (PySem.W.mg_none_of X G Nb) (PySem.W.mg_none_of X G Nc) (PySem.W.mg_none_of X G Nd) (PySem.W.mg_none_of X G BH) (PySem.W.mg_none_of X G Nf) (PySem.W.mg_none_of X G rV) (PySem.W.mg_none_of X G Ng) (PySem.W.mg_of X G Nh) (PySem.W.mg_of X G qy) (PySem.W.mg_of X G nj) (PySem.W.mg_of X G yU) (PySem.W.mg_of X G rW) (PySem.W.mg_of X G rX) (PySem.W.mg_of X G vt) (PySem.W.mg_of X G rY) (PySem.W.mg_of X G BI) (PySem.W.mg_of X G IX) (PySem.W.mg_of X G vq) (PySem.W.mg_of X G Fd) (vV Tf (by simp) rfl) ⟨g1,g2,vV Tg (by simp) rfl,vV Nj (by simp) rfl,vV Nk (by simp) rfl⟩ (vV Th (by simp) rfl) (HW (es:=[("put",s1,.int 3 u1),("drop",s2,.int 2 u2),("add",s3,.int 3 u3),("wipe",s4,.int 3 u4),("raise",s5,.int 4 u5),("level",s6,.int 4 u6),("mark",s7,.int 1 u7),("forget",s8,.int 2 u8)]) Te (show ([.inr "put",.inr "drop",.inr "add",.inr "wipe",.inr "raise",.inr "level",.inr "mark",.inr "forget"]:List Key).Nodup from by decide +kernel) Ni):B l.prog w K mg br aG aC aP tE tM tN tF u1 u2 u3 u4 u5 u6 u7 u8 t1 t2 t3 t4)
  have F1:=aF (st:=jg) l1 c1 k1
  have b1:=F1.binds (ps:=["thing"]) fun _ _ _ _ _ _ us hl=>match us,hl with | [_],_=>rfl
  have F2:=aF (st:=mG) l2 c2 k2
  have b2:=F2.binds (ps:=["thing","words"]) fun _ _ _ _ _ _ us hl=>match us,hl with | [_,_],_=>rfl
  have F3:=aF (st:=ji) l3 c3 k3
  have b3:=F3.binds (ps:=["thing"]) fun _ _ _ _ _ _ us hl=>match us,hl with | [_],_=>rfl
  have F4:=aF (st:=fS) l4 c4 k4
  have b4:=F4.binds (ps:=["thing"]) fun _ _ _ _ _ _ us hl=>match us,hl with | [_],_=>rfl
  have F5:=aF (st:=jj) l5 c5 k5
  have b5:=F5.binds (ps:=["half","value"]) fun _ _ _ _ _ _ us hl=>match us,hl with | [_,_],_=>rfl
  have F6:=aF (st:=yo) l6 c6 k6
  have b6:=F6.binds (ps:=["action","value"]) fun _ _ _ _ _ _ us hl=>match us,hl with | [_,_],_=>rfl
  have F7:=aF (st:=yp) l7 c7 k7
  have b7:=F7.binds (ps:=["action","value"]) fun _ _ _ _ _ _ us hl=>match us,hl with | [_,_],_=>rfl
  have F8:=aF (st:=gW) l8 c8 k8
  have b8:=F8.binds (ps:=["half","other"]) fun _ _ _ _ _ _ us hl=>match us,hl with | [_,_],_=>rfl
  have F9:=aF (st:=pI) l9 c9 k9
  have b9:=F9.binds (ps:=["one","other"]) fun _ _ _ _ _ _ us hl=>match us,hl with | [_,_],_=>rfl
  have F10:=aF (st:=pJ) l10 c10 WK
  have b10:=F10.binds (ps:=["one","other"]) fun _ _ _ _ _ _ us hl=>match us,hl with | [_,_],_=>rfl
  have F11:=aF (st:=ku) l11 c11 WL
  have b11:=F11.binds (ps:=["thing","low","high"]) fun _ _ _ _ _ _ us hl=>match us,hl with | [_,_,_],_=>rfl
  have F12:=aF (st:=ff) l12 c12 Yx
  have b12:=F12.binds (ps:=["thing","low"]) fun _ _ _ _ _ _ us hl=>match us,hl with | [_,_],_=>rfl
  have F13:=aF (st:=pH) l13 c13 WM
  have b13:=F13.binds (ps:=["thing"]) fun _ _ _ _ _ _ us hl=>match us,hl with | [_],_=>rfl
  have F14:=aF (st:=iH) l14 c14 WN
  have b14:=F14.binds (ps:=["low","high"]) fun _ _ _ _ _ _ us hl=>match us,hl with | [_,_],_=>rfl
  have F15:=aF (st:=jh) l15 c15 YA
  have b15:=F15.binds (ps:=["thing"]) fun _ _ _ _ _ _ us hl=>match us,hl with | [_],_=>rfl
  have F16:=aF (st:=fh) l16 c16 YB
  have b16:=F16.binds (ps:=["low","high"]) fun _ _ _ _ _ _ us hl=>match us,hl with | [_,_],_=>rfl
  have F17:=aF (st:=mH) l17 c17 WO
  have b17:=F17.binds (ps:=["thing"]) fun _ _ _ _ _ _ us hl=>match us,hl with | [_],_=>rfl
  have F18:=aF (st:=iI) l18 c18 YD
  have b18:=F18.binds (ps:=["thing"]) fun _ _ _ _ _ _ us hl=>match us,hl with | [_],_=>rfl
  have F19:=aF (st:=mJ) l19 c19 YE
  have b19:=F19.binds (ps:=["note","key"]) fun _ _ _ _ _ _ us hl=>match us,hl with | [_,_],_=>rfl
  have F20:=aF (st:=gX) l20 c20 YF
  have b20:=F20.binds (ps:=["note","other"]) fun _ _ _ _ _ _ us hl=>match us,hl with | [_,_],_=>rfl
  have F21:=aF (st:=C7) l21 c21 YG
  have b21:=F21.binds (ps:=["note","low","high"]) fun _ _ _ _ _ _ us hl=>match us,hl with | [_,_,_],_=>rfl
  have F22:=aF (st:=mK) l22 c22 WQ
  have b22:=F22.binds (ps:=["note","key"]) fun _ _ _ _ _ _ us hl=>match us,hl with | [_,_],_=>rfl
  have F23:=aF (st:=pK) l23 c23 WR
  have b23:=F23.binds (ps:=["note","other"]) fun _ _ _ _ _ _ us hl=>match us,hl with | [_,_],_=>rfl
  have F24:=aF (st:=yq) l24 c24 WS
  have b24:=F24.binds (ps:=["note","low","high"]) fun _ _ _ _ _ _ us hl=>match us,hl with | [_,_,_],_=>rfl
  have F25:=aF (st:=tK) l25 c25 YK
  have b25:=F25.binds (ps:=["tray","at"]) fun _ _ _ _ _ _ us hl=>match us,hl with | [_,_],_=>rfl
  have F26:=aF (st:=kF) l26 c26 YL
  have b26:=F26.binds (ps:=["tray","key"]) fun _ _ _ _ _ _ us hl=>match us,hl with | [_,_],_=>rfl
  have F27:=aF (st:=lT) l27 c27 Tv
  have ao9:uW K (PySem.W.fnOf "seen" "seen" (ai lT) (ah lT) (aa lT) .none (.ref Ym) RU RV RL OX RW) ["tray","key","value","at"] ["at"] (gk 3 1) (gk 3 1):=Rl rfl (by decide) fun s us ws h1 h2=>match us,h1,ws,h2 with | [_,_,_],_,[_],_=>.of_eq rfl
  have apa:Binds K (PySem.W.fnOf "seen" "seen" (ai lT) (ah lT) (aa lT) .none (.ref Ym) RU RV RL OX RW) ["tray","key","value","at"] [.none]:=fun s us hK hl=>match us,(show us.length=3 by simpa using hl) with | [_,_,_],_=>by refine K2 hK SJ SK SN (h₁:=rfl) ?_;rfl
  have F28:=aF (st:=fT) l28 c28 YM
  have b28:=F28.binds (ps:=["tray","note"]) fun _ _ _ _ _ _ us hl=>match us,hl with | [_,_],_=>rfl
  have F29:=aF (st:=kH) l29 c29 YN
  have b29:=F29.binds (ps:=["elder","note","marks"]) fun _ _ _ _ _ _ us hl=>match us,hl with | [_,_,_],_=>rfl
  have F30:=aF (st:=yr) l30 c30 WU
  have b30:=F30.binds (ps:=["tray","note","marks"]) fun _ _ _ _ _ _ us hl=>match us,hl with | [_,_,_],_=>rfl
  have F31:=aF (st:=pL) l31 c31 YQ
  have b31:=F31.binds (ps:=["tray","low","high"]) fun _ _ _ _ _ _ us hl=>match us,hl with | [_,_,_],_=>rfl
  have F32:=aF (st:=mL) l32 c32 YR
  have b32:=F32.binds (ps:=["tray","low","high"]) fun _ _ _ _ _ _ us hl=>match us,hl with | [_,_,_],_=>rfl
  have F33:=aF (st:=pM) l33 c33 WV
  have b33:=F33.binds (ps:=["tray","low","high"]) fun _ _ _ _ _ _ us hl=>match us,hl with | [_,_,_],_=>rfl
  have F34:=aF (st:=mE) l34 c34 YT
  have b34:=F34.binds (ps:=["thing"]) fun _ _ _ _ _ _ us hl=>match us,hl with | [_],_=>rfl
  have F35:=aF (st:=mF) l35 c35 WW
  have b35:=F35.binds (ps:=["thing"]) fun _ _ _ _ _ _ us hl=>match us,hl with | [_],_=>rfl
  have F36:=aF (st:=iJ) l36 c36 YV
  have b36:=F36.binds (ps:=["number"]) fun _ _ _ _ _ _ us hl=>match us,hl with | [_],_=>rfl
  have F37:=aF (st:=gY) l37 c37 YW
  have b37:=F37.binds (ps:=["text"]) fun _ _ _ _ _ _ us hl=>match us,hl with | [_],_=>rfl
  have F38:=aF (st:=fU) l38 c38 YX
  have b38:=F38.binds (ps:=["text"]) fun _ _ _ _ _ _ us hl=>match us,hl with | [_],_=>rfl
  have F39:=aF (st:=jk) l39 c39 YY
  have b39:=F39.binds (ps:=["thing"]) fun _ _ _ _ _ _ us hl=>match us,hl with | [_],_=>rfl
  have F40:=aF (st:=fV) l40 c40 YZ
  have b40:=F40.binds (ps:=["fit","more"]) fun _ _ _ _ _ _ us hl=>match us,hl with | [_,_],_=>rfl
  have F41:=aF (st:=mO) l41 c41 Y0
  have b41:=F41.binds (ps:=["thing"]) fun _ _ _ _ _ _ us hl=>match us,hl with | [_],_=>rfl
  have F42:=aF (st:=gZ) l42 c42 Tw
  have b42:=F42.binds (ps:=["self"]) fun _ _ _ _ _ _ us hl=>match us,hl with | [_],_=>rfl
  have F43:=aF (st:=jl) l43 c43 Tz
  have b43:=F43.binds (ps:=["self"]) fun _ _ _ _ _ _ us hl=>match us,hl with | [_],_=>rfl
  have F45:=aF (st:=kI) l45 c45 Y9
  have b45:=F45.binds (ps:=["self"]) fun _ _ _ _ _ _ us hl=>match us,hl with | [_],_=>rfl
  have F46:=aF (st:=iK) l46 c46 Za
  have b46:=F46.binds (ps:=["self"]) fun _ _ _ _ _ _ us hl=>match us,hl with | [_],_=>rfl
  have F47:=aF (st:=kJ) l47 c47 Zb
  have b47:=F47.binds (ps:=["self"]) fun _ _ _ _ _ _ us hl=>match us,hl with | [_],_=>rfl
  have F49:=aF (st:=jn) l49 c49 RK
  have b49:=F49.binds (ps:=["self"]) fun _ _ _ _ _ _ us hl=>match us,hl with | [_],_=>rfl
  have F50:=aF (st:=g6) l50 c50 Zi
  have b50:=F50.binds (ps:=["self"]) fun _ _ _ _ _ _ us hl=>match us,hl with | [_],_=>rfl
  have F51:=aF (st:=jo) l51 c51 Zj
  have b51:=F51.binds (ps:=["self"]) fun _ _ _ _ _ _ us hl=>match us,hl with | [_],_=>rfl
  have F53:=aF (st:=kK) l53 c53 Zq
  have b53:=F53.binds (ps:=["self"]) fun _ _ _ _ _ _ us hl=>match us,hl with | [_],_=>rfl
  have F54:=aF (st:=iL) l54 c54 Zr
  have b54:=F54.binds (ps:=["self"]) fun _ _ _ _ _ _ us hl=>match us,hl with | [_],_=>rfl
  have F55:=aF (st:=kL) l55 c55 Zs
  have b55:=F55.binds (ps:=["self"]) fun _ _ _ _ _ _ us hl=>match us,hl with | [_],_=>rfl
  have F57:=aF (st:=jq) l57 c57 Zz
  have b57:=F57.binds (ps:=["self"]) fun _ _ _ _ _ _ us hl=>match us,hl with | [_],_=>rfl
  have F58:=aF (st:=g7) l58 c58 ZA
  have b58:=F58.binds (ps:=["self"]) fun _ _ _ _ _ _ us hl=>match us,hl with | [_],_=>rfl
  have F59:=aF (st:=jr) l59 c59 ZC
  have b59:=F59.binds (ps:=["self"]) fun _ _ _ _ _ _ us hl=>match us,hl with | [_],_=>rfl
  have F61:=aF (st:=iM) l61 c61 ZJ
  have b61:=F61.binds (ps:=["self"]) fun _ _ _ _ _ _ us hl=>match us,hl with | [_],_=>rfl
  have F62:=aF (st:=fY) l62 c62 ZK
  have b62:=F62.binds (ps:=["self"]) fun _ _ _ _ _ _ us hl=>match us,hl with | [_],_=>rfl
  have F63:=aF (st:=iN) l63 c63 ZL
  have b63:=F63.binds (ps:=["self"]) fun _ _ _ _ _ _ us hl=>match us,hl with | [_],_=>rfl
  have F65:=aF (st:=iO) l65 c65 ZS
  have b65:=F65.binds (ps:=["self"]) fun _ _ _ _ _ _ us hl=>match us,hl with | [_],_=>rfl
  have F66:=aF (st:=fZ) l66 c66 ZU
  have b66:=F66.binds (ps:=["self"]) fun _ _ _ _ _ _ us hl=>match us,hl with | [_],_=>rfl
  have F67:=aF (st:=iP) l67 c67 ZV
  have b67:=F67.binds (ps:=["self"]) fun _ _ _ _ _ _ us hl=>match us,hl with | [_],_=>rfl
  have F69:=aF (st:=jt) l69 c69 ZW
  have b69:=F69.binds (ps:=["self"]) fun _ _ _ _ _ _ us hl=>match us,hl with | [_],_=>rfl
  have F71:=aF (st:=g8) l71 c71 Z3
  have b71:=F71.binds (ps:=["self"]) fun _ _ _ _ _ _ us hl=>match us,hl with | [_],_=>rfl
  have F72:=aF (st:=jm) l72 c72 Dq
  have PM:=F72.binds (ps:=["self","number"]) fun _ _ _ _ _ _ us hl=>match us,hl with | [_,_],_=>rfl
  have F73:=aF (st:=fX) l73 c73 LA
  have PN:=F73.binds (ps:=["self"]) fun _ _ _ _ _ _ us hl=>match us,hl with | [_],_=>rfl
  have F74:=aF (st:=g5) l74 c74 LB
  have PR:=F74.binds (ps:=["self","other"]) fun _ _ _ _ _ _ us hl=>match us,hl with | [_,_],_=>rfl
  have F75:=aF (st:=kM) l75 c75 Z4
  have b75:=F75.binds (ps:=["told"]) fun _ _ _ _ _ _ us hl=>match us,hl with | [_],_=>rfl
  have F76:=aF (st:=mP) l76 c76 W8
  have b76:=F76.binds (ps:=["told"]) fun _ _ _ _ _ _ us hl=>match us,hl with | [_],_=>rfl
  have F77:=aF (st:=iQ) l77 c77 W9
  have b77:=F77.binds (ps:=["text"]) fun _ _ _ _ _ _ us hl=>match us,hl with | [_],_=>rfl
  have F78:=aF (st:=ju) l78 c78 Z7
  have b78:=F78.binds (ps:=["_law_cell"]) fun _ _ _ _ _ _ us hl=>match us,hl with | [_],_=>rfl
  have F79:=aF (st:=jv) l79 c79 Z8
  have b79:=F79.binds (ps:=["_law_well_here","_law_many"]) fun _ _ _ _ _ _ us hl=>match us,hl with | [_,_],_=>rfl
  have F80:=aF (st:=iR) l80 c80 Z9
  have b80:=F80.binds (ps:=["_law_well_here"]) fun _ _ _ _ _ _ us hl=>match us,hl with | [_],_=>rfl
  have F81:=aF (st:=jw) l81 c81 k81
  have b81:=F81.binds (ps:=["_law_well_here"]) fun _ _ _ _ _ _ us hl=>match us,hl with | [_],_=>rfl
  have F82:=aF (st:=iS) l82 c82 k82
  have b82:=F82.binds (ps:=["_law_well_here","_law_count"]) fun _ _ _ _ _ _ us hl=>match us,hl with | [_,_],_=>rfl
  have F83:=aF (st:=aV) l83 c83 k83
  have b83:=F83.binds (ps:=["_law_where","_law_ends_here","_law_amount"]) fun _ _ _ _ _ _ us hl=>match us,hl with | [_,_,_],_=>rfl
  have F84:=aF (st:=dR) l84 c84 k84
  have b84:=F84.binds (ps:=["_law_paper_here","_law_second","_law_where","_law_ends_here"]) fun _ _ _ _ _ _ us hl=>match us,hl with | [_,_,_,_],_=>rfl
  have F85:=aF (st:=dS) l85 c85 k85
  have b85:=F85.binds (ps:=["_law_papers","_law_where","_law_ends_here","_law_looks"]) fun _ _ _ _ _ _ us hl=>match us,hl with | [_,_,_,_],_=>rfl
  have F86:=aF (st:=lZ) l86 c86 k86
  refine ⟨PySem.W.fnOf "law" "law" (ai lZ) (ah lZ) (aa lZ) .none WG WH WI Vt Sw WJ,fun s v=>.of_eq rfl,fun base _ _=>?_⟩
  have apl:lQ K bT:=⟨EO,ER,ES,ET⟩
  have jF:lQ K aM:=⟨IK,IL,IM,IP⟩
  have je:lQ K aD:=⟨EU,EV,EW,EX⟩
  have jG:lQ K aN:=⟨IQ,IS,IT,IU⟩
  have iB:lQ K aA:=⟨EY,EZ,E1,E2⟩
  have eK:lQ K aq:=⟨By,BA,BB,BC⟩
  have eL:lQ K au:=⟨BD,BE,BF,BG⟩
  have Ba:lQ K aJ:=⟨E3,E4,E5,E6⟩
  have m6:lQ K ak:=⟨yP,yQ,yR,yS⟩
  have cU:Callee l.prog w K mg base "is_number" 1 ["thing"] Gh:=⟨f1,_,Eb F1 B,b1,k1,PySem.W.mg_of X G a1⟩
  have kN:Callee l.prog w K mg base "is_half" 2 ["thing","words"] (Ie K):=⟨f2,_,Ih F2 B (cU:=cU),b2,k2,PySem.W.mg_of X G a2⟩
  have mw:bL l.prog w K mg base "is_action" 3 ["thing"] ["thing"] [0] (pN K):=⟨f3,_,wm F3 B (kN:=kN),fN (by decide) fun s ws hK hl=>match ws,hl with | [_],_=>.of_eq rfl,k3,PySem.W.mg_of X G a3⟩
  have eT:Callee l.prog w K mg base "is_action" 3 ["thing"] (pN K):=⟨f3,_,wm F3 B (kN:=kN),b3,k3,PySem.W.mg_of X G a3⟩
  have bS:Callee l.prog w K mg base "check_action" 4 ["thing"] (qg K):=⟨f4,_,zR F4 B (eT:=eT),b4,k4,PySem.W.mg_of X G a4⟩
  have nU:Callee l.prog w K mg base "half_acts" 1 ["half","value"] (vf K):=⟨f5,_,Ec F5 B,b5,k5,PySem.W.mg_of X G a5⟩
  have jE:Callee l.prog w K mg base "does" 2 ["action","value"] (D9 K):=⟨f6,_,OG F6 B (nU:=nU),b6,k6,PySem.W.mg_of X G a6⟩
  have An:bL l.prog w K mg base "acts" 5 ["action","value"] ["value","action"] [1,0] (AW K):=⟨f7,_,JL F7 B (bS:=bS) (jE:=jE),fN (by decide) fun s ws hK hl=>match ws,hl with | [_,_],_=>.of_eq rfl,k7,PySem.W.mg_of X G a7⟩
  have EN:Callee l.prog w K mg base "acts" 5 ["action","value"] (AW K):=⟨f7,_,JL F7 B (bS:=bS) (jE:=jE),b7,k7,PySem.W.mg_of X G a7⟩
  have i6:Callee l.prog w K mg base "half_behind" 1 ["half","other"] (yv K):=⟨f8,_,AY F8 B,b8,k8,PySem.W.mg_of X G a8⟩
  have gU:Callee l.prog w K mg base "joined" 2 ["one","other"] (jD K):=⟨f9,_,Li F9 B (i6:=i6),b9,k9,PySem.W.mg_of X G a9⟩
  have tU:bL l.prog w K mg base "behind" 5 ["one","other"] ["other","one"] [1,0] (jD K):=⟨UM,_,De F10 B (bS:=bS) (gU:=gU),fN (by decide) fun s ws hK hl=>match ws,hl with | [_,_],_=>.of_eq rfl,WK,PySem.W.mg_of X G Yv⟩
  have wM:Callee l.prog w K mg base "behind" 5 ["one","other"] (jD K):=⟨UM,_,De F10 B (bS:=bS) (gU:=gU),b10,WK,PySem.W.mg_of X G Yv⟩
  have oh:bL l.prog w K mg base "is_whole" 2 ["thing","low","high"] ["high","thing","low"] [1,2,0] nV:=⟨UN,_,zj F11 B (cU:=cU),fN (by decide) fun s ws hK hl=>match ws,hl with | [_,_,_],_=>.of_eq rfl,WL,PySem.W.mg_of X G Yw⟩
  have bf:Callee l.prog w K mg base "is_whole" 2 ["thing","low","high"] nV:=⟨UN,_,zj F11 B (cU:=cU),b11,WL,PySem.W.mg_of X G Yw⟩
  have bM:Callee l.prog w K mg base "is_whole_from" 2 ["thing","low"] Ef:=⟨XI,_,yz F12 B (cU:=cU),b12,Yx,PySem.W.mg_of X G a12⟩
  have tV:bL l.prog w K mg base "is_key" 3 ["thing"] ["thing"] [0] tL:=⟨UO,_,Df F13 B (bf:=bf),fN (by decide) fun s ws hK hl=>match ws,hl with | [_],_=>.of_eq rfl,WM,PySem.W.mg_of X G Yy⟩
  have cF:Callee l.prog w K mg base "is_key" 3 ["thing"] tL:=⟨UO,_,Df F13 B (bf:=bf),b13,WM,PySem.W.mg_of X G Yy⟩
  have lq:bL l.prog w K mg base "is_stretch" 3 ["low","high"] ["high","low"] [1,0] qj:=⟨UP,_,ue F14 B (bf:=bf),fN (by decide) fun s ws hK hl=>match ws,hl with | [_,_],_=>.of_eq rfl,WN,PySem.W.mg_of X G Yz⟩
  have aH:Callee l.prog w K mg base "is_stretch" 3 ["low","high"] qj:=⟨UP,_,ue F14 B (bf:=bf),b14,WN,PySem.W.mg_of X G Yz⟩
  have jx:Callee l.prog w K mg base "check_key" 4 ["thing"] vg:=⟨XJ,_,Eh F15 B (cF:=cF),b15,YA,PySem.W.mg_of X G a15⟩
  have fj:Callee l.prog w K mg base "check_stretch" 4 ["low","high"] vh:=⟨XM,_,yD F16 B (aH:=aH),b16,YB,PySem.W.mg_of X G a16⟩
  have qp:bL l.prog w K mg base "is_note" 4 ["thing"] ["thing"] [0] (rR K):=⟨UQ,_,AZ F17 B (bM:=bM) (aH:=aH) (eT:=eT),fN (by decide) fun s ws hK hl=>match ws,hl with | [_],_=>.of_eq rfl,WO,PySem.W.mg_of X G YC⟩
  have tO:Callee l.prog w K mg base "is_note" 4 ["thing"] (rR K):=⟨UQ,_,AZ F17 B (bM:=bM) (aH:=aH) (eT:=eT),b17,WO,PySem.W.mg_of X G YC⟩
  have bg:Callee l.prog w K mg base "check_note" 5 ["thing"] (lJ K):=⟨XN,_,Cc F18 B (tO:=tO),b18,YD,PySem.W.mg_of X G a18⟩
  have g9:Callee l.prog w K mg base "has_key" 1 ["note","key"] (wo K):=⟨XO,_,Ij F19 B,b19,YE,PySem.W.mg_of X G a19⟩
  have dg:Callee l.prog w K mg base "have_common" 1 ["note","other"] (wu K):=⟨XQ,_,A3 F20 B,b20,YF,PySem.W.mg_of X G a20⟩
  have nW:Callee l.prog w K mg base "cut" 1 ["note","low","high"] (Dg K):=⟨XR,_,RB F21 B,b21,YG,PySem.W.mg_of X G a21⟩
  have qt:bL l.prog w K mg base "touches" 6 ["note","key"] ["key","note"] [1,0] (wz K):=⟨UR,_,A4 F22 B (bg:=bg) (jx:=jx) (g9:=g9),fN (by decide) fun s ws hK hl=>match ws,hl with | [_,_],_=>.of_eq rfl,WQ,PySem.W.mg_of X G YH⟩
  have tP:Callee l.prog w K mg base "touches" 6 ["note","key"] (wz K):=⟨UR,_,A4 F22 B (bg:=bg) (jx:=jx) (g9:=g9),b22,WQ,PySem.W.mg_of X G YH⟩
  have tQ:bL l.prog w K mg base "shares" 6 ["note","other"] ["other","note"] [1,0] (wA K):=⟨US,_,Dh F23 B (bg:=bg) (dg:=dg),fN (by decide) fun s ws hK hl=>match ws,hl with | [_,_],_=>.of_eq rfl,WR,PySem.W.mg_of X G YI⟩
  have wH:Callee l.prog w K mg base "shares" 6 ["note","other"] (wA K):=⟨US,_,Dh F23 B (bg:=bg) (dg:=dg),b23,WR,PySem.W.mg_of X G YI⟩
  have Af:bL l.prog w K mg base "part" 6 ["note","low","high"] ["high","note","low"] [1,2,0] (yE K):=⟨UT,_,JM F24 B (bg:=bg) (fj:=fj) (nW:=nW),fN (by decide) fun s ws hK hl=>match ws,hl with | [_,_,_],_=>.of_eq rfl,WS,PySem.W.mg_of X G YJ⟩
  have EG:Callee l.prog w K mg base "part" 6 ["note","low","high"] (yE K):=⟨UT,_,JM F24 B (bg:=bg) (fj:=fj) (nW:=nW),b24,WS,PySem.W.mg_of X G YJ⟩
  have nX:Callee l.prog w K mg base "up_to" 1 ["tray","at"] (Im K):=⟨XS,_,MK F25 B,b25,YK,PySem.W.mg_of X G a25⟩
  have iA:Callee l.prog w K mg base "touching" 2 ["tray","key"] (vm K):=⟨XU,_,Gk F26 B (g9:=g9),b26,YL,PySem.W.mg_of X G a26⟩
  have Ai:bL l.prog w K mg base "seen" 3 ["tray","key","value","at"] ["at","value","key","tray"] [3,2,1,0] (yF K):=⟨Tu,_,Ej F27 B (iA:=iA) (nX:=nX) (jE:=jE),fN (by decide) fun s ws hK hl=>match ws,hl with | [_,_,_,_],_=>.of_eq rfl,Tv,PySem.W.mg_of X G WT⟩
  have Aj:DS l.prog w K mg base "seen" 3 ["tray","key","value","at"] ["at"] 3 1 (yF K):=⟨Tu,_,Ej F27 B (iA:=iA) (nX:=nX) (jE:=jE),ao9,Tv,PySem.W.mg_of X G WT⟩
  have aah:Oj l.prog w K mg base "seen" 3 ["tray","key","value","at"] [.eO] (yF K):=⟨Tu,_,_,Ej F27 B (iA:=iA) (nX:=nX) (jE:=jE),apa,.cons rfl .nil,Tv,PySem.W.mg_of X G WT⟩
  have gb:Callee l.prog w K mg base "last_sharing" 2 ["tray","note"] (Io K):=⟨XW,_,zS F28 B (dg:=dg),b28,YM,PySem.W.mg_of X G a28⟩
  have kO:Callee l.prog w K mg base "may_join" 1 ["elder","note","marks"] (MM K):=⟨XX,_,Gn F29 B,b29,YN,PySem.W.mg_of X G a29⟩
  have Ah:bL l.prog w K mg base "laid" 3 ["tray","note","marks"] ["marks","note","tray"] [2,1,0] (yG K):=⟨UU,_,JP F30 B (gb:=gb) (gU:=gU) (kO:=kO),fN (by decide) fun s ws hK hl=>match ws,hl with | [_,_,_],_=>.of_eq rfl,WU,PySem.W.mg_of X G YO⟩
  have EI:Callee l.prog w K mg base "laid" 3 ["tray","note","marks"] (yG K):=⟨UU,_,JP F30 B (gb:=gb) (gU:=gU) (kO:=kO),b30,WU,PySem.W.mg_of X G YO⟩
  have pQ:Callee l.prog w K mg base "within" 2 ["tray","low","high"] (pO K RG):=⟨XY,_,Lp F31 B (nW:=nW),b31,YQ,PySem.W.mg_of X G a31⟩
  have mQ:Callee l.prog w K mg base "without" 2 ["tray","low","high"] (pO K outF):=⟨XZ,_,Iq F32 B (nW:=nW),b32,YR,PySem.W.mg_of X G a32⟩
  have tR:bL l.prog w K mg base "poured" 3 ["tray","low","high"] ["high","tray","low"] [1,2,0] (pP K):=⟨UW,_,Dl F33 B (pQ:=pQ) (mQ:=mQ),fN (by decide) fun s ws hK hl=>match ws,hl with | [_,_,_],_=>.of_eq rfl,WV,PySem.W.mg_of X G YS⟩
  have wI:Callee l.prog w K mg base "poured" 3 ["tray","low","high"] (pP K):=⟨UW,_,Dl F33 B (pQ:=pQ) (mQ:=mQ),b33,WV,PySem.W.mg_of X G YS⟩
  have mT:Callee l.prog w K mg base "is_plan" 1 ["thing"] EF:=⟨X0,_,IE F34 B,b34,YT,PySem.W.mg_of X G a34⟩
  have qw:bL l.prog w K mg base "is_rule" 3 ["thing"] ["thing"] [0] (Ae K):=⟨UX,_,Bt F35 B (bf:=bf) (mT:=mT),fN (by decide) fun s ws hK hl=>match ws,hl with | [_],_=>.of_eq rfl,WW,PySem.W.mg_of X G YU⟩
  have TF:Callee l.prog w K mg base "is_rule" 3 ["thing"] (Ae K):=⟨UX,_,Bt F35 B (bf:=bf) (mT:=mT),b35,WW,PySem.W.mg_of X G YU⟩
  have mj:Callee l.prog w K mg base "figures_of" 1 ["number"] MV:=⟨X3,_,Ct F36 B,b36,YV,PySem.W.mg_of X G a36⟩
  have kZ:Callee l.prog w K mg base "are_figures" 1 ["text"] M0:=⟨X4,_,Bs F37 B,b37,YW,PySem.W.mg_of X G a37⟩
  have gg:Callee l.prog w K mg base "read_figures" 2 ["text"] RH:=⟨X5,_,z5 F38 B (kZ:=kZ),b38,YX,PySem.W.mg_of X G a38⟩
  have aT:Callee l.prog w K mg base "is_amount" 3 ["thing"] Dn:=⟨X6,_,En F39 B (bf:=bf),b39,YY,PySem.W.mg_of X G a39⟩
  have aj:Callee l.prog w K mg base "check_things" 1 ["fit","more"] uf:=⟨X7,_,zU F40 B,b40,YZ,PySem.W.mg_of X G a40⟩
  have mR:Callee l.prog w K mg base "word_of" 2 ["thing"] Bk:=⟨X8,_,Iz F41 B (mj:=mj),b41,Y0,PySem.W.mg_of X G a41⟩
  have Nl:cQ l.prog w K mg base bT "action" 1 ["self"] [] JY:=⟨OV,_,[],⟨i42,WX,Tw⟩,m7 F42 B,b42,.nil⟩
  have PU:cQ l.prog w K mg base bT "span" 1 ["self"] [] JY:=⟨OW,_,[],⟨i43,WY,Tz⟩,qo F43 B,b43,.nil⟩
  have cF:=cF.weak aa3
  have aH:=aH.weak aa4
  have uh:Maker l.prog w K mg base "Put" 4 ["self","key","value","more"] [.str "no more"] aM (bu .put aM):=⟨UY,_,[.str "no more" Sy],⟨Y5,Y6,Y7,Y8⟩,qT (gM (st:=bQ) Y3 Y4) B ⟨O5,O6,O7,O8⟩ Ao tW (aj:=aj) (cF:=cF) (aT:=aT),fun s us hK hl=>match us,(show us.length=3 by simpa using hl) with | [_,_,_],_=>PySem.W.kp_binds hK fun S=>SO S _ _ _,.cons ⟨Sy,rfl⟩ .nil,PySem.W.mg_of X G Ke⟩
  have EL:jd l.prog w K mg base "Put" 4 ["self","key","value","more"] ["value","key"] [1,0] [.str "no more"] aM (bu .put aM):=⟨UY,_,[.str "no more" Sy],⟨Y5,Y6,Y7,Y8⟩,qT (gM (st:=bQ) Y3 Y4) B ⟨O5,O6,O7,O8⟩ Ao tW (aj:=aj) (cF:=cF) (aT:=aT),⟨fun s v ws hK hl=>match ws,hl with | [_,_],_=>PySem.W.kp_binds hK fun S=>SQ S _ _ _⟩,.cons ⟨Sy,rfl⟩ .nil,PySem.W.mg_of X G Ke⟩
  have GN:cQ l.prog w K mg base aM "told" 1 ["self"] [] (gf K .put aM):=⟨UZ,_,[],⟨i45,OD,Y9⟩,Gr F45 B  (jF:=jF) (eU:=nc) (eH:=jJ),b45,.nil⟩
  have CC:cQ l.prog w K mg base aM "action" 1 ["self"] [] (n8 K .put aM):=⟨U0,_,[],⟨i46,n46,Za⟩,Cj F46 B  (jF:=jF) (eU:=nc) (eH:=jJ),b46,.nil⟩
  have GO:cQ l.prog w K mg base aM "span" 1 ["self"] [] (jH K .put aM):=⟨U1,_,[],⟨i47,n47,Zb⟩,Gw F47 B  (jF:=jF) (eU:=nc) (eH:=jJ),b47,.nil⟩
  have oH:Maker l.prog w K mg base "Drop" 4 ["self","key","more"] [.str "no more"] aD (bu .drop aD):=⟨U3,_,[.str "no more" Sz],⟨Ze,Zf,Zg,Zh⟩,pR (gM (st:=bH) Zc Zd) B ⟨O9,Pa,Pb,Pc⟩ Aq (aj:=aj) (cF:=cF),fun s us hK hl=>match us,(show us.length=2 by simpa using hl) with | [_,_],_=>PySem.W.kp_binds hK fun S=>SR S _ _,.cons ⟨Sz,rfl⟩ .nil,PySem.W.mg_of X G Ff⟩
  have Al:jd l.prog w K mg base "Drop" 4 ["self","key","more"] ["key"] [0] [.str "no more"] aD (bu .drop aD):=⟨U3,_,[.str "no more" Sz],⟨Ze,Zf,Zg,Zh⟩,pR (gM (st:=bH) Zc Zd) B ⟨O9,Pa,Pb,Pc⟩ Aq (aj:=aj) (cF:=cF),⟨fun s v ws hK hl=>match ws,hl with | [_],_=>PySem.W.kp_binds hK fun S=>SS S _ _⟩,.cons ⟨Sz,rfl⟩ .nil,PySem.W.mg_of X G Ff⟩
  have Fp:cQ l.prog w K mg base aD "told" 1 ["self"] [] (gf K .drop aD):=⟨U4,_,[],⟨i49,n49,RK⟩,Er F49 B  (je:=je) (eU:=lN),b49,.nil⟩
  have BZ:cQ l.prog w K mg base aD "action" 1 ["self"] [] (n8 K .drop aD):=⟨U5,_,[],⟨i50,n50,Zi⟩,Be F50 B  (je:=je) (eU:=lN),b50,.nil⟩
  have Fq:cQ l.prog w K mg base aD "span" 1 ["self"] [] (jH K .drop aD):=⟨U6,_,[],⟨i51,n51,Zj⟩,Ey F51 B  (je:=je) (eU:=lN),b51,.nil⟩
  have um:Maker l.prog w K mg base "Add" 4 ["self","key","by","more"] [.str "no more"] aN (bu .add aN):=⟨U7,_,[.str "no more" SD],⟨Zm,Zn,Zo,Zp⟩,qU (gM (st:=bR) Zk Zl) B ⟨Pd,Pe,Pf,Pg⟩ Ar E7 (aj:=aj) (cF:=cF) (aT:=aT),fun s us hK hl=>match us,(show us.length=3 by simpa using hl) with | [_,_,_],_=>PySem.W.kp_binds hK fun S=>SV S _ _ _,.cons ⟨SD,rfl⟩ .nil,PySem.W.mg_of X G Kf⟩
  have EM:jd l.prog w K mg base "Add" 4 ["self","key","by","more"] ["by","key"] [1,0] [.str "no more"] aN (bu .add aN):=⟨U7,_,[.str "no more" SD],⟨Zm,Zn,Zo,Zp⟩,qU (gM (st:=bR) Zk Zl) B ⟨Pd,Pe,Pf,Pg⟩ Ar E7 (aj:=aj) (cF:=cF) (aT:=aT),⟨fun s v ws hK hl=>match ws,hl with | [_,_],_=>PySem.W.kp_binds hK fun S=>SW S _ _ _⟩,.cons ⟨SD,rfl⟩ .nil,PySem.W.mg_of X G Kf⟩
  have GP:cQ l.prog w K mg base aN "told" 1 ["self"] [] (gf K .add aN):=⟨U8,_,[],⟨i53,n53,Zq⟩,Gu F53 B  (jG:=jG) (eU:=nh) (pS:=pV),b53,.nil⟩
  have CD:cQ l.prog w K mg base aN "action" 1 ["self"] [] (n8 K .add aN):=⟨U9,_,[],⟨i54,n54,Zr⟩,Cm F54 B  (jG:=jG) (eU:=nh) (pS:=pV),b54,.nil⟩
  have GQ:cQ l.prog w K mg base aN "span" 1 ["self"] [] (jH K .add aN):=⟨Va,_,[],⟨i55,n55,Zs⟩,Gy F55 B  (jG:=jG) (eU:=nh) (pS:=pV),b55,.nil⟩
  have oJ:Maker l.prog w K mg base "Wipe" 4 ["self","low","high","more"] [.str "no more"] aA (bu .wipe aA):=⟨Vb,_,[.str "no more" SE],⟨Zv,Zw,Zx,Zy⟩,pT (gM (st:=bI) Zt Zu) B ⟨Ph,Pj,Pk,Pn⟩ As wO (aj:=aj) (aH:=aH),fun s us hK hl=>match us,(show us.length=3 by simpa using hl) with | [_,_,_],_=>PySem.W.kp_binds hK fun S=>SX S _ _ _,.cons ⟨SE,rfl⟩ .nil,PySem.W.mg_of X G Fg⟩
  have Am:jd l.prog w K mg base "Wipe" 4 ["self","low","high","more"] ["high","low"] [1,0] [.str "no more"] aA (bu .wipe aA):=⟨Vb,_,[.str "no more" SE],⟨Zv,Zw,Zx,Zy⟩,pT (gM (st:=bI) Zt Zu) B ⟨Ph,Pj,Pk,Pn⟩ As wO (aj:=aj) (aH:=aH),⟨fun s v ws hK hl=>match ws,hl with | [_,_],_=>PySem.W.kp_binds hK fun S=>SY S _ _ _⟩,.cons ⟨SE,rfl⟩ .nil,PySem.W.mg_of X G Fg⟩
  have Ft:cQ l.prog w K mg base aA "told" 1 ["self"] [] (gf K .wipe aA):=⟨Vc,_,[],⟨i57,n57,Zz⟩,Et F57 B  (iB:=iB) (fu:=lO) (dh:=jK),b57,.nil⟩
  have B0:cQ l.prog w K mg base aA "action" 1 ["self"] [] (n8 K .wipe aA):=⟨Vd,_,[],⟨i58,n58,ZA⟩,Bg F58 B  (iB:=iB) (fu:=lO) (dh:=jK),b58,.nil⟩
  have Fv:cQ l.prog w K mg base aA "span" 1 ["self"] [] (jH K .wipe aA):=⟨Ve,_,[],⟨i59,n59,ZC⟩,EA F59 B  (iB:=iB) (fu:=lO) (dh:=jK),b59,.nil⟩
  have kX:Maker l.prog w K mg base "Raise" 4 ["self","low","high","by","more"] [.str "no more"] aq (bu .raise aq):=⟨Vf,_,[.str "no more" SG],⟨ZF,ZG,ZH,ZI⟩,nY (gM (st:=bh) ZD ZE) B ⟨Po,Pp,Pq,Pu⟩ Au wQ E8 (aj:=aj) (aH:=aH) (aT:=aT),fun s us hK hl=>match us,(show us.length=4 by simpa using hl) with | [_,_,_,_],_=>PySem.W.kp_binds hK fun S=>S1 S _ _ _ _,.cons ⟨SG,rfl⟩ .nil,PySem.W.mg_of X G Aw⟩
  have wK:jd l.prog w K mg base "Raise" 4 ["self","low","high","by","more"] ["by","high","low"] [2,1,0] [.str "no more"] aq (bu .raise aq):=⟨Vf,_,[.str "no more" SG],⟨ZF,ZG,ZH,ZI⟩,nY (gM (st:=bh) ZD ZE) B ⟨Po,Pp,Pq,Pu⟩ Au wQ E8 (aj:=aj) (aH:=aH) (aT:=aT),⟨fun s v ws hK hl=>match ws,hl with | [_,_,_],_=>PySem.W.kp_binds hK fun S=>S2 S _ _ _ _⟩,.cons ⟨SG,rfl⟩ .nil,PySem.W.mg_of X G Aw⟩
  have CG:cQ l.prog w K mg base aq "told" 1 ["self"] [] (gf K .raise aq):=⟨Vg,_,[],⟨i61,n61,ZJ⟩,Ce F61 B  (eK:=eK) (fu:=jL) (dh:=i8) (pS:=lP),b61,.nil⟩
  have z7:cQ l.prog w K mg base aq "action" 1 ["self"] [] (n8 K .raise aq):=⟨Vh,_,[],⟨i62,n62,ZK⟩,zY F62 B  (eK:=eK) (fu:=jL) (dh:=i8) (pS:=lP),b62,.nil⟩
  have CH:cQ l.prog w K mg base aq "span" 1 ["self"] [] (jH K .raise aq):=⟨Vi,_,[],⟨i63,n63,ZL⟩,Co F63 B  (eK:=eK) (fu:=jL) (dh:=i8) (pS:=lP),b63,.nil⟩
  have kY:Maker l.prog w K mg base "Level" 4 ["self","low","high","value","more"] [.str "no more"] au (bu .level au):=⟨Vj,_,[.str "no more" SH],⟨ZO,ZP,ZQ,ZR⟩,nZ (gM (st:=bq) ZM ZN) B ⟨Pw,Px,Py,Pz⟩ Av wR tX (aj:=aj) (aH:=aH) (aT:=aT),fun s us hK hl=>match us,(show us.length=4 by simpa using hl) with | [_,_,_,_],_=>PySem.W.kp_binds hK fun S=>S3 S _ _ _ _,.cons ⟨SH,rfl⟩ .nil,PySem.W.mg_of X G Ax⟩
  have wL:jd l.prog w K mg base "Level" 4 ["self","low","high","value","more"] ["value","low","high"] [1,2,0] [.str "no more"] au (bu .level au):=⟨Vj,_,[.str "no more" SH],⟨ZO,ZP,ZQ,ZR⟩,nZ (gM (st:=bq) ZM ZN) B ⟨Pw,Px,Py,Pz⟩ Av wR tX (aj:=aj) (aH:=aH) (aT:=aT),⟨fun s v ws hK hl=>match ws,hl with | [_,_,_],_=>PySem.W.kp_binds hK fun S=>S4 S _ _ _ _⟩,.cons ⟨SH,rfl⟩ .nil,PySem.W.mg_of X G Ax⟩
  have CI:cQ l.prog w K mg base au "told" 1 ["self"] [] (gf K .level au):=⟨Vk,_,[],⟨i65,n65,ZS⟩,Cg F65 B  (eL:=eL) (fu:=jM) (dh:=i9) (eH:=iC),b65,.nil⟩
  have z8:cQ l.prog w K mg base au "action" 1 ["self"] [] (n8 K .level au):=⟨Vl,_,[],⟨i66,n66,ZU⟩,z0 F66 B  (eL:=eL) (fu:=jM) (dh:=i9) (eH:=iC),b66,.nil⟩
  have CJ:cQ l.prog w K mg base au "span" 1 ["self"] [] (jH K .level au):=⟨Vm,_,[],⟨i67,n67,ZV⟩,Cq F67 B  (eL:=eL) (fu:=jM) (dh:=i9) (eH:=iC),b67,.nil⟩
  have yO:Maker l.prog w K mg base "Mark" 2 ["self","more"] [.str "no more"] aJ (bu .mark aJ):=⟨Yb,_,[.str "no more" Yt],⟨k68,i68,n68,p68⟩,yK (gM (st:=cX) l68 c68) B ⟨S6,S7,S8,S9⟩  (aj:=aj),fun s us hK hl=>match us,(show us.length=1 by simpa using hl) with | [_],_=>PySem.W.kp_binds hK fun S=>S5 S _,.cons ⟨Yt,rfl⟩ .nil,PySem.W.mg_of X G IY⟩
  have Fw:cQ l.prog w K mg base aJ "told" 1 ["self"] [] (gf K .mark aJ):=⟨Vn,_,[],⟨i69,n69,ZW⟩,Ew F69 B  (Ba:=Ba),b69,.nil⟩
  have i7:Maker l.prog w K mg base "Forget" 3 ["self","mark","more"] [.str "no more"] ak (bu .forget ak):=⟨Vo,_,[.str "no more" SI],⟨ZZ,Z0,Z1,Z2⟩,m5 (gM (st:=aZ) ZX ZY) B ⟨PB,PC,PD,PJ⟩ wU (aj:=aj) (bM:=bM),fun s us hK hl=>match us,(show us.length=2 by simpa using hl) with | [_,_],_=>PySem.W.kp_binds hK fun S=>Tc S _ _,.cons ⟨SI,rfl⟩ .nil,PySem.W.mg_of X G wV⟩
  have tS:jd l.prog w K mg base "Forget" 3 ["self","mark","more"] ["mark"] [0] [.str "no more"] ak (bu .forget ak):=⟨Vo,_,[.str "no more" SI],⟨ZZ,Z0,Z1,Z2⟩,m5 (gM (st:=aZ) ZX ZY) B ⟨PB,PC,PD,PJ⟩ wU (aj:=aj) (bM:=bM),⟨fun s v ws hK hl=>match ws,hl with | [_],_=>PySem.W.kp_binds hK fun S=>Td S _ _⟩,.cons ⟨SI,rfl⟩ .nil,PySem.W.mg_of X G wV⟩
  have B3:cQ l.prog w K mg base ak "told" 1 ["self"] [] (gf K .forget ak):=⟨Vp,_,[],⟨i71,n71,Z3⟩,Bc F71 B  (m6:=m6) (Eo:=ni),b71,.nil⟩
  have dc:∀ k:Kd,DC K (Cs.at (Cs.mk aM aD aN aA aq au aJ ak) k) bT:=fun k=>match k with | .put=>⟨jF,Fi,CA,CB,jN,Fj⟩ | .drop=>⟨je,BO,CA,CB,iD,BP⟩ | .add=>⟨jG,Fl,CA,CB,jO,Fo⟩ | .wipe=>⟨iB,BV,CA,CB,iE,BW⟩ | .raise=>⟨eK,yX,CA,CB,gi,yY⟩ | .level=>⟨eL,yZ,CA,CB,gj,y9⟩ | .mark=>⟨Ba,BX,CA,CB,iF,BY⟩ | .forget=>⟨m6,vG,CA,CB,eW,vH⟩
  have MT:∀ k:Kd,cQ l.prog w K mg base (Cs.at (Cs.mk aM aD aN aA aq au aJ ak) k) "told" 1 ["self"] [] (gf K k (Cs.at (Cs.mk aM aD aN aA aq au aJ ak) k)):=fun k=>match k with | .put=>GN | .drop=>Fp | .add=>GP | .wipe=>Ft | .raise=>CG | .level=>CI | .mark=>Fw | .forget=>B3
  have MA:∀ k:Kd,cQ l.prog w K mg base (Cs.at (Cs.mk aM aD aN aA aq au aJ ak) k) "action" 1 ["self"] [] (n8 K k (Cs.at (Cs.mk aM aD aN aA aq au aJ ak) k)):=fun k=>match k with | .put=>CC | .drop=>BZ | .add=>CD | .wipe=>B0 | .raise=>z7 | .level=>z8 | .mark=>⟨OV,_,[],⟨nA,WX,Tw⟩,(m7 F42 B).imp (fun vs H Q E ⟨a,us,e,_,_,h⟩=>⟨a,e,h _ _ Ext.refl (by cases us <;> (simp only [Kd.act];unfold Is;rfl))⟩),b42,.nil⟩ | .forget=>⟨OV,_,[],⟨kT,WX,Tw⟩,(m7 F42 B).imp (fun vs H Q E ⟨a,us,e,_,_,h⟩=>⟨a,e,h _ _ Ext.refl (by cases us <;> (simp only [Kd.act];unfold Is;rfl))⟩),b42,.nil⟩
  have MS:∀ k:Kd,cQ l.prog w K mg base (Cs.at (Cs.mk aM aD aN aA aq au aJ ak) k) "span" 1 ["self"] [] (jH K k (Cs.at (Cs.mk aM aD aN aA aq au aJ ak) k)):=fun k=>match k with | .put=>GO | .drop=>Fq | .add=>GQ | .wipe=>Fv | .raise=>CH | .level=>CJ | .mark=>⟨OW,_,[],⟨qP,WY,Tz⟩,(qo F43 B).imp (fun vs H Q E ⟨a,us,e,_,_,h⟩=>⟨a,e,by cases us <;> exact h⟩),b43,.nil⟩ | .forget=>⟨OW,_,[],⟨nI,WY,Tz⟩,(qo F43 B).imp (fun vs H Q E ⟨a,us,e,_,_,h⟩=>⟨a,e,by cases us <;> exact h⟩),b43,.nil⟩
  have PV:cQ l.prog w K mg base bT "note" 2 ["self","number"] [] (yN K (Cs.mk aM aD aN aA aq au aJ ak)):=⟨wN,_,[],⟨i72,E9,Dq⟩,wD F72 B    (MS:=MS) (MA:=MA) (dc:=dc),PM,.nil⟩
  have LC:cQ l.prog w K mg base bT "__str__" 3 ["self"] [] (J0 K (Cs.mk aM aD aN aA aq au aJ ak)):=⟨Cy,_,[],⟨i73,M5,LA⟩,qV F73 B (mR:=mR)   (MT:=MT) (dc:=dc),PN,.nil⟩
  have Nm:cQ l.prog w K mg base bT "__eq__" 2 ["self","other"] [] (MW K (Cs.mk aM aD aN aA aq au aJ ak) bT):=⟨Cz,_,[],⟨i74,M6,LB⟩,rT F74 B    (MT:=MT) (dc:=dc) (Dd:=PySem.W.mg_of X G Fe),PR,.nil⟩
  have oN:=wD F72 B (MS:=MS) (MA:=MA) (dc:=dc)
  have oR:=qV F73 B (MT:=MT) (dc:=dc) (mR:=mR)
  have oE:=rT F74 B (MT:=MT) (dc:=dc) (Dd:=PySem.W.mg_of X G Fe)
  have MN:∀ k:Kd,cQ l.prog w K mg base (Cs.at (Cs.mk aM aD aN aA aq au aJ ak) k) "note" 2 ["self","number"] [] (yN K (Cs.mk aM aD aN aA aq au aJ ak)):=fun k=>match k with | .put=>⟨wN,_,[],⟨om,E9,Dq⟩,oN,PM,.nil⟩ | .drop=>⟨wN,_,[],⟨mz,E9,Dq⟩,oN,PM,.nil⟩ | .add=>⟨wN,_,[],⟨oq,E9,Dq⟩,oN,PM,.nil⟩ | .wipe=>⟨wN,_,[],⟨mC,E9,Dq⟩,oN,PM,.nil⟩ | .raise=>⟨wN,_,[],⟨lz,E9,Dq⟩,oN,PM,.nil⟩ | .level=>⟨wN,_,[],⟨lA,E9,Dq⟩,oN,PM,.nil⟩ | .mark=>⟨wN,_,[],⟨mD,E9,Dq⟩,oN,PM,.nil⟩ | .forget=>⟨wN,_,[],⟨jP,E9,Dq⟩,oN,PM,.nil⟩
  have MR:∀ k:Kd,cQ l.prog w K mg base (Cs.at (Cs.mk aM aD aN aA aq au aJ ak) k) "__str__" 3 ["self"] [] (J0 K (Cs.mk aM aD aN aA aq au aJ ak)):=fun k=>match k with | .put=>⟨Cy,_,[],⟨vA,M5,LA⟩,oR,PN,.nil⟩ | .drop=>⟨Cy,_,[],⟨sy,M5,LA⟩,oR,PN,.nil⟩ | .add=>⟨Cy,_,[],⟨vD,M5,LA⟩,oR,PN,.nil⟩ | .wipe=>⟨Cy,_,[],⟨sH,M5,LA⟩,oR,PN,.nil⟩ | .raise=>⟨Cy,_,[],⟨qJ,M5,LA⟩,oR,PN,.nil⟩ | .level=>⟨Cy,_,[],⟨qM,M5,LA⟩,oR,PN,.nil⟩ | .mark=>⟨Cy,_,[],⟨sV,M5,LA⟩,oR,PN,.nil⟩ | .forget=>⟨Cy,_,[],⟨pB,M5,LA⟩,oR,PN,.nil⟩
  have ME:∀ k:Kd,cQ l.prog w K mg base (Cs.at (Cs.mk aM aD aN aA aq au aJ ak) k) "__eq__" 2 ["self","other"] [] (MW K (Cs.mk aM aD aN aA aq au aJ ak) bT):=fun k=>match k with | .put=>⟨Cz,_,[],⟨yV,M6,LB⟩,oE,PR,.nil⟩ | .drop=>⟨Cz,_,[],⟨vB,M6,LB⟩,oE,PR,.nil⟩ | .add=>⟨Cz,_,[],⟨yW,M6,LB⟩,oE,PR,.nil⟩ | .wipe=>⟨Cz,_,[],⟨vE,M6,LB⟩,oE,PR,.nil⟩ | .raise=>⟨Cz,_,[],⟨sM,M6,LB⟩,oE,PR,.nil⟩ | .level=>⟨Cz,_,[],⟨sQ,M6,LB⟩,oE,PR,.nil⟩ | .mark=>⟨Cz,_,[],⟨vF,M6,LB⟩,oE,PR,.nil⟩ | .forget=>⟨Cz,_,[],⟨qQ,M6,LB⟩,oE,PR,.nil⟩
  have XE:∀ k:Kd,MD l.prog w K mg base (Cs.at (Cs.mk aM aD aN aA aq au aJ ak) k) "note" 2 ["self","number"] ["number"] [0] [] (yN K (Cs.mk aM aD aN aA aq au aJ ak)):=fun k=>match k with | .put=>⟨wN,_,[],⟨om,E9,Dq⟩,oN,⟨fun s v ws hK hl=>match ws,hl with | [_],_=>.of_eq rfl⟩,.nil⟩ | .drop=>⟨wN,_,[],⟨mz,E9,Dq⟩,oN,⟨fun s v ws hK hl=>match ws,hl with | [_],_=>.of_eq rfl⟩,.nil⟩ | .add=>⟨wN,_,[],⟨oq,E9,Dq⟩,oN,⟨fun s v ws hK hl=>match ws,hl with | [_],_=>.of_eq rfl⟩,.nil⟩ | .wipe=>⟨wN,_,[],⟨mC,E9,Dq⟩,oN,⟨fun s v ws hK hl=>match ws,hl with | [_],_=>.of_eq rfl⟩,.nil⟩ | .raise=>⟨wN,_,[],⟨lz,E9,Dq⟩,oN,⟨fun s v ws hK hl=>match ws,hl with | [_],_=>.of_eq rfl⟩,.nil⟩ | .level=>⟨wN,_,[],⟨lA,E9,Dq⟩,oN,⟨fun s v ws hK hl=>match ws,hl with | [_],_=>.of_eq rfl⟩,.nil⟩ | .mark=>⟨wN,_,[],⟨mD,E9,Dq⟩,oN,⟨fun s v ws hK hl=>match ws,hl with | [_],_=>.of_eq rfl⟩,.nil⟩ | .forget=>⟨wN,_,[],⟨jP,E9,Dq⟩,oN,⟨fun s v ws hK hl=>match ws,hl with | [_],_=>.of_eq rfl⟩,.nil⟩
  have kQ:Callee l.prog w K mg base "has_form" 1 ["told"] (Iv K):=⟨Yc,_,GA F75 B,b75,Z4,PySem.W.mg_of X G a75⟩
  have qu:bL l.prog w K mg base "deed_of" 6 ["told"] ["told"] [0] (Bl K (Cs.mk aM aD aN aA aq au aJ ak)):=⟨Vq,_,Bq F76 B (kQ:=kQ) (i7:=i7) (uh:=uh) (oH:=oH) (um:=um) (oJ:=oJ) (kX:=kX) (kY:=kY) (yO:=yO),fN (by decide) fun s ws hK hl=>match ws,hl with | [_],_=>.of_eq rfl,W8,PySem.W.mg_of X G Z5⟩
  have mS:Callee l.prog w K mg base "deed_of" 6 ["told"] (Bl K (Cs.mk aM aD aN aA aq au aJ ak)):=⟨Vq,_,Bq F76 B (kQ:=kQ) (i7:=i7) (uh:=uh) (oH:=oH) (um:=um) (oJ:=oJ) (kX:=kX) (kY:=kY) (yO:=yO),b76,W8,PySem.W.mg_of X G Z5⟩
  have lg:bL l.prog w K mg base "read_words" 7 ["text"] ["text"] [0] (OS K (Cs.mk aM aD aN aA aq au aJ ak)):=⟨Vr,_,uo F77 B (mS:=mS) (gg:=gg),fN (by decide) fun s ws hK hl=>match ws,hl with | [_],_=>.of_eq rfl,W9,PySem.W.mg_of X G Z6⟩
  have PX:Callee l.prog w K mg base "read_words" 7 ["text"] (OS K (Cs.mk aM aD aN aA aq au aJ ak)):=⟨Vr,_,uo F77 B (mS:=mS) (gg:=gg),b77,W9,PySem.W.mg_of X G Z6⟩
  have oj:Callee l.prog w K mg base "_law_well" 1 ["_law_cell"] (Ic K):=⟨Yd,_,D7 F78 B,b78,Z7,PySem.W.mg_of X G a78⟩
  have bK:Callee l.prog w K mg base "_law_draw" 1 ["_law_well_here","_law_many"] (AV K):=⟨Ye,_,D8 F79 B,b79,Z8,PySem.W.mg_of X G a79⟩
  have eN:Callee l.prog w K mg base "_law_doing" 2 ["_law_well_here"] (Ad K):=⟨Yg,_,Cv F80 B (bK:=bK),b80,Z9,PySem.W.mg_of X G a80⟩
  have gJ:Callee l.prog w K mg base "_law_ends" 2 ["_law_well_here"] (EC K):=⟨Yh,_,EE F81 B (bK:=bK),b81,k81,PySem.W.mg_of X G a81⟩
  have jI:Callee l.prog w K mg base "_law_paper" 3 ["_law_well_here","_law_count"] (ED K):=⟨Yi,_,Cw F82 B (gJ:=gJ) (eN:=eN),b82,k82,PySem.W.mg_of X G a82⟩
  have ec:∀ k j:Kd,JC K (Cs.at (Cs.mk aM aD aN aA aq au aJ ak) k) (Cs.at (Cs.mk aM aD aN aA aq au aJ ak) j):=fun k j=>match k,j with | .put,.put=>⟨by unfold PySem.W.notFirst;simp [Cs.at],lu,jN⟩ | .put,.drop=>⟨by unfold PySem.W.notFirst;simp [Cs.at,rZ],lu,jN⟩ | .put,.add=>⟨by unfold PySem.W.notFirst;simp [Cs.at,vz],lu,jN⟩ | .put,.wipe=>⟨by unfold PySem.W.notFirst;simp [Cs.at,sf],lu,jN⟩ | .put,.raise=>⟨by unfold PySem.W.notFirst;simp [Cs.at,qz],lu,jN⟩ | .put,.level=>⟨by unfold PySem.W.notFirst;simp [Cs.at,qA],lu,jN⟩ | .put,.mark=>⟨by unfold PySem.W.notFirst;simp [Cs.at,sj],lu,jN⟩ | .put,.forget=>⟨by unfold PySem.W.notFirst;simp [Cs.at,oQ],lu,jN⟩ | .drop,.put=>⟨by unfold PySem.W.notFirst;simp [Cs.at,sq],ja,iD⟩ | .drop,.drop=>⟨by unfold PySem.W.notFirst;simp [Cs.at],ja,iD⟩ | .drop,.add=>⟨by unfold PySem.W.notFirst;simp [Cs.at,sr],ja,iD⟩ | .drop,.wipe=>⟨by unfold PySem.W.notFirst;simp [Cs.at,qB],ja,iD⟩ | .drop,.raise=>⟨by unfold PySem.W.notFirst;simp [Cs.at,oS],ja,iD⟩ | .drop,.level=>⟨by unfold PySem.W.notFirst;simp [Cs.at,oU],ja,iD⟩ | .drop,.mark=>⟨by unfold PySem.W.notFirst;simp [Cs.at,qC],ja,iD⟩ | .drop,.forget=>⟨by unfold PySem.W.notFirst;simp [Cs.at,nk],ja,iD⟩ | .add,.put=>⟨by unfold PySem.W.notFirst;simp [Cs.at,vC],ly,jO⟩ | .add,.drop=>⟨by unfold PySem.W.notFirst;simp [Cs.at,sA],ly,jO⟩ | .add,.add=>⟨by unfold PySem.W.notFirst;simp [Cs.at],ly,jO⟩ | .add,.wipe=>⟨by unfold PySem.W.notFirst;simp [Cs.at,sC],ly,jO⟩ | .add,.raise=>⟨by unfold PySem.W.notFirst;simp [Cs.at,qD],ly,jO⟩ | .add,.level=>⟨by unfold PySem.W.notFirst;simp [Cs.at,qE],ly,jO⟩ | .add,.mark=>⟨by unfold PySem.W.notFirst;simp [Cs.at,sD],ly,jO⟩ | .add,.forget=>⟨by unfold PySem.W.notFirst;simp [Cs.at,oW],ly,jO⟩ | .wipe,.put=>⟨by unfold PySem.W.notFirst;simp [Cs.at,sE],jb,iE⟩ | .wipe,.drop=>⟨by unfold PySem.W.notFirst;simp [Cs.at,qF],jb,iE⟩ | .wipe,.add=>⟨by unfold PySem.W.notFirst;simp [Cs.at,sF],jb,iE⟩ | .wipe,.wipe=>⟨by unfold PySem.W.notFirst;simp [Cs.at],jb,iE⟩ | .wipe,.raise=>⟨by unfold PySem.W.notFirst;simp [Cs.at,oX],jb,iE⟩ | .wipe,.level=>⟨by unfold PySem.W.notFirst;simp [Cs.at,oY],jb,iE⟩ | .wipe,.mark=>⟨by unfold PySem.W.notFirst;simp [Cs.at,qG],jb,iE⟩ | .wipe,.forget=>⟨by unfold PySem.W.notFirst;simp [Cs.at,nq],jb,iE⟩ | .raise,.put=>⟨by unfold PySem.W.notFirst;simp [Cs.at,qH],ia,gi⟩ | .raise,.drop=>⟨by unfold PySem.W.notFirst;simp [Cs.at,oZ],ia,gi⟩ | .raise,.add=>⟨by unfold PySem.W.notFirst;simp [Cs.at,qI],ia,gi⟩ | .raise,.wipe=>⟨by unfold PySem.W.notFirst;simp [Cs.at,o4],ia,gi⟩ | .raise,.raise=>⟨by unfold PySem.W.notFirst;simp [Cs.at],ia,gi⟩ | .raise,.level=>⟨by unfold PySem.W.notFirst;simp [Cs.at,nu],ia,gi⟩ | .raise,.mark=>⟨by unfold PySem.W.notFirst;simp [Cs.at,o5],ia,gi⟩ | .raise,.forget=>⟨by unfold PySem.W.notFirst;simp [Cs.at,lU],ia,gi⟩ | .level,.put=>⟨by unfold PySem.W.notFirst;simp [Cs.at,qK],ic,gj⟩ | .level,.drop=>⟨by unfold PySem.W.notFirst;simp [Cs.at,o6],ic,gj⟩ | .level,.add=>⟨by unfold PySem.W.notFirst;simp [Cs.at,qL],ic,gj⟩ | .level,.wipe=>⟨by unfold PySem.W.notFirst;simp [Cs.at,o7],ic,gj⟩ | .level,.raise=>⟨by unfold PySem.W.notFirst;simp [Cs.at,nv],ic,gj⟩ | .level,.level=>⟨by unfold PySem.W.notFirst;simp [Cs.at],ic,gj⟩ | .level,.mark=>⟨by unfold PySem.W.notFirst;simp [Cs.at,o8],ic,gj⟩ | .level,.forget=>⟨by unfold PySem.W.notFirst;simp [Cs.at,lV],ic,gj⟩ | .mark,.put=>⟨by unfold PySem.W.notFirst;simp [Cs.at,sR],jc,iF⟩ | .mark,.drop=>⟨by unfold PySem.W.notFirst;simp [Cs.at,qN],jc,iF⟩ | .mark,.add=>⟨by unfold PySem.W.notFirst;simp [Cs.at,sS],jc,iF⟩ | .mark,.wipe=>⟨by unfold PySem.W.notFirst;simp [Cs.at,qO],jc,iF⟩ | .mark,.raise=>⟨by unfold PySem.W.notFirst;simp [Cs.at,o9],jc,iF⟩ | .mark,.level=>⟨by unfold PySem.W.notFirst;simp [Cs.at,pe],jc,iF⟩ | .mark,.mark=>⟨by unfold PySem.W.notFirst;simp [Cs.at],jc,iF⟩ | .mark,.forget=>⟨by unfold PySem.W.notFirst;simp [Cs.at,ny],jc,iF⟩ | .forget,.put=>⟨by unfold PySem.W.notFirst;simp [Cs.at,pq],fB,eW⟩ | .forget,.drop=>⟨by unfold PySem.W.notFirst;simp [Cs.at,nE],fB,eW⟩ | .forget,.add=>⟨by unfold PySem.W.notFirst;simp [Cs.at,pA],fB,eW⟩ | .forget,.wipe=>⟨by unfold PySem.W.notFirst;simp [Cs.at,nF],fB,eW⟩ | .forget,.raise=>⟨by unfold PySem.W.notFirst;simp [Cs.at,lW],fB,eW⟩ | .forget,.level=>⟨by unfold PySem.W.notFirst;simp [Cs.at,lX],fB,eW⟩ | .forget,.mark=>⟨by unfold PySem.W.notFirst;simp [Cs.at,nH],fB,eW⟩ | .forget,.forget=>⟨by unfold PySem.W.notFirst;simp [Cs.at],fB,eW⟩
  have gO:Callee l.prog w K mg base "_law_deeds_right" 8 ["_law_where","_law_ends_here","_law_amount"] (Bx K):=⟨Yj,_,t9 F83 B (qu:=qu) (lg:=lg) (uh:=uh) (oH:=oH) (um:=um) (oJ:=oJ) (kX:=kX) (kY:=kY) (i7:=i7) (EL:=EL) (Al:=Al) (EM:=EM) (Am:=Am) (wK:=wK) (wL:=wL) (tS:=tS)   (dc:=dc) (ec:=ec) (ME:=ME) (MR:=MR) (MT:=MT) (MN:=MN) (XE:=XE),b83,k83,PySem.W.mg_of X G a83⟩
  have gQ:Callee l.prog w K mg base "_law_notes_right" 7 ["_law_paper_here","_law_second","_law_where","_law_ends_here"] (Bv K):=⟨Yk,_,t7 F84 B (tQ:=tQ) (wH:=wH) (Af:=Af) (EG:=EG) (qp:=qp) (qt:=qt) (tP:=tP),b84,k84,PySem.W.mg_of X G a84⟩
  have gP:Callee l.prog w K mg base "_law_trays_right" 4 ["_law_papers","_law_where","_law_ends_here","_law_looks"] (Bw K):=⟨Yl,_,t8 F85 B (tR:=tR) (wI:=wI) (Ah:=Ah) (EI:=EI) (Ai:=Ai) (Aj:=Aj),b85,k85,PySem.W.mg_of X G a85⟩
  exact RJ F86 B (oj:=oj) (eN:=eN) (bK:=bK) (gJ:=gJ) (jI:=jI) (tU:=tU) (wM:=wM) (An:=An) (EN:=EN) (mw:=mw) (oh:=oh) (tV:=tV) (qw:=qw) (lq:=lq) (gO:=gO) (gP:=gP) (gQ:=gQ)
theorem walk {l:PySem.W.OpenLaw} {q:Program} {loose:List Str} {XP:(Str→Option Value)→Heap→Prop} {YP:World→Heap→Prop} {d:DefRec} {K:Params→PySem.W.Frag} (hn:l.most=some 63) (Uh:d.params.defaults=[])
    (hY:∀ (w:World) (h:Heap),YP w h→(K w.params).In h)
    (F:∀ (w:World) (mg:Str→Option Value) (fa:Addr) (h:Heap),(K w.params).In h→h.Ns mainGlobals mg→mg d.name=some (.ref fa)→
      ∃ fd:FuncData,(∀ (s:Shared) (u:Value),BindsTo s fd ⟨[u],[]⟩ [("_law_script",u)])∧∀ base:Heap,(K w.params).In base→base.Ns mainGlobals mg→aL l.prog w (K w.params) mg base dF 9 fa fd ["_law_script"] (Kc (K w.params))):
    PySem.W.WalkO q loose XP YP l.row.toRowW d [] (fun f vs=>PySem.call f vs):=
  L2.Od (n:=63) (k:=9) (x:="_law_script") (CX:=fun _=>dF) (sp:=fun w=>Kc (K w.params)) hn (by decide) Uh ⟨rfl,by decide,by decide,rfl⟩ hY F (fun _ _ a ns hl ho hS=>⟨a,ns,rfl,hS,hl,ho,fun _=>rfl⟩) fun _ _ _ _ _ z=>z
abbrev kh (P:Params) (x:Str):Int:=PyData.keyHash P x
abbrev oC (a:Str) (b:Tok) (c:Str) (d:Tok) (e:Str) (f:Tok) (g h i j k:Int) (l:Addr) (m:Bool) (n:Int) (o:Addr) (p q r s:Value) (u v:Int) (x:Str) (y:Tok):Obj:=⟨.type "code",none,.fields #[.str a b,.str c d,.str e f,.int g 0,.int h 0,.int i 0,.int j 0,.int k 0,.ref l,.bool m,.int n 0,.ref o,p,q,r,s,.int u 0,.int v 0,.str x y],#[]⟩
abbrev oT (x:Array Value):Obj:=⟨.type "tuple",none,.seq x 0,#[]⟩
abbrev oF (a b:Str) (s:Stmt) (n:Nat) (d k m c:Value):Obj:=⟨.type "function",none,.func ⟨a,b,ai s,.stmts (ah s),aa s,n,[],d,k,.none,m,none,c,.none,0⟩,#[]⟩
abbrev oG (a b:Str) (s:Stmt):Obj:=⟨.none,none,.func ⟨a,b,ai s,.stmts (ah s),aa s,0,[],.none,.none,.none,.none,none,.none,.none,0⟩,#[]⟩
abbrev oN:Obj:=⟨.none,none,.fields #[],#[]⟩
noncomputable def hK (P:Params):PySem.W.Frag:=(nat_lit 2,⟨.none,none,(.dict (List.toArray ( [])) 0),#[]⟩)::(nat_lit 3,⟨(.type "dict"),none,(.dict (List.toArray (⟨kh P "__name__",(.str "__name__" 165),(.str "law_notefall_k19_arguments_by_their_names" 1144)⟩::⟨kh P "__doc__",(.str "__doc__" 166),.none⟩::⟨kh P "__package__",(.str "__package__" 167),.none⟩::⟨kh P "__loader__",(.str "__loader__" 168),(.builtin "__main__.__loader__#opaque")⟩::⟨kh P "__spec__",(.str "__spec__" 169),.none⟩::⟨kh P "__annotations__",(.str "__annotations__" 170),(.ref 6)⟩::⟨kh P "__builtins__",(.str "__builtins__" 171),(.ref 4)⟩::⟨kh P "__file__",(.str "__file__" 173),(.str "/claim/cut.py" 172)⟩::⟨kh P "__cached__",(.str "__cached__" 174),.none⟩::⟨kh P "FallError",(.str "FallError" 206),(.ref 24)⟩::⟨kh P "NoAction",(.str "NoAction" 222),(.ref 37)⟩::⟨kh P "NoDeed",(.str "NoDeed" 238),(.ref 49)⟩::⟨kh P "NoNote",(.str "NoNote" 254),(.ref 61)⟩::⟨kh P "NoKey",(.str "NoKey" 270),(.ref 73)⟩::⟨kh P "NoStretch",(.str "NoStretch" 286),(.ref 85)⟩::⟨kh P "END",(.str "END" 292),(.int 1000000000000 291)⟩::⟨kh P "MOST_TRAY",(.str "MOST_TRAY" 294),(.int 64 293)⟩::⟨kh P "LEAST_FAN",(.str "LEAST_FAN" 296),(.int 3 295)⟩::⟨kh P "MOST_FAN",(.str "MOST_FAN" 298),(.int 16 297)⟩::⟨kh P "MOST_ROWS",(.str "MOST_ROWS" 300),(.int 64 299)⟩::⟨kh P "PLANS",(.str "PLANS" 303),(.ref 88)⟩::⟨kh P "is_number",(.str "is_number" 310),(.ref 95)⟩::⟨kh P "is_whole",(.str "is_whole" 319),(.ref 102)⟩::⟨kh P "is_whole_from",(.str "is_whole_from" 327),(.ref 109)⟩::⟨kh P "is_key",(.str "is_key" 334),(.ref 116)⟩::⟨kh P "is_stretch",(.str "is_stretch" 342),(.ref 123)⟩::⟨kh P "check_key",(.str "check_key" 349),(.ref 130)⟩::⟨kh P "check_stretch",(.str "check_stretch" 357),(.ref 137)⟩::⟨kh P "is_plan",(.str "is_plan" 364),(.ref 144)⟩::⟨kh P "is_rule",(.str "is_rule" 375),(.ref 151)⟩::⟨kh P "GONE",(.str "GONE" 379),(.ref 152)⟩::⟨kh P "CLEARING",(.str "CLEARING" 382),(.ref 155)⟩::⟨kh P "is_half",(.str "is_half" 390),(.ref 162)⟩::⟨kh P "is_action",(.str "is_action" 399),(.ref 169)⟩::⟨kh P "check_action",(.str "check_action" 406),(.ref 176)⟩::⟨kh P "half_acts",(.str "half_acts" 416),(.ref 183)⟩::⟨kh P "does",(.str "does" 426),(.ref 190)⟩::⟨kh P "acts",(.str "acts" 434),(.ref 197)⟩::⟨kh P "half_behind",(.str "half_behind" 446),(.ref 204)⟩::⟨kh P "joined",(.str "joined" 456),(.ref 211)⟩::⟨kh P "behind",(.str "behind" 464),(.ref 218)⟩::⟨kh P "is_note",(.str "is_note" 477),(.ref 225)⟩::⟨kh P "check_note",(.str "check_note" 484),(.ref 232)⟩::⟨kh P "has_key",(.str "has_key" 492),(.ref 239)⟩::⟨kh P "have_common",(.str "have_common" 500),(.ref 246)⟩::⟨kh P "cut",(.str "cut" 515),(.ref 253)⟩::⟨kh P "touches",(.str "touches" 523),(.ref 260)⟩::⟨kh P "shares",(.str "shares" 531),(.ref 267)⟩::⟨kh P "part",(.str "part" 540),(.ref 274)⟩::⟨kh P "up_to",(.str "up_to" 548),(.ref 279)⟩::⟨kh P "touching",(.str "touching" 554),(.ref 284)⟩::⟨kh P "within",(.str "within" 560),(.ref 289)⟩::⟨kh P "without",(.str "without" 566),(.ref 294)⟩::⟨kh P "seen",(.str "seen" 578),(.ref 302)⟩::⟨kh P "last_sharing",(.str "last_sharing" 584),(.ref 307)⟩::⟨kh P "may_join",(.str "may_join" 590),(.ref 312)⟩::⟨kh P "laid",(.str "laid" 605),(.ref 319)⟩::⟨kh P "poured",(.str "poured" 614),(.ref 326)⟩::⟨kh P "MOST_FIGURES",(.str "MOST_FIGURES" 618),(.int 60 617)⟩::⟨kh P "figures_of",(.str "figures_of" 625),(.ref 333)⟩::⟨kh P "are_figures",(.str "are_figures" 632),(.ref 340)⟩::⟨kh P "read_figures",(.str "read_figures" 640),(.ref 347)⟩::⟨kh P "MOST_VALUE",(.str "MOST_VALUE" 646),(.int 1000000000000000000000000000000 645)⟩::⟨kh P "THINGS",(.str "THINGS" 671),(.ref 348)⟩::⟨kh P "NO_MORE",(.str "NO_MORE" 673),(.str "no more" 672)⟩::⟨kh P "is_amount",(.str "is_amount" 680),(.ref 355)⟩::⟨kh P "check_things",(.str "check_things" 688),(.ref 362)⟩::⟨kh P "word_of",(.str "word_of" 695),(.ref 369)⟩::⟨kh P "Deed",(.str "Deed" 762),(.ref 419)⟩::⟨kh P "Put",(.str "Put" 811),(.ref 462)⟩::⟨kh P "Drop",(.str "Drop" 858),(.ref 503)⟩::⟨kh P "Add",(.str "Add" 907),(.ref 544)⟩::⟨kh P "Wipe",(.str "Wipe" 956),(.ref 585)⟩::⟨kh P "Raise",(.str "Raise" 1007),(.ref 626)⟩::⟨kh P "Level",(.str "Level" 1058),(.ref 667)⟩::⟨kh P "Mark",(.str "Mark" 1089),(.ref 694)⟩::⟨kh P "Forget",(.str "Forget" 1122),(.ref 721)⟩::⟨kh P "has_form",(.str "has_form" 1129),(.ref 730)⟩::⟨kh P "deed_of",(.str "deed_of" 1137),(.ref 737)⟩::⟨kh P "read_words",(.str "read_words" 1143),(.ref 742)⟩::⟨kh P "_law_well",(.str "_law_well" 1152),(.ref 749)⟩::⟨kh P "_law_draw",(.str "_law_draw" 1162),(.ref 756)⟩::⟨kh P "_law_doing",(.str "_law_doing" 1171),(.ref 763)⟩::⟨kh P "_law_ends",(.str "_law_ends" 1179),(.ref 770)⟩::⟨kh P "_law_paper",(.str "_law_paper" 1189),(.ref 777)⟩::⟨kh P "_law_deeds_right",(.str "_law_deeds_right" 1203),(.ref 784)⟩::⟨kh P "_law_notes_right",(.str "_law_notes_right" 1215),(.ref 791)⟩::⟨kh P "_law_trays_right",(.str "_law_trays_right" 1228),(.ref 798)⟩::⟨kh P "law",(.str "law" 1234),(.ref 803)⟩::[])) 89),#[]⟩)::(nat_lit 15,oT #[(.type "ValueError")])::(nat_lit 22,oT #[])::(nat_lit 23,⟨(.type "dict"),none,(.dict (List.toArray (⟨kh P "__module__",(.str "__module__" 196),(.str "notefall.errors" 187)⟩::⟨kh P "__firstlineno__",(.str "__firstlineno__" 200),(.int 2 199)⟩::⟨kh P "__static_attributes__",(.str "__static_attributes__" 201),(.ref 22)⟩::⟨kh P "__weakref__",(.str "__weakref__" 203),(.ref 25)⟩::⟨kh P "__doc__",(.str "__doc__" 204),.none⟩::[])) 3),#[]⟩)::(nat_lit 24,⟨(.type "type"),none,(.cls ⟨"FallError",[(.type "ValueError")],[(.ref 24),(.type "ValueError"),(.type "Exception"),(.type "BaseException"),(.type "object")],23,"FallError",true,[],[(.ref 37),(.ref 49),(.ref 61),(.ref 73),(.ref 85)],false,none,false⟩),#[(some (.ref 15)),none,(some (.str "FallError" 189)),(some (.str "FallError" 197)),(some (.builtin "ValueError.__new__")),(some (.bool true))]⟩)::(nat_lit 25,⟨(.type "getset_descriptor"),none,(.fields #[(.str "__weakref__" 202),(.ref 24),(.builtin "ExceptionGroup.__weakref__"),.none]),#[]⟩)::(nat_lit 28,oT #[(.ref 24)])::(nat_lit 35,oT #[])::(nat_lit 36,⟨(.type "dict"),none,(.dict (List.toArray (⟨kh P "__module__",(.str "__module__" 214),(.str "notefall.errors" 187)⟩::⟨kh P "__firstlineno__",(.str "__firstlineno__" 218),(.int 4 217)⟩::⟨kh P "__static_attributes__",(.str "__static_attributes__" 219),(.ref 35)⟩::⟨kh P "__doc__",(.str "__doc__" 220),.none⟩::[])) 2),#[]⟩)::(nat_lit 37,⟨(.type "type"),none,(.cls ⟨"NoAction",[(.ref 24)],[(.ref 37),(.ref 24),(.type "ValueError"),(.type "Exception"),(.type "BaseException"),(.type "object")],36,"NoAction",true,[],[],false,none,false⟩),#[(some (.ref 28)),none,(some (.str "NoAction" 207)),(some (.str "NoAction" 215)),(some (.builtin "ValueError.__new__")),(some (.bool true))]⟩)::(nat_lit 40,oT #[(.ref 24)])::(nat_lit 47,oT #[])::(nat_lit 48,⟨(.type "dict"),none,(.dict (List.toArray (⟨kh P "__module__",(.str "__module__" 230),(.str "notefall.errors" 187)⟩::⟨kh P "__firstlineno__",(.str "__firstlineno__" 234),(.int 6 233)⟩::⟨kh P "__static_attributes__",(.str "__static_attributes__" 235),(.ref 47)⟩::⟨kh P "__doc__",(.str "__doc__" 236),.none⟩::[])) 2),#[]⟩)::(nat_lit 49,⟨(.type "type"),none,(.cls ⟨"NoDeed",[(.ref 24)],[(.ref 49),(.ref 24),(.type "ValueError"),(.type "Exception"),(.type "BaseException"),(.type "object")],48,"NoDeed",true,[],[],false,none,false⟩),#[(some (.ref 40)),none,(some (.str "NoDeed" 223)),(some (.str "NoDeed" 231)),(some (.builtin "ValueError.__new__")),(some (.bool true))]⟩)::(nat_lit 52,oT #[(.ref 24)])::(nat_lit 59,oT #[])::(nat_lit 60,⟨(.type "dict"),none,(.dict (List.toArray (⟨kh P "__module__",(.str "__module__" 246),(.str "notefall.errors" 187)⟩::⟨kh P "__firstlineno__",(.str "__firstlineno__" 250),(.int 8 249)⟩::⟨kh P "__static_attributes__",(.str "__static_attributes__" 251),(.ref 59)⟩::⟨kh P "__doc__",(.str "__doc__" 252),.none⟩::[])) 2),#[]⟩)::(nat_lit 61,⟨(.type "type"),none,(.cls ⟨"NoNote",[(.ref 24)],[(.ref 61),(.ref 24),(.type "ValueError"),(.type "Exception"),(.type "BaseException"),(.type "object")],60,"NoNote",true,[],[],false,none,false⟩),#[(some (.ref 52)),none,(some (.str "NoNote" 239)),(some (.str "NoNote" 247)),(some (.builtin "ValueError.__new__")),(some (.bool true))]⟩)::(nat_lit 64,oT #[(.ref 24)])::(nat_lit 71,oT #[])::(nat_lit 72,⟨(.type "dict"),none,(.dict (List.toArray (⟨kh P "__module__",(.str "__module__" 262),(.str "notefall.errors" 187)⟩::⟨kh P "__firstlineno__",(.str "__firstlineno__" 266),(.int 10 265)⟩::⟨kh P "__static_attributes__",(.str "__static_attributes__" 267),(.ref 71)⟩::⟨kh P "__doc__",(.str "__doc__" 268),.none⟩::[])) 2),#[]⟩)::(nat_lit 73,⟨(.type "type"),none,(.cls ⟨"NoKey",[(.ref 24)],[(.ref 73),(.ref 24),(.type "ValueError"),(.type "Exception"),(.type "BaseException"),(.type "object")],72,"NoKey",true,[],[],false,none,false⟩),#[(some (.ref 64)),none,(some (.str "NoKey" 255)),(some (.str "NoKey" 263)),(some (.builtin "ValueError.__new__")),(some (.bool true))]⟩)::(nat_lit 76,oT #[(.ref 24)])::(nat_lit 83,oT #[])::(nat_lit 84,⟨(.type "dict"),none,(.dict (List.toArray (⟨kh P "__module__",(.str "__module__" 278),(.str "notefall.errors" 187)⟩::⟨kh P "__firstlineno__",(.str "__firstlineno__" 282),(.int 12 281)⟩::⟨kh P "__static_attributes__",(.str "__static_attributes__" 283),(.ref 83)⟩::⟨kh P "__doc__",(.str "__doc__" 284),.none⟩::[])) 2),#[]⟩)::(nat_lit 85,⟨(.type "type"),none,(.cls ⟨"NoStretch",[(.ref 24)],[(.ref 85),(.ref 24),(.type "ValueError"),(.type "Exception"),(.type "BaseException"),(.type "object")],84,"NoStretch",true,[],[],false,none,false⟩),#[(some (.ref 76)),none,(some (.str "NoStretch" 271)),(some (.str "NoStretch" 279)),(some (.builtin "ValueError.__new__")),(some (.bool true))]⟩)::(nat_lit 88,oT #[(.str "fullest" 301),(.str "eldest" 302)])::(nat_lit 89,oT #[])::(nat_lit 91,oT #[(.str "thing" 307)])::(nat_lit 92,oT #[])::(nat_lit 94,oC "is_number" 304 "is_number" 305 "/claim/cut.py" 306 21 1 0 0 3 89 true 181 90 .none (.ref 91) (.ref 92) (.ref 93) 308 21 "/claim/cut.py" 309)::(nat_lit 95,oF "is_number" "is_number" (top 14) 3 .none .none (.str "notefall.wholes" 287) (.ref 94))::(nat_lit 96,oT #[])::(nat_lit 98,oT #[(.str "thing" 314),(.str "low" 315),(.str "high" 316)])::(nat_lit 99,oT #[])::(nat_lit 101,oC "is_whole" 311 "is_whole" 312 "/claim/cut.py" 313 23 3 0 0 3 96 true 181 97 .none (.ref 98) (.ref 99) (.ref 100) 317 23 "/claim/cut.py" 318)::(nat_lit 102,oF "is_whole" "is_whole" (top 15) 3 .none .none (.str "notefall.wholes" 287) (.ref 101))::(nat_lit 103,oT #[])::(nat_lit 105,oT #[(.str "thing" 323),(.str "low" 324)])::(nat_lit 106,oT #[])::(nat_lit 108,oC "is_whole_from" 320 "is_whole_from" 321 "/claim/cut.py" 322 25 2 0 0 3 103 true 181 104 .none (.ref 105) (.ref 106) (.ref 107) 325 25 "/claim/cut.py" 326)::(nat_lit 109,oF "is_whole_from" "is_whole_from" (top 16) 3 .none .none (.str "notefall.wholes" 287) (.ref 108))::(nat_lit 110,oT #[])::(nat_lit 112,oT #[(.str "thing" 331)])::(nat_lit 113,oT #[])::(nat_lit 115,oC "is_key" 328 "is_key" 329 "/claim/cut.py" 330 27 1 0 0 3 110 true 181 111 .none (.ref 112) (.ref 113) (.ref 114) 332 27 "/claim/cut.py" 333)::(nat_lit 116,oF "is_key" "is_key" (top 17) 3 .none .none (.str "notefall.wholes" 287) (.ref 115))::(nat_lit 117,oT #[])::(nat_lit 119,oT #[(.str "low" 338),(.str "high" 339)])::(nat_lit 120,oT #[])::(nat_lit 122,oC "is_stretch" 335 "is_stretch" 336 "/claim/cut.py" 337 29 2 0 0 3 117 true 181 118 .none (.ref 119) (.ref 120) (.ref 121) 340 29 "/claim/cut.py" 341)::(nat_lit 123,oF "is_stretch" "is_stretch" (top 18) 3 .none .none (.str "notefall.wholes" 287) (.ref 122))::(nat_lit 124,oT #[])::(nat_lit 126,oT #[(.str "thing" 346)])::(nat_lit 127,oT #[])::(nat_lit 129,oC "check_key" 343 "check_key" 344 "/claim/cut.py" 345 31 1 0 0 3 124 true 181 125 .none (.ref 126) (.ref 127) (.ref 128) 347 31 "/claim/cut.py" 348)::(nat_lit 130,oF "check_key" "check_key" (top 19) 3 .none .none (.str "notefall.wholes" 287) (.ref 129))::(nat_lit 131,oT #[])::(nat_lit 133,oT #[(.str "low" 353),(.str "high" 354)])::(nat_lit 134,oT #[])::(nat_lit 136,oC "check_stretch" 350 "check_stretch" 351 "/claim/cut.py" 352 34 2 0 0 3 131 true 181 132 .none (.ref 133) (.ref 134) (.ref 135) 355 34 "/claim/cut.py" 356)::(nat_lit 137,oF "check_stretch" "check_stretch" (top 20) 3 .none .none (.str "notefall.wholes" 287) (.ref 136))::(nat_lit 138,oT #[])::(nat_lit 140,oT #[(.str "thing" 361)])::(nat_lit 141,oT #[])::(nat_lit 143,oC "is_plan" 358 "is_plan" 359 "/claim/cut.py" 360 37 1 0 0 3 138 true 181 139 .none (.ref 140) (.ref 141) (.ref 142) 362 37 "/claim/cut.py" 363)::(nat_lit 144,oF "is_plan" "is_plan" (top 21) 3 .none .none (.str "notefall.wholes" 287) (.ref 143))::(nat_lit 145,oT #[])::(nat_lit 147,oT #[(.str "thing" 368),(.str "tray" 369),(.str "fan" 370),(.str "rows" 371),(.str "plan" 372)])::(nat_lit 148,oT #[])::(nat_lit 150,oC "is_rule" 365 "is_rule" 366 "/claim/cut.py" 367 39 1 0 0 3 145 true 181 146 .none (.ref 147) (.ref 148) (.ref 149) 373 39 "/claim/cut.py" 374)::(nat_lit 151,oF "is_rule" "is_rule" (top 22) 3 .none .none (.str "notefall.wholes" 287) (.ref 150))::(nat_lit 152,oT #[(.str "gone" 378)])::(nat_lit 153,oT #[(.str "gone" 380)])::(nat_lit 154,oT #[(.str "gone" 381)])::(nat_lit 155,oT #[(.ref 153),(.ref 154)])::(nat_lit 156,oT #[])::(nat_lit 158,oT #[(.str "thing" 386),(.str "words" 387)])::(nat_lit 159,oT #[])::(nat_lit 161,oC "is_half" 383 "is_half" 384 "/claim/cut.py" 385 49 2 0 0 3 156 true 181 157 .none (.ref 158) (.ref 159) (.ref 160) 388 49 "/claim/cut.py" 389)::(nat_lit 162,oF "is_half" "is_half" (top 26) 3 .none .none (.str "notefall.actions" 376) (.ref 161))::(nat_lit 163,oT #[])::(nat_lit 165,oT #[(.str "thing" 394),(.str "there" 395),(.str "none" 396)])::(nat_lit 166,oT #[])::(nat_lit 168,oC "is_action" 391 "is_action" 392 "/claim/cut.py" 393 55 1 0 0 3 163 true 181 164 .none (.ref 165) (.ref 166) (.ref 167) 397 55 "/claim/cut.py" 398)::(nat_lit 169,oF "is_action" "is_action" (top 27) 3 .none .none (.str "notefall.actions" 376) (.ref 168))::(nat_lit 170,oT #[])::(nat_lit 172,oT #[(.str "thing" 403)])::(nat_lit 173,oT #[])::(nat_lit 175,oC "check_action" 400 "check_action" 401 "/claim/cut.py" 402 60 1 0 0 3 170 true 181 171 .none (.ref 172) (.ref 173) (.ref 174) 404 60 "/claim/cut.py" 405)::(nat_lit 176,oF "check_action" "check_action" (top 28) 3 .none .none (.str "notefall.actions" 376) (.ref 175))::(nat_lit 177,oT #[])::(nat_lit 179,oT #[(.str "half" 410),(.str "value" 411),(.str "word" 412),(.str "number" 413)])::(nat_lit 180,oT #[])::(nat_lit 182,oC "half_acts" 407 "half_acts" 408 "/claim/cut.py" 409 63 2 0 0 3 177 true 181 178 .none (.ref 179) (.ref 180) (.ref 181) 414 63 "/claim/cut.py" 415)::(nat_lit 183,oF "half_acts" "half_acts" (top 29) 3 .none .none (.str "notefall.actions" 376) (.ref 182))::(nat_lit 184,oT #[])::(nat_lit 186,oT #[(.str "action" 420),(.str "value" 421),(.str "there" 422),(.str "none" 423)])::(nat_lit 187,oT #[])::(nat_lit 189,oC "does" 417 "does" 418 "/claim/cut.py" 419 68 2 0 0 3 184 true 181 185 .none (.ref 186) (.ref 187) (.ref 188) 424 68 "/claim/cut.py" 425)::(nat_lit 190,oF "does" "does" (top 30) 3 .none .none (.str "notefall.actions" 376) (.ref 189))::(nat_lit 191,oT #[])::(nat_lit 193,oT #[(.str "action" 430),(.str "value" 431)])::(nat_lit 194,oT #[])::(nat_lit 196,oC "acts" 427 "acts" 428 "/claim/cut.py" 429 71 2 0 0 3 191 true 181 192 .none (.ref 193) (.ref 194) (.ref 195) 432 71 "/claim/cut.py" 433)::(nat_lit 197,oF "acts" "acts" (top 31) 3 .none .none (.str "notefall.actions" 376) (.ref 196))::(nat_lit 198,oT #[])::(nat_lit 200,oT #[(.str "half" 438),(.str "other" 439),(.str "there" 440),(.str "none" 441),(.str "word" 442),(.str "number" 443)])::(nat_lit 201,oT #[])::(nat_lit 203,oC "half_behind" 435 "half_behind" 436 "/claim/cut.py" 437 74 2 0 0 3 198 true 181 199 .none (.ref 200) (.ref 201) (.ref 202) 444 74 "/claim/cut.py" 445)::(nat_lit 204,oF "half_behind" "half_behind" (top 32) 3 .none .none (.str "notefall.actions" 376) (.ref 203))::(nat_lit 205,oT #[])::(nat_lit 207,oT #[(.str "one" 450),(.str "other" 451),(.str "there" 452),(.str "none" 453)])::(nat_lit 208,oT #[])::(nat_lit 210,oC "joined" 447 "joined" 448 "/claim/cut.py" 449 82 2 0 0 3 205 true 181 206 .none (.ref 207) (.ref 208) (.ref 209) 454 82 "/claim/cut.py" 455)::(nat_lit 211,oF "joined" "joined" (top 33) 3 .none .none (.str "notefall.actions" 376) (.ref 210))::(nat_lit 212,oT #[])::(nat_lit 214,oT #[(.str "one" 460),(.str "other" 461)])::(nat_lit 215,oT #[])::(nat_lit 217,oC "behind" 457 "behind" 458 "/claim/cut.py" 459 85 2 0 0 3 212 true 181 213 .none (.ref 214) (.ref 215) (.ref 216) 462 85 "/claim/cut.py" 463)::(nat_lit 218,oF "behind" "behind" (top 34) 3 .none .none (.str "notefall.actions" 376) (.ref 217))::(nat_lit 219,oT #[])::(nat_lit 221,oT #[(.str "thing" 470),(.str "number" 471),(.str "low" 472),(.str "high" 473),(.str "action" 474)])::(nat_lit 222,oT #[])::(nat_lit 224,oC "is_note" 467 "is_note" 468 "/claim/cut.py" 469 90 1 0 0 3 219 true 181 220 .none (.ref 221) (.ref 222) (.ref 223) 475 90 "/claim/cut.py" 476)::(nat_lit 225,oF "is_note" "is_note" (top 36) 3 .none .none (.str "notefall.notes" 465) (.ref 224))::(nat_lit 226,oT #[])::(nat_lit 228,oT #[(.str "thing" 481)])::(nat_lit 229,oT #[])::(nat_lit 231,oC "check_note" 478 "check_note" 479 "/claim/cut.py" 480 97 1 0 0 3 226 true 181 227 .none (.ref 228) (.ref 229) (.ref 230) 482 97 "/claim/cut.py" 483)::(nat_lit 232,oF "check_note" "check_note" (top 37) 3 .none .none (.str "notefall.notes" 465) (.ref 231))::(nat_lit 233,oT #[])::(nat_lit 235,oT #[(.str "note" 488),(.str "key" 489)])::(nat_lit 236,oT #[])::(nat_lit 238,oC "has_key" 485 "has_key" 486 "/claim/cut.py" 487 100 2 0 0 3 233 true 181 234 .none (.ref 235) (.ref 236) (.ref 237) 490 100 "/claim/cut.py" 491)::(nat_lit 239,oF "has_key" "has_key" (top 38) 3 .none .none (.str "notefall.notes" 465) (.ref 238))::(nat_lit 240,oT #[])::(nat_lit 242,oT #[(.str "note" 496),(.str "other" 497)])::(nat_lit 243,oT #[])::(nat_lit 245,oC "have_common" 493 "have_common" 494 "/claim/cut.py" 495 102 2 0 0 3 240 true 181 241 .none (.ref 242) (.ref 243) (.ref 244) 498 102 "/claim/cut.py" 499)::(nat_lit 246,oF "have_common" "have_common" (top 39) 3 .none .none (.str "notefall.notes" 465) (.ref 245))::(nat_lit 247,oT #[])::(nat_lit 249,oT #[(.str "note" 504),(.str "low" 505),(.str "high" 506),(.str "number" 507),(.str "note_low" 508),(.str "note_high" 509),(.str "action" 510),(.str "first" 511),(.str "end" 512)])::(nat_lit 250,oT #[])::(nat_lit 252,oC "cut" 501 "cut" 502 "/claim/cut.py" 503 104 3 0 0 3 247 true 181 248 .none (.ref 249) (.ref 250) (.ref 251) 513 104 "/claim/cut.py" 514)::(nat_lit 253,oF "cut" "cut" (top 40) 3 .none .none (.str "notefall.notes" 465) (.ref 252))::(nat_lit 254,oT #[])::(nat_lit 256,oT #[(.str "note" 519),(.str "key" 520)])::(nat_lit 257,oT #[])::(nat_lit 259,oC "touches" 516 "touches" 517 "/claim/cut.py" 518 109 2 0 0 3 254 true 181 255 .none (.ref 256) (.ref 257) (.ref 258) 521 109 "/claim/cut.py" 522)::(nat_lit 260,oF "touches" "touches" (top 41) 3 .none .none (.str "notefall.notes" 465) (.ref 259))::(nat_lit 261,oT #[])::(nat_lit 263,oT #[(.str "note" 527),(.str "other" 528)])::(nat_lit 264,oT #[])::(nat_lit 266,oC "shares" 524 "shares" 525 "/claim/cut.py" 526 113 2 0 0 3 261 true 181 262 .none (.ref 263) (.ref 264) (.ref 265) 529 113 "/claim/cut.py" 530)::(nat_lit 267,oF "shares" "shares" (top 42) 3 .none .none (.str "notefall.notes" 465) (.ref 266))::(nat_lit 268,oT #[])::(nat_lit 270,oT #[(.str "note" 535),(.str "low" 536),(.str "high" 537)])::(nat_lit 271,oT #[])::(nat_lit 273,oC "part" 532 "part" 533 "/claim/cut.py" 534 117 3 0 0 3 268 true 181 269 .none (.ref 270) (.ref 271) (.ref 272) 538 117 "/claim/cut.py" 539)::(nat_lit 274,oF "part" "part" (top 43) 3 .none .none (.str "notefall.notes" 465) (.ref 273))::(nat_lit 275,oT #[])::(nat_lit 278,oC "up_to" 543 "up_to" 544 "/claim/cut.py" 545 122 2 0 0 3 275 true 181 276 .none .none .none (.ref 277) 546 122 "/claim/cut.py" 547)::(nat_lit 279,oF "up_to" "up_to" (top 45) 3 .none .none (.str "notefall.trays" 541) (.ref 278))::(nat_lit 280,oT #[])::(nat_lit 283,oC "touching" 549 "touching" 550 "/claim/cut.py" 551 124 2 0 0 3 280 true 181 281 .none .none .none (.ref 282) 552 124 "/claim/cut.py" 553)::(nat_lit 284,oF "touching" "touching" (top 46) 3 .none .none (.str "notefall.trays" 541) (.ref 283))::(nat_lit 285,oT #[])::(nat_lit 288,oC "within" 555 "within" 556 "/claim/cut.py" 557 126 3 0 0 3 285 true 181 286 .none .none .none (.ref 287) 558 126 "/claim/cut.py" 559)::(nat_lit 289,oF "within" "within" (top 47) 3 .none .none (.str "notefall.trays" 541) (.ref 288))::(nat_lit 290,oT #[])::(nat_lit 293,oC "without" 561 "without" 562 "/claim/cut.py" 563 129 3 0 0 3 290 true 181 291 .none .none .none (.ref 292) 564 129 "/claim/cut.py" 565)::(nat_lit 294,oF "without" "without" (top 48) 3 .none .none (.str "notefall.trays" 541) (.ref 293))::(nat_lit 295,⟨(.type "dict"),none,(.dict (List.toArray (⟨kh P "at",(.str "at" 567),.none⟩::[])) 1),#[]⟩)::(nat_lit 296,oT #[])::(nat_lit 298,oT #[(.str "tray" 571),(.str "key" 572),(.str "value" 573),(.str "at" 574),(.str "note" 575)])::(nat_lit 299,oT #[])::(nat_lit 301,oC "seen" 568 "seen" 569 "/claim/cut.py" 570 132 3 0 1 3 296 true 181 297 .none (.ref 298) (.ref 299) (.ref 300) 576 132 "/claim/cut.py" 577)::(nat_lit 302,oF "seen" "seen" (top 49) 3 .none (.ref 295) (.str "notefall.trays" 541) (.ref 301))::(nat_lit 303,oT #[])::(nat_lit 306,oC "last_sharing" 579 "last_sharing" 580 "/claim/cut.py" 581 136 2 0 0 3 303 true 181 304 .none .none .none (.ref 305) 582 136 "/claim/cut.py" 583)::(nat_lit 307,oF "last_sharing" "last_sharing" (top 50) 3 .none .none (.str "notefall.trays" 541) (.ref 306))::(nat_lit 308,oT #[])::(nat_lit 311,oC "may_join" 585 "may_join" 586 "/claim/cut.py" 587 139 3 0 0 3 308 true 181 309 .none .none .none (.ref 310) 588 139 "/claim/cut.py" 589)::(nat_lit 312,oF "may_join" "may_join" (top 51) 3 .none .none (.str "notefall.trays" 541) (.ref 311))::(nat_lit 313,oT #[])::(nat_lit 315,oT #[(.str "tray" 594),(.str "note" 595),(.str "marks" 596),(.str "place" 597),(.str "number" 598),(.str "low" 599),(.str "high" 600),(.str "action" 601),(.str "both" 602)])::(nat_lit 316,oT #[])::(nat_lit 318,oC "laid" 591 "laid" 592 "/claim/cut.py" 593 143 3 0 0 3 313 true 181 314 .none (.ref 315) (.ref 316) (.ref 317) 603 143 "/claim/cut.py" 604)::(nat_lit 319,oF "laid" "laid" (top 52) 3 .none .none (.str "notefall.trays" 541) (.ref 318))::(nat_lit 320,oT #[])::(nat_lit 322,oT #[(.str "tray" 609),(.str "low" 610),(.str "high" 611)])::(nat_lit 323,oT #[])::(nat_lit 325,oC "poured" 606 "poured" 607 "/claim/cut.py" 608 150 3 0 0 3 320 true 181 321 .none (.ref 322) (.ref 323) (.ref 324) 612 150 "/claim/cut.py" 613)::(nat_lit 326,oF "poured" "poured" (top 53) 3 .none .none (.str "notefall.trays" 541) (.ref 325))::(nat_lit 327,oT #[])::(nat_lit 329,oT #[(.str "number" 622)])::(nat_lit 330,oT #[])::(nat_lit 332,oC "figures_of" 619 "figures_of" 620 "/claim/cut.py" 621 154 1 0 0 3 327 true 181 328 .none (.ref 329) (.ref 330) (.ref 331) 623 154 "/claim/cut.py" 624)::(nat_lit 333,oF "figures_of" "figures_of" (top 56) 3 .none .none (.str "notefall.figures" 615) (.ref 332))::(nat_lit 334,oT #[])::(nat_lit 336,oT #[(.str "text" 629)])::(nat_lit 337,oT #[])::(nat_lit 339,oC "are_figures" 626 "are_figures" 627 "/claim/cut.py" 628 156 1 0 0 3 334 true 181 335 .none (.ref 336) (.ref 337) (.ref 338) 630 156 "/claim/cut.py" 631)::(nat_lit 340,oF "are_figures" "are_figures" (top 57) 3 .none .none (.str "notefall.figures" 615) (.ref 339))::(nat_lit 341,oT #[])::(nat_lit 343,oT #[(.str "text" 636),(.str "bare" 637)])::(nat_lit 344,oT #[])::(nat_lit 346,oC "read_figures" 633 "read_figures" 634 "/claim/cut.py" 635 158 1 0 0 3 341 true 181 342 .none (.ref 343) (.ref 344) (.ref 345) 638 158 "/claim/cut.py" 639)::(nat_lit 347,oF "read_figures" "read_figures" (top 58) 3 .none .none (.str "notefall.figures" 615) (.ref 346))::(nat_lit 348,⟨(.type "dict"),none,(.dict (List.toArray (⟨kh P "put",(.str "put" 647),(.int 3 648)⟩::⟨kh P "drop",(.str "drop" 649),(.int 2 650)⟩::⟨kh P "add",(.str "add" 651),(.int 3 652)⟩::⟨kh P "wipe",(.str "wipe" 653),(.int 3 654)⟩::⟨kh P "raise",(.str "raise" 655),(.int 4 656)⟩::⟨kh P "level",(.str "level" 657),(.int 4 658)⟩::⟨kh P "mark",(.str "mark" 659),(.int 1 660)⟩::⟨kh P "forget",(.str "forget" 661),(.int 2 662)⟩::[])) 8),#[]⟩)::(nat_lit 349,oT #[])::(nat_lit 351,oT #[(.str "thing" 677)])::(nat_lit 352,oT #[])::(nat_lit 354,oC "is_amount" 674 "is_amount" 675 "/claim/cut.py" 676 171 1 0 0 3 349 true 181 350 .none (.ref 351) (.ref 352) (.ref 353) 678 171 "/claim/cut.py" 679)::(nat_lit 355,oF "is_amount" "is_amount" (top 63) 3 .none .none (.str "notefall.deeds" 641) (.ref 354))::(nat_lit 356,oT #[])::(nat_lit 358,oT #[(.str "fit" 684),(.str "more" 685)])::(nat_lit 359,oT #[])::(nat_lit 361,oC "check_things" 681 "check_things" 682 "/claim/cut.py" 683 173 2 0 0 3 356 true 181 357 .none (.ref 358) (.ref 359) (.ref 360) 686 173 "/claim/cut.py" 687)::(nat_lit 362,oF "check_things" "check_things" (top 64) 3 .none .none (.str "notefall.deeds" 641) (.ref 361))::(nat_lit 363,oT #[])::(nat_lit 365,oT #[(.str "thing" 692)])::(nat_lit 366,oT #[])::(nat_lit 368,oC "word_of" 689 "word_of" 690 "/claim/cut.py" 691 176 1 0 0 3 363 true 181 364 .none (.ref 365) (.ref 366) (.ref 367) 693 176 "/claim/cut.py" 694)::(nat_lit 369,oF "word_of" "word_of" (top 65) 3 .none .none (.str "notefall.deeds" 641) (.ref 368))::(nat_lit 377,oT #[])::(nat_lit 379,oT #[(.str "self" 711)])::(nat_lit 380,oT #[])::(nat_lit 382,oC "told" 708 "Deed.told" 709 "/claim/cut.py" 710 180 1 0 0 3 377 true 181 378 .none (.ref 379) (.ref 380) (.ref 381) 712 180 "/claim/cut.py" 713)::(nat_lit 383,oF "told" "Deed.told" (inClass (top 66) 0) 3 .none .none (.str "notefall.deeds" 641) (.ref 382))::(nat_lit 384,oT #[])::(nat_lit 386,oT #[(.str "self" 718)])::(nat_lit 387,oT #[])::(nat_lit 389,oC "action" 715 "Deed.action" 716 "/claim/cut.py" 717 183 1 0 0 3 384 true 181 385 .none (.ref 386) (.ref 387) (.ref 388) 719 183 "/claim/cut.py" 720)::(nat_lit 390,oF "action" "Deed.action" (inClass (top 66) 1) 3 .none .none (.str "notefall.deeds" 641) (.ref 389))::(nat_lit 391,oT #[])::(nat_lit 393,oT #[(.str "self" 725)])::(nat_lit 394,oT #[])::(nat_lit 396,oC "span" 722 "Deed.span" 723 "/claim/cut.py" 724 186 1 0 0 3 391 true 181 392 .none (.ref 393) (.ref 394) (.ref 395) 726 186 "/claim/cut.py" 727)::(nat_lit 397,oF "span" "Deed.span" (inClass (top 66) 2) 3 .none .none (.str "notefall.deeds" 641) (.ref 396))::(nat_lit 398,oT #[])::(nat_lit 400,oT #[(.str "self" 732),(.str "number" 733),(.str "span" 734),(.str "low" 735),(.str "high" 736)])::(nat_lit 401,oT #[])::(nat_lit 403,oC "note" 729 "Deed.note" 730 "/claim/cut.py" 731 189 2 0 0 3 398 true 181 399 .none (.ref 400) (.ref 401) (.ref 402) 737 189 "/claim/cut.py" 738)::(nat_lit 404,oF "note" "Deed.note" (inClass (top 66) 3) 3 .none .none (.str "notefall.deeds" 641) (.ref 403))::(nat_lit 405,oT #[])::(nat_lit 408,oC "__str__" 740 "Deed.__str__" 741 "/claim/cut.py" 742 196 1 0 0 3 405 true 181 406 .none .none .none (.ref 407) 743 196 "/claim/cut.py" 744)::(nat_lit 409,oF "__str__" "Deed.__str__" (inClass (top 66) 4) 3 .none .none (.str "notefall.deeds" 641) (.ref 408))::(nat_lit 410,oT #[])::(nat_lit 412,oT #[(.str "self" 749),(.str "other" 750)])::(nat_lit 413,oT #[])::(nat_lit 415,oC "__eq__" 746 "Deed.__eq__" 747 "/claim/cut.py" 748 199 2 0 0 3 410 true 181 411 .none (.ref 412) (.ref 413) (.ref 414) 751 199 "/claim/cut.py" 752)::(nat_lit 416,oF "__eq__" "Deed.__eq__" (inClass (top 66) 5) 3 .none .none (.str "notefall.deeds" 641) (.ref 415))::(nat_lit 417,oT #[])::(nat_lit 418,⟨(.type "dict"),none,(.dict (List.toArray (⟨kh P "__module__",(.str "__module__" 703),(.str "notefall.deeds" 641)⟩::⟨kh P "__firstlineno__",(.str "__firstlineno__" 707),(.int 178 706)⟩::⟨kh P "told",(.str "told" 714),(.ref 383)⟩::⟨kh P "action",(.str "action" 721),(.ref 390)⟩::⟨kh P "span",(.str "span" 728),(.ref 397)⟩::⟨kh P "note",(.str "note" 739),(.ref 404)⟩::⟨kh P "__str__",(.str "__str__" 745),(.ref 409)⟩::⟨kh P "__eq__",(.str "__eq__" 753),(.ref 416)⟩::⟨kh P "__static_attributes__",(.str "__static_attributes__" 754),(.ref 417)⟩::⟨kh P "__dict__",(.str "__dict__" 756),(.ref 420)⟩::⟨kh P "__weakref__",(.str "__weakref__" 758),(.ref 421)⟩::⟨kh P "__doc__",(.str "__doc__" 759),.none⟩::⟨kh P "__hash__",(.str "__hash__" 760),.none⟩::[])) 5),#[]⟩)::(nat_lit 419,⟨(.type "type"),none,(.cls ⟨"Deed",[(.type "object")],[(.ref 419),(.type "object")],418,"Deed",true,[],[(.ref 462),(.ref 503),(.ref 544),(.ref 585),(.ref 626),(.ref 667),(.ref 694),(.ref 721)],false,none,false⟩),#[none,none,(some (.str "Deed" 696)),(some (.str "Deed" 704)),(some (.builtin "object.__new__")),(some (.bool true))]⟩)::(nat_lit 420,⟨(.type "getset_descriptor"),none,(.fields #[(.str "__dict__" 755),(.ref 419),(.builtin "function.__dict__"),(.builtin "function.__dict__#set")]),#[]⟩)::(nat_lit 421,⟨(.type "getset_descriptor"),none,(.fields #[(.str "__weakref__" 757),(.ref 419),(.builtin "ExceptionGroup.__weakref__"),.none]),#[]⟩)::(nat_lit 424,oT #[(.ref 419)])::(nat_lit 431,oT #[.none,.none,(.str "no more" 672)])::(nat_lit 432,oT #[])::(nat_lit 434,oT #[(.str "self" 778),(.str "key" 779),(.str "value" 780),(.str "more" 781)])::(nat_lit 435,oT #[])::(nat_lit 437,oC "__init__" 775 "Put.__init__" 776 "/claim/cut.py" 777 203 4 0 0 3 432 true 181 433 .none (.ref 434) (.ref 435) (.ref 436) 782 203 "/claim/cut.py" 783)::(nat_lit 438,oF "__init__" "Put.__init__" (inClass (top 67) 0) 3 (.ref 431) .none (.str "notefall.deeds" 641) (.ref 437))::(nat_lit 439,oT #[])::(nat_lit 441,oT #[(.str "self" 788)])::(nat_lit 442,oT #[])::(nat_lit 444,oC "told" 785 "Put.told" 786 "/claim/cut.py" 787 208 1 0 0 3 439 true 181 440 .none (.ref 441) (.ref 442) (.ref 443) 789 208 "/claim/cut.py" 790)::(nat_lit 445,oF "told" "Put.told" (inClass (top 67) 1) 3 .none .none (.str "notefall.deeds" 641) (.ref 444))::(nat_lit 446,oT #[])::(nat_lit 448,oT #[(.str "self" 795)])::(nat_lit 449,oT #[])::(nat_lit 451,oC "action" 792 "Put.action" 793 "/claim/cut.py" 794 211 1 0 0 3 446 true 181 447 .none (.ref 448) (.ref 449) (.ref 450) 796 211 "/claim/cut.py" 797)::(nat_lit 452,oF "action" "Put.action" (inClass (top 67) 2) 3 .none .none (.str "notefall.deeds" 641) (.ref 451))::(nat_lit 453,oT #[])::(nat_lit 455,oT #[(.str "self" 802)])::(nat_lit 456,oT #[])::(nat_lit 458,oC "span" 799 "Put.span" 800 "/claim/cut.py" 801 214 1 0 0 3 453 true 181 454 .none (.ref 455) (.ref 456) (.ref 457) 803 214 "/claim/cut.py" 804)::(nat_lit 459,oF "span" "Put.span" (inClass (top 67) 3) 3 .none .none (.str "notefall.deeds" 641) (.ref 458))::(nat_lit 460,oT #[(.str "key" 806),(.str "value" 807)])::(nat_lit 461,⟨(.type "dict"),none,(.dict (List.toArray (⟨kh P "__module__",(.str "__module__" 770),(.str "notefall.deeds" 641)⟩::⟨kh P "__firstlineno__",(.str "__firstlineno__" 774),(.int 201 773)⟩::⟨kh P "__init__",(.str "__init__" 784),(.ref 438)⟩::⟨kh P "told",(.str "told" 791),(.ref 445)⟩::⟨kh P "action",(.str "action" 798),(.ref 452)⟩::⟨kh P "span",(.str "span" 805),(.ref 459)⟩::⟨kh P "__static_attributes__",(.str "__static_attributes__" 808),(.ref 460)⟩::⟨kh P "__doc__",(.str "__doc__" 809),.none⟩::[])) 2),#[]⟩)::(nat_lit 462,⟨(.type "type"),none,(.cls ⟨"Put",[(.ref 419)],[(.ref 462),(.ref 419),(.type "object")],461,"Put",true,[],[],false,none,false⟩),#[(some (.ref 424)),none,(some (.str "Put" 763)),(some (.str "Put" 771)),(some (.builtin "object.__new__")),(some (.bool true))]⟩)::(nat_lit 465,oT #[(.ref 419)])::(nat_lit 472,oT #[.none,(.str "no more" 672)])::(nat_lit 473,oT #[])::(nat_lit 475,oT #[(.str "self" 827),(.str "key" 828),(.str "more" 829)])::(nat_lit 476,oT #[])::(nat_lit 478,oC "__init__" 824 "Drop.__init__" 825 "/claim/cut.py" 826 218 3 0 0 3 473 true 181 474 .none (.ref 475) (.ref 476) (.ref 477) 830 218 "/claim/cut.py" 831)::(nat_lit 479,oF "__init__" "Drop.__init__" (inClass (top 68) 0) 3 (.ref 472) .none (.str "notefall.deeds" 641) (.ref 478))::(nat_lit 480,oT #[])::(nat_lit 482,oT #[(.str "self" 836)])::(nat_lit 483,oT #[])::(nat_lit 485,oC "told" 833 "Drop.told" 834 "/claim/cut.py" 835 222 1 0 0 3 480 true 181 481 .none (.ref 482) (.ref 483) (.ref 484) 837 222 "/claim/cut.py" 838)::(nat_lit 486,oF "told" "Drop.told" (inClass (top 68) 1) 3 .none .none (.str "notefall.deeds" 641) (.ref 485))::(nat_lit 487,oT #[])::(nat_lit 489,oT #[(.str "self" 843)])::(nat_lit 490,oT #[])::(nat_lit 492,oC "action" 840 "Drop.action" 841 "/claim/cut.py" 842 225 1 0 0 3 487 true 181 488 .none (.ref 489) (.ref 490) (.ref 491) 844 225 "/claim/cut.py" 845)::(nat_lit 493,oF "action" "Drop.action" (inClass (top 68) 2) 3 .none .none (.str "notefall.deeds" 641) (.ref 492))::(nat_lit 494,oT #[])::(nat_lit 496,oT #[(.str "self" 850)])::(nat_lit 497,oT #[])::(nat_lit 499,oC "span" 847 "Drop.span" 848 "/claim/cut.py" 849 228 1 0 0 3 494 true 181 495 .none (.ref 496) (.ref 497) (.ref 498) 851 228 "/claim/cut.py" 852)::(nat_lit 500,oF "span" "Drop.span" (inClass (top 68) 3) 3 .none .none (.str "notefall.deeds" 641) (.ref 499))::(nat_lit 501,oT #[(.str "key" 854)])::(nat_lit 502,⟨(.type "dict"),none,(.dict (List.toArray (⟨kh P "__module__",(.str "__module__" 819),(.str "notefall.deeds" 641)⟩::⟨kh P "__firstlineno__",(.str "__firstlineno__" 823),(.int 216 822)⟩::⟨kh P "__init__",(.str "__init__" 832),(.ref 479)⟩::⟨kh P "told",(.str "told" 839),(.ref 486)⟩::⟨kh P "action",(.str "action" 846),(.ref 493)⟩::⟨kh P "span",(.str "span" 853),(.ref 500)⟩::⟨kh P "__static_attributes__",(.str "__static_attributes__" 855),(.ref 501)⟩::⟨kh P "__doc__",(.str "__doc__" 856),.none⟩::[])) 2),#[]⟩)::(nat_lit 503,⟨(.type "type"),none,(.cls ⟨"Drop",[(.ref 419)],[(.ref 503),(.ref 419),(.type "object")],502,"Drop",true,[],[],false,none,false⟩),#[(some (.ref 465)),none,(some (.str "Drop" 812)),(some (.str "Drop" 820)),(some (.builtin "object.__new__")),(some (.bool true))]⟩)::(nat_lit 506,oT #[(.ref 419)])::(nat_lit 513,oT #[.none,.none,(.str "no more" 672)])::(nat_lit 514,oT #[])::(nat_lit 516,oT #[(.str "self" 874),(.str "key" 875),(.str "by" 876),(.str "more" 877)])::(nat_lit 517,oT #[])::(nat_lit 519,oC "__init__" 871 "Add.__init__" 872 "/claim/cut.py" 873 232 4 0 0 3 514 true 181 515 .none (.ref 516) (.ref 517) (.ref 518) 878 232 "/claim/cut.py" 879)::(nat_lit 520,oF "__init__" "Add.__init__" (inClass (top 69) 0) 3 (.ref 513) .none (.str "notefall.deeds" 641) (.ref 519))::(nat_lit 521,oT #[])::(nat_lit 523,oT #[(.str "self" 884)])::(nat_lit 524,oT #[])::(nat_lit 526,oC "told" 881 "Add.told" 882 "/claim/cut.py" 883 237 1 0 0 3 521 true 181 522 .none (.ref 523) (.ref 524) (.ref 525) 885 237 "/claim/cut.py" 886)::(nat_lit 527,oF "told" "Add.told" (inClass (top 69) 1) 3 .none .none (.str "notefall.deeds" 641) (.ref 526))::(nat_lit 528,oT #[])::(nat_lit 530,oT #[(.str "self" 891)])::(nat_lit 531,oT #[])::(nat_lit 533,oC "action" 888 "Add.action" 889 "/claim/cut.py" 890 240 1 0 0 3 528 true 181 529 .none (.ref 530) (.ref 531) (.ref 532) 892 240 "/claim/cut.py" 893)::(nat_lit 534,oF "action" "Add.action" (inClass (top 69) 2) 3 .none .none (.str "notefall.deeds" 641) (.ref 533))::(nat_lit 535,oT #[])::(nat_lit 537,oT #[(.str "self" 898)])::(nat_lit 538,oT #[])::(nat_lit 540,oC "span" 895 "Add.span" 896 "/claim/cut.py" 897 243 1 0 0 3 535 true 181 536 .none (.ref 537) (.ref 538) (.ref 539) 899 243 "/claim/cut.py" 900)::(nat_lit 541,oF "span" "Add.span" (inClass (top 69) 3) 3 .none .none (.str "notefall.deeds" 641) (.ref 540))::(nat_lit 542,oT #[(.str "by" 902),(.str "key" 903)])::(nat_lit 543,⟨(.type "dict"),none,(.dict (List.toArray (⟨kh P "__module__",(.str "__module__" 866),(.str "notefall.deeds" 641)⟩::⟨kh P "__firstlineno__",(.str "__firstlineno__" 870),(.int 230 869)⟩::⟨kh P "__init__",(.str "__init__" 880),(.ref 520)⟩::⟨kh P "told",(.str "told" 887),(.ref 527)⟩::⟨kh P "action",(.str "action" 894),(.ref 534)⟩::⟨kh P "span",(.str "span" 901),(.ref 541)⟩::⟨kh P "__static_attributes__",(.str "__static_attributes__" 904),(.ref 542)⟩::⟨kh P "__doc__",(.str "__doc__" 905),.none⟩::[])) 2),#[]⟩)::(nat_lit 544,⟨(.type "type"),none,(.cls ⟨"Add",[(.ref 419)],[(.ref 544),(.ref 419),(.type "object")],543,"Add",true,[],[],false,none,false⟩),#[(some (.ref 506)),none,(some (.str "Add" 859)),(some (.str "Add" 867)),(some (.builtin "object.__new__")),(some (.bool true))]⟩)::(nat_lit 547,oT #[(.ref 419)])::(nat_lit 554,oT #[.none,.none,(.str "no more" 672)])::(nat_lit 555,oT #[])::(nat_lit 557,oT #[(.str "self" 923),(.str "low" 924),(.str "high" 925),(.str "more" 926)])::(nat_lit 558,oT #[])::(nat_lit 560,oC "__init__" 920 "Wipe.__init__" 921 "/claim/cut.py" 922 247 4 0 0 3 555 true 181 556 .none (.ref 557) (.ref 558) (.ref 559) 927 247 "/claim/cut.py" 928)::(nat_lit 561,oF "__init__" "Wipe.__init__" (inClass (top 70) 0) 3 (.ref 554) .none (.str "notefall.deeds" 641) (.ref 560))::(nat_lit 562,oT #[])::(nat_lit 564,oT #[(.str "self" 933)])::(nat_lit 565,oT #[])::(nat_lit 567,oC "told" 930 "Wipe.told" 931 "/claim/cut.py" 932 252 1 0 0 3 562 true 181 563 .none (.ref 564) (.ref 565) (.ref 566) 934 252 "/claim/cut.py" 935)::(nat_lit 568,oF "told" "Wipe.told" (inClass (top 70) 1) 3 .none .none (.str "notefall.deeds" 641) (.ref 567))::(nat_lit 569,oT #[])::(nat_lit 571,oT #[(.str "self" 940)])::(nat_lit 572,oT #[])::(nat_lit 574,oC "action" 937 "Wipe.action" 938 "/claim/cut.py" 939 255 1 0 0 3 569 true 181 570 .none (.ref 571) (.ref 572) (.ref 573) 941 255 "/claim/cut.py" 942)::(nat_lit 575,oF "action" "Wipe.action" (inClass (top 70) 2) 3 .none .none (.str "notefall.deeds" 641) (.ref 574))::(nat_lit 576,oT #[])::(nat_lit 578,oT #[(.str "self" 947)])::(nat_lit 579,oT #[])::(nat_lit 581,oC "span" 944 "Wipe.span" 945 "/claim/cut.py" 946 258 1 0 0 3 576 true 181 577 .none (.ref 578) (.ref 579) (.ref 580) 948 258 "/claim/cut.py" 949)::(nat_lit 582,oF "span" "Wipe.span" (inClass (top 70) 3) 3 .none .none (.str "notefall.deeds" 641) (.ref 581))::(nat_lit 583,oT #[(.str "high" 951),(.str "low" 952)])::(nat_lit 584,⟨(.type "dict"),none,(.dict (List.toArray (⟨kh P "__module__",(.str "__module__" 915),(.str "notefall.deeds" 641)⟩::⟨kh P "__firstlineno__",(.str "__firstlineno__" 919),(.int 245 918)⟩::⟨kh P "__init__",(.str "__init__" 929),(.ref 561)⟩::⟨kh P "told",(.str "told" 936),(.ref 568)⟩::⟨kh P "action",(.str "action" 943),(.ref 575)⟩::⟨kh P "span",(.str "span" 950),(.ref 582)⟩::⟨kh P "__static_attributes__",(.str "__static_attributes__" 953),(.ref 583)⟩::⟨kh P "__doc__",(.str "__doc__" 954),.none⟩::[])) 2),#[]⟩)::(nat_lit 585,⟨(.type "type"),none,(.cls ⟨"Wipe",[(.ref 419)],[(.ref 585),(.ref 419),(.type "object")],584,"Wipe",true,[],[],false,none,false⟩),#[(some (.ref 547)),none,(some (.str "Wipe" 908)),(some (.str "Wipe" 916)),(some (.builtin "object.__new__")),(some (.bool true))]⟩)::(nat_lit 588,oT #[(.ref 419)])::(nat_lit 595,oT #[.none,.none,.none,(.str "no more" 672)])::(nat_lit 596,oT #[])::(nat_lit 598,oT #[(.str "self" 972),(.str "low" 973),(.str "high" 974),(.str "by" 975),(.str "more" 976)])::(nat_lit 599,oT #[])::(nat_lit 601,oC "__init__" 969 "Raise.__init__" 970 "/claim/cut.py" 971 262 5 0 0 3 596 true 181 597 .none (.ref 598) (.ref 599) (.ref 600) 977 262 "/claim/cut.py" 978)::(nat_lit 602,oF "__init__" "Raise.__init__" (inClass (top 71) 0) 3 (.ref 595) .none (.str "notefall.deeds" 641) (.ref 601))::(nat_lit 603,oT #[])::(nat_lit 605,oT #[(.str "self" 983)])::(nat_lit 606,oT #[])::(nat_lit 608,oC "told" 980 "Raise.told" 981 "/claim/cut.py" 982 268 1 0 0 3 603 true 181 604 .none (.ref 605) (.ref 606) (.ref 607) 984 268 "/claim/cut.py" 985)::(nat_lit 609,oF "told" "Raise.told" (inClass (top 71) 1) 3 .none .none (.str "notefall.deeds" 641) (.ref 608))::(nat_lit 610,oT #[])::(nat_lit 612,oT #[(.str "self" 990)])::(nat_lit 613,oT #[])::(nat_lit 615,oC "action" 987 "Raise.action" 988 "/claim/cut.py" 989 271 1 0 0 3 610 true 181 611 .none (.ref 612) (.ref 613) (.ref 614) 991 271 "/claim/cut.py" 992)::(nat_lit 616,oF "action" "Raise.action" (inClass (top 71) 2) 3 .none .none (.str "notefall.deeds" 641) (.ref 615))::(nat_lit 617,oT #[])::(nat_lit 619,oT #[(.str "self" 997)])::(nat_lit 620,oT #[])::(nat_lit 622,oC "span" 994 "Raise.span" 995 "/claim/cut.py" 996 274 1 0 0 3 617 true 181 618 .none (.ref 619) (.ref 620) (.ref 621) 998 274 "/claim/cut.py" 999)::(nat_lit 623,oF "span" "Raise.span" (inClass (top 71) 3) 3 .none .none (.str "notefall.deeds" 641) (.ref 622))::(nat_lit 624,oT #[(.str "by" 1001),(.str "high" 1002),(.str "low" 1003)])::(nat_lit 625,⟨(.type "dict"),none,(.dict (List.toArray (⟨kh P "__module__",(.str "__module__" 964),(.str "notefall.deeds" 641)⟩::⟨kh P "__firstlineno__",(.str "__firstlineno__" 968),(.int 260 967)⟩::⟨kh P "__init__",(.str "__init__" 979),(.ref 602)⟩::⟨kh P "told",(.str "told" 986),(.ref 609)⟩::⟨kh P "action",(.str "action" 993),(.ref 616)⟩::⟨kh P "span",(.str "span" 1000),(.ref 623)⟩::⟨kh P "__static_attributes__",(.str "__static_attributes__" 1004),(.ref 624)⟩::⟨kh P "__doc__",(.str "__doc__" 1005),.none⟩::[])) 2),#[]⟩)::(nat_lit 626,⟨(.type "type"),none,(.cls ⟨"Raise",[(.ref 419)],[(.ref 626),(.ref 419),(.type "object")],625,"Raise",true,[],[],false,none,false⟩),#[(some (.ref 588)),none,(some (.str "Raise" 957)),(some (.str "Raise" 965)),(some (.builtin "object.__new__")),(some (.bool true))]⟩)::(nat_lit 629,oT #[(.ref 419)])::(nat_lit 636,oT #[.none,.none,.none,(.str "no more" 672)])::(nat_lit 637,oT #[])::(nat_lit 639,oT #[(.str "self" 1023),(.str "low" 1024),(.str "high" 1025),(.str "value" 1026),(.str "more" 1027)])::(nat_lit 640,oT #[])::(nat_lit 642,oC "__init__" 1020 "Level.__init__" 1021 "/claim/cut.py" 1022 278 5 0 0 3 637 true 181 638 .none (.ref 639) (.ref 640) (.ref 641) 1028 278 "/claim/cut.py" 1029)::(nat_lit 643,oF "__init__" "Level.__init__" (inClass (top 72) 0) 3 (.ref 636) .none (.str "notefall.deeds" 641) (.ref 642))::(nat_lit 644,oT #[])::(nat_lit 646,oT #[(.str "self" 1034)])::(nat_lit 647,oT #[])::(nat_lit 649,oC "told" 1031 "Level.told" 1032 "/claim/cut.py" 1033 284 1 0 0 3 644 true 181 645 .none (.ref 646) (.ref 647) (.ref 648) 1035 284 "/claim/cut.py" 1036)::(nat_lit 650,oF "told" "Level.told" (inClass (top 72) 1) 3 .none .none (.str "notefall.deeds" 641) (.ref 649))::(nat_lit 651,oT #[])::(nat_lit 653,oT #[(.str "self" 1041)])::(nat_lit 654,oT #[])::(nat_lit 656,oC "action" 1038 "Level.action" 1039 "/claim/cut.py" 1040 287 1 0 0 3 651 true 181 652 .none (.ref 653) (.ref 654) (.ref 655) 1042 287 "/claim/cut.py" 1043)::(nat_lit 657,oF "action" "Level.action" (inClass (top 72) 2) 3 .none .none (.str "notefall.deeds" 641) (.ref 656))::(nat_lit 658,oT #[])::(nat_lit 660,oT #[(.str "self" 1048)])::(nat_lit 661,oT #[])::(nat_lit 663,oC "span" 1045 "Level.span" 1046 "/claim/cut.py" 1047 290 1 0 0 3 658 true 181 659 .none (.ref 660) (.ref 661) (.ref 662) 1049 290 "/claim/cut.py" 1050)::(nat_lit 664,oF "span" "Level.span" (inClass (top 72) 3) 3 .none .none (.str "notefall.deeds" 641) (.ref 663))::(nat_lit 665,oT #[(.str "high" 1052),(.str "low" 1053),(.str "value" 1054)])::(nat_lit 666,⟨(.type "dict"),none,(.dict (List.toArray (⟨kh P "__module__",(.str "__module__" 1015),(.str "notefall.deeds" 641)⟩::⟨kh P "__firstlineno__",(.str "__firstlineno__" 1019),(.int 276 1018)⟩::⟨kh P "__init__",(.str "__init__" 1030),(.ref 643)⟩::⟨kh P "told",(.str "told" 1037),(.ref 650)⟩::⟨kh P "action",(.str "action" 1044),(.ref 657)⟩::⟨kh P "span",(.str "span" 1051),(.ref 664)⟩::⟨kh P "__static_attributes__",(.str "__static_attributes__" 1055),(.ref 665)⟩::⟨kh P "__doc__",(.str "__doc__" 1056),.none⟩::[])) 2),#[]⟩)::(nat_lit 667,⟨(.type "type"),none,(.cls ⟨"Level",[(.ref 419)],[(.ref 667),(.ref 419),(.type "object")],666,"Level",true,[],[],false,none,false⟩),#[(some (.ref 629)),none,(some (.str "Level" 1008)),(some (.str "Level" 1016)),(some (.builtin "object.__new__")),(some (.bool true))]⟩)::(nat_lit 670,oT #[(.ref 419)])::(nat_lit 677,oT #[(.str "no more" 672)])::(nat_lit 678,oT #[])::(nat_lit 680,oT #[(.str "self" 1074),(.str "more" 1075)])::(nat_lit 681,oT #[])::(nat_lit 683,oC "__init__" 1071 "Mark.__init__" 1072 "/claim/cut.py" 1073 294 2 0 0 3 678 true 181 679 .none (.ref 680) (.ref 681) (.ref 682) 1076 294 "/claim/cut.py" 1077)::(nat_lit 684,oF "__init__" "Mark.__init__" (inClass (top 73) 0) 3 (.ref 677) .none (.str "notefall.deeds" 641) (.ref 683))::(nat_lit 685,oT #[])::(nat_lit 687,oT #[(.str "self" 1082)])::(nat_lit 688,oT #[])::(nat_lit 690,oC "told" 1079 "Mark.told" 1080 "/claim/cut.py" 1081 297 1 0 0 3 685 true 181 686 .none (.ref 687) (.ref 688) (.ref 689) 1083 297 "/claim/cut.py" 1084)::(nat_lit 691,oF "told" "Mark.told" (inClass (top 73) 1) 3 .none .none (.str "notefall.deeds" 641) (.ref 690))::(nat_lit 692,oT #[])::(nat_lit 693,⟨(.type "dict"),none,(.dict (List.toArray (⟨kh P "__module__",(.str "__module__" 1066),(.str "notefall.deeds" 641)⟩::⟨kh P "__firstlineno__",(.str "__firstlineno__" 1070),(.int 292 1069)⟩::⟨kh P "__init__",(.str "__init__" 1078),(.ref 684)⟩::⟨kh P "told",(.str "told" 1085),(.ref 691)⟩::⟨kh P "__static_attributes__",(.str "__static_attributes__" 1086),(.ref 692)⟩::⟨kh P "__doc__",(.str "__doc__" 1087),.none⟩::[])) 2),#[]⟩)::(nat_lit 694,⟨(.type "type"),none,(.cls ⟨"Mark",[(.ref 419)],[(.ref 694),(.ref 419),(.type "object")],693,"Mark",true,[],[],false,none,false⟩),#[(some (.ref 670)),none,(some (.str "Mark" 1059)),(some (.str "Mark" 1067)),(some (.builtin "object.__new__")),(some (.bool true))]⟩)::(nat_lit 697,oT #[(.ref 419)])::(nat_lit 704,oT #[.none,(.str "no more" 672)])::(nat_lit 705,oT #[])::(nat_lit 707,oT #[(.str "self" 1105),(.str "mark" 1106),(.str "more" 1107)])::(nat_lit 708,oT #[])::(nat_lit 710,oC "__init__" 1102 "Forget.__init__" 1103 "/claim/cut.py" 1104 301 3 0 0 3 705 true 181 706 .none (.ref 707) (.ref 708) (.ref 709) 1108 301 "/claim/cut.py" 1109)::(nat_lit 711,oF "__init__" "Forget.__init__" (inClass (top 74) 0) 3 (.ref 704) .none (.str "notefall.deeds" 641) (.ref 710))::(nat_lit 712,oT #[])::(nat_lit 714,oT #[(.str "self" 1114)])::(nat_lit 715,oT #[])::(nat_lit 717,oC "told" 1111 "Forget.told" 1112 "/claim/cut.py" 1113 305 1 0 0 3 712 true 181 713 .none (.ref 714) (.ref 715) (.ref 716) 1115 305 "/claim/cut.py" 1116)::(nat_lit 718,oF "told" "Forget.told" (inClass (top 74) 1) 3 .none .none (.str "notefall.deeds" 641) (.ref 717))::(nat_lit 719,oT #[(.str "mark" 1118)])::(nat_lit 720,⟨(.type "dict"),none,(.dict (List.toArray (⟨kh P "__module__",(.str "__module__" 1097),(.str "notefall.deeds" 641)⟩::⟨kh P "__firstlineno__",(.str "__firstlineno__" 1101),(.int 299 1100)⟩::⟨kh P "__init__",(.str "__init__" 1110),(.ref 711)⟩::⟨kh P "told",(.str "told" 1117),(.ref 718)⟩::⟨kh P "__static_attributes__",(.str "__static_attributes__" 1119),(.ref 719)⟩::⟨kh P "__doc__",(.str "__doc__" 1120),.none⟩::[])) 2),#[]⟩)::(nat_lit 721,⟨(.type "type"),none,(.cls ⟨"Forget",[(.ref 419)],[(.ref 721),(.ref 419),(.type "object")],720,"Forget",true,[],[],false,none,false⟩),#[(some (.ref 697)),none,(some (.str "Forget" 1090)),(some (.str "Forget" 1098)),(some (.builtin "object.__new__")),(some (.bool true))]⟩)::(nat_lit 724,oT #[])::(nat_lit 726,oT #[(.str "told" 1126)])::(nat_lit 727,oT #[])::(nat_lit 729,oC "has_form" 1123 "has_form" 1124 "/claim/cut.py" 1125 307 1 0 0 3 724 true 181 725 .none (.ref 726) (.ref 727) (.ref 728) 1127 307 "/claim/cut.py" 1128)::(nat_lit 730,oF "has_form" "has_form" (top 75) 3 .none .none (.str "notefall.deeds" 641) (.ref 729))::(nat_lit 731,oT #[])::(nat_lit 733,oT #[(.str "told" 1133),(.str "word" 1134)])::(nat_lit 734,oT #[])::(nat_lit 736,oC "deed_of" 1130 "deed_of" 1131 "/claim/cut.py" 1132 311 1 0 0 3 731 true 181 732 .none (.ref 733) (.ref 734) (.ref 735) 1135 311 "/claim/cut.py" 1136)::(nat_lit 737,oF "deed_of" "deed_of" (top 76) 3 .none .none (.str "notefall.deeds" 641) (.ref 736))::(nat_lit 738,oT #[])::(nat_lit 741,oC "read_words" 1138 "read_words" 1139 "/claim/cut.py" 1140 330 1 0 0 3 738 true 181 739 .none .none .none (.ref 740) 1141 330 "/claim/cut.py" 1142)::(nat_lit 742,oF "read_words" "read_words" (top 77) 3 .none .none (.str "notefall.deeds" 641) (.ref 741))::(nat_lit 743,oT #[])::(nat_lit 745,oT #[(.str "_law_cell" 1149)])::(nat_lit 746,oT #[])::(nat_lit 748,oC "_law_well" 1146 "_law_well" 1147 "/claim/cut.py" 1148 336 1 0 0 3 743 true 181 744 .none (.ref 745) (.ref 746) (.ref 747) 1150 336 "/claim/cut.py" 1151)::(nat_lit 749,oF "_law_well" "_law_well" (top 79) 3 .none .none (.str "law_notefall_k19_arguments_by_their_names" 1144) (.ref 748))::(nat_lit 750,oT #[])::(nat_lit 752,oT #[(.str "_law_well_here" 1156),(.str "_law_many" 1157),(.str "_law_found" 1158),(.str "_law_mixed" 1159)])::(nat_lit 753,oT #[])::(nat_lit 755,oC "_law_draw" 1153 "_law_draw" 1154 "/claim/cut.py" 1155 338 2 0 0 3 750 true 181 751 .none (.ref 752) (.ref 753) (.ref 754) 1160 338 "/claim/cut.py" 1161)::(nat_lit 756,oF "_law_draw" "_law_draw" (top 80) 3 .none .none (.str "law_notefall_k19_arguments_by_their_names" 1144) (.ref 755))::(nat_lit 757,oT #[])::(nat_lit 759,oT #[(.str "_law_well_here" 1166),(.str "_law_way" 1167),(.str "_law_amount" 1168)])::(nat_lit 760,oT #[])::(nat_lit 762,oC "_law_doing" 1163 "_law_doing" 1164 "/claim/cut.py" 1165 348 1 0 0 3 757 true 181 758 .none (.ref 759) (.ref 760) (.ref 761) 1169 348 "/claim/cut.py" 1170)::(nat_lit 763,oF "_law_doing" "_law_doing" (top 81) 3 .none .none (.str "law_notefall_k19_arguments_by_their_names" 1144) (.ref 762))::(nat_lit 764,oT #[])::(nat_lit 766,oT #[(.str "_law_well_here" 1175),(.str "_law_least" 1176)])::(nat_lit 767,oT #[])::(nat_lit 769,oC "_law_ends" 1172 "_law_ends" 1173 "/claim/cut.py" 1174 352 1 0 0 3 764 true 181 765 .none (.ref 766) (.ref 767) (.ref 768) 1177 352 "/claim/cut.py" 1178)::(nat_lit 770,oF "_law_ends" "_law_ends" (top 82) 3 .none .none (.str "law_notefall_k19_arguments_by_their_names" 1144) (.ref 769))::(nat_lit 771,oT #[])::(nat_lit 773,oT #[(.str "_law_well_here" 1183),(.str "_law_count" 1184),(.str "_law_least" 1185),(.str "_law_beyond" 1186)])::(nat_lit 774,oT #[])::(nat_lit 776,oC "_law_paper" 1180 "_law_paper" 1181 "/claim/cut.py" 1182 355 2 0 0 3 771 true 181 772 .none (.ref 773) (.ref 774) (.ref 775) 1187 355 "/claim/cut.py" 1188)::(nat_lit 777,oF "_law_paper" "_law_paper" (top 83) 3 .none .none (.str "law_notefall_k19_arguments_by_their_names" 1144) (.ref 776))::(nat_lit 778,oT #[])::(nat_lit 780,oT #[(.str "_law_where" 1193),(.str "_law_ends_here" 1194),(.str "_law_amount" 1195),(.str "_law_least" 1196),(.str "_law_beyond" 1197),(.str "_law_pairs" 1198),(.str "_law_named" 1199),(.str "_law_placed" 1200)])::(nat_lit 781,oT #[])::(nat_lit 783,oC "_law_deeds_right" 1190 "_law_deeds_right" 1191 "/claim/cut.py" 1192 358 3 0 0 3 778 true 181 779 .none (.ref 780) (.ref 781) (.ref 782) 1201 358 "/claim/cut.py" 1202)::(nat_lit 784,oF "_law_deeds_right" "_law_deeds_right" (top 84) 3 .none .none (.str "law_notefall_k19_arguments_by_their_names" 1144) (.ref 783))::(nat_lit 785,oT #[])::(nat_lit 787,oT #[(.str "_law_paper_here" 1207),(.str "_law_second" 1208),(.str "_law_where" 1209),(.str "_law_ends_here" 1210),(.str "_law_least" 1211),(.str "_law_beyond" 1212)])::(nat_lit 788,oT #[])::(nat_lit 790,oC "_law_notes_right" 1204 "_law_notes_right" 1205 "/claim/cut.py" 1206 372 4 0 0 3 785 true 181 786 .none (.ref 787) (.ref 788) (.ref 789) 1213 372 "/claim/cut.py" 1214)::(nat_lit 791,oF "_law_notes_right" "_law_notes_right" (top 85) 3 .none .none (.str "law_notefall_k19_arguments_by_their_names" 1144) (.ref 790))::(nat_lit 792,oT #[])::(nat_lit 794,oT #[(.str "_law_papers" 1219),(.str "_law_where" 1220),(.str "_law_ends_here" 1221),(.str "_law_looks" 1222),(.str "_law_least" 1223),(.str "_law_beyond" 1224),(.str "_law_added" 1225)])::(nat_lit 795,oT #[])::(nat_lit 797,oC "_law_trays_right" 1216 "_law_trays_right" 1217 "/claim/cut.py" 1218 379 4 0 0 3 792 true 181 793 .none (.ref 794) (.ref 795) (.ref 796) 1226 379 "/claim/cut.py" 1227)::(nat_lit 798,oF "_law_trays_right" "_law_trays_right" (top 86) 3 .none .none (.str "law_notefall_k19_arguments_by_their_names" 1144) (.ref 797))::(nat_lit 799,oT #[])::(nat_lit 802,oC "law" 1229 "law" 1230 "/claim/cut.py" 1231 387 1 0 0 3 799 true 181 800 .none .none .none (.ref 801) 1232 387 "/claim/cut.py" 1233)::(nat_lit 803,oF "law" "law" (top 87) 3 .none .none (.str "law_notefall_k19_arguments_by_their_names" 1144) (.ref 802))::[]
noncomputable def apm (P:Params):PySem.W.Frag:=(nat_lit 0,PySem.W.boot_o_0 P)::(nat_lit 1,PySem.W.boot_o_1 P)::(nat_lit 4,PySem.W.boot_o_4 P)::(nat_lit 5,PySem.W.boot_o_5 P)::(nat_lit 6,PySem.W.boot_o_6 P)::(nat_lit 7,PySem.W.boot_o_7 P)::(nat_lit 8,PySem.W.boot_o_8 P)::(nat_lit 9,PySem.W.boot_o_9 P)::(nat_lit 10,PySem.W.boot_o_10 P)::(nat_lit 11,oT #[])::(nat_lit 12,⟨.none,none,(.fields #[(.int 2 0),(.int 0 0),(.ref 20),(.int 4 0),(.int 0 0),(.ref 33),(.int 6 0),(.int 0 0),(.ref 45),(.int 8 0),(.int 0 0),(.ref 57),(.int 10 0),(.int 0 0),(.ref 69),(.int 12 0),(.int 0 0),(.ref 81),(.int 21 0),(.int 0 0),(.ref 94),(.int 23 0),(.int 0 0),(.ref 101),(.int 25 0),(.int 0 0),(.ref 108),(.int 27 0),(.int 0 0),(.ref 115),(.int 29 0),(.int 0 0),(.ref 122),(.int 31 0),(.int 0 0),(.ref 129),(.int 34 0),(.int 0 0),(.ref 136),(.int 37 0),(.int 0 0),(.ref 143),(.int 39 0),(.int 0 0),(.ref 150),(.int 49 0),(.int 0 0),(.ref 161),(.int 55 0),(.int 0 0),(.ref 168),(.int 60 0),(.int 0 0),(.ref 175),(.int 63 0),(.int 0 0),(.ref 182),(.int 68 0),(.int 0 0),(.ref 189),(.int 71 0),(.int 0 0),(.ref 196),(.int 74 0),(.int 0 0),(.ref 203),(.int 82 0),(.int 0 0),(.ref 210),(.int 85 0),(.int 0 0),(.ref 217),(.int 90 0),(.int 0 0),(.ref 224),(.int 97 0),(.int 0 0),(.ref 231),(.int 100 0),(.int 0 0),(.ref 238),(.int 102 0),(.int 0 0),(.ref 245),(.int 104 0),(.int 0 0),(.ref 252),(.int 109 0),(.int 0 0),(.ref 259),(.int 113 0),(.int 0 0),(.ref 266),(.int 117 0),(.int 0 0),(.ref 273),(.int 122 0),(.int 0 0),(.ref 278),(.int 124 0),(.int 0 0),(.ref 283),(.int 126 0),(.int 0 0),(.ref 288),(.int 129 0),(.int 0 0),(.ref 293),(.int 132 0),(.int 0 0),(.ref 301),(.int 136 0),(.int 0 0),(.ref 306),(.int 139 0),(.int 0 0),(.ref 311),(.int 143 0),(.int 0 0),(.ref 318),(.int 150 0),(.int 0 0),(.ref 325),(.int 154 0),(.int 0 0),(.ref 332),(.int 156 0),(.int 0 0),(.ref 339),(.int 158 0),(.int 0 0),(.ref 346),(.int 171 0),(.int 0 0),(.ref 354),(.int 173 0),(.int 0 0),(.ref 361),(.int 176 0),(.int 0 0),(.ref 368),(.int 178 0),(.int 0 0),(.ref 375),(.int 201 0),(.int 0 0),(.ref 429),(.int 216 0),(.int 0 0),(.ref 470),(.int 230 0),(.int 0 0),(.ref 511),(.int 245 0),(.int 0 0),(.ref 552),(.int 260 0),(.int 0 0),(.ref 593),(.int 276 0),(.int 0 0),(.ref 634),(.int 292 0),(.int 0 0),(.ref 675),(.int 299 0),(.int 0 0),(.ref 702),(.int 307 0),(.int 0 0),(.ref 729),(.int 311 0),(.int 0 0),(.ref 736),(.int 330 0),(.int 0 0),(.ref 741),(.int 336 0),(.int 0 0),(.ref 748),(.int 338 0),(.int 0 0),(.ref 755),(.int 348 0),(.int 0 0),(.ref 762),(.int 352 0),(.int 0 0),(.ref 769),(.int 355 0),(.int 0 0),(.ref 776),(.int 358 0),(.int 0 0),(.ref 783),(.int 372 0),(.int 0 0),(.ref 790),(.int 379 0),(.int 0 0),(.ref 797),(.int 387 0),(.int 0 0),(.ref 802)]),#[]⟩)::(nat_lit 13,oC "<module>" 182 "<module>" 183 "/claim/cut.py" 184 1 0 0 0 0 11 false 181 12 .none .none .none .none 185 1 "/claim/cut.py" 186)::(nat_lit 14,⟨(.type "frame"),none,.plain,#[(some (.ref 13)),(some (.ref 3)),(some (.ref 3)),none,(some (.str "__main__" 164)),none,(some (.ref 0))]⟩)::(nat_lit 16,⟨(.type "builtin_function_or_method"),none,(.fields #[(.builtin "type.__prepare__"),(.type "type")]),#[]⟩)::(nat_lit 17,⟨(.type "dict"),none,(.dict (List.toArray (⟨kh P "__module__",(.str "__module__" 196),(.str "notefall.errors" 187)⟩::⟨kh P "__qualname__",(.str "__qualname__" 198),(.str "FallError" 197)⟩::⟨kh P "__firstlineno__",(.str "__firstlineno__" 200),(.int 2 199)⟩::⟨kh P "__static_attributes__",(.str "__static_attributes__" 201),(.ref 22)⟩::[])) 4),#[]⟩)::(nat_lit 18,oT #[])::(nat_lit 19,oN)::(nat_lit 20,oC "FallError" 191 "FallError" 192 "/claim/cut.py" 193 2 0 0 0 0 18 false 181 19 .none .none .none .none 194 2 "/claim/cut.py" 195)::(nat_lit 21,⟨(.type "frame"),none,.plain,#[(some (.ref 20)),(some (.ref 3)),(some (.ref 17)),none,(some (.str "notefall.errors" 187)),none,(some (.ref 0))]⟩)::(nat_lit 26,⟨(.type "super"),none,(.fields #[(.ref 24),(.ref 24),(.ref 24)]),#[]⟩)::(nat_lit 27,⟨(.type "builtin_function_or_method"),none,(.fields #[(.builtin "object.__init_subclass__"),(.ref 24)]),#[]⟩)::(nat_lit 29,⟨(.type "builtin_function_or_method"),none,(.fields #[(.builtin "type.__prepare__"),(.type "type")]),#[]⟩)::(nat_lit 30,⟨(.type "dict"),none,(.dict (List.toArray (⟨kh P "__module__",(.str "__module__" 214),(.str "notefall.errors" 187)⟩::⟨kh P "__qualname__",(.str "__qualname__" 216),(.str "NoAction" 215)⟩::⟨kh P "__firstlineno__",(.str "__firstlineno__" 218),(.int 4 217)⟩::⟨kh P "__static_attributes__",(.str "__static_attributes__" 219),(.ref 35)⟩::[])) 4),#[]⟩)::(nat_lit 31,oT #[])::(nat_lit 32,oN)::(nat_lit 33,oC "NoAction" 209 "NoAction" 210 "/claim/cut.py" 211 4 0 0 0 0 31 false 181 32 .none .none .none .none 212 4 "/claim/cut.py" 213)::(nat_lit 34,⟨(.type "frame"),none,.plain,#[(some (.ref 33)),(some (.ref 3)),(some (.ref 30)),none,(some (.str "notefall.errors" 187)),none,(some (.ref 0))]⟩)::(nat_lit 38,⟨(.type "super"),none,(.fields #[(.ref 37),(.ref 37),(.ref 37)]),#[]⟩)::(nat_lit 39,⟨(.type "builtin_function_or_method"),none,(.fields #[(.builtin "object.__init_subclass__"),(.ref 37)]),#[]⟩)::(nat_lit 41,⟨(.type "builtin_function_or_method"),none,(.fields #[(.builtin "type.__prepare__"),(.type "type")]),#[]⟩)::(nat_lit 42,⟨(.type "dict"),none,(.dict (List.toArray (⟨kh P "__module__",(.str "__module__" 230),(.str "notefall.errors" 187)⟩::⟨kh P "__qualname__",(.str "__qualname__" 232),(.str "NoDeed" 231)⟩::⟨kh P "__firstlineno__",(.str "__firstlineno__" 234),(.int 6 233)⟩::⟨kh P "__static_attributes__",(.str "__static_attributes__" 235),(.ref 47)⟩::[])) 4),#[]⟩)::(nat_lit 43,oT #[])::(nat_lit 44,oN)::(nat_lit 45,oC "NoDeed" 225 "NoDeed" 226 "/claim/cut.py" 227 6 0 0 0 0 43 false 181 44 .none .none .none .none 228 6 "/claim/cut.py" 229)::(nat_lit 46,⟨(.type "frame"),none,.plain,#[(some (.ref 45)),(some (.ref 3)),(some (.ref 42)),none,(some (.str "notefall.errors" 187)),none,(some (.ref 0))]⟩)::(nat_lit 50,⟨(.type "super"),none,(.fields #[(.ref 49),(.ref 49),(.ref 49)]),#[]⟩)::(nat_lit 51,⟨(.type "builtin_function_or_method"),none,(.fields #[(.builtin "object.__init_subclass__"),(.ref 49)]),#[]⟩)::(nat_lit 53,⟨(.type "builtin_function_or_method"),none,(.fields #[(.builtin "type.__prepare__"),(.type "type")]),#[]⟩)::(nat_lit 54,⟨(.type "dict"),none,(.dict (List.toArray (⟨kh P "__module__",(.str "__module__" 246),(.str "notefall.errors" 187)⟩::⟨kh P "__qualname__",(.str "__qualname__" 248),(.str "NoNote" 247)⟩::⟨kh P "__firstlineno__",(.str "__firstlineno__" 250),(.int 8 249)⟩::⟨kh P "__static_attributes__",(.str "__static_attributes__" 251),(.ref 59)⟩::[])) 4),#[]⟩)::(nat_lit 55,oT #[])::(nat_lit 56,oN)::(nat_lit 57,oC "NoNote" 241 "NoNote" 242 "/claim/cut.py" 243 8 0 0 0 0 55 false 181 56 .none .none .none .none 244 8 "/claim/cut.py" 245)::(nat_lit 58,⟨(.type "frame"),none,.plain,#[(some (.ref 57)),(some (.ref 3)),(some (.ref 54)),none,(some (.str "notefall.errors" 187)),none,(some (.ref 0))]⟩)::(nat_lit 62,⟨(.type "super"),none,(.fields #[(.ref 61),(.ref 61),(.ref 61)]),#[]⟩)::(nat_lit 63,⟨(.type "builtin_function_or_method"),none,(.fields #[(.builtin "object.__init_subclass__"),(.ref 61)]),#[]⟩)::(nat_lit 65,⟨(.type "builtin_function_or_method"),none,(.fields #[(.builtin "type.__prepare__"),(.type "type")]),#[]⟩)::(nat_lit 66,⟨(.type "dict"),none,(.dict (List.toArray (⟨kh P "__module__",(.str "__module__" 262),(.str "notefall.errors" 187)⟩::⟨kh P "__qualname__",(.str "__qualname__" 264),(.str "NoKey" 263)⟩::⟨kh P "__firstlineno__",(.str "__firstlineno__" 266),(.int 10 265)⟩::⟨kh P "__static_attributes__",(.str "__static_attributes__" 267),(.ref 71)⟩::[])) 4),#[]⟩)::(nat_lit 67,oT #[])::(nat_lit 68,oN)::(nat_lit 69,oC "NoKey" 257 "NoKey" 258 "/claim/cut.py" 259 10 0 0 0 0 67 false 181 68 .none .none .none .none 260 10 "/claim/cut.py" 261)::(nat_lit 70,⟨(.type "frame"),none,.plain,#[(some (.ref 69)),(some (.ref 3)),(some (.ref 66)),none,(some (.str "notefall.errors" 187)),none,(some (.ref 0))]⟩)::(nat_lit 74,⟨(.type "super"),none,(.fields #[(.ref 73),(.ref 73),(.ref 73)]),#[]⟩)::(nat_lit 75,⟨(.type "builtin_function_or_method"),none,(.fields #[(.builtin "object.__init_subclass__"),(.ref 73)]),#[]⟩)::(nat_lit 77,⟨(.type "builtin_function_or_method"),none,(.fields #[(.builtin "type.__prepare__"),(.type "type")]),#[]⟩)::(nat_lit 78,⟨(.type "dict"),none,(.dict (List.toArray (⟨kh P "__module__",(.str "__module__" 278),(.str "notefall.errors" 187)⟩::⟨kh P "__qualname__",(.str "__qualname__" 280),(.str "NoStretch" 279)⟩::⟨kh P "__firstlineno__",(.str "__firstlineno__" 282),(.int 12 281)⟩::⟨kh P "__static_attributes__",(.str "__static_attributes__" 283),(.ref 83)⟩::[])) 4),#[]⟩)::(nat_lit 79,oT #[])::(nat_lit 80,oN)::(nat_lit 81,oC "NoStretch" 273 "NoStretch" 274 "/claim/cut.py" 275 12 0 0 0 0 79 false 181 80 .none .none .none .none 276 12 "/claim/cut.py" 277)::(nat_lit 82,⟨(.type "frame"),none,.plain,#[(some (.ref 81)),(some (.ref 3)),(some (.ref 78)),none,(some (.str "notefall.errors" 187)),none,(some (.ref 0))]⟩)::(nat_lit 86,⟨(.type "super"),none,(.fields #[(.ref 85),(.ref 85),(.ref 85)]),#[]⟩)::(nat_lit 87,⟨(.type "builtin_function_or_method"),none,(.fields #[(.builtin "object.__init_subclass__"),(.ref 85)]),#[]⟩)::(nat_lit 90,oN)::(nat_lit 93,oG "is_number" "is_number" (top 14))::(nat_lit 97,oN)::(nat_lit 100,oG "is_whole" "is_whole" (top 15))::(nat_lit 104,oN)::(nat_lit 107,oG "is_whole_from" "is_whole_from" (top 16))::(nat_lit 111,oN)::(nat_lit 114,oG "is_key" "is_key" (top 17))::(nat_lit 118,oN)::(nat_lit 121,oG "is_stretch" "is_stretch" (top 18))::(nat_lit 125,oN)::(nat_lit 128,oG "check_key" "check_key" (top 19))::(nat_lit 132,oN)::(nat_lit 135,oG "check_stretch" "check_stretch" (top 20))::(nat_lit 139,oN)::(nat_lit 142,oG "is_plan" "is_plan" (top 21))::(nat_lit 146,oN)::(nat_lit 149,oG "is_rule" "is_rule" (top 22))::(nat_lit 157,oN)::(nat_lit 160,oG "is_half" "is_half" (top 26))::(nat_lit 164,oN)::(nat_lit 167,oG "is_action" "is_action" (top 27))::(nat_lit 171,oN)::(nat_lit 174,oG "check_action" "check_action" (top 28))::(nat_lit 178,oN)::(nat_lit 181,oG "half_acts" "half_acts" (top 29))::(nat_lit 185,oN)::(nat_lit 188,oG "does" "does" (top 30))::(nat_lit 192,oN)::(nat_lit 195,oG "acts" "acts" (top 31))::(nat_lit 199,oN)::(nat_lit 202,oG "half_behind" "half_behind" (top 32))::(nat_lit 206,oN)::(nat_lit 209,oG "joined" "joined" (top 33))::(nat_lit 213,oN)::(nat_lit 216,oG "behind" "behind" (top 34))::(nat_lit 220,oN)::(nat_lit 223,oG "is_note" "is_note" (top 36))::(nat_lit 227,oN)::(nat_lit 230,oG "check_note" "check_note" (top 37))::(nat_lit 234,oN)::(nat_lit 237,oG "has_key" "has_key" (top 38))::(nat_lit 241,oN)::(nat_lit 244,oG "have_common" "have_common" (top 39))::(nat_lit 248,oN)::(nat_lit 251,oG "cut" "cut" (top 40))::(nat_lit 255,oN)::(nat_lit 258,oG "touches" "touches" (top 41))::(nat_lit 262,oN)::(nat_lit 265,oG "shares" "shares" (top 42))::(nat_lit 269,oN)::(nat_lit 272,oG "part" "part" (top 43))::(nat_lit 276,oN)::(nat_lit 277,oG "up_to" "up_to" (top 45))::(nat_lit 281,oN)::(nat_lit 282,oG "touching" "touching" (top 46))::(nat_lit 286,oN)::(nat_lit 287,oG "within" "within" (top 47))::(nat_lit 291,oN)::(nat_lit 292,oG "without" "without" (top 48))::(nat_lit 297,oN)::(nat_lit 300,oG "seen" "seen" (top 49))::(nat_lit 304,oN)::(nat_lit 305,oG "last_sharing" "last_sharing" (top 50))::(nat_lit 309,oN)::(nat_lit 310,oG "may_join" "may_join" (top 51))::(nat_lit 314,oN)::(nat_lit 317,oG "laid" "laid" (top 52))::(nat_lit 321,oN)::(nat_lit 324,oG "poured" "poured" (top 53))::(nat_lit 328,oN)::(nat_lit 331,oG "figures_of" "figures_of" (top 56))::(nat_lit 335,oN)::(nat_lit 338,oG "are_figures" "are_figures" (top 57))::(nat_lit 342,oN)::(nat_lit 345,oG "read_figures" "read_figures" (top 58))::(nat_lit 350,oN)::(nat_lit 353,oG "is_amount" "is_amount" (top 63))::(nat_lit 357,oN)::(nat_lit 360,oG "check_things" "check_things" (top 64))::(nat_lit 364,oN)::(nat_lit 367,oG "word_of" "word_of" (top 65))::(nat_lit 370,oT #[])::(nat_lit 371,⟨(.type "builtin_function_or_method"),none,(.fields #[(.builtin "type.__prepare__"),(.type "type")]),#[]⟩)::(nat_lit 372,⟨(.type "dict"),none,(.dict (List.toArray (⟨kh P "__module__",(.str "__module__" 703),(.str "notefall.deeds" 641)⟩::⟨kh P "__qualname__",(.str "__qualname__" 705),(.str "Deed" 704)⟩::⟨kh P "__firstlineno__",(.str "__firstlineno__" 707),(.int 178 706)⟩::⟨kh P "told",(.str "told" 714),(.ref 383)⟩::⟨kh P "action",(.str "action" 721),(.ref 390)⟩::⟨kh P "span",(.str "span" 728),(.ref 397)⟩::⟨kh P "note",(.str "note" 739),(.ref 404)⟩::⟨kh P "__str__",(.str "__str__" 745),(.ref 409)⟩::⟨kh P "__eq__",(.str "__eq__" 753),(.ref 416)⟩::⟨kh P "__static_attributes__",(.str "__static_attributes__" 754),(.ref 417)⟩::[])) 10),#[]⟩)::(nat_lit 373,oT #[])::(nat_lit 374,⟨.none,none,(.fields #[(.int 180 0),(.int 4 0),(.ref 382),(.int 183 0),(.int 4 0),(.ref 389),(.int 186 0),(.int 4 0),(.ref 396),(.int 189 0),(.int 4 0),(.ref 403),(.int 196 0),(.int 4 0),(.ref 408),(.int 199 0),(.int 4 0),(.ref 415)]),#[]⟩)::(nat_lit 375,oC "Deed" 698 "Deed" 699 "/claim/cut.py" 700 178 0 0 0 0 373 false 181 374 .none .none .none .none 701 178 "/claim/cut.py" 702)::(nat_lit 376,⟨(.type "frame"),none,.plain,#[(some (.ref 375)),(some (.ref 3)),(some (.ref 372)),none,(some (.str "notefall.deeds" 641)),none,(some (.ref 0))]⟩)::(nat_lit 378,oN)::(nat_lit 381,oG "told" "Deed.told" (inClass (top 66) 0))::(nat_lit 385,oN)::(nat_lit 388,oG "action" "Deed.action" (inClass (top 66) 1))::(nat_lit 392,oN)::(nat_lit 395,oG "span" "Deed.span" (inClass (top 66) 2))::(nat_lit 399,oN)::(nat_lit 402,oG "note" "Deed.note" (inClass (top 66) 3))::(nat_lit 406,oN)::(nat_lit 407,oG "__str__" "Deed.__str__" (inClass (top 66) 4))::(nat_lit 411,oN)::(nat_lit 414,oG "__eq__" "Deed.__eq__" (inClass (top 66) 5))::(nat_lit 422,⟨(.type "super"),none,(.fields #[(.ref 419),(.ref 419),(.ref 419)]),#[]⟩)::(nat_lit 423,⟨(.type "builtin_function_or_method"),none,(.fields #[(.builtin "object.__init_subclass__"),(.ref 419)]),#[]⟩)::(nat_lit 425,⟨(.type "builtin_function_or_method"),none,(.fields #[(.builtin "type.__prepare__"),(.type "type")]),#[]⟩)::(nat_lit 426,⟨(.type "dict"),none,(.dict (List.toArray (⟨kh P "__module__",(.str "__module__" 770),(.str "notefall.deeds" 641)⟩::⟨kh P "__qualname__",(.str "__qualname__" 772),(.str "Put" 771)⟩::⟨kh P "__firstlineno__",(.str "__firstlineno__" 774),(.int 201 773)⟩::⟨kh P "__init__",(.str "__init__" 784),(.ref 438)⟩::⟨kh P "told",(.str "told" 791),(.ref 445)⟩::⟨kh P "action",(.str "action" 798),(.ref 452)⟩::⟨kh P "span",(.str "span" 805),(.ref 459)⟩::⟨kh P "__static_attributes__",(.str "__static_attributes__" 808),(.ref 460)⟩::[])) 8),#[]⟩)::(nat_lit 427,oT #[])::(nat_lit 428,⟨.none,none,(.fields #[(.int 203 0),(.int 4 0),(.ref 437),(.int 208 0),(.int 4 0),(.ref 444),(.int 211 0),(.int 4 0),(.ref 451),(.int 214 0),(.int 4 0),(.ref 458)]),#[]⟩)::(nat_lit 429,oC "Put" 765 "Put" 766 "/claim/cut.py" 767 201 0 0 0 0 427 false 181 428 .none .none .none .none 768 201 "/claim/cut.py" 769)::(nat_lit 430,⟨(.type "frame"),none,.plain,#[(some (.ref 429)),(some (.ref 3)),(some (.ref 426)),none,(some (.str "notefall.deeds" 641)),none,(some (.ref 0))]⟩)::(nat_lit 433,oN)::(nat_lit 436,oG "__init__" "Put.__init__" (inClass (top 67) 0))::(nat_lit 440,oN)::(nat_lit 443,oG "told" "Put.told" (inClass (top 67) 1))::(nat_lit 447,oN)::(nat_lit 450,oG "action" "Put.action" (inClass (top 67) 2))::(nat_lit 454,oN)::(nat_lit 457,oG "span" "Put.span" (inClass (top 67) 3))::(nat_lit 463,⟨(.type "super"),none,(.fields #[(.ref 462),(.ref 462),(.ref 462)]),#[]⟩)::(nat_lit 464,⟨(.type "builtin_function_or_method"),none,(.fields #[(.builtin "object.__init_subclass__"),(.ref 462)]),#[]⟩)::(nat_lit 466,⟨(.type "builtin_function_or_method"),none,(.fields #[(.builtin "type.__prepare__"),(.type "type")]),#[]⟩)::(nat_lit 467,⟨(.type "dict"),none,(.dict (List.toArray (⟨kh P "__module__",(.str "__module__" 819),(.str "notefall.deeds" 641)⟩::⟨kh P "__qualname__",(.str "__qualname__" 821),(.str "Drop" 820)⟩::⟨kh P "__firstlineno__",(.str "__firstlineno__" 823),(.int 216 822)⟩::⟨kh P "__init__",(.str "__init__" 832),(.ref 479)⟩::⟨kh P "told",(.str "told" 839),(.ref 486)⟩::⟨kh P "action",(.str "action" 846),(.ref 493)⟩::⟨kh P "span",(.str "span" 853),(.ref 500)⟩::⟨kh P "__static_attributes__",(.str "__static_attributes__" 855),(.ref 501)⟩::[])) 8),#[]⟩)::(nat_lit 468,oT #[])::(nat_lit 469,⟨.none,none,(.fields #[(.int 218 0),(.int 4 0),(.ref 478),(.int 222 0),(.int 4 0),(.ref 485),(.int 225 0),(.int 4 0),(.ref 492),(.int 228 0),(.int 4 0),(.ref 499)]),#[]⟩)::(nat_lit 470,oC "Drop" 814 "Drop" 815 "/claim/cut.py" 816 216 0 0 0 0 468 false 181 469 .none .none .none .none 817 216 "/claim/cut.py" 818)::(nat_lit 471,⟨(.type "frame"),none,.plain,#[(some (.ref 470)),(some (.ref 3)),(some (.ref 467)),none,(some (.str "notefall.deeds" 641)),none,(some (.ref 0))]⟩)::(nat_lit 474,oN)::(nat_lit 477,oG "__init__" "Drop.__init__" (inClass (top 68) 0))::(nat_lit 481,oN)::(nat_lit 484,oG "told" "Drop.told" (inClass (top 68) 1))::(nat_lit 488,oN)::(nat_lit 491,oG "action" "Drop.action" (inClass (top 68) 2))::(nat_lit 495,oN)::(nat_lit 498,oG "span" "Drop.span" (inClass (top 68) 3))::(nat_lit 504,⟨(.type "super"),none,(.fields #[(.ref 503),(.ref 503),(.ref 503)]),#[]⟩)::(nat_lit 505,⟨(.type "builtin_function_or_method"),none,(.fields #[(.builtin "object.__init_subclass__"),(.ref 503)]),#[]⟩)::(nat_lit 507,⟨(.type "builtin_function_or_method"),none,(.fields #[(.builtin "type.__prepare__"),(.type "type")]),#[]⟩)::(nat_lit 508,⟨(.type "dict"),none,(.dict (List.toArray (⟨kh P "__module__",(.str "__module__" 866),(.str "notefall.deeds" 641)⟩::⟨kh P "__qualname__",(.str "__qualname__" 868),(.str "Add" 867)⟩::⟨kh P "__firstlineno__",(.str "__firstlineno__" 870),(.int 230 869)⟩::⟨kh P "__init__",(.str "__init__" 880),(.ref 520)⟩::⟨kh P "told",(.str "told" 887),(.ref 527)⟩::⟨kh P "action",(.str "action" 894),(.ref 534)⟩::⟨kh P "span",(.str "span" 901),(.ref 541)⟩::⟨kh P "__static_attributes__",(.str "__static_attributes__" 904),(.ref 542)⟩::[])) 8),#[]⟩)::(nat_lit 509,oT #[])::(nat_lit 510,⟨.none,none,(.fields #[(.int 232 0),(.int 4 0),(.ref 519),(.int 237 0),(.int 4 0),(.ref 526),(.int 240 0),(.int 4 0),(.ref 533),(.int 243 0),(.int 4 0),(.ref 540)]),#[]⟩)::(nat_lit 511,oC "Add" 861 "Add" 862 "/claim/cut.py" 863 230 0 0 0 0 509 false 181 510 .none .none .none .none 864 230 "/claim/cut.py" 865)::(nat_lit 512,⟨(.type "frame"),none,.plain,#[(some (.ref 511)),(some (.ref 3)),(some (.ref 508)),none,(some (.str "notefall.deeds" 641)),none,(some (.ref 0))]⟩)::(nat_lit 515,oN)::(nat_lit 518,oG "__init__" "Add.__init__" (inClass (top 69) 0))::(nat_lit 522,oN)::(nat_lit 525,oG "told" "Add.told" (inClass (top 69) 1))::(nat_lit 529,oN)::(nat_lit 532,oG "action" "Add.action" (inClass (top 69) 2))::(nat_lit 536,oN)::(nat_lit 539,oG "span" "Add.span" (inClass (top 69) 3))::(nat_lit 545,⟨(.type "super"),none,(.fields #[(.ref 544),(.ref 544),(.ref 544)]),#[]⟩)::(nat_lit 546,⟨(.type "builtin_function_or_method"),none,(.fields #[(.builtin "object.__init_subclass__"),(.ref 544)]),#[]⟩)::(nat_lit 548,⟨(.type "builtin_function_or_method"),none,(.fields #[(.builtin "type.__prepare__"),(.type "type")]),#[]⟩)::(nat_lit 549,⟨(.type "dict"),none,(.dict (List.toArray (⟨kh P "__module__",(.str "__module__" 915),(.str "notefall.deeds" 641)⟩::⟨kh P "__qualname__",(.str "__qualname__" 917),(.str "Wipe" 916)⟩::⟨kh P "__firstlineno__",(.str "__firstlineno__" 919),(.int 245 918)⟩::⟨kh P "__init__",(.str "__init__" 929),(.ref 561)⟩::⟨kh P "told",(.str "told" 936),(.ref 568)⟩::⟨kh P "action",(.str "action" 943),(.ref 575)⟩::⟨kh P "span",(.str "span" 950),(.ref 582)⟩::⟨kh P "__static_attributes__",(.str "__static_attributes__" 953),(.ref 583)⟩::[])) 8),#[]⟩)::(nat_lit 550,oT #[])::(nat_lit 551,⟨.none,none,(.fields #[(.int 247 0),(.int 4 0),(.ref 560),(.int 252 0),(.int 4 0),(.ref 567),(.int 255 0),(.int 4 0),(.ref 574),(.int 258 0),(.int 4 0),(.ref 581)]),#[]⟩)::(nat_lit 552,oC "Wipe" 910 "Wipe" 911 "/claim/cut.py" 912 245 0 0 0 0 550 false 181 551 .none .none .none .none 913 245 "/claim/cut.py" 914)::(nat_lit 553,⟨(.type "frame"),none,.plain,#[(some (.ref 552)),(some (.ref 3)),(some (.ref 549)),none,(some (.str "notefall.deeds" 641)),none,(some (.ref 0))]⟩)::(nat_lit 556,oN)::(nat_lit 559,oG "__init__" "Wipe.__init__" (inClass (top 70) 0))::(nat_lit 563,oN)::(nat_lit 566,oG "told" "Wipe.told" (inClass (top 70) 1))::(nat_lit 570,oN)::(nat_lit 573,oG "action" "Wipe.action" (inClass (top 70) 2))::(nat_lit 577,oN)::(nat_lit 580,oG "span" "Wipe.span" (inClass (top 70) 3))::(nat_lit 586,⟨(.type "super"),none,(.fields #[(.ref 585),(.ref 585),(.ref 585)]),#[]⟩)::(nat_lit 587,⟨(.type "builtin_function_or_method"),none,(.fields #[(.builtin "object.__init_subclass__"),(.ref 585)]),#[]⟩)::(nat_lit 589,⟨(.type "builtin_function_or_method"),none,(.fields #[(.builtin "type.__prepare__"),(.type "type")]),#[]⟩)::(nat_lit 590,⟨(.type "dict"),none,(.dict (List.toArray (⟨kh P "__module__",(.str "__module__" 964),(.str "notefall.deeds" 641)⟩::⟨kh P "__qualname__",(.str "__qualname__" 966),(.str "Raise" 965)⟩::⟨kh P "__firstlineno__",(.str "__firstlineno__" 968),(.int 260 967)⟩::⟨kh P "__init__",(.str "__init__" 979),(.ref 602)⟩::⟨kh P "told",(.str "told" 986),(.ref 609)⟩::⟨kh P "action",(.str "action" 993),(.ref 616)⟩::⟨kh P "span",(.str "span" 1000),(.ref 623)⟩::⟨kh P "__static_attributes__",(.str "__static_attributes__" 1004),(.ref 624)⟩::[])) 8),#[]⟩)::(nat_lit 591,oT #[])::(nat_lit 592,⟨.none,none,(.fields #[(.int 262 0),(.int 4 0),(.ref 601),(.int 268 0),(.int 4 0),(.ref 608),(.int 271 0),(.int 4 0),(.ref 615),(.int 274 0),(.int 4 0),(.ref 622)]),#[]⟩)::(nat_lit 593,oC "Raise" 959 "Raise" 960 "/claim/cut.py" 961 260 0 0 0 0 591 false 181 592 .none .none .none .none 962 260 "/claim/cut.py" 963)::(nat_lit 594,⟨(.type "frame"),none,.plain,#[(some (.ref 593)),(some (.ref 3)),(some (.ref 590)),none,(some (.str "notefall.deeds" 641)),none,(some (.ref 0))]⟩)::(nat_lit 597,oN)::(nat_lit 600,oG "__init__" "Raise.__init__" (inClass (top 71) 0))::(nat_lit 604,oN)::(nat_lit 607,oG "told" "Raise.told" (inClass (top 71) 1))::(nat_lit 611,oN)::(nat_lit 614,oG "action" "Raise.action" (inClass (top 71) 2))::(nat_lit 618,oN)::(nat_lit 621,oG "span" "Raise.span" (inClass (top 71) 3))::(nat_lit 627,⟨(.type "super"),none,(.fields #[(.ref 626),(.ref 626),(.ref 626)]),#[]⟩)::(nat_lit 628,⟨(.type "builtin_function_or_method"),none,(.fields #[(.builtin "object.__init_subclass__"),(.ref 626)]),#[]⟩)::(nat_lit 630,⟨(.type "builtin_function_or_method"),none,(.fields #[(.builtin "type.__prepare__"),(.type "type")]),#[]⟩)::(nat_lit 631,⟨(.type "dict"),none,(.dict (List.toArray (⟨kh P "__module__",(.str "__module__" 1015),(.str "notefall.deeds" 641)⟩::⟨kh P "__qualname__",(.str "__qualname__" 1017),(.str "Level" 1016)⟩::⟨kh P "__firstlineno__",(.str "__firstlineno__" 1019),(.int 276 1018)⟩::⟨kh P "__init__",(.str "__init__" 1030),(.ref 643)⟩::⟨kh P "told",(.str "told" 1037),(.ref 650)⟩::⟨kh P "action",(.str "action" 1044),(.ref 657)⟩::⟨kh P "span",(.str "span" 1051),(.ref 664)⟩::⟨kh P "__static_attributes__",(.str "__static_attributes__" 1055),(.ref 665)⟩::[])) 8),#[]⟩)::(nat_lit 632,oT #[])::(nat_lit 633,⟨.none,none,(.fields #[(.int 278 0),(.int 4 0),(.ref 642),(.int 284 0),(.int 4 0),(.ref 649),(.int 287 0),(.int 4 0),(.ref 656),(.int 290 0),(.int 4 0),(.ref 663)]),#[]⟩)::(nat_lit 634,oC "Level" 1010 "Level" 1011 "/claim/cut.py" 1012 276 0 0 0 0 632 false 181 633 .none .none .none .none 1013 276 "/claim/cut.py" 1014)::(nat_lit 635,⟨(.type "frame"),none,.plain,#[(some (.ref 634)),(some (.ref 3)),(some (.ref 631)),none,(some (.str "notefall.deeds" 641)),none,(some (.ref 0))]⟩)::(nat_lit 638,oN)::(nat_lit 641,oG "__init__" "Level.__init__" (inClass (top 72) 0))::(nat_lit 645,oN)::(nat_lit 648,oG "told" "Level.told" (inClass (top 72) 1))::(nat_lit 652,oN)::(nat_lit 655,oG "action" "Level.action" (inClass (top 72) 2))::(nat_lit 659,oN)::(nat_lit 662,oG "span" "Level.span" (inClass (top 72) 3))::(nat_lit 668,⟨(.type "super"),none,(.fields #[(.ref 667),(.ref 667),(.ref 667)]),#[]⟩)::(nat_lit 669,⟨(.type "builtin_function_or_method"),none,(.fields #[(.builtin "object.__init_subclass__"),(.ref 667)]),#[]⟩)::(nat_lit 671,⟨(.type "builtin_function_or_method"),none,(.fields #[(.builtin "type.__prepare__"),(.type "type")]),#[]⟩)::(nat_lit 672,⟨(.type "dict"),none,(.dict (List.toArray (⟨kh P "__module__",(.str "__module__" 1066),(.str "notefall.deeds" 641)⟩::⟨kh P "__qualname__",(.str "__qualname__" 1068),(.str "Mark" 1067)⟩::⟨kh P "__firstlineno__",(.str "__firstlineno__" 1070),(.int 292 1069)⟩::⟨kh P "__init__",(.str "__init__" 1078),(.ref 684)⟩::⟨kh P "told",(.str "told" 1085),(.ref 691)⟩::⟨kh P "__static_attributes__",(.str "__static_attributes__" 1086),(.ref 692)⟩::[])) 6),#[]⟩)::(nat_lit 673,oT #[])::(nat_lit 674,⟨.none,none,(.fields #[(.int 294 0),(.int 4 0),(.ref 683),(.int 297 0),(.int 4 0),(.ref 690)]),#[]⟩)::(nat_lit 675,oC "Mark" 1061 "Mark" 1062 "/claim/cut.py" 1063 292 0 0 0 0 673 false 181 674 .none .none .none .none 1064 292 "/claim/cut.py" 1065)::(nat_lit 676,⟨(.type "frame"),none,.plain,#[(some (.ref 675)),(some (.ref 3)),(some (.ref 672)),none,(some (.str "notefall.deeds" 641)),none,(some (.ref 0))]⟩)::(nat_lit 679,oN)::(nat_lit 682,oG "__init__" "Mark.__init__" (inClass (top 73) 0))::(nat_lit 686,oN)::(nat_lit 689,oG "told" "Mark.told" (inClass (top 73) 1))::(nat_lit 695,⟨(.type "super"),none,(.fields #[(.ref 694),(.ref 694),(.ref 694)]),#[]⟩)::(nat_lit 696,⟨(.type "builtin_function_or_method"),none,(.fields #[(.builtin "object.__init_subclass__"),(.ref 694)]),#[]⟩)::(nat_lit 698,⟨(.type "builtin_function_or_method"),none,(.fields #[(.builtin "type.__prepare__"),(.type "type")]),#[]⟩)::(nat_lit 699,⟨(.type "dict"),none,(.dict (List.toArray (⟨kh P "__module__",(.str "__module__" 1097),(.str "notefall.deeds" 641)⟩::⟨kh P "__qualname__",(.str "__qualname__" 1099),(.str "Forget" 1098)⟩::⟨kh P "__firstlineno__",(.str "__firstlineno__" 1101),(.int 299 1100)⟩::⟨kh P "__init__",(.str "__init__" 1110),(.ref 711)⟩::⟨kh P "told",(.str "told" 1117),(.ref 718)⟩::⟨kh P "__static_attributes__",(.str "__static_attributes__" 1119),(.ref 719)⟩::[])) 6),#[]⟩)::(nat_lit 700,oT #[])::(nat_lit 701,⟨.none,none,(.fields #[(.int 301 0),(.int 4 0),(.ref 710),(.int 305 0),(.int 4 0),(.ref 717)]),#[]⟩)::(nat_lit 702,oC "Forget" 1092 "Forget" 1093 "/claim/cut.py" 1094 299 0 0 0 0 700 false 181 701 .none .none .none .none 1095 299 "/claim/cut.py" 1096)::(nat_lit 703,⟨(.type "frame"),none,.plain,#[(some (.ref 702)),(some (.ref 3)),(some (.ref 699)),none,(some (.str "notefall.deeds" 641)),none,(some (.ref 0))]⟩)::(nat_lit 706,oN)::(nat_lit 709,oG "__init__" "Forget.__init__" (inClass (top 74) 0))::(nat_lit 713,oN)::(nat_lit 716,oG "told" "Forget.told" (inClass (top 74) 1))::(nat_lit 722,⟨(.type "super"),none,(.fields #[(.ref 721),(.ref 721),(.ref 721)]),#[]⟩)::(nat_lit 723,⟨(.type "builtin_function_or_method"),none,(.fields #[(.builtin "object.__init_subclass__"),(.ref 721)]),#[]⟩)::(nat_lit 725,oN)::(nat_lit 728,oG "has_form" "has_form" (top 75))::(nat_lit 732,oN)::(nat_lit 735,oG "deed_of" "deed_of" (top 76))::(nat_lit 739,oN)::(nat_lit 740,oG "read_words" "read_words" (top 77))::(nat_lit 744,oN)::(nat_lit 747,oG "_law_well" "_law_well" (top 79))::(nat_lit 751,oN)::(nat_lit 754,oG "_law_draw" "_law_draw" (top 80))::(nat_lit 758,oN)::(nat_lit 761,oG "_law_doing" "_law_doing" (top 81))::(nat_lit 765,oN)::(nat_lit 768,oG "_law_ends" "_law_ends" (top 82))::(nat_lit 772,oN)::(nat_lit 775,oG "_law_paper" "_law_paper" (top 83))::(nat_lit 779,oN)::(nat_lit 782,oG "_law_deeds_right" "_law_deeds_right" (top 84))::(nat_lit 786,oN)::(nat_lit 789,oG "_law_notes_right" "_law_notes_right" (top 85))::(nat_lit 793,oN)::(nat_lit 796,oG "_law_trays_right" "_law_trays_right" (top 86))::(nat_lit 800,oN)::(nat_lit 801,oG "law" "law" (top 87))::[]
def Xa:List Addr:=nat_lit 2::nat_lit 3::nat_lit 15::nat_lit 22::nat_lit 23::nat_lit 24::nat_lit 25::nat_lit 28::nat_lit 35::nat_lit 36::nat_lit 37::nat_lit 40::nat_lit 47::nat_lit 48::nat_lit 49::nat_lit 52::nat_lit 59::nat_lit 60::nat_lit 61::nat_lit 64::nat_lit 71::nat_lit 72::nat_lit 73::nat_lit 76::nat_lit 83::nat_lit 84::nat_lit 85::nat_lit 88::nat_lit 89::nat_lit 91::nat_lit 92::nat_lit 94::nat_lit 95::nat_lit 96::nat_lit 98::nat_lit 99::nat_lit 101::nat_lit 102::nat_lit 103::nat_lit 105::nat_lit 106::nat_lit 108::nat_lit 109::nat_lit 110::nat_lit 112::nat_lit 113::nat_lit 115::nat_lit 116::nat_lit 117::nat_lit 119::nat_lit 120::nat_lit 122::nat_lit 123::nat_lit 124::nat_lit 126::nat_lit 127::nat_lit 129::nat_lit 130::nat_lit 131::nat_lit 133::nat_lit 134::nat_lit 136::nat_lit 137::nat_lit 138::nat_lit 140::nat_lit 141::nat_lit 143::nat_lit 144::nat_lit 145::nat_lit 147::nat_lit 148::nat_lit 150::nat_lit 151::nat_lit 152::nat_lit 153::nat_lit 154::nat_lit 155::nat_lit 156::nat_lit 158::nat_lit 159::nat_lit 161::nat_lit 162::nat_lit 163::nat_lit 165::nat_lit 166::nat_lit 168::nat_lit 169::nat_lit 170::nat_lit 172::nat_lit 173::nat_lit 175::nat_lit 176::nat_lit 177::nat_lit 179::nat_lit 180::nat_lit 182::nat_lit 183::nat_lit 184::nat_lit 186::nat_lit 187::nat_lit 189::nat_lit 190::nat_lit 191::nat_lit 193::nat_lit 194::nat_lit 196::nat_lit 197::nat_lit 198::nat_lit 200::nat_lit 201::nat_lit 203::nat_lit 204::nat_lit 205::nat_lit 207::nat_lit 208::nat_lit 210::nat_lit 211::nat_lit 212::nat_lit 214::nat_lit 215::nat_lit 217::nat_lit 218::nat_lit 219::nat_lit 221::nat_lit 222::nat_lit 224::nat_lit 225::nat_lit 226::nat_lit 228::nat_lit 229::nat_lit 231::nat_lit 232::nat_lit 233::nat_lit 235::nat_lit 236::nat_lit 238::nat_lit 239::nat_lit 240::nat_lit 242::nat_lit 243::nat_lit 245::nat_lit 246::nat_lit 247::nat_lit 249::nat_lit 250::nat_lit 252::nat_lit 253::nat_lit 254::nat_lit 256::nat_lit 257::nat_lit 259::nat_lit 260::nat_lit 261::nat_lit 263::nat_lit 264::nat_lit 266::nat_lit 267::nat_lit 268::nat_lit 270::nat_lit 271::nat_lit 273::nat_lit 274::nat_lit 275::nat_lit 278::nat_lit 279::nat_lit 280::nat_lit 283::nat_lit 284::nat_lit 285::nat_lit 288::nat_lit 289::nat_lit 290::nat_lit 293::nat_lit 294::nat_lit 295::nat_lit 296::nat_lit 298::nat_lit 299::nat_lit 301::nat_lit 302::nat_lit 303::nat_lit 306::nat_lit 307::nat_lit 308::nat_lit 311::nat_lit 312::nat_lit 313::nat_lit 315::nat_lit 316::nat_lit 318::nat_lit 319::nat_lit 320::nat_lit 322::nat_lit 323::nat_lit 325::nat_lit 326::nat_lit 327::nat_lit 329::nat_lit 330::nat_lit 332::nat_lit 333::nat_lit 334::nat_lit 336::nat_lit 337::nat_lit 339::nat_lit 340::nat_lit 341::nat_lit 343::nat_lit 344::nat_lit 346::nat_lit 347::nat_lit 348::nat_lit 349::nat_lit 351::nat_lit 352::nat_lit 354::nat_lit 355::nat_lit 356::nat_lit 358::nat_lit 359::nat_lit 361::nat_lit 362::nat_lit 363::nat_lit 365::nat_lit 366::nat_lit 368::nat_lit 369::nat_lit 377::nat_lit 379::nat_lit 380::nat_lit 382::nat_lit 383::nat_lit 384::nat_lit 386::nat_lit 387::nat_lit 389::nat_lit 390::nat_lit 391::nat_lit 393::nat_lit 394::nat_lit 396::nat_lit 397::nat_lit 398::nat_lit 400::nat_lit 401::nat_lit 403::nat_lit 404::nat_lit 405::nat_lit 408::nat_lit 409::nat_lit 410::nat_lit 412::nat_lit 413::nat_lit 415::nat_lit 416::nat_lit 417::nat_lit 418::nat_lit 419::nat_lit 420::nat_lit 421::nat_lit 424::nat_lit 431::nat_lit 432::nat_lit 434::nat_lit 435::nat_lit 437::nat_lit 438::nat_lit 439::nat_lit 441::nat_lit 442::nat_lit 444::nat_lit 445::nat_lit 446::nat_lit 448::nat_lit 449::nat_lit 451::nat_lit 452::nat_lit 453::nat_lit 455::nat_lit 456::nat_lit 458::nat_lit 459::nat_lit 460::nat_lit 461::nat_lit 462::nat_lit 465::nat_lit 472::nat_lit 473::nat_lit 475::nat_lit 476::nat_lit 478::nat_lit 479::nat_lit 480::nat_lit 482::nat_lit 483::nat_lit 485::nat_lit 486::nat_lit 487::nat_lit 489::nat_lit 490::nat_lit 492::nat_lit 493::nat_lit 494::nat_lit 496::nat_lit 497::nat_lit 499::nat_lit 500::nat_lit 501::nat_lit 502::nat_lit 503::nat_lit 506::nat_lit 513::nat_lit 514::nat_lit 516::nat_lit 517::nat_lit 519::nat_lit 520::nat_lit 521::nat_lit 523::nat_lit 524::nat_lit 526::nat_lit 527::nat_lit 528::nat_lit 530::nat_lit 531::nat_lit 533::nat_lit 534::nat_lit 535::nat_lit 537::nat_lit 538::nat_lit 540::nat_lit 541::nat_lit 542::nat_lit 543::nat_lit 544::nat_lit 547::nat_lit 554::nat_lit 555::nat_lit 557::nat_lit 558::nat_lit 560::nat_lit 561::nat_lit 562::nat_lit 564::nat_lit 565::nat_lit 567::nat_lit 568::nat_lit 569::nat_lit 571::nat_lit 572::nat_lit 574::nat_lit 575::nat_lit 576::nat_lit 578::nat_lit 579::nat_lit 581::nat_lit 582::nat_lit 583::nat_lit 584::nat_lit 585::nat_lit 588::nat_lit 595::nat_lit 596::nat_lit 598::nat_lit 599::nat_lit 601::nat_lit 602::nat_lit 603::nat_lit 605::nat_lit 606::nat_lit 608::nat_lit 609::nat_lit 610::nat_lit 612::nat_lit 613::nat_lit 615::nat_lit 616::nat_lit 617::nat_lit 619::nat_lit 620::nat_lit 622::nat_lit 623::nat_lit 624::nat_lit 625::nat_lit 626::nat_lit 629::nat_lit 636::nat_lit 637::nat_lit 639::nat_lit 640::nat_lit 642::nat_lit 643::nat_lit 644::nat_lit 646::nat_lit 647::nat_lit 649::nat_lit 650::nat_lit 651::nat_lit 653::nat_lit 654::nat_lit 656::nat_lit 657::nat_lit 658::nat_lit 660::nat_lit 661::nat_lit 663::nat_lit 664::nat_lit 665::nat_lit 666::nat_lit 667::nat_lit 670::nat_lit 677::nat_lit 678::nat_lit 680::nat_lit 681::nat_lit 683::nat_lit 684::nat_lit 685::nat_lit 687::nat_lit 688::nat_lit 690::nat_lit 691::nat_lit 692::nat_lit 693::nat_lit 694::nat_lit 697::nat_lit 704::nat_lit 705::nat_lit 707::nat_lit 708::nat_lit 710::nat_lit 711::nat_lit 712::nat_lit 714::nat_lit 715::nat_lit 717::nat_lit 718::nat_lit 719::nat_lit 720::nat_lit 721::nat_lit 724::nat_lit 726::nat_lit 727::nat_lit 729::nat_lit 730::nat_lit 731::nat_lit 733::nat_lit 734::nat_lit 736::nat_lit 737::nat_lit 738::nat_lit 741::nat_lit 742::nat_lit 743::nat_lit 745::nat_lit 746::nat_lit 748::nat_lit 749::nat_lit 750::nat_lit 752::nat_lit 753::nat_lit 755::nat_lit 756::nat_lit 757::nat_lit 759::nat_lit 760::nat_lit 762::nat_lit 763::nat_lit 764::nat_lit 766::nat_lit 767::nat_lit 769::nat_lit 770::nat_lit 771::nat_lit 773::nat_lit 774::nat_lit 776::nat_lit 777::nat_lit 778::nat_lit 780::nat_lit 781::nat_lit 783::nat_lit 784::nat_lit 785::nat_lit 787::nat_lit 788::nat_lit 790::nat_lit 791::nat_lit 792::nat_lit 794::nat_lit 795::nat_lit 797::nat_lit 798::nat_lit 799::nat_lit 802::nat_lit 803::[]
def hQ:Program:={ PySem.Challenge.pw_notefall_k19_arguments_by_their_names with main:={ PySem.Challenge.pw_notefall_k19_arguments_by_their_names.main with body:=top 1::top 2::top 3::top 4::top 5::top 6::top 8::top 9::top 10::top 11::top 12::top 13::top 14::top 15::top 16::top 17::top 18::top 19::top 20::top 21::top 22::top 24::top 25::top 26::top 27::top 28::top 29::top 30::top 31::top 32::top 33::top 34::top 36::top 37::top 38::top 39::top 40::top 41::top 42::top 43::top 45::top 46::top 47::top 48::top 50::top 51::top 52::top 53::top 55::top 56::top 57::top 58::top 60::top 61::top 62::top 63::top 64::top 65::top 66::top 67::top 68::top 69::top 70::top 71::top 72::top 73::top 74::top 75::top 76::top 77::top 79::top 80::top 81::top 82::top 83::top 84::top 85::top 86::top 87::[] } }
def Kl:List (Str×PySem.W.WData):=[((Str.ofString "END"),PySem.W.WData.int 1000000000000),((Str.ofString "MOST_VALUE"),PySem.W.WData.int 1000000000000000000000000000000)]
def GR:List Str:=[(Str.ofString "END"),(Str.ofString "seen"),(Str.ofString "MOST_VALUE"),(Str.ofString "THINGS"),(Str.ofString "Put"),(Str.ofString "Drop"),(Str.ofString "Add"),(Str.ofString "Wipe"),(Str.ofString "Raise"),(Str.ofString "Level"),(Str.ofString "Mark"),(Str.ofString "Forget")]
def hYf (s:Shared):List (Option Obj):=Xa.map s.heap.get?
def hYa (K:Params→PySem.W.Frag) (w:World):List (Option Obj):=(K w.params).map fun p=>some p.2
theorem hE (P:Params):Xa=(hK P).map (·.1):=by kernel_rfl
abbrev Lw (q:Program) (lv:List (Str×PySem.W.WData)) (s:Shared):Bool:=PySem.W.xlAt q lv s&&PySem.W.recOk (PySem.W.RowW.records (PySem.W.OpenRow.toRowW PySem.Challenge.rw_notefall_k19_arguments_by_their_names.row)) s
noncomputable def hAo (P:Params):List Obj:=
 (PySem.W.boot_o_0 P)::
 (PySem.W.boot_o_1 P)::
 (PySem.W.boot_o_2 P)::
 (PySem.W.boot_o_3 P)::
 (PySem.W.boot_o_4 P)::
 (PySem.W.boot_o_5 P)::
 (PySem.W.boot_o_6 P)::
 (PySem.W.boot_o_7 P)::
 (PySem.W.boot_o_8 P)::
 (PySem.W.boot_o_9 P)::
 (PySem.W.boot_o_10 P)::
 (⟨(.type "tuple"),none,(.seq #[] 0),#[]⟩)::
 (⟨.none,none,(.fields #[]),#[]⟩)::
 (⟨(.type "code"),none,(.fields #[(.str "<module>" 182),(.str "<module>" 183),(.str "/claim/cut.py" 184),(.int 1 0),(.int 0 0),(.int 0 0),(.int 0 0),(.int 0 0),(.ref 11),(.bool false),(.int 181 0),(.ref 12),.none,.none,.none,.none,(.int 185 0),(.int 1 0),(.str "/claim/cut.py" 186)]),#[]⟩)::
 (⟨(.type "frame"),none,.plain,#[(some (.ref 13)),(some (.ref 3)),(some (.ref 3)),none,(some (.str "__main__" 164)),none,(some (.ref 0))]⟩)::[]
def Np:Nat→PySem.W.Frag→PySem.W.Frag→List Obj
  | 0,_,_=>[]
  | n + 1,(a,o)::r,(b,p)::s=>match Nat.blt a b with
    | true=>o::Np n r ((b,p)::s)
    | false=>p::Np n ((a,o)::r) s
  | n + 1,(_,o)::r,[]=>o::Np n r []
  | n + 1,[],(_,p)::s=>p::Np n [] s
  | _ + 1,[],[]=>[]
def Ti:List Obj→Nat→PySem.W.BT→PySem.W.BT
  | [],_,t=>t
  | o::r,n,t=>Ti r (n + 1) (t.ins n o)
noncomputable def hTr (P:Params):PySem.W.BT:=Ti (Np 804 (hK P) (apm P)) 0 .nil
noncomputable def Lx:Env:={ scope:=PySem.Challenge.pw_notefall_k19_arguments_by_their_names.main.scope,locals:=mainNs,globals:=mainNs,cells:=[],code:=(.ref 13),frame:=some 14 }
noncomputable abbrev Nq:Code:=Code.body (PySem.W.behindTheImports PySem.Challenge.pw_notefall_k19_arguments_by_their_names) Lx
noncomputable abbrev TH (P:Params) (os:OsState):PySem.W.SharedT:=⟨Ti (hAo P) 0 .nil,15,{},Array.mk [],⟨0,0,0,0⟩,187,os⟩
noncomputable abbrev hSm (P:Params) (os:OsState):PySem.W.SharedT:=⟨hTr P,804,{},Array.mk [],⟨0,0,0,0⟩,1235,os⟩
set_option maxRecDepth 100000 in
set_option maxHeartbeats 0 in
theorem apn (w:World) (os:OsState):PySem.W.topGo PySem.W.Fast.tw14364793385576792824 PySem.Challenge.pw_notefall_k19_arguments_by_their_names w 11 (some (.ref 6)) 12 ⟨PySem.W.boot_heap w.params,Array.mk [],PySem.W.boot_drawn,PySem.W.boot_toks,os⟩ (PySem.W.topStub PySem.Challenge.pw_notefall_k19_arguments_by_their_names)=some ((TH w.params os).abs,⟨denote PySem.W.Fast.tw14364793385576792824 Nq,Nq,⟨0,0,0,0⟩,[PySem.W.topFrame ⟨0,0,0,0⟩]⟩):=by kernel_rfl
set_option maxRecDepth 100000 in
set_option maxHeartbeats 0 in
theorem apo (w:World) (os:OsState):PySem.W.segRun PySem.W.Fast.tw14364793385576792824 PySem.Challenge.pw_notefall_k19_arguments_by_their_names w 11 (some (.ref 6)) 1 1 (TH w.params os).abs (PySem.W.blockOf (PySem.W.behindTheImports PySem.Challenge.pw_notefall_k19_arguments_by_their_names) Lx Nq ⟨0,0,0,0⟩ [PySem.W.topFrame ⟨0,0,0,0⟩])=some (.next,(TH w.params os).abs,Nq,⟨0,0,0,0⟩):=by kernel_rfl
noncomputable abbrev Ds (P:Params):Heap:=PySem.W.absHeap (hTr P) 804 {}
abbrev hAP (w:World):Prop:=∀ os:OsState,PySem.W.Fast.tw10110043849684766642 PySem.W.Fast.tw14364793385576792824 PySem.Challenge.pw_notefall_k19_arguments_by_their_names w 11 (some (.ref 6)) 1 6217 (TH w.params os) ⟨(PySem.W.Fast.tw12563942051412417395 (PySem.W.behindTheImports PySem.Challenge.pw_notefall_k19_arguments_by_their_names) Lx).wrap PySem.W.doneF PySem.W.deadEnd id id,Nq,⟨0,0,0,0⟩,[PySem.W.topFrame ⟨0,0,0,0⟩]⟩=some (.next,hSm w.params os,Nq,⟨387,0,411,15⟩)
set_option maxRecDepth 100000 in
set_option maxHeartbeats 0 in
theorem Nr (w:World) (os:OsState):PySem.W.Fast.tw10110043849684766642 PySem.W.Fast.tw14364793385576792824 PySem.Challenge.pw_notefall_k19_arguments_by_their_names (w.withFollow "special-get-raises" false) 11 (some (.ref 6)) 1 6217 (TH (w.withFollow "special-get-raises" false).params os) ⟨(PySem.W.Fast.tw12563942051412417395 (PySem.W.behindTheImports PySem.Challenge.pw_notefall_k19_arguments_by_their_names) Lx).wrap PySem.W.doneF PySem.W.deadEnd id id,Nq,⟨0,0,0,0⟩,[PySem.W.topFrame ⟨0,0,0,0⟩]⟩=some (.next,hSm (w.withFollow "special-get-raises" false).params os,Nq,⟨387,0,411,15⟩):=by kernel_rfl
set_option maxRecDepth 100000 in
set_option maxHeartbeats 0 in
theorem PY (w:World) (os:OsState):PySem.W.Fast.tw10110043849684766642 PySem.W.Fast.tw14364793385576792824 PySem.Challenge.pw_notefall_k19_arguments_by_their_names (w.withFollow "special-get-raises" true) 11 (some (.ref 6)) 1 6217 (TH (w.withFollow "special-get-raises" true).params os) ⟨(PySem.W.Fast.tw12563942051412417395 (PySem.W.behindTheImports PySem.Challenge.pw_notefall_k19_arguments_by_their_names) Lx).wrap PySem.W.doneF PySem.W.deadEnd id id,Nq,⟨0,0,0,0⟩,[PySem.W.topFrame ⟨0,0,0,0⟩]⟩=some (.next,hSm (w.withFollow "special-get-raises" true).params os,Nq,⟨387,0,411,15⟩):=by kernel_rfl
theorem Xb (w:World):hAP w:=PySem.W.byRow2 "special-get-raises" (P:=hAP) (fun w os=>Nr w os) (fun w os=>PY w os) w
set_option maxRecDepth 100000 in
set_option maxHeartbeats 0 in
theorem apq (w:World) (os:OsState):PySem.W.topRun PySem.W.Fast.tw14364793385576792824 PySem.Challenge.pw_notefall_k19_arguments_by_their_names w 11 (some (.ref 6)) 2 (hSm w.params os).abs (PySem.W.restOf [] Lx Nq ⟨387,0,411,15⟩ [PySem.W.topFrame ⟨0,0,0,0⟩])=some ⟨Ds w.params,Array.mk [],⟨0,0,0,0⟩,1235,os⟩:=by kernel_rfl
theorem Tj {F F':(String→Option Builtin)→Program→World→Nat→Option Value→Nat→Nat→PySem.W.SharedT→Thread→Option (Flow×PySem.W.SharedT×Code×Pos)} {G G':List Stmt→Env→Sem Flow} {tb:String→Option Builtin} {p:Program} {w:World} {m n:Nat} {ann:Option Value} {S:PySem.W.SharedT} {l:List Stmt} {env:Env} {c:Code} {pos:Pos} {B:List Frame} {r:Option (Flow×PySem.W.SharedT×Code×Pos)}
    (h:F' tb p w m ann 1 n S ⟨(G' l env).wrap PySem.W.doneF PySem.W.deadEnd id id,c,pos,B⟩=r) (eF:F=F') (eG:G=G'):F tb p w m ann 1 n S ⟨(G l env).wrap PySem.W.doneF PySem.W.deadEnd id id,c,pos,B⟩=r:=by
  subst eF eG;exact h
theorem Ly {tb:String→Option Builtin} {p:Program} {w:World} {m n0 n1 n2 n3:Nat} {ann:Option Value} {env:Env} {q:Pos} {b:List Stmt} {S0 Sa R:Shared} {SA SM:PySem.W.SharedT} {Xc:Thread} {Xd Xe Xf:Pos} (ea:SA.abs=Sa)
    (h1:PySem.W.topGo tb p w m ann n0 S0 Xc=some (Sa,⟨denote tb (Code.body b env),Code.body b env,Xd,[PySem.W.topFrame q]⟩))
    (h2:PySem.W.segRun tb p w m ann 1 n1 Sa (PySem.W.blockOf b env (Code.body b env) Xd [PySem.W.topFrame q])=some (.next,Sa,Code.body b env,Xe))
    (h3:PySem.W.segRunT tb p w m ann 1 n2 SA (PySem.W.piecesOf b env (Code.body b env) Xe [PySem.W.topFrame q])=some (.next,SM,Code.body b env,Xf))
    (h4:PySem.W.topRun tb p w m ann n3 SM.abs (PySem.W.restOf [] env (Code.body b env) Xf [PySem.W.topFrame q])=some R):PySem.W.topRun tb p w m ann (n0 + (n1 + (n2 + n3))) S0 Xc=some R:=by
  subst ea
  refine PySem.W.go_top h1 (PySem.W.piece_block h2 ?_)
  have h:=PySem.W.piece_app (rest:=[]) (PySem.W.segRun_of h3) h4
  rw [List.append_nil] at h
  exact h
set_option maxRecDepth 100000 in
set_option maxHeartbeats 0 in
theorem apr (w:World) (os:OsState):PySem.W.topRun PySem.W.Fast.tw14364793385576792824 PySem.Challenge.pw_notefall_k19_arguments_by_their_names w 11 (some (.ref 6)) (12 + (1 + (6217 + 2))) ⟨PySem.W.boot_heap w.params,Array.mk [],PySem.W.boot_drawn,PySem.W.boot_toks,os⟩ (PySem.W.topStub PySem.Challenge.pw_notefall_k19_arguments_by_their_names)=some ⟨Ds w.params,Array.mk [],⟨0,0,0,0⟩,1235,os⟩:=
  Ly rfl (apn w os) (apo w os) (Tj (Xb w os) PySem.W.Fast.te10110043849684766642 PySem.W.Fast.te12563942051412417395) (apq w os)
noncomputable abbrev hGa (p:Program) (im:List Stmt→List Str) (w:World) (os:OsState):Bool:=PySem.W.staticsOk (im p.main.body) (PySem.W.boot_heap w.params) (Ds w.params)&&PySem.W.namesBound p (Ds w.params)&&PySem.W.gensDone ⟨Ds w.params,Array.mk [],⟨0,0,0,0⟩,1235,os⟩&&PySem.W.laidKept (PySem.W.boot_heap w.params) (Ds w.params)
abbrev hG {t:Type} (p q:Program) (lo:List Str) (lv:List (Str×PySem.W.WData)) (K:Params→PySem.W.Frag) (sn:Program→List Str→List Str→(Shared→Bool)→Bool→Shared→t) (gd:Program→List Str→t) (im:List Stmt→List Str) (w:World):Prop:=
  (fun os:OsState=>(hGa p im w os,sn q lo (im p.main.body) (Lw q lv) true ⟨Ds w.params,Array.mk [],⟨0,0,0,0⟩,1235,os⟩,hYf ⟨Ds w.params,Array.mk [],⟨0,0,0,0⟩,1235,os⟩))=fun _=>(true,gd q lo,hYa K w)
theorem Xg {t:Type} {p p' q q':Program} {lo lo':List Str} {lv lv':List (Str×PySem.W.WData)} {K K':Params→PySem.W.Frag} {sn sn':Program→List Str→List Str→(Shared→Bool)→Bool→Shared→t} {gd:Program→List Str→t} {im im':List Stmt→List Str} {w:World}
    (h:hG p' q' lo' lv' K' sn' gd im' w) (e2:p=p') (e3:q=q') (e4:lo=lo') (e5:lv=lv') (e6:K=K') (e7:sn=sn') (e8:im=im'):hG p q lo lv K sn gd im w:=by
  subst e2 e3 e4 e5 e6 e7 e8;exact h
set_option maxRecDepth 100000 in
set_option maxHeartbeats 0 in
theorem hLa (w:World) (os:OsState):hGa PySem.Challenge.pw_notefall_k19_arguments_by_their_names PySem.W.Fast.tw5923862056798008813 w os=true:=by kernel_rfl
set_option maxRecDepth 100000 in
set_option maxHeartbeats 0 in
theorem hB0 (w:World) (os:OsState):(PySem.W.Fast.tw4187177175401517315 hQ GR (PySem.W.Fast.tw5923862056798008813 PySem.Challenge.pw_notefall_k19_arguments_by_their_names.main.body) (Lw hQ Kl) true ⟨Ds w.params,Array.mk [],⟨0,0,0,0⟩,1235,os⟩).1=PyProof.Rows.expectedOf hQ:=by kernel_rfl
set_option maxRecDepth 100000 in
set_option maxHeartbeats 0 in
theorem hB1 (w:World) (os:OsState):(PySem.W.Fast.tw4187177175401517315 hQ GR (PySem.W.Fast.tw5923862056798008813 PySem.Challenge.pw_notefall_k19_arguments_by_their_names.main.body) (Lw hQ Kl) true ⟨Ds w.params,Array.mk [],⟨0,0,0,0⟩,1235,os⟩).2.1=PySem.bltViewBooted:=by kernel_rfl
set_option maxRecDepth 100000 in
set_option maxHeartbeats 0 in
theorem hB2 (w:World) (os:OsState):(PySem.W.Fast.tw4187177175401517315 hQ GR (PySem.W.Fast.tw5923862056798008813 PySem.Challenge.pw_notefall_k19_arguments_by_their_names.main.body) (Lw hQ Kl) true ⟨Ds w.params,Array.mk [],⟨0,0,0,0⟩,1235,os⟩).2.2.1=true:=by kernel_rfl
set_option maxRecDepth 100000 in
set_option maxHeartbeats 0 in
theorem hB3 (w:World) (os:OsState):(PySem.W.Fast.tw4187177175401517315 hQ GR (PySem.W.Fast.tw5923862056798008813 PySem.Challenge.pw_notefall_k19_arguments_by_their_names.main.body) (Lw hQ Kl) true ⟨Ds w.params,Array.mk [],⟨0,0,0,0⟩,1235,os⟩).2.2.2.1=true:=by kernel_rfl
set_option maxRecDepth 100000 in
set_option maxHeartbeats 0 in
theorem hB4 (w:World) (os:OsState):(PySem.W.Fast.tw4187177175401517315 hQ GR (PySem.W.Fast.tw5923862056798008813 PySem.Challenge.pw_notefall_k19_arguments_by_their_names.main.body) (Lw hQ Kl) true ⟨Ds w.params,Array.mk [],⟨0,0,0,0⟩,1235,os⟩).2.2.2.2.1=PySem.pinGoodD (PyProof.Rows.drecsOf hQ):=by kernel_rfl
set_option maxRecDepth 100000 in
set_option maxHeartbeats 0 in
theorem hB5 (w:World) (os:OsState):(PySem.W.Fast.tw4187177175401517315 hQ GR (PySem.W.Fast.tw5923862056798008813 PySem.Challenge.pw_notefall_k19_arguments_by_their_names.main.body) (Lw hQ Kl) true ⟨Ds w.params,Array.mk [],⟨0,0,0,0⟩,1235,os⟩).2.2.2.2.2.1=PyProof.Rows.plainGoodE hQ (PySem.W.looseW hQ GR):=by kernel_rfl
set_option maxRecDepth 100000 in
set_option maxHeartbeats 0 in
theorem hB6 (w:World) (os:OsState):(PySem.W.Fast.tw4187177175401517315 hQ GR (PySem.W.Fast.tw5923862056798008813 PySem.Challenge.pw_notefall_k19_arguments_by_their_names.main.body) (Lw hQ Kl) true ⟨Ds w.params,Array.mk [],⟨0,0,0,0⟩,1235,os⟩).2.2.2.2.2.2.1=PyProof.Rows.plainGoodD hQ GR:=by kernel_rfl
set_option maxRecDepth 100000 in
set_option maxHeartbeats 0 in
theorem hB7 (w:World) (os:OsState):(PySem.W.Fast.tw4187177175401517315 hQ GR (PySem.W.Fast.tw5923862056798008813 PySem.Challenge.pw_notefall_k19_arguments_by_their_names.main.body) (Lw hQ Kl) true ⟨Ds w.params,Array.mk [],⟨0,0,0,0⟩,1235,os⟩).2.2.2.2.2.2.2.1=PySem.W.wideGood hQ:=by kernel_rfl
set_option maxRecDepth 100000 in
set_option maxHeartbeats 0 in
theorem hB8 (w:World) (os:OsState):(PySem.W.Fast.tw4187177175401517315 hQ GR (PySem.W.Fast.tw5923862056798008813 PySem.Challenge.pw_notefall_k19_arguments_by_their_names.main.body) (Lw hQ Kl) true ⟨Ds w.params,Array.mk [],⟨0,0,0,0⟩,1235,os⟩).2.2.2.2.2.2.2.2=PySem.W.clsGoodW hQ GR:=by kernel_rfl
theorem aps {A B C D E F G H I:Type} {x:A×B×C×D×E×F×G×H×I} {a b c d e f g h i} (h0:x.1=a) (h1:x.2.1=b) (h2:x.2.2.1=c) (h3:x.2.2.2.1=d) (h4:x.2.2.2.2.1=e) (h5:x.2.2.2.2.2.1=f) (h6:x.2.2.2.2.2.2.1=g) (h7:x.2.2.2.2.2.2.2.1=h) (h8:x.2.2.2.2.2.2.2.2=i):x=(a,b,c,d,e,f,g,h,i):=by subst h0 h1 h2 h3 h4 h5 h6 h7 h8;rfl
theorem hLb (w:World) (os:OsState):(PySem.W.Fast.tw4187177175401517315 hQ GR (PySem.W.Fast.tw5923862056798008813 PySem.Challenge.pw_notefall_k19_arguments_by_their_names.main.body) (Lw hQ Kl) true ⟨Ds w.params,Array.mk [],⟨0,0,0,0⟩,1235,os⟩)=PySem.W.openGood hQ GR:=aps (hB0 w os) (hB1 w os) (hB2 w os) (hB3 w os) (hB4 w os) (hB5 w os) (hB6 w os) (hB7 w os) (hB8 w os)
set_option maxRecDepth 100000 in
set_option maxHeartbeats 0 in
theorem hLc (w:World) (os:OsState):hYf ⟨Ds w.params,Array.mk [],⟨0,0,0,0⟩,1235,os⟩=hYa hK w:=by kernel_rfl
theorem hLk (w:World):hG PySem.Challenge.pw_notefall_k19_arguments_by_their_names hQ GR Kl hK PySem.W.Fast.tw4187177175401517315 PySem.W.openGood PySem.W.Fast.tw5923862056798008813 w:=funext fun os=>congr (congrArg Prod.mk (hLa w os)) (congr (congrArg Prod.mk (hLb w os)) (hLc w os))
theorem Xh {tb tb':String→Option Builtin} {p p':Program} {M:Nat} {S R:World→OsState→Shared} (h:∀ w os,PySem.W.topRun tb' p' w 11 (some (.ref 6)) M (S w os) (PySem.W.topStub p')=some (R w os)) (e1:tb=tb') (e2:p=p'):∀ w os,PySem.W.topRun tb p w 11 (some (.ref 6)) M (S w os) (PySem.W.topStub p)=some (R w os):=by
  subst e1 e2;exact h
set_option maxRecDepth 100000 in
set_option maxHeartbeats 0 in
theorem hSz (w:World):((PySem.W.boot_heap w.params).isNs mainGlobals&&(Array.mk []:Array GenState).size==0,(PySem.W.boot_heap w.params).objs.size,(PySem.W.boot_heap w.params).nsMap mainGlobals "__annotations__")=(true,11,(some (.ref 6))):=by kernel_rfl
set_option maxRecDepth 100000 in
set_option maxHeartbeats 0 in
theorem hl:PySem.W.LeftO PySem.Challenge.pw_notefall_k19_arguments_by_their_names hQ GR (Lw hQ Kl) hYf (hYa hK) 12540:=
  PySem.W.LeftO.of_pieces (H₁:=Ds) (gs₁:=Array.mk []) (d₁:=⟨0,0,0,0⟩) (k₁:=1235) (PySem.W.boot_open (by kernel_rfl) (by decide +kernel) (fun s=>by kernel_rfl)) hSz (Xh (M:=(12 + (1 + (6217 + 2)))) apr PySem.W.Fast.te14364793385576792824 rfl) (by decide +kernel)
    (fun w=>Xg (hLk w) rfl rfl rfl rfl rfl PySem.W.Fast.te4187177175401517315 PySem.W.Fast.te5923862056798008813)
end K19
open PySem PySem.W PyProof.Rows
set_option maxRecDepth 100000 in
set_option maxHeartbeats 0 in
theorem PySem.Challenge.cw_notefall_k19_arguments_by_their_names_holds : PySem.Challenge.rw_notefall_k19_arguments_by_their_names.Holds := by
  w_on;o_law
  refine holds_open (q:=K19.hQ) (loose:=K19.GR) (Xt:=K19.Lw K19.hQ K19.Kl) (XP:=XL K19.hQ K19.Kl) (Yf:=K19.hYf) (Ya:=K19.hYa K19.hK) (YP:=Hook.says (PySem.W.kHook K19.hK K19.Xa K19.hE)) (N:=12540) K19.hl (Hook.of (PySem.W.kHook K19.hK K19.Xa K19.hE)) (Hook.keeps (PySem.W.kHook K19.hK K19.Xa K19.hE)) (fun s e=>xl_of s (Bool.and_eq_true_iff.mp e).1) XL.keeps (by rfl) (by rfl) (by rfl) (fun s e=>recFacts_of (Bool.and_eq_true_iff.mp e).2) (by rfl) (by first | assumption | decide +kernel) (by decide +kernel) ⟨rfl,rfl,rfl,rfl,rfl,by decide +kernel⟩ ?hw ?hc
  case hw=>w_witness2
  case hc=>
  k_fill
  refine K19.walk (l:=PySem.Challenge.rw_notefall_k19_arguments_by_their_names) rfl rfl (fun w h Y=>PySem.W.kIn_of Y) ?F
  case F=>
    intro w mg fa h KX G hmg
    refine' K19.all_mk KX G hmg ?EO ?ER ?ES ?ET ?nc ?jJ ?IK ?IL ?IM ?IP ?lN ?EU ?EV ?EW ?EX ?pV ?nh ?IQ ?IS ?IT ?IU ?jK ?lO ?EY ?EZ ?E1 ?E2 ?lP ?i8 ?jL ?By ?BA ?BB ?BC ?i9 ?jM ?iC ?BD ?BE ?BF ?BG ?E3 ?E4 ?E5 ?E6 ?ni ?yP ?yQ ?yR ?yS ?a1 ?l1 ?c1 ?k1 ?a2 ?l2 ?c2 ?k2 ?a3 ?l3 ?c3 ?k3 ?a4 ?l4 ?c4 ?k4 ?a5 ?l5 ?c5 ?k5 ?a6 ?l6 ?c6 ?k6 ?a7 ?l7 ?c7 ?k7 ?a8 ?l8 ?c8 ?k8 ?a9 ?l9 ?c9 ?k9 ?Yv ?l10 ?c10 ?WK ?Yw ?l11 ?c11 ?WL ?a12 ?l12 ?c12 ?Yx ?Yy ?l13 ?c13 ?WM ?Yz ?l14 ?c14 ?WN ?a15 ?l15 ?c15 ?YA ?a16 ?l16 ?c16 ?YB ?YC ?l17 ?c17 ?WO ?a18 ?l18 ?c18 ?YD ?a19 ?l19 ?c19 ?YE ?a20 ?l20 ?c20 ?YF ?a21 ?l21 ?c21 ?YG ?YH ?l22 ?c22 ?WQ ?YI ?l23 ?c23 ?WR ?YJ ?l24 ?c24 ?WS ?a25 ?l25 ?c25 ?YK ?a26 ?l26 ?c26 ?YL ?WT ?l27 ?c27 ?Tv ?SJ ?SK ?SN ?a28 ?l28 ?c28 ?YM ?a29 ?l29 ?c29 ?YN ?YO ?l30 ?c30 ?WU ?a31 ?l31 ?c31 ?YQ ?a32 ?l32 ?c32 ?YR ?YS ?l33 ?c33 ?WV ?a34 ?l34 ?c34 ?YT ?YU ?l35 ?c35 ?WW ?a36 ?l36 ?c36 ?YV ?a37 ?l37 ?c37 ?YW ?a38 ?l38 ?c38 ?YX ?a39 ?l39 ?c39 ?YY ?a40 ?l40 ?c40 ?YZ ?a41 ?l41 ?c41 ?Y0 ?i42 ?l42 ?c42 ?Tw ?WX ?i43 ?l43 ?c43 ?Tz ?WY ?Y3 ?Y4 ?WZ ?Y5 ?Y6 ?Y7 ?Y8 ?SO ?SQ ?O5 ?O6 ?O7 ?O8 ?Ao ?tW ?i45 ?l45 ?c45 ?Y9 ?OD ?i46 ?l46 ?c46 ?Za ?n46 ?i47 ?l47 ?c47 ?Zb ?n47 ?Zc ?Zd ?W0 ?Ze ?Zf ?Zg ?Zh ?SR ?SS ?O9 ?Pa ?Pb ?Pc ?Aq ?i49 ?l49 ?c49 ?RK ?n49 ?i50 ?l50 ?c50 ?Zi ?n50 ?i51 ?l51 ?c51 ?Zj ?n51 ?Zk ?Zl ?W2 ?Zm ?Zn ?Zo ?Zp ?SV ?SW ?Pd ?Pe ?Pf ?Pg ?Ar ?E7 ?i53 ?l53 ?c53 ?Zq ?n53 ?i54 ?l54 ?c54 ?Zr ?n54 ?i55 ?l55 ?c55 ?Zs ?n55 ?Zt ?Zu ?W3 ?Zv ?Zw ?Zx ?Zy ?SX ?SY ?Ph ?Pj ?Pk ?Pn ?As ?wO ?i57 ?l57 ?c57 ?Zz ?n57 ?i58 ?l58 ?c58 ?ZA ?n58 ?i59 ?l59 ?c59 ?ZC ?n59 ?ZD ?ZE ?W4 ?ZF ?ZG ?ZH ?ZI ?S1 ?S2 ?Po ?Pp ?Pq ?Pu ?Au ?wQ ?E8 ?i61 ?l61 ?c61 ?ZJ ?n61 ?i62 ?l62 ?c62 ?ZK ?n62 ?i63 ?l63 ?c63 ?ZL ?n63 ?ZM ?ZN ?W5 ?ZO ?ZP ?ZQ ?ZR ?S3 ?S4 ?Pw ?Px ?Py ?Pz ?Av ?wR ?tX ?i65 ?l65 ?c65 ?ZS ?n65 ?i66 ?l66 ?c66 ?ZU ?n66 ?i67 ?l67 ?c67 ?ZV ?n67 ?l68 ?c68 ?W6 ?k68 ?i68 ?n68 ?p68 ?S5 ?S6 ?S7 ?S8 ?S9 ?i69 ?l69 ?c69 ?ZW ?n69 ?ZX ?ZY ?W7 ?ZZ ?Z0 ?Z1 ?Z2 ?Tc ?Td ?PB ?PC ?PD ?PJ ?wU ?i71 ?l71 ?c71 ?Z3 ?n71 ?i72 ?l72 ?c72 ?Dq ?E9 ?i73 ?l73 ?c73 ?LA ?M5 ?i74 ?l74 ?c74 ?LB ?M6 ?a75 ?l75 ?c75 ?Z4 ?Z5 ?l76 ?c76 ?W8 ?Z6 ?l77 ?c77 ?W9 ?a78 ?l78 ?c78 ?Z7 ?a79 ?l79 ?c79 ?Z8 ?a80 ?l80 ?c80 ?Z9 ?a81 ?l81 ?c81 ?k81 ?a82 ?l82 ?c82 ?k82 ?a83 ?l83 ?c83 ?k83 ?a84 ?l84 ?c84 ?k84 ?a85 ?l85 ?c85 ?k85 ?a86 ?l86 ?c86 ?k86 ?M7 ?qx ?M8 ?IV ?Fb ?M9 ?IW ?Fc ?Na ?Nb ?Nc ?Nd ?BH ?Nf ?rV ?Ng ?Nh ?qy ?nj ?yU ?BI ?IX ?vq ?rW ?rX ?vt ?rY ?Fd ?Fe ?Ke ?Ff ?Kf ?Fg ?Aw ?Ax ?IY ?wV ?Te ?Ni ?Tf ?Tg ?Nj ?Nk ?CA ?CB ?Fi ?jN ?Fj ?lu ?wW ?zk ?BJ ?BK ?qX ?BL ?zl ?rZ ?BN ?vz ?zm ?sf ?wX ?qz ?wY ?qA ?zo ?sj ?uq ?oQ ?om ?vA ?yV ?BO ?iD ?BP ?ja ?ur ?wZ ?zp ?zq ?pW ?zu ?sq ?w4 ?zv ?sr ?w5 ?qB ?uu ?oS ?uv ?oU ?w6 ?qC ?su ?nk ?mz ?sy ?vB ?Fl ?jO ?Fo ?ly ?w9 ?zw ?BQ ?BR ?qY ?BS ?vC ?zx ?sA ?BU ?zy ?sC ?xg ?qD ?xh ?qE ?zA ?sD ?uw ?oW ?oq ?vD ?yW ?BV ?iE ?BW ?jb ?ux ?xj ?zB ?zC ?pX ?zD ?sE ?xm ?qF ?zE ?sF ?xo ?uy ?oX ?uz ?oY ?xq ?qG ?sG ?nq ?mC ?sH ?vE ?yX ?gi ?yY ?ia ?sI ?uA ?xr ?xu ?ou ?xw ?qH ?uB ?oZ ?xy ?qI ?uC ?o4 ?sJ ?sL ?nu ?uD ?o5 ?qZ ?lU ?lz ?qJ ?sM ?yZ ?gj ?y9 ?ic ?sN ?uE ?xA ?xB ?ow ?xC ?qK ?uF ?o6 ?xH ?qL ?uG ?o7 ?sO ?nv ?sP ?uH ?o8 ?rj ?lV ?lA ?qM ?sQ ?BX ?iF ?BY ?jc ?uI ?xJ ?zF ?zG ?pY ?zH ?sR ?xK ?qN ?zI ?sS ?xN ?qO ?uJ ?o9 ?uK ?pe ?xO ?sU ?ny ?mD ?sV ?vF ?nA ?qP ?vG ?eW ?vH ?fB ?rm ?sW ?uL ?uM ?nB ?uN ?pq ?sX ?nE ?uO ?pA ?sY ?nF ?rq ?lW ?rA ?lX ?sZ ?nH ?pZ ?jP ?pB ?qQ ?kT ?nI ?Dr ?GL ?Kg ?Kh ?xU ?Th
    (case Nh=>k_is)
    (case qy=>k_is)
    (case nj=>k_is)
    (case yU=>k_is)
    (case BI=>k_is)
    (case IX=>k_is)
    (case vq=>k_is)
    (case rW=>k_is)
    (case rX=>k_is)
    (case vt=>k_is)
    (case rY=>k_is)
    (case Fd=>k_is)
    (case Fe=>k_is)
    (case Ke=>k_is)
    (case Ff=>k_is)
    (case Kf=>k_is)
    (case Fg=>k_is)
    (case Aw=>k_is)
    (case Ax=>k_is)
    (case IY=>k_is)
    (case wV=>k_is)
    (case EO=>k_is)
    (case ER=>k_is)
    (case ES=>k_is)
    (case ET=>k_is)
    (case nc=>k_is)
    (case jJ=>k_is)
    (case IK=>k_is)
    (case IL=>k_is)
    (case IM=>k_is)
    (case IP=>k_is)
    (case lN=>k_is)
    (case EU=>k_is)
    (case EV=>k_is)
    (case EW=>k_is)
    (case EX=>k_is)
    (case pV=>k_is)
    (case nh=>k_is)
    (case IQ=>k_is)
    (case IS=>k_is)
    (case IT=>k_is)
    (case IU=>k_is)
    (case jK=>k_is)
    (case lO=>k_is)
    (case EY=>k_is)
    (case EZ=>k_is)
    (case E1=>k_is)
    (case E2=>k_is)
    (case lP=>k_is)
    (case i8=>k_is)
    (case jL=>k_is)
    (case By=>k_is)
    (case BA=>k_is)
    (case BB=>k_is)
    (case BC=>k_is)
    (case i9=>k_is)
    (case jM=>k_is)
    (case iC=>k_is)
    (case BD=>k_is)
    (case BE=>k_is)
    (case BF=>k_is)
    (case BG=>k_is)
    (case E3=>k_is)
    (case E4=>k_is)
    (case E5=>k_is)
    (case E6=>k_is)
    (case ni=>k_is)
    (case yP=>k_is)
    (case yQ=>k_is)
    (case yR=>k_is)
    (case yS=>k_is)
    (case a1=>k_is)
    (case l1=>k_is)
    (case c1=>k_is)
    (case k1=>k_is)
    (case a2=>k_is)
    (case l2=>k_is)
    (case c2=>k_is)
    (case k2=>k_is)
    (case a3=>k_is)
    (case l3=>k_is)
    (case c3=>k_is)
    (case k3=>k_is)
    (case a4=>k_is)
    (case l4=>k_is)
    (case c4=>k_is)
    (case k4=>k_is)
    (case a5=>k_is)
    (case l5=>k_is)
    (case c5=>k_is)
    (case k5=>k_is)
    (case a6=>k_is)
    (case l6=>k_is)
    (case c6=>k_is)
    (case k6=>k_is)
    (case a7=>k_is)
    (case l7=>k_is)
    (case c7=>k_is)
    (case k7=>k_is)
    (case a8=>k_is)
    (case l8=>k_is)
    (case c8=>k_is)
    (case k8=>k_is)
    (case a9=>k_is)
    (case l9=>k_is)
    (case c9=>k_is)
    (case k9=>k_is)
    (case Yv=>k_is)
    (case l10=>k_is)
    (case c10=>k_is)
    (case WK=>k_is)
    (case Yw=>k_is)
    (case l11=>k_is)
    (case c11=>k_is)
    (case WL=>k_is)
    (case a12=>k_is)
    (case l12=>k_is)
    (case c12=>k_is)
    (case Yx=>k_is)
    (case Yy=>k_is)
    (case l13=>k_is)
    (case c13=>k_is)
    (case WM=>k_is)
    (case Yz=>k_is)
    (case l14=>k_is)
    (case c14=>k_is)
    (case WN=>k_is)
    (case a15=>k_is)
    (case l15=>k_is)
    (case c15=>k_is)
    (case YA=>k_is)
    (case a16=>k_is)
    (case l16=>k_is)
    (case c16=>k_is)
    (case YB=>k_is)
    (case YC=>k_is)
    (case l17=>k_is)
    (case c17=>k_is)
    (case WO=>k_is)
    (case a18=>k_is)
    (case l18=>k_is)
    (case c18=>k_is)
    (case YD=>k_is)
    (case a19=>k_is)
    (case l19=>k_is)
    (case c19=>k_is)
    (case YE=>k_is)
    (case a20=>k_is)
    (case l20=>k_is)
    (case c20=>k_is)
    (case YF=>k_is)
    (case a21=>k_is)
    (case l21=>k_is)
    (case c21=>k_is)
    (case YG=>k_is)
    (case YH=>k_is)
    (case l22=>k_is)
    (case c22=>k_is)
    (case WQ=>k_is)
    (case YI=>k_is)
    (case l23=>k_is)
    (case c23=>k_is)
    (case WR=>k_is)
    (case YJ=>k_is)
    (case l24=>k_is)
    (case c24=>k_is)
    (case WS=>k_is)
    (case a25=>k_is)
    (case l25=>k_is)
    (case c25=>k_is)
    (case YK=>k_is)
    (case a26=>k_is)
    (case l26=>k_is)
    (case c26=>k_is)
    (case YL=>k_is)
    (case WT=>k_is)
    (case l27=>k_is)
    (case c27=>k_is)
    (case Tv=>k_is)
    (case SJ=>k_is)
    (case SK=>first | k_is | rfl | decide +kernel)
    (case SN=>first | k_is | rfl | decide +kernel)
    (case a28=>k_is)
    (case l28=>k_is)
    (case c28=>k_is)
    (case YM=>k_is)
    (case a29=>k_is)
    (case l29=>k_is)
    (case c29=>k_is)
    (case YN=>k_is)
    (case YO=>k_is)
    (case l30=>k_is)
    (case c30=>k_is)
    (case WU=>k_is)
    (case a31=>k_is)
    (case l31=>k_is)
    (case c31=>k_is)
    (case YQ=>k_is)
    (case a32=>k_is)
    (case l32=>k_is)
    (case c32=>k_is)
    (case YR=>k_is)
    (case YS=>k_is)
    (case l33=>k_is)
    (case c33=>k_is)
    (case WV=>k_is)
    (case a34=>k_is)
    (case l34=>k_is)
    (case c34=>k_is)
    (case YT=>k_is)
    (case YU=>k_is)
    (case l35=>k_is)
    (case c35=>k_is)
    (case WW=>k_is)
    (case a36=>k_is)
    (case l36=>k_is)
    (case c36=>k_is)
    (case YV=>k_is)
    (case a37=>k_is)
    (case l37=>k_is)
    (case c37=>k_is)
    (case YW=>k_is)
    (case a38=>k_is)
    (case l38=>k_is)
    (case c38=>k_is)
    (case YX=>k_is)
    (case a39=>k_is)
    (case l39=>k_is)
    (case c39=>k_is)
    (case YY=>k_is)
    (case a40=>k_is)
    (case l40=>k_is)
    (case c40=>k_is)
    (case YZ=>k_is)
    (case a41=>k_is)
    (case l41=>k_is)
    (case c41=>k_is)
    (case Y0=>k_is)
    (case i42=>k_is)
    (case l42=>k_is)
    (case c42=>k_is)
    (case Tw=>k_is)
    (case WX=>k_is)
    (case i43=>k_is)
    (case l43=>k_is)
    (case c43=>k_is)
    (case Tz=>k_is)
    (case WY=>k_is)
    (case Y6=>k_is)
    (case Y3=>k_is)
    (case Y4=>k_is)
    (case WZ=>k_is)
    (case Y5=>k_is)
    (case Y7=>k_is)
    (case Y8=>k_is)
    (case SO=>intros;kernel_rfl)
    (case SQ=>intros;kernel_rfl)
    (case O5=>k_is)
    (case O6=>k_is)
    (case O7=>k_is)
    (case O8=>k_is)
    (case Ao=>k_is)
    (case tW=>k_is)
    (case i45=>k_is)
    (case l45=>k_is)
    (case c45=>k_is)
    (case Y9=>k_is)
    (case OD=>k_is)
    (case i46=>k_is)
    (case l46=>k_is)
    (case c46=>k_is)
    (case Za=>k_is)
    (case n46=>k_is)
    (case i47=>k_is)
    (case l47=>k_is)
    (case c47=>k_is)
    (case Zb=>k_is)
    (case n47=>k_is)
    (case Zf=>k_is)
    (case Zc=>k_is)
    (case Zd=>k_is)
    (case W0=>k_is)
    (case Ze=>k_is)
    (case Zg=>k_is)
    (case Zh=>k_is)
    (case SR=>intros;kernel_rfl)
    (case SS=>intros;kernel_rfl)
    (case O9=>k_is)
    (case Pa=>k_is)
    (case Pb=>k_is)
    (case Pc=>k_is)
    (case Aq=>k_is)
    (case i49=>k_is)
    (case l49=>k_is)
    (case c49=>k_is)
    (case RK=>k_is)
    (case n49=>k_is)
    (case i50=>k_is)
    (case l50=>k_is)
    (case c50=>k_is)
    (case Zi=>k_is)
    (case n50=>k_is)
    (case i51=>k_is)
    (case l51=>k_is)
    (case c51=>k_is)
    (case Zj=>k_is)
    (case n51=>k_is)
    (case Zn=>k_is)
    (case Zk=>k_is)
    (case Zl=>k_is)
    (case W2=>k_is)
    (case Zm=>k_is)
    (case Zo=>k_is)
    (case Zp=>k_is)
    (case SV=>intros;kernel_rfl)
    (case SW=>intros;kernel_rfl)
    (case Pd=>k_is)
    (case Pe=>k_is)
    (case Pf=>k_is)
    (case Pg=>k_is)
    (case Ar=>k_is)
    (case E7=>k_is)
    (case i53=>k_is)
    (case l53=>k_is)
    (case c53=>k_is)
    (case Zq=>k_is)
    (case n53=>k_is)
    (case i54=>k_is)
    (case l54=>k_is)
    (case c54=>k_is)
    (case Zr=>k_is)
    (case n54=>k_is)
    (case i55=>k_is)
    (case l55=>k_is)
    (case c55=>k_is)
    (case Zs=>k_is)
    (case n55=>k_is)
    (case Zw=>k_is)
    (case Zt=>k_is)
    (case Zu=>k_is)
    (case W3=>k_is)
    (case Zv=>k_is)
    (case Zx=>k_is)
    (case Zy=>k_is)
    (case SX=>intros;kernel_rfl)
    (case SY=>intros;kernel_rfl)
    (case Ph=>k_is)
    (case Pj=>k_is)
    (case Pk=>k_is)
    (case Pn=>k_is)
    (case As=>k_is)
    (case wO=>k_is)
    (case i57=>k_is)
    (case l57=>k_is)
    (case c57=>k_is)
    (case Zz=>k_is)
    (case n57=>k_is)
    (case i58=>k_is)
    (case l58=>k_is)
    (case c58=>k_is)
    (case ZA=>k_is)
    (case n58=>k_is)
    (case i59=>k_is)
    (case l59=>k_is)
    (case c59=>k_is)
    (case ZC=>k_is)
    (case n59=>k_is)
    (case ZG=>k_is)
    (case ZD=>k_is)
    (case ZE=>k_is)
    (case W4=>k_is)
    (case ZF=>k_is)
    (case ZH=>k_is)
    (case ZI=>k_is)
    (case S1=>intros;kernel_rfl)
    (case S2=>intros;kernel_rfl)
    (case Po=>k_is)
    (case Pp=>k_is)
    (case Pq=>k_is)
    (case Pu=>k_is)
    (case Au=>k_is)
    (case wQ=>k_is)
    (case E8=>k_is)
    (case i61=>k_is)
    (case l61=>k_is)
    (case c61=>k_is)
    (case ZJ=>k_is)
    (case n61=>k_is)
    (case i62=>k_is)
    (case l62=>k_is)
    (case c62=>k_is)
    (case ZK=>k_is)
    (case n62=>k_is)
    (case i63=>k_is)
    (case l63=>k_is)
    (case c63=>k_is)
    (case ZL=>k_is)
    (case n63=>k_is)
    (case ZP=>k_is)
    (case ZM=>k_is)
    (case ZN=>k_is)
    (case W5=>k_is)
    (case ZO=>k_is)
    (case ZQ=>k_is)
    (case ZR=>k_is)
    (case S3=>intros;kernel_rfl)
    (case S4=>intros;kernel_rfl)
    (case Pw=>k_is)
    (case Px=>k_is)
    (case Py=>k_is)
    (case Pz=>k_is)
    (case Av=>k_is)
    (case wR=>k_is)
    (case tX=>k_is)
    (case i65=>k_is)
    (case l65=>k_is)
    (case c65=>k_is)
    (case ZS=>k_is)
    (case n65=>k_is)
    (case i66=>k_is)
    (case l66=>k_is)
    (case c66=>k_is)
    (case ZU=>k_is)
    (case n66=>k_is)
    (case i67=>k_is)
    (case l67=>k_is)
    (case c67=>k_is)
    (case ZV=>k_is)
    (case n67=>k_is)
    (case i68=>k_is)
    (case l68=>k_is)
    (case c68=>k_is)
    (case W6=>k_is)
    (case k68=>k_is)
    (case n68=>k_is)
    (case p68=>k_is)
    (case S5=>intros;kernel_rfl)
    (case S6=>k_is)
    (case S7=>k_is)
    (case S8=>k_is)
    (case S9=>k_is)
    (case i69=>k_is)
    (case l69=>k_is)
    (case c69=>k_is)
    (case ZW=>k_is)
    (case n69=>k_is)
    (case Z0=>k_is)
    (case ZX=>k_is)
    (case ZY=>k_is)
    (case W7=>k_is)
    (case ZZ=>k_is)
    (case Z1=>k_is)
    (case Z2=>k_is)
    (case Tc=>intros;kernel_rfl)
    (case Td=>intros;kernel_rfl)
    (case PB=>k_is)
    (case PC=>k_is)
    (case PD=>k_is)
    (case PJ=>k_is)
    (case wU=>k_is)
    (case i71=>k_is)
    (case l71=>k_is)
    (case c71=>k_is)
    (case Z3=>k_is)
    (case n71=>k_is)
    (case i72=>k_is)
    (case l72=>k_is)
    (case c72=>k_is)
    (case Dq=>k_is)
    (case E9=>k_is)
    (case i73=>k_is)
    (case l73=>k_is)
    (case c73=>k_is)
    (case LA=>k_is)
    (case M5=>k_is)
    (case i74=>k_is)
    (case l74=>k_is)
    (case c74=>k_is)
    (case LB=>k_is)
    (case M6=>k_is)
    (case a75=>k_is)
    (case l75=>k_is)
    (case c75=>k_is)
    (case Z4=>k_is)
    (case Z5=>k_is)
    (case l76=>k_is)
    (case c76=>k_is)
    (case W8=>k_is)
    (case Z6=>k_is)
    (case l77=>k_is)
    (case c77=>k_is)
    (case W9=>k_is)
    (case a78=>k_is)
    (case l78=>k_is)
    (case c78=>k_is)
    (case Z7=>k_is)
    (case a79=>k_is)
    (case l79=>k_is)
    (case c79=>k_is)
    (case Z8=>k_is)
    (case a80=>k_is)
    (case l80=>k_is)
    (case c80=>k_is)
    (case Z9=>k_is)
    (case a81=>k_is)
    (case l81=>k_is)
    (case c81=>k_is)
    (case k81=>k_is)
    (case a82=>k_is)
    (case l82=>k_is)
    (case c82=>k_is)
    (case k82=>k_is)
    (case a83=>k_is)
    (case l83=>k_is)
    (case c83=>k_is)
    (case k83=>k_is)
    (case a84=>k_is)
    (case l84=>k_is)
    (case c84=>k_is)
    (case k84=>k_is)
    (case a85=>k_is)
    (case l85=>k_is)
    (case c85=>k_is)
    (case k85=>k_is)
    (case a86=>k_is)
    (case l86=>k_is)
    (case c86=>k_is)
    (case k86=>k_is)
    (case M7=>k_is)
    (case qx=>k_is)
    (case M8=>k_is)
    (case IV=>k_is)
    (case Fb=>k_is)
    (case M9=>k_is)
    (case IW=>k_is)
    (case Fc=>k_is)
    (case Na=>k_is)
    (case Nb=>k_is)
    (case Nc=>k_is)
    (case Nd=>k_is)
    (case BH=>k_is)
    (case Nf=>k_is)
    (case rV=>k_is)
    (case Ng=>k_is)
    (case Te=>k_is)
    (case Ni=>decide)
    (case Tf=>k_is)
    (case Tg=>k_is)
    (case Nj=>k_is)
    (case Nk=>k_is)
    (case CA=>k_is)
    (case CB=>k_is)
    (case Fi=>k_is)
    (case jN=>k_is)
    (case Fj=>kit_is)
    (case lu=>k_is)
    (case wW=>k_is)
    (case zk=>k_is)
    (case BJ=>k_is)
    (case BK=>k_is)
    (case qX=>k_is)
    (case BL=>kit_is)
    (case zl=>kit_is)
    (case rZ=>k_is)
    (case BN=>kit_is)
    (case vz=>k_is)
    (case zm=>kit_is)
    (case sf=>k_is)
    (case wX=>kit_is)
    (case qz=>k_is)
    (case wY=>kit_is)
    (case qA=>k_is)
    (case zo=>kit_is)
    (case sj=>k_is)
    (case uq=>kit_is)
    (case oQ=>k_is)
    (case om=>k_is)
    (case vA=>k_is)
    (case yV=>k_is)
    (case BO=>k_is)
    (case iD=>k_is)
    (case BP=>kit_is)
    (case ja=>k_is)
    (case ur=>k_is)
    (case wZ=>k_is)
    (case zp=>k_is)
    (case zq=>k_is)
    (case pW=>k_is)
    (case zu=>kit_is)
    (case sq=>k_is)
    (case w4=>kit_is)
    (case zv=>kit_is)
    (case sr=>k_is)
    (case w5=>kit_is)
    (case qB=>k_is)
    (case uu=>kit_is)
    (case oS=>k_is)
    (case uv=>kit_is)
    (case oU=>k_is)
    (case w6=>kit_is)
    (case qC=>k_is)
    (case su=>kit_is)
    (case nk=>k_is)
    (case mz=>k_is)
    (case sy=>k_is)
    (case vB=>k_is)
    (case Fl=>k_is)
    (case jO=>k_is)
    (case Fo=>kit_is)
    (case ly=>k_is)
    (case w9=>k_is)
    (case zw=>k_is)
    (case BQ=>k_is)
    (case BR=>k_is)
    (case qY=>k_is)
    (case BS=>kit_is)
    (case vC=>k_is)
    (case zx=>kit_is)
    (case sA=>k_is)
    (case BU=>kit_is)
    (case zy=>kit_is)
    (case sC=>k_is)
    (case xg=>kit_is)
    (case qD=>k_is)
    (case xh=>kit_is)
    (case qE=>k_is)
    (case zA=>kit_is)
    (case sD=>k_is)
    (case uw=>kit_is)
    (case oW=>k_is)
    (case oq=>k_is)
    (case vD=>k_is)
    (case yW=>k_is)
    (case BV=>k_is)
    (case iE=>k_is)
    (case BW=>kit_is)
    (case jb=>k_is)
    (case ux=>k_is)
    (case xj=>k_is)
    (case zB=>k_is)
    (case zC=>k_is)
    (case pX=>k_is)
    (case zD=>kit_is)
    (case sE=>k_is)
    (case xm=>kit_is)
    (case qF=>k_is)
    (case zE=>kit_is)
    (case sF=>k_is)
    (case xo=>kit_is)
    (case uy=>kit_is)
    (case oX=>k_is)
    (case uz=>kit_is)
    (case oY=>k_is)
    (case xq=>kit_is)
    (case qG=>k_is)
    (case sG=>kit_is)
    (case nq=>k_is)
    (case mC=>k_is)
    (case sH=>k_is)
    (case vE=>k_is)
    (case yX=>k_is)
    (case gi=>k_is)
    (case yY=>kit_is)
    (case ia=>k_is)
    (case sI=>k_is)
    (case uA=>k_is)
    (case xr=>k_is)
    (case xu=>k_is)
    (case ou=>k_is)
    (case xw=>kit_is)
    (case qH=>k_is)
    (case uB=>kit_is)
    (case oZ=>k_is)
    (case xy=>kit_is)
    (case qI=>k_is)
    (case uC=>kit_is)
    (case o4=>k_is)
    (case sJ=>kit_is)
    (case sL=>kit_is)
    (case nu=>k_is)
    (case uD=>kit_is)
    (case o5=>k_is)
    (case qZ=>kit_is)
    (case lU=>k_is)
    (case lz=>k_is)
    (case qJ=>k_is)
    (case sM=>k_is)
    (case yZ=>k_is)
    (case gj=>k_is)
    (case y9=>kit_is)
    (case ic=>k_is)
    (case sN=>k_is)
    (case uE=>k_is)
    (case xA=>k_is)
    (case xB=>k_is)
    (case ow=>k_is)
    (case xC=>kit_is)
    (case qK=>k_is)
    (case uF=>kit_is)
    (case o6=>k_is)
    (case xH=>kit_is)
    (case qL=>k_is)
    (case uG=>kit_is)
    (case o7=>k_is)
    (case sO=>kit_is)
    (case nv=>k_is)
    (case sP=>kit_is)
    (case uH=>kit_is)
    (case o8=>k_is)
    (case rj=>kit_is)
    (case lV=>k_is)
    (case lA=>k_is)
    (case qM=>k_is)
    (case sQ=>k_is)
    (case BX=>k_is)
    (case iF=>k_is)
    (case BY=>kit_is)
    (case jc=>k_is)
    (case uI=>k_is)
    (case xJ=>k_is)
    (case zF=>k_is)
    (case zG=>k_is)
    (case pY=>k_is)
    (case zH=>kit_is)
    (case sR=>k_is)
    (case xK=>kit_is)
    (case qN=>k_is)
    (case zI=>kit_is)
    (case sS=>k_is)
    (case xN=>kit_is)
    (case qO=>k_is)
    (case uJ=>kit_is)
    (case o9=>k_is)
    (case uK=>kit_is)
    (case pe=>k_is)
    (case xO=>kit_is)
    (case sU=>kit_is)
    (case ny=>k_is)
    (case mD=>k_is)
    (case sV=>k_is)
    (case vF=>k_is)
    (case nA=>k_is)
    (case qP=>k_is)
    (case vG=>k_is)
    (case eW=>k_is)
    (case vH=>kit_is)
    (case fB=>k_is)
    (case rm=>k_is)
    (case sW=>k_is)
    (case uL=>k_is)
    (case uM=>k_is)
    (case nB=>k_is)
    (case uN=>kit_is)
    (case pq=>k_is)
    (case sX=>kit_is)
    (case nE=>k_is)
    (case uO=>kit_is)
    (case pA=>k_is)
    (case sY=>kit_is)
    (case nF=>k_is)
    (case rq=>kit_is)
    (case lW=>k_is)
    (case rA=>kit_is)
    (case lX=>k_is)
    (case sZ=>kit_is)
    (case nH=>k_is)
    (case pZ=>kit_is)
    (case jP=>k_is)
    (case pB=>k_is)
    (case qQ=>k_is)
    (case kT=>k_is)
    (case nI=>k_is)
    (case Dr=>kit_is)
    (case GL=>kit_is)
    (case Kg=>kit_is)
    (case Kh=>kit_is)
    (case xU=>kit_is)
    (case Th=>k_is)
