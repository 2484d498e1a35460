import PyProof.Rows.All
import Wide.All
import OpenK.AllK
import Wide.FinOn
import Lean
import PyProof.EqAt
import PyProof.EqKinds
import PyProof.TupleCall
import PySem.Challenge.RW_notefall_k84_begun_on_a_bare_shelf
set_option Elab.async false
set_option linter.all false
set_option maxRecDepth 100000
namespace L2
open PySem PySem.Spec PyProof.Rows
abbrev Key:=Sum Int Str
def uT:Key→Value→Bool
  | .inl k,v=>Value.isInt k v
  | .inr x,v=>Value.isStrOf x v
def Rk (w:World):Key→Int
  | .inl k=>hashInt k
  | .inr x=>hashStr w x
theorem cK:∀ {k:Key} {v:Value},uT k v=true→(∃ i t,k=Sum.inl i∧v=Value.int i t)∨(∃ x t,k=Sum.inr x∧v=Value.str x t)
  | .inl i,v,h=>by
    obtain ⟨t,e⟩:=Value.isInt_shape (k:=i) (v:=v) h
    exact .inl ⟨i,t,rfl,e⟩
  | .inr x,v,h=>by
    obtain ⟨t,e⟩:=Value.isStrOf_shape (x:=x) (v:=v) h
    exact .inr ⟨x,t,rfl,e⟩
theorem B8 (i:Int) (t:Tok):uT (.inl i) (.int i t)=true:=by simp [uT,Value.isInt]
theorem B9 (x:Str) (t:Tok):uT (.inr x) (.str x t)=true:=by simp [uT,Value.isStrOf]
theorem Jm (a b:Int):decide ((Sum.inl a:Key)=Sum.inl b)=(a==b):=by
  by_cases e:a=b
  · subst e;simp
  · have h:¬ (Sum.inl a:Key)=Sum.inl b:=fun q=>e (Sum.inl.inj q)
    rw [decide_eq_false h]
    exact (beq_eq_false_iff_ne.mpr e).symm
theorem Jo (a b:Str):decide ((Sum.inr a:Key)=Sum.inr b)=decide (a=b):=by
  by_cases e:a=b
  · subst e;simp
  · have h:¬ (Sum.inr a:Key)=Sum.inr b:=fun q=>e (Sum.inr.inj q)
    rw [decide_eq_false h,decide_eq_false e]
theorem Jp (a:Int) (b:Str):decide ((Sum.inl a:Key)=Sum.inr b)=false:=decide_eq_false (fun q=>nomatch q)
theorem Jq (a:Str) (b:Int):decide ((Sum.inr a:Key)=Sum.inl b)=false:=decide_eq_false (fun q=>nomatch q)
def bq (prog:Program) (w:World):PySem.KeyKind prog w Key where
  is:=uT
  hash:=Rk w
  inj:=fun v a b ha hb=>by
    rcases cK ha with ⟨i,t,rfl,rfl⟩ | ⟨x,t,rfl,rfl⟩
    · rcases cK hb with ⟨j,u,rfl,e⟩ | ⟨y,u,rfl,e⟩
      · injection e with e1 _;rw [e1]
      · exact nomatch e
    · rcases cK hb with ⟨j,u,rfl,e⟩ | ⟨y,u,rfl,e⟩
      · exact nomatch e
      · injection e with e1 _;rw [e1]
  byValue:=fun k v h=>by
    rcases cK h with ⟨i,t,rfl,rfl⟩ | ⟨x,t,rfl,rfl⟩ <;> rfl
  pyHash:=fun hv h=>by
    rcases cK hv with ⟨i,t,rfl,rfl⟩ | ⟨x,t,rfl,rfl⟩
    · exact wpAny_pyHash_int h
    · exact wpAny_pyHash_str h
  eqBool:=fun hu hv h=>by
    rcases cK hu with ⟨i,t,rfl,rfl⟩ | ⟨x,t,rfl,rfl⟩
    · rcases cK hv with ⟨j,u,rfl,rfl⟩ | ⟨y,u,rfl,rfl⟩
      · rw [Jm] at h;exact wpAny_eqBool_int h
      · rw [Jp] at h;exact SeqAt.EqAt.int_str i t y u _ _ _ _ h
    · rcases cK hv with ⟨j,u,rfl,rfl⟩ | ⟨y,u,rfl,rfl⟩
      · rw [Jq] at h;exact SeqAt.EqAt.str_int x t j u _ _ _ _ h
      · rw [Jo] at h;exact wpAny_eqBool_str h
  «strs»:=fun k x t v h=>by
    rcases cK h with ⟨i,u,rfl,e⟩ | ⟨y,u,rfl,e⟩
    · exact nomatch e
    · injection e with e1 _
      subst e1
      cases v <;> rfl
theorem yx (prog:Program) (w:World) (i:Int) (t:Tok):(bq prog w).is (.inl i) (.int i t)=true:=B8 i t
theorem yy (prog:Program) (w:World) (x:Str) (t:Tok):(bq prog w).is (.inr x) (.str x t)=true:=B9 x t
end L2
namespace L2
open PySem PySem.Spec PyProof.Rows
inductive V where
  | cG | bl (b:Bool) | int (i:Int) | str (x:Str) | Bl (b:Array UInt8) | Jr (b:UInt64) | ref (a:Addr) | ty (n:String)
  deriving DecidableEq
def RelV:V→Value→Prop
  | .cG,u=>u=Value.none
  | .bl b,u=>u=Value.bool b
  | .int i,u=>∃ t,u=Value.int i t
  | .str x,u=>∃ t,u=Value.str x t
  | .Bl b,u=>∃ t,u=Value.bytes b t
  | .Jr b,u=>∃ t,u=Value.float b t
  | .ref a,u=>u=Value.ref a
  | .ty n,u=>u=Value.type n
abbrev Vals:List V→List Value→Prop:=Paired RelV
theorem Vals.length {xs:List V} {us:List Value} (r:Vals xs us):xs.length=us.length:=Paired.length r
theorem Vals.get:∀ {xs:List V} {us:List Value} {i:Nat} {x:V},Vals xs us→xs[i]?=some x→∃ u,us[i]?=some u∧RelV x u
  | _,_,_,_,.nil,e=>by simp at e
  | _,_,0,_,.cons r _,e=>by simp at e;subst e;exact ⟨_,rfl,r⟩
  | _,_,i + 1,x,.cons _ t,e=>by
    obtain ⟨u,h1,h2⟩:=Vals.get (i:=i) (x:=x) t (by simpa using e)
    exact ⟨u,by simpa using h1,h2⟩
theorem Vals.set {x:V} {u:Value} (r:RelV x u):∀ {xs:List V} {us:List Value} (i:Nat),Vals xs us→Vals (xs.set i x) (us.set i u)
  | _,_,_,.nil=>.nil
  | _,_,0,.cons _ t=>.cons r t
  | _,_,i + 1,.cons q t=>.cons q (Vals.set r i t)
theorem Vals.append:∀ {xs ys:List V} {us ws:List Value},Vals xs us→Vals ys ws→Vals (xs++ys) (us++ws)
  | _,_,_,_,.nil,s=>s
  | _,_,_,_,.cons r t,s=>.cons r (Vals.append t s)
theorem Vals.take:∀ {xs:List V} {us:List Value} (n:Nat),Vals xs us→Vals (xs.take n) (us.take n)
  | _,_,0,_=>.nil
  | _,_,_ + 1,.nil=>.nil
  | _,_,n + 1,.cons r t=>.cons r (Vals.take n t)
theorem Vals.drop:∀ {xs:List V} {us:List Value} (n:Nat),Vals xs us→Vals (xs.drop n) (us.drop n)
  | _,_,0,r=>r
  | _,_,_ + 1,.nil=>.nil
  | _,_,n + 1,.cons _ t=>Vals.drop n t
theorem Vals.none_of:∀ {xs:List V} {us:List Value} {i:Nat},Vals xs us→xs[i]?=none→us[i]?=none:=fun {xs us i} r e=>by
  have h1:=r.length
  have h2:xs.length≤i:=List.getElem?_eq_none_iff.mp e
  exact List.getElem?_eq_none_iff.mpr (by omega)
def kY:Option V→Option Value→Prop
  | some v,some u=>RelV v u
  | none,none=>True
  | _,_=>False
def KV {κ:Type}:List (κ×V)→List (κ×Value)→Prop:=Paired fun (p:κ×V) (q:κ×Value)=>p.1=q.1∧RelV p.2 q.2
def kV:Key→V
  | .inl i=>.int i
  | .inr x=>.str x
inductive HO where
  | lst (xs:List V)
  | tup (xs:List V)
  | dK (kvs:List (Key×V)) | dT (kvs:List (List Key×V))
  | set (S:Int→Bool) (n:Nat)
  | ins (C dx:Addr) (fs:List (Str×V))
  | own (x:Addr)
  | xd (fs:List (Str×V))
  | met (f x:Addr)
  | O7 (lo hi:Int)
  | jt (o:Obj) (u:HO)
  | z7 (ps:Array Value)
  | ext (φ:Heap→Prop)
abbrev Hp:=Addr→Option HO
def upd (H:Hp) (a:Addr) (o:HO):Hp:=fun b=>if b=a then some o else H b
theorem ai {H:Hp} {a:Addr} {o:HO}:upd H a o a=some o:=by unfold upd;rw [if_pos rfl]
theorem ao {H:Hp} {a b:Addr} {o:HO} (h:b≠a):upd H a o b=H b:=by unfold upd;rw [if_neg h]
theorem gw {H:Hp} {a:Addr} {o u:HO}:upd (upd H a o) a u=upd H a u:=by
  funext b;unfold upd;split <;> rfl
theorem IA {H:Hp} {a b:Addr} {o u:HO} (h:H a=some o) (h':H b=some u) (d:o≠u):a≠b:=by
  intro e;subst e;rw [h] at h';exact d (Option.some.inj h')
theorem aJ {H:Hp} {a b:Addr} {o:HO} (h:H a=some o) (h':H b=none):a≠b:=by
  intro e;subst e;rw [h] at h';cases h'
section
variable (P:Program) (w:World)
def cg (H:Hp) (h:Heap) (a:Addr):HO→Prop
  | .lst xs=>xs.length≤sizeLine∧∃ (aY:List Value) (n:Nat),Vals xs aY∧h.get? a=some { cls:=.type "list",data:=.seq aY.toArray n }
  | .tup xs=>xs.length≤sizeLine∧∃ aY:List Value,Vals xs aY∧IsTup h a aY.toArray
  | .dK kvs=>kvs.length≤sizeLine∧(a==sysModules)=false∧∃ vs,KV kvs vs∧h.DictOf (bq P w) a vs
  | .dT kvs=>kvs.length≤sizeLine∧(a==sysModules)=false∧∃ xs:List (List Key×Addr×Value),
      Paired (fun (p:List Key×V) (q:List Key×Addr×Value)=>p.1=q.1∧H q.2.1=some (.tup (p.1.map kV))∧RelV p.2 q.2.2) kvs xs∧
      ∃ o es ep,h.get? a=some o∧o.ExactDict∧o.data=.dict es ep∧es.toList=xs.map (entryOfKey (tupleKind (bq P w)))∧(xs.map (·.1)).Nodup
  | .set S n=>h.SetOf (intKind P w) a S n
  | .ins C dx fs=>H dx=some (.own a)∧fs.length≤1000∧dx≠a∧h.get? a=some (PySem.W.instObj C dx)∧
      ∃ mA,h.Ns1 dx mA∧(∀ f,kY (fs.lookup f) (mA f))∧PySem.Within mA (fs.map (·.1))
  | .own _=>∃ o,h.get? a=some o
  | .xd fs=>∃ mA,h.Ns1 a mA∧∀ f,kY (fs.lookup f) (mA f)
  | .O7 lo hi=>∃ t u v,h.get? a=some { cls:=.type "range",data:=.fields #[.int lo t,.int hi u,.int 1 v] }
  | .jt o u=>h.get? a=some o∧cg H h a u
  | .z7 ps=>h.get? a=some { cls:=.none,data:=.fields ps }
  | .met f x=>h.get? a=some (PySem.W.methodObj (.ref f) (.ref x))
  | .ext φ=>φ h∧(∃ o,h.get? a=some o)∧∀ h1 h2:Heap,φ h1→(∀ o,h1.get? a=some o→h2.get? a=some o)→φ h2
def mY (H:Hp) (h:Heap):Prop:=∀ a o,H a=some o→cg P w H h a o
end
section
variable {P:Program} {w:World} {H H':Hp} {h h':Heap} {a:Addr} {o:HO}
theorem cg.lt (x:cg P w H h a o):a < h.objs.size:=by
  cases o with
  | lst xs=>obtain ⟨_,_,_,_,e⟩:=x;exact Heap.lt_size e
  | tup xs=>obtain ⟨_,_,_,p⟩:=x;exact p.lt
  | dK kvs=>obtain ⟨_,_,_,_,o,_,_,e,_⟩:=x;exact Heap.lt_size e
  | dT kvs=>obtain ⟨_,_,_,_,o,_,_,e,_⟩:=x;exact Heap.lt_size e
  | set S n=>obtain ⟨o,_,_,_,e,_⟩:=x;exact Heap.lt_size e
  | ins C dx fs=>obtain ⟨_,_,_,e,_⟩:=x;exact Heap.lt_size e
  | own y=>obtain ⟨_,e⟩:=x;exact Heap.lt_size e
  | xd fs=>obtain ⟨_,⟨_,_,_,e,_⟩,_⟩:=x;exact Heap.lt_size e
  | O7 lo hi=>obtain ⟨_,_,_,e⟩:=x;exact Heap.lt_size e
  | jt ob u=>obtain ⟨e,_⟩:=x;exact Heap.lt_size e
  | z7 ps=>exact Heap.lt_size (show h.get? a=some _ from x)
  | met f y=>exact Heap.lt_size (show h.get? a=some _ from x)
  | ext φ=>obtain ⟨_,⟨_,e⟩,_⟩:=x;exact Heap.lt_size e
theorem Paired.Js {α β:Type} {F G:α→β→Prop}:∀ {l₁:List α} {l₂:List β},Paired F l₁ l₂→(∀ a b,F a b→G a b)→Paired G l₁ l₂
  | _,_,.nil,_=>.nil
  | _,_,.cons r t,f=>.cons (f _ _ r) (Paired.Js t f)
theorem cg.qQ (x:cg P w H h a o) (k:∀ b u,(b=a∨H b=some (.own a))→h.get? b=some u→h'.get? b=some u)
    (ho:∀ b,H b=some (.own a)→H' b=some (.own a)) (ht:∀ b xs,H b=some (.tup xs)→H' b=some (.tup xs)):cg P w H' h' a o:=by
  induction o with
  | lst xs=>obtain ⟨z,aY,n,r,e⟩:=x;exact ⟨z,aY,n,r,k _ _ (.inl rfl) e⟩
  | tup xs=>obtain ⟨z,aY,r,ob,e,c⟩:=x;exact ⟨z,aY,r,ob,k _ _ (.inl rfl) e,c⟩
  | dK kvs=>obtain ⟨z,y,vs,r,ob,es,ep,e,c⟩:=x;exact ⟨z,y,vs,r,ob,es,ep,k _ _ (.inl rfl) e,c⟩
  | dT kvs=>
    obtain ⟨z,y,xs,r,ob,es,ep,e,c⟩:=x
    exact ⟨z,y,xs,Paired.Js r fun p q z=>⟨z.1,ht _ _ z.2.1,z.2.2⟩,ob,es,ep,k _ _ (.inl rfl) e,c⟩
  | set S n=>obtain ⟨ob,es,ep,t,e,c⟩:=x;exact ⟨ob,es,ep,t,k _ _ (.inl rfl) e,c⟩
  | ins C dx fs=>
    obtain ⟨d,z,ne,e,mA,⟨od,es,ep,e2,c⟩,r⟩:=x
    exact ⟨ho _ d,z,ne,k _ _ (.inl rfl) e,mA,⟨od,es,ep,k _ _ (.inr d) e2,c⟩,r⟩
  | own y=>obtain ⟨ob,e⟩:=x;exact ⟨ob,k _ _ (.inl rfl) e⟩
  | xd fs=>obtain ⟨mA,⟨od,es,ep,e,c⟩,r⟩:=x;exact ⟨mA,⟨od,es,ep,k _ _ (.inl rfl) e,c⟩,r⟩
  | O7 lo hi=>obtain ⟨t,u,v,e⟩:=x;exact ⟨t,u,v,k _ _ (.inl rfl) e⟩
  | jt ob u ih=>obtain ⟨e,q⟩:=x;exact ⟨k _ _ (.inl rfl) e,ih q⟩
  | z7 ps=>
    have e:h.get? a=some { cls:=.none,data:=.fields ps }:=x
    show h'.get? a=some { cls:=.none,data:=.fields ps }
    exact k a _ (.inl rfl) e
  | met f y=>
    have e:h.get? a=some (PySem.W.methodObj (.ref f) (.ref y)):=x
    show h'.get? a=some (PySem.W.methodObj (.ref f) (.ref y))
    exact k a _ (.inl rfl) e
  | ext φ=>obtain ⟨p,⟨o,e⟩,st⟩:=x;exact ⟨st _ _ p fun o q=>k _ _ (.inl rfl) q,⟨o,k _ _ (.inl rfl) e⟩,st⟩
theorem mY.lt (x:mY P w H h) (e:H a=some o):a < h.objs.size:=(x a o e).lt
theorem mY.fresh (x:mY P w H h) (e:h.objs.size≤a):H a=none:=by
  cases q:H a with
  | none=>rfl
  | some u=>exact absurd (Nat.lt_of_lt_of_le (x.lt q) e) (Nat.lt_irrefl _)
theorem mY.kept (x:mY P w H h) (k:∀ b u,h.get? b=some u→h'.get? b=some u):mY P w H h':=fun a o e=>
  (x a o e).qQ (fun b u _ q=>k b u q) (fun _ q=>q) fun _ _ q=>q
theorem mY.laid (x:mY P w H h) (k:∀ b u,h.get? b=some u→h'.get? b=some u) (hp:h.objs.size≤a) (new:cg P w (upd H a o) h' a o):mY P w (upd H a o) h':=fun b u e=>by
  have hn:=x.fresh hp
  by_cases hb:b=a
  · subst hb;rw [ai] at e;cases e;exact new
  · rw [ao hb] at e
    exact (x b u e).qQ (fun c v _ q=>k c v q) (fun c q=>by rw [ao (aJ q hn)];exact q) fun c xs q=>by rw [ao (aJ q hn)];exact q
end
def Rd (H:Hp) (a:Addr) (u:HO):Prop:=H a=some u∨∃ o,H a=some (.jt o u)
theorem Rd.of {H:Hp} {a:Addr} {u:HO} (h:H a=some u):Rd H a u:=.inl h
theorem Rd.ok {P:Program} {w:World} {H:Hp} {h:Heap} {a:Addr} {u:HO} (r:Rd H a u) (x:mY P w H h):cg P w H h a u:=by
  rcases r with r | ⟨o,r⟩
  · exact x a u r
  · obtain ⟨_,q⟩:=x a _ r
    exact q
def Me:Option HO→Prop
  | some (.lst _)=>True
  | some (.dK _)=>True
  | some (.dT _)=>True
  | some (.set _ _)=>True
  | some (.ins _ _ _)=>True
  | some (.ext _)=>True
  | _=>False
section
variable {P:Program} {w:World} {H:Hp} {h h':Heap} {x e:Addr} {o':HO}
theorem mY.write (ok:mY P w H h) (mu:Me (H x)) (he:e=x∨H e=some (.own x)) (k:∀ b u,b≠e→h.get? b=some u→h'.get? b=some u) (LM:∃ u,h'.get? e=some u)
    (new:cg P w (upd H x o') h' x o'):mY P w (upd H x o') h':=fun b u q=>by
  have Mf:∀ c y,H c=some (.own y)→c≠x:=fun c y r z=>by subst z;rw [r] at mu;exact mu
  have Rm:∀ c xs,H c=some (.tup xs)→c≠x:=fun c xs r z=>by subst z;rw [r] at mu;exact mu
  by_cases hb:b=x
  · subst hb;rw [ai] at q;cases q;exact new
  · rw [ao hb] at q
    by_cases hbe:b=e
    · have q':H b=some (.own x):=by
        rcases he with z | z
        · exact absurd (hbe.trans z) hb
        · rw [hbe];exact z
      rw [q] at q';cases q'
      obtain ⟨v,hv⟩:=LM
      exact ⟨v,by rw [hbe];exact hv⟩
    · refine (ok b u q).qQ (fun c v hc r=>k c v ?_ r) (fun c r=>by rw [ao (Mf c b r)];exact r) fun c xs r=>by rw [ao (Rm c xs r)];exact r
      rcases hc with rfl | hc
      · exact hbe
      · rintro rfl
        rcases he with z | z
        · exact Mf c b hc z
        · rw [hc] at z;cases z;exact hb rfl
end
structure Un (fs ex:List Addr) (H H':Hp) (h h':Heap):Prop where
  keep:∀ b o,h.get? b=some o→H b=none→b∉fs→b∉ex→h'.get? b=some o
  slot:∀ b o,h.get? b=some o→H b=none→b∈fs→b∉ex→∃ sl,h'.get? b=some { o with slots:=sl }
  free:∀ b o,h.get? b=some o→H b=none→b∉ex→H' b=none
  there:∀ b o,h.get? b=some o→b∉ex→∃ o',h'.get? b=some o'
  jX:∀ b xs,H b=some (.tup xs)→H' b=some (.tup xs)
  ju:∀ b o u,H b=some (.jt o u)→H' b=some (.jt o u)
  jY:∀ b ps,H b=some (.z7 ps)→∃ more,H' b=some (.z7 (ps++more))
section
variable {fs IB ex ex':List Addr} {H H1 H2:Hp} {h h1 h2 h':Heap} {a x e:Addr} {o:HO}
theorem Un.any (u:Un fs ex H H1 h h1) {b:Addr} {ob:Obj} (q:h.get? b=some ob) (n:H b=none) (hx:b∉ex):∃ sl,h1.get? b=some { ob with slots:=sl }:=by
  by_cases hb:b∈fs
  · exact u.slot b ob q n hb hx
  · exact ⟨ob.slots,u.keep b ob q n hb hx⟩
theorem Un.trans (a:Un fs ex H H1 h h1) (b:Un fs ex H1 H2 h1 h2):Un fs ex H H2 h h2 where
  keep:=fun c ob q n hc hx=>b.keep c ob (a.keep c ob q n hc hx) (a.free c ob q n hx) hc hx
  slot:=fun c ob q n hc hx=>by
    obtain ⟨sl,e1⟩:=a.slot c ob q n hc hx
    obtain ⟨sl',e2⟩:=b.slot c _ e1 (a.free c ob q n hx) hc hx
    exact ⟨sl',e2⟩
  free:=fun c ob q n hx=>by
    obtain ⟨o',e1⟩:=a.there c ob q hx
    exact b.free c o' e1 (a.free c ob q n hx) hx
  there:=fun c ob q hx=>by
    obtain ⟨o',e1⟩:=a.there c ob q hx
    exact b.there c o' e1 hx
  jX:=fun c xs q=>b.jX c xs (a.jX c xs q)
  ju:=fun c ob xs q=>b.ju c ob xs (a.ju c ob xs q)
  jY:=fun c ps q=>by
    obtain ⟨m1,e1⟩:=a.jY c ps q
    obtain ⟨m2,e2⟩:=b.jY c _ e1
    exact ⟨m1++m2,by rw [e2,Array.append_assoc]⟩
theorem Un.kept (k:∀ b u,h.get? b=some u→h'.get? b=some u):Un fs ex H H h h':=
  ⟨fun b ob q _ _ _=>k b ob q,fun b ob q _ _ _=>⟨ob.slots,k b ob q⟩,fun _ _ _ n _=>n,fun b ob q _=>⟨ob,k b ob q⟩,fun _ _ q=>q,fun _ _ _ q=>q,fun _ ps q=>⟨#[],by rw [q];simp⟩⟩
theorem Un.refl:Un fs ex H H h h:=Un.kept fun _ _ q=>q
theorem Un.laid (k:∀ b u,h.get? b=some u→h'.get? b=some u) (hp:h.objs.size≤a) (hn:H a=none):Un fs ex H (upd H a o) h h' where
  keep:=fun b u q _ _ _=>k b u q
  slot:=fun b u q _ _ _=>⟨u.slots,k b u q⟩
  free:=fun b u q n _=>by rw [ao (Nat.ne_of_lt (Nat.lt_of_lt_of_le (Heap.lt_size q) hp))];exact n
  there:=fun b u q _=>⟨u,k b u q⟩
  jX:=fun b xs q=>by rw [ao (aJ q hn)];exact q
  ju:=fun b u xs q=>by rw [ao (aJ q hn)];exact q
  jY:=fun b ps q=>⟨#[],by rw [ao (aJ q hn),q];simp⟩
theorem Un.write (mu:Me (H x)) (he:e=x∨H e=some (.own x)) (k:∀ b u,b≠e→h.get? b=some u→h'.get? b=some u) (LM:∃ u,h'.get? e=some u):Un fs ex H (upd H x o) h h':=by
  have hx:∀ b,H b=none→b≠x:=fun b n z=>by subst z;rw [n] at mu;exact mu
  have hb:∀ b,H b=none→b≠e:=fun b n z=>by
    subst z
    rcases he with r | r
    · exact hx b n r
    · rw [n] at r;cases r
  have hm:∀ b u,H b=some u→¬ Me (some u)→b≠x:=fun b u q nm z=>by subst z;rw [q] at mu;exact nm mu
  refine ⟨fun b u q n _ _=>k b u (hb b n) q,fun b u q n _ _=>⟨u.slots,k b u (hb b n) q⟩,fun b u q n _=>by rw [ao (hx b n)];exact n,fun b u q _=>?_,
    fun b xs q=>by rw [ao (hm b _ q fun z=>z)];exact q,fun b u xs q=>by rw [ao (hm b _ q fun z=>z)];exact q,fun b ps q=>⟨#[],by rw [ao (hm b _ q fun z=>z),q];simp⟩⟩
  by_cases hbe:b=e
  · subst hbe;exact LM
  · exact ⟨u,k b u hbe q⟩
theorem Un.mono (u:Un fs ex H H1 h h1) (hs:∀ b∈fs,b∈IB) (hx:∀ b∈ex,b∈ex'):Un IB ex' H H1 h h1:=
  ⟨fun b ob q n hb he=>u.keep b ob q n (fun z=>hb (hs b z)) fun z=>he (hx b z),fun _ _ q n _ he=>u.any q n fun z=>he (hx _ z),fun b ob q n he=>u.free b ob q n fun z=>he (hx b z),fun b ob q he=>u.there b ob q fun z=>he (hx b z),u.jX,u.ju,u.jY⟩
end
def O8 (h:Heap) (H:Hp):List Addr:=(List.range h.objs.size).filter fun a=>(H a).isSome
def vO (h:Heap) (H:Hp):Heap:=PySem.W.hideAll h (O8 h H)
theorem Ca (h:Heap) (H:Hp):(vO h H).objs.size=h.objs.size:=PySem.W.hideAll_size _ _
theorem DA {h:Heap} {H:Hp} {b:Addr} {o:Obj} (e:h.get? b=some o) (n:H b=none):(vO h H).get? b=some o:=
  PySem.W.hideAll_get _ e fun hm=>by
    have q:(H b).isSome=true:=(List.mem_filter.mp hm).2
    rw [n] at q;simp at q
theorem Gu {h:Heap} {H:Hp} {b:Addr} {o:Obj} (e:(vO h H).get? b=some o):h.get? b=some o∧H b=none:=by
  have e':h.get? b=some o:=PySem.W.of_hideAll (O8 h H) e
  refine ⟨e',?_⟩
  cases q:H b with
  | none=>rfl
  | some x=>
    have hm:b∈O8 h H:=List.mem_filter.mpr ⟨List.mem_range.mpr (Heap.lt_size e'),by simp [q]⟩
    have z:(vO h H).get? b=none:=PySem.W.hideAll_none (O8 h H) hm
    rw [z] at e;cases e
def Gv (g h:Heap) (L:Addr):List (Addr×Obj):=(List.range h.objs.size).filterMap fun a=>if a=L∨(g.get? a).isSome=true then none else (h.get? a).map fun o=>(a,o)
def rest (g h:Heap) (L d:Addr):List (Addr×Obj):=(Gv g h L).filter fun p=>decide (p.1≠d)
end L2
namespace L2
open PySem PySem.Spec PyProof.Rows
structure Mod (K:PySem.W.Frag) (mg:Str→Option Value) (base:Heap):Prop where
  Gd:K.In base
  glob:base.Ns mainGlobals mg
  blt:∃ mb,base.Ns builtinsNs mb∧∀ x:Str,x≠"__name__"→mb x=bootBuiltins x
  nolimit:base.NoLimit
structure Cx where
  prog:Program
  w:World
  K:PySem.W.Frag
  mg:Str→Option Value
  base:Heap
  A:Around
  N:List Str
  s₀:Shared
  H₀:Hp
  env:Env
  outer:List Env
  stack:List Env
  ex:List Addr
  fn:Str→Bool
  calm:Bool
  pn:List (Addr×Obj)
  xe:Value→Shared→Prop
def kR (l:List Env):List Addr:=l.filterMap (·.frame)
abbrev Cx.fs (X:Cx):List Addr:=kR X.outer
def Jt (sc:Scope) (x:Str):Prop:=sc.names.lookup x=some .local∨sc.names.lookup x=some .cell∨sc.names.lookup x=some .free
def Loc (sc:Scope) (x:Str):Prop:=sc.names.lookup x=some .local∨sc.names.lookup x=some .cell
def Look (env:Env) (h:Heap) (m:Str→Option Value) (x:Str) (u:Value):Prop:=
  (env.kindOf x=some .local∧m x=some u)∨((env.kindOf x=some .cell∨env.kindOf x=some .free)∧∃ c,env.cells.lookup x=some c∧h.IsCell c (some u))
structure Cx.Ok (X:Cx):Prop where
  mod:Mod X.K X.mg X.base
  kind:X.env.scope.kind=.function
  glob:X.env.globals=mainGlobals
  blt:X.env.builtins=builtinsNs
  above:X.s₀.heap.objs.size≤X.env.locals
  inj:∀ x y c,X.env.cells.lookup x=some c→X.env.cells.lookup y=some c→x=y
  has:∀ x,(X.env.kindOf x=some .cell∨X.env.kindOf x=some .free)→∃ c,X.env.cells.lookup x=some c
  Ge:∀ x c,X.fn x=true→X.env.cells.lookup x=some c→X.s₀.heap.objs.size≤c
  hd:X.calm=true→X.A.handled=none
  frames:X.A.frames=some X.stack
  IC:X.stack=X.outer∨(X.stack=X.env::X.outer∧X.env.frame=some X.env.locals)
  LN:∀ b∈X.ex,b≠X.env.locals∧∀ x c,X.env.cells.lookup x=some c→c≠b
  bs:∀ b o,X.base.get? b=some o→X.s₀.heap.get? b=some o∧X.H₀ b=none
  Ac:X.base.objs.size≤X.s₀.heap.objs.size
  vP:∀ b o,X.base.get? b=some o→b∉X.ex
  yz:∀ b∈X.ex,b∉X.fs
  jG:X.s₀.heap.FunFrames X.base X.outer
  Cb:∀ b∈X.fs,X.H₀ b=none
structure Inv (X:Cx) (pins:List (Addr×Obj)) (σ:List (Option V)) (H:Hp) (s:Shared):Prop where
  ok:X.Ok
  os:s.os=X.s₀.os
  bare:AllBare s.gens
  base:Un X.fs X.ex X.H₀ H X.s₀.heap s.heap
  loc:∃ m,s.heap.Ns X.env.locals m∧∀ (i:Nat) (x:Str) (v:V),X.N[i]?=some x→σ[i]?=some (some v)→Jt X.env.scope x→∃ u,RelV v u∧Look X.env s.heap m x u
  cell:∀ x c,X.env.cells.lookup x=some c→∃ v,s.heap.IsCell c v
  free:H X.env.locals=none
  eL:∀ x c,X.env.cells.lookup x=some c→H c=none
  pin:∀ p∈X.pn++pins,s.heap.get? p.1=some p.2∧H p.1=none∧p.1≠X.env.locals∧p.1∉X.fs∧∀ v,p.2.data≠.cell v
  bC:mY X.prog X.w H s.heap
  len:σ.length=X.N.length
section
variable {X:Cx} {pins:List (Addr×Obj)} {σ:List (Option V)} {H H':Hp} {s:Shared} {h':Heap}
theorem Cx.Ok.Rn (ok:X.Ok) {b:Addr} {o:Obj} (e:X.base.get? b=some o):b∉X.fs:=fun hb=>by
  have:=(ok.jG.mem hb).1
  rw [e] at this;cases this
theorem Inv.bs (I:Inv X pins σ H s):∀ b o,X.base.get? b=some o→s.heap.get? b=some o∧H b=none:=fun b o e=>
  ⟨I.base.keep b o (I.ok.bs b o e).1 (I.ok.bs b o e).2 (I.ok.Rn e) (I.ok.vP b o e),I.base.free b o (I.ok.bs b o e).1 (I.ok.bs b o e).2 (I.ok.vP b o e)⟩
theorem Inv.bk (I:Inv X pins σ H s):∀ b o,X.base.get? b=some o→s.heap.get? b=some o:=fun b o e=>(I.bs b o e).1
theorem Inv.mod (I:Inv X pins σ H s):Mod X.K X.mg X.base:=I.ok.mod
theorem Inv.lq (I:Inv X pins σ H s):X.K.In s.heap:=I.ok.mod.Gd.keeps I.bk
theorem Inv.nolimit (I:Inv X pins σ H s):s.heap.NoLimit:=I.ok.mod.nolimit.keeps I.bk
theorem Inv.fr (I:Inv X pins σ H s):∃ m,Fr X.base X.env.locals s.heap m:=
  let ⟨m,hn,_⟩:=I.loc
  ⟨m,hn,I.bk,Nat.le_trans I.ok.Ac I.ok.above⟩
theorem Inv.lt (I:Inv X pins σ H s):X.env.locals < s.heap.objs.size:=let ⟨_,hn,_⟩:=I.loc;hn.lt
theorem Inv.sz (I:Inv X pins σ H s):X.s₀.heap.objs.size≤s.heap.objs.size:=Nat.le_trans I.ok.above (Nat.le_of_lt I.lt)
theorem Inv.Ju (I:Inv X pins σ H s) {a:Addr} (h:s.heap.objs.size≤a):a∉X.fs:=fun hb=>by
  obtain ⟨_,o,ho,_⟩:=I.ok.jG.mem hb
  exact absurd (Nat.lt_of_lt_of_le (Heap.lt_size ho) (Nat.le_trans I.sz h)) (Nat.lt_irrefl _)
theorem Inv.Gf (I:Inv X pins σ H s):∀ x c,X.env.cells.lookup x=some c→c≠X.env.locals:=fun x c e z=>by
  obtain ⟨v,o,ho,hd⟩:=I.cell x c e
  obtain ⟨m,⟨o',es,ep,DB,hd',_⟩,_⟩:=I.loc
  rw [z,DB] at ho;cases ho;rw [hd'] at hd;cases hd
theorem Inv.jG (I:Inv X pins σ H s):s.heap.FunFrames X.base X.outer:=by
  have all:∀ (l:List Env),(∀ b∈kR l,b∈X.fs)→X.s₀.heap.FunFrames X.base l→s.heap.FunFrames X.base l:=by
    intro l
    induction l with
    | nil=>intro _ _;trivial
    | cons env r ih=>
      intro hs hl
      obtain ⟨hk,⟨L,o,hf,hn,ho,hd⟩,hr⟩:=hl
      have hL:L∈X.fs:=hs L (by unfold kR;rw [List.filterMap_cons,hf];exact List.mem_cons_self)
      obtain ⟨sl,e⟩:=I.base.slot L o ho (I.ok.Cb L hL) hL fun z=>I.ok.yz L z hL
      exact ⟨hk,⟨L,_,hf,hn,e,hd⟩,ih (fun b hb=>hs b (by unfold kR;rw [List.filterMap_cons,hf];exact List.mem_cons_of_mem _ hb)) hr⟩
  exact all X.outer (fun _ hb=>hb) I.ok.jG
theorem Inv.stack (I:Inv X pins σ H s):s.heap.FunFrames X.base X.stack:=by
  rcases I.ok.IC with e | ⟨e,hf⟩
  · rw [e];exact I.jG
  · rw [e]
    obtain ⟨m,hn,_⟩:=I.loc
    refine .cons (by rw [I.ok.kind];decide) hf hn ?_ I.jG
    exact Heap.get?_none_of_le (Nat.le_trans I.ok.Ac I.ok.above)
theorem Inv.ly (I:Inv X pins σ H s):∀ b∈kR X.stack,b∈X.env.locals::X.fs:=fun b hb=>by
  rcases I.ok.IC with e | ⟨e,hf⟩
  · rw [e] at hb;exact List.mem_cons_of_mem _ hb
  · rw [e] at hb
    unfold kR at hb
    rw [List.filterMap_cons,hf] at hb
    exact hb
theorem Inv.rD (I:Inv X pins σ H s):∀ b∈kR X.stack,H b=none:=fun b hb=>by
  rcases List.mem_cons.mp (I.ly b hb) with e | hb
  · rw [e];exact I.free
  · obtain ⟨_,o,ho,_⟩:=I.ok.jG.mem hb
    exact I.base.free b o ho (I.ok.Cb b hb) fun z=>I.ok.yz b z hb
theorem Inv.step {g':Array GenState} {t':Nat} {d':Drawn} {ch:List Addr} (I:Inv X pins σ H s)
    (Gg:∀ b∈ch,(b∈X.ex∨X.s₀.heap.objs.size≤b)∧b≠X.env.locals∧(∀ x c,X.env.cells.lookup x=some c→c≠b)∧∀ p∈X.pn++pins,p.1≠b)
    (keep:∀ b o,b≠X.env.locals→b∉X.fs→b∉ch→s.heap.get? b=some o→H b=none→h'.get? b=some o)
    (slot:∀ b o,b≠X.env.locals→b∈X.fs→b∉ch→s.heap.get? b=some o→H b=none→∃ sl,h'.get? b=some { o with slots:=sl }) (free:∀ b o,b∉ch→s.heap.get? b=some o→H b=none→H' b=none)
    (there:∀ b o,b∉ch→s.heap.get? b=some o→∃ o',h'.get? b=some o')
    (jX:∀ b xs,H b=some (.tup xs)→H' b=some (.tup xs)) (ju:∀ b o u,H b=some (.jt o u)→H' b=some (.jt o u)) (jY:∀ b ps,H b=some (.z7 ps)→∃ more,H' b=some (.z7 (ps++more)))
    (ns:∀ m,s.heap.Ns X.env.locals m→h'.Ns X.env.locals m) (bC:mY X.prog X.w H' h') (hg:AllBare g'):
    Inv X pins σ H' { s with heap:=h',gens:=g',drawn:=d',toks:=t' }:=by
  have neL:∀ b o,X.s₀.heap.get? b=some o→b≠X.env.locals:=fun b o e=>Nat.ne_of_lt (Nat.lt_of_lt_of_le (Heap.lt_size e) I.ok.above)
  have O9:∀ b o,X.s₀.heap.get? b=some o→b∉X.ex→b∉ch:=fun b o e hx hb=>by
    rcases (Gg b hb).1 with z | z
    · exact hx z
    · exact absurd (Nat.lt_of_lt_of_le (Heap.lt_size e) z) (Nat.lt_irrefl _)
  have cellK:∀ x c,X.env.cells.lookup x=some c→∀ v,s.heap.IsCell c v→h'.IsCell c v:=fun x c e v ⟨o,ho,hd⟩=>by
    have Mg:c∉ch:=fun z=>(Gg c z).2.2.1 x c e rfl
    by_cases hc:c∈X.fs
    · obtain ⟨sl,q⟩:=slot c o (I.Gf x c e) hc Mg ho (I.eL x c e)
      exact ⟨_,q,hd⟩
    · exact ⟨o,keep c o (I.Gf x c e) hc Mg ho (I.eL x c e),hd⟩
  refine ⟨I.ok,I.os,hg,⟨fun b o e n hb hx=>?_,fun b o e n hb hx=>?_,fun b o e n hx=>?_,fun b o e hx=>?_,fun b xs e=>jX b xs (I.base.jX b xs e),fun b o xs e=>ju b o xs (I.base.ju b o xs e),fun b ps e=>?_⟩,?_,fun x c e=>?_,?_,fun x c e=>?_,fun p hp=>?_,bC,I.len⟩
  · exact keep b o (neL b o e) hb (O9 b o e hx) (I.base.keep b o e n hb hx) (I.base.free b o e n hx)
  · obtain ⟨sl,e1⟩:=I.base.slot b o e n hb hx
    obtain ⟨sl',e2⟩:=slot b _ (neL b o e) hb (O9 b o e hx) e1 (I.base.free b o e n hx)
    exact ⟨sl',e2⟩
  · obtain ⟨o',e1⟩:=I.base.there b o e hx
    exact free b o' (O9 b o e hx) e1 (I.base.free b o e n hx)
  · obtain ⟨o',e1⟩:=I.base.there b o e hx
    exact there b o' (O9 b o e hx) e1
  · obtain ⟨m1,e1⟩:=I.base.jY b ps e
    obtain ⟨m2,e2⟩:=jY b _ e1
    exact ⟨m1++m2,by rw [e2,Array.append_assoc]⟩
  · obtain ⟨m,hn,hl⟩:=I.loc
    refine ⟨m,ns m hn,fun i x v e1 e2 e3=>?_⟩
    obtain ⟨u,r,l⟩:=hl i x v e1 e2 e3
    refine ⟨u,r,?_⟩
    rcases l with l | ⟨k,c,e,z⟩
    · exact .inl l
    · exact .inr ⟨k,c,e,cellK x c e _ z⟩
  · obtain ⟨v,z⟩:=I.cell x c e
    exact ⟨v,cellK x c e v z⟩
  · obtain ⟨m,⟨o,_,_,ho,_⟩,_⟩:=I.loc
    exact free _ o (fun z=>(Gg _ z).2.1 rfl) ho I.free
  · obtain ⟨v,o,ho,hd⟩:=I.cell x c e
    exact free c o (fun z=>(Gg c z).2.2.1 x c e rfl) ho (I.eL x c e)
  · obtain ⟨e,n,ne,nf,d⟩:=I.pin p hp
    have Mg:p.1∉ch:=fun z=>(Gg p.1 z).2.2.2 p hp rfl
    exact ⟨keep p.1 p.2 ne nf Mg e n,free p.1 p.2 Mg e n,ne,nf,d⟩
theorem Inv.un {t':Nat} (I:Inv X pins σ H s) (u:Un X.fs [] H H' s.heap h') (bC:mY X.prog X.w H' h'):Inv X pins σ H' { s with heap:=h',toks:=t' }:=by
  obtain ⟨m,⟨o,es,ep,ho,r⟩,_⟩:=id I.loc
  obtain ⟨sl,hL⟩:=u.any ho I.free (by simp)
  exact I.step (g':=s.gens) (d':=s.drawn) (ch:=[]) (fun _ z=>nomatch z) (fun b o _ hb _ e n=>u.keep b o e n hb (by simp)) (fun b o _ hb _ e n=>u.slot b o e n hb (by simp)) (fun b o _ e n=>u.free b o e n (by simp)) (fun b o _ e=>u.there b o e (by simp)) u.jX u.ju u.jY (fun m' hm=>by
    obtain ⟨o',es',ep',DB,r'⟩:=hm
    rw [ho] at DB;cases DB
    exact ⟨_,es',ep',hL,r'⟩) bC I.bare
theorem Inv.call {g':Array GenState} {t':Nat} {d':Drawn} {ch:List Addr} (I:Inv X pins σ H s) (u:Un (kR X.stack) ch H H' s.heap h') (bC:mY X.prog X.w H' h') (hg:AllBare g')
    (Gg:∀ b∈ch,(b∈X.ex∨X.s₀.heap.objs.size≤b)∧b≠X.env.locals∧(∀ x c,X.env.cells.lookup x=some c→c≠b)∧∀ p∈X.pn++pins,p.1≠b):
    Inv X pins σ H' { s with heap:=h',gens:=g',drawn:=d',toks:=t' }:=by
  obtain ⟨m,⟨o,es,ep,ho,r⟩,_⟩:=id I.loc
  obtain ⟨sl,hL⟩:=u.any ho I.free fun z=>(Gg _ z).2.1 rfl
  exact I.step (ch:=ch) Gg (fun b o hL hb hc e n=>u.keep b o e n (fun z=>(List.mem_cons.mp (I.ly b z)).elim hL hb) hc) (fun b o _ _ hc e n=>u.any e n hc) (fun b o hc e n=>u.free b o e n hc) (fun b o hc e=>u.there b o e hc) u.jX u.ju u.jY (fun m' hm=>by
    obtain ⟨o',es',ep',DB,r'⟩:=hm
    rw [ho] at DB;cases DB
    exact ⟨_,es',ep',hL,r'⟩) bC hg
theorem Inv.turned {t':Nat} {it:Addr} (I:Inv X pins σ H s) (k:∀ b o,b≠it→s.heap.get? b=some o→h'.get? b=some o) (hn:H it=none) (hL:it≠X.env.locals)
    (h1:it∈X.ex∨X.s₀.heap.objs.size≤it) (h2:∀ x c,X.env.cells.lookup x=some c→c≠it) (h3:∀ p∈X.pn++pins,p.1≠it):Inv X pins σ H { s with heap:=h',toks:=t' }:=by
  have nit:∀ b u,H b=some u→b≠it:=fun b u e z=>by rw [z,hn] at e;cases e
  refine I.step (g':=s.gens) (d':=s.drawn) (ch:=[it]) (fun b hb=>?_) (fun b o _ _ hc e _=>k b o (fun z=>hc (by simp [z])) e) (fun b o _ _ hc e _=>⟨o.slots,k b o (fun z=>hc (by simp [z])) e⟩) (fun _ _ _ _ n=>n)
    (fun b o hc e=>⟨o,k b o (fun z=>hc (by simp [z])) e⟩) (fun _ _ e=>e) (fun _ _ _ e=>e) (fun b ps e=>⟨#[],by rw [e];simp⟩) (fun m hm=>?_) (fun b u e=>?_) I.bare
  · have e:b=it:=by simpa using hb
    subst e
    exact ⟨h1,hL,h2,h3⟩
  · obtain ⟨o,es,ep,ho,r⟩:=hm
    exact ⟨o,es,ep,k _ o (Ne.symm hL) ho,r⟩
  · refine (I.bC b u e).qQ (fun c v hc q=>k c v ?_ q) (fun _ q=>q) fun _ _ q=>q
    rcases hc with z | z
    · rw [z];exact nit b u e
    · exact nit c _ z
theorem Inv.tok (I:Inv X pins σ H s) (t:Nat):Inv X pins σ H { s with toks:=t }:=I.un (h':=s.heap) (t':=t) Un.refl I.bC
theorem Inv.kept {t':Nat} (I:Inv X pins σ H s) (k:∀ b u,s.heap.get? b=some u→h'.get? b=some u):Inv X pins σ H { s with heap:=h',toks:=t' }:=I.un (Un.kept k) (I.bC.kept k)
theorem Inv.laid {a:Addr} {o:HO} {t':Nat} (I:Inv X pins σ H s) (k:∀ b u,s.heap.get? b=some u→h'.get? b=some u) (hp:s.heap.objs.size≤a) (new:cg X.prog X.w (upd H a o) h' a o):
    Inv X pins σ (upd H a o) { s with heap:=h',toks:=t' }:=I.un (Un.laid k hp (I.bC.fresh hp)) (I.bC.laid k hp new)
theorem Inv.write {x e:Addr} {o:HO} {t':Nat} (I:Inv X pins σ H s) (mu:Me (H x)) (he:e=x∨H e=some (.own x)) (k:∀ b u,b≠e→s.heap.get? b=some u→h'.get? b=some u) (LM:∃ u,h'.get? e=some u)
    (new:cg X.prog X.w (upd H x o) h' x o):Inv X pins σ (upd H x o) { s with heap:=h',toks:=t' }:=I.un (Un.write mu he k LM) (I.bC.write mu he k LM new)
theorem Inv.rE {ID:List (Addr×Obj)} (I:Inv X pins σ H s) (h:∀ p∈ID,s.heap.get? p.1=some p.2∧H p.1=none∧p.1≠X.env.locals∧p.1∉X.fs∧∀ v,p.2.data≠.cell v):Inv X ID σ H s:=
  ⟨I.ok,I.os,I.bare,I.base,I.loc,I.cell,I.free,I.eL,fun p hp=>(List.mem_append.mp hp).elim (fun z=>I.pin p (List.mem_append_left _ z)) (h p),I.bC,I.len⟩
theorem rP {N:List Str} (hN:N.Nodup) {i j:Nat} {x:Str} (a:N[i]?=some x) (b:N[j]?=some x):i=j:=by
  obtain ⟨h1,e1⟩:=List.getElem?_eq_some_iff.mp a
  obtain ⟨h2,e2⟩:=List.getElem?_eq_some_iff.mp b
  exact (List.getElem_inj hN).mp (e1.trans e2.symm)
theorem uU {M:Model} {A:Around} {E:Value→Shared→Prop} {i:Nat} {x:Str} {v:V} {u:Value} {Q:Unit→Shared→Prop} (I:Inv X pins σ H s) (hN:X.N.Nodup) (hi:X.N[i]?=some x) (hx:Loc X.env.scope x) (r:RelV v u)
    (h:∀ s',Inv X pins (σ.set i (some v)) H s'→(∃ a,Heap.SameBut a s.heap s'.heap∧(a=X.env.locals∨X.env.cells.lookup x=some a))→Q () s') (hf:X.fn x=true∨X.env.scope.names.lookup x=some .local:=by first | exact .inl rfl | exact .inr rfl | assumption):wpAny M A (storeName X.env x u) Q E s:=by
  obtain ⟨m,hn,hl⟩:=id I.loc
  have Ro:(X.env.scope.kind==.class||(X.env.scope.kind==.module&&X.env.locals !=X.env.globals))=false:=by rw [I.ok.kind];rfl
  have hiσ:i < σ.length:=by rw [I.len];exact (List.getElem?_eq_some_iff.mp hi).1
  have Gf:=I.Gf
  have tracked:∀ {a:Addr} {h':Heap},(∃ o,s.heap.get? a=some o∧H a=none)→Heap.SameBut a s.heap h'→mY X.prog X.w H h':=fun {a h'} ha hs b ob e=>by
    obtain ⟨_,_,hfree⟩:=ha
    refine (I.bC b ob e).qQ (fun c w' hc q=>(hs.2 c ?_).trans q) (fun _ q=>q) fun _ _ q=>q
    rintro rfl
    rcases hc with rfl | hc
    · rw [hfree] at e;cases e
    · rw [hfree] at hc;cases hc
  rcases hx with hk | hk
  · refine wpAny_storeName_local hk hn (fun h' hn' hs=>?_) Ro
    obtain ⟨oL,_,_,hoL,_⟩:=id hn
    refine h _ ⟨I.ok,I.os,I.bare,⟨fun b o e n hb hx=>?_,fun b o e n hb hx=>?_,I.base.free,fun b o e hx=>?_,I.base.jX,I.base.ju,I.base.jY⟩,⟨_,hn',fun j y v' e1 e2 e3=>?_⟩,fun y c e=>?_,I.free,I.eL,fun p hp=>?_,tracked ⟨oL,hoL,I.free⟩ hs,by simpa using I.len⟩ ⟨_,hs,.inl rfl⟩
    · exact (hs.2 b (Nat.ne_of_lt (Nat.lt_of_lt_of_le (Heap.lt_size e) I.ok.above))).trans (I.base.keep b o e n hb hx)
    · obtain ⟨sl,e1⟩:=I.base.slot b o e n hb hx
      exact ⟨sl,(hs.2 b (Nat.ne_of_lt (Nat.lt_of_lt_of_le (Heap.lt_size e) I.ok.above))).trans e1⟩
    · obtain ⟨o',e1⟩:=I.base.there b o e hx
      exact ⟨o',(hs.2 b (Nat.ne_of_lt (Nat.lt_of_lt_of_le (Heap.lt_size e) I.ok.above))).trans e1⟩
    · by_cases hj:j=i
      · subst hj
        rw [hi] at e1;cases e1
        rw [List.getElem?_set_self hiσ] at e2
        cases e2
        exact ⟨u,r,.inl ⟨hk,by simp⟩⟩
      · rw [List.getElem?_set_ne (Ne.symm hj)] at e2
        obtain ⟨u',r',q⟩:=hl j y v' e1 e2 e3
        refine ⟨u',r',?_⟩
        rcases q with ⟨k,e⟩ | ⟨k,c,e,z⟩
        · refine .inl ⟨k,?_⟩
          have:y≠x:=fun e=>hj (rP hN e1 (e ▸ hi))
          simp [this,e]
        · exact .inr ⟨k,c,e,z.sameBut hs (Gf y c e)⟩
    · obtain ⟨w',z⟩:=I.cell y c e
      exact ⟨w',z.sameBut hs (Gf y c e)⟩
    · obtain ⟨e,n,ne,nf,d⟩:=I.pin p hp
      exact ⟨(hs.2 p.1 ne).trans e,n,ne,nf,d⟩
  · have Mh:X.fn x=true:=by
      rcases hf with z | z
      · exact z
      · rw [z] at hk;cases hk
    obtain ⟨c,hc⟩:=I.ok.has x (.inl hk)
    obtain ⟨w',z⟩:=I.cell x c hc
    refine wpAny_storeName_cell I.ok.kind hk hc z (fun h' hc' hs=>?_)
    obtain ⟨oc,hoc,hocd⟩:=id z
    refine h { s with heap:=h' } ⟨I.ok,I.os,I.bare,⟨fun b o e n hb hx=>?_,fun b o e n hb hx=>?_,I.base.free,fun b o e hx=>?_,I.base.jX,I.base.ju,I.base.jY⟩,⟨m,hn.sameBut hs (Ne.symm (Gf x c hc)),fun j y v' e1 e2 e3=>?_⟩,fun y c' e=>?_,I.free,I.eL,fun p hp=>?_,tracked ⟨oc,hoc,I.eL x c hc⟩ hs,by simpa using I.len⟩ ⟨c,hs,.inr hc⟩
    · exact (hs.2 b (Nat.ne_of_lt (Nat.lt_of_lt_of_le (Heap.lt_size e) (I.ok.Ge x c Mh hc)))).trans (I.base.keep b o e n hb hx)
    · obtain ⟨sl,e1⟩:=I.base.slot b o e n hb hx
      exact ⟨sl,(hs.2 b (Nat.ne_of_lt (Nat.lt_of_lt_of_le (Heap.lt_size e) (I.ok.Ge x c Mh hc)))).trans e1⟩
    · obtain ⟨o',e1⟩:=I.base.there b o e hx
      exact ⟨o',(hs.2 b (Nat.ne_of_lt (Nat.lt_of_lt_of_le (Heap.lt_size e) (I.ok.Ge x c Mh hc)))).trans e1⟩
    · by_cases hj:j=i
      · subst hj
        rw [hi] at e1;cases e1
        rw [List.getElem?_set_self hiσ] at e2
        cases e2
        exact ⟨u,r,.inr ⟨.inl hk,c,hc,hc'⟩⟩
      · rw [List.getElem?_set_ne (Ne.symm hj)] at e2
        obtain ⟨u',r',q⟩:=hl j y v' e1 e2 e3
        refine ⟨u',r',?_⟩
        rcases q with q | ⟨k,c',e,z'⟩
        · exact .inl q
        · refine .inr ⟨k,c',e,z'.sameBut hs ?_⟩
          rintro rfl
          exact hj (rP hN e1 (I.ok.inj _ _ _ e hc ▸ hi))
    · by_cases hcc:c'=c
      · subst hcc;exact ⟨_,hc'⟩
      · obtain ⟨w2,z2⟩:=I.cell y c' e
        exact ⟨w2,z2.sameBut hs hcc⟩
    · obtain ⟨e,n,ne,nf,d⟩:=I.pin p hp
      refine ⟨(hs.2 p.1 ?_).trans e,n,ne,nf,d⟩
      intro q
      rw [q,hoc] at e
      have q':oc=p.2:=Option.some.inj e
      exact d w' (by rw [← q'];exact hocd)
theorem rQ {M:Model} {A:Around} {E:Value→Shared→Prop} {i:Nat} {x:Str} {v:V} {u:Value} {Q:Unit→Shared→Prop} (I:Inv X pins σ H s) (hN:X.N.Nodup) (hi:X.N[i]?=some x) (hx:Loc X.env.scope x) (r:RelV v u)
    (h:∀ s',Inv X pins (σ.set i (some v)) H s'→Q () s') (hf:X.fn x=true∨X.env.scope.names.lookup x=some .local:=by first | exact .inl rfl | exact .inr rfl | assumption):wpAny M A (storeName X.env x u) Q E s:=
  uU I hN hi hx r (fun s' I' _=>h s' I') hf
theorem Inv.IE {s':Shared} {ch:List Addr} (I:Inv X pins σ H s) (ho:s'.os=s.os) (u:Un (kR X.stack) ch H H' s.heap s'.heap) (bC:mY X.prog X.w H' s'.heap) (hg:AllBare s'.gens)
    (Gg:∀ b∈ch,(b∈X.ex∨X.s₀.heap.objs.size≤b)∧b≠X.env.locals∧(∀ x c,X.env.cells.lookup x=some c→c≠b)∧∀ p∈X.pn++pins,p.1≠b):Inv X pins σ H' s':=by
  obtain ⟨h',g',d',t',o'⟩:=s'
  have e:o'=s.os:=ho
  subst e
  exact I.call (g':=g') (t':=t') (d':=d') u bC hg Gg
end
abbrev XK:=Value→Option Addr→Hp→Prop
abbrev St:=List (Option V)
abbrev VK:=V→Hp→Prop
abbrev TE:=St→Hp→VK→Prop
abbrev TT:=St→Hp→(Bool→Hp→Prop)→Prop
abbrev TA:=St→Hp→(List V→Hp→Prop)→Prop
structure Ends where
  nx:St→Hp→Prop
  rt:VK
  bk:St→Hp→Prop:=fun _ _=>False
  ct:St→Hp→Prop:=fun _ _=>False
abbrev TS:=Ends→St→Hp→Prop
def EP (X:Cx) (pins:List (Addr×Obj)) (σ:St) (Q:VK) (u:Value) (s':Shared):Prop:=∃ v H',Inv X pins σ H' s'∧RelV v u∧Q v H'
def TP (X:Cx) (pins:List (Addr×Obj)) (σ:St) (Q:Bool→Hp→Prop) (b:Bool) (s':Shared):Prop:=∃ H',Inv X pins σ H' s'∧Q b H'
def AP (X:Cx) (pins:List (Addr×Obj)) (σ:St) (Q:List V→Hp→Prop) (us:List Value) (s':Shared):Prop:=∃ vs H',Inv X pins σ H' s'∧Vals vs us∧Q vs H'
def SP (X:Cx) (pins:List (Addr×Obj)) (D:Ends) (f:Flow) (s':Shared):Prop:=
  match f with
  | .next=>∃ σ' H',Inv X pins σ' H' s'∧D.nx σ' H'
  | .brk=>∃ σ' H',Inv X pins σ' H' s'∧D.bk σ' H'
  | .cont=>∃ σ' H',Inv X pins σ' H' s'∧D.ct σ' H'
  | .ret u=>∃ v σ' H',Inv X pins σ' H' s'∧RelV v u∧D.rt v H'
def PE (X:Cx) (e:Expr) (t:TE):Prop:=
  ∀ (pins:List (Addr×Obj)) (s:Shared) (σ:St) (H:Hp) (Q:VK),Inv X pins σ H s→t σ H Q→wpAny (model X.prog X.w) X.A (eval e X.env) (EP X pins σ Q) X.xe s
def PT (X:Cx) (e:Expr) (t:TT):Prop:=
  ∀ (pins:List (Addr×Obj)) (s:Shared) (σ:St) (H:Hp) (Q:Bool→Hp→Prop),Inv X pins σ H s→t σ H Q→wpAny (model X.prog X.w) X.A (isTrue e X.env (eval e X.env)) (TP X pins σ Q) X.xe s
def PW (X:Cx) (e:Expr) (t:TT):Prop:=
  ∀ (whole:Sem Value) (pins:List (Addr×Obj)) (s:Shared) (σ:St) (H:Hp) (Q:Bool→Hp→Prop),Inv X pins σ H s→t σ H Q→wpAny (model X.prog X.w) X.A (isTrue e X.env whole) (TP X pins σ Q) X.xe s
theorem PW.pt {X:Cx} {e:Expr} {t:TT} (h:PW X e t):PT X e t:=h _
def PA (X:Cx) (es:List Expr) (t:TA):Prop:=
  ∀ (pos:Pos) (pins:List (Addr×Obj)) (s:Shared) (σ:St) (H:Hp) (Q:List V→Hp→Prop),Inv X pins σ H s→t σ H Q→wpAny (model X.prog X.w) X.A (spliced (backTo pos (starEach es X.env))) (AP X pins σ Q) X.xe s
def PS (X:Cx) (st:Stmt) (t:TS):Prop:=
  ∀ (pins:List (Addr×Obj)) (s:Shared) (σ:St) (H:Hp) (D:Ends),Inv X pins σ H s→t D σ H→wpAny (model X.prog X.w) X.A (exec st X.env) (SP X pins D) X.xe s
def z8 (X:Cx) (st:List Stmt) (t:TS):Prop:=
  ∀ (pins:List (Addr×Obj)) (s:Shared) (σ:St) (H:Hp) (D:Ends),Inv X pins σ H s→t D σ H→wpAny (model X.prog X.w) X.A (execs st X.env) (SP X pins D) X.xe s
theorem bV {α:Type} {t:Sem α} {Q Q':α→Shared→Prop} {M:Model} {A:Around} {E:Value→Shared→Prop} {s:Shared} (h:wpAny M A t Q E s) (hQ:∀ a s,Q a s→Q' a s):wpAny M A t Q' E s:=wpAny_mono h hQ fun _ _ x=>x
end L2
namespace L2
open PySem PySem.Spec PyProof.Rows
section
variable {X:Cx}
def oj (i:Nat):TE:=fun σ H Q=>∃ v,σ[i]?=some (some v)∧Q v H
def tC (v:V):TE:=fun _ H Q=>Q v H
theorem Jv {i:Nat} {x:Str} {pos:Pos} (hN:X.N[i]?=some x) (hv:Jt X.env.scope x) (hd:(x==("__debug__":Str))=false:=by decide) (yC:(x==("__classdict__":Str))=false:=by decide):PE X (.Name x pos) (oj i):=by
  intro pins s σ H Q I h
  obtain ⟨v,e,h⟩:=h
  obtain ⟨m,hn,hl⟩:=I.loc
  obtain ⟨u,r,l⟩:=hl i x v hN e hv
  have fin:EP X pins σ Q u s:=⟨v,H,I,r,h⟩
  rcases l with ⟨hk,hm⟩ | ⟨hk,c,hc,hcell⟩
  · exact wpAny_Name (wpAny_loadName_local I.ok.kind hk hn hm fin) hd
  · rcases hk with hk | hk
    · exact wpAny_Name (wpAny_loadName_cell I.ok.kind hk hc hcell fin) hd
    · exact wpAny_Name (wpAny_loadName_free I.ok.kind hk hc hcell fin yC) hd
theorem Ad {i j pos}:PE X (.Constant (.int i) j pos) (tC (.int i)):=fun _ _ _ H _ I h=>wpAny_Constant_int ⟨.int i,H,I.tok _,⟨_,rfl⟩,h⟩
theorem Mi {b j pos}:PE X (.Constant (.bool b) j pos) (tC (.bl b)):=fun _ _ _ H _ I h=>Constant_bool ⟨.bl b,H,I,rfl,h⟩
theorem Jw {j pos}:PE X (.Constant .none j pos) (tC .cG):=fun _ _ _ H _ I h=>Constant_none ⟨.cG,H,I,rfl,h⟩
theorem DC {x j pos}:PE X (.Constant (.str x) j pos) (tC (.str x)):=fun _ _ _ H _ I h=>Calls.Constant_str ⟨.str x,H,I.tok _,⟨_,rfl⟩,h⟩
def Gl (X:Cx) (x:Str):Prop:=X.env.kindOf x=some .globalImplicit
theorem jZ {E:Value→Shared→Prop} {pins:List (Addr×Obj)} {s:Shared} {σ:St} {H:Hp} {x:Str} {u:Value} {pos:Pos} {Q:Value→Shared→Prop} (I:Inv X pins σ H s) (hg:Gl X x) (hm:X.mg x=some u) (h:Q u s)
    (hd:(x==("__debug__":Str))=false:=by decide):wpAny (model X.prog X.w) X.A (eval (.Name x pos) X.env) Q E s:=
  Calls.Name_function_global I.ok.kind hg (Calls.loadGlobal_global (by rw [I.ok.glob];exact I.mod.glob.keeps I.bk) hm h) hd
theorem rR {E:Value→Shared→Prop} {pins:List (Addr×Obj)} {s:Shared} {σ:St} {H:Hp} {x:Str} {u:Value} {pos:Pos} {Q:Value→Shared→Prop} (I:Inv X pins σ H s) (hg:Gl X x) (hm:X.mg x=none) (hv:bootBuiltins x=some u) (h:Q u s)
    (hn:x≠"__name__":=by decide) (hd:(x==("__debug__":Str))=false:=by decide):wpAny (model X.prog X.w) X.A (eval (.Name x pos) X.env) Q E s:=by
  obtain ⟨mb,h1,h2⟩:=I.mod.blt
  exact Calls.Name_function_global I.ok.kind hg (Calls.loadGlobal_builtin (by rw [I.ok.glob];exact I.mod.glob.keeps I.bk) hm (by rw [I.ok.blt];exact h1.keeps I.bk) ((h2 x hn).trans hv) h) hd
theorem Gw {x:Str} {v:V} {u:Value} {pos:Pos} (hg:Gl X x) (hm:X.mg x=some u) (r:RelV v u) (hd:(x==("__debug__":Str))=false:=by decide):PE X (.Name x pos) (tC v):=
  fun _ _ _ H _ I h=>jZ I hg hm ⟨v,H,I,r,h⟩ hd
theorem Gx {x:Str} {v:V} {u:Value} {pos:Pos} (hg:Gl X x) (hm:X.mg x=none) (hv:bootBuiltins x=some u) (r:RelV v u) (hn:x≠"__name__":=by decide) (hd:(x==("__debug__":Str))=false:=by decide):PE X (.Name x pos) (tC v):=
  fun _ _ _ H _ I h=>rR I hg hm hv ⟨v,H,I,r,h⟩ hn hd
variable {a b:Expr} {ta tb:TE} {pos:Pos}
def tB (t:TE):TT:=fun σ H Q=>t σ H fun x H1=>∃ c,x=.bl c∧Q c H1
theorem Jx {e:Expr} {t:TE} (h:PE X e t) (he:∀ whole,isTrue e X.env whole=(do let v ← whole;standAt e.pos;holding [v] (truthy v)):=by intro _;rfl):PT X e (tB t):=by
  intro pins s σ H Q I hw
  refine isTrue_plain (bV (h pins s σ H _ I hw) fun v s1 ⟨x,H1,I1,r1,q1⟩=>?_) (he _)
  obtain ⟨d,rfl,q⟩:=q1
  cases r1
  exact wpAny_truthy_bool ⟨H1,I1,q⟩
variable {tA Mj:TT} {rest:List Expr}
def Cc (t u:TT):TT:=fun σ H Q=>t σ H fun c H1=>if c=true then u σ H1 Q else Q false H1
def IF (t u:TT):TT:=fun σ H Q=>t σ H fun c H1=>if c=true then Q true H1 else u σ H1 Q
def yE (t:TT):TT:=fun σ H Q=>t σ H fun c H1=>Q (!c) H1
theorem pw_or1 (ha:PT X a tA):PW X (.BoolOp .Or [a] pos) tA:=by
  intro wh pins s σ H Q I h
  refine isTrue_or (bV (ha pins s σ H Q I h) fun c s1 e=>?_)
  cases c with
  | false=>exact isTrue_or_nil e
  | true=>exact e
theorem pw_or (ha:PT X a tA) (hb:PW X (.BoolOp .Or (b::rest) pos) Mj):PW X (.BoolOp .Or (a::b::rest) pos) (IF tA Mj):=by
  intro wh pins s σ H Q I h
  refine isTrue_or (bV (ha pins s σ H _ I h) fun c s1 ⟨H1,I1,q1⟩=>?_)
  cases c with
  | true=>exact ⟨H1,I1,q1⟩
  | false=>exact hb wh pins s1 σ H1 Q I1 q1
theorem Jy (ha:PT X a tA):PT X (.UnaryOp .Not a pos) (yE tA):=by
  intro pins s σ H Q I h
  exact isTrue_not (ha pins s σ H (fun c H1=>Q (!c) H1) I h)
def qu (ta tb:TE):TE:=fun σ H Q=>ta σ H fun x H1=>∃ c,x=.bl c∧if c=true then tb σ H1 Q else Q (.bl false) H1
def yF (ta tb:TE):TE:=fun σ H Q=>ta σ H fun x H1=>∃ c,x=.bl c∧if c=true then Q (.bl true) H1 else tb σ H1 Q
def qv (ta:TE):TE:=fun σ H Q=>ta σ H fun x H1=>∃ c,x=.bl c∧Q (.bl (!c)) H1
theorem Jz {op} {t:TE} (h:PE X a t):PE X (.BoolOp op [a] pos) t:=fun pins s σ H Q I hw=>BoolOp_one (h pins s σ H Q I hw)
theorem JC (ha:PE X a ta) (hb:PE X (.BoolOp .And (b::rest) pos) tb):PE X (.BoolOp .And (a::b::rest) pos) (qu ta tb):=by
  intro pins s σ H Q I h
  refine BoolOp_and (bV (ha pins s σ H _ I h) fun v s1 ⟨x,H1,I1,r1,q1⟩=>?_)
  obtain ⟨c,rfl,q1⟩:=q1
  cases r1
  refine wpAny_truthy_bool ?_
  cases c with
  | true=>exact hb pins s1 σ H1 Q I1 q1
  | false=>exact ⟨.bl false,H1,I1,rfl,q1⟩
theorem Ml (ha:PE X a ta) (hb:PE X (.BoolOp .Or (b::rest) pos) tb):PE X (.BoolOp .Or (a::b::rest) pos) (yF ta tb):=by
  intro pins s σ H Q I h
  refine BoolOp_or (bV (ha pins s σ H _ I h) fun v s1 ⟨x,H1,I1,r1,q1⟩=>?_)
  obtain ⟨c,rfl,q1⟩:=q1
  cases r1
  refine wpAny_truthy_bool ?_
  cases c with
  | false=>exact hb pins s1 σ H1 Q I1 q1
  | true=>exact ⟨.bl true,H1,I1,rfl,q1⟩
theorem JD (ha:PE X a ta):PE X (.UnaryOp .Not a pos) (qv ta):=by
  intro pins s σ H Q I h
  refine UnaryOp_ (bV (ha pins s σ H _ I h) fun v s1 ⟨x,H1,I1,r1,q1⟩=>?_)
  obtain ⟨c,rfl,q1⟩:=q1
  cases r1
  exact not_of (wpAny_truthy_bool ⟨.bl (!c),H1,I1,rfl,q1⟩)
def IG (t:TT) (ta tb:TE):TE:=fun σ H Q=>t σ H fun c H1=>if c=true then ta σ H1 Q else tb σ H1 Q
theorem DE {c:Expr} (hc:PT X c tA) (ha:PE X a ta) (hb:PE X b tb):PE X (.IfExp c a b pos) (IG tA ta tb):=by
  intro pins s σ H Q I h
  refine wpAny_IfExp (bV (hc pins s σ H _ I h) fun d s1 ⟨H1,I1,q1⟩=>?_)
  cases d with
  | true=>exact ha pins s1 σ H1 Q I1 q1
  | false=>exact hb pins s1 σ H1 Q I1 q1
end
end L2
namespace L2
open PySem PySem.Spec PyProof.Rows
def cz (K:PySem.W.Frag) (H:Hp) (a:Addr) (xs:List V):Prop:=
  Rd H a (.lst xs)∨
    ∃ (o:Obj) (aY:Array Value) (n:Nat),K.lookup a=some o∧o.cls=.type "list"∧o.dict=none∧o.data=.seq aY n∧aY.size≤sizeLine∧Vals xs aY.toList
def j0 (K:PySem.W.Frag) (H:Hp) (a:Addr) (xs:List V):Prop:=
  Rd H a (.tup xs)∨
    ∃ (o:Obj) (aY:Array Value) (n:Nat),K.lookup a=some o∧o.cls=.type "tuple"∧o.data=.seq aY n∧aY.size≤sizeLine∧Vals xs aY.toList
def yG:Value→Option V
  | .none=>some .cG
  | .bool b=>some (.bl b)
  | .int i _=>some (.int i)
  | .str x _=>some (.str x)
  | .bytes b _=>some (.Bl b)
  | .float b _=>some (.Jr b)
  | .ref a=>some (.ref a)
  | .type n=>some (.ty n)
  | _=>none
theorem RelV.abs {x:V} {u:Value} (r:RelV x u):yG u=some x:=by
  cases x with
  | cG=>cases r;rfl
  | bl _=>cases r;rfl
  | int _=>obtain ⟨t,rfl⟩:=r;rfl
  | str _=>obtain ⟨t,rfl⟩:=r;rfl
  | Bl _=>obtain ⟨t,rfl⟩:=r;rfl
  | Jr _=>obtain ⟨t,rfl⟩:=r;rfl
  | ref _=>cases r;rfl
  | ty _=>cases r;rfl
theorem RelV.inj {x y:V} {u:Value} (r:RelV x u) (q:RelV y u):x=y:=Option.some.inj (r.abs.symm.trans q.abs)
theorem Vals.inj:∀ {xs ys:List V} {us:List Value},Vals xs us→Vals ys us→xs=ys
  | _,_,_,.nil,.nil=>rfl
  | _,_,_,.cons r t,.cons r' t'=>by rw [r.inj r',Vals.inj t t']
section
variable {X:Cx} {pins:List (Addr×Obj)} {σ:St} {H:Hp} {s:Shared} {a:Addr} {xs ys:List V}
theorem cz.of {K:PySem.W.Frag} (h:H a=some (.lst xs)):cz K H a xs:=.inl (.inl h)
theorem j0.of {K:PySem.W.Frag} (h:H a=some (.tup xs)):j0 K H a xs:=.inl (.inl h)
theorem Inv.list (I:Inv X pins σ H s) (h:cz X.K H a xs):∃ aY:List Value,Vals xs aY∧PlainL s.heap a aY.toArray∧xs.length≤sizeLine:=by
  rcases h with h | ⟨o,aY,n,hk,hc,hd,hs,hz,r⟩
  · obtain ⟨z,aY,n,r,e⟩:=h.ok I.bC
    exact ⟨aY,r,⟨_,n,e,rfl,rfl,rfl⟩,z⟩
  · refine ⟨aY.toList,r,⟨o,n,I.lq a o hk,hc,hd,by simpa using hs⟩,?_⟩
    have e:=r.length
    simp only [Array.length_toList] at e
    omega
theorem Inv.tuple (I:Inv X pins σ H s) (h:j0 X.K H a xs):∃ aY:List Value,Vals xs aY∧IsTup s.heap a aY.toArray∧xs.length≤sizeLine:=by
  rcases h with h | ⟨o,aY,n,hk,hc,hs,hz,r⟩
  · obtain ⟨z,aY,r,p⟩:=h.ok I.bC
    exact ⟨aY,r,p,z⟩
  · refine ⟨aY.toList,r,⟨o,I.lq a o hk,hc,n,by simpa using hs⟩,?_⟩
    have e:=r.length
    simp only [Array.length_toList] at e
    omega
theorem Inv.om (I:Inv X pins σ H s) (h:cz X.K H a xs) (h':cz X.K H a ys):xs=ys:=by
  obtain ⟨aY,r,⟨o,n,e,_,_,d⟩,_⟩:=I.list h
  obtain ⟨its',r',⟨o',n',e',_,_,d'⟩,_⟩:=I.list h'
  rw [e] at e';cases e'
  rw [d] at d'
  injection d' with d1 _
  have:aY=its':=by simpa using congrArg Array.toList d1
  subst this
  exact r.inj r'
theorem Inv.pH (I:Inv X pins σ H s) (h:j0 X.K H a xs) (h':j0 X.K H a ys):xs=ys:=by
  obtain ⟨aY,r,⟨o,e,_,n,d⟩,_⟩:=I.tuple h
  obtain ⟨its',r',⟨o',e',_,n',d'⟩,_⟩:=I.tuple h'
  rw [e] at e';cases e'
  rw [d] at d'
  injection d' with d1 _
  have:aY=its':=by simpa using congrArg Array.toList d1
  subst this
  exact r.inj r'
end
abbrev Cx.qR (X:Cx) (E:Value→Shared→Prop):Cx:={ X with xe:=E }
abbrev Cx.Du (X:Cx):Cx:=X.qR fun _ _=>False
theorem Cx.Ok.qR {X:Cx} (ok:X.Ok) (E:Value→Shared→Prop):(X.qR E).Ok:=
  ⟨ok.mod,ok.kind,ok.glob,ok.blt,ok.above,ok.inj,ok.has,ok.Ge,ok.hd,ok.frames,ok.IC,ok.LN,ok.bs,ok.Ac,ok.vP,ok.yz,ok.jG,ok.Cb⟩
theorem Cx.Ok.jv {X:Cx} {E:Value→Shared→Prop} (ok:(X.qR E).Ok):X.Ok:=
  ⟨ok.mod,ok.kind,ok.glob,ok.blt,ok.above,ok.inj,ok.has,ok.Ge,ok.hd,ok.frames,ok.IC,ok.LN,ok.bs,ok.Ac,ok.vP,ok.yz,ok.jG,ok.Cb⟩
section
variable {X:Cx} {pins:List (Addr×Obj)} {σ:St} {H:Hp} {s:Shared} {E:Value→Shared→Prop}
theorem Inv.qR (I:Inv X pins σ H s) (E:Value→Shared→Prop):Inv (X.qR E) pins σ H s:=⟨I.ok.qR E,I.os,I.bare,I.base,I.loc,I.cell,I.free,I.eL,I.pin,I.bC,I.len⟩
theorem Inv.jv (I:Inv (X.qR E) pins σ H s):Inv X pins σ H s:=⟨I.ok.jv,I.os,I.bare,I.base,I.loc,I.cell,I.free,I.eL,I.pin,I.bC,I.len⟩
theorem SP.jv {D:Ends} {f:Flow} {s':Shared} (h:SP (X.qR E) pins D f s'):SP X pins D f s':=by
  cases f with
  | next=>obtain ⟨σ',H',I,q⟩:=h;exact ⟨σ',H',I.jv,q⟩
  | brk=>obtain ⟨σ',H',I,q⟩:=h;exact ⟨σ',H',I.jv,q⟩
  | cont=>obtain ⟨σ',H',I,q⟩:=h;exact ⟨σ',H',I.jv,q⟩
  | ret u=>obtain ⟨v,σ',H',I,r,q⟩:=h;exact ⟨v,σ',H',I.jv,r,q⟩
theorem PE.Du {e:Expr} {t:TE} (h:PE X.Du e t):PE X e t:=fun pins s σ H Q I hw=>
  wpAny_mono (h pins s σ H Q (I.qR _) hw) (fun _ _ ⟨v,H',I',r,q⟩=>⟨v,H',I'.jv,r,q⟩) fun _ _ z=>False.elim z
theorem PT.Du {e:Expr} {t:TT} (h:PT X.Du e t):PT X e t:=fun pins s σ H Q I hw=>
  wpAny_mono (h pins s σ H Q (I.qR _) hw) (fun _ _ ⟨H',I',q⟩=>⟨H',I'.jv,q⟩) fun _ _ z=>False.elim z
theorem z8.Du {st:List Stmt} {t:TS} (h:z8 X.Du st t):z8 X st t:=fun pins s σ H D I hw=>
  wpAny_mono (h pins s σ H D (I.qR _) hw) (fun _ _ q=>q.jv) fun _ _ z=>False.elim z
end
section
variable {X:Cx} {st:Stmt} {rest:List Stmt} {t u:TS} {e:Expr} {te:TE} {pos:Pos}
def qw:TS:=fun D σ H=>D.nx σ H
def yH (t u:TS):TS:=fun D σ H=>t { D with nx:=u D } σ H
theorem Gy:z8 X [] qw:=fun _ _ σ H _ I h=>wpAny_execs_nil ⟨σ,H,I,h⟩
theorem DF (h1:PS X st t) (h2:z8 X rest u):z8 X (st::rest) (yH t u):=by
  intro pins s σ H D I h
  refine wpAny_execs_cons (bV (h1 pins s σ H { D with nx:=u D } I h) fun f s1 q=>?_)
  cases f with
  | next=>
    obtain ⟨σ',H',I',q⟩:=q
    exact h2 pins s1 σ' H' D I' q
  | ret v=>exact q
  | brk=>exact q
  | cont=>exact q
theorem Gz (h1:PS X st t):z8 X [st] t:=by
  intro pins s σ H D I h
  refine wpAny_execs_cons (bV (h1 pins s σ H D I h) fun f s1 q=>?_)
  cases f with
  | next=>exact wpAny_execs_nil q
  | ret v=>exact q
  | brk=>exact q
  | cont=>exact q
theorem Inv.quiet {pins:List (Addr×Obj)} {σ:St} {H:Hp} {s:Shared} (I:Inv X pins σ H s):interactive X.env=false:=by simp [interactive,I.ok.kind]
def qy (te:TE):TS:=fun D σ H=>te σ H fun _ H1=>D.nx σ H1
theorem GC (he:PE X e te) (hs:swapsWith e none pos.line X.env=pure false:=by rfl):PS X (.Expr e pos) (qy te):=by
  intro pins s σ H D I h
  exact wpAny_Expr_any (bV (he pins s σ H _ I h) fun v s1 ⟨x,H1,I1,r1,q1⟩=>⟨σ,H1,I1,q1⟩) I.quiet hs
def yI (te:TE):TS:=fun D σ H=>te σ H D.rt
theorem JH (he:PE X e te):PS X (.Return (some e) pos) (yI te):=by
  intro pins s σ H D I h
  exact wpAny_Return_some (bV (he pins s σ H _ I h) fun v s1 ⟨x,H1,I1,r1,q1⟩=>⟨x,σ,H1,I1,r1,q1⟩)
def uV:TS:=fun D _ H=>D.rt .cG H
def yJ (c:TT) (t u:TS):TS:=fun D σ H=>c σ H fun b H1=>if b=true then t D σ H1 else u D σ H1
theorem Mm {c:Expr} {a b:List Stmt} {tc:TT} (hc:PT X c tc) (ha:z8 X a t) (hb:z8 X b u):PS X (.If c a b pos) (yJ tc t u):=by
  intro pins s σ H D I h
  refine wpAny_If (bV (hc pins s σ H _ I h) fun d s1 ⟨H1,I1,q1⟩=>?_)
  cases d with
  | true=>exact ha pins s1 σ H1 D I1 q1
  | false=>exact hb pins s1 σ H1 D I1 q1
def lA:TS:=fun _ _ _=>False
theorem DG:PS X st lA:=fun _ _ _ _ _ _ h=>h.elim
end
abbrev TG:=V→St→Hp→(St→Hp→Prop)→Prop
abbrev Dv:=List V→St→Hp→(St→Hp→Prop)→Prop
def PG (X:Cx) (target:Expr) (t:TG):Prop:=
  ∀ (pins:List (Addr×Obj)) (s:Shared) (σ:St) (H:Hp) (v:V) (u:Value) (Q:St→Hp→Prop),Inv X pins σ H s→RelV v u→t v σ H Q→
    wpAny (model X.prog X.w) X.A (assign target X.env u) (fun _ s'=>∃ σ' H',Inv X pins σ' H' s'∧Q σ' H') X.xe s
def Mn (X:Cx) (ts:List Expr) (t:Dv):Prop:=
  ∀ (pins:List (Addr×Obj)) (s:Shared) (σ:St) (H:Hp) (vs:List V) (us:List Value) (Q:St→Hp→Prop),Inv X pins σ H s→Vals vs us→t vs σ H Q→
    wpAny (model X.prog X.w) X.A (assignInOrder ((assignEach ts X.env).map (·.2)) us) (fun _ s'=>∃ σ' H',Inv X pins σ' H' s'∧Q σ' H') X.xe s
abbrev GD:=V→V→V→Hp→(Hp→Prop)→Prop
def JJ (X:Cx) (t:GD):Prop:=
  ∀ (pins:List (Addr×Obj)) (s:Shared) (σ:St) (H:Hp) (o i v:V) (ov iv u:Value) (Q:Hp→Prop),Inv X pins σ H s→RelV o ov→RelV i iv→RelV v u→t o i v H Q→
    wpAny (model X.prog X.w) X.A (setItem ov iv u) (fun _ s'=>∃ H',Inv X pins σ H' s'∧Q H') X.xe s
abbrev Mq:=V→V→Hp→VK→Prop
def Rp (X:Cx) (op:Operator) (t:Mq):Prop:=
  ∀ (pins:List (Addr×Obj)) (s:Shared) (σ:St) (H:Hp) (x y:V) (v u:Value) (Q:VK),Inv X pins σ H s→RelV x v→RelV y u→t x y H Q→
    wpAny (model X.prog X.w) X.A (inplaceOp op v u) (EP X pins σ Q) X.xe s
section
variable {X:Cx} {pos:Pos}
def eN (i:Nat):TG:=fun v σ H Q=>Q (σ.set i (some v)) H
theorem vQ {i:Nat} {x:Str} (hN:X.N.Nodup) (hi:X.N[i]?=some x) (hx:Loc X.env.scope x) (hf:X.fn x=true∨X.env.scope.names.lookup x=some .local:=by first | exact .inl rfl | exact .inr rfl | assumption):PG X (.Name x pos) (eN i):=by
  intro pins s σ H v u Q I r h
  exact wpAny_assign_Name (rQ I hN hi hx r (fun s' I'=>⟨_,H,I',h⟩) hf)
def rS:Dv:=fun vs σ H Q=>vs=[]∧Q σ H
def je (t:TG) (u:Dv):Dv:=fun vs σ H Q=>∃ v r,vs=v::r∧t v σ H fun σ' H'=>u r σ' H' Q
theorem GF:Mn X [] rS:=by
  intro pins s σ H vs us Q I r h
  obtain ⟨e,h⟩:=h
  subst e
  cases r
  exact assignInOrder_nil ⟨σ,H,I,h⟩
theorem DH {e:Expr} {es:List Expr} {t:TG} {u:Dv} (h1:PG X e t) (h2:Mn X es u)
    (hs:(assignEach (e::es) X.env).map (·.2)=assign e X.env::(assignEach es X.env).map (·.2):=by rfl):Mn X (e::es) (je t u):=by
  intro pins s σ H vs us Q I r h
  obtain ⟨v,vr,e1,h⟩:=h
  subst e1
  cases r with
  | cons r rr=>
    rw [hs]
    refine assignInOrder_cons (bV (h1 pins s σ H _ _ _ I r h) fun _ s1 ⟨σ1,H1,I1,q1⟩=>?_)
    exact h2 pins s1 σ1 H1 _ _ Q I1 rr q1
def Rq (K:PySem.W.Frag) (n:Nat) (t:Dv):TG:=fun v σ H Q=>∃ a xs,v=.ref a∧j0 K H a xs∧xs.length=n∧t xs σ H Q
theorem JL {es:List Expr} {k:Nat} {t:Dv} {n:Nat} (hc:X.calm=true) (h:Mn X es t)
    (hn:(assignEach es X.env).length=n:=by rfl) (rF:(assignEach es X.env).findIdx? (·.1)=none:=by rfl):PG X (.Tuple es k pos) (Rq X.K n t):=by
  intro pins s σ H v u Q I r hw
  obtain ⟨a,xs,e1,hq,hl,hw⟩:=hw
  subst e1
  cases r
  obtain ⟨aY,rv,ht,hz⟩:=I.tuple hq
  refine assign_Tuple_tuple (I.ok.hd hc) ht (by simp [hn,← hl,rv.length]) rF fun h' hx=>?_
  have I1:Inv X pins σ H { s with heap:=h' }:=I.kept (t':=s.toks) fun b o e=>hx b o (Nat.ne_of_lt (Heap.lt_size e)) e
  exact h pins _ σ H xs _ Q I1 (by simpa using rv) hw
def yK (to ti:TE) (t:GD):TG:=fun v σ H Q=>to σ H fun o H1=>ti σ H1 fun i H2=>t o i v H2 fun H3=>Q σ H3
theorem JM {o i:Expr} {to ti:TE} {t:GD} (ho:PE X o to) (hi:PE X i ti) (hs:JJ X t)
    (ha:∀ v,assign (.Subscript o i pos) X.env v=(do
      let ov ← holding [v] (eval o X.env)
      let iv ← holding [v,ov] (eval i X.env)
      standAt pos
      holding [v,ov,iv] (setItem ov iv v)
      release [v,ov,iv] []):=by intro _;rfl):PG X (.Subscript o i pos) (yK to ti t):=by
  intro pins s σ H v u Q I r h
  rw [ha]
  refine wpAny_bind (wpAny_holding (bV (ho pins s σ H _ I h) fun ov s1 ⟨x,H1,I1,r1,q1⟩=>?_))
  refine wpAny_bind (wpAny_holding (bV (hi pins s1 σ H1 _ I1 q1) fun iv s2 ⟨y,H2,I2,r2,q2⟩=>?_))
  refine wpAny_bind (wpAny_standAt (wpAny_bind (wpAny_holding (bV (hs pins s2 σ H2 x y v ov iv u _ I2 r1 r2 r q2) fun _ s3 ⟨H3,I3,q3⟩=>?_))))
  exact wpAny_release ⟨σ,H3,I3,q3⟩
def pI (te:TE) (g:TG):TS:=fun D σ H=>te σ H fun x H1=>g x σ H1 D.nx
theorem JN {tg e:Expr} {te:TE} {g:TG} (he:PE X e te) (hg:PG X tg g) (hs:swapsWithSole [tg] e pos.line X.env=pure false:=by rfl) (hw:swappedStores [tg] e X.env=pure none:=by rfl)
    (h1:(assignEach [tg] X.env).map (·.2)=[assign tg X.env]:=by rfl):PS X (.Assign [tg] e pos) (pI te g):=by
  intro pins s σ H D I h
  refine wpAny_Assign_stores (bV (he pins s σ H _ I h) fun v s1 ⟨x,H1,I1,r1,q1⟩=>?_) hs hw
  rw [h1]
  exact bV (hg pins s1 σ H1 x v _ I1 r1 q1) fun _ s2 q=>q
theorem JP {i:Nat} {x:Str} {e:Expr} {te:TE} {pos':Pos} (hN:X.N.Nodup) (hi:X.N[i]?=some x) (hx:Loc X.env.scope x) (he:PE X e te) (hs:swapsWith e (some (.Name x pos')) pos.line X.env=pure false:=by rfl) (hf:X.fn x=true∨X.env.scope.names.lookup x=some .local:=by first | exact .inl rfl | exact .inr rfl | assumption):
    PS X (.Assign [.Name x pos'] e pos) (pI te (eN i)):=by
  intro pins s σ H D I h
  refine wpAny_Assign_Name (bV (he pins s σ H _ I h) fun v s1 ⟨y,H1,I1,r1,q1⟩=>?_) hs
  exact rQ I1 hN hi hx r1 (fun s2 I2=>⟨_,H1,I2,q1⟩) hf
def Mr (i:Nat) (te:TE) (ti:Mq):TS:=fun D σ H=>∃ x,σ[i]?=some (some x)∧te σ H fun y H1=>ti x y H1 fun z H2=>D.nx (σ.set i (some z)) H2
theorem JQ {i:Nat} {x:Str} {e:Expr} {te:TE} {op:Operator} {ti:Mq} {pos':Pos} (hN:X.N.Nodup) (hi:X.N[i]?=some x) (hx:Loc X.env.scope x) (he:PE X e te) (ho:Rp X op ti) (hf:X.fn x=true∨X.env.scope.names.lookup x=some .local:=by first | exact .inl rfl | exact .inr rfl | assumption):
    PS X (.AugAssign (.Name x pos') op e pos) (Mr i te ti):=by
  intro pins s σ H D I h
  obtain ⟨v,e1,h⟩:=h
  obtain ⟨m,hn,hl⟩:=I.loc
  have JR:Jt X.env.scope x:=by rcases hx with k | k;exact .inl k;exact .inr (.inl k)
  obtain ⟨u,r,l⟩:=hl i x v hi e1 JR
  refine wpAny_AugAssign_Name ?_
  have go:wpAny (model X.prog X.w) X.A (eval e X.env) (fun w s₂=>wpAny (model X.prog X.w) X.A (inplaceOp op u w) (fun r s₃=>wpAny (model X.prog X.w) X.A (storeName X.env x r) (fun _=>SP X pins D .next) X.xe s₃) X.xe s₂) X.xe s:=by
    refine bV (he pins s σ H _ I h) fun w s1 ⟨y,H1,I1,r1,q1⟩=>?_
    refine bV (ho pins s1 σ H1 v y u w _ I1 r r1 q1) fun z s2 ⟨zv,H2,I2,r2,q2⟩=>?_
    exact rQ I2 hN hi hx r2 (fun s3 I3=>⟨_,H2,I3,q2⟩) hf
  rcases l with ⟨hk,hm⟩ | ⟨hk,c,hc,hcell⟩
  · exact wpAny_loadName_local I.ok.kind hk hn hm go
  · rcases hk with hk | hk
    · exact wpAny_loadName_cell I.ok.kind hk hc hcell go
    · rcases hx with k | k
      · have:X.env.scope.names.lookup x=some .free:=hk
        rw [k] at this;cases this
      · have:X.env.scope.names.lookup x=some .free:=hk
        rw [k] at this;cases this
def ipI (f:Int→Int→Int):Mq:=fun x y H Q=>∃ i j,x=.int i∧y=.int j∧Q (.int (f i j)) H
theorem JU:Rp X .Add (ipI fun i j=>i + j):=by
  intro pins s σ H x y v u Q I r1 r2 h
  obtain ⟨i,j,e1,e2,q⟩:=h
  subst e1;subst e2
  obtain ⟨t,rfl⟩:=r1
  obtain ⟨t',rfl⟩:=r2
  exact iadd_int ⟨.int _,H,I.tok _,⟨_,rfl⟩,q⟩
end
section
variable {X:Cx} {pos:Pos}
def lB (c:TT) (tb:TS):TS:=fun D σ H=>∃ W:Nat→St→Hp→Prop,(∃ m,W m σ H)∧∀ m σ H,W m σ H→
  c σ H fun b H1=>if b=true then ∃ N:St→Hp→Prop,(∀ σ' H',N σ' H'→∃ m',m' < m∧W m' σ' H')∧tb { D with nx:=N,ct:=N,bk:=D.nx } σ H1 else D.nx σ H1
theorem DI {c:Expr} {body:List Stmt} {tc:TT} {tb:TS} (hp:PassesOwn (model X.prog X.w) X.A X.env X.xe) (hc:PT X c tc) (hb:z8 X body tb):PS X (.While c body [] pos) (lB tc tb):=by
  intro pins s σ H D I h
  obtain ⟨W,⟨m0,w0⟩,turn⟩:=h
  refine wpAny_While (codeAny_whileLoop (fun n s'=>∃ σ' H',Inv X pins σ' H' s'∧W n σ' H') ?_ m0 ⟨σ,H,I,w0⟩)
  rintro n s1 ⟨σ1,H1,I1,w1⟩
  refine wpAny_passesOwn hp (bV (hc pins s1 σ1 H1 _ I1 (turn n σ1 H1 w1)) fun b s2 ⟨H2,I2,q2⟩=>?_)
  cases b with
  | true=>
    obtain ⟨N,hN,q2⟩:=q2
    rw [if_pos rfl]
    refine wpAny_passesOwn hp (bV (hb pins s2 σ1 H2 _ I2 q2) fun f s3 q3=>?_)
    cases f with
    | next=>
      obtain ⟨σ3,H3,I3,n3⟩:=q3
      obtain ⟨m',hm,w3⟩:=hN σ3 H3 n3
      exact ⟨m',hm,σ3,H3,I3,w3⟩
    | cont=>
      obtain ⟨σ3,H3,I3,n3⟩:=q3
      obtain ⟨m',hm,w3⟩:=hN σ3 H3 n3
      exact ⟨m',hm,σ3,H3,I3,w3⟩
    | brk=>exact q3
    | ret v=>exact q3
  | false=>
    rw [if_neg Bool.false_ne_true]
    exact wpAny_execs_nil ⟨σ1,H2,I2,q2⟩
end
structure It where
  go:Nat→Hp→Prop
  JV:Nat→Hp→V→Hp→Prop
  stop:Nat→Hp→Prop
def lE (X:Cx) (pins:List (Addr×Obj)) (H:Hp) (b:Addr):Prop:=
  H b=none∧b≠X.env.locals∧b∉X.fs∧(b∈X.ex∨X.s₀.heap.objs.size≤b)∧(∀ x c,X.env.cells.lookup x=some c→c≠b)∧∀ p∈X.pn++pins,p.1≠b
theorem Inv.Ae {X:Cx} {pins:List (Addr×Obj)} {σ:St} {H H':Hp} {s:Shared} {b:Addr} (I:Inv X pins σ H s) (hb:s.heap.objs.size≤b) (hn:H' b=none):lE X pins H' b:=by
  refine ⟨hn,Nat.ne_of_gt (Nat.lt_of_lt_of_le I.lt hb),I.Ju hb,.inr (Nat.le_trans I.sz hb),fun x c e z=>?_,fun p hp z=>?_⟩
  · obtain ⟨v,q⟩:=I.cell x c e
    exact absurd (Nat.lt_of_lt_of_le q.lt (by rw [z];exact hb)) (Nat.lt_irrefl _)
  · exact absurd (Nat.lt_of_lt_of_le (Heap.lt_size (I.pin p hp).1) (by rw [z];exact hb)) (Nat.lt_irrefl _)
structure Turn (P:Program) (w:World) (K:PySem.W.Frag) (tg:Expr) (J:It) (fp:List Addr) (it:Addr) (tn:Nat→Heap→Prop):Prop where
  mem:it∈fp
  obj:∀ i h,tn i h→∀ b∈fp,∃ o,h.get? b=some o∧∀ v,o.data≠.cell v
  keep:∀ i h h',tn i h→(∀ b∈fp,∀ o,h.get? b=some o→h'.get? b=some o)→tn i h'
  item:∀ (X:Cx),X.prog=P→X.w=w→X.K=K→X.calm=true→∀ (i:Nat) (pins:List (Addr×Obj)) (s:Shared) (σ:St) (H:Hp) (E:Value→Shared→Prop),Inv X pins σ H s→(∀ b∈fp,lE X pins H b)→tn i s.heap→J.go i H→
    wpAny (model P w) X.A (pyNext (.ref it)) (fun r s1=>∃ u,r=some u∧
      wpAny (model P w) X.A (letOwnedTupleGo tg (.ref it) u) (fun _ s2=>∃ x H',Inv X pins σ H' s2∧RelV x u∧J.JV i H x H'∧tn (i + 1) s2.heap∧∀ b∈fp,H' b=none) E s1) E s
  done:∀ (X:Cx),X.prog=P→X.w=w→X.K=K→X.calm=true→∀ (i:Nat) (pins:List (Addr×Obj)) (s:Shared) (σ:St) (H:Hp) (E:Value→Shared→Prop),Inv X pins σ H s→(∀ b∈fp,lE X pins H b)→tn i s.heap→J.stop i H→
    wpAny (model P w) X.A (pyNext (.ref it)) (fun r s1=>r=none∧Inv X pins σ H s1) E s
  self:∀ (A:Around) (i:Nat) (s:Shared) (Q:Value→Shared→Prop) (E:Value→Shared→Prop),tn i s.heap→Q (.ref it) s→wpAny (model P w) A (pyIter (.ref it)) Q E s
abbrev TI:=St→Hp→(It→Hp→Prop)→Prop
def PIE (X:Cx) (pins:List (Addr×Obj)) (σ:St) (tg:Expr) (R:It→Hp→Prop) (LO:Value) (s2:Shared):Prop:=
  ∃ (it:Addr) (fp:List Addr) (tn:Nat→Heap→Prop) (J:It) (H':Hp),LO=.ref it∧Inv X pins σ H' s2∧Turn X.prog X.w X.K tg J fp it tn∧tn 0 s2.heap∧(∀ b∈fp,lE X pins H' b)∧R J H'
def PI (X:Cx) (tg iter:Expr) (wi:TI):Prop:=
  ∀ (pins:List (Addr×Obj)) (s:Shared) (σ:St) (H:Hp) (R:It→Hp→Prop),Inv X pins σ H s→wi σ H R→
    wpAny (model X.prog X.w) X.A (eval iter X.env) (fun v s1=>wpAny (model X.prog X.w) X.A (pyIter v) (PIE X pins σ tg R) X.xe s1) X.xe s
theorem yL {M:Model} {A:Around} {E:Value→Shared→Prop} {s:Shared} {tg:Expr} {it:Addr} {u:Value} {o:Obj} {n:String} {vs:Array Value} {Q:Unit→Shared→Prop} (ho:s.heap.get? it=some o) (hc:o.cls=.type n) (hd:o.data=.fields vs)
    (hn:["enumerate","zip","dict_itemiterator","dict_reverseitemiterator","odict_iterator","itertools.zip_longest","itertools.pairwise"].contains n=false) (hQ:Q () s):wpAny M A (letOwnedTupleGo tg (.ref it) u) Q E s:=by
  unfold letOwnedTupleGo
  cases tg <;> first
    | exact wpAny_pure hQ
    | (cases u <;> first
        | exact wpAny_pure hQ
        | (refine wpAny_bind (wpAny_load ho ?_)
           rw [hc,hd]
           show wpAny M A (if (["enumerate","zip","dict_itemiterator","dict_reverseitemiterator","odict_iterator","itertools.zip_longest","itertools.pairwise"].contains n&&vs[0]?==some (rawInt _))=true then _ else _) Q E s
           rw [if_neg (by intro h;rw [hn,Bool.false_and] at h;cases h)]
           exact wpAny_pure hQ))
def Cd (K:PySem.W.Frag) (a:Addr):It:=
  ⟨fun i H=>∃ xs x,cz K H a xs∧xs[i]?=some x,fun i H x H'=>H'=H∧∀ xs,cz K H a xs→xs[i]?=some x,fun i H=>∃ xs,cz K H a xs∧xs.length≤i⟩
def LP (K:PySem.W.Frag) (a:Addr):It:=
  ⟨fun i H=>∃ xs x,j0 K H a xs∧xs[i]?=some x,fun i H x H'=>H'=H∧∀ xs,j0 K H a xs→xs[i]?=some x,fun i H=>∃ xs,j0 K H a xs∧xs.length≤i⟩
def Ms (lo:Int) (n:Nat):It:=⟨fun i _=>i < n,fun i H x H'=>H'=H∧x=.int (lo + i),fun i _=>n≤i⟩
theorem Ce {P:Program} {w:World} {K:PySem.W.Frag} {tg:Expr} (a it:Addr):Turn P w K tg (Cd K a) [it] it (fun i h=>h.IsListIter it a i) where
  mem:=by simp
  obj:=fun i h st b hb=>by
    have e:b=it:=by simpa using hb
    subst e
    obtain ⟨o,e,c,d⟩:=st
    exact ⟨o,e,fun v z=>by rw [d] at z;cases z⟩
  keep:=fun i h h' st k=>st.at fun o e=>k it (by simp) o e
  item:=by
    intro X hP hw hK hc i pins s σ H E I hf st hg
    subst hP hw hK
    obtain ⟨xs,x,hq,hx⟩:=hg
    obtain ⟨aY,rv,p,hz⟩:=I.list hq
    obtain ⟨u,hu,ru⟩:=rv.get hx
    obtain ⟨f0,f1,f2,f3,f4,f5⟩:=hf it (by simp)
    refine wpAny_pyNext_list_item st p.isList (x:=u) (by simpa using hu) fun h' st' sb=>?_
    have I1:Inv X pins σ H { s with heap:=h' }:=I.turned (t':=s.toks) (fun b o hb e=>(sb.2 b hb).trans e) f0 f1 f3 f4 f5
    obtain ⟨o,e,c,d⟩:=id st'
    exact ⟨u,rfl,yL (s:={ s with heap:=h' }) e c d (by decide) ⟨x,H,I1,ru,⟨rfl,fun ys hy=>by rw [I.om hy hq];exact hx⟩,st',fun b hb=>(hf b hb).1⟩⟩
  done:=by
    intro X hP hw hK hc i pins s σ H E I hf st hg
    subst hP hw hK
    obtain ⟨xs,hq,hx⟩:=hg
    obtain ⟨aY,rv,p,hz⟩:=I.list hq
    obtain ⟨f0,f1,f2,f3,f4,f5⟩:=hf it (by simp)
    have hl:=rv.length
    exact wpAny_pyNext_list_end (I.ok.hd hc) st p.isList (by simp;omega) fun h' eb=>⟨rfl,I.turned (t':=s.toks) (fun b o hb e=>eb b o hb e) f0 f1 f3 f4 f5⟩
  self:=fun _ _ _ _ _ st h=>wpAny_pyIter_listiter st h
theorem Af {P:Program} {w:World} {K:PySem.W.Frag} {tg:Expr} (a it:Addr):Turn P w K tg (LP K a) [it] it (fun i h=>h.IsTupleIter it a i) where
  mem:=by simp
  obj:=fun i h st b hb=>by
    have e:b=it:=by simpa using hb
    subst e
    obtain ⟨o,e,c,d⟩:=st
    exact ⟨o,e,fun v z=>by rw [d] at z;cases z⟩
  keep:=fun i h h' st k=>st.at fun o e=>k it (by simp) o e
  item:=by
    intro X hP hw hK hc i pins s σ H E I hf st hg
    subst hP hw hK
    obtain ⟨xs,x,hq,hx⟩:=hg
    obtain ⟨aY,rv,p,hz⟩:=I.tuple hq
    obtain ⟨u,hu,ru⟩:=rv.get hx
    obtain ⟨f0,f1,f2,f3,f4,f5⟩:=hf it (by simp)
    refine wpAny_pyNext_tuple_item st (show s.heap.IsTuple a aY.toArray from p) (x:=u) (by simpa using hu) fun h' st' sb=>?_
    have I1:Inv X pins σ H { s with heap:=h' }:=I.turned (t':=s.toks) (fun b o hb e=>(sb.2 b hb).trans e) f0 f1 f3 f4 f5
    obtain ⟨o,e,c,d⟩:=id st'
    exact ⟨u,rfl,yL (s:={ s with heap:=h' }) e c d (by decide) ⟨x,H,I1,ru,⟨rfl,fun ys hy=>by rw [I.pH hy hq];exact hx⟩,st',fun b hb=>(hf b hb).1⟩⟩
  done:=by
    intro X hP hw hK hc i pins s σ H E I hf st hg
    subst hP hw hK
    obtain ⟨xs,hq,hx⟩:=hg
    obtain ⟨aY,rv,p,hz⟩:=I.tuple hq
    obtain ⟨f0,f1,f2,f3,f4,f5⟩:=hf it (by simp)
    have hl:=rv.length
    exact wpAny_pyNext_tuple_end (I.ok.hd hc) st (show s.heap.IsTuple a aY.toArray from p) (by simp;omega) fun h' eb=>⟨rfl,I.turned (t':=s.toks) (fun b o hb e=>eb b o hb e) f0 f1 f3 f4 f5⟩
  self:=fun _ _ _ _ _ st h=>wpAny_pyIter_tupleiter st h
end L2
namespace L2
open PySem PySem.Spec PyProof.Rows
section
variable {X:Cx} {tg:Expr}
def yN (K:PySem.W.Frag) (tl:TE):TI:=fun σ H R=>tl σ H fun x H1=>∃ a,x=.ref a∧(∃ xs,cz K H1 a xs)∧R (Cd K a) H1
def GG (K:PySem.W.Frag) (tl:TE):TI:=fun σ H R=>tl σ H fun x H1=>∃ a,x=.ref a∧(∃ xs,j0 K H1 a xs)∧R (LP K a) H1
theorem GH {l:Expr} {tl:TE} (hl:PE X l tl):PI X tg l (yN X.K tl):=by
  intro pins s σ H R I h
  refine bV (hl pins s σ H _ I h) fun v s1 ⟨x,H1,I1,r1,q1⟩=>?_
  obtain ⟨a,e,⟨xs,hq⟩,q⟩:=q1
  subst e
  cases r1
  obtain ⟨aY,rv,p,hz⟩:=I1.list hq
  refine wpAny_pyIter_list p.isList ?_
  refine ⟨s1.heap.objs.size,[s1.heap.objs.size],_,_,H1,rfl,I1.kept (t':=s1.toks) fun b o e=>Heap.get?_push_of_some _ e,Ce a _,⟨_,Heap.get?_push_size _ rfl,rfl,rfl⟩,fun b hb=>?_,q⟩
  have e:b=s1.heap.objs.size:=by simpa using hb
  subst e
  exact I1.Ae (Nat.le_refl _) (I1.bC.fresh (Nat.le_refl _))
theorem JX {l:Expr} {tl:TE} (hl:PE X l tl):PI X tg l (GG X.K tl):=by
  intro pins s σ H R I h
  refine bV (hl pins s σ H _ I h) fun v s1 ⟨x,H1,I1,r1,q1⟩=>?_
  obtain ⟨a,e,⟨xs,hq⟩,q⟩:=q1
  subst e
  cases r1
  obtain ⟨aY,rv,p,hz⟩:=I1.tuple hq
  refine wpAny_pyIter_tuple (show s1.heap.IsTuple a aY.toArray from p) ?_
  refine ⟨s1.heap.objs.size,[s1.heap.objs.size],_,_,H1,rfl,I1.kept (t':=s1.toks) fun b o e=>Heap.get?_push_of_some _ e,Af a _,⟨_,Heap.get?_push_size _ rfl,rfl,rfl⟩,fun b hb=>?_,q⟩
  have e:b=s1.heap.objs.size:=by simpa using hb
  subst e
  exact I1.Ae (Nat.le_refl _) (I1.bC.fresh (Nat.le_refl _))
def II (ta:TA):TI:=fun σ H R=>ta σ H fun vs H1=>∃ j:Int,vs=[.int j]∧-(2 ^ 62)≤j∧j < 2 ^ 62∧R (Ms 0 j.toNat) H1
def Mt (ta:TA):TI:=fun σ H R=>ta σ H fun vs H1=>∃ i j:Int,vs=[.int i,.int j]∧(-(2 ^ 62)≤i∧i < 2 ^ 62∧-(2 ^ 62)≤j∧j < 2 ^ 62)∧R (Ms i (j - i).toNat) H1
def Ag (wi:TI) (g:TG) (tb:TS):TS:=fun D σ H=>wi σ H fun J H1=>∃ W:Nat→Nat→St→Hp→Prop,(∃ m,W 0 m σ H1)∧∀ i m σ H,W i m σ H→
  (J.stop i H∧D.nx σ H)∨(J.go i H∧∃ N:St→Hp→Prop,(∀ σ' H',N σ' H'→∃ m',m' < m∧W (i + 1) m' σ' H')∧∀ x H',J.JV i H x H'→g x σ H' fun σ2 H2=>tb { D with nx:=N,ct:=N,bk:=D.nx } σ2 H2)
def pJ (fp:List Addr) (h:Heap):List (Addr×Obj):=fp.filterMap fun b=>(h.get? b).map fun o=>(b,o)
theorem gQ {fp:List Addr} {h:Heap} {b:Addr} {o:Obj} (hb:b∈fp) (e:h.get? b=some o):(b,o)∈pJ fp h:=List.mem_filterMap.mpr ⟨b,hb,by rw [e];rfl⟩
theorem Cf {fp:List Addr} {h:Heap} {p:Addr×Obj} (hp:p∈pJ fp h):p.1∈fp∧h.get? p.1=some p.2:=by
  obtain ⟨b,hb,e⟩:=List.mem_filterMap.mp hp
  cases q:h.get? b with
  | none=>rw [q] at e;cases e
  | some o=>
    rw [q] at e
    have e':(b,o)=p:=Option.some.inj e
    subst e'
    exact ⟨hb,q⟩
theorem Inv.pinned {pins:List (Addr×Obj)} {σ:St} {H:Hp} {s:Shared} {fp:List Addr} (I:Inv X pins σ H s) (hf:∀ b∈fp,lE X pins H b) (ho:∀ b∈fp,∃ o,s.heap.get? b=some o∧∀ v,o.data≠.cell v):Inv X (pins++pJ fp s.heap) σ H s:=
  I.rE fun p hp=>(List.mem_append.mp hp).elim (fun z=>I.pin p (List.mem_append_right _ z)) fun z=>by
    obtain ⟨hb,e⟩:=Cf z
    obtain ⟨f0,f1,f2,_⟩:=hf p.1 hb
    obtain ⟨o,e',d⟩:=ho p.1 hb
    rw [e] at e';cases e'
    exact ⟨e,f0,f1,f2,d⟩
theorem Inv.iU {pins pl:List (Addr×Obj)} {σ:St} {H:Hp} {s:Shared} (I:Inv X (pins++pl) σ H s):Inv X pins σ H s:=I.rE fun p hp=>I.pin p (List.mem_append_right _ (List.mem_append_left _ hp))
theorem JY {iter:Expr} {body:List Stmt} {wi:TI} {g:TG} {tb:TS} {pos:Pos} (hp:PassesOwn (model X.prog X.w) X.A X.env X.xe) (hc:X.calm=true) (hi:PI X tg iter wi) (hg:PG X tg g) (hb:z8 X body tb)
    (hs:∀ x,foldedSetIterable iter X.env x=pure x:=by intro _;rfl):PS X (.For tg iter body [] pos) (Ag wi g tb):=by
  intro pins s σ H D I h
  refine wpAny_For (bV (hi pins s σ H _ I h) fun v s1 h1=>bV h1 fun LO s2 h2=>?_) hs
  obtain ⟨it,fp,tn,J,H2,e,I2,T,st2,f2,W,⟨m0,w0⟩,turn⟩:=h2
  subst e
  have rT:∀ {H':Hp},(∀ b∈fp,H' b=none)→∀ b∈fp,lE X pins H' b:=fun hn b hb=>⟨hn b hb,(f2 b hb).2⟩
  refine codeAny_forLoop_any (fun n s'=>∃ i σ' H',Inv X pins σ' H' s'∧tn i s'.heap∧(∀ b∈fp,H' b=none)∧W i n σ' H') ?_ m0 ⟨0,σ,H2,I2,st2,fun b hb=>(f2 b hb).1,w0⟩
  rintro n s3 ⟨i,σ3,H3,I3,DJ,fr3,w3⟩
  rcases turn i n σ3 H3 w3 with ⟨stop,qn⟩ | ⟨go,N,hN,step⟩
  · refine wpAny_passesOwn hp (bV (T.done X rfl rfl rfl hc i pins s3 σ3 H3 X.xe I3 (rT fr3) DJ stop) fun r s4 ⟨hr,I4⟩=>?_)
    subst hr
    exact wpAny_execs_nil ⟨σ3,H3,I4,qn⟩
  · refine wpAny_passesOwn hp (bV (T.item X rfl rfl rfl hc i pins s3 σ3 H3 X.xe I3 (rT fr3) DJ go) fun r s4 ⟨u,hr,h4⟩=>?_)
    subst hr
    refine wpAny_passesOwn hp (bV h4 fun _ s5 ⟨x,H5,I5,r5,y5,st5,fr5⟩=>?_)
    have Mu:=I5.pinned (rT fr5) (T.obj _ _ st5)
    refine wpAny_passesOwn hp (bV (hg _ s5 σ3 H5 x u _ Mu r5 (step x H5 y5)) fun _ s6 ⟨σ6,H6,I6,q6⟩=>?_)
    refine wpAny_passesOwn hp (bV (hb _ s6 σ6 H6 _ I6 q6) fun f s7 q7=>?_)
    have again:∀ {σ7:St} {H7:Hp},Inv X (pins++pJ fp s5.heap) σ7 H7 s7→N σ7 H7→∃ m,m < n∧∃ i σ' H',Inv X pins σ' H' s7∧tn i s7.heap∧(∀ b∈fp,H' b=none)∧W i m σ' H':=fun {σ7 H7} I7 n7=>by
      obtain ⟨m',hm,w7⟩:=hN σ7 H7 n7
      refine ⟨m',hm,i + 1,σ7,H7,I7.iU,T.keep _ _ _ st5 fun b hb o e=>(I7.pin (b,o) (List.mem_append_right _ (List.mem_append_right _ (gQ hb e)))).1,fun b hb=>?_,w7⟩
      obtain ⟨o,e,d⟩:=T.obj _ _ st5 b hb
      exact (I7.pin (b,o) (List.mem_append_right _ (List.mem_append_right _ (gQ hb e)))).2.1
    cases f with
    | next=>obtain ⟨σ7,H7,I7,n7⟩:=q7;exact again I7 n7
    | cont=>obtain ⟨σ7,H7,I7,n7⟩:=q7;exact again I7 n7
    | brk=>obtain ⟨σ7,H7,I7,q7⟩:=q7;exact ⟨σ7,H7,I7.iU,q7⟩
    | ret v=>obtain ⟨x7,σ7,H7,I7,r7,q7⟩:=q7;exact ⟨x7,σ7,H7,I7.iU,r7,q7⟩
end
theorem DK {K:PySem.W.Frag} {a:Addr} {xs:List V} {g:TG} {tb:TS} {D:Ends} {σ:St} {H:Hp} (Pv:Nat→St→Hp→Prop) (h0:Pv 0 σ H) (hl:∀ i σ H,i≤xs.length→Pv i σ H→cz K H a xs)
    (hs:∀ i x σ H,xs[i]?=some x→Pv i σ H→g x σ H fun σ2 H2=>tb { D with nx:=Pv (i + 1),ct:=Pv (i + 1),bk:=D.nx } σ2 H2) (hd:∀ σ H,Pv xs.length σ H→D.nx σ H):
    ∃ W:Nat→Nat→St→Hp→Prop,(∃ m,W 0 m σ H)∧∀ i m σ H,W i m σ H→
      ((Cd K a).stop i H∧D.nx σ H)∨((Cd K a).go i H∧∃ N:St→Hp→Prop,(∀ σ' H',N σ' H'→∃ m',m' < m∧W (i + 1) m' σ' H')∧∀ x H',(Cd K a).JV i H x H'→g x σ H' fun σ2 H2=>tb { D with nx:=N,ct:=N,bk:=D.nx } σ2 H2):=by
  refine ⟨fun i m σ H=>m=xs.length - i∧i≤xs.length∧Pv i σ H,⟨xs.length,by simp,Nat.zero_le _,h0⟩,?_⟩
  rintro i m σ H ⟨rfl,hi,p⟩
  have q:=hl i σ H hi p
  by_cases Dw:i < xs.length
  · refine .inr ⟨⟨xs,xs[i],q,by simp [Dw]⟩,Pv (i + 1),fun σ' H' p'=>⟨xs.length - (i + 1),by omega,rfl,Dw,p'⟩,fun x H' y=>?_⟩
    obtain ⟨e,y⟩:=y
    subst e
    exact hs i x σ _ (y xs q) p
  · have e:i=xs.length:=by omega
    subst e
    exact .inl ⟨⟨xs,q,Nat.le_refl _⟩,hd σ H p⟩
end L2
namespace L2
open PySem PySem.Spec PyProof.Rows
abbrev R2:=V→V→Hp→VK→Prop
def jE (X:Cx) (f:Value→Value→Sem Value) (r:R2):Prop:=
  ∀ (pins:List (Addr×Obj)) (s:Shared) (σ:St) (H:Hp) (x y:V) (v u:Value) (Q:VK),Inv X pins σ H s→RelV x v→RelV y u→r x y H Q→
    wpAny (model X.prog X.w) X.A (f v u) (EP X pins σ Q) X.xe s
def Pa (X:Cx) (f:Value→Sem Value) (r:V→Hp→VK→Prop):Prop:=
  ∀ (pins:List (Addr×Obj)) (s:Shared) (σ:St) (H:Hp) (x:V) (v:Value) (Q:VK),Inv X pins σ H s→RelV x v→r x H Q→
    wpAny (model X.prog X.w) X.A (f v) (EP X pins σ Q) X.xe s
def cX (X:Cx) (f:Value) (r:List V→Hp→VK→Prop):Prop:=
  ∀ (pins:List (Addr×Obj)) (s:Shared) (σ:St) (H:Hp) (xs:List V) (us:List Value) (Q:VK),Inv X pins σ H s→Vals xs us→r xs H Q→
    wpAny (model X.prog X.w) X.A (call f us) (EP X pins σ Q) X.xe s
def Rr (X:Cx) (r:V→Hp→(Bool→Hp→Prop)→Prop):Prop:=
  ∀ (pins:List (Addr×Obj)) (s:Shared) (σ:St) (H:Hp) (x:V) (v:Value) (Q:Bool→Hp→Prop),Inv X pins σ H s→RelV x v→r x H Q→
    wpAny (model X.prog X.w) X.A (truthy v) (TP X pins σ Q) X.xe s
def Bm (r:R2) (ta tb:TE):TE:=fun σ H Q=>ta σ H fun x H1=>tb σ H1 fun y H2=>r x y H2 Q
def IJ (r:V→Hp→VK→Prop) (ta:TE):TE:=fun σ H Q=>ta σ H fun x H1=>r x H1 Q
def rI (C:Int→Int→Prop) (g:Int→Int→V):R2:=fun x y H Q=>∃ i j,x=.int i∧y=.int j∧C i j∧Q (g i j) H
def Bo (g:Int→Int→V):R2:=fun x y H Q=>∃ i j,x=.int i∧y=.int j∧Q (g i j) H
def rU (g:Int→V):V→Hp→VK→Prop:=fun x H Q=>∃ i,x=.int i∧Q (g i) H
section
variable {X:Cx} {a b c:Expr} {ta tb tc:TE} {pos:Pos}
theorem JZ (ha:PE X a ta) (hb:PE X b tb) {pins:List (Addr×Obj)} {s:Shared} {σ:St} {H:Hp} {R:V→V→Hp→Prop} (I:Inv X pins σ H s)
    (h:ta σ H fun x H1=>tb σ H1 fun y H2=>R x y H2) {Q:Value→Shared→Prop} {f:Value→Value→Sem Value}
    (hf:∀ v u s2 x y H2,Inv X pins σ H2 s2→RelV x v→RelV y u→R x y H2→wpAny (model X.prog X.w) X.A (f v u) Q X.xe s2):
    wpAny (model X.prog X.w) X.A (eval a X.env) (fun v s₁=>wpAny (model X.prog X.w) X.A (eval b X.env) (fun u s₂=>wpAny (model X.prog X.w) X.A (f v u) Q X.xe s₂) X.xe s₁) X.xe s:=by
  refine bV (ha pins s σ H _ I h) fun v s1 ⟨x,H1,I1,r1,q1⟩=>?_
  refine bV (hb pins s1 σ H1 _ I1 q1) fun u s2 ⟨y,H2,I2,r2,q2⟩=>?_
  exact hf v u s2 x y H2 I2 r1 r2 q2
theorem IK {op:Operator} {r:R2} (ho:jE X (binaryOp op) r) (ha:PE X a ta) (hb:PE X b tb):PE X (.BinOp a op b pos) (Bm r ta tb):=by
  intro pins s σ H Q I h
  exact wpAny_BinOp (JZ ha hb I h fun v u s2 x y H2 I2 rx ry q=>ho pins s2 σ H2 x y v u Q I2 rx ry q)
theorem Mv {op:UnaryOp} {r:V→Hp→VK→Prop} (ho:Pa X (unaryOp op) r) (ha:PE X a ta):PE X (.UnaryOp op a pos) (IJ r ta):=by
  intro pins s σ H Q I h
  exact UnaryOp_ (bV (ha pins s σ H _ I h) fun v s1 ⟨x,H1,I1,r1,q1⟩=>ho pins s1 σ H1 x v Q I1 r1 q1)
theorem Pb {f:Value→Value→Sem Value} {C:Int→Int→Prop} {g:Int→Int→Int}
    (rule:∀ (i j:Int) (t u:Tok) (s:Shared) (Q:Value→Shared→Prop) (E:Value→Shared→Prop),C i j→Q (.int (g i j) s.toks) { s with toks:=s.toks + 1 }→wpAny (model X.prog X.w) X.A (f (.int i t) (.int j u)) Q E s):
    jE X f (rI C fun i j=>.int (g i j)):=by
  intro pins s σ H x y v u Q I rx ry h
  obtain ⟨i,j,rfl,rfl,hc,q⟩:=h
  obtain ⟨t,rfl⟩:=rx
  obtain ⟨t',rfl⟩:=ry
  exact rule i j t t' s _ _ hc ⟨.int (g i j),H,I.tok _,⟨_,rfl⟩,q⟩
theorem Mw {f:Value→Value→Sem Value} {g:Int→Int→Int}
    (rule:∀ (i j:Int) (t u:Tok) (s:Shared) (Q:Value→Shared→Prop) (E:Value→Shared→Prop),Q (.int (g i j) s.toks) { s with toks:=s.toks + 1 }→wpAny (model X.prog X.w) X.A (f (.int i t) (.int j u)) Q E s):
    jE X f (Bo fun i j=>.int (g i j)):=by
  intro pins s σ H x y v u Q I rx ry h
  obtain ⟨i,j,rfl,rfl,q⟩:=h
  obtain ⟨t,rfl⟩:=rx
  obtain ⟨t',rfl⟩:=ry
  exact rule i j t t' s _ _ ⟨.int (g i j),H,I.tok _,⟨_,rfl⟩,q⟩
theorem GI {f:Value→Value→Sem Value} {g:Int→Int→Bool}
    (rule:∀ (i j:Int) (t u:Tok) (s:Shared) (Q:Value→Shared→Prop) (E:Value→Shared→Prop),Q (.bool (g i j)) s→wpAny (model X.prog X.w) X.A (f (.int i t) (.int j u)) Q E s):
    jE X f (Bo fun i j=>.bl (g i j)):=by
  intro pins s σ H x y v u Q I rx ry h
  obtain ⟨i,j,rfl,rfl,q⟩:=h
  obtain ⟨t,rfl⟩:=rx
  obtain ⟨t',rfl⟩:=ry
  exact rule i j t t' s _ _ ⟨.bl (g i j),H,I,rfl,q⟩
def Ah (i j:Int):Prop:=0≤j∧j≤1000000∧i.natAbs < 2 ^ 64
def vR (i j:Int):Prop:=(-(2 ^ 64) < i∧i < 2 ^ 64)∨(-(2 ^ 64) < j∧j < 2 ^ 64)
theorem vR.ok {i j:Int} (h:vR i j):IntMulOk i j:=by
  rcases h with ⟨h1,h2⟩ | ⟨h1,h2⟩
  · exact .of_left (intBits_le_64 h1 h2)
  · exact .of_right (intBits_le_64 h1 h2)
theorem gx:jE X (binaryOp .Add) (Bo fun i j=>.int (i + j)):=Mw fun _ _ _ _ _ _ _ q=>add_int q
theorem vS:jE X (binaryOp .Sub) (Bo fun i j=>.int (i - j)):=Mw fun _ _ _ _ _ _ _ q=>sub_int q
theorem vU:jE X (binaryOp .Mult) (rI vR fun i j=>.int (i * j)):=Pb fun _ _ _ _ _ _ _ hc q=>mul_int q hc.ok
theorem lF:jE X (binaryOp .Mod) (rI (fun _ j=>0 < j) fun i j=>.int (i % j)):=Pb fun i j _ _ _ _ _ hc q=>by
  have h1:(0:Int) < j:=hc
  exact mod_int' (by omega) (by rw [Int.fmod_eq_emod_of_nonneg i (by omega)];exact q)
theorem Ka:jE X (binaryOp .Pow) (rI Ah fun i j=>.int (i ^ j.toNat)):=Pb fun _ _ _ _ _ _ _ hc q=>pow_int_small hc.1 hc.2.1 hc.2.2 q
theorem unI {f:Value→Sem Value} {g:Int→Int}
    (rule:∀ (i:Int) (t:Tok) (s:Shared) (Q:Value→Shared→Prop) (E:Value→Shared→Prop),Q (.int (g i) s.toks) { s with toks:=s.toks + 1 }→wpAny (model X.prog X.w) X.A (f (.int i t)) Q E s):
    Pa X f (rU fun i=>.int (g i)):=by
  intro pins s σ H x v Q I rx h
  obtain ⟨i,rfl,q⟩:=h
  obtain ⟨t,rfl⟩:=rx
  exact rule i t s _ _ ⟨.int (g i),H,I.tok _,⟨_,rfl⟩,q⟩
theorem Kc:Pa X (unaryOp .USub) (rU fun i=>.int (-i)):=unI fun _ _ _ _ _ q=>neg_int q
end
def yO:V→V→Bool
  | .cG,.cG=>true | .cG,.int _=>true | .int _,.cG=>true | .cG,.bl _=>true | .bl _,.cG=>true | .cG,.str _=>true | .str _,.cG=>true
  | .int _,.int _=>true | .bl _,.bl _=>true | .str _,.str _=>true | .Bl _,.Bl _=>true
  | .int _,.str _=>true | .str _,.int _=>true | .bl _,.str _=>true | .str _,.bl _=>true
  | _,_=>false
def Kd:R2:=fun x y H Q=>yO x y=true∧Q (.bl (decide (x=y))) H
def Ke:R2:=fun x y H Q=>yO x y=true∧Q (.bl (!decide (x=y))) H
theorem Bp {i j:Int}:decide (V.int i=V.int j)=(i==j):=by
  rw [Bool.eq_iff_iff]
  simp
theorem DL {i j:Bool}:decide (V.bl i=V.bl j)=(i==j):=by
  rw [Bool.eq_iff_iff]
  simp
theorem Bq {i j:Str}:decide (V.str i=V.str j)=(i==j):=by
  rw [Bool.eq_iff_iff]
  simp
theorem Br {i j:Array UInt8}:decide (V.Bl i=V.Bl j)=(i.toList==j.toList):=by
  rw [Bool.eq_iff_iff]
  cases i
  cases j
  simp
section
variable {X:Cx} {a b c:Expr} {ta tb tc:TE} {pos:Pos}
theorem bG {pins:List (Addr×Obj)} {σ:St} {H:Hp} {s:Shared} {Q:VK} {k k':Bool} (I:Inv X pins σ H s) (q:Q (.bl k) H) (e:k=k'):EP X pins σ Q (.bool k') s:=by
  subst e
  exact ⟨.bl k,H,I,rfl,q⟩
theorem jf:jE X (compareOp .Eq) Kd:=by
  intro pins s σ H x y v u Q I rx ry h
  obtain ⟨hs,q⟩:=h
  cases x with
  | cG=>
    cases rx
    cases y with
    | cG=>cases ry;exact PySem.EqNone.eq_none_none (bG I q (by simp))
    | bl j=>cases ry;exact PySem.EqNone.eq_none_bool (bG I q (by simp))
    | int j=>obtain ⟨t',rfl⟩:=ry;exact PySem.EqNone.eq_none_int (bG I q (by simp))
    | str j=>obtain ⟨t',rfl⟩:=ry;exact PySem.EqNone.eq_none_str (bG I q (by simp))
    | _=>exact absurd (show false=true from hs) Bool.false_ne_true
  | bl i=>
    cases rx
    cases y with
    | cG=>cases ry;exact PySem.EqNone.eq_bool_none (bG I q (by simp))
    | bl j=>cases ry;exact eq_bool (bG I q DL)
    | str j=>obtain ⟨t',rfl⟩:=ry;exact PySem.EqMixed.eq_bool_str (bG I q (by simp))
    | _=>exact absurd (show false=true from hs) Bool.false_ne_true
  | int i=>
    obtain ⟨t,rfl⟩:=rx
    cases y with
    | cG=>cases ry;exact PySem.EqNone.eq_int_none (bG I q (by simp))
    | int j=>obtain ⟨t',rfl⟩:=ry;exact eq_int (bG I q Bp)
    | str j=>obtain ⟨t',rfl⟩:=ry;exact PySem.EqMixed.eq_int_str (bG I q (by simp))
    | _=>exact absurd (show false=true from hs) Bool.false_ne_true
  | str i=>
    obtain ⟨t,rfl⟩:=rx
    cases y with
    | cG=>cases ry;exact PySem.EqNone.eq_str_none (bG I q (by simp))
    | bl j=>cases ry;exact PySem.EqMixed.eq_str_bool (bG I q (by simp))
    | int j=>obtain ⟨t',rfl⟩:=ry;exact PySem.EqMixed.eq_str_int (bG I q (by simp))
    | str j=>obtain ⟨t',rfl⟩:=ry;exact eq_str (bG I q Bq)
    | _=>exact absurd (show false=true from hs) Bool.false_ne_true
  | Bl i=>
    obtain ⟨t,rfl⟩:=rx
    cases y with
    | Bl j=>obtain ⟨t',rfl⟩:=ry;exact PySem.W.eq_bytes (bG I q Br)
    | _=>exact absurd (show false=true from hs) Bool.false_ne_true
  | _=>cases y <;> exact absurd (show false=true from hs) Bool.false_ne_true
theorem rV:jE X (compareOp .NotEq) Ke:=by
  intro pins s σ H x y v u Q I rx ry h
  obtain ⟨hs,q⟩:=h
  cases x with
  | cG=>
    cases rx
    cases y with
    | cG=>cases ry;exact PySem.EqNone.ne_none_none (bG I q (by simp))
    | bl j=>cases ry;exact PySem.EqNone.ne_none_bool (bG I q (by simp))
    | int j=>obtain ⟨t',rfl⟩:=ry;exact PySem.EqNone.ne_none_int (bG I q (by simp))
    | str j=>obtain ⟨t',rfl⟩:=ry;exact PySem.EqNone.ne_none_str (bG I q (by simp))
    | _=>exact absurd (show false=true from hs) Bool.false_ne_true
  | bl i=>
    cases rx
    cases y with
    | cG=>cases ry;exact PySem.EqNone.ne_bool_none (bG I q (by simp))
    | bl j=>cases ry;exact ne_bool (bG I q (congrArg not DL))
    | str j=>obtain ⟨t',rfl⟩:=ry;exact PySem.EqMixed.ne_bool_str (bG I q (by simp))
    | _=>exact absurd (show false=true from hs) Bool.false_ne_true
  | int i=>
    obtain ⟨t,rfl⟩:=rx
    cases y with
    | cG=>cases ry;exact PySem.EqNone.ne_int_none (bG I q (by simp))
    | int j=>obtain ⟨t',rfl⟩:=ry;exact ne_int (bG I q (congrArg not Bp))
    | str j=>obtain ⟨t',rfl⟩:=ry;exact PySem.EqMixed.ne_int_str (bG I q (by simp))
    | _=>exact absurd (show false=true from hs) Bool.false_ne_true
  | str i=>
    obtain ⟨t,rfl⟩:=rx
    cases y with
    | cG=>cases ry;exact PySem.EqNone.ne_str_none (bG I q (by simp))
    | bl j=>cases ry;exact PySem.EqMixed.ne_str_bool (bG I q (by simp))
    | int j=>obtain ⟨t',rfl⟩:=ry;exact PySem.EqMixed.ne_str_int (bG I q (by simp))
    | str j=>obtain ⟨t',rfl⟩:=ry;exact ne_str (bG I q (congrArg not Bq))
    | _=>exact absurd (show false=true from hs) Bool.false_ne_true
  | Bl i=>
    obtain ⟨t,rfl⟩:=rx
    cases y with
    | Bl j=>obtain ⟨t',rfl⟩:=ry;exact PySem.W.ne_bytes (bG I q (congrArg not Br))
    | _=>exact absurd (show false=true from hs) Bool.false_ne_true
  | _=>cases y <;> exact absurd (show false=true from hs) Bool.false_ne_true
theorem Mx:jE X (compareOp .Lt) (Bo fun i j=>.bl (decide (i < j))):=GI fun _ _ _ _ _ _ _ q=>lt_int q
theorem IL:jE X (compareOp .LtE) (Bo fun i j=>.bl (decide (i≤j))):=GI fun _ _ _ _ _ _ _ q=>le_int q
theorem My:jE X (compareOp .Gt) (Bo fun i j=>.bl (decide (j < i))):=GI fun _ _ _ _ _ _ _ q=>gt_int q
theorem Mz:jE X (compareOp .GtE) (Bo fun i j=>.bl (decide (j≤i))):=GI fun _ _ _ _ _ _ _ q=>ge_int q
theorem DM:jE X (compareOp .Is) (fun x y H Q=>y=.cG∧Q (.bl (decide (x=.cG))) H):=by
  intro pins s σ H x y v u Q I rx ry h
  obtain ⟨rfl,q⟩:=h
  cases ry
  refine is_none_gen (bG I q ?_)
  cases x <;> first
    | (cases rx;rfl)
    | (obtain ⟨t,rfl⟩:=rx;rfl)
theorem jE.or {f:Value→Value→Sem Value} {r r':R2} (h:jE X f r) (h':jE X f r'):jE X f (fun x y H Q=>r x y H Q∨r' x y H Q):=by
  intro pins s σ H x y v u Q I rx ry q
  rcases q with q | q
  · exact h pins s σ H x y v u Q I rx ry q
  · exact h' pins s σ H x y v u Q I rx ry q
theorem bS (b:Expr) {op:CmpOp} (h:op≠.In:=by decide) (h2:op≠.NotIn:=by decide):behindInMarks op b=false:=by
  have e1:(op==CmpOp.In)=false:=by cases op <;> first | rfl | exact absurd rfl h
  have e2:(op==CmpOp.NotIn)=false:=by cases op <;> first | rfl | exact absurd rfl h2
  cases b <;> simp [behindInMarks,e1,e2]
theorem GJ {op:CmpOp} {r:R2} (ho:jE X (compareOp op) r) (ha:PE X a ta) (hb:PE X b tb) (hm:behindInMarks op b=false):PE X (.Compare a [op] [b] pos) (Bm r ta tb):=by
  intro pins s σ H Q I h
  exact wpAny_Compare1 (JZ ha hb I h fun v u s2 x y H2 I2 rx ry q=>ho pins s2 σ H2 x y v u Q I2 rx ry q) hm
def qz (t:TE):TT:=fun σ H Q=>t σ H fun x H'=>∃ k,x=.bl k∧Q k H'
theorem GK {op:CmpOp} {r:R2} (ho:jE X (compareOp op) r) (ha:PE X a ta) (hb:PE X b tb) (hm:behindInMarks op b=false):PT X (.Compare a [op] [b] pos) (qz (Bm r ta tb)):=by
  intro pins s σ H Q I h
  refine wpAny_isTrue_Compare1 (bV (ha pins s σ H _ I h) fun v s1 ⟨x,H1,I1,r1,q1⟩=>bV (hb pins s1 σ H1 _ I1 q1) fun u s2 ⟨y,H2,I2,r2,q2⟩=>
    bV (ho pins s2 σ H2 x y v u _ I2 r1 r2 q2) fun c s3 ⟨z,H3,I3,r3,k,e,q3⟩=>?_) hm
  subst e
  cases r3
  exact wpAny_truthy_bool ⟨H3,I3,q3⟩
def lG (r r':R2) (ta tb tc:TE):TE:=fun σ H Q=>ta σ H fun x H1=>tb σ H1 fun y H2=>r x y H2 fun z H3=>∃ k,z=.bl k∧
  (if k=true then tc σ H3 fun w' H4=>r' y w' H4 Q else Q (.bl false) H3)
theorem DN {op Kf:CmpOp} {r r':R2} (ho:jE X (compareOp op) r) (DB:jE X (compareOp Kf) r') (ha:PE X a ta) (hb:PE X b tb) (hc:PE X c tc)
    (hm:lastMarks [op,Kf] [b,c]=false:=by with_unfolding_all rfl):PE X (.Compare a [op,Kf] [b,c] pos) (lG r r' ta tb tc):=by
  intro pins s σ H Q I h
  refine Compare_chain (bV (ha pins s σ H _ I h) fun v s1 ⟨x,H1,I1,r1,q1⟩=>chain_link (bV (hb pins s1 σ H1 _ I1 q1) fun u s2 ⟨y,H2,I2,r2,q2⟩=>
    bV (ho pins s2 σ H2 x y v u _ I2 r1 r2 q2) fun d s3 ⟨z,H3,I3,r3,k,e,q3⟩=>?_)) hm
  subst e
  cases r3
  refine wpAny_truthy_bool ?_
  cases k with
  | false=>exact ite_ff ⟨.bl false,H3,I3,rfl,q3⟩
  | true=>exact ite_tt (chain_last (bV (hc pins s3 σ H3 _ I3 q3) fun w' s4 ⟨z',H4,I4,r4,q4⟩=>DB pins s4 σ H4 y z' u w' Q I4 r2 r4 q4))
def Kg (K:PySem.W.Frag) (x:V) (H:Hp) (k:Bool):Prop:=
  match x with
  | .cG=>k=false
  | .bl b=>k=b
  | .int i=>k=(i !=0)
  | .str y=>y.length≤sizeLine∧k=((y.length:Int) !=0)
  | .Bl y=>y.size≤sizeLine∧k=((y.size:Int) !=0)
  | .ref p=>(∃ xs,cz K H p xs∧k=!xs.isEmpty)∨(∃ xs,j0 K H p xs∧k=!xs.isEmpty)∨∃ kvs,H p=some (.dK kvs)∧k=!kvs.isEmpty
  | _=>False
theorem Ai {κ:Type} {kvs:List (κ×V)} {vs:List (κ×Value)} (r:KV kvs vs):(!vs.isEmpty)=!kvs.isEmpty:=by
  cases r <;> rfl
theorem rW {xs:List V} {aY:List Value} (r:Vals xs aY):(!aY.toArray.isEmpty)=!xs.isEmpty:=by
  cases r <;> simp
theorem pK:(sizeLine:Nat) < 2 ^ 63:=by rw [sizeLine_eq];decide
theorem Kh:Rr X (fun x H Q=>∃ k,Kg X.K x H k∧Q k H):=by
  intro pins s σ H x v Q I rx h
  obtain ⟨k,e,q⟩:=h
  have hl:=pK
  have hs:sizeLine=16777216:=sizeLine_eq
  cases x with
  | cG=>
    cases rx
    have e':k=false:=e
    subst e'
    exact truthy_none ⟨H,I,q⟩
  | bl b=>
    cases rx
    have e':k=b:=e
    subst e'
    exact wpAny_truthy_bool ⟨H,I,q⟩
  | int i=>
    obtain ⟨t,rfl⟩:=rx
    have e':k=(i !=0):=e
    subst e'
    exact PySem.P.truthy_int ⟨H,I,q⟩
  | str y=>
    obtain ⟨t,rfl⟩:=rx
    obtain ⟨hy,e'⟩:y.length≤sizeLine∧k=((y.length:Int) !=0):=e
    subst e'
    exact PySem.P.truthy_str (by omega) ⟨H,I.tok _,q⟩
  | Bl y=>
    obtain ⟨t,rfl⟩:=rx
    obtain ⟨hy,e'⟩:y.size≤sizeLine∧k=((y.size:Int) !=0):=e
    subst e'
    exact PySem.W.truthy_bytes (by omega) ⟨H,I.tok _,q⟩
  | ref p=>
    cases rx
    have e':(∃ xs,cz X.K H p xs∧k=!xs.isEmpty)∨(∃ xs,j0 X.K H p xs∧k=!xs.isEmpty)∨∃ kvs,H p=some (.dK kvs)∧k=!kvs.isEmpty:=e
    rcases e' with ⟨xs,hx,e'⟩ | ⟨xs,hx,e'⟩ | ⟨kvs,hx,e'⟩
    · subst e'
      obtain ⟨aY,r,pl,hz⟩:=I.list hx
      have hlen:=r.length
      exact wpAny_truthy_list pl.isList (by simp only [List.size_toArray];omega) ⟨H,I.tok _,by rw [rW r];exact q⟩
    · subst e'
      obtain ⟨aY,r,pl,hz⟩:=I.tuple hx
      have hlen:=r.length
      exact truthy_tuple pl (by simp only [List.size_toArray];omega) ⟨H,I.tok _,by rw [rW r];exact q⟩
    · subst e'
      obtain ⟨hz,hS,vs,r,m⟩:kvs.length≤sizeLine∧(p==sysModules)=false∧∃ vs,KV kvs vs∧s.heap.DictOf (bq X.prog X.w) p vs:=I.bC p _ hx
      have hlen:kvs.length=vs.length:=Paired.length r
      exact wpAny_truthy_dict hS m (by omega) ⟨H,I.tok _,by rw [Ai r];exact q⟩
  | _=>exact (show False from e).elim
theorem DO (ha:PE X a ta) (he:∀ whole,isTrue a X.env whole=(do let v ← whole;standAt a.pos;holding [v] (truthy v))):
    PT X a (fun σ H Q=>ta σ H fun x H'=>∃ k,Kg X.K x H' k∧Q k H'):=by
  intro pins s σ H Q I h
  exact isTrue_plain (bV (ha pins s σ H _ I h) fun v s1 ⟨x,H1,I1,r1,q1⟩=>Kh pins s1 σ H1 x v Q I1 r1 q1) (he _)
theorem fR:jE X (binaryOp .Add) (fun x y H Q=>∃ i j,x=.str i∧y=.str j∧i.length + j.length≤sizeLine∧Q (.str (i++j)) H):=by
  intro pins s σ H x y v u Q I rx ry h
  obtain ⟨i,j,rfl,rfl,hz,q⟩:=h
  obtain ⟨t,rfl⟩:=rx
  obtain ⟨t',rfl⟩:=ry
  exact add_str (fun t' tk=>⟨.str (i++j),H,I.tok _,⟨_,rfl⟩,q⟩) hz
theorem vals1 {x:V} {us:List Value} (r:Vals [x] us):∃ u,us=[u]∧RelV x u:=by
  cases r with
  | cons r1 r2=>cases r2;exact ⟨_,rfl,r1⟩
theorem vals2 {x y:V} {us:List Value} (r:Vals [x,y] us):∃ u w',us=[u,w']∧RelV x u∧RelV y w':=by
  cases r with
  | cons r1 r2=>
    cases r2 with
    | cons r3 r4=>cases r4;exact ⟨_,_,rfl,r1,r3⟩
theorem pL:cX X (.type "int") (fun xs H Q=>(∃ i,xs=[.int i]∧Q (.int i) H)∨∃ k,xs=[.bl k]∧Q (.int (if k then 1 else 0)) H):=by
  intro pins s σ H xs us Q I r h
  rcases h with ⟨i,rfl,q⟩ | ⟨k,rfl,q⟩
  · obtain ⟨u,rfl,t,rfl⟩:=vals1 r
    exact call_int_int ⟨.int i,H,I,⟨_,rfl⟩,q⟩
  · obtain ⟨u,rfl,r1⟩:=vals1 r
    cases r1
    exact call_int_bool ⟨.int (if k then 1 else 0),H,I.tok _,⟨_,rfl⟩,q⟩
theorem j3:cX X (.type "str") (fun xs H Q=>∃ i,xs=[.int i]∧i.natAbs.log2 < 1920∧Q (.str (toString i)) H):=by
  intro pins s σ H xs us Q I r h
  obtain ⟨i,rfl,hz,q⟩:=h
  obtain ⟨u,rfl,t,rfl⟩:=vals1 r
  exact PySem.P.str_of_int hz ⟨.str _,H,I.tok _,⟨_,rfl⟩,q⟩
end
end L2
namespace L2
open PySem PySem.Spec PyProof.Rows
structure Aj (h:Heap) (x dx C:Addr) (mA:Str→Option Value):Prop where
  obj:h.get? x=some (PySem.W.instObj C dx)
  ns:h.Ns1 dx mA
  ne:dx≠x
theorem Cg {h:Heap} {dx:Addr} {mA:Str→Option Value} (n:h.Ns1 dx mA):∃ od,h.get? dx=some od∧∀ name,PySem.W.lookIn name od=some (mA name):=by
  obtain ⟨o,es,ep,ho,hd,hk,_,hm⟩:=n
  refine ⟨o,ho,fun name=>?_⟩
  have e:=hm name
  unfold nsFind findBy at e
  rw [← Array.find?_toList] at e
  unfold PySem.W.lookIn
  rw [hd]
  dsimp only
  split
  · rename_i y q
    rw [q] at e
    exact congrArg some e
  · rename_i q
    rw [q] at e
    have a:es.toList.any (·.refKey)=false:=by
      rw [List.any_eq_false]
      intro y hy
      obtain ⟨z,t,hkey⟩:=hk y (Array.mem_toList_iff.mp hy)
      simp [DictEntry.refKey,hkey]
    have a':¬ es.toList.any (·.refKey)=true:=by rw [a];exact Bool.false_ne_true
    rw [if_neg a']
    exact congrArg some e
theorem Aj.look {h:Heap} {x dx C:Addr} {mA:Str→Option Value} (I:Aj h x dx C mA):∃ od,PySem.W.InstAt h x (PySem.W.instObj C dx) C (some od)∧∀ name,PySem.W.lookIn name od=some (mA name):=
  let ⟨od,ho,hl⟩:=Cg I.ns
  ⟨od,⟨I.obj,rfl,rfl,ho⟩,hl⟩
section
variable {prog:Program} {w:World} {A:Around} {E:Value→Shared→Prop} {s:Shared} {K:PySem.W.Frag} {x dx C f:Addr} {mA:Str→Option Value} {name:Str} {v:Value}
theorem get_map {expr:Bool} {Q:Value→Shared→Prop} (X:K.In s.heap) (I:Aj s.heap x dx C mA) (hg:PySem.W.plainGet K C name=true) (hh:PySem.W.hasDictIn K C=true)
    (ha:PySem.W.findIn K (.ref C) name=some none) (hv:mA name=some v) (hv':PySem.W.handedIn v=true) (h:Q v { s with toks:=s.toks + 1 }):
    wpAny (model prog w) A (getAttr (.ref x) name expr) Q E s:=by
  obtain ⟨od,J,hl⟩:=I.look
  exact PySem.W.get_value X J (PySem.W.plainGet_of hg).1 (PySem.W.findObj_own hh ha rfl (by rw [hl,hv])) hv' h
theorem DP {pl:Sem Bool} {Q:Value×List Value→Shared→Prop} (X:K.In s.heap) (I:Aj s.heap x dx C mA) (hg:PySem.W.plainGet K C name=true)
    (hf:PySem.W.findIn K (.ref C) name=some (some (.ref f))) (ht:PySem.W.isFn K (.ref f)=true) (hv:mA name=none) (h:Q (.ref f,[.ref x]) s):
    wpAny (model prog w) A (getMethod (.ref x) name pl) Q E s:=by
  obtain ⟨od,J,hl⟩:=I.look
  exact PySem.W.method_fn X J (PySem.W.plainGet_of hg).1 (PySem.W.plainGet_of hg).2 hf (beq_iff_eq.mp ht) (by show (PySem.W.lookIn name od).map (·.isSome)=some false;rw [hl,hv];rfl) h
theorem GL {ns:List Str} {Q:Unit→Shared→Prop} (X:K.In s.heap) (I:Aj s.heap x dx C mA)
    (hs:PySem.W.findIn K (.ref C) "__setattr__"=some (some (.builtin "object.__setattr__"))) (hp:PySem.W.plainOver K C=true) (ht:PySem.W.takerIn K C name=some none) (hh:PySem.W.hasDictIn K C=true)
    (hw:PySem.Within mA ns) (hsz:ns.length≤sizeLine)
    (h:∀ h',Aj h' x dx C (fun y=>if y=name then some v else mA y)→Heap.SameBut dx s.heap h'→Q () { s with heap:=h',toks:=s.toks + 2 }):
    wpAny (model prog w) A (setAttr (.ref x) name v) Q E s:=by
  obtain ⟨od,J,hl⟩:=I.look
  refine PySem.W.set_plain X J hs (PySem.W.osa_open (s:={ s with toks:=s.toks + 1 }) (r:=none) X J hp ht fun b=>?_)
  obtain ⟨cd,hc,hd'⟩:=PySem.W.any_some hh
  have hx:s.heap.get? x=some ⟨.ref C,some dx,.plain,#[]⟩:=I.obj
  refine wpAny_bind (wpAny_pure (wpAny_bind (wpAny_bind (wpAny_loadPart hx (wpAny_bind (PySem.W.Looks.here (s:={ s with toks:=s.toks + 1 }) (PySem.W.looks_clsIn X hc) ?_))))))
  rw [hd']
  refine wpAny_pure (a:=some dx) (wpAny_bind (wpAny_pure (wpAny_bind ?_)))
  refine wpAny_nsSet1 (s:={ s with toks:=s.toks + 1 }) I.ns fun h' Pc Pd=>?_
  obtain ⟨oD,esD,epD,hoD,hdD,hcD⟩:=Pc.count (PySem.Within.cons name v hw)
  refine wpAny_bind (wpAny_lookBehind hoD (by rw [hdD];exact pastItsLine_dict (Nat.le_trans hcD (by rw [List.length_cons];omega))) ?_)
  exact wpAny_pure (h _ ⟨(Pd.2 _ (Ne.symm I.ne)).trans I.obj,Pc,I.ne⟩ Pd)
theorem DQ {R:Result→Shared→Prop} {vs:List Value} {kw:List (Str×Value)} (X:K.In s.heap) (hm:PySem.W.makesIn K C=true)
    (hi:PySem.W.findIn K (.ref C) "__init__"=some (some (.ref f))) (hf:PySem.W.typeIn K (.ref f)=some (.type "function"))
    (h:codeAny (model prog w) (A.under (.builtin "type.__call__" ⟨.ref C::vs,kw⟩)) (.call (.ref f) ⟨.ref (s.heap.objs.size + 1)::vs,kw⟩) (PySem.W.InitBack (s.heap.objs.size + 1) R)
      { s with heap:=(s.heap.push PySem.W.emptyDict).push (PySem.W.instObj C s.heap.objs.size) }):
    codeAny (model prog w) A (.call (.ref C) ⟨vs,kw⟩) R s:=by
  obtain ⟨hh,g,d,t,os⟩:=s
  exact PySem.W.make_core (PySem.W.makes_of X hm) (PySem.W.looks_findIn X hi) (fun self=>PySem.W.bind_fn X self hf) (.inl rfl) h
end
def bW (f:Str) (v:V):List (Str×V)→List (Str×V)
  | []=>[(f,v)]
  | (g,x)::r=>if g=f then (g,v)::r else (g,x)::bW f v r
theorem qA (f g:Str) (v:V):∀ fs:List (Str×V),(bW f v fs).lookup g=if g=f then some v else fs.lookup g
  | []=>by
    show List.lookup g [(f,v)]=_
    by_cases h:g=f
    · have hb:(g==f)=true:=beq_iff_eq.mpr h
      simp only [List.lookup,hb,if_pos h]
    · have hb:(g==f)=false:=beq_eq_false_iff_ne.mpr h
      simp only [List.lookup,hb,if_neg h]
  | (k,x)::r=>by
    have ih:=qA f g v r
    rw [show bW f v ((k,x)::r)=(if k=f then (k,v)::r else (k,x)::bW f v r) from rfl]
    by_cases hk:k=f
    · rw [if_pos hk]
      by_cases h:g=k
      · have hb:(g==k)=true:=beq_iff_eq.mpr h
        simp only [List.lookup,hb,if_pos (h.trans hk)]
      · have hb:(g==k)=false:=beq_eq_false_iff_ne.mpr h
        simp only [List.lookup,hb,if_neg (fun e:g=f=>h (e.trans hk.symm))]
    · rw [if_neg hk]
      by_cases h:g=k
      · have hb:(g==k)=true:=beq_iff_eq.mpr h
        simp only [List.lookup,hb,if_neg (fun e:g=f=>hk (h.symm.trans e))]
      · have hb:(g==k)=false:=beq_eq_false_iff_ne.mpr h
        simp only [List.lookup,hb]
        exact ih
theorem pM (f:Str) (v:V):∀ fs:List (Str×V),f∈(bW f v fs).map (·.1)∧∀ g,g∈fs.map (·.1)→g∈(bW f v fs).map (·.1)
  | []=>⟨by simp [bW],fun g h=>by simp at h⟩
  | (k,x)::r=>by
    obtain ⟨i1,i2⟩:=pM f v r
    rw [show bW f v ((k,x)::r)=(if k=f then (k,v)::r else (k,x)::bW f v r) from rfl]
    by_cases hk:k=f
    · rw [if_pos hk]
      subst hk
      exact ⟨by simp,fun g h=>by simpa using h⟩
    · rw [if_neg hk]
      refine ⟨?_,fun g h=>?_⟩
      · rw [List.map_cons]
        exact List.mem_cons_of_mem _ i1
      · rw [List.map_cons] at h ⊢
        rcases List.mem_cons.mp h with e | e
        · exact List.mem_cons.mpr (.inl e)
        · exact List.mem_cons_of_mem _ (i2 g e)
theorem eO (f:Str) (v:V):∀ fs:List (Str×V),(bW f v fs).length≤fs.length + 1
  | []=>by simp [bW]
  | (k,x)::r=>by
    have ih:=eO f v r
    rw [show bW f v ((k,x)::r)=(if k=f then (k,v)::r else (k,x)::bW f v r) from rfl]
    by_cases hk:k=f
    · rw [if_pos hk,List.length_cons,List.length_cons];omega
    · rw [if_neg hk,List.length_cons,List.length_cons];omega
theorem kY.some_of {v:V} {o:Option Value} (r:kY (some v) o):∃ u,o=some u∧RelV v u:=by
  cases o with
  | none=>exact (show False from r).elim
  | some u=>exact ⟨u,rfl,r⟩
theorem kY.none_of {o:Option Value} (r:kY none o):o=none:=by
  cases o with
  | none=>rfl
  | some u=>exact (show False from r).elim
theorem Ci {v:V} {u:Value} (r:RelV v u):PySem.W.handedIn u=true:=by
  cases v with
  | cG=>cases (show u=Value.none from r);rfl
  | bl b=>cases (show u=Value.bool b from r);rfl
  | int i=>obtain ⟨t,e⟩:=(show ∃ t,u=Value.int i t from r);cases e;rfl
  | str x=>obtain ⟨t,e⟩:=(show ∃ t,u=Value.str x t from r);cases e;rfl
  | Bl b=>obtain ⟨t,e⟩:=(show ∃ t,u=Value.bytes b t from r);cases e;rfl
  | Jr b=>obtain ⟨t,e⟩:=(show ∃ t,u=Value.float b t from r);cases e;rfl
  | ref a=>cases (show u=Value.ref a from r);rfl
  | ty n=>cases (show u=Value.type n from r);rfl
section
variable {P:Program} {w:World} {H H':Hp} {h h':Heap} {a C dx:Addr} {fs IB:List (Str×V)}
theorem rG (bC:mY P w H h) (e:H a=some (.ins C dx fs)):∃ mA,Aj h a dx C mA∧(∀ f,kY (fs.lookup f) (mA f))∧PySem.Within mA (fs.map (·.1))∧fs.length≤1000∧H dx=some (.own a):=by
  obtain ⟨d,z,ne,ob,mA,n,r,q⟩:=(show cg P w H h a (.ins C dx fs) from bC a _ e)
  exact ⟨mA,⟨ob,n,ne⟩,r,q,z,d⟩
end
structure iu (K:PySem.W.Frag) (C:Addr):Prop where
  pg:PySem.W.plainGet K C Str.empty=true
  hd:PySem.W.hasDictIn K C=true
  po:PySem.W.plainOver K C=true
  sa:PySem.W.findIn K (.ref C) "__setattr__"=some (some (.builtin "object.__setattr__"))
theorem iu.get {K:PySem.W.Frag} {C:Addr} (c:iu K C) (f:Str):PySem.W.plainGet K C f=true:=c.pg
def aK (K:PySem.W.Frag) (C:Addr) (f:Str):Prop:=PySem.W.findIn K (.ref C) f=some none
theorem aK.MA {K:PySem.W.Frag} {C:Addr} {f:Str} (n:aK K C f):PySem.W.takerIn K C f=some none:=by
  unfold PySem.W.takerIn
  rw [show PySem.W.findIn K (.ref C) f=some none from n]
  rfl
structure Con (K:PySem.W.Frag) (C:Addr) (f:Str) (v:V) (u:Value):Prop where
  at_:PySem.W.findIn K (.ref C) f=some (some u)
  rel:RelV v u
  get:PySem.W.specialIn K u "__get__"=some none
  cp:PySem.W.copiedNames.contains f=false
structure Meth (K:PySem.W.Frag) (C:Addr) (m:Str) (f:Addr):Prop where
  at_:PySem.W.findIn K (.ref C) m=some (some (.ref f))
  fn:PySem.W.isFn K (.ref f)=true
  kp:PySem.W.keepIn K (.ref f)=true
section
variable {X:Cx} {pins:List (Addr×Obj)} {σ:St} {H:Hp} {s:Shared} {a C dx:Addr} {fs:List (Str×V)} {f:Str} {v:V} {A:Around} {E:Value→Shared→Prop}
theorem rX {b:Bool} {Q:Value→Shared→Prop} (I:Inv X pins σ H s) (e:H a=some (.ins C dx fs)) (c:iu X.K C) (n:aK X.K C f) (l:fs.lookup f=some v)
    (h:∀ u s',Inv X pins σ H s'→RelV v u→Q u s'):wpAny (model X.prog X.w) A (getAttr (.ref a) f b) Q E s:=by
  obtain ⟨mA,O,r,_,_,_⟩:=rG I.bC e
  obtain ⟨u,hu,ru⟩:=kY.some_of (v:=v) (o:=mA f) (by rw [← l];exact r f)
  exact get_map I.lq O (c.get f) c.hd n hu (Ci ru) (h u _ (I.tok _) ru)
theorem rY {m:Str} {g:Addr} {pl:Sem Bool} {Q:Value×List Value→Shared→Prop} (I:Inv X pins σ H s) (e:H a=some (.ins C dx fs)) (c:iu X.K C) (k:Meth X.K C m g) (l:fs.lookup m=none)
    (h:Q (.ref g,[.ref a]) s):wpAny (model X.prog X.w) A (getMethod (.ref a) m pl) Q E s:=by
  obtain ⟨mA,O,r,_,_,_⟩:=rG I.bC e
  have hn:mA m=none:=kY.none_of (by rw [← l];exact r m)
  exact DP I.lq O (c.get m) k.at_ k.fn hn h
theorem rZ {y:V} {u:Value} {Q:Unit→Shared→Prop} (I:Inv X pins σ H s) (e:H a=some (.ins C dx fs)) (c:iu X.K C) (n:aK X.K C f) (hl:fs.length < 1000) (ry:RelV y u)
    (h:∀ s',Inv X pins σ (upd H a (.ins C dx (bW f y fs))) s'→Q () s'):wpAny (model X.prog X.w) A (setAttr (.ref a) f u) Q E s:=by
  obtain ⟨mA,O,r,wi,_,ho⟩:=rG I.bC e
  have hz:(fs.map (·.1)).length≤sizeLine:=by rw [List.length_map,sizeLine_eq];omega
  refine GL I.lq O c.sa c.po n.MA c.hd wi hz fun h' O' sb=>h _ ?_
  have hd:∃ o,h'.get? dx=some o:=let ⟨o,_,_,e',_⟩:=O'.ns;⟨o,e'⟩
  refine I.write (x:=a) (e:=dx) (by rw [e];exact True.intro) (.inr ho) (fun b q hb z=>(sb.2 b hb).trans z) hd ?_
  refine ⟨by rw [ao O.ne];exact ho,?_,O.ne,O'.obj,_,O'.ns,fun g=>?_,fun g hg=>?_⟩
  · have:=eO f y fs;omega
  · show kY ((bW f y fs).lookup g) (if g=f then some u else mA g)
    rw [qA]
    by_cases q:g=f
    · rw [if_pos q,if_pos q];exact ry
    · rw [if_neg q,if_neg q];exact r g
  · by_cases q:g=f
    · rw [q];exact (pM f y fs).1
    · refine (pM f y fs).2 g (wi g fun z=>hg ?_)
      show (if g=f then some u else mA g)=none
      rw [if_neg q];exact z
theorem Inv.made (I:Inv X pins σ H s):Inv X pins σ (upd (upd H s.heap.objs.size (.own (s.heap.objs.size + 1))) (s.heap.objs.size + 1) (.ins C s.heap.objs.size []))
    { s with heap:=(s.heap.push PySem.W.emptyDict).push (PySem.W.instObj C s.heap.objs.size) }:=by
  have e1:(s.heap.push PySem.W.emptyDict).get? s.heap.objs.size=some PySem.W.emptyDict:=Heap.get?_push_size s.heap rfl
  have e2:((s.heap.push PySem.W.emptyDict).push (PySem.W.instObj C s.heap.objs.size)).get? (s.heap.objs.size + 1)=some (PySem.W.instObj C s.heap.objs.size):=by
    have:=Heap.get?_push_size (s.heap.push PySem.W.emptyDict) (o:=PySem.W.instObj C s.heap.objs.size) rfl
    rwa [Heap.size_push] at this
  have e3:(s.heap.push PySem.W.emptyDict).Ns s.heap.objs.size (fun _=>none):=⟨PySem.W.emptyDict,#[],_,e1,rfl,(fun e he=>absurd he (by simp)),fun _=>rfl⟩
  have I1:=I.laid (a:=s.heap.objs.size) (o:=.own (s.heap.objs.size + 1)) (h':=s.heap.push PySem.W.emptyDict) (t':=s.toks) (fun b u q=>Heap.get?_push_of_some _ q) (Nat.le_refl _) ⟨_,e1⟩
  refine I1.laid (a:=s.heap.objs.size + 1) (o:=.ins C s.heap.objs.size []) (t':=s.toks) (fun b u q=>Heap.get?_push_of_some _ q) (Nat.le_of_eq (Heap.size_push _ _)) ?_
  have ne:s.heap.objs.size≠s.heap.objs.size + 1:=Nat.ne_of_lt (Nat.lt_succ_self _)
  refine ⟨by rw [ao ne,ai],Nat.zero_le _,ne,e2,fun _=>none,(Heap.Ns1.of_empty e3).at fun o q=>Heap.get?_push_of_some _ q,fun _=>True.intro,fun y hy=>absurd rfl hy⟩
theorem GN {prog:Program} {w:World} {env:Env} {e:Expr} {f:Str} {pos:Pos} {s:Shared} {Q:Value→Shared→Prop} (hb:attributeBase e f env (eval e env)=eval e env)
    (h:wpAny (model prog w) A (eval e env) (fun o s₁=>wpAny (model prog w) A (getAttr o f true) Q E s₁) E s):wpAny (model prog w) A (eval (.Attribute e f pos) env) Q E s:=
  Attribute_any_ h (by rw [arm_eval_Attribute,hb])
end
def vV (K:PySem.W.Frag) (ta:TE) (f:Str):TE:=fun σ H Q=>ta σ H fun x H1=>∃ a C dx fs v,x=.ref a∧H1 a=some (.ins C dx fs)∧iu K C∧aK K C f∧fs.lookup f=some v∧Q v H1
def yP (K:PySem.W.Frag) (ta tv:TE) (f:Str):TS:=fun D σ H=>tv σ H fun y H1=>ta σ H1 fun x H2=>∃ a C dx fs,x=.ref a∧H2 a=some (.ins C dx fs)∧iu K C∧aK K C f∧fs.length < 1000∧
  D.nx σ (upd H2 a (.ins C dx (bW f y fs)))
def GO (X:Cx) (op:Operator) (rd:V→V→Hp→VK→Prop):Prop:=
  ∀ (pins:List (Addr×Obj)) (s:Shared) (σ:St) (H:Hp) (x y:V) (u v:Value) (Q:VK),Inv X pins σ H s→RelV x u→RelV y v→rd x y H Q→wpAny (model X.prog X.w) X.A (inplaceOp op u v) (EP X pins σ Q) X.xe s
def iB (K:PySem.W.Frag) (ta tv:TE) (rd:V→V→Hp→VK→Prop) (f:Str):TS:=fun D σ H=>ta σ H fun x H1=>∃ a C dx fs v,x=.ref a∧H1 a=some (.ins C dx fs)∧iu K C∧aK K C f∧fs.lookup f=some v∧
  tv σ H1 fun y H2=>rd v y H2 fun z H3=>∃ dx' IB,H3 a=some (.ins C dx' IB)∧IB.length < 1000∧D.nx σ (upd H3 a (.ins C dx' (bW f z IB)))
section
variable {X:Cx} {o e value:Expr} {f:Str} {pos pos' DR:Pos} {ta tv:TE}
theorem Kl (he:PE X e ta) (hb:attributeBase e f X.env (eval e X.env)=eval e X.env):PE X (.Attribute e f pos) (vV X.K ta f):=by
  intro pins s σ H Q I h
  refine GN hb (bV (he pins s σ H _ I h) fun u s1 ⟨x,H1,I1,rx,a,C,dx,fs,v,ex,ea,c,n,l,q⟩=>?_)
  subst ex
  obtain rfl:u=Value.ref a:=rx
  exact rX I1 ea c n l fun u' s2 I2 ru=>⟨v,H1,I2,ru,q⟩
theorem Km (ha:PE X o ta) (hv:PE X value tv) (hs:swapsWith value (some (.Attribute o f pos')) pos.line X.env=pure false):PS X (.Assign [.Attribute o f pos'] value pos) (yP X.K ta tv f):=by
  intro pins s σ H D I h
  refine plainObj_wpAny_Assign_Attribute (bV (hv pins s σ H _ I h) fun u s1 ⟨y,H1,I1,ry,q⟩=>bV (ha pins s1 σ H1 _ I1 q) fun ov s2 ⟨x,H2,I2,rx,a,C,dx,fs,ex,ea,c,n,l,q2⟩=>?_) hs
  subst ex
  obtain rfl:ov=Value.ref a:=rx
  exact rZ I2 ea c n l ry fun s3 I3=>⟨σ,_,I3,q2⟩
theorem Cj {op:Operator} {rd:V→V→Hp→VK→Prop} (ha:PE X o ta) (hv:PE X value tv) (Rt:GO X op rd):PS X (.AugAssign (.Attribute o f DR) op value pos) (iB X.K ta tv rd f):=by
  intro pins s σ H D I h
  refine wpAny_AugAssign_AttributeAny (bV (ha pins s σ H _ I h) fun ov s1 ⟨x,H1,I1,rx,a,C,dx,fs,v,ex,ea,c,n,l,q⟩=>?_)
  subst ex
  obtain rfl:ov=Value.ref a:=rx
  refine rX I1 ea c n l fun u s2 I2 ru=>bV (hv pins s2 σ H1 _ I2 q) fun w3 s3 ⟨y,H2,I3,ry,q3⟩=>bV (Rt pins s3 σ H2 v y u w3 _ I3 ru ry q3) fun w4 s4 ⟨z,H3,I4,rz,dx',IB,ea',l',q4⟩=>?_
  exact rZ I4 ea' c n l' rz fun s5 I5=>⟨σ,_,I5,q4⟩
def Ru:V→V→Hp→VK→Prop:=fun x y H Q=>∃ i j,x=.int i∧y=.int j∧Q (.int (i + j)) H
theorem Kn:GO X .Add Ru:=by
  rintro pins s σ H x y u v Q I rx ry ⟨i,j,rfl,rfl,q⟩
  obtain ⟨t,rfl⟩:=(show ∃ t,u=Value.int i t from rx)
  obtain ⟨t',rfl⟩:=(show ∃ t',v=Value.int j t' from ry)
  exact PyProof.Rows.iadd_int ⟨.int (i + j),H,I.tok _,⟨_,rfl⟩,q⟩
end
section
variable {X:Cx} {pins:List (Addr×Obj)} {σ:St} {H:Hp} {s:Shared} {A:Around} {E:Value→Shared→Prop} {Q:Value→Shared→Prop} {c:Value} {b:Bool}
inductive oq (K:PySem.W.Frag) (H:Hp):V→Value→Prop where
  | cG:oq K H .cG (.type "NoneType")
  | bl (x:Bool):oq K H (.bl x) (.type "bool")
  | int (i:Int):oq K H (.int i) (.type "int")
  | str (x:Str):oq K H (.str x) (.type "str")
  | Jr (x:UInt64):oq K H (.Jr x) (.type "float")
  | lst {a:Addr} {xs:List V} (e:H a=some (.lst xs)):oq K H (.ref a) (.type "list")
  | jt {a:Addr} {o:Obj} {xs:List V} (e:H a=some (.jt o (.lst xs))):oq K H (.ref a) (.type "list")
  | tup {a:Addr} {xs:List V} (e:H a=some (.tup xs)):oq K H (.ref a) (.type "tuple")
  | dK {a:Addr} {kvs:List (Key×V)} (e:H a=some (.dK kvs)):oq K H (.ref a) (.type "dict")
  | dT {a:Addr} {kvs:List (List Key×V)} (e:H a=some (.dT kvs)):oq K H (.ref a) (.type "dict")
  | ins {a C dx:Addr} {fs:List (Str×V)} (e:H a=some (.ins C dx fs)) (cl:iu K C) (ha:PySem.W.findIn K (.ref C) "__class__"=some (some (.builtin "object.__class__")))
      (hn:PySem.W.specialIn K (.builtin "object.__class__") "__get__"=some (some (.builtin "getset_descriptor.__get__"))) (htk:PySem.W.takesIn K (.builtin "object.__class__")=some true)
      (hm:PySem.W.mroIn K C (.type "object")=some true):oq K H (.ref a) (.ref C)
theorem uW {x:V} {u t:Value} (I:Inv X pins σ H s) (rx:RelV x u) (ty:oq X.K H x t) (e:PySem.W.kitOne X.K t c=some b) (h:∀ tk,Q (.bool b) { s with toks:=tk }):
    wpAny (model X.prog X.w) A (call (.builtin "isinstance") [u,c]) Q E s:=by
  cases ty with
  | cG=>cases (show u=Value.none from rx);exact PySem.W.kia_one PySem.W.kitx_none I.lq True.intro e (fun z=>nomatch z) h
  | bl y=>cases (show u=Value.bool y from rx);exact PySem.W.kia_one PySem.W.kitx_bool I.lq True.intro e (fun z=>nomatch z) h
  | int i=>obtain ⟨t,q⟩:=(show ∃ t,u=Value.int i t from rx);cases q;exact PySem.W.kia_one PySem.W.kitx_int I.lq True.intro e (fun z=>nomatch z) h
  | str y=>obtain ⟨t,q⟩:=(show ∃ t,u=Value.str y t from rx);cases q;exact PySem.W.kia_one PySem.W.kitx_str I.lq True.intro e (fun z=>nomatch z) h
  | Jr y=>obtain ⟨t,q⟩:=(show ∃ t,u=Value.float y t from rx);cases q;exact PySem.W.kia_one PySem.W.kitx_float I.lq True.intro e (fun z=>nomatch z) h
  | @lst a xs ea=>
    cases (show u=Value.ref a from rx)
    obtain ⟨_,_,n,_,h1⟩:=(show cg X.prog X.w H s.heap a (.lst xs) from I.bC a _ ea)
    exact PySem.W.kia_one PySem.W.kitx_list I.lq ⟨_,h1,rfl⟩ e (fun z=>nomatch z) h
  | @jt a ob xs ea=>
    cases (show u=Value.ref a from rx)
    obtain ⟨_,_,_,n,_,h1⟩:=(show cg X.prog X.w H s.heap a (.jt ob (.lst xs)) from I.bC a _ ea)
    exact PySem.W.kia_one PySem.W.kitx_list I.lq ⟨_,h1,rfl⟩ e (fun z=>nomatch z) h
  | @tup a xs ea=>
    cases (show u=Value.ref a from rx)
    obtain ⟨_,_,_,p⟩:=(show cg X.prog X.w H s.heap a (.tup xs) from I.bC a _ ea)
    obtain ⟨o,h1,h2,_⟩:=p
    exact PySem.W.kia_one PySem.W.kitx_tuple I.lq ⟨o,h1,h2⟩ e (fun z=>nomatch z) h
  | @dK a kvs ea=>
    cases (show u=Value.ref a from rx)
    obtain ⟨_,_,vs,_,p⟩:=(show cg X.prog X.w H s.heap a (.dK kvs) from I.bC a _ ea)
    obtain ⟨o,es,ep,h1,h2,_⟩:=p
    exact PySem.W.kia_one PySem.W.kitx_dict I.lq ⟨o,h1,h2.1⟩ e (fun z=>nomatch z) h
  | @dT a kvs ea=>
    cases (show u=Value.ref a from rx)
    obtain ⟨_,_,xs,_,o,es,ep,h1,h2,_⟩:=(show cg X.prog X.w H s.heap a (.dT kvs) from I.bC a _ ea)
    exact PySem.W.kia_one PySem.W.kitx_dict I.lq ⟨o,h1,h2.1⟩ e (fun z=>nomatch z) h
  | @ins a C dx fs ea cl ha hn htk hm=>
    cases (show u=Value.ref a from rx)
    obtain ⟨mA,O,_⟩:=rG I.bC ea
    obtain ⟨od,J,_⟩:=O.look
    exact PySem.W.kia_one (PySem.W.kitx_own (cl.get _) cl.hd ha hn htk hm) I.lq J e (fun z=>nomatch z) h
end
end L2
namespace L2
open PySem PySem.Spec PyProof.Rows
structure dJ (k:Nat) (A:Around):Prop where
  hd:A.handled=none
  dp:A.depth + 3 * k + 5 < recursionLimit
  un:A.units + 16 * k + 200 < cLine
  gd:A.guards=some []
theorem dJ.mono {j k:Nat} {A:Around} (r:dJ k A) (h:j≤k):dJ j A:=⟨r.hd,by have:=r.dp;omega,by have:=r.un;omega,r.gd⟩
theorem dJ.deeper {k:Nat} {A:Around} (r:dJ (k + 1) A) (env:Env):dJ k (A.deeper env):=
  ⟨r.hd,by have:=r.dp;show A.depth + 1 + 3 * k + 5 < _;omega,by have:=r.un;show A.units + 3 + 16 * k + 200 < _;omega,r.gd⟩
theorem dJ.in1 {k:Nat} {A:Around} (r:dJ (k + 1) A):dJ k A.in1:=
  ⟨r.hd,by have:=r.dp;show A.depth + 3 * k + 5 < _;omega,by have:=r.un;show A.units + 1 + 16 * k + 200 < _;omega,r.gd⟩
theorem Ak {A:Around} {C:Addr} {us:List Value} {kw:List (Str×Value)}:(A.under (.builtin "type.__call__" ⟨.ref C::us,kw⟩)).depth=A.depth + 1:=by
  first | rfl | simp [Around.under,Code.weight,Code.isCreation,Code.isGuard,Code.isCaller,Code.frames,Code.isFrame,guardIds]
theorem Al {A:Around} {C:Addr} {us:List Value} {kw:List (Str×Value)}:(A.under (.builtin "type.__call__" ⟨.ref C::us,kw⟩)).units=A.units + 1:=by
  first | rfl | simp [Around.under,Code.cUnits,Code.frames,Code.isFrame]
theorem dJ.make {k:Nat} {A:Around} (r:dJ (k + 1) A) (C:Addr) (us:List Value) (kw:List (Str×Value)):dJ k (A.under (.builtin "type.__call__" ⟨.ref C::us,kw⟩)):=
  ⟨r.hd,by have:=r.dp;rw [Ak];omega,by have:=r.un;rw [Al];omega,by have:=r.gd;first | exact this | simpa [Around.under,Code.guards,Code.isGuard,pushGuards,guardIds] using this⟩
theorem dJ.depth {k:Nat} {A:Around} (r:dJ k A):A.depth < recursionLimit:=by have:=r.dp;omega
theorem dJ.units {k:Nat} {A:Around} (r:dJ k A):A.units + 64 < cLine:=by have:=r.un;omega
def ou:TA:=fun _ H Q=>Q [] H
def jg (ta:TE) (tr:TA):TA:=fun σ H Q=>ta σ H fun x H1=>tr σ H1 fun xs H2=>Q (x::xs) H2
section
variable {X:Cx} {e:Expr} {es:List Expr} {te:TE} {t:TA} {pos:Pos}
theorem DS:PA X [] ou:=fun _ _ _ _ H Q I h=>Calls.spliced_nil ⟨[],H,I,.nil,h⟩
theorem Bs (ha:PE X e te) (hr:PA X es t) (hs:starEach (e::es) X.env=(false,eval e X.env)::starEach es X.env:=by rfl):PA X (e::es) (jg te t):=by
  intro pos pins s σ H Q I h
  rw [hs]
  show wpAny _ _ (spliced ((false,eval e X.env)::backTo pos (starEach es X.env))) _ _ s
  refine Calls.spliced_cons (bV (ha pins s σ H _ I h) fun u s1 ⟨x,H1,I1,r1,q1⟩=>?_)
  exact bV (hr pos pins s1 σ H1 _ I1 q1) fun us s2 ⟨xs,H2,I2,r2,q2⟩=>⟨x::xs,H2,I2,.cons r1 r2,q2⟩
def Ck (t:TA):TE:=fun σ H Q=>t σ H fun xs H1=>xs.length≤sizeLine∧∀ p,H1 p=none→Q (.ref p) (upd H1 p (.tup xs))
def Cm (t:TA):TE:=fun σ H Q=>t σ H fun xs H1=>xs.length≤sizeLine∧∀ p,H1 p=none→Q (.ref p) (upd H1 p (.lst xs))
end
abbrev Sp:=List V→Hp→VK→XK→Prop
abbrev uy:=List Env→Hp→Shared→XK→Value→Shared→Prop
structure sf (P:Program) (w:World) (K:PySem.W.Frag) (mg:Str→Option Value) (base:Heap) (A:Around) (outer:List Env) (s:Shared) (H:Hp):Prop where
  frames:A.frames=some outer
  mod:Mod K mg base
  bs:∀ b o,base.get? b=some o→s.heap.get? b=some o∧H b=none
  Ac:base.objs.size≤s.heap.objs.size
  jG:s.heap.FunFrames base outer
  Cb:∀ b∈kR outer,H b=none
  bC:mY P w H s.heap
  bare:AllBare s.gens
def CE (outer:List Env) (P:Program) (w:World) (H:Hp) (s:Shared) (Q:VK) (u:Value) (s':Shared):Prop:=
  ∃ v H',s'.os=s.os∧AllBare s'.gens∧Un (kR outer) [] H H' s.heap s'.heap∧mY P w H' s'.heap∧RelV v u∧Q v H'
def CR (CX:uy) (outer:List Env) (P:Program) (w:World) (H:Hp) (s:Shared) (Q:VK) (E:XK) (r:Result) (s':Shared):Prop:=
  match r with
  | .ok (.ret u)=>CE outer P w H s Q u s'
  | .ok _=>False
  | .error e=>CX outer H s E e s'
structure aT (P:Program) (w:World) (K:PySem.W.Frag) (mg:Str→Option Value) (base:Heap) (CX:uy) (k:Nat) (f:Addr) (fd:FuncData) (ps:List Str) (sp:Sp):Prop where
  len:∀ vs H Q E,sp vs H Q E→vs.length=ps.length
  run:∀ (A:Around) (outer:List Env) (s:Shared) (H:Hp) (args:Args) (us:List Value) (vs:List V) (Q:VK) (E:XK),dJ k A→sf P w K mg base A outer s H→BindsTo s fd args (ps.zip us)→Vals vs us→sp vs H Q E→
    codeAny (model P w) A (.call (.ref f) args) (CR CX outer P w H s Q E) s
theorem aT.mono {P:Program} {w:World} {K:PySem.W.Frag} {mg:Str→Option Value} {base:Heap} {CX:uy} {j k:Nat} {f:Addr} {fd:FuncData} {ps:List Str} {sp:Sp} (F:aT P w K mg base CX j f fd ps sp) (h:j≤k):
    aT P w K mg base CX k f fd ps sp:=⟨F.len,fun A outer s H args us vs Q E hr=>F.run A outer s H args us vs Q E (hr.mono h)⟩
theorem aT.imp {P:Program} {w:World} {K:PySem.W.Frag} {mg:Str→Option Value} {base:Heap} {CX:uy} {k:Nat} {f:Addr} {fd:FuncData} {ps:List Str} {sp IM:Sp} (F:aT P w K mg base CX k f fd ps sp)
    (h:∀ vs H Q E,IM vs H Q E→sp vs H Q E):aT P w K mg base CX k f fd ps IM:=
  ⟨fun vs H Q E q=>F.len vs H Q E (h _ _ _ _ q),fun A outer s H args us vs Q E hr he hb hv hs=>F.run A outer s H args us vs Q E hr he hb hv (h _ _ _ _ hs)⟩
theorem sf.make {P:Program} {w:World} {K:PySem.W.Frag} {mg:Str→Option Value} {base:Heap} {A:Around} {outer:List Env} {s:Shared} {H:Hp} (e:sf P w K mg base A outer s H) (C:Addr) (us:List Value) (kw:List (Str×Value)):
    sf P w K mg base (A.under (.builtin "type.__call__" ⟨.ref C::us,kw⟩)) outer s H:=⟨by first | exact e.frames | (simpa [Around.under,Code.envs,Code.isFrame,pushEnvs] using e.frames),e.mod,e.bs,e.Ac,e.jG,e.Cb,e.bC,e.bare⟩
theorem sf.in1 {P:Program} {w:World} {K:PySem.W.Frag} {mg:Str→Option Value} {base:Heap} {A:Around} {outer:List Env} {s:Shared} {H:Hp} (e:sf P w K mg base A outer s H):
    sf P w K mg base A.in1 outer s H:=⟨e.frames,e.mod,e.bs,e.Ac,e.jG,e.Cb,e.bC,e.bare⟩
section
variable {X:Cx} {pins:List (Addr×Obj)} {σ:St} {H:Hp} {s s':Shared}
theorem Inv.Ko (I:Inv X pins σ H s):sf X.prog X.w X.K X.mg X.base X.A X.stack s H:=
  ⟨I.ok.frames,I.ok.mod,I.bs,Nat.le_trans I.ok.Ac I.sz,I.stack,I.rD,I.bC,I.bare⟩
theorem Inv.after {Q:VK} {u:Value} (I:Inv X pins σ H s) (h:CE X.stack X.prog X.w H s Q u s'):EP X pins σ Q u s':=by
  obtain ⟨v,H',os,bare,un,bC,r,q⟩:=h
  obtain ⟨hh,g,d,t,GP⟩:=s'
  obtain rfl:GP=s.os:=os
  exact ⟨v,H',I.call (h':=hh) (g':=g) (d':=d) (t':=t) (ch:=[]) un bC bare (fun b z=>absurd z (by simp)),r,q⟩
end
def jh (sp:Sp) (iL:List V) (E:XK) (t:TA):TE:=fun σ H Q=>t σ H fun vs H1=>sp (vs++iL) H1 Q E
def m6 (C:Addr) (m:Str) (sp:Sp) (iL:List V) (E:XK) (ta:TE) (t:TA):TE:=fun σ H Q=>ta σ H fun x H1=>∃ a dx fs,x=.ref a∧H1 a=some (.ins C dx fs)∧fs.lookup m=none∧
  t σ H1 fun vs H2=>sp (x::(vs++iL)) H2 Q E
def Binds (K:PySem.W.Frag) (fd:FuncData) (ps:List Str) (ds:List Value):Prop:=
  ∀ (s:Shared) (us:List Value),K.In s.heap→(us++ds).length=ps.length→BindsTo s fd ⟨us,[]⟩ (ps.zip (us++ds))
theorem Binds.all {K:PySem.W.Frag} {fd:FuncData} {ps:List Str} (h:∀ us:List Value,us.length=ps.length→bindArgs fd ⟨us,[]⟩=pure (ps.zip us)):Binds K fd ps []:=fun s us _ hl=>by
  rw [List.append_nil] at hl ⊢
  exact .of_eq (h us hl)
def Passes (CX:uy) (X:Cx) (E:XK):Prop:=∀ (pins:List (Addr×Obj)) (σ:St) (H:Hp) (s:Shared) (e:Value) (s':Shared),Inv X pins σ H s→CX X.stack H s E e s'→X.xe e s'
section
variable {X:Cx} {CX:uy} {k:Nat} {f C:Addr} {fd:FuncData} {ps:List Str} {sp:Sp} {iL:List V} {ds:List Value} {E:XK} {x m:Str} {p pos apos:Pos} {e o:Expr} {es:List Expr} {ta:TE} {t:TA}
theorem Am {pins:List (Addr×Obj)} {σ:St} {H:Hp} {s:Shared} {Q:VK} {us:List Value} {vs:List V} (F:aT X.prog X.w X.K X.mg X.base CX k f fd ps sp) (hr:dJ k X.A) (hb:Binds X.K fd ps ds) (hd:Vals iL ds) (hx:Passes CX X E)
    (I:Inv X pins σ H s) (r:Vals vs us) (h:sp (vs++iL) H Q E):wpAny (model X.prog X.w) X.A (call (.ref f) us) (EP X pins σ Q) X.xe s:=by
  have r2:Vals (vs++iL) (us++ds):=r.append hd
  have hl:(us++ds).length=ps.length:=by rw [← r2.length];exact F.len _ _ _ _ h
  refine wpAny_call (codeAny_mono (F.run X.A X.stack s H ⟨us,[]⟩ (us++ds) (vs++iL) Q E hr I.Ko (hb s us I.lq hl) r2 h) fun r s' hq=>?_)
  cases r with
  | error e=>exact hx pins σ H s e s' I hq
  | ok fl=>
    cases fl with
    | ret u=>exact I.after hq
    | next=>exact False.elim hq
    | brk=>exact False.elim hq
    | cont=>exact False.elim hq
theorem GQ (F:aT X.prog X.w X.K X.mg X.base CX k f fd ps sp) (hr:dJ k X.A) (hg:Gl X x) (hm:X.mg x=some (.ref f)) (hk:PySem.W.keepIn X.K (.ref f)=true) (hb:Binds X.K fd ps ds) (hd:Vals iL ds) (hx:Passes CX X E)
    (ha:PA X (e::es) t) (qB:(x==("__debug__":Str))=false:=by decide) (he:starEach (e::es) X.env=(false,eval e X.env)::starEach es X.env:=by rfl) (qC:(backTo pos (starEach es X.env)).any (·.1)=false:=by rfl):
    PE X (.Call (.Name x p) (e::es) [] pos) (jh sp iL E t):=by
  intro pins s σ H Q I h
  refine wpAny_Call_Name_kw (jZ I hg hm ?_ qB)
  refine PySem.W.callWith_K (h₀:=X.base) I.ok.mod.Gd hk (bV (ha pos pins s σ H _ I h) fun us s1 ⟨vs,H1,I1,r,q⟩=>⟨I1.lq,?_⟩) he qC
  exact Am F hr hb hd hx I1 r q
theorem GR {pl:Sem Bool} (he:PE X o ta) (c:iu X.K C) (hm:Meth X.K C m f) (F:aT X.prog X.w X.K X.mg X.base CX k f fd ps sp) (hr:dJ k X.A) (hb:Binds X.K fd ps ds) (hd:Vals iL ds) (hx:Passes CX X E) (ha:PA X (e::es) t)
    (rF:starEach (e::es) X.env=(false,eval e X.env)::starEach es X.env:=by rfl) (qC:(backTo pos (starEach es X.env)).any (·.1)=false:=by rfl)
    (ht:eval (.Call (.Attribute o m apos) (e::es) [] pos) X.env=(do
      let ov ← eval o X.env
      standAt apos.atName
      let (f,first) ← holding [ov] (getMethod ov m pl)
      callWith pos f first (backTo pos (starEach (e::es) X.env)) (backToKw pos (keywordEach [] X.env))):=by rfl):
    PE X (.Call (.Attribute o m apos) (e::es) [] pos) (m6 C m sp iL E ta t):=by
  intro pins s σ H Q I h
  refine PySem.W.methodCall_KW (pl:=pl) (bV (he pins s σ H _ I h) fun u s1 ⟨x,H1,I1,rx,a,dx,fs,ex,ea,l,q⟩=>?_) ht
  subst ex
  obtain rfl:u=Value.ref a:=rx
  refine rY I1 ea c hm l ?_
  refine PySem.W.callWith_K (first:=[.ref a]) (h₀:=X.base) I.ok.mod.Gd hm.kp (bV (ha pos pins s1 σ H1 _ I1 q) fun us s2 ⟨vs,H2,I2,r,q2⟩=>⟨I2.lq,?_⟩) rF qC
  exact Am (us:=.ref a::us) (vs:=.ref a::vs) F hr hb hd hx I2 (.cons rfl r) q2
theorem DT {pl:Sem Bool} (he:PE X o ta) (c:iu X.K C) (hm:Meth X.K C m f) (F:aT X.prog X.w X.K X.mg X.base CX k f fd ps sp) (hr:dJ k X.A) (hb:Binds X.K fd ps ds) (hd:Vals iL ds) (hx:Passes CX X E)
    (ht:eval (.Call (.Attribute o m apos) [] [] pos) X.env=(do
      let ov ← eval o X.env
      standAt apos.atName
      let (f,first) ← holding [ov] (getMethod ov m pl)
      callWith pos f first (backTo pos (starEach [] X.env)) (backToKw pos (keywordEach [] X.env))):=by rfl):
    PE X (.Call (.Attribute o m apos) [] [] pos) (m6 C m sp iL E ta ou):=by
  intro pins s σ H Q I h
  refine PySem.W.methodCall_KW (pl:=pl) (bV (he pins s σ H _ I h) fun u s1 ⟨x,H1,I1,rx,a,dx,fs,ex,ea,l,q⟩=>?_) ht
  subst ex
  obtain rfl:u=Value.ref a:=rx
  refine rY I1 ea c hm l ?_
  exact PySem.W.callWith_K0 (first:=[.ref a]) I1.lq hm.kp (Am (us:=[.ref a]) (vs:=[.ref a]) F hr hb hd hx I1 (.cons rfl .nil) q)
structure Mk (K:PySem.W.Frag) (C f:Addr):Prop where
  makes:PySem.W.makesIn K C=true
  init:PySem.W.findIn K (.ref C) "__init__"=some (some (.ref f))
  fn:PySem.W.isFn K (.ref f)=true
  kp:PySem.W.keepIn K (.ref C)=true
end
def PK (X:Cx) (MB:List Keyword) (t:TA):Prop:=
  ∀ (pos:Pos) (pins:List (Addr×Obj)) (s:Shared) (σ:St) (H:Hp) (Q:List V→Hp→Prop),Inv X pins σ H s→t σ H Q→wpAny (model X.prog X.w) X.A (evalAll ((backToKw pos (keywordEach MB X.env)).map (·.2))) (AP X pins σ Q) X.xe s
section
variable {X:Cx} {CX:uy} {k:Nat} {f C:Addr} {fd:FuncData} {ps ks:List Str} {sp:Sp} {E:XK} {x m:Str} {p pos apos Rv:Pos} {e o:Expr} {es:List Expr} {MB:List Keyword} {te ta:TE} {t tk:TA} {nm:Option Str}
structure Kq (K:PySem.W.Frag) (fd:FuncData) (ps ks:List Str) (g:List Value→List Value→List Value) (gV:List V→List V→List V):Prop where
  to:∀ (s:Shared) (us ws:List Value),K.In s.heap→(g us ws).length=ps.length→BindsTo s fd ⟨us,ks.zip ws⟩ (ps.zip (g us ws))
  rel:∀ {vs:List V} {us:List Value} {zs:List V} {ws:List Value},Vals vs us→Vals zs ws→Vals (gV vs zs) (g us ws)
variable {g:List Value→List Value→List Value} {gV:List V→List V→List V}
end
structure aG (N P:List Str) (sc:Scope):Prop where
  kind:sc.kind=.function
  co:sc.isCoroutine=false
  gen:sc.isGenerator=false
  nd:N.Nodup
  pre:N.take P.length=P
  par:∀ x∈P,sc.names.lookup x=some .local∨sc.names.lookup x=some .cell
  Kr:∀ y∈sc.names,y.2≠.free
theorem uX {kindOf:Str→Option NameKind} {x:Str}:∀ {binds:List (Str×Value)} {m:Str→Option Value},(∀ v,(x,v)∉binds)→bindL kindOf binds m x=m x
  | [],_,_=>rfl
  | (n,v)::r,m,h=>by
    unfold bindL
    rw [uX fun w hw=>h w (List.mem_cons_of_mem _ hw)]
    split
    · have:x≠n:=by rintro rfl;exact h v List.mem_cons_self
      simp [this]
    · rfl
theorem uY {kindOf:Str→Option NameKind} {x:Str}:∀ {binds:List (Str×Value)} {m:Str→Option Value},(∀ v,(x,v)∉binds)→bindC kindOf binds m x=m x
  | [],_,_=>rfl
  | (n,v)::r,m,h=>by
    unfold bindC
    rw [uY fun w hw=>h w (List.mem_cons_of_mem _ hw)]
    split
    · rfl
    · have:x≠n:=by rintro rfl;exact h v List.mem_cons_self
      simp [this]
theorem uZ {kindOf:Str→Option NameKind} {x:Str} {v:Value}:∀ {P:List Str} {vs:List Value} {i:Nat} {m:Str→Option Value},P.Nodup→P[i]?=some x→vs[i]?=some v→kindOf x=some .local→
    bindL kindOf (P.zip vs) m x=some v
  | [],_,_,_,_,h,_,_=>by simp at h
  | _::_,[],_,_,_,_,h,_=>by simp at h
  | p::P,w::vs,0,m,nd,h1,h2,hk=>by
    simp at h1 h2;subst h1;subst h2
    show bindL kindOf ((p,w)::P.zip vs) m p=_
    unfold bindL
    rw [uX fun v hv=>(List.nodup_cons.mp nd).1 (List.of_mem_zip hv).1,if_pos hk]
    simp
  | p::P,w::vs,i + 1,m,nd,h1,h2,hk=>by
    show bindL kindOf ((p,w)::P.zip vs) m x=_
    unfold bindL
    exact uZ (i:=i) (List.nodup_cons.mp nd).2 (by simpa using h1) (by simpa using h2) hk
theorem u5 {kindOf:Str→Option NameKind} {x:Str} {v:Value}:∀ {P:List Str} {vs:List Value} {i:Nat} {m:Str→Option Value},P.Nodup→P[i]?=some x→vs[i]?=some v→kindOf x≠some .local→
    bindC kindOf (P.zip vs) m x=some v
  | [],_,_,_,_,h,_,_=>by simp at h
  | _::_,[],_,_,_,_,h,_=>by simp at h
  | p::P,w::vs,0,m,nd,h1,h2,hk=>by
    simp at h1 h2;subst h1;subst h2
    show bindC kindOf ((p,w)::P.zip vs) m p=_
    unfold bindC
    rw [uY fun v hv=>(List.nodup_cons.mp nd).1 (List.of_mem_zip hv).1,if_neg hk]
    simp
  | p::P,w::vs,i + 1,m,nd,h1,h2,hk=>by
    show bindC kindOf ((p,w)::P.zip vs) m x=_
    unfold bindC
    exact u5 (i:=i) (List.nodup_cons.mp nd).2 (by simpa using h1) (by simpa using h2) hk
def start (N:List Str) (vs:List V):St:=vs.map some++List.replicate (N.length - vs.length) none
def jw (CX:uy) (P:Program) (w:World) (K:PySem.W.Frag) (mg:Str→Option Value) (base:Heap) (N:List Str) (qual:Str) (scope:Scope) (f:Addr) (cd:Value) (A:Around) (outer:List Env) (s:Shared) (H:Hp) (E:XK):Cx where
  prog:=P
  w:=w
  K:=K
  mg:=mg
  base:=base
  A:=A.deeper (envOfC qual scope s.heap.objs.size f cd)
  N:=N
  s₀:=s
  H₀:=H
  env:=envOfC qual scope s.heap.objs.size f cd
  outer:=outer
  stack:=envOfC qual scope s.heap.objs.size f cd::outer
  ex:=[]
  calm:=true
  fn:=fun _=>true
  pn:=[]
  xe:=fun e s'=>wpAny (model P w) (A.deeper (envOfC qual scope s.heap.objs.size f cd)) (leaving (envOfC qual scope s.heap.objs.size f cd) e) (fun _ s''=>CX outer H s E e s'') (fun e' s''=>CX outer H s E e' s'') s'
theorem yQ {sc:Scope} {n:Nat} {x:Str} (h:sc.names.lookup x=some .cell):∃ c,(cellsFrom n sc.names []).lookup x=some c:=by
  have q:=PySem.W.cellsFrom_some sc.names n [] (.inl h)
  exact Option.isSome_iff_exists.mp q
theorem Cn {CX:uy} {P:Program} {w:World} {K:PySem.W.Frag} {mg:Str→Option Value} {base:Heap} {N ps:List Str} {qual:Str} {scope:Scope} {f:Addr} {cd:Value} {A:Around} {outer:List Env} {s s1:Shared} {H:Hp} {E:XK} {us:List Value} {vs:List V}
    (S:aG N ps scope) (hd:A.handled=none) (e0:sf P w K mg base A outer s H) (hl:vs.length=ps.length) (r:Vals vs us)
    (x:InCallC s s.heap.objs.size (bindL (envOfC qual scope s.heap.objs.size f cd).kindOf (ps.zip us) fun _=>none) (cellsFrom (s.heap.objs.size + 1) scope.names []) (bindC (envOfC qual scope s.heap.objs.size f cd).kindOf (ps.zip us) fun _=>none) s1):
    Inv (jw CX P w K mg base N qual scope f cd A outer s H E) [] (start N vs) H s1:=by
  have qC:ps.length≤N.length:=by have:=congrArg List.length S.pre;rw [List.length_take] at this;omega
  obtain ⟨h1,tk,rfl,hk⟩:=x.done
  have MC:∀ b:Addr,b∉(jw CX P w K mg base N qual scope f cd A outer s H E).ex:=fun b z=>absurd (show b∈([]:List Addr) from z) (by simp)
  refine ⟨⟨e0.mod,S.kind,rfl,rfl,Nat.le_refl _,fun y z c h1 h2=>?_,fun y hy=>?_,fun y c _ h=>?_,fun _=>hd,Around.frames_deeper e0.frames,.inr ⟨rfl,rfl⟩,fun b z=>absurd z (MC b),e0.bs,e0.Ac,fun b _ _=>MC b,fun b z=>absurd z (MC b),e0.jG,e0.Cb⟩,
    rfl,e0.bare,Un.kept hk,⟨_,x.toInCall.ns,fun i y v h1 h2 h3=>?_⟩,fun y c h=>⟨_,x.cell y c h⟩,e0.bC.fresh (Nat.le_refl _),fun y c h=>?_,fun p hp=>absurd (show p∈([]:List (Addr×Obj)) from hp) (by simp),e0.bC.kept hk,?_⟩
  · exact name_of_addr x.apart (PySem.mem_of_lookup h1) (PySem.mem_of_lookup h2)
  · have hy:scope.names.lookup y=some .cell∨scope.names.lookup y=some .free:=hy
    rcases hy with hy | hy
    · exact yQ hy
    · exact absurd rfl (S.Kr _ (PySem.mem_of_lookup hy))
  · exact Nat.le_of_lt (x.above y c (PySem.mem_of_lookup h))
  · have hi:i < vs.length:=by
      unfold start at h2
      by_cases hi:i < vs.length
      · exact hi
      · rw [List.getElem?_append_right (by simpa using hi)] at h2
        rw [List.getElem?_replicate] at h2
        split at h2 <;> cases h2
    have ha:vs[i]?=some v:=by
      unfold start at h2
      rw [List.getElem?_append_left (by simpa using hi),List.getElem?_map] at h2
      cases e:vs[i]? with
      | none=>rw [e] at h2;cases h2
      | some a=>rw [e] at h2;cases h2;rfl
    obtain ⟨u,hu,rv⟩:=r.get ha
    have hp:ps[i]?=some y:=by
      rw [← S.pre,List.getElem?_take_of_lt (by omega)];exact h1
    have ndP:ps.Nodup:=by rw [← S.pre];exact S.nd.sublist (List.take_sublist _ _)
    refine ⟨u,rv,?_⟩
    rcases S.par y (List.mem_of_getElem? hp) with k | k
    · exact .inl ⟨k,uZ ndP hp hu k⟩
    · obtain ⟨c,e⟩:=yQ (n:=s.heap.objs.size + 1) k
      refine .inr ⟨.inl k,c,e,?_⟩
      have q:=x.cell y c e
      rw [u5 ndP hp hu (by show scope.names.lookup y≠_;rw [k];decide)] at q
      exact q
  · exact e0.bC.fresh (Nat.le_of_lt (x.above y c (PySem.mem_of_lookup h)))
  · unfold start
    show _=N.length
    rw [List.length_append,List.length_map,List.length_replicate]
    omega
theorem Bt {CX:uy} {P:Program} {w:World} {K:PySem.W.Frag} {mg:Str→Option Value} {base:Heap} {k:Nat} {f:Addr} {name qual:Str} {params:Arguments} {body:List Stmt} {scope:Scope} {dV kV doc pm cE ct oc:Value} {an od:Option Addr}
    {Co:Array (Option Value)} {N ps:List Str} {sp:Sp} (lk:K.lookup f=some ⟨oc,od,.func (PySem.W.fnOf name qual params body scope dV kV doc pm an cE ct),Co⟩) (yC:PySem.W.codeIn K cE qual=true) (S:aG N ps scope)
    (len:∀ vs H Q E,sp vs H Q E→vs.length=ps.length)
    (jH:∀ (A:Around) (outer:List Env) (s:Shared) (H:Hp) (vs:List V) (Q:VK) (E:XK),dJ k (A.deeper (envOfC qual scope s.heap.objs.size f cE))→sp vs H Q E→
      ∃ t,z8 (jw CX P w K mg base N qual scope f cE A outer s H E) body t∧t { nx:=fun _ H'=>Q .cG H',rt:=Q } (start N vs) H):
    aT P w K mg base CX (k + 1) f (PySem.W.fnOf name qual params body scope dV kV doc pm an cE ct) ps sp:=by
  refine ⟨len,fun A outer s H args us vs Q E hr e0 hb r Bu=>?_⟩
  have hl:=len _ _ _ _ Bu
  have KX:K.In s.heap:=e0.mod.Gd.keeps fun b o e=>(e0.bs b o e).1
  have lim:s.heap.NoLimit:=e0.mod.nolimit.keeps fun b o e=>(e0.bs b o e).1
  have MD:∀ y∈ps.zip us,scope.names.lookup y.1=some .local∨(scope.names.lookup y.1=some .cell∧((cellsFrom (s.heap.objs.size + 1) scope.names []).lookup y.1).isSome=true):=fun ⟨n,v⟩ hy=>by
    rcases S.par n (List.of_mem_zip hy).1 with q | q
    · exact .inl q
    · exact .inr ⟨q,PySem.W.cellsFrom_some _ _ _ (.inl q)⟩
  refine codeAny_call_function hr.depth (KX _ _ lk) rfl S.co S.gen rfl (PySem.W.codeRec_of KX yC) (hb _ _ _ _ ?_)
  refine wpAny_newFunctionEnv_cells S.kind MD fun env he s1 x=>?_
  subst he
  refine ⟨lim.keeps x.toInCall.keep,codeAny_func ?_⟩
  obtain ⟨t,ht,hq⟩:=jH A outer s H vs Q E (hr.deeper _) Bu
  have I:Inv (jw CX P w K mg base N qual scope f cE A outer s H E) [] (start N vs) H s1:=Cn S hr.hd e0 hl r x
  refine wpAny_mono (ht [] s1 (start N vs) H _ I hq) (fun fl s' hs=>?_) fun e s' hs=>hs
  have fin:∀ {σ':St} {H':Hp} {v:V} {u:Value},Inv (jw CX P w K mg base N qual scope f cE A outer s H E) [] σ' H' s'→RelV v u→Q v H'→CE outer P w H s Q u s':=
    fun {σ' H' v u} J rv q=>⟨v,H',J.os,J.bare,J.base,J.bC,rv,q⟩
  cases fl with
  | ret u=>
    obtain ⟨v,σ',H',J,rv,q⟩:=hs
    exact fin J rv q
  | next=>
    obtain ⟨σ',H',J,q⟩:=hs
    exact fin (v:=V.cG) (u:=Value.none) J rfl q
  | brk=>
    obtain ⟨_,_,_,q⟩:=hs
    exact False.elim q
  | cont=>
    obtain ⟨_,_,_,q⟩:=hs
    exact False.elim q
end L2
namespace L2
open PySem PySem.Spec PyProof.Rows
section
variable {X:Cx} {x:Str} {p pos:Pos} {e:Expr} {es:List Expr} {t:TA} {id T:String} {r:List V→Hp→VK→Prop}
def Gh (r:List V→Hp→VK→Prop) (t:TA):TE:=fun σ H Q=>t σ H fun vs H1=>r vs H1 Q
theorem DU (hc:cX X (.builtin id) r) (hg:Gl X x) (hm:X.mg x=none) (hv:bootBuiltins x=some (.builtin id)) (ha:PA X (e::es) t) (hn:x≠"__name__":=by decide) (qB:(x==("__debug__":Str))=false:=by decide)
    (he:starEach (e::es) X.env=(false,eval e X.env)::starEach es X.env:=by rfl) (qC:(backTo pos (starEach es X.env)).any (·.1)=false:=by rfl):PE X (.Call (.Name x p) (e::es) [] pos) (Gh r t):=by
  intro pins s σ H Q I h
  refine wpAny_Call_Name_kw (rR I hg hm hv ?_ hn qB)
  exact PyProof.Rows.callWith_builtin1 (bV (ha pos pins s σ H _ I h) fun us s1 ⟨vs,H1,I1,r1,q1⟩=>hc pins s1 σ H1 vs us Q I1 r1 q1) he qC
theorem Cp (hc:cX X (.type T) r) (hg:Gl X x) (hm:X.mg x=none) (hv:bootBuiltins x=some (.type T)) (ha:PA X (e::es) t) (hn:x≠"__name__":=by decide) (qB:(x==("__debug__":Str))=false:=by decide)
    (he:starEach (e::es) X.env=(false,eval e X.env)::starEach es X.env:=by rfl) (qC:(backTo pos (starEach es X.env)).any (·.1)=false:=by rfl):PE X (.Call (.Name x p) (e::es) [] pos) (Gh r t):=by
  intro pins s σ H Q I h
  refine wpAny_Call_Name_kw (rR I hg hm hv ?_ hn qB)
  exact PyProof.Rows.callWith_type1 (bV (ha pos pins s σ H _ I h) fun us s1 ⟨vs,H1,I1,r1,q1⟩=>hc pins s1 σ H1 vs us Q I1 r1 q1) he qC
end
end L2
namespace HT
open PySem PyProof.Rows
section
open PySem.SeqAt
open PySem.AutoSeq1 (wpAny_loadPart')
open PySem.MeetsSeq PySem.MeetsSeq2 PySem.MeetsSeq3
end
section
variable {prog:Program} {w:World} {A:Around} {E:Value→Shared→Prop} {s:Shared}
theorem GS {t b:Addr} {vs ws:List Value} {Q:Value→Shared→Prop} (ht:IsTup s.heap t vs.toArray) (hb:IsTup s.heap b ws.toArray) (hv:vs≠[])
    (h1:ws=[]→Q (.ref t) s) (h2:ws≠[]→Q (.ref s.heap.objs.size) { s with heap:=s.heap.push { cls:=.type "tuple",data:=.seq (vs++ws).toArray } })
    (hsz:vs.length + ws.length≤sizeLine):wpAny (model prog w) A (binaryOp .Add (.ref t) (.ref b)) Q E s:=by
  obtain ⟨⟨cls,dd,data,sl⟩,ho,hc,n,hd⟩:=id ht
  obtain ⟨⟨cls2,dd2,data2,LQ⟩,ho2,hc2,n2,hd2⟩:=id hb
  simp only at hc hd hc2 hd2
  subst hc hd hc2 hd2
  have e:vs.toArray++ws.toArray=(vs++ws).toArray:=by simp
  by_cases hw:ws=[]
  · exact concat_meets ⟨_,ho,rfl⟩ ⟨_,ho2,rfl⟩ noFill_tuple_add seq_tuple_add PySem.F.slot_tuple_add PySem.F.entry_tuple_add (PySem.F.args_tuple_add_2 _ _)
      (tuple_addW1 t b vs.toArray ws.toArray n n2 dd dd2 sl LQ (by simpa using hv) (by simp [hw])) ⟨ho,ho2,h1 hw⟩
  · refine concat_meets ⟨_,ho,rfl⟩ ⟨_,ho2,rfl⟩ noFill_tuple_add seq_tuple_add PySem.F.slot_tuple_add PySem.F.entry_tuple_add (PySem.F.args_tuple_add_2 _ _)
      (tuple_addW2 t b vs.toArray ws.toArray n n2 dd dd2 sl LQ (by simpa using hv) (by simpa using hw) (by rw [List.size_toArray,List.size_toArray];exact hsz)) ⟨ho,ho2,?_⟩
    rw [e]
    exact h2 hw
def iw (n d:Nat):Option Int→Nat
  | none=>d
  | some v=>if v < 0 then (v + (n:Int)).toNat else min v.toNat n
theorem Ks (n d:Nat) (hd:d≤n) (o:Option Int):iw n d o≤n:=by
  cases o with
  | none=>exact hd
  | some v=>
    show (if v < 0 then (v + (n:Int)).toNat else min v.toNat n)≤n
    by_cases hv:v < 0
    · rw [if_pos hv];omega
    · rw [if_neg hv];exact Nat.min_le_right _ _
theorem Bv (v:Int) (n d:Nat):(if v < 0 then max (v + (n:Int)) 0 else min v (n:Int))=((iw n d (some v):Nat):Int):=by
  show (if v < 0 then max (v + (n:Int)) 0 else min v (n:Int))=(((if v < 0 then (v + (n:Int)).toNat else min v.toNat n):Nat):Int)
  by_cases hv:v < 0
  · simp only [if_pos hv];omega
  · simp only [if_neg hv];omega
theorem An (lo hi:Option Int) (n:Nat):Builtin.Slice.sliceAdjust lo hi 1 (n:Int)=(((iw n 0 lo:Nat):Int),((iw n n hi:Nat):Int)):=by
  have h1:¬ ((1:Int) < 0):=by omega
  unfold Builtin.Slice.sliceAdjust
  simp only [h1,if_false]
  refine Prod.ext ?_ ?_
  · cases lo with
    | none=>rfl
    | some v=>exact Bv v n 0
  · cases hi with
    | none=>rfl
    | some v=>exact Bv v n n
theorem Ao (i j:Nat):Builtin.Slice.slicePlaces (i:Int) (j:Int) 1=j - i:=by
  unfold Builtin.Slice.slicePlaces
  have h1:(1:Int) > 0:=by omega
  simp only [h1,if_true,Int.ediv_one]
  split <;> omega
theorem sj {v:Value} {o:Option Int} {Q:Option Int→Shared→Prop} (p:IsPart v o) (h:Q o s):wpAny (model prog w) A (Builtin.Slice.slicePartIndex v) Q E s:=by
  cases p with
  | none=>exact slicePart_none h
  | int i t=>exact slicePart_int h
theorem jI {sl:Addr} {vl vu:Value} {lo hi:Option Int} {n:Nat} {Q:Int×Int×Nat→Shared→Prop} (hs:s.heap.IsSliceOf sl vl vu .none) (pl:IsPart vl lo) (pu:IsPart vu hi)
    (h:Q (((iw n 0 lo:Nat):Int),1,iw n n hi - iw n 0 lo) s):wpAny (model prog w) A (Builtin.Slice.sliceApplied (.ref sl) (pure (n:Int))) Q E s:=by
  obtain ⟨os,hos,hcs,Cq⟩:=id hs
  unfold Builtin.Slice.sliceApplied Builtin.Slice.sliceFields
  refine wpAny_bind (wpAny_bind (wpAny_field hos Cq (x:=vl) rfl (wpAny_bind (wpAny_field hos Cq (x:=vu) rfl (wpAny_bind (wpAny_field hos Cq (x:=.none) rfl (wpAny_pure ?_)))))))
  refine wpAny_bind (slicePart_none ?_)
  show wpAny _ _ (if ((1:Int)==0)=true then _ else _) _ _ s
  rw [if_neg (by decide)]
  refine wpAny_bind (sj pl (wpAny_bind (sj pu (wpAny_bind (wpAny_pure ?_)))))
  show wpAny _ _ (match Builtin.Slice.sliceAdjust lo hi 1 (n:Int) with | (lo,hi)=>pure (lo,(1:Int),Builtin.Slice.slicePlaces lo hi 1)) _ _ s
  rw [An lo hi n]
  show wpAny _ _ (pure (((iw n 0 lo:Nat):Int),(1:Int),Builtin.Slice.slicePlaces ((iw n 0 lo:Nat):Int) ((iw n n hi:Nat):Int) 1)) _ _ s
  rw [Ao]
  exact wpAny_pure h
theorem DV (xs:Array Value) (i k:Nat):((List.range k).filterMap fun (m:Nat)=>xs[((i:Int) + (m:Int) * 1).toNat]?).toArray=((xs.toList.drop i).take k).toArray:=by
  have e:(fun (m:Nat)=>xs[((i:Int) + (m:Int) * 1).toNat]?)=fun m=>xs[i + m]?:=by
    funext m
    have:((i:Int) + (m:Int) * 1).toNat=i + m:=by omega
    rw [this]
  rw [e]
  have:=pick_run xs i k
  rw [List.filterMap_map] at this
  have e2:((fun x=>xs[x]?) ∘ fun x=>i + x)=fun m=>xs[i + m]?:=rfl
  rw [e2] at this
  rw [this]
theorem ow {t sl:Addr} {items:Array Value} {vl vu:Value} {lo hi:Option Int} {Q:Value→Shared→Prop} (ht:IsTup s.heap t items) (hs:s.heap.IsSliceOf sl vl vu .none) (pl:IsPart vl lo) (pu:IsPart vu hi)
    (hw:¬ (iw items.size 0 lo=0∧iw items.size items.size hi=items.size))
    (h:Q (.ref s.heap.objs.size) { s with heap:=s.heap.push { cls:=.type "tuple",data:=.seq ((items.toList.drop (iw items.size 0 lo)).take (iw items.size items.size hi - iw items.size 0 lo)).toArray } })
    (hsz:items.size≤sizeLine):wpAny (model prog w) A (getItem (.ref t) (.ref sl)) Q E s:=by
  have Bw:sizeOk (.seq ((items.toList.drop (iw items.size 0 lo)).take (iw items.size items.size hi - iw items.size 0 lo)).toArray):=by
    show ((items.toList.drop (iw items.size 0 lo)).take (iw items.size items.size hi - iw items.size 0 lo)).toArray.size≤sizeLine
    rw [List.size_toArray,List.length_take,List.length_drop,Array.length_toList]
    omega
  have hj:iw items.size items.size hi≤items.size:=Ks _ _ (Nat.le_refl _) hi
  obtain ⟨os,hos,hcs,Cq⟩:=id hs
  have Rx:s.TypeIs (.ref sl) "slice":=⟨os,hos,hcs⟩
  unfold getItem
  try with_reducible refine wpAny_holding ?_
  first | refine wpAny_bind (wpAny_pure ?_) | skip
  refine wpAny_bind (wpAny_sequenceKey ht.typeIs (by decide) ?_)
  refine wpAny_bind (wpAny_callSpecial?_slot (name:=Str.ofString "__getitem__") ht.typeIs PyProof.Rows.slot_tuple_getitem
    (wpAny_call_entry PyProof.Rows.slot_tuple_getitem ht.typeIs entry_tuple_getitem ?_ (args_tuple_getitem _ _)))
  show wpAny _ _ (Builtin.Tuple.tupleItemsOf (.ref t) >>=_) _ _ s
  refine wpAny_bind (tupleItemsOf_ ht ?_)
  refine wpAny_bind (wpAny_typeOf Rx ?_)
  rw [if_pos (by decide)]
  refine wpAny_bind (jI hs pl pu ?_)
  have hno:¬ ((((iw items.size 0 lo:Nat):Int)==0&&(1:Int)==1&&(iw items.size items.size hi - iw items.size 0 lo)==items.size)=true):=by
    intro q
    rw [Bool.and_eq_true,Bool.and_eq_true] at q
    have q1:((iw items.size 0 lo:Nat):Int)=0:=eq_of_beq q.1.1
    have q2:iw items.size items.size hi - iw items.size 0 lo=items.size:=eq_of_beq q.2
    exact hw ⟨by omega,by omega⟩
  show wpAny _ _ (if (((iw items.size 0 lo:Nat):Int)==0&&(1:Int)==1&&(iw items.size items.size hi - iw items.size 0 lo)==items.size)=true then _ else _) _ _ s
  rw [if_neg hno,DV]
  first
    | exact wpAny_bind (m:=Builtin.Tuple.tupleExact _) (wpAny_newObj_type (wpAny_pure ⟨_,rfl,wpAny_pure h⟩) Bw)
    | exact wpAny_bind (m:=Builtin.Tuple.tupleExact _) (wpAny_newObj_type (wpAny_bind (wpAny_pure (wpAny_pure ⟨_,rfl,wpAny_pure h⟩))) Bw)
    | exact wpAny_bind (wpAny_bind (m:=Builtin.Tuple.tupleExact _) (wpAny_newObj_type (wpAny_pure (wpAny_pure ⟨_,rfl,wpAny_pure h⟩)) Bw))
    | exact wpAny_bind (wpAny_bind (m:=Builtin.Tuple.tupleExact _) (wpAny_newObj_type (wpAny_pure ⟨_,rfl,wpAny_pure h⟩) Bw))
end
end HT
namespace L2
open PySem PySem.Spec PyProof.Rows
abbrev TO:=St→Hp→(Option Int→Hp→Prop)→Prop
def PO (X:Cx) (e:Option Expr) (t:TO):Prop:=
  ∀ (pins:List (Addr×Obj)) (s:Shared) (σ:St) (H:Hp) (Q:Option Int→Hp→Prop),Inv X pins σ H s→t σ H Q→
    wpAny (model X.prog X.w) X.A (evalPart e X.env) (fun u s'=>∃ o H',Inv X pins σ H' s'∧IsPart u o∧Q o H') X.xe s
def ji:TO:=fun _ H Q=>Q none H
def qD (t:TE):TO:=fun σ H Q=>t σ H fun x H1=>∃ i,x=.int i∧Q (some i) H1
section
variable {X:Cx} {e:Expr} {te:TE} {lo hi:Option Expr} {tl th:TO} {pos p2:Pos}
theorem GU:PO X none ji:=by
  intro pins s σ H Q I h
  rw [evalPart_none]
  exact wpAny_pure ⟨none,H,I,.none,h⟩
theorem GV (h:PE X e te):PO X (some e) (qD te):=by
  intro pins s σ H Q I hw
  rw [evalPart_some]
  refine bV (h pins s σ H _ I hw) fun u s1 ⟨x,H1,I1,r1,q1⟩=>?_
  obtain ⟨i,rfl,q⟩:=q1
  obtain ⟨t,rfl⟩:=r1
  exact ⟨some i,H1,I1,.int i t,q⟩
def Gi (X:Cx) (r:V→Option Int→Option Int→Hp→VK→Prop):Prop:=
  ∀ (pins:List (Addr×Obj)) (s:Shared) (σ:St) (H:Hp) (x:V) (v vl vu:Value) (lo hi:Option Int) (sl:Addr) (Q:VK),Inv X pins σ H s→RelV x v→s.heap.IsSliceOf sl vl vu .none→IsPart vl lo→IsPart vu hi→r x lo hi H Q→
    ∃ T id,typeLookup (.type T) "__getitem__"=pure (some (.builtin id))∧s.TypeIs v T∧wpAny (model X.prog X.w) X.A (getItem v (.ref sl)) (EP X pins σ Q) X.xe s
theorem Gi.or {r r':V→Option Int→Option Int→Hp→VK→Prop} (h:Gi X r) (h':Gi X r'):Gi X (fun x lo hi H Q=>r x lo hi H Q∨r' x lo hi H Q):=by
  intro pins s σ H x v vl vu lo hi sl Q I rx hs pl pu q
  rcases q with q | q
  · exact h pins s σ H x v vl vu lo hi sl Q I rx hs pl pu q
  · exact h' pins s σ H x v vl vu lo hi sl Q I rx hs pl pu q
def IP (r:V→Option Int→Option Int→Hp→VK→Prop) (te:TE) (tl th:TO):TE:=fun σ H Q=>te σ H fun x H1=>tl σ H1 fun l H2=>th σ H2 fun u H3=>r x l u H3 Q
theorem DW {r:V→Option Int→Option Int→Hp→VK→Prop} (hr:Gi X r) (he:PE X e te) (hl:PO X lo tl) (hu:PO X hi th):PE X (.Subscript e (.Slice lo hi none p2) pos) (IP r te tl th):=by
  intro pins s σ H Q I h
  refine Subscript_ (bV (he pins s σ H _ I h) fun v s1 ⟨x,H1,I1,r1,q1⟩=>?_)
  refine wpAny_Slice (bV (hl pins s1 σ H1 _ I1 q1) fun vl s2 ⟨l,H2,I2,pl,q2⟩=>bV (hu pins s2 σ H2 _ I2 q2) fun vu s3 ⟨u,H3,I3,pu,q3⟩=>?_)
  rw [evalPart_none]
  refine wpAny_pure ?_
  have I4:Inv X pins σ H3 { s3 with heap:=s3.heap.push { cls:=.type "slice",data:=.fields #[vl,vu,.none] } }:=I3.kept (t':=s3.toks) fun b ob q=>Heap.get?_push_of_some _ q
  obtain ⟨T,id,hT,ht,hg⟩:=hr pins { s3 with heap:=s3.heap.push { cls:=.type "slice",data:=.fields #[vl,vu,.none] } } σ H3 x v vl vu l u s3.heap.objs.size Q I4 r1 (Heap.IsSliceOf.new ..) pl pu q3
  show wpAny (model X.prog X.w) X.A (subscriptTail e (.Slice lo hi none p2) v (.ref s3.heap.objs.size)) (EP X pins σ Q) X.xe { s3 with heap:=s3.heap.push { cls:=.type "slice",data:=.fields #[vl,vu,.none] } }
  exact tail_any (ops:=[.ref s3.heap.objs.size,v]) ht hT hg (by with_unfolding_all rfl)
def sq (xs:List V) (lo hi:Option Int):List V:=(xs.drop (HT.iw xs.length 0 lo)).take (HT.iw xs.length xs.length hi - HT.iw xs.length 0 lo)
theorem yU (xs:List V) (lo hi:Option Int):(sq xs lo hi).length≤xs.length:=by
  unfold sq
  rw [List.length_take,List.length_drop]
  omega
def Ry (K:PySem.W.Frag):V→Option Int→Option Int→Hp→VK→Prop:=fun x lo hi H Q=>∃ a xs,x=.ref a∧j0 K H a xs∧
  ¬ (HT.iw xs.length 0 lo=0∧HT.iw xs.length xs.length hi=xs.length)∧∀ p,H p=none→Q (.ref p) (upd H p (.tup (sq xs lo hi)))
theorem Ku:Gi X (Ry X.K):=by
  intro pins s σ H x v vl vu lo hi sl Q I rx hs pl pu h
  obtain ⟨a,xs,rfl,hx,hw,q⟩:=h
  cases rx
  obtain ⟨aY,r,ht,hz⟩:=I.tuple hx
  have hlen:aY.toArray.size=xs.length:=by rw [List.size_toArray];exact r.length.symm
  refine ⟨"tuple",_,PyProof.Rows.slot_tuple_getitem.lookup,ht.typeIs,?_⟩
  refine HT.ow ht hs pl pu (by rw [hlen];exact hw) ?_ (by rw [hlen];exact hz)
  rw [hlen]
  refine ⟨.ref s.heap.objs.size,_,I.laid (t':=s.toks) (o:=.tup (sq xs lo hi)) (fun b ob q=>Heap.get?_push_of_some _ q) (Nat.le_refl _) ?_,rfl,q _ (I.bC.fresh (Nat.le_refl _))⟩
  exact ⟨Nat.le_trans (yU xs lo hi) hz,_,(r.drop (HT.iw xs.length 0 lo)).take (HT.iw xs.length xs.length hi - HT.iw xs.length 0 lo),IsTup.new _ _⟩
def ME (K:PySem.W.Frag):R2:=fun x y H Q=>∃ a b xs ys,x=.ref a∧y=.ref b∧j0 K H a xs∧j0 K H b ys∧xs≠[]∧xs.length + ys.length≤sizeLine∧
  (ys=[]→Q (.ref a) H)∧(ys≠[]→∀ p,H p=none→Q (.ref p) (upd H p (.tup (xs++ys))))
theorem Vals.vW {xs:List V} {us:List Value} (r:Vals xs us):us=[]↔xs=[]:=by
  cases r with
  | nil=>simp
  | cons _ _=>simp
theorem GW:jE X (binaryOp .Add) (ME X.K):=by
  intro pins s σ H x y v u Q I rx ry h
  obtain ⟨a,b,xs,ys,rfl,rfl,ha,hb,hx,hz,q1,q2⟩:=h
  cases rx
  cases ry
  obtain ⟨aY,r1,p1,_⟩:=I.tuple ha
  obtain ⟨its2,r2,p2,_⟩:=I.tuple hb
  refine HT.GS p1 p2 (fun z=>hx (r1.vW.mp z)) (fun z=>⟨.ref a,H,I,rfl,q1 (r2.vW.mp z)⟩) (fun z=>?_) (by rw [← r1.length,← r2.length];exact hz)
  refine ⟨.ref s.heap.objs.size,_,I.laid (t':=s.toks) (o:=.tup (xs++ys)) (fun b ob q=>Heap.get?_push_of_some _ q) (Nat.le_refl _) ?_,rfl,q2 (fun w=>z (r2.vW.mpr w)) _ (I.bC.fresh (Nat.le_refl _))⟩
  exact ⟨by rw [List.length_append];exact hz,_,r1.append r2,IsTup.new _ _⟩
end
end L2
namespace L2
open PySem PySem.Spec PyProof.Rows
def Cr (n:Nat) (i:Int):Option Nat:=if 0≤i then (if i < n then some i.toNat else none) else if -(n:Int)≤i then some (i + n).toNat else none
def yV {α:Type} (xs:List α) (i:Int):Option α:=(Cr xs.length i).bind fun j=>xs[j]?
theorem Bx {n:Nat} {i:Int} {j:Nat} (h:Cr n i=some j):seqIndex? i n=some j∧j < n∧-(n:Int)≤i∧i < n:=by
  unfold Cr at h
  by_cases h0:0≤i
  · rw [if_pos h0] at h
    by_cases h1:i < n
    · rw [if_pos h1] at h
      have e:i.toNat=j:=Option.some.inj h
      exact ⟨by rw [seqIndex_of h0 h1,e],by omega,by omega,h1⟩
    · rw [if_neg h1] at h;cases h
  · rw [if_neg h0] at h
    by_cases h1:-(n:Int)≤i
    · rw [if_pos h1] at h
      have e:(i + n).toNat=j:=Option.some.inj h
      exact ⟨by rw [seqIndex_neg (by omega) h1,e],by omega,h1,by omega⟩
    · rw [if_neg h1] at h;cases h
theorem By {α:Type} {xs:List α} {i:Int} {v:α} (h:yV xs i=some v):∃ j,seqIndex? i xs.length=some j∧xs[j]?=some v∧j < xs.length∧-(xs.length:Int)≤i∧i < xs.length:=by
  unfold yV at h
  cases e:Cr xs.length i with
  | none=>rw [e] at h;cases h
  | some j=>
    rw [e] at h
    obtain ⟨h1,h2,h3,h4⟩:=Bx e
    exact ⟨j,h1,h,h2,h3,h4⟩
theorem oz {α:Type} {xs:List α} {j:Nat} {v:α} (h:xs[j]?=some v):yV xs (j:Int)=some v:=by
  have hj:j < xs.length:=(List.getElem?_eq_some_iff.mp h).1
  have e:Cr xs.length (j:Int)=some j:=by
    unfold Cr
    rw [if_pos (by omega),if_pos (by omega)];simp
  unfold yV;rw [e];exact h
def BA (b:Expr):Prop:=∀ o i,subscripted b false o i=operate [o,i] (getItem o i)
def Gj (X:Cx) (r:R2):Prop:=
  ∀ (value slice:Expr) (pins:List (Addr×Obj)) (s:Shared) (σ:St) (H:Hp) (x y:V) (v u:Value) (Q:VK),Inv X pins σ H s→RelV x v→RelV y u→r x y H Q→
    subscripted slice false v u=operate [v,u] (getItem v u)→wpAny (model X.prog X.w) X.A (subscriptTail value slice v u) (EP X pins σ Q) X.xe s
def GX (X:Cx) (id:String) (r:V→List V→Hp→VK→Prop):Prop:=
  ∀ (pins:List (Addr×Obj)) (s:Shared) (σ:St) (H:Hp) (x:V) (xs:List V) (v:Value) (us:List Value) (Q:VK),Inv X pins σ H s→RelV x v→Vals xs us→r x xs H Q→
    wpAny (model X.prog X.w) X.A (call (.builtin id) (v::us)) (EP X pins σ Q) X.xe s
section
variable {X:Cx} {a b:Expr} {ta tb:TE} {pos:Pos}
theorem Gj.or {r r':R2} (h:Gj X r) (h':Gj X r'):Gj X (fun x y H Q=>r x y H Q∨r' x y H Q):=by
  intro value slice pins s σ H x y v u Q I rx ry q hs
  rcases q with q | q
  · exact h value slice pins s σ H x y v u Q I rx ry q hs
  · exact h' value slice pins s σ H x y v u Q I rx ry q hs
theorem GX.or {id:String} {r r':V→List V→Hp→VK→Prop} (h:GX X id r) (h':GX X id r'):GX X id (fun x xs H Q=>r x xs H Q∨r' x xs H Q):=by
  intro pins s σ H x xs v us Q I rx rs q
  rcases q with q | q
  · exact h pins s σ H x xs v us Q I rx rs q
  · exact h' pins s σ H x xs v us Q I rx rs q
theorem MF {r:R2} (hr:Gj X r) (ha:PE X a ta) (hb:PE X b tb) (hs:BA b):PE X (.Subscript a b pos) (Bm r ta tb):=by
  intro pins s σ H Q I h
  exact Subscript_ (JZ ha hb I h fun v u s2 x y H2 I2 rx ry q=>hr a b pins s2 σ H2 x y v u Q I2 rx ry q (hs _ _))
def MG (K:PySem.W.Frag):R2:=fun x y H Q=>∃ p xs i v,x=.ref p∧y=.int i∧cz K H p xs∧yV xs i=some v∧Q v H
def Rz (K:PySem.W.Frag):R2:=fun x y H Q=>∃ p xs i v,x=.ref p∧y=.int i∧j0 K H p xs∧yV xs i=some v∧Q v H
def Cs:R2:=fun x y H Q=>∃ z i c,x=.str z∧y=.int i∧z.length≤sizeLine∧yV z.cps.toList i=some c∧Q (.str ⟨#[c]⟩) H
theorem BB:Gj X (MG X.K):=by
  intro value slice pins s σ H x y v u Q I rx ry h hs
  obtain ⟨p,xs,i,z,rfl,rfl,hq,he,q⟩:=h
  cases rx
  obtain ⟨t,rfl⟩:=ry
  obtain ⟨aY,r,pl,hz⟩:=I.list hq
  obtain ⟨j,h1,h2,h3,h4,h5⟩:=By he
  obtain ⟨w,ew,rw'⟩:=r.get h2
  have hl:=r.length
  have hn:=pK
  have fin:EP X pins σ Q w s:=⟨z,H,I,rw',q⟩
  by_cases h0:0≤i
  · have hj:i.toNat=j:=by
      rw [seqIndex_of h0 h5] at h1
      exact Option.some.inj h1
    exact item_listR pl.isList h0 (by omega) (by rw [hj];simpa using ew) fin hs
  · have hj:(i + (aY.toArray.size:Int)).toNat=j:=by
      rw [seqIndex_neg (by omega) h4] at h1
      rw [List.size_toArray,← hl]
      exact Option.some.inj h1
    exact subscriptTail_builtinR (x:=w) pl.isList.typeIs slot_list_getitem.lookup
      (wpAny_getItem_list_neg (Q:=fun r s'=>r=w∧EP X pins σ Q r s') pl.isList (by omega) (by rw [List.size_toArray] <;> omega) (by omega) (by rw [hj];simpa using ew) ⟨rfl,fin⟩) hs
theorem Kv:Gj X (Rz X.K):=by
  intro value slice pins s σ H x y v u Q I rx ry h hs
  obtain ⟨p,xs,i,z,rfl,rfl,hq,he,q⟩:=h
  cases rx
  obtain ⟨t,rfl⟩:=ry
  obtain ⟨aY,r,pl,hz⟩:=I.tuple hq
  obtain ⟨j,h1,h2,h3,h4,h5⟩:=By he
  obtain ⟨w,ew,rw'⟩:=r.get h2
  have hl:=r.length
  have hn:=pK
  have fin:EP X pins σ Q w s:=⟨z,H,I,rw',q⟩
  exact subscriptTail_builtinR (x:=w) pl.typeIs slot_tuple_getitem.lookup
    (getItem_tuple (j:=j) (Q:=fun r s'=>r=w∧EP X pins σ Q r s') pl (by omega) (by omega) (by rw [List.size_toArray,← hl];exact h1) (by simpa using ew) ⟨rfl,fin⟩) hs
theorem Aq (aY:List Value) (n j:Nat) (u:Value):Obj.mapSeq (·.setIfInBounds j u) { cls:=.type "list",data:=.seq aY.toArray n }={ cls:=.type "list",data:=.seq (aY.set j u).toArray n }:=by
  simp [Obj.mapSeq]
theorem Inv.lst {pins:List (Addr×Obj)} {σ:St} {H:Hp} {s:Shared} {p:Addr} {xs:List V} (I:Inv X pins σ H s) (h:H p=some (.lst xs)):
    ∃ (aY:List Value) (n:Nat),Vals xs aY∧s.heap.get? p=some { cls:=.type "list",data:=.seq aY.toArray n }∧xs.length≤sizeLine:=by
  obtain ⟨z,aY,n,r,e⟩:=I.bC p _ h
  exact ⟨aY,n,r,e,z⟩
theorem Inv.Kw {pins:List (Addr×Obj)} {σ:St} {H:Hp} {s:Shared} {p:Addr} {xs ys:List V} {aY its':List Value} {n n':Nat} {f:Obj→Obj} (I:Inv X pins σ H s) (h:H p=some (.lst xs))
    (ho:s.heap.get? p=some { cls:=.type "list",data:=.seq aY.toArray n }) (hf:f { cls:=.type "list",data:=.seq aY.toArray n }={ cls:=.type "list",data:=.seq its'.toArray n' }) (r:Vals ys its') (hz:ys.length≤sizeLine) (t:Nat):
    Inv X pins σ (upd H p (.lst ys)) { s with heap:=s.heap.update p f,toks:=t }:=by
  have e:(s.heap.update p f).get? p=some { cls:=.type "list",data:=.seq its'.toArray n' }:=by
    rw [Heap.get?_update_self f ho (by rw [hf] <;> rfl),hf]
  refine I.write (x:=p) (e:=p) (by rw [h];trivial) (.inl rfl) (fun b u hb q=>(Heap.get?_update_other _ _ (Ne.symm hb)).trans q) ⟨_,e⟩ ?_
  exact ⟨hz,its',n',r,e⟩
def sr:V→V→V→Hp→(Hp→Prop)→Prop:=fun o i v H Q=>∃ p xs k j,o=.ref p∧i=.int k∧H p=some (.lst xs)∧Cr xs.length k=some j∧Q (upd H p (.lst (xs.set j v)))
theorem set_list:JJ X sr:=by
  intro pins s σ H o i v ov iv u Q I ro ri rv h
  obtain ⟨p,xs,k,j,rfl,rfl,hp,hj,q⟩:=h
  cases ro
  obtain ⟨t,rfl⟩:=ri
  obtain ⟨aY,n,r,ho,hz⟩:=I.lst hp
  obtain ⟨h1,h2,h3,h4⟩:=Bx hj
  have hl:=r.length
  have hn:=pK
  have I':Inv X pins σ (upd H p (.lst (xs.set j v))) { s with heap:=s.heap.update p (Obj.mapSeq (·.setIfInBounds j u)) }:=
    I.Kw hp ho (Aq aY n j u) (r.set rv j) (by rw [List.length_set];exact hz) s.toks
  by_cases h0:0≤k
  · have hk:k.toNat=j:=by
      rw [seqIndex_of h0 h4] at h1
      exact Option.some.inj h1
    exact PySem.W.ki_setAt ho h0 (by omega) (by rw [List.size_toArray,← hl];exact h4) (by rw [hk];exact ⟨_,I',q⟩)
  · have hk:(k + (aY.toArray.size:Int)).toNat=j:=by
      rw [seqIndex_neg (by omega) h3] at h1
      rw [List.size_toArray,← hl]
      exact Option.some.inj h1
    exact PySem.W.ki_setBack ho (by omega) (by rw [List.size_toArray,← hl];exact h3) (by omega) (by rw [hk];exact ⟨_,I',q⟩)
def m7:V→Bool
  | .cG=>true
  | .bl _=>true
  | .int _=>true
  | .str _=>true
  | _=>false
def IQ:V→V→Bool
  | .cG,.cG=>true
  | .bl a,.bl b=>a==b
  | .bl a,.int b=>(if a then 1 else 0)==b
  | .int a,.bl b=>a==(if b then 1 else 0)
  | .int a,.int b=>a==b
  | .str a,.str b=>a==b
  | _,_=>false
theorem Ky {A:Around} {s:Shared} {y x:V} {u v:Value} (ry:RelV y u) (rx:RelV x v) (fy:m7 y=true) (fx:m7 x=true):SeqAt.EqAt A s u v (IQ y x):=by
  cases y with
  | cG=>
    cases ry
    cases x with
    | cG=>cases rx;exact SeqAt.EqAt.same _
    | bl b=>cases rx;exact SeqAt.EqAt.none_bool b
    | int b=>obtain ⟨t,rfl⟩:=rx;exact SeqAt.EqAt.none_int b t
    | str b=>obtain ⟨t,rfl⟩:=rx;exact SeqAt.EqAt.none_str b t
    | _=>exact absurd (show false=true from fx) Bool.false_ne_true
  | bl a=>
    cases ry
    cases x with
    | cG=>cases rx;exact SeqAt.EqAt.bool_none a
    | bl b=>cases rx;exact SeqAt.EqAt.bool_bool a b
    | int b=>obtain ⟨t,rfl⟩:=rx;exact SeqAt.EqAt.bool_int a b t
    | str b=>obtain ⟨t,rfl⟩:=rx;exact SeqAt.EqAt.bool_str a b t
    | _=>exact absurd (show false=true from fx) Bool.false_ne_true
  | int a=>
    obtain ⟨t',rfl⟩:=ry
    cases x with
    | cG=>cases rx;exact SeqAt.EqAt.int_none a t'
    | bl b=>cases rx;exact SeqAt.EqAt.int_bool a t' b
    | int b=>obtain ⟨t,rfl⟩:=rx;exact SeqAt.EqAt.int_int a t' b t
    | str b=>obtain ⟨t,rfl⟩:=rx;exact SeqAt.EqAt.int_str a t' b t
    | _=>exact absurd (show false=true from fx) Bool.false_ne_true
  | str a=>
    obtain ⟨t',rfl⟩:=ry
    cases x with
    | cG=>cases rx;exact SeqAt.EqAt.str_none a t'
    | bl b=>cases rx;exact SeqAt.EqAt.str_bool a t' b
    | int b=>obtain ⟨t,rfl⟩:=rx;exact SeqAt.EqAt.str_int a t' b t
    | str b=>obtain ⟨t,rfl⟩:=rx;exact SeqAt.EqAt.str_str a t' b t
    | _=>exact absurd (show false=true from fx) Bool.false_ne_true
  | _=>exact absurd (show false=true from fy) Bool.false_ne_true
def GY (x:V) (u:Value):Bool:=match u with
  | .none=>IQ .cG x
  | .bool b=>IQ (.bl b) x
  | .int i _=>IQ (.int i) x
  | .str z _=>IQ (.str z) x
  | _=>false
theorem DX {x y:V} {u:Value} (r:RelV y u) (f:m7 y=true):GY x u=IQ y x:=by
  cases y with
  | cG=>cases r;rfl
  | bl b=>cases r;rfl
  | int i=>obtain ⟨t,rfl⟩:=r;rfl
  | str z=>obtain ⟨t,rfl⟩:=r;rfl
  | _=>exact absurd (show false=true from f) Bool.false_ne_true
theorem vX {x:V}:∀ {xs:List V} {us:List Value},Vals xs us→xs.all m7=true→us.any (GY x)=xs.any fun y=>IQ y x
  | _,_,.nil,_=>rfl
  | y::xs,u::us,.cons r t,f=>by
    rw [List.all_cons,Bool.and_eq_true] at f
    rw [List.any_cons,List.any_cons,DX r f.1,vX t f.2]
theorem su {A:Around} {s:Shared} {x:V} {v:Value} (rx:RelV x v) (fx:m7 x=true):∀ {xs:List V} {us:List Value},Vals xs us→xs.all m7=true→∀ u∈us,SeqAt.EqAt A s u v (GY x u)
  | _,_,.nil,_=>fun u hu=>by cases hu
  | y::xs,u::us,.cons r t,f=>fun u' hu=>by
    rw [List.all_cons,Bool.and_eq_true] at f
    rcases List.mem_cons.mp hu with rfl | hu
    · rw [DX r f.1];exact Ky r rx f.1 fx
    · exact su rx fx t f.2 u' hu
def Kz (x:V) (xs:List V):Bool:=xs.any fun y=>IQ y x
def rIn (K:PySem.W.Frag) (neg:Bool):R2:=fun x y H Q=>∃ p xs,y=.ref p∧(cz K H p xs∨j0 K H p xs)∧m7 x=true∧xs.all m7=true∧Q (.bl (if neg then !Kz x xs else Kz x xs)) H
theorem Ct:jE X (compareOp .In) (rIn X.K false):=by
  intro pins s σ H x y v u Q I rx ry h
  obtain ⟨p,xs,rfl,hq,fx,fs,q⟩:=h
  cases ry
  rcases hq with hq | hq
  · obtain ⟨aY,r,pl,hz⟩:=I.list hq
    refine SeqAt.in_listAt (GY x) pl.isList (fun w hw=>su rx fx r fs w (by simpa using hw)) ⟨.bl _,H,I,rfl,?_⟩
    rw [show aY.toArray.any (GY x)=aY.any (GY x) by simp,vX r fs]
    exact q
  · obtain ⟨aY,r,pl,hz⟩:=I.tuple hq
    refine SeqAt.in_tupleAt (GY x) pl (fun w hw=>su rx fx r fs w (by simpa using hw)) ⟨.bl _,H,I,rfl,?_⟩
    rw [show aY.toArray.any (GY x)=aY.any (GY x) by simp,vX r fs]
    exact q
theorem oA:cX X (.builtin "len") (fun xs H Q=>∃ p ys,xs=[.ref p]∧(cz X.K H p ys∨j0 X.K H p ys)∧Q (.int ys.length) H):=by
  intro pins s σ H xs us Q I r h
  obtain ⟨p,ys,rfl,hq,q⟩:=h
  obtain ⟨u,rfl,rx⟩:=vals1 r
  cases rx
  have hn:=pK
  rcases hq with hq | hq
  · obtain ⟨aY,r',pl,hz⟩:=I.list hq
    have hlen:=r'.length
    exact Calls.call_len_list pl.isList (by simp only [List.size_toArray] <;> omega) ⟨.int ys.length,H,I.tok _,⟨s.toks + 1,by rw [List.size_toArray,hlen]⟩,q⟩
  · obtain ⟨aY,r',pl,hz⟩:=I.tuple hq
    have hlen:=r'.length
    exact len_tuple pl (by simp only [List.size_toArray] <;> omega) ⟨.int ys.length,H,I.tok _,⟨s.toks + 1,by rw [List.size_toArray,hlen]⟩,q⟩
theorem oB:cX X (.builtin "len") (fun xs H Q=>∃ z,xs=[.str z]∧z.length≤sizeLine∧Q (.int z.length) H):=by
  intro pins s σ H xs us Q I r h
  obtain ⟨z,rfl,hz,q⟩:=h
  obtain ⟨u,rfl,t,rfl⟩:=vals1 r
  have hn:=pK
  exact len_str (by omega) ⟨.int z.length,H,I.tok _,⟨_,rfl⟩,q⟩
theorem cX.or {f:Value} {r r':List V→Hp→VK→Prop} (h:cX X f r) (h':cX X f r'):cX X f (fun xs H Q=>r xs H Q∨r' xs H Q):=by
  intro pins s σ H xs us Q I rs q
  rcases q with q | q
  · exact h pins s σ H xs us Q I rs q
  · exact h' pins s σ H xs us Q I rs q
theorem vY:cX X (.type "list") (fun xs H Q=>∃ p ys,xs=[.ref p]∧(cz X.K H p ys∨j0 X.K H p ys)∧∀ l,H l=none→Q (.ref l) (upd H l (.lst ys))):=by
  intro pins s σ H xs us Q I r h
  obtain ⟨p,ys,rfl,hq,q⟩:=h
  obtain ⟨u,rfl,rx⟩:=vals1 r
  cases rx
  have fin:∀ (aY:List Value),Vals ys aY→ys.length≤sizeLine→∀ (h':Heap) (c':Nat),(∀ b o',s.heap.get? b=some o'→h'.get? b=some o')→
      h'.get? s.heap.objs.size=some { cls:=.type "list",dict:=none,data:=.seq aY.toArray c',slots:=#[] }→EP X pins σ Q (.ref s.heap.objs.size) { s with heap:=h' }:=fun aY r' hz h' c' kp e=>
    ⟨.ref s.heap.objs.size,_,I.laid (t':=s.toks) kp (Nat.le_refl _) (show cg X.prog X.w _ h' _ (.lst ys) from ⟨hz,aY,c',r',e⟩),rfl,q _ (I.bC.fresh (Nat.le_refl _))⟩
  rcases hq with hq | hq
  · obtain ⟨aY,r',pl,hz⟩:=I.list hq
    have hlen:=r'.length
    obtain ⟨o,ho,hc,n,hd⟩:=pl.isList
    exact call_list_seq p (.inl rfl) ho hc hd (fun h' c' kp e=>fin aY r' hz h' c' kp e) (by simp only [List.size_toArray] <;> omega)
  · obtain ⟨aY,r',pl,hz⟩:=I.tuple hq
    have hlen:=r'.length
    obtain ⟨o,ho,hc,n,hd⟩:=pl
    exact call_list_seq p (.inr rfl) ho hc hd (fun h' c' kp e=>fin aY r' hz h' c' kp e) (by simp only [List.size_toArray] <;> omega)
theorem uA:cX X (.type "tuple") (fun xs H Q=>∃ p ys,xs=[.ref p]∧((cz X.K H p ys∧∀ l,H l=none→Q (.ref l) (upd H l (.tup ys)))∨(j0 X.K H p ys∧Q (.ref p) H))):=by
  intro pins s σ H xs us Q I r h
  obtain ⟨p,ys,rfl,h⟩:=h
  obtain ⟨u,rfl,rx⟩:=vals1 r
  cases rx
  rcases h with ⟨hq,q⟩ | ⟨hq,q⟩
  · obtain ⟨aY,r',pl,hz⟩:=I.list hq
    have hlen:=r'.length
    refine call_tuple_list pl.isList (fun h' kp=>?_) (by simp only [List.size_toArray] <;> omega)
    have I1:Inv X pins σ H { s with heap:=h' }:=I.kept (t':=s.toks) kp
    have I2:Inv X pins σ (upd H h'.objs.size (.tup ys)) { s with heap:=h'.push { cls:=.type "tuple",data:=.seq aY.toArray } }:=
      I1.laid (t':=s.toks) (fun b o e=>Heap.get?_push_of_some _ e) (Nat.le_refl _) (show cg X.prog X.w _ _ _ (.tup ys) from ⟨hz,aY,r',IsTup.new _ _⟩)
    exact ⟨.ref h'.objs.size,_,I2,rfl,q _ (I1.bC.fresh (Nat.le_refl _))⟩
  · obtain ⟨aY,r',pl,hz⟩:=I.tuple hq
    exact call_tuple_same pl ⟨.ref p,H,I,rfl,q⟩
def GZ (K:PySem.W.Frag) (T:String) (x:V) (H:Hp):Prop:=match x with
  | .str _=>T="str"
  | .int _=>T="int"
  | .ref p=>(T="list"∧∃ xs,cz K H p xs)∨(T="tuple"∧∃ o,K.lookup p=some o∧o.cls=.type "tuple"∧o.dict=none)∨
      (T="dict"∧((∃ kvs,H p=some (.dK kvs))∨∃ kvs,H p=some (.dT kvs)))∨(T="set"∧∃ S n,H p=some (.set S n))
  | _=>False
theorem DY {pins:List (Addr×Obj)} {σ:St} {H:Hp} {s:Shared} {T:String} {x:V} {v:Value} (I:Inv X pins σ H s) (r:RelV x v) (ty:GZ X.K T x H):
    s.TypeIs v T∧∀ a,v=.ref a→∃ ob,s.heap.get? a=some ob∧ob.dict=none:=by
  cases x with
  | str z=>
    obtain ⟨t,rfl⟩:=r
    cases (show T="str" from ty)
    exact ⟨typeIs_str s z t,fun _ e=>nomatch e⟩
  | int i=>
    obtain ⟨t,rfl⟩:=r
    cases (show T="int" from ty)
    exact ⟨typeIs_int s i t,fun _ e=>nomatch e⟩
  | ref p=>
    cases r
    rcases ty with ⟨rfl,xs,hq⟩ | ⟨rfl,o,hk,hc,hd⟩ | ⟨rfl,hk⟩ | ⟨rfl,S,n,hk⟩
    · obtain ⟨aY,_,pl,_⟩:=I.list hq
      refine ⟨pl.isList.typeIs,fun a e=>?_⟩
      cases e
      obtain ⟨o,n,e,c,hd,_⟩:=pl
      exact ⟨o,e,hd⟩
    · refine ⟨⟨o,I.lq p o hk,hc⟩,fun a e=>?_⟩
      cases e
      exact ⟨o,I.lq _ o hk,hd⟩
    · have z:∃ o,s.heap.get? p=some o∧o.ExactDict:=by
        rcases hk with ⟨kvs,hk⟩ | ⟨kvs,hk⟩
        · obtain ⟨_,_,_,_,o,_,_,e,ex,_⟩:=I.bC p _ hk
          exact ⟨o,e,ex⟩
        · obtain ⟨_,_,_,_,o,_,_,e,ex,_⟩:=I.bC p _ hk
          exact ⟨o,e,ex⟩
      obtain ⟨o,e,ex⟩:=z
      refine ⟨⟨o,e,ex.1⟩,fun a e2=>?_⟩
      cases e2
      exact ⟨o,e,ex.2.1⟩
    · obtain ⟨o,_,_,_,e,ex,_⟩:=I.bC p _ hk
      refine ⟨⟨o,e,ex.1⟩,fun a e2=>?_⟩
      cases e2
      exact ⟨o,e,ex.2.1⟩
  | _=>exact False.elim ty
def yW (K:PySem.W.Frag) (T:String) (r:V→List V→Hp→VK→Prop) (to:TE):TE:=fun σ H Q=>to σ H fun x H1=>GZ K T x H1∧r x [] H1 Q
def IS (K:PySem.W.Frag) (T:String) (r:V→List V→Hp→VK→Prop) (to:TE) (t:TA):TE:=fun σ H Q=>to σ H fun x H1=>GZ K T x H1∧t σ H1 fun xs H2=>r x xs H2 Q
variable {o e:Expr} {es:List Expr} {to:TE} {t:TA} {name:Str} {apos cY:Pos} {T id:String} {r:V→List V→Hp→VK→Prop}
theorem KA (pa:PlainAttrs T) (slot:Slot T name id) (KC:typeOf (.builtin id)=pure (.type "method_descriptor")) (hm:GX X id r) (ho:PE X o to)
    (lH:attributeBase o name X.env (eval o X.env)=eval o X.env:=by rfl) (lI:(apos.endLine==cY.line)=true:=by rfl):PE X (.Call (.Attribute o name apos) [] [] cY) (yW X.K T r to):=by
  intro pins s σ H Q I h
  refine wpAny_Call_method0_late lH lI (bV (ho pins s σ H _ I h) fun v s1 ⟨x,H1,I1,r1,ty,q1⟩=>?_)
  obtain ⟨h1,h2⟩:=DY I1 r1 ty
  exact ⟨T,id,pa,slot,KC,h1,h2,Calls.callWith_builtin rfl (PySem.evalArgs_none (hm pins s1 σ H1 x [] v [] Q I1 r1 .nil q1))⟩
theorem MH (pa:PlainAttrs T) (slot:Slot T name id) (KC:typeOf (.builtin id)=pure (.type "method_descriptor")) (hm:GX X id r) (ho:PE X o to) (ha:PA X (e::es) t)
    (lH:attributeBase o name X.env (eval o X.env)=eval o X.env:=by rfl)
    (KD:((backTo cY (starEach (e::es) X.env)).all (fun x=>!x.1)&&(backToKw cY (keywordEach [] X.env)).all (fun x=>x.1.isSome)
      &&decide ((e::es).length + ([]:List Keyword).length + (if ([]:List Keyword).isEmpty then 0 else 1) < 30))=true:=by rfl)
    (lI:(apos.endLine==cY.line)=true:=by rfl) (hs:starEach (e::es) X.env=(false,eval e X.env)::starEach es X.env:=by rfl) (Ar:(backTo cY (starEach es X.env)).any (·.1)=false:=by rfl):
    PE X (.Call (.Attribute o name apos) (e::es) [] cY) (IS X.K T r to t):=by
  intro pins s σ H Q I h
  refine wpAny_Call_method_late lH KD lI rfl (bV (ho pins s σ H _ I h) fun v s1 ⟨x,H1,I1,r1,ty,q1⟩=>?_)
  obtain ⟨h1,h2⟩:=DY I1 r1 ty
  refine ⟨T,id,pa,slot,KC,h1,h2,?_⟩
  have hA:=ha cY pins s1 σ H1 _ I1 q1
  rw [hs] at hA ⊢
  refine Calls.callWith_builtin (by show (false||(backTo cY (starEach es X.env)).any (·.1))=false;rw [Ar] <;> rfl) (Calls.evalArgs_plain ?_)
  exact bV hA fun us s2 ⟨vs,H2,I2,r2,q2⟩=>hm pins s2 σ H2 x vs v us Q I2 r1 r2 q2
end
end L2
namespace L2
open PySem PySem.Spec PyProof.Rows
def RA (X:Cx) (id:String) (r:V→List V→Hp→VK→Prop):Prop:=
  ∀ (pins:List (Addr×Obj)) (s:Shared) (σ:St) (H:Hp) (x:V) (xs:List V) (v:Value) (us:List Value) (Q:VK),Inv X pins σ H s→RelV x v→Vals xs us→r x xs H Q→
    wpAny (model X.prog X.w) X.A (call (.builtin id) (v::us)) (EP X pins σ Q) X.xe s
theorem Vals.one:∀ {x:V} {us:List Value},Vals [x] us→∃ u,us=[u]∧RelV x u
  | _,_,.cons r .nil=>⟨_,rfl,r⟩
theorem Vals.two:∀ {x y:V} {us:List Value},Vals [x,y] us→∃ u v,us=[u,v]∧RelV x u∧RelV y v
  | _,_,_,.cons r (.cons q .nil)=>⟨_,_,rfl,r,q⟩
theorem Vals.zero:∀ {us:List Value},Vals [] us→us=[]
  | _,.nil=>rfl
theorem Vals.dropLast {xs:List V} {us:List Value} (h:Vals xs us):Vals xs.dropLast us.dropLast:=by
  induction h with
  | nil=>exact .nil
  | cons r t ih=>
    cases t with
    | nil=>exact .nil
    | cons q t'=>exact .cons r ih
theorem Vals.eraseIdx:∀ {xs:List V} {us:List Value} (i:Nat),Vals xs us→Vals (xs.eraseIdx i) (us.eraseIdx i)
  | _,_,_,.nil=>.nil
  | _,_,0,.cons _ t=>t
  | _,_,i + 1,.cons r t=>.cons r (Vals.eraseIdx i t)
theorem As {α:Type} (l:List α):l.eraseIdx (l.length - 1)=l.dropLast:=by
  induction l with
  | nil=>rfl
  | cons a r ih=>
    cases r with
    | nil=>rfl
    | cons b r=>
      have e:(a::b::r).length - 1=((b::r).length - 1) + 1:=by
        have h1:(a::b::r).length=r.length + 2:=rfl
        have h2:(b::r).length=r.length + 1:=rfl
        omega
      rw [e,List.eraseIdx_cons_succ,ih]
      all_goals rfl
section
variable {X:Cx} {pins:List (Addr×Obj)} {σ:St} {H:Hp} {s:Shared} {l b:Addr} {xs ys zs:List V}
theorem Inv.KG {aY its':List Value} {n:Nat} {f:Array Value→Array Value} {t':Nat} (I:Inv X pins σ H s) (hH:H l=some (.lst xs))
    (e:s.heap.get? l=some { cls:=.type "list",data:=.seq aY.toArray n }) (hf:f aY.toArray=its'.toArray) (hv:Vals ys its') (hz:ys.length≤sizeLine):
    Inv X pins σ (upd H l (.lst ys)) { s with heap:=s.heap.update l (Obj.mapSeq f),toks:=t' }:=by
  have q:=PySem.IsL.update e f
  rw [hf] at q
  refine I.write (x:=l) (e:=l) (by rw [hH];exact trivial) (.inl rfl) (fun b' u hb hu=>(Heap.get?_update_other s.heap (Obj.mapSeq f) (Ne.symm hb)).trans hu) ⟨_,q⟩ ?_
  exact ⟨hz,its',_,hv,q⟩
theorem Inv.RB {aY:List Value} {t':Nat} (I:Inv X pins σ H s) (hv:Vals ys aY) (hz:ys.length≤sizeLine):
    Inv X pins σ (upd H s.heap.objs.size (.lst ys)) { s with heap:=s.heap.push { cls:=.type "list",data:=.seq aY.toArray },toks:=t' }:=
  I.laid (fun _ _ q=>Heap.get?_push_of_some _ q) (Nat.le_refl _) ⟨hz,aY,0,hv,Heap.get?_push_size _ rfl⟩
theorem Inv.fresh (I:Inv X pins σ H s):H s.heap.objs.size=none:=I.bC.fresh (Nat.le_refl _)
theorem Inv.Cu (I:Inv X pins σ H s) (hH:H l=some (.lst xs)):xs.length≤sizeLine∧∃ (aY:List Value) (n:Nat),Vals xs aY∧xs.length=aY.length∧s.heap.get? l=some { cls:=.type "list",data:=.seq aY.toArray n }:=by
  obtain ⟨z,aY,n,r,e⟩:=I.bC l _ hH
  exact ⟨z,aY,n,r,r.length,e⟩
theorem DZ {n:Nat} (h:n≤sizeLine):Builtin.List.listTooLong n=false:=by
  unfold Builtin.List.listTooLong
  exact decide_eq_false (by omega)
end
section
variable {X:Cx}
def j5:V→List V→Hp→VK→Prop:=fun x vs H Q=>∃ l xs y,x=.ref l∧vs=[y]∧H l=some (.lst xs)∧xs.length < sizeLine∧Q .cG (upd H l (.lst (xs++[y])))
theorem fV:RA X "list.append" j5:=by
  intro pins s σ H x vs v us Q I rx rv h
  obtain ⟨l,xs,y,rfl,rfl,hH,hz,q⟩:=h
  cases rx
  obtain ⟨u,rfl,ru⟩:=rv.one
  obtain ⟨z,aY,n,r,hl,e⟩:=I.Cu hH
  refine call_meets F.slot_list_append ⟨_,e,rfl⟩ F.entry_list_append (F.args_list_append_2 _ _) (PySem.list_append l aY.toArray n u (by rw [List.size_toArray];omega)) ⟨e,?_⟩
  refine ⟨.cG,_,I.KG (its':=aY++[u]) hH e (by simp) (r.append (.cons ru .nil)) ?_,rfl,q⟩
  rw [List.length_append,List.length_singleton]
  omega
def j6:V→List V→Hp→VK→Prop:=fun x vs H Q=>∃ l b xs zs,x=.ref l∧vs=[.ref b]∧H l=some (.lst xs)∧H b=some (.lst zs)∧xs.length + zs.length≤sizeLine∧Q .cG (upd H l (.lst (xs++zs)))
theorem Cv:RA X "list.extend" j6:=by
  intro pins s σ H x vs v us Q I rx rv h
  obtain ⟨l,b,xs,zs,rfl,rfl,hH,hB,hz,q⟩:=h
  cases rx
  obtain ⟨u,rfl,ru⟩:=rv.one
  cases ru
  obtain ⟨z,aY,n,r,hl,e⟩:=I.Cu hH
  obtain ⟨z2,its2,n2,r2,hl2,e2⟩:=I.Cu hB
  have hsz:aY.toArray.size + its2.toArray.size≤sizeLine:=by rw [List.size_toArray,List.size_toArray];omega
  have MI:¬ (!aY.toArray.isEmpty&&Builtin.List.listTooLong (aY.toArray.size + its2.toArray.size))=true:=by
    rw [DZ hsz,Bool.and_false]
    exact Bool.false_ne_true
  refine call_meets F.slot_list_extend ⟨_,e,rfl⟩ F.entry_list_extend (F.args_list_extend_2 _ _)
    (AutoSeq1.list_extend_list_list_0 l aY.toArray n b its2.toArray n2 MI (by rw [List.size_toArray];omega) (by omega)) ⟨e,e2,?_⟩
  refine ⟨.cG,_,I.KG (its':=aY++its2) hH e (by simp) (r.append r2) ?_,rfl,q⟩
  rw [List.length_append]
  omega
def Au:V→List V→Hp→VK→Prop:=fun x vs H Q=>∃ l xs y,x=.ref l∧vs=[]∧H l=some (.lst xs)∧xs[xs.length - 1]?=some y∧Q y (upd H l (.lst xs.dropLast))
theorem KH:RA X "list.pop" Au:=by
  intro pins s σ H x vs v us Q I rx rv h
  obtain ⟨l,xs,y,rfl,rfl,hH,hy,q⟩:=h
  cases rx
  have hus:=rv.zero
  subst hus
  obtain ⟨z,aY,n,r,hl,e⟩:=I.Cu hH
  obtain ⟨u,hu,ru⟩:=r.get hy
  have KI:aY.toArray[aY.toArray.size - 1]?=some u:=by
    show aY.toArray[aY.length - 1]?=some u
    rw [← Array.getElem?_toList,← hl]
    exact hu
  refine call_meets F.slot_list_pop ⟨_,e,rfl⟩ F.entry_list_pop (F.args_list_pop_1 _) (MeetsSeq.list_pop_last l aY.toArray n u KI (by rw [List.size_toArray];omega)) ⟨e,?_⟩
  refine ⟨y,_,I.KG (its':=aY.dropLast) hH e ?_ r.dropLast ?_,ru,q⟩
  · show aY.toArray.eraseIdxIfInBounds (aY.toArray.size - 1)=aY.dropLast.toArray
    rw [List.size_toArray,List.eraseIdxIfInBounds_toArray,As]
  · rw [List.length_dropLast]
    omega
end
section
variable {prog:Program} {w:World} {A:Around} {E:Value→Shared→Prop} {s:Shared}
end
section
variable {X:Cx}
end
end L2
namespace L2
open PySem PySem.Spec PyProof.Rows
section
variable {κ:Type} [DecidableEq κ]
def nB (kvs:List (κ×V)) (k:κ):Option V:=(kvs.find? fun kv=>decide (kv.1=k)).map (·.2)
def putK (kvs:List (κ×V)) (k:κ) (v:V):List (κ×V):=
  if (kvs.any fun kv=>decide (kv.1=k))=true then kvs.map (fun kv=>if kv.1=k then (kv.1,v) else kv) else kvs++[(k,v)]
def IT (kvs:List (κ×V)) (k:κ):List (κ×V):=kvs.filter fun kv=>decide (kv.1≠k)
theorem oE {p:κ×V} {r:List (κ×V)} {k:κ} (e:p.1=k):nB (p::r) k=some p.2:=by simp [nB,List.find?_cons,e]
theorem oH {p:κ×V} {r:List (κ×V)} {k:κ} (e:¬ p.1=k):nB (p::r) k=nB r k:=by simp [nB,List.find?_cons,e]
theorem yX (k:κ):∀ kvs:List (κ×V),(kvs.any fun kv=>decide (kv.1=k))=(nB kvs k).isSome
  | []=>rfl
  | p::r=>by
    rw [List.any_cons]
    by_cases e:p.1=k
    · simp only [oE e,decide_eq_true e,Bool.true_or,Option.isSome_some]
    · rw [oH e,decide_eq_false e,Bool.false_or];exact yX k r
theorem lK (kvs:List (κ×V)) (k:κ) (v:V):(putK kvs k v).length≤kvs.length + 1:=by
  unfold putK
  split
  · rw [List.length_map];omega
  · rw [List.length_append,List.length_cons,List.length_nil];omega
theorem kY.mL {o:Option V} {u:Option Value} (r:kY o u):o.isSome=u.isSome:=by
  cases o with
  | none=>cases u with
    | none=>rfl
    | some _=>exact (show False from r).elim
  | some _=>cases u with
    | none=>exact (show False from r).elim
    | some _=>rfl
theorem kY.getD {o:Option V} {u:Option Value} {d:V} {d':Value} (r:kY o u) (rd:RelV d d'):RelV (o.getD d) (u.getD d'):=by
  cases o with
  | none=>cases u with
    | none=>exact rd
    | some _=>exact (show False from r).elim
  | some _=>cases u with
    | none=>exact (show False from r).elim
    | some _=>exact r
theorem KV.val {kvs:List (κ×V)} {vs:List (κ×Value)} (r:KV kvs vs) (k:κ):kY (nB kvs k) (valueAt vs k):=by
  unfold KV at r
  induction r with
  | nil=>exact True.intro
  | @cons p q ps qs h t ih=>
    obtain ⟨h1,h2⟩:=h
    by_cases e:p.1=k
    · have e':q.1=k:=h1.symm.trans e
      have b:valueAt (q::qs) k=some q.2:=by simp [valueAt,List.find?_cons,e']
      rw [oE e,b];exact h2
    · have e':¬ q.1=k:=fun z=>e (h1.trans z)
      have b:valueAt (q::qs) k=valueAt qs k:=by simp [valueAt,List.find?_cons,e']
      rw [oH e,b];exact ih
theorem KV.any {kvs:List (κ×V)} {vs:List (κ×Value)} (r:KV kvs vs) (k:κ):(kvs.any fun kv=>decide (kv.1=k))=vs.any fun kv=>decide (kv.1=k):=by
  unfold KV at r
  induction r with
  | nil=>rfl
  | cons h t ih=>rw [List.any_cons,List.any_cons,ih,h.1]
theorem KV.KJ {kvs:List (κ×V)} {vs:List (κ×Value)} (r:KV kvs vs) (k:κ) {y:V} {u:Value} (ry:RelV y u):
    KV (kvs.map fun kv=>if kv.1=k then (kv.1,y) else kv) (vs.map fun kv=>if kv.1=k then (kv.1,u) else kv):=by
  unfold KV at r ⊢
  induction r with
  | nil=>exact .nil
  | @cons p q ps qs h t ih=>
    rw [List.map_cons,List.map_cons]
    refine .cons ?_ ih
    obtain ⟨h1,h2⟩:=h
    by_cases e:p.1=k
    · rw [if_pos e,if_pos (h1.symm.trans e)];exact ⟨h1,ry⟩
    · rw [if_neg e,if_neg (fun z=>e (h1.trans z))];exact ⟨h1,h2⟩
theorem KV.put {kvs:List (κ×V)} {vs:List (κ×Value)} (r:KV kvs vs) (k:κ) {y:V} {u:Value} (ry:RelV y u):KV (putK kvs k y) (stored vs k u):=by
  unfold putK stored
  rw [r.any k]
  by_cases e:(vs.any fun kv=>decide (kv.1=k))=true
  · rw [if_pos e,if_pos e];exact r.KJ k ry
  · rw [if_neg e,if_neg e];exact Paired.snoc r ⟨rfl,ry⟩
theorem KV.drop {kvs:List (κ×V)} {vs:List (κ×Value)} (r:KV kvs vs) (k:κ):KV (IT kvs k) (without vs k):=by
  unfold KV at r ⊢
  unfold IT without
  induction r with
  | nil=>exact .nil
  | @cons p q ps qs h t ih=>
    obtain ⟨h1,h2⟩:=h
    rw [List.filter_cons,List.filter_cons]
    by_cases e:p.1=k
    · have a:¬ decide (p.1≠k)=true:=by simp [e]
      have b:¬ decide (q.1≠k)=true:=by simp [h1.symm.trans e]
      rw [if_neg a,if_neg b];exact ih
    · have e':¬ q.1=k:=fun z=>e (h1.trans z)
      have a:decide (p.1≠k)=true:=by simp [e]
      have b:decide (q.1≠k)=true:=by simp [e']
      rw [if_pos a,if_pos b];exact .cons ⟨h1,h2⟩ ih
theorem KV.keys {kvs:List (κ×V)} {vs:List (κ×Value)} (r:KV kvs vs):kvs.map (·.1)=vs.map (·.1):=by
  unfold KV at r
  induction r with
  | nil=>rfl
  | cons h t ih=>rw [List.map_cons,List.map_cons,ih,h.1]
theorem KV.length {kvs:List (κ×V)} {vs:List (κ×Value)} (r:KV kvs vs):kvs.length=vs.length:=Paired.length r
end
theorem sy {P:Program} {w:World} {k:Key} {u:Value} (r:RelV (kV k) u):(bq P w).is k u=true:=by
  cases k with
  | inl i=>obtain ⟨t,e⟩:=(show ∃ t,u=Value.int i t from r);subst e;exact yx P w i t
  | inr x=>obtain ⟨t,e⟩:=(show ∃ t,u=Value.str x t from r);subst e;exact yy P w x t
theorem u6 {P:Program} {w:World}:∀ {ks:List Key} {us:List Value},Vals (ks.map kV) us→ItemsAre (bq P w) ks us
  | [],_,r=>by rw [List.map_nil] at r;cases r;exact .nil
  | k::ks,_,r=>by
    rw [List.map_cons] at r
    cases r with
    | cons h t=>exact .cons (sy h) (u6 t)
abbrev KT (H:Hp):List (List Key×V)→List (List Key×Addr×Value)→Prop:=Paired fun p q=>p.1=q.1∧H q.2.1=some (.tup (p.1.map kV))∧RelV p.2 q.2.2
theorem KT.val {H:Hp} {kvs:List (List Key×V)} {xs:List (List Key×Addr×Value)} (r:KT H kvs xs) (k:List Key):kY (nB kvs k) ((atKey xs k).map (·.2)):=by
  induction r with
  | nil=>exact True.intro
  | @cons p q ps qs h t ih=>
    obtain ⟨h1,_,h2⟩:=h
    by_cases e:p.1=k
    · have e':q.1=k:=h1.symm.trans e
      have b:atKey (q::qs) k=some q.2:=by simp [atKey,List.find?_cons,e']
      rw [oE e,b];exact h2
    · have e':¬ q.1=k:=fun z=>e (h1.trans z)
      have b:atKey (q::qs) k=atKey qs k:=by simp [atKey,List.find?_cons,e']
      rw [oH e,b];exact ih
theorem KT.KJ {H:Hp} {kvs:List (List Key×V)} {xs:List (List Key×Addr×Value)} (r:KT H kvs xs) (k:List Key) {y:V} {u:Value} (ry:RelV y u):
    KT H (kvs.map fun kv=>if kv.1=k then (kv.1,y) else kv) (xs.map (putAt k u)):=by
  induction r with
  | nil=>exact .nil
  | @cons p q ps qs h t ih=>
    rw [List.map_cons,List.map_cons]
    refine .cons ?_ ih
    obtain ⟨h1,h2,h3⟩:=h
    unfold putAt
    by_cases e:p.1=k
    · rw [if_pos e,if_pos (h1.symm.trans e)];exact ⟨h1,h2,ry⟩
    · rw [if_neg e,if_neg (fun z=>e (h1.trans z))];exact ⟨h1,h2,h3⟩
theorem KT.put {H:Hp} {kvs:List (List Key×V)} {xs:List (List Key×Addr×Value)} (r:KT H kvs xs) (k:List Key) {b:Addr} {y:V} {u:Value} (hb:H b=some (.tup (k.map kV))) (ry:RelV y u):
    KT H (putK kvs k y) (storedH xs k b u):=by
  have e:(kvs.any fun kv=>decide (kv.1=k))=(atKey xs k).isSome:=by
    rw [yX,(r.val k).mL,Option.isSome_map]
  unfold putK storedH
  rw [e]
  by_cases q:(atKey xs k).isSome=true
  · rw [if_pos q,if_pos q];exact r.KJ k ry
  · rw [if_neg q,if_neg q];exact Paired.snoc r ⟨rfl,hb,ry⟩
theorem KT.keeps {H H':Hp} {kvs:List (List Key×V)} {xs:List (List Key×Addr×Value)} (r:KT H kvs xs) (ht:∀ b ys,H b=some (.tup ys)→H' b=some (.tup ys)):KT H' kvs xs:=
  Paired.Js r fun _ _ z=>⟨z.1,ht _ _ z.2.1,z.2.2⟩
section
variable {P:Program} {w:World} {H:Hp} {h:Heap} {a:Addr}
theorem IU {u:HO} (ok:mY P w H h) (e:Rd H a u):cg P w H h a u:=e.ok ok
theorem qE {kvs:List (Key×V)} (ok:mY P w H h) (e:Rd H a (.dK kvs)):kvs.length≤sizeLine∧(a==sysModules)=false∧∃ vs,KV kvs vs∧h.DictOf (bq P w) a vs:=
  show cg P w H h a (.dK kvs) from IU ok e
theorem yY {kvs:List (Key×V)} (ok:mY P w H h) (e:H a=some (.dK kvs)):kvs.length≤sizeLine∧(a==sysModules)=false∧∃ vs,KV kvs vs∧h.DictOf (bq P w) a vs:=qE ok (.inl e)
theorem sA {ks:List Key} (ok:mY P w H h) (e:H a=some (.tup (ks.map kV))):(tupleKind (bq P w)).is h ks a:=by
  obtain ⟨_,aY,r,o,h1,h2,n,h3⟩:=(show cg P w H h a (.tup (ks.map kV)) from ok a _ e)
  exact ⟨o,aY.toArray,n,h1,h2,h3,by simpa using u6 r⟩
theorem u7 {kvs:List (List Key×V)} (ok:mY P w H h) (e:Rd H a (.dT kvs)):kvs.length≤sizeLine∧(a==sysModules)=false∧
    ∃ xs,KT H kvs xs∧h.DictOfH (tupleKind (bq P w)) a xs:=by
  obtain ⟨z,y,xs,r,o,es,ep,h1,h2,h3,h4,h5⟩:=(show cg P w H h a (.dT kvs) from IU ok e)
  refine ⟨z,y,xs,r,o,es,ep,h1,h2,h3,h4,fun x hx=>?_,h5⟩
  have all:∀ {l:List (List Key×V)} {m:List (List Key×Addr×Value)},KT H l m→∀ x∈m,(tupleKind (bq P w)).is h x.1 x.2.1:=by
    intro l m q
    induction q with
    | nil=>intro x hx;exact nomatch hx
    | @cons p q ps qs hq t ih=>
      intro x hx
      rcases List.mem_cons.mp hx with e | hx
      · subst e
        exact sA ok (by rw [← hq.1];exact hq.2.1)
      · exact ih x hx
  exact all r x hx
theorem MJ {kvs:List (List Key×V)} (ok:mY P w H h) (e:H a=some (.dT kvs)):kvs.length≤sizeLine∧(a==sysModules)=false∧
    ∃ xs,KT H kvs xs∧h.DictOfH (tupleKind (bq P w)) a xs:=u7 ok (.inl e)
end
def sC (H:Hp) (a:Addr) (y:V) (r:Option V):Prop:=
  (∃ kvs k,Rd H a (.dK kvs)∧y=kV k∧r=nB kvs k)∨∃ kvs k b,Rd H a (.dT kvs)∧y=.ref b∧H b=some (.tup (k.map kV))∧r=nB kvs k
def Cw (H:Hp) (a:Addr) (y v:V) (H':Hp):Prop:=
  (∃ kvs k,H a=some (.dK kvs)∧y=kV k∧kvs.length < sizeLine∧H'=upd H a (.dK (putK kvs k v)))∨
  ∃ kvs k b,H a=some (.dT kvs)∧y=.ref b∧H b=some (.tup (k.map kV))∧kvs.length < sizeLine∧H'=upd H a (.dT (putK kvs k v))
theorem sC.k {H:Hp} {a:Addr} {kvs:List (Key×V)} {k:Key} (e:H a=some (.dK kvs)):sC H a (kV k) (nB kvs k):=.inl ⟨kvs,k,.inl e,rfl,rfl⟩
theorem sC.t {H:Hp} {a b:Addr} {kvs:List (List Key×V)} {k:List Key} (e:H a=some (.dT kvs)) (eb:H b=some (.tup (k.map kV))):sC H a (.ref b) (nB kvs k):=.inr ⟨kvs,k,b,.inl e,rfl,eb,rfl⟩
theorem Cw.k {H:Hp} {a:Addr} {kvs:List (Key×V)} {k:Key} {v:V} (e:H a=some (.dK kvs)) (hl:kvs.length < sizeLine):Cw H a (kV k) v (upd H a (.dK (putK kvs k v))):=.inl ⟨kvs,k,e,rfl,hl,rfl⟩
theorem Cw.t {H:Hp} {a b:Addr} {kvs:List (List Key×V)} {k:List Key} {v:V} (e:H a=some (.dT kvs)) (eb:H b=some (.tup (k.map kV))) (hl:kvs.length < sizeLine):
    Cw H a (.ref b) v (upd H a (.dT (putK kvs k v))):=.inr ⟨kvs,k,b,e,rfl,eb,hl,rfl⟩
section
variable {X:Cx} {pins:List (Addr×Obj)} {σ:St} {H:Hp} {s:Shared} {a:Addr} {y v:V} {u r:Value} {o:Option V} {A:Around} {E:Value→Shared→Prop}
theorem Inv.big (I:Inv X pins σ H s):sysModules < s.heap.objs.size:=by
  have h:mainGlobals < s.heap.objs.size:=(I.mod.glob.keeps I.bk).lt
  exact Nat.lt_trans (by decide) h
theorem Cy {Q:Value→Shared→Prop} (hu:A.units + 1 < cLine) (I:Inv X pins σ H s) (g:sC H a y (some v)) (ry:RelV y u) (h:∀ w' s',Inv X pins σ H s'→RelV v w'→Q w' s'):
    wpAny (model X.prog X.w) A (getItem (.ref a) u) Q E s:=by
  rcases g with ⟨kvs,k,e,ey,l⟩ | ⟨kvs,k,b,e,ey,eb,l⟩
  · subst ey
    obtain ⟨z,hd,vs,rel,dd⟩:=qE I.bC e
    obtain ⟨w',hw,rw'⟩:=kY.some_of (v:=v) (o:=valueAt vs k) (by rw [l];exact rel.val k)
    exact wpAny_getItem_of (sy ry) dd.mapOf hw (h w' _ (I.tok _) rw')
  · subst ey
    cases (show u=Value.ref b from ry)
    obtain ⟨z,hd,xs,rel,dd⟩:=u7 I.bC e
    obtain ⟨w',hw,rw'⟩:=kY.some_of (v:=v) (o:=(atKey xs k).map (·.2)) (by rw [l];exact rel.val k)
    obtain ⟨p,hp,Dy⟩:=Option.map_eq_some_iff.mp hw
    refine wpAny_getItem_heap (tupleKind_room_in1 hu) (sA I.bC eb) dd hp ?_
    rw [Dy]
    exact h w' _ (I.tok _) rw'
theorem RC {Q:Value→Shared→Prop} (hu:A.units + 1 < cLine) (I:Inv X pins σ H s) (g:sC H a y o) (ry:RelV y u) (h:∀ s',Inv X pins σ H s'→Q (.bool o.isSome) s'):
    wpAny (model X.prog X.w) A (compareOp .In u (.ref a)) Q E s:=by
  rcases g with ⟨kvs,k,e,ey,l⟩ | ⟨kvs,k,b,e,ey,eb,l⟩
  · subst ey
    obtain ⟨z,hd,vs,rel,dd⟩:=qE I.bC e
    refine wpAny_in_of (sy ry) hd dd.mapOf ?_
    rw [← (rel.val k).mL,← l]
    exact h _ (I.tok _)
  · subst ey
    cases (show u=Value.ref b from ry)
    obtain ⟨z,hd,xs,rel,dd⟩:=u7 I.bC e
    refine wpAny_in_heap (tupleKind_room_in1 hu) (sA I.bC eb) hd dd ?_
    have q:=(rel.val k).mL
    rw [Option.isSome_map] at q
    rw [← q,← l]
    exact h _ (I.tok _)
theorem vZ {h':Heap} {t':Nat} {ob:HO} (I:Inv X pins σ H s) (mu:Me (H a)) (hs:Heap.SameBut a s.heap h') (he:∃ q,h'.get? a=some q) (new:cg X.prog X.w (upd H a ob) h' a ob):
    Inv X pins σ (upd H a ob) { s with heap:=h',toks:=t' }:=
  I.write (x:=a) (e:=a) mu (.inl rfl) (fun b q hb z=>(hs.2 b hb).trans z) he new
theorem Av {P:Program} {w:World} {H':Hp} {h':Heap} {kvs:List (Key×V)} {vs:List (Key×Value)} (z:kvs.length≤sizeLine) (hd:(a==sysModules)=false) (rel:KV kvs vs) (dd:h'.DictOf (bq P w) a vs):
    cg P w H' h' a (.dK kvs):=⟨z,hd,vs,rel,dd⟩
theorem Cz {H':Hp} {Q:Unit→Shared→Prop} (hu:A.units + 1 < cLine) (I:Inv X pins σ H s) (g:Cw H a y v H') (ry:RelV y u) (rv:RelV v r) (h:∀ s',Inv X pins σ H' s'→Q () s'):
    wpAny (model X.prog X.w) A (setItem (.ref a) u r) Q E s:=by
  rcases g with ⟨kvs,k,e,ey,l,eH⟩ | ⟨kvs,k,b,e,ey,eb,l,eH⟩
  · subst ey eH
    obtain ⟨z,hd,vs,rel,dd⟩:=yY I.bC e
    have hz:vs.length≤sizeLine:=by rw [← rel.length];exact z
    have hl:(putK kvs k v).length≤sizeLine:=by have:=lK kvs k v;omega
    refine wpAny_setItem_pairs (hsz:=hz) (sy ry) dd fun h' dd' hs=>h _ ?_
    have he:∃ q,h'.get? a=some q:=let ⟨q,_,_,hq,_⟩:=dd';⟨q,hq⟩
    exact vZ I (by rw [e];exact True.intro) hs he (Av hl hd (rel.put k rv) dd')
  · subst ey eH
    cases (show u=Value.ref b from ry)
    obtain ⟨z,hd,xs,rel,dd⟩:=MJ I.bC e
    have hz:xs.length≤sizeLine:=by rw [← Paired.length rel];exact z
    have hl:(putK kvs k v).length≤sizeLine:=by have:=lK kvs k v;omega
    refine wpAny_setItem_heap (hsz:=hz) (tupleKind_room_in1 hu) (sA I.bC eb) dd fun h' dd' hs=>h _ ?_
    obtain ⟨q,es,ep,hq,h2,h3,h4,_,h5⟩:=dd'
    refine vZ I (by rw [e];exact True.intro) hs ⟨q,hq⟩ ⟨hl,hd,_,(rel.put k eb rv).keeps fun c ys ec=>?_,q,es,ep,hq,h2,h3,h4,h5⟩
    rw [ao (IA ec e (fun z=>nomatch z))]
    exact ec
end
section
variable {X:Cx} {pins:List (Addr×Obj)} {σ:St} {H:Hp} {s:Shared} {a:Addr} {kvs:List (Key×V)} {k:Key} {u:Value} {A:Around} {E:Value→Shared→Prop}
theorem MK {Q:Value→Shared→Prop} (I:Inv X pins σ H s) (e:Rd H a (.dK kvs)) (h:∀ t s',Inv X pins σ H s'→Q (.int kvs.length t) s'):wpAny (model X.prog X.w) A (call (.builtin "len") [.ref a]) Q E s:=by
  obtain ⟨z,hd,vs,rel,dd⟩:=qE I.bC e
  refine call_len_dict hd dd (by rw [← rel.length];rw [sizeLine_eq] at z;omega) ?_
  rw [← rel.length]
  exact h _ _ (I.tok _)
end
def KL (i:Expr):Prop:=∀ ov iv,subscripted i false ov iv=operate [ov,iv] (getItem ov iv)
theorem G0 {prog:Program} {w:World} {A:Around} {E:Value→Shared→Prop} {s:Shared} {env:Env} {value slice:Expr} {pos:Pos} {T id:String} {Q:Value→Shared→Prop}
    (hl:typeLookup (.type T) "__getitem__"=pure (some (.builtin id))) (hs:KL slice)
    (h:wpAny (model prog w) A (eval value env) (fun o s₁=>wpAny (model prog w) A (eval slice env) (fun i s₂=>s₂.TypeIs o T∧wpAny (model prog w) A (getItem o i) Q E s₂) E s₁) E s):
    wpAny (model prog w) A (eval (.Subscript value slice pos) env) Q E s:=by
  refine Subscript_ (wpAny_mono h (fun o s₁ h₁=>wpAny_mono h₁ (fun i s₂ h₂=>?_) fun _ _ x=>x) fun _ _ x=>x)
  obtain ⟨hT,h₂⟩:=h₂
  unfold subscriptTail
  refine wpAny_bind ?_
  rw [getitemInPython_of_ne hT.not_modules]
  refine wpAny_bind (wpAny_specialOf hT hl ?_)
  have fin:wpAny (model prog w) A (subscripted slice false o i) (fun r s₃=>wpAny (model prog w) A (letTemporaryGo value o r >>=fun _=>pure r) Q E s₃) E s₂:=by
    rw [hs o i]
    exact wpAny_operating (wpAny_mono h₂ (fun r s₃ h₃=>wpAny_bind (wpAny_letTemporaryGo (wpAny_pure h₃))) fun _ _ x=>x)
  first
    | exact wpAny_pure (wpAny_bind fin)
    | exact wpAny_bind (wpAny_pure (wpAny_bind fin))
    | exact wpAny_bind fin
theorem yZ {X:Cx} {pins:List (Addr×Obj)} {σ:St} {H:Hp} {s:Shared} {a:Addr} {y:V} {o:Option V} (I:Inv X pins σ H s) (g:sC H a y o):s.TypeIs (.ref a) "dict":=by
  rcases g with ⟨kvs,k,e,_,_⟩ | ⟨kvs,k,b,e,_,_,_⟩
  · obtain ⟨_,_,vs,_,dd⟩:=qE I.bC e
    exact dd.typeIs
  · obtain ⟨_,_,xs,_,dd⟩:=u7 I.bC e
    exact dd.typeIs
def qF (td ty:TE):TE:=fun σ H Q=>td σ H fun x H1=>ty σ H1 fun y H2=>∃ a v,x=.ref a∧sC H2 a y (some v)∧Q v H2
def qG (td ty tv:TE):TS:=fun D σ H=>tv σ H fun v H1=>td σ H1 fun x H2=>ty σ H2 fun y H3=>∃ a H4,x=.ref a∧Cw H3 a y v H4∧D.nx σ H4
section
variable {X:Cx} {o i e value:Expr} {pos pos' DR:Pos} {td ty tv:TE}
theorem G8 (hu:X.A.units + 1 < cLine) (ho:PE X o td) (hi:PE X i ty) (hs:KL i):PE X (.Subscript o i pos) (qF td ty):=by
  intro pins s σ H Q I h
  refine G0 PySem.F.slot_dict_getitem.lookup hs (bV (ho pins s σ H _ I h) fun u s1 ⟨x,H1,I1,rx,q1⟩=>bV (hi pins s1 σ H1 _ I1 q1) fun iv s2 ⟨y,H2,I2,ry,a,v,ex,g,q2⟩=>?_)
  subst ex
  obtain rfl:u=Value.ref a:=rx
  exact ⟨yZ I2 g,Cy hu I2 g ry fun w' s3 I3 rw'=>⟨v,H2,I3,rw',q2⟩⟩
theorem Hf (hu:X.A.units + 1 < cLine) (ho:PE X o td) (hi:PE X i ty) (hv:PE X value tv) (hs:swapsWith value (some (.Subscript o i pos')) pos.line X.env=pure false):
    PS X (.Assign [.Subscript o i pos'] value pos) (qG td ty tv):=by
  intro pins s σ H D I h
  refine wpAny_Assign_Subscript (bV (hv pins s σ H _ I h) fun r s1 ⟨v,H1,I1,rv,q1⟩=>bV (ho pins s1 σ H1 _ I1 q1) fun u s2 ⟨x,H2,I2,rx,q2⟩=>bV (hi pins s2 σ H2 _ I2 q2) fun iv s3 ⟨y,H3,I3,ry,a,H4,ex,g,q3⟩=>?_) hs
  subst ex
  obtain rfl:u=Value.ref a:=rx
  exact Cz hu I3 g ry rv fun s4 I4=>⟨σ,H4,I4,q3⟩
end
theorem D3 {P:Program} {w:World} {H:Hp} (h:Heap) (hb:sysModules < h.objs.size):cg P w H (h.push { cls:=.type "dict",data:=.dict #[] }) h.objs.size (.dK []):=
  ⟨Nat.zero_le _,beq_eq_false_iff_ne.mpr (Ne.symm (Nat.ne_of_lt hb)),[],.nil,Heap.DictOf.new h⟩
section
variable {X:Cx} {pos:Pos}
end
structure M1 (X:Cx) (o:Expr) (m:Str) (apos:Pos) (e:Expr) (cY:Pos):Prop where
  base:attributeBase o m X.env (eval o X.env)=eval o X.env
  Hg:((backTo cY (starEach [e] X.env)).all (fun x=>!x.1)&&(backToKw cY (keywordEach [] X.env)).all (fun x=>x.1.isSome)
    &&decide (([e]:List Expr).length + ([]:List Keyword).length + (if ([]:List Keyword).isEmpty then 0 else 1) < 30))=true
  line:(apos.endLine==cY.line)=true
  trees:backTo cY (starEach [e] X.env)=[(false,eval e X.env)]
structure M2 (X:Cx) (o:Expr) (m:Str) (apos:Pos) (e f:Expr) (cY:Pos):Prop where
  base:attributeBase o m X.env (eval o X.env)=eval o X.env
  Hg:((backTo cY (starEach [e,f] X.env)).all (fun x=>!x.1)&&(backToKw cY (keywordEach [] X.env)).all (fun x=>x.1.isSome)
    &&decide (([e,f]:List Expr).length + ([]:List Keyword).length + (if ([]:List Keyword).isEmpty then 0 else 1) < 30))=true
  line:(apos.endLine==cY.line)=true
  trees:backTo cY (starEach [e,f] X.env)=[(false,eval e X.env),(false,eval f X.env)]
def IsD (H:Hp) (a:Addr):Prop:=(∃ kvs,Rd H a (.dK kvs))∨∃ kvs,Rd H a (.dT kvs)
theorem D4 {X:Cx} {pins:List (Addr×Obj)} {σ:St} {H:Hp} {s:Shared} {a:Addr} (I:Inv X pins σ H s) (d:IsD H a):
    s.TypeIs (.ref a) "dict"∧(∀ b,Value.ref a=.ref b→∃ ob,s.heap.get? b=some ob∧ob.dict=none)∧(a==sysModules)=false:=by
  rcases d with ⟨kvs,e⟩ | ⟨kvs,e⟩
  · obtain ⟨_,hd,vs,_,dd⟩:=qE I.bC e
    refine ⟨dd.typeIs,fun b q=>?_,hd⟩
    cases q
    obtain ⟨ob,_,_,h1,h2,_⟩:=dd
    exact ⟨ob,h1,h2.2.1⟩
  · obtain ⟨_,hd,xs,_,dd⟩:=u7 I.bC e
    refine ⟨dd.typeIs,fun b q=>?_,hd⟩
    cases q
    obtain ⟨ob,_,_,h1,h2,_⟩:=dd
    exact ⟨ob,h1,h2.2.1⟩
section
variable {X:Cx} {pins:List (Addr×Obj)} {σ:St} {H:Hp} {s:Shared} {a:Addr} {y d:V} {u r:Value} {o:Option V} {A:Around} {E:Value→Shared→Prop}
theorem KN {Q:Value→Shared→Prop} (hu:A.units + 1 < cLine) (I:Inv X pins σ H s) (g:sC H a y o) (ry:RelV y u) (h:∀ w' s',Inv X pins σ H s'→RelV (o.getD .cG) w'→Q w' s'):
    wpAny (model X.prog X.w) A (call (.builtin "dict.get") [.ref a,u]) Q E s:=by
  rcases g with ⟨kvs,k,e,ey,l⟩ | ⟨kvs,k,b,e,ey,eb,l⟩
  · subst ey
    obtain ⟨z,hd,vs,rel,dd⟩:=qE I.bC e
    refine call_meetsIn PySem.F.slot_dict_get dd.typeIs PySem.F.entry_dict_get (PySem.F.args_dict_get_2 _ _) (meets_dict_get (bq X.prog X.w) a (sy ry) hd) ⟨_,dd.mapOf,h _ _ (I.tok _) ?_⟩
    rw [l]
    exact (rel.val k).getD rfl
  · subst ey
    cases (show u=Value.ref b from ry)
    obtain ⟨z,hd,xs,rel,dd⟩:=u7 I.bC e
    refine call_meetsIn PySem.F.slot_dict_get dd.typeIs PySem.F.entry_dict_get (PySem.F.args_dict_get_2 _ _) (meetsH_dict_get (tupleKind (bq X.prog X.w)) a b hd) ⟨tupleKind_room_in1 hu,k,xs,sA I.bC eb,dd,h _ _ (I.tok _) ?_⟩
    rw [l]
    exact (rel.val k).getD rfl
end
def Aw (td ty:TE):TE:=fun σ H Q=>td σ H fun x H1=>∃ a,x=.ref a∧IsD H1 a∧ty σ H1 fun y H2=>∃ o,sC H2 a y o∧Q (o.getD .cG) H2
section
variable {X:Cx} {o e f:Expr} {apos cY:Pos} {td ty tx:TE}
theorem D6 (hu:X.A.units + 1 < cLine) (ho:PE X o td) (he:PE X e ty) (m:M1 X o "get" apos e cY):PE X (.Call (.Attribute o "get" apos) [e] [] cY) (Aw td ty):=by
  intro pins s σ H Q I h
  refine wpAny_Call_method m.base m.Hg m.line PySem.F.plainAttrs_dict PySem.F.slot_dict_get PySem.F.type_dict_get (bV (ho pins s σ H _ I h) fun u s1 ⟨x,H1,I1,rx,a,ex,d,q1⟩=>?_)
  subst ex
  obtain rfl:u=Value.ref a:=rx
  obtain ⟨t1,t2,_⟩:=D4 I1 d
  refine ⟨t1,t2,?_⟩
  rw [m.trees]
  refine Calls.callWith_builtin rfl (Calls.evalArgs_plain (Calls.spliced_cons (bV (he pins s1 σ H1 _ I1 q1) fun iv s2 ⟨y,H2,I2,ry,ov,g,q2⟩=>Calls.spliced_nil ?_)))
  exact KN hu I2 g ry fun w' s3 I3 rw'=>⟨_,H2,I3,rw',q2⟩
end
section
variable {X:Cx} {pins:List (Addr×Obj)} {σ:St} {H:Hp} {s:Shared} {a:Addr} {kvs:List (Key×V)} {A:Around} {E:Value→Shared→Prop}
end
section
variable {X:Cx} {pins:List (Addr×Obj)} {σ:St} {H:Hp} {s:Shared} {a:Addr} {y:V} {u:Value} {A:Around} {E:Value→Shared→Prop}
end
end L2
namespace Att
open PySem PySem.W PySem.Calls PyProof.Rows
theorem qS {P:Params} {h:Heap}:∀ (ns:List Int) (vs:List Value),WellAll P h vs (ns.map WData.int)→IntsAre vs ns:=by
  intro ns
  induction ns with
  | nil=>
    intro vs w
    rw [List.map_nil] at w
    cases w
    exact .nil
  | cons n ns ih=>
    intro vs w
    rw [List.map_cons] at w
    cases w with
    | cons a b=>
      cases a
      exact .cons _ _ (ih _ b)
theorem CA {l:OpenLaw} {n:Nat} (hn:l.most=some n) {P:Params} {h:Heap} {args:List WData} {vals:List Value}
    (Hh:l.row.toRowW.claim.pre args=true) (RD:WellAll P h vals args):
    ∃ a vs ns,vals=[Value.ref a]∧args=[WData.list (ns.map WData.int)]∧h.get? a=some { cls:=.type "list",data:=.seq vs.toArray }∧IntsAre vs ns∧ns.length≤n:=by
  have hsh:WShape.hasAll [] args [.list .int]=true:=(pre_splitW Hh).1
  have hc:l.pre.holds [] { args:=args }=true:=(pre_splitW Hh).2
  obtain ⟨d,r,rfl,h1,h2⟩:=hasAllW_cons hsh
  obtain rfl:=hasAllW_nil h2
  obtain ⟨xs,rfl,h3⟩:=hasW_list h1
  obtain ⟨ns,rfl⟩:=items_int h3
  have hlen:ns.length≤n:=by
    unfold OpenLaw.pre at hc
    have h4:(WTm.not (.lt (.lit (.int (n:Int))) (.len (.arg 0)))).holds [] { args:=[.list (ns.map .int)] }=true:=by
      have h4:=(holds_andW hc).1
      rw [hn] at h4
      exact h4
    have h5:=condW_of h4 (w_not (w_lt w_lit (w_len_list (w_arg rfl))))
    rw [List.length_map] at h5
    refine Nat.le_of_not_lt fun q=>?_
    have q':(n:Int) < ((ns.length:Nat):Int):=by omega
    first
      | (rw [decide_eq_true q'] at h5;exact absurd h5 (by decide))
      | (simp at h5;omega)
  cases RD with
  | cons w1 w2=>
    cases w2
    cases w1 with
    | list ho hall=>exact ⟨_,_,ns,rfl,rfl,ho,qS ns _ hall,hlen⟩
theorem CB (l:OpenLaw) (args:List WData):l.row.toRowW.claim.post args (.bool true) args=true:=
  postW_of (r:=l.row.toRowW) (X:=(true==true))
    (show WShape.has [] (.bool true) .bool=true by first | rfl | decide | simp [WShape.has,WShape.arms,WShape.armsAll])
    (show (WTm.eq .res (.lit (.bool true))).value [] { args:=args,res:=some (.bool true),after:=args }=some (.bool (true==true)) from w_eq_bool (w_res rfl) w_lit) rfl
theorem za {l:OpenLaw} {n:Nat} {q:Program} {loose:List Str} {XP:(Str→Option Value)→Heap→Prop} {YP:World→Heap→Prop} {d:DefRec}
    (hn:l.most=some n) (ML:d.params.defaults=[])
    (call:∀ (w:World) (s₀ s₁:Shared) (mg mb:Str→Option Value) (fa:Addr) (o:Obj) (pm cd doc:Value) (a:Addr) (vs:List Value) (ns:List Int),
      Ground q loose [] XP w s₀ mg mb s₁.heap→YP w s₁.heap→
      s₁.heap.get? fa=some o→o.data=.func (docDef d.name d.params d.body d.scope pm cd doc)→s₁.heap.CodeRec cd d.name→mg d.name=some (.ref fa)→
      s₁.heap.get? a=some { cls:=.type "list",data:=.seq vs.toArray }→IntsAre vs ns→ns.length≤n→s₁.gens=#[]→
      codeAny (model l.prog w) callerA (.call (.ref fa) ⟨[.ref a],[]⟩) (fun r s'=>r=.ok (.ret (.bool true))∧OldK s₁.heap s'.heap∧s'.os=s₁.os∧AllBare s'.gens) s₁):
    WalkO q loose XP YP l.row.toRowW d [] (fun f vs=>PySem.call f vs):=by
  intro w s₀ s₁ mg mb G Y fa o pm cd doc dV kV ho hd yC hD hmg hg args vals as Hh hlay hrd RD hlo
  obtain rfl:dV=.none:=Dflts.none hD ML
  obtain rfl:kV=.none:=Dflts.noKw hD
  obtain ⟨a,vs,ns,rfl,rfl,hobj,hints,hlen⟩:=CA hn Hh RD
  refine enter_call (codeAny_mono (call w s₀ s₁ mg mb fa o pm cd doc a vs ns G Y ho (fd_plain hd) yC hmg hobj hints hlen hg) fun r s' hq=>?_)
  obtain ⟨rfl,h2,h3,h4⟩:=hq
  exact ⟨.inl ⟨.bool true,.bool true,[],rfl,fun _=>rfl,.bool true,CB l _,fun _=>⟨List.Pairwise.nil,fun _ hm=>(nomatch hm)⟩⟩,h2,h3,h4⟩
section
variable {prog:Program} {w:World} {A:Around} {E:Value→Shared→Prop} {s:Shared} {K:Frag}
end
end Att
namespace L2
open PySem PySem.Spec PyProof.Rows
theorem u9:∀ {vs:List Value} {ns:List Int},IntsAre vs ns→Vals (ns.map V.int) vs
  | _,_,.nil=>.nil
  | _,_,.cons n t h=>.cons ⟨t,rfl⟩ (u9 h)
def Hi (H:Hp):Prop:=∀ b,H b=none∨∃ o xs,H b=some (.jt o (.lst xs))
theorem D7 {P:Program} {w:World} {K:PySem.W.Frag} {mg mb:Str→Option Value} {CX:uy} {k:Nat} {fa a:Addr} {fd:FuncData} {x:Str} {sp:Sp} {s₁:Shared} {vs:List Value} {ns:List Int}
    (KX:K.In s₁.heap) (hns:s₁.heap.Ns mainGlobals mg) (hb:s₁.heap.Ns builtinsNs mb) (hbb:∀ x:Str,x≠"__name__"→mb x=bootBuiltins x) (RE:s₁.heap.NoLimit) (hg:s₁.gens=#[])
    (ha:s₁.heap.get? a=some { cls:=.type "list",data:=.seq vs.toArray }) (hi:IntsAre vs ns) (hl:ns.length≤sizeLine) (hr:dJ k callerA)
    (F:∀ base:Heap,K.In base→base.Ns mainGlobals mg→aT P w K mg base CX k fa fd [x] sp) (MM:∀ (s:Shared) (u:Value),BindsTo s fd ⟨[u],[]⟩ [(x,u)])
    (Bu:∀ H:Hp,Hi H→cz K H a (ns.map V.int)→sp [.ref a] H (fun v _=>v=.bl true) fun _ _ _=>False)
    (RG:∀ H e s',CX [] H s₁ (fun _ _ _=>False) e s'→False):
    codeAny (model P w) callerA (.call (.ref fa) ⟨[.ref a],[]⟩) (fun r s'=>r=.ok (.ret (.bool true))∧OldK s₁.heap s'.heap∧s'.os=s₁.os∧AllBare s'.gens) s₁:=by
  have rv:=u9 hi
  have RH:=hi.length
  have core:∀ H:Hp,Hi H→cz K H a (ns.map V.int)→mY P w H s₁.heap→(∀ b,H b≠none→b=a)→(H a≠none→K.lookup a=none)→
      codeAny (model P w) callerA (.call (.ref fa) ⟨[.ref a],[]⟩) (fun r s'=>r=.ok (.ret (.bool true))∧OldK s₁.heap s'.heap∧s'.os=s₁.os∧AllBare s'.gens) s₁:=by
    intro H hO hS bC hA hK
    have BC:∀ {b:Addr} {o:Obj},s₁.heap.get? b=some o→H b=none→(vO s₁.heap H).get? b=some o:=fun e n=>DA e n
    have MC:∀ {b:Addr} {o:Obj} {es:Array DictEntry} {ep:Nat},s₁.heap.get? b=some o→o.data=.dict es ep→H b=none:=fun {b o es ep} e d=>by
      cases q:H b with
      | none=>rfl
      | some u=>
        have e':b=a:=hA b (by rw [q];simp)
        subst e'
        rw [ha] at e;cases e
        have d':Data.seq vs.toArray _=Data.dict es ep:=d
        cases d'
    have Pe:∀ {b:Addr} {m:Str→Option Value},s₁.heap.Ns b m→(vO s₁.heap H).Ns b m:=fun {b m} ⟨o,es,ep,e,d,r⟩=>⟨o,es,ep,BC e (MC e d),d,r⟩
    have hKb:K.In (vO s₁.heap H):=fun b o e=>BC (KX b o e) (by
      cases q:H b with
      | none=>rfl
      | some u=>
        have e':b=a:=hA b (by rw [q];simp)
        subst e'
        rw [hK (by rw [q];simp)] at e;cases e)
    have hM:Mod K mg (vO s₁.heap H):=⟨hKb,Pe hns,⟨mb,Pe hb,hbb⟩,let ⟨mc,h1,h2⟩:=RE;⟨mc,Pe h1,h2⟩⟩
    have e0:sf P w K mg (vO s₁.heap H) callerA [] s₁ H:=⟨rfl,hM,fun b o e=>Gu e,Nat.le_of_eq (Ca _ _),trivial,fun b hb=>absurd (show b∈([]:List Addr) from hb) (by simp),bC,.of_eq hg⟩
    refine codeAny_mono ((F _ hKb (Pe hns)).run callerA [] s₁ H ⟨[.ref a],[]⟩ [.ref a] [.ref a] _ _ hr e0 (MM s₁ (.ref a)) (.cons rfl .nil) (Bu H hO hS)) fun r s' h=>?_
    cases r with
    | error e=>exact (RG H e s' h).elim
    | ok fl=>
      cases fl with
      | next=>exact False.elim h
      | brk=>exact False.elim h
      | cont=>exact False.elim h
      | ret u=>
        obtain ⟨v,H',os,bare,un,hok',r',q⟩:=h
        have q':v=.bl true:=q
        subst q'
        obtain rfl:u=Value.bool true:=r'
        refine ⟨rfl,OldK.of_keep fun b o e=>?_,os,bare⟩
        cases q:H b with
        | none=>exact un.keep b o e q (by intro z;exact absurd (show b∈([]:List Addr) from z) (by simp)) (by simp)
        | some u=>
          rcases hO b with z | ⟨ob,xs,z⟩
          · rw [q] at z;cases z
          · have z2:=un.ju b ob _ z
            obtain ⟨e1,_⟩:=bC b _ z
            obtain ⟨e2,_⟩:=hok' b _ z2
            rw [e] at e1;cases e1
            exact e2
  cases hk:K.lookup a with
  | some o=>
    have e:=KX a o hk
    rw [ha] at e
    cases e
    refine core (fun _=>none) (fun _=>.inl rfl) (.inr ⟨_,vs.toArray,_,hk,rfl,rfl,rfl,by rw [List.size_toArray,RH];exact hl,by simpa using rv⟩) (fun b u z=>by have z':(none:Option HO)=some u:=z;cases z') (fun b z=>absurd rfl z) fun z=>absurd rfl z
  | none=>
    refine core (fun b=>if b=a then some (.jt { cls:=.type "list",data:=.seq vs.toArray } (.lst (ns.map V.int))) else none) (fun b=>?_) (.inl (.inr ⟨{ cls:=.type "list",data:=.seq vs.toArray },if_pos rfl⟩)) (fun b u z=>?_) (fun b z=>?_) fun _=>hk
    · by_cases hb:b=a
      · exact .inr ⟨_,_,if_pos hb⟩
      · exact .inl (if_neg hb)
    · by_cases hb:b=a
      · have z':=(if_pos hb).symm.trans z
        cases z'
        subst hb
        exact ⟨ha,by rw [List.length_map];exact hl,vs,_,rv,ha⟩
      · have z':=(if_neg hb).symm.trans z
        cases z'
    · by_cases hb:b=a
      · exact hb
      · exact absurd (if_neg hb) z
end L2
namespace L2
open PySem PySem.Spec PyProof.Rows
theorem Hj {l:PySem.W.OpenLaw} {n k:Nat} {q:Program} {loose:List Str} {XP:(Str→Option Value)→Heap→Prop} {YP:World→Heap→Prop} {d:DefRec} {K:Params→PySem.W.Frag} {CX:World→uy} {sp:World→Sp} {x:Str}
    (hn:l.most=some n) (Pc:n≤sizeLine) (ML:d.params.defaults=[]) (hr:dJ k callerA)
    (hY:∀ (w:World) (h:Heap),YP w h→(K w.params).In h)
    (F:∀ (w:World) (mg:Str→Option Value) (fa:Addr) (h:Heap),(K w.params).In h→h.Ns mainGlobals mg→mg d.name=some (.ref fa)→
      ∃ fd:FuncData,(∀ (s:Shared) (u:Value),BindsTo s fd ⟨[u],[]⟩ [(x,u)])∧
        ∀ base:Heap,(K w.params).In base→base.Ns mainGlobals mg→aT l.prog w (K w.params) mg base (CX w) k fa fd [x] (sp w))
    (Bu:∀ (w:World) (H:Hp) (a:Addr) (ns:List Int),ns.length≤n→Hi H→cz (K w.params) H a (ns.map V.int)→sp w [.ref a] H (fun v _=>v=.bl true) fun _ _ _=>False)
    (RG:∀ (w:World) (H:Hp) (s:Shared) (e:Value) (s':Shared),CX w [] H s (fun _ _ _=>False) e s'→False):
    PySem.W.WalkO q loose XP YP l.row.toRowW d [] (fun f vs=>PySem.call f vs):=by
  refine Att.za hn ML fun w s₀ s₁ mg mb fa o pm cd doc a vs ns G Y ho hd yC hmg hobj hints hlen hg=>?_
  have KX:=hY w _ Y
  obtain ⟨fd,hb,hF⟩:=F w mg fa _ KX G.T.g hmg
  exact D7 KX G.T.g G.T.b G.T.builtins G.T.nolimit hg hobj hints (Nat.le_trans hlen Pc) hr hF hb (fun H hO hS=>Bu w H a ns hlen hO hS) fun H e s'=>RG w H s₁ e s'
end L2
namespace L2
open PySem PySem.Spec PyProof.Rows
def inClass (s:Stmt) (j:Nat):Stmt:=match s with
  | .ClassDef _ _ _ body _ _ _ _ _ _ _=>body.getD j (.Pass ⟨0,0,0,0⟩)
  | _=>.Pass ⟨0,0,0,0⟩
def aF (s:Stmt):Arguments:=match s with
  | .FunctionDef _ a _ _ _ _ _ _ _ _=>a
  | _=>{ posonlyargs:=[],args:=[],vararg:=none,kwonlyargs:=[],kw_defaults:=[],kwarg:=none,defaults:=[] }
def au (s:Stmt):List Stmt:=match s with
  | .FunctionDef _ _ b _ _ _ _ _ _ _=>b
  | _=>[]
def aj (s:Stmt):Scope:=match s with
  | .FunctionDef _ _ _ _ _ _ sc _ _ _=>sc
  | _=>{ kind:=.function,names:=[],isGenerator:=false,isCoroutine:=false }
abbrev eK:uy:=fun _ _ _ _ _ _=>False
abbrev E0:XK:=fun _ _ _=>False
theorem zb {X:Cx}:Passes eK X E0:=fun _ _ _ _ _ _ _ h=>h.elim
structure fL (K:PySem.W.Frag) (x qual:Str) (st:Stmt) (f:Addr) (fd:FuncData):Prop where
  ex:∃ (oc:Value) (od:Option Addr) (kV doc pm:Value) (an:Option Addr) (cE ct:Value) (Co:Array (Option Value)),
    fd=PySem.W.fnOf x qual (aF st) (au st) (aj st) .none kV doc pm an cE ct∧K.lookup f=some ⟨oc,od,.func fd,Co⟩∧PySem.W.codeIn K cE qual=true
  kp:PySem.W.keepIn K (.ref f)=true
section
variable {P:Program} {w:World} {K:PySem.W.Frag} {mg:Str→Option Value} {base:Heap}
theorem fL.ok {x qual:Str} {st:Stmt} {f:Addr} {fd:FuncData} {N ps:List Str} {k:Nat} {sp:Sp} (F:fL K x qual st f fd) (S:aG N ps (aj st)) (len:∀ vs H Q E,sp vs H Q E→vs.length=ps.length)
    (jH:∀ (cE:Value) (A:Around) (outer:List Env) (s:Shared) (H:Hp) (vs:List V) (Q:VK) (E:XK),dJ k (A.deeper (envOfC qual (aj st) s.heap.objs.size f cE))→sp vs H Q E→
      ∃ t,z8 (jw eK P w K mg base N qual (aj st) f cE A outer s H E).Du (au st) t∧t { nx:=fun _ H'=>Q .cG H',rt:=Q } (start N vs) H):aT P w K mg base eK (k + 1) f fd ps sp:=by
  obtain ⟨oc,od,kV,doc,pm,an,cE,ct,Co,rfl,lk,yC⟩:=F.ex
  refine Bt lk yC S len fun A outer s H vs Q E hr Bu=>?_
  obtain ⟨t,h,q⟩:=jH cE A outer s H vs Q E hr Bu
  exact ⟨t,h.Du,q⟩
theorem fL.binds {x qual:Str} {st:Stmt} {f:Addr} {fd:FuncData} {ps:List Str} (F:fL K x qual st f fd)
    (h:∀ (kV doc pm:Value) (an:Option Addr) (cE ct:Value) (us:List Value),us.length=ps.length→bindArgs (PySem.W.fnOf x qual (aF st) (au st) (aj st) .none kV doc pm an cE ct) ⟨us,[]⟩=pure (ps.zip us)):Binds K fd ps []:=by
  obtain ⟨oc,od,kV,doc,pm,an,cE,ct,Co,rfl,lk,yC⟩:=F.ex
  exact .all (h kV doc pm an cE ct)
theorem aQ {x qual:Str} {st:Stmt} {f:Addr} {oc:Value} {od an:Option Addr} {Co:Array (Option Value)} {kV doc pm cE ct:Value} (l:K.lookup f=some ⟨oc,od,.func (PySem.W.fnOf x qual (aF st) (au st) (aj st) .none kV doc pm an cE ct),Co⟩)
    (c:PySem.W.codeIn K cE qual=true) (k:PySem.W.keepIn K (.ref f)=true):fL K x qual st f (PySem.W.fnOf x qual (aF st) (au st) (aj st) .none kV doc pm an cE ct):=⟨⟨oc,od,kV,doc,pm,an,cE,ct,Co,rfl,l,c⟩,k⟩
end
theorem CC {n:Nat} (h:n≤1000):n < sizeLine:=Nat.lt_of_le_of_lt h (by decide)
section
variable {X:Cx}
end
theorem MN {A B:Prop} (h:A):if true=true then A else B:=by
  rw [if_pos rfl]
  exact h
theorem Ax {c A B:Prop} [Decidable c] (h1:c→A) (h2:¬ c→B):if c then A else B:=by
  by_cases h:c
  · rw [if_pos h]
    exact h1 h
  · rw [if_neg h]
    exact h2 h
def oJ (H H':Hp):Prop:=∀ b o,H b=some o→H' b=some o
theorem oJ.refl (H:Hp):oJ H H:=fun _ _ h=>h
theorem oJ.trans {H H1 H2:Hp} (a:oJ H H1) (b:oJ H1 H2):oJ H H2:=fun c o h=>b c o (a c o h)
theorem oJ.free {H H':Hp} (e:oJ H H') {l:Addr} (h:H' l=Option.none):H l=Option.none:=by
  cases q:H l with
  | none=>rfl
  | some o=>
    rw [e l o q] at h
    cases h
theorem oJ.seq {K:PySem.W.Frag} {H H':Hp} {a:Addr} {xs:List V} (e:oJ H H') (h:cz K H a xs):cz K H' a xs:=by
  rcases h with (h | ⟨o,h⟩) | h
  · exact .inl (.inl (e _ _ h))
  · exact .inl (.inr ⟨o,e _ _ h⟩)
  · exact .inr h
section
variable {X:Cx}
theorem CD:cX X (.builtin "len") (fun xs H Q=>∃ a kvs,xs=[V.ref a]∧H a=some (.dK kvs)∧Q (.int kvs.length) H):=by
  intro pins s σ H xs us Q I r h
  obtain ⟨a,kvs,rfl,ha,q⟩:=h
  obtain ⟨u,rfl,ru⟩:=vals1 r
  cases ru
  exact MK I (.inl ha) fun t s' I'=>⟨.int kvs.length,H,I',⟨t,rfl⟩,q⟩
end
section
variable {κ:Type} [DecidableEq κ]
end
end L2
set_option Elab.async false
set_option linter.all false
set_option maxRecDepth 100000
namespace L2
open PySem PySem.Spec PyProof.Rows
section
variable {X:Cx}
def KO (_ j:Int):Prop:=0 < j∧j < 10 ^ 100
theorem sD:jE X (binaryOp .FloorDiv) (rI KO fun i j=>.int (i / j)):=Pb fun i j _ _ _ _ _ hc q=>by
  have h0:0 < j:=hc.1
  have h1:j < 10 ^ 100:=hc.2
  refine floordiv_int (by omega) ?_ (.inl (PyProof.noPylong_of_log2 ?_))
  · rw [Int.fdiv_eq_ediv_of_nonneg _ (by omega)]
    exact q
  · have h2:j.natAbs < 10 ^ 100:=by omega
    have h3:(10:Nat) ^ 100≤2 ^ 9000:=by decide +kernel
    exact (Nat.log2_lt (by omega)).mpr (Nat.lt_of_lt_of_le h2 h3)
end
structure Callee (P:Program) (w:World) (K:PySem.W.Frag) (mg:Str→Option Value) (base:Heap) (x:Str) (k:Nat) (ps:List Str) (sp:Sp):Prop where
  ex:∃ (f:Addr) (fd:FuncData),aT P w K mg base eK k f fd ps sp∧Binds K fd ps []∧PySem.W.keepIn K (.ref f)=true∧mg x=some (.ref f)
section
variable {X:Cx} {x:Str} {k:Nat} {ps:List Str} {sp:Sp} {e:Expr} {es:List Expr} {t:TA} {p pos:Pos}
theorem D8 (C:Callee X.prog X.w X.K X.mg X.base x k ps sp) (hr:dJ k X.A) (hg:Gl X x) (ha:PA X (e::es) t)
    (qB:(x==("__debug__":Str))=false:=by decide) (he:starEach (e::es) X.env=(false,eval e X.env)::starEach es X.env:=by rfl) (qC:(backTo pos (starEach es X.env)).any (·.1)=false:=by rfl):
    PE X (.Call (.Name x p) (e::es) [] pos) (jh sp [] E0 t):=by
  intro pins s σ H Q I h
  obtain ⟨f,fd,F,b,kp,m⟩:=C.ex
  have G:aT X.prog X.w X.K X.mg X.base (fun _ _ _ _ _ _=>False) k f fd ps sp:=F
  exact GQ F hr hg m kp b .nil zb ha qB he qC pins s σ H Q I h
end
end L2
namespace L2
open PySem PySem.Spec PyProof.Rows
def MO (t u:TS):TS:=fun D σ H=>∃ J:St→Hp→Prop,t { D with nx:=J } σ H∧∀ σ1 H1,J σ1 H1→u D σ1 H1
section
variable {X:Cx} {st:Stmt} {rest:List Stmt} {t u:TS}
theorem Hl (h1:PS X st t) (h2:z8 X rest u):z8 X (st::rest) (MO t u):=by
  intro pins s σ H D I h
  obtain ⟨J,h,hJ⟩:=h
  refine wpAny_execs_cons (bV (h1 pins s σ H { D with nx:=J } I h) fun f s1 q=>?_)
  cases f with
  | next=>
    obtain ⟨σ',H',I',q⟩:=q
    exact h2 pins s1 σ' H' D I' (hJ _ _ q)
  | ret v=>exact q
  | brk=>exact q
  | cont=>exact q
end
section
variable {α:Type} {a b c d:α} {r:List α}
theorem ve:yV (a::r) 0=some a:=oz (j:=0) rfl
theorem vf:yV (a::b::r) 1=some b:=oz (j:=1) rfl
theorem vg:yV (a::b::c::r) 2=some c:=oz (j:=2) rfl
theorem vh:yV (a::b::c::d::r) 3=some d:=oz (j:=3) rfl
end
def sE (H:Hp) (p:Addr):Option (List V):=match H p with
  | some (.lst xs)=>some xs
  | some (.tup xs)=>some xs
  | some (.jt _ (.lst xs))=>some xs
  | _=>none
theorem CG {H:Hp} {p:Addr} {xs:List V} (h:H p=some (.lst xs)):sE H p=some xs:=by unfold sE;rw [h]
theorem CH {H:Hp} {p:Addr} {xs:List V} (h:H p=some (.tup xs)):sE H p=some xs:=by unfold sE;rw [h]
section
variable {X:Cx}
def CI:R2:=fun x y H Q=>∃ p i xs v,x=.ref p∧y=.int i∧sE H p=some xs∧yV xs i=some v∧Q v H
theorem CJ:cX X (.type "int") (fun xs H Q=>∃ k,xs=[.bl k]∧Q (.int (if k=true then 1 else 0)) H):=by
  intro pins s σ H xs us Q I r h
  obtain ⟨k,rfl,q⟩:=h
  exact pL pins s σ H _ us Q I r (.inr ⟨k,rfl,q⟩)
end
end L2
namespace L2
open PySem PySem.Spec PyProof.Rows
theorem j7:bootBuiltins "len"=some (.builtin "len"):=by decide +kernel
theorem aH:bootBuiltins "isinstance"=some (.builtin "isinstance"):=by decide +kernel
theorem CK:bootBuiltins "sorted"=some (.builtin "sorted"):=by decide +kernel
theorem D9:bootBuiltins "all"=some (.builtin "all"):=by decide +kernel
theorem sF:bootBuiltins "int"=some (.type "int"):=by decide +kernel
theorem BD:bootBuiltins "bool"=some (.type "bool"):=by decide +kernel
theorem nC:bootBuiltins "str"=some (.type "str"):=by decide +kernel
theorem jj:bootBuiltins "list"=some (.type "list"):=by decide +kernel
theorem lN:bootBuiltins "tuple"=some (.type "tuple"):=by decide +kernel
theorem BE:bootBuiltins "dict"=some (.type "dict"):=by decide +kernel
theorem KP:bootBuiltins "zip"=some (.type "zip"):=by decide +kernel
theorem zc:bootBuiltins "reversed"=some (.type "reversed"):=by decide +kernel
end L2
namespace L2
open PySem PySem.Spec PyProof.Rows
theorem LR {CX:uy} {P:Program} {w:World} {K:PySem.W.Frag} {mg:Str→Option Value} {base:Heap} {N:List Str} {qual:Str} {scope:Scope} {f:Addr} {cd:Value} {A:Around} {outer:List Env} {s:Shared} {H:Hp} {E:XK}:
    (jw CX P w K mg base N qual scope f cd A outer s H E).K=K:=rfl
end L2
namespace L2
open PySem PySem.Spec PyProof.Rows
theorem pN:Cr 1 0=some 0:=rfl
theorem pO:Cr 2 0=some 0:=rfl
theorem pP:Cr 2 1=some 1:=rfl
theorem pQ:Cr 3 0=some 0:=rfl
theorem pR:Cr 3 1=some 1:=rfl
theorem pS:Cr 3 2=some 2:=rfl
theorem gR {H:Hp} {p:Addr} {xs:List V}:sE (upd H p (.lst xs)) p=some xs:=CG ai
theorem gS {H:Hp} {p:Addr} {xs:List V}:sE (upd H p (.tup xs)) p=some xs:=CH ai
theorem pT {α:Type} {xs:List α} {k:Int} (h0:0≤k) (h1:k < (xs.length:Int)):∃ v,yV xs k=some v∧v∈xs:=by
  have hk:k.toNat < xs.length:=by omega
  have e:k=((k.toNat:Nat):Int):=by omega
  have q:yV xs ((k.toNat:Nat):Int)=some xs[k.toNat]:=oz (List.getElem?_eq_getElem hk)
  rw [← e] at q
  exact ⟨_,q,List.getElem_mem hk⟩
theorem Ea {n:Nat} (h:n≤1000):n≤sizeLine:=Nat.le_of_lt (CC h)
end L2
namespace L2
open PySem PySem.Spec PyProof.Rows
structure RI (Q:VK):Type where
  n:Nat
def Cal (sp:Sp) (vs:List V) (H:Hp) (Q:VK) (_:RI Q) (E:XK):Prop:=sp vs H Q E
theorem pU {sp:Sp} {iL:List V} {E:XK} {t:TA} {σ:St} {H:Hp} {Q:VK}:jh sp iL E t σ H Q=t σ H (fun vs H1=>Cal sp (vs++iL) H1 Q ⟨0⟩ E):=rfl
section
variable {X:Cx} {pos p1 p2:Pos} {j1 j2:Nat}
theorem Ho {a b:Int} (v:Int) (h:decide (0≤b∧b≤1000000∧a.natAbs < 2 ^ 64∧a ^ b.toNat=v)=true:=by decide +kernel):PE X (.BinOp (.Constant (.int a) j1 p1) .Pow (.Constant (.int b) j2 p2) pos) (tC (.int v)):=by
  intro pins s σ H Q I q
  obtain ⟨h1,h2,h3,h4⟩:=of_decide_eq_true h
  refine IK Ka Ad Ad pins s σ H Q I ⟨a,b,rfl,rfl,⟨h1,h2,h3⟩,?_⟩
  show Q (V.int (a ^ b.toNat)) H
  rw [h4]
  exact q
end
end L2
namespace L2
open PySem PySem.Spec PyProof.Rows
theorem iV {H:Hp} {a b:Addr} {o:HO}:upd H a o b=none↔b≠a∧H b=none:=by
  unfold upd
  by_cases h:b=a
  · simp [h]
  · simp [h]
end L2
namespace L2
open PySem PySem.Spec PyProof.Rows
def Loop (J:It) (g:TG) (tb:TS) (D:Ends) (σ:St) (H:Hp):Prop:=∃ W:Nat→Nat→St→Hp→Prop,(∃ m,W 0 m σ H)∧∀ i m σ H,W i m σ H→
  (J.stop i H∧D.nx σ H)∨(J.go i H∧∃ N:St→Hp→Prop,(∀ σ' H',N σ' H'→∃ m',m' < m∧W (i + 1) m' σ' H')∧∀ x H',J.JV i H x H'→g x σ H' fun σ2 H2=>tb { D with nx:=N,ct:=N,bk:=D.nx } σ2 H2)
section
variable {K:PySem.W.Frag} {ta:TA} {tl:TE} {g:TG} {tb:TS} {D:Ends} {σ:St} {H:Hp} {a:Addr} {xs:List V} {lo:Int} {n:Nat}
theorem iM:Ag (II ta) g tb D σ H=ta σ H (fun vs H1=>∃ j:Int,vs=[.int j]∧-(2 ^ 62)≤j∧j < 2 ^ 62∧Loop (Ms 0 j.toNat) g tb D σ H1):=rfl
theorem iN:Ag (Mt ta) g tb D σ H=ta σ H (fun vs H1=>∃ i j:Int,vs=[.int i,.int j]∧(-(2 ^ 62)≤i∧i < 2 ^ 62∧-(2 ^ 62)≤j∧j < 2 ^ 62)∧Loop (Ms i (j - i).toNat) g tb D σ H1):=rfl
theorem cZ:Ag (yN K tl) g tb D σ H=tl σ H (fun x H1=>∃ a,x=.ref a∧(∃ xs,cz K H1 a xs)∧Loop (Cd K a) g tb D σ H1):=rfl
theorem jJ:Ag (GG K tl) g tb D σ H=tl σ H (fun x H1=>∃ a,x=.ref a∧(∃ xs,j0 K H1 a xs)∧Loop (LP K a) g tb D σ H1):=rfl
theorem vj (Pv:Nat→St→Hp→Prop) (h0:Pv 0 σ H) (hl:∀ i σ H,i≤xs.length→Pv i σ H→cz K H a xs)
    (hs:∀ i x σ H,xs[i]?=some x→Pv i σ H→g x σ H fun σ2 H2=>tb { D with nx:=Pv (i + 1),ct:=Pv (i + 1),bk:=D.nx } σ2 H2) (hd:∀ σ H,Pv xs.length σ H→D.nx σ H):Loop (Cd K a) g tb D σ H:=DK Pv h0 hl hs hd
end
end L2
set_option Elab.async false
set_option linter.all false
set_option maxRecDepth 100000
namespace L2
open PySem PySem.Spec PyProof.Rows
structure JE (X:Cx) (e:Expr) (t:TE):Prop where h:PE X e t
structure JT (X:Cx) (e:Expr) (t:TT):Prop where h:PT X e t
structure JW (X:Cx) (e:Expr) (t:TT):Prop where h:PW X e t
structure JA (X:Cx) (es:List Expr) (t:TA):Prop where h:PA X es t
structure JS (X:Cx) (st:Stmt) (t:TS):Prop where h:PS X st t
structure JB (X:Cx) (st:List Stmt) (t:TS):Prop where h:z8 X st t
structure JG (X:Cx) (e:Expr) (t:TG):Prop where h:PG X e t
structure MP (X:Cx) (es:List Expr) (t:Dv):Prop where h:Mn X es t
structure JI (X:Cx) (tg e:Expr) (t:TI):Prop where h:PI X tg e t
structure JO (X:Cx) (e:Option Expr) (t:TO):Prop where h:PO X e t
section
variable {X:Cx} {a b c e o:Expr} {es rest:List Expr} {ta tb tc te to:TE} {t tl:TA} {tA Mj:TT} {pos p p':Pos} {st:Stmt} {Gk MQ:List Stmt} {u v:TS}
theorem ev (i:Nat) {x:Str} (hN:X.N[i]?=some x:=by rfl) (hv:Jt X.env.scope x:=by first | exact Or.inl rfl | exact Or.inr (Or.inl rfl) | exact Or.inr (Or.inr rfl)) (hd:(x==("__debug__":Str))=false:=by decide)
    (yC:(x==("__classdict__":Str))=false:=by decide):JE X (.Name x pos) (oj i):=⟨Jv hN hv hd yC⟩
theorem ei {i j}:JE X (.Constant (.int i) j pos) (tC (.int i)):=⟨Ad⟩
theorem Ay {b j}:JE X (.Constant (.bool b) j pos) (tC (.bl b)):=⟨Mi⟩
theorem wc {j}:JE X (.Constant .none j pos) (tC .cG):=⟨Jw⟩
theorem bL {x j}:JE X (.Constant (.str x) j pos) (tC (.str x)):=⟨DC⟩
theorem kU {x:Str} {v:V} {u:Value} (hg:Gl X x) (hm:X.mg x=some u) (r:RelV v u) (hd:(x==("__debug__":Str))=false:=by decide):JE X (.Name x pos) (tC v):=⟨Gw hg hm r hd⟩
theorem j8 {x:Str} {n:String} (hg:Gl X x) (hm:X.mg x=none) (hv:bootBuiltins x=some (.type n)) (hn:x≠"__name__":=by decide) (hd:(x==("__debug__":Str))=false:=by decide):JE X (.Name x pos) (tC (.ty n)):=⟨Gx hg hm hv rfl hn hd⟩
theorem iW {op:Operator} {r:R2} (ho:jE X (binaryOp op) r) (ha:JE X a ta) (hb:JE X b tb):JE X (.BinOp a op b pos) (Bm r ta tb):=⟨IK ho ha.h hb.h⟩
theorem IV {a b:Int} {j1 j2:Nat} {p1 p2:Pos} (v:Int) (h:decide (0≤b∧b≤1000000∧a.natAbs < 2 ^ 64∧a ^ b.toNat=v)=true:=by decide +kernel):JE X (.BinOp (.Constant (.int a) j1 p1) .Pow (.Constant (.int b) j2 p2) pos) (tC (.int v)):=⟨Ho v h⟩
theorem eun {op:UnaryOp} {r:V→Hp→VK→Prop} (ho:Pa X (unaryOp op) r) (ha:JE X a ta):JE X (.UnaryOp op a pos) (IJ r ta):=⟨Mv ho ha.h⟩
theorem KQ (ha:JE X a ta):JE X (.UnaryOp .Not a pos) (qv ta):=⟨JD ha.h⟩
theorem qT {op} (h:JE X a ta):JE X (.BoolOp op [a] pos) ta:=⟨Jz h.h⟩
theorem qU (ha:JE X a ta) (hb:JE X (.BoolOp .And (b::rest) pos) tb):JE X (.BoolOp .And (a::b::rest) pos) (qu ta tb):=⟨JC ha.h hb.h⟩
theorem eor (ha:JE X a ta) (hb:JE X (.BoolOp .Or (b::rest) pos) tb):JE X (.BoolOp .Or (a::b::rest) pos) (yF ta tb):=⟨Ml ha.h hb.h⟩
theorem Pf (hc:JT X c tA) (ha:JE X a ta) (hb:JE X b tb):JE X (.IfExp c a b pos) (IG tA ta tb):=⟨DE hc.h ha.h hb.h⟩
theorem we {op:CmpOp} {r:R2} (ho:jE X (compareOp op) r) (ha:JE X a ta) (hb:JE X b tb) (hm:behindInMarks op b=false):JE X (.Compare a [op] [b] pos) (Bm r ta tb):=⟨GJ ho ha.h hb.h hm⟩
theorem KR {op Kf:CmpOp} {r r':R2} (ho:jE X (compareOp op) r) (DB:jE X (compareOp Kf) r') (ha:JE X a ta) (hb:JE X b tb) (hc:JE X c tc)
    (hm:lastMarks [op,Kf] [b,c]=false:=by with_unfolding_all rfl):JE X (.Compare a [op,Kf] [b,c] pos) (lG r r' ta tb tc):=⟨DN ho DB ha.h hb.h hc.h hm⟩
theorem jF {r:R2} (hr:Gj X r) (ha:JE X a ta) (hb:JE X b tb) (hs:BA b):JE X (.Subscript a b pos) (Bm r ta tb):=⟨MF hr ha.h hb.h hs⟩
theorem Eb {r:V→Option Int→Option Int→Hp→VK→Prop} {lo hi:Option Expr} {tl th:TO} (hr:Gi X r) (he:JE X e te) (hl:JO X lo tl) (hu:JO X hi th):JE X (.Subscript e (.Slice lo hi none p) pos) (IP r te tl th):=⟨DW hr he.h hl.h hu.h⟩
theorem aM {x:Str} {k:Nat} {ps:List Str} {sp:Sp} (C:Callee X.prog X.w X.K X.mg X.base x k ps sp) (hr:dJ k X.A) (hg:Gl X x) (ha:JA X (e::es) t)
    (qB:(x==("__debug__":Str))=false:=by decide) (he:starEach (e::es) X.env=(false,eval e X.env)::starEach es X.env:=by rfl) (qC:(backTo pos (starEach es X.env)).any (·.1)=false:=by rfl):
    JE X (.Call (.Name x p) (e::es) [] pos) (jh sp [] E0 t):=⟨D8 C hr hg ha.h qB he qC⟩
theorem bw {x:Str} {id:String} {r:List V→Hp→VK→Prop} (hc:cX X (.builtin id) r) (hg:Gl X x) (hm:X.mg x=none) (hv:bootBuiltins x=some (.builtin id)) (ha:JA X (e::es) t) (hn:x≠"__name__":=by decide) (qB:(x==("__debug__":Str))=false:=by decide)
    (he:starEach (e::es) X.env=(false,eval e X.env)::starEach es X.env:=by rfl) (qC:(backTo pos (starEach es X.env)).any (·.1)=false:=by rfl):JE X (.Call (.Name x p) (e::es) [] pos) (Gh r t):=⟨DU hc hg hm hv ha.h hn qB he qC⟩
theorem fM {x:Str} {T:String} {r:List V→Hp→VK→Prop} (hc:cX X (.type T) r) (hg:Gl X x) (hm:X.mg x=none) (hv:bootBuiltins x=some (.type T)) (ha:JA X (e::es) t) (hn:x≠"__name__":=by decide) (qB:(x==("__debug__":Str))=false:=by decide)
    (he:starEach (e::es) X.env=(false,eval e X.env)::starEach es X.env:=by rfl) (qC:(backTo pos (starEach es X.env)).any (·.1)=false:=by rfl):JE X (.Call (.Name x p) (e::es) [] pos) (Gh r t):=⟨Cp hc hg hm hv ha.h hn qB he qC⟩
theorem RJ {T id:String} {name:Str} {r:V→List V→Hp→VK→Prop} {apos cY:Pos} (pa:PlainAttrs T) (slot:Slot T name id) (KC:typeOf (.builtin id)=pure (.type "method_descriptor")) (hm:GX X id r) (ho:JE X o to)
    (lH:attributeBase o name X.env (eval o X.env)=eval o X.env:=by rfl) (lI:(apos.endLine==cY.line)=true:=by rfl):JE X (.Call (.Attribute o name apos) [] [] cY) (yW X.K T r to):=⟨KA pa slot KC hm ho.h lH lI⟩
theorem CL {T id:String} {name:Str} {r:V→List V→Hp→VK→Prop} {apos cY:Pos} (pa:PlainAttrs T) (slot:Slot T name id) (KC:typeOf (.builtin id)=pure (.type "method_descriptor")) (hm:GX X id r) (ho:JE X o to) (ha:JA X (e::es) t)
    (lH:attributeBase o name X.env (eval o X.env)=eval o X.env:=by rfl)
    (KD:((backTo cY (starEach (e::es) X.env)).all (fun x=>!x.1)&&(backToKw cY (keywordEach [] X.env)).all (fun x=>x.1.isSome)
      &&decide ((e::es).length + ([]:List Keyword).length + (if ([]:List Keyword).isEmpty then 0 else 1) < 30))=true:=by rfl)
    (lI:(apos.endLine==cY.line)=true:=by rfl) (hs:starEach (e::es) X.env=(false,eval e X.env)::starEach es X.env:=by rfl) (Ar:(backTo cY (starEach es X.env)).any (·.1)=false:=by rfl):
    JE X (.Call (.Attribute o name apos) (e::es) [] cY) (IS X.K T r to t):=⟨MH pa slot KC hm ho.h ha.h lH KD lI hs Ar⟩
theorem ay:JA X [] ou:=⟨DS⟩
theorem aa (ha:JE X e te) (hr:JA X es t) (hs:starEach (e::es) X.env=(false,eval e X.env)::starEach es X.env:=by rfl):JA X (e::es) (jg te t):=⟨Bs ha.h hr.h hs⟩
theorem iX {op:CmpOp} {r:R2} (ho:jE X (compareOp op) r) (ha:JE X a ta) (hb:JE X b tb) (hm:behindInMarks op b=false):JT X (.Compare a [op] [b] pos) (qz (Bm r ta tb)):=⟨GK ho ha.h hb.h hm⟩
theorem iY (h:JE X e te) (he:∀ whole,isTrue e X.env whole=(do let v ← whole;standAt e.pos;holding [v] (truthy v)):=by intro _;rfl):JT X e (tB te):=⟨Jx h.h he⟩
theorem Az (ha:JE X a ta) (he:∀ whole,isTrue a X.env whole=(do let v ← whole;standAt a.pos;holding [v] (truthy v))):
    JT X a (fun σ H Q=>ta σ H fun x H'=>∃ k,Kg X.K x H' k∧Q k H'):=⟨DO ha.h he⟩
theorem mZ (ha:JT X a tA):JT X (.UnaryOp .Not a pos) (yE tA):=⟨Jy ha.h⟩
theorem tw (h:JW X e tA):JT X e tA:=⟨PW.pt h.h⟩
theorem qV (ha:JT X a tA):JW X (.BoolOp .Or [a] pos) tA:=⟨pw_or1 ha.h⟩
theorem Dz (ha:JT X a tA) (hb:JW X (.BoolOp .Or (b::rest) pos) Mj):JW X (.BoolOp .Or (a::b::rest) pos) (IF tA Mj):=⟨pw_or ha.h hb.h⟩
theorem gy:JB X [] qw:=⟨Gy⟩
theorem aD (h1:JS X st u) (h2:JB X Gk v):JB X (st::Gk) (yH u v):=⟨DF h1.h h2.h⟩
theorem aV (h1:JS X st u):JB X [st] u:=⟨Gz h1.h⟩
theorem Hq (h1:JS X st u) (h2:JB X Gk v):JB X (st::Gk) (MO u v):=⟨Hl h1.h h2.h⟩
theorem fE (he:JE X e te) (hs:swapsWith e none pos.line X.env=pure false:=by rfl):JS X (.Expr e pos) (qy te):=⟨GC he.h hs⟩
theorem bT (he:JE X e te):JS X (.Return (some e) pos) (yI te):=⟨JH he.h⟩
theorem nF (hc:JT X c tA) (ha:JB X Gk u) (hb:JB X MQ v):JS X (.If c Gk MQ pos) (yJ tA u v):=⟨Mm hc.h ha.h hb.h⟩
theorem sset {i:Nat} {x:Str} (hN:X.N.Nodup) (hi:X.N[i]?=some x) (hx:Loc X.env.scope x) (he:JE X e te) (hs:swapsWith e (some (.Name x p)) pos.line X.env=pure false:=by rfl) (hf:X.fn x=true∨X.env.scope.names.lookup x=some .local:=by first | exact .inl rfl | exact .inr rfl | assumption):
    JS X (.Assign [.Name x p] e pos) (pI te (eN i)):=⟨JP hN hi hx he.h hs hf⟩
theorem uB {tg:Expr} {g:TG} (he:JE X e te) (hg:JG X tg g) (hs:swapsWithSole [tg] e pos.line X.env=pure false:=by rfl) (hw:swappedStores [tg] e X.env=pure none:=by rfl)
    (h1:(assignEach [tg] X.env).map (·.2)=[assign tg X.env]:=by rfl):JS X (.Assign [tg] e pos) (pI te g):=⟨JN he.h hg.h hs hw h1⟩
theorem KS {tg iter:Expr} {wi:TI} {g:TG} (hp:PassesOwn (model X.prog X.w) X.A X.env X.xe) (hc:X.calm=true) (hi:JI X tg iter wi) (hg:JG X tg g) (hb:JB X Gk u)
    (hs:∀ x,foldedSetIterable iter X.env x=pure x:=by intro _;rfl):JS X (.For tg iter Gk [] pos) (Ag wi g u):=⟨JY hp hc hi.h hg.h hb.h hs⟩
theorem Ec (hp:PassesOwn (model X.prog X.w) X.A X.env X.xe) (hc:JT X c tA) (hb:JB X Gk u):JS X (.While c Gk [] pos) (lB tA u):=⟨DI hp hc.h hb.h⟩
theorem bF {i:Nat} {x:Str} (hN:X.N.Nodup) (hi:X.N[i]?=some x) (hx:Loc X.env.scope x) (hf:X.fn x=true∨X.env.scope.names.lookup x=some .local:=by first | exact .inl rfl | exact .inr rfl | assumption):JG X (.Name x pos) (eN i):=⟨vQ hN hi hx hf⟩
theorem Hr {i:Expr} {ti:TE} {t:GD} (ho:JE X o to) (hi:JE X i ti) (hs:JJ X t)
    (ha:∀ v,assign (.Subscript o i pos) X.env v=(do
      let ov ← holding [v] (eval o X.env)
      let iv ← holding [v,ov] (eval i X.env)
      standAt pos
      holding [v,ov,iv] (setItem ov iv v)
      release [v,ov,iv] []):=by intro _;rfl):JG X (.Subscript o i pos) (yK to ti t):=⟨JM ho.h hi.h hs ha⟩
theorem uC:MP X [] rS:=⟨GF⟩
theorem cj {t:TG} {u:Dv} (h1:JG X e t) (h2:MP X es u) (hs:(assignEach (e::es) X.env).map (·.2)=assign e X.env::(assignEach es X.env).map (·.2):=by rfl):MP X (e::es) (je t u):=⟨DH h1.h h2.h hs⟩
theorem sG {tg l:Expr} (hl:JE X l te):JI X tg l (yN X.K te):=⟨GH hl.h⟩
theorem MR {tg l:Expr} (hl:JE X l te):JI X tg l (GG X.K te):=⟨JX hl.h⟩
theorem IW:JO X none ji:=⟨GU⟩
theorem IX (h:JE X e te):JO X (some e) (qD te):=⟨GV h.h⟩
end
section
variable {P:Program} {w:World} {K:PySem.W.Frag} {mg:Str→Option Value} {base:Heap}
theorem fL.iC {x qual:Str} {st:Stmt} {f:Addr} {fd:FuncData} {N ps:List Str} {k:Nat} {sp:Sp} (F:fL K x qual st f fd) (S:aG N ps (aj st)) (len:∀ vs H Q E,sp vs H Q E→vs.length=ps.length)
    (jH:∀ (cE:Value) (A:Around) (outer:List Env) (s:Shared) (H:Hp) (vs:List V) (Q:VK) (E:XK),dJ k (A.deeper (envOfC qual (aj st) s.heap.objs.size f cE))→sp vs H Q E→
      ∃ t,JB (jw eK P w K mg base N qual (aj st) f cE A outer s H E).Du (au st) t∧t { nx:=fun _ H'=>Q .cG H',rt:=Q } (start N vs) H):aT P w K mg base eK (k + 1) f fd ps sp:=
  F.ok S len fun cE A outer s H vs Q E hr h=>let ⟨t,a,b⟩:=jH cE A outer s H vs Q E hr h;⟨t,a.h,b⟩
end
end L2
set_option Elab.async false
set_option linter.all false
set_option maxRecDepth 100000
namespace L2
open PySem PySem.Spec PyProof.Rows
mutual
def Is (K:PySem.W.Frag) (H:Hp):PyData→V→Prop
  | .none,v=>v=.cG
  | .bool b,v=>v=.bl b
  | .int i,v=>v=.int i
  | .str x,v=>v=.str x
  | .list ds,v=>∃ a vs,v=.ref a∧cz K H a vs∧eE K H ds vs
  | .tuple ds,v=>∃ a vs,v=.ref a∧j0 K H a vs∧eE K H ds vs
  | .dict _,_=>False
def eE (K:PySem.W.Frag) (H:Hp):List PyData→List V→Prop
  | [],vs=>vs=[]
  | d::ds,vs=>∃ v r,vs=v::r∧Is K H d v∧eE K H ds r
end
section
variable {X:Cx} {pins:List (Addr×Obj)} {σ:St} {H:Hp} {s:Shared}
mutual
theorem Is.reads (I:Inv X pins σ H s):∀ {d:PyData} {v:V} {u:Value},Is X.K H d v→RelV v u→∃ as,Reads s.heap u d as
  | .none,v,u,h,r=>by unfold Is at h;subst h;cases r;exact ⟨_,.none⟩
  | .bool b,v,u,h,r=>by unfold Is at h;subst h;cases r;exact ⟨_,.bool b⟩
  | .int i,v,u,h,r=>by unfold Is at h;subst h;obtain ⟨t,rfl⟩:=r;exact ⟨_,.int i t⟩
  | .str x,v,u,h,r=>by unfold Is at h;subst h;obtain ⟨t,rfl⟩:=r;exact ⟨_,.str x t⟩
  | .list ds,v,u,h,r=>by
    unfold Is at h
    obtain ⟨a,vs,rfl,hs,ha⟩:=h
    cases r
    obtain ⟨aY,rv,⟨o,n,e,hc,_,hd⟩,_⟩:=I.list hs
    obtain ⟨as,q⟩:=eE.reads I ha rv
    exact ⟨_,.list e hc hd (by simpa using q)⟩
  | .tuple ds,v,u,h,r=>by
    unfold Is at h
    obtain ⟨a,vs,rfl,hs,ha⟩:=h
    cases r
    obtain ⟨aY,rv,⟨o,e,hc,n,hd⟩,_⟩:=I.tuple hs
    obtain ⟨as,q⟩:=eE.reads I ha rv
    exact ⟨_,.tuple e hc hd (by simpa using q)⟩
  | .dict _,v,u,h,r=>by unfold Is at h;exact h.elim
theorem eE.reads (I:Inv X pins σ H s):∀ {ds:List PyData} {vs:List V} {us:List Value},eE X.K H ds vs→Vals vs us→∃ as,ReadsAll s.heap us ds as
  | [],vs,us,h,r=>by unfold eE at h;subst h;cases r;exact ⟨_,.nil⟩
  | d::ds,vs,us,h,r=>by
    unfold eE at h
    obtain ⟨v,rs,rfl,h1,h2⟩:=h
    cases r with
    | cons r1 r2=>
      obtain ⟨as,q1⟩:=Is.reads I h1 r1
      obtain ⟨bs,q2⟩:=eE.reads I h2 r2
      exact ⟨_,.cons q1 q2⟩
end
end
section
variable {X:Cx}
def AA (K:PySem.W.Frag) (neg:Bool):R2:=fun x y H Q=>∃ d e,Is K H d x∧Is K H e y∧SeqAt.shaped d=true∧SeqAt.shaped e=true∧Q (.bl (if neg=true then !PyData.eqv d e else PyData.eqv d e)) H
theorem KU (hu:X.A.units + 64 < cLine):jE X (compareOp .Eq) (AA X.K false):=by
  intro pins s σ H x y v u Q I rx ry h
  obtain ⟨d,e,hd,he,sd,se,q⟩:=h
  obtain ⟨as,ra⟩:=hd.reads I rx
  obtain ⟨bs,rb⟩:=he.reads I ry
  exact SeqAt.compareEq_shaped ra rb sd se hu ⟨.bl _,H,I,rfl,q⟩
end
mutual
def Ed:PyData→Bool
  | .none=>true
  | .bool _=>false
  | .int _=>true
  | .str _=>true
  | .list ds=>lO ds
  | .tuple ds=>lO ds
  | .dict _=>false
def lO:List PyData→Bool
  | []=>true
  | d::ds=>Ed d&&lO ds
end
mutual
theorem BF:∀ {d e:PyData},Ed d=true→Ed e=true→(PyData.eqv d e=true↔d=e)
  | .none,e,hd,he=>by cases e <;> simp [PyData.eqv]
  | .bool _,e,hd,he=>by simp [Ed] at hd
  | .int i,e,hd,he=>by cases e <;> simp [PyData.eqv,Ed] at *
  | .str x,e,hd,he=>by cases e <;> simp [PyData.eqv,Ed] at *
  | .list ds,e,hd,he=>by
    cases e with
    | list es=>
      simp only [Ed] at hd he
      simp only [PyData.eqv,PyData.list.injEq]
      exact nG hd he
    | _=>simp [PyData.eqv]
  | .tuple ds,e,hd,he=>by
    cases e with
    | tuple es=>
      simp only [Ed] at hd he
      simp only [PyData.eqv,PyData.tuple.injEq]
      exact nG hd he
    | _=>simp [PyData.eqv]
  | .dict _,e,hd,he=>by simp [Ed] at hd
theorem nG:∀ {ds es:List PyData},lO ds=true→lO es=true→(PyData.eqvAll ds es=true↔ds=es)
  | [],es,_,_=>by cases es <;> simp [PyData.eqvAll]
  | d::ds,es,hd,he=>by
    cases es with
    | nil=>simp [PyData.eqvAll]
    | cons e es=>
      simp only [lO,Bool.and_eq_true] at hd he
      simp only [PyData.eqvAll,Bool.and_eq_true,List.cons.injEq]
      rw [BF hd.1 he.1,nG hd.2 he.2]
end
mutual
theorem Is.same {K:PySem.W.Frag} {H H':Hp} (h:oJ H H'):∀ {d:PyData} {v:V},Is K H d v→Is K H' d v
  | .none,v,q=>by unfold Is at q ⊢;exact q
  | .bool b,v,q=>by unfold Is at q ⊢;exact q
  | .int i,v,q=>by unfold Is at q ⊢;exact q
  | .str x,v,q=>by unfold Is at q ⊢;exact q
  | .list ds,v,q=>by
    unfold Is at q ⊢
    obtain ⟨a,vs,e,hs,ha⟩:=q
    exact ⟨a,vs,e,h.seq hs,eE.same h ha⟩
  | .tuple ds,v,q=>by
    unfold Is at q ⊢
    obtain ⟨a,vs,e,hs,ha⟩:=q
    refine ⟨a,vs,e,?_,eE.same h ha⟩
    rcases hs with (hs | ⟨o,hs⟩) | hs
    · exact .inl (.inl (h _ _ hs))
    · exact .inl (.inr ⟨o,h _ _ hs⟩)
    · exact .inr hs
  | .dict _,v,q=>by unfold Is at q;exact q.elim
theorem eE.same {K:PySem.W.Frag} {H H':Hp} (h:oJ H H'):∀ {ds:List PyData} {vs:List V},eE K H ds vs→eE K H' ds vs
  | [],vs,q=>by unfold eE at q ⊢;exact q
  | d::ds,vs,q=>by
    unfold eE at q ⊢
    obtain ⟨v,r,e,h1,h2⟩:=q
    exact ⟨v,r,e,Is.same h h1,eE.same h h2⟩
end
end L2
set_option Elab.async false
set_option linter.all false
set_option maxRecDepth 100000
namespace L2
open PySem PySem.Spec PyProof.Rows
theorem Ef:∀ {u:Value} {x:V},yG u=some x→RelV x u:=by
  intro u x h
  cases u <;> simp only [yG,Option.some.injEq] at h <;> first | (subst h;first | rfl | exact ⟨_,rfl⟩) | cases h
theorem Eg:∀ {us:List Value} {xs:List V},us.mapM yG=some xs→Vals xs us:=by
  intro us
  induction us with
  | nil=>intro xs h;simp at h;subst h;exact .nil
  | cons u us ih=>
    intro xs h
    rw [List.mapM_cons] at h
    cases e1:yG u with
    | none=>rw [e1] at h;simp at h
    | some x=>
      cases e2:us.mapM yG with
      | none=>rw [e1,e2] at h;simp at h
      | some ys=>
        rw [e1,e2] at h
        simp at h
        subst h
        exact .cons (Ef e1) (ih e2)
def jc (K:PySem.W.Frag) (a:Addr):Option (List V):=match K.lookup a with
  | some ⟨.type n,_,.seq aY _,_⟩=>if n="tuple" then (if aY.size≤sizeLine then aY.toList.mapM yG else none) else none
  | _=>none
theorem BG {K:PySem.W.Frag} {H:Hp} {a:Addr} {xs:List V} (h:jc K a=some xs):j0 K H a xs:=by
  unfold jc at h
  split at h
  · next n dd aY k sl e=>
    by_cases h1:n="tuple"
    · rw [if_pos h1] at h
      by_cases h2:aY.size≤sizeLine
      · rw [if_pos h2] at h
        subst h1
        exact .inr ⟨_,aY,k,e,rfl,rfl,h2,Eg h⟩
      · rw [if_neg h2] at h;cases h
    · rw [if_neg h1] at h;cases h
  · cases h
def tupQ (K:PySem.W.Frag) (H:Hp) (a:Addr):Option (List V):=match H a with
  | some (.tup xs)=>some xs
  | some _=>none
  | none=>jc K a
def jK (K:PySem.W.Frag) (H:Hp) (a:Addr):Option (List V):=match H a with
  | some (.lst xs)=>some xs
  | some (.tup xs)=>some xs
  | some (.jt _ (.lst xs))=>some xs
  | some _=>none
  | none=>jc K a
section
variable {K:PySem.W.Frag} {H H':Hp} {a b:Addr} {xs:List V} {o:HO}
theorem cH (h:tupQ K H a=some xs):j0 K H a xs:=by
  unfold tupQ at h
  split at h
  · next e=>cases h;exact .inl (.inl e)
  · cases h
  · exact BG h
theorem rH (h:jK K H a=some xs):cz K H a xs∨j0 K H a xs:=by
  unfold jK at h
  split at h
  · next e=>cases h;exact .inl (.inl (.inl e))
  · next e=>cases h;exact .inr (.inl (.inl e))
  · next e=>cases h;exact .inl (.inl (.inr ⟨_,e⟩))
  · cases h
  · exact .inr (BG h)
theorem cU (h:tupQ K H a=some xs):jK K H a=some xs:=by
  unfold tupQ at h
  unfold jK
  split at h
  · next e=>rw [e];exact h
  · cases h
  · next e=>rw [e];exact h
theorem bX (h:H a=some (.lst xs)):jK K H a=some xs:=by unfold jK;rw [h]
theorem Eh (h:H a=some (.tup xs)):jK K H a=some xs:=by unfold jK;rw [h]
theorem lP (h:H a=some (.tup xs)):tupQ K H a=some xs:=by unfold tupQ;rw [h]
theorem iO:jK K (upd H a (.lst xs)) a=some xs:=bX ai
theorem iP:jK K (upd H a (.tup xs)) a=some xs:=Eh ai
theorem aN:tupQ K (upd H a (.tup xs)) a=some xs:=lP ai
theorem gA (h:b≠a):tupQ K (upd H a o) b=tupQ K H b:=by unfold tupQ;rw [ao h]
structure Ext (K:PySem.W.Frag) (H H':Hp):Prop where
  same:oJ H H'
  mod:∀ a xs,H a=none→jc K a=some xs→H' a=none
theorem Ext.refl:Ext K H H:=⟨oJ.refl H,fun _ _ h _=>h⟩
theorem Ext.trans {H1 H2:Hp} (x:Ext K H H1) (y:Ext K H1 H2):Ext K H H2:=⟨x.same.trans y.same,fun a xs h k=>y.mod a xs (x.mod a xs h k) k⟩
theorem Ext.tup (x:Ext K H H') (h:tupQ K H a=some xs):tupQ K H' a=some xs:=by
  unfold tupQ at h ⊢
  split at h
  · next e=>rw [x.same _ _ e];exact h
  · cases h
  · next e=>rw [x.mod a xs e h];exact h
end
section
variable {X:Cx}
def zd (K:PySem.W.Frag):R2:=fun x y H Q=>∃ p i xs v,x=.ref p∧y=.int i∧jK K H p=some xs∧yV xs i=some v∧Q v H
theorem dW:Gj X (zd X.K):=by
  intro value slice pins s σ H x y v u Q I rx ry h hs
  obtain ⟨p,i,xs,z,rfl,rfl,hq,he,q⟩:=h
  rcases rH (K:=X.K) hq with h1 | h1
  · exact BB value slice pins s σ H _ _ v u Q I rx ry ⟨p,xs,i,z,rfl,rfl,h1,he,q⟩ hs
  · exact Kv value slice pins s σ H _ _ v u Q I rx ry ⟨p,xs,i,z,rfl,rfl,h1,he,q⟩ hs
theorem pV:cX X (.builtin "len") (fun xs H Q=>∃ p ys,xs=[.ref p]∧jK X.K H p=some ys∧Q (.int ys.length) H):=by
  intro pins s σ H xs us Q I r h
  obtain ⟨p,ys,rfl,hq,q⟩:=h
  exact oA pins s σ H _ us Q I r ⟨p,ys,rfl,rH hq,q⟩
end
end L2
namespace L2
open PySem PySem.Spec PyProof.Rows
def new (K:PySem.W.Frag) (H:Hp) (p:Addr):Prop:=H p=none∧jc K p=none
theorem eY {K:PySem.W.Frag} {H:Hp} {a p:Addr} {o:HO}:new K (upd H a o) p↔p≠a∧new K H p:=by
  unfold new
  rw [iV,and_assoc]
theorem vm {K:PySem.W.Frag} {a:Addr} (h:K.lookup a=none):jc K a=none:=by unfold jc;rw [h]
section
variable {X:Cx} {es:List Expr} {t:TA} {pos:Pos} {pins:List (Addr×Obj)} {σ:St} {H:Hp} {s:Shared}
theorem Inv.new (I:Inv X pins σ H s):L2.new X.K H s.heap.objs.size:=by
  refine ⟨I.bC.fresh (Nat.le_refl _),vm ?_⟩
  cases e:X.K.lookup s.heap.objs.size with
  | none=>rfl
  | some o=>exact absurd (Heap.lt_size (I.lq _ o e)) (Nat.lt_irrefl _)
def qH (K:PySem.W.Frag) (t:TA):TE:=fun σ H Q=>t σ H fun xs H1=>xs.length≤sizeLine∧∀ p,L2.new K H1 p→Q (.ref p) (upd H1 p (.tup xs))
def qI (K:PySem.W.Frag) (t:TA):TE:=fun σ H Q=>t σ H fun xs H1=>xs.length≤sizeLine∧∀ p,L2.new K H1 p→Q (.ref p) (upd H1 p (.lst xs))
theorem fz {k} (h:JA X es t):JE X (.Tuple es k pos) (qH X.K t):=⟨by
  intro pins s σ H Q I hq
  refine wpAny_Tuple_spliced (bV (h.h pos pins s σ H _ I hq) fun us s1 ⟨xs,H1,I1,r,z,q⟩=>⟨by rw [← r.length];exact z,?_⟩)
  refine ⟨.ref s1.heap.objs.size,upd H1 s1.heap.objs.size (.tup xs),I1.laid (t':=s1.toks) (fun b u e=>Heap.get?_push_of_some _ e) (Nat.le_refl _) ?_,rfl,q _ I1.new⟩
  exact ⟨z,us,r,⟨_,Heap.get?_push_size _ rfl,rfl,_,rfl⟩⟩⟩
theorem bB (h:JA X es t):JE X (.List es pos) (qI X.K t):=⟨by
  intro pins s σ H Q I hq
  refine wpAny_List_spliced (bV (h.h pos pins s σ H _ I hq) fun us s1 ⟨xs,H1,I1,r,z,q⟩=>⟨by rw [← r.length];exact z,?_⟩)
  refine ⟨.ref s1.heap.objs.size,upd H1 s1.heap.objs.size (.lst xs),I1.laid (t':=s1.toks) (fun b u e=>Heap.get?_push_of_some _ e) (Nat.le_refl _) ?_,rfl,q _ I1.new⟩
  exact ⟨z,us,0,r,Heap.get?_push_size _ rfl⟩⟩
theorem jx {st:Stmt}:JS X st lA:=⟨DG⟩
def sH (K:PySem.W.Frag):R2:=fun x y H Q=>∃ l b xs zs,x=.ref l∧y=.ref b∧H l=some (.lst xs)∧H b=some (.lst zs)∧xs.length + zs.length≤sizeLine∧∀ p,L2.new K H p→Q (.ref p) (upd H p (.lst (xs++zs)))
theorem mO:jE X (binaryOp .Add) (sH X.K):=by
  intro pins s σ H x y v u Q I rx ry h
  obtain ⟨l,b,xs,zs,rfl,rfl,hH,hB,hz,q⟩:=h
  cases rx
  cases ry
  obtain ⟨z,aY,n,r,hl,e⟩:=I.Cu hH
  obtain ⟨z2,its2,n2,r2,hl2,e2⟩:=I.Cu hB
  refine PySem.P.add_list e e2 ?_ (by rw [List.size_toArray,List.size_toArray];omega)
  have ea:aY.toArray++its2.toArray=(aY++its2).toArray:=by simp
  rw [ea]
  exact ⟨.ref _,_,I.RB (t':=s.toks) (r.append r2) (by rw [List.length_append];omega),rfl,q _ I.new⟩
end
structure Kp (K:PySem.W.Frag) (p:Addr) (H H':Hp):Prop where
  keep:∀ q o,H q=some o→q≠p→H' q=some o
  mod:∀ a xs,H a=none→jc K a=some xs→H' a=none
section
variable {K:PySem.W.Frag} {p a:Addr} {H H' H1 H2:Hp} {xs ys:List V} {o:HO}
theorem Kp.refl:Kp K p H H:=⟨fun _ _ h _=>h,fun _ _ h _=>h⟩
theorem Kp.trans (x:Kp K p H H1) (y:Kp K p H1 H2):Kp K p H H2:=⟨fun q o h n=>y.keep q o (x.keep q o h n) n,fun a xs h k=>y.mod a xs (x.mod a xs h k) k⟩
theorem Kp.upd (h:H p=some (.lst xs)):Kp K p H (upd H p o):=⟨fun q u e n=>by rw [ao n];exact e,fun b ys e _=>by rw [ao (fun z=>by rw [z,h] at e;cases e)];exact e⟩
theorem Kp.new {q:Addr} (h:L2.new K H q):Kp K p H (L2.upd H q o):=⟨fun r u e _=>by rw [ao (aJ e h.1)];exact e,fun b ys e k=>by rw [ao (fun z=>by rw [z,h.2] at k;cases k)];exact e⟩
theorem Kp.tup (x:Kp K p H H') (hp:H p=some (.lst ys)) (h:tupQ K H a=some xs):tupQ K H' a=some xs:=by
  unfold tupQ at h ⊢
  split at h
  · next e=>rw [x.keep _ _ e (IA e hp (by intro z;cases z))];exact h
  · cases h
  · next e=>rw [x.mod a xs e h];exact h
theorem Ext.new {q:Addr} (h:L2.new K H q):Ext K H (L2.upd H q o):=⟨fun b u e=>by rw [ao (aJ e h.1)];exact e,fun b ys e k=>by rw [ao (fun z=>by rw [z,h.2] at k;cases k)];exact e⟩
theorem Kp.ext (x:Kp K p (L2.upd H p o) H') (h:L2.new K H p):Ext K H H':=by
  refine ⟨fun b u e=>?_,fun b ys e k=>?_⟩
  · have n:b≠p:=aJ e h.1
    exact x.keep b u (by rw [ao n];exact e) n
  · exact x.mod b ys (by rw [ao (fun z=>by rw [z,h.2] at k;cases k)];exact e) k
theorem Ext.kp (x:Ext K H H'):Kp K p H H':=⟨fun q o e _=>x.same q o e,x.mod⟩
end
end L2
namespace L2
open PySem PySem.Spec PyProof.Rows
section
variable {K:PySem.W.Frag} {p a:Addr} {H H':Hp} {xs:List V}
end
end L2
namespace L2
open PySem PySem.Spec PyProof.Rows
def BH (K:PySem.W.Frag) (H:Hp) (x:V) (t:Value):Prop:=oq K H x t∨∃ a xs,x=.ref a∧tupQ K H a=some xs∧t=.type "tuple"
theorem BH.tup {K:PySem.W.Frag} {H:Hp} {a:Addr} {xs:List V} (h:tupQ K H a=some xs):BH K H (.ref a) (.type "tuple"):=.inr ⟨a,xs,rfl,h,rfl⟩
section
variable {X:Cx}
theorem aW:cX X (.builtin "isinstance") (fun xs H Q=>∃ x n t b,xs=[x,.ty n]∧BH X.K H x t∧PySem.W.kitOne X.K t (.type n)=some b∧Q (.bl b) H):=by
  intro pins s σ H xs us Q I r h
  obtain ⟨x,n,t,b,rfl,ty,e,q⟩:=h
  obtain ⟨u,w',rfl,ru,rw'⟩:=vals2 r
  cases rw'
  rcases ty with ty | ⟨a,ys,rfl,hq,rfl⟩
  · exact uW I ru ty e fun tk=>⟨.bl b,H,I.tok tk,rfl,q⟩
  · cases (show u=Value.ref a from ru)
    obtain ⟨aY,_,⟨o,h1,h2,_⟩,_⟩:=I.tuple (cH hq)
    exact PySem.W.kia_one PySem.W.kitx_tuple I.lq ⟨o,h1,h2⟩ e (fun z=>nomatch z) fun tk=>⟨.bl b,H,I.tok tk,rfl,q⟩
end
end L2
namespace L2
open PySem PySem.Spec PyProof.Rows
section
variable {X:Cx}
def AB (K:PySem.W.Frag) (neg:Bool):R2:=fun x y H Q=>∃ p xs,y=.ref p∧jK K H p=some xs∧m7 x=true∧xs.all m7=true∧Q (.bl (if neg=true then !Kz x xs else Kz x xs)) H
theorem KW:jE X (compareOp .In) (AB X.K false):=by
  intro pins s σ H x y v u Q I rx ry h
  obtain ⟨p,xs,rfl,hq,fx,fs,q⟩:=h
  exact Ct pins s σ H x _ v u Q I rx ry ⟨p,xs,rfl,rH hq,fx,fs,q⟩
end
end L2
namespace L2
open PySem PySem.Spec PyProof.Rows
def j9 (K:PySem.W.Frag) (H:Hp):Prop:=∀ b xs,jc K b=some xs→H b=none
theorem vn {K:PySem.W.Frag} {a:Addr} {xs:List V} (h:jc K a=some xs):∃ o,K.lookup a=some o:=by
  cases e:K.lookup a with
  | none=>rw [vm e] at h;cases h
  | some o=>exact ⟨o,rfl⟩
theorem aT.mod {P:Program} {w:World} {K:PySem.W.Frag} {mg:Str→Option Value} {base:Heap} {CX:uy} {k:Nat} {f:Addr} {fd:FuncData} {ps:List Str} {sp:Sp} (len:∀ vs H Q E,sp vs H Q E→vs.length=ps.length)
    (F:aT P w K mg base CX k f fd ps (fun vs H Q E=>sp vs H Q E∧j9 K H)):aT P w K mg base CX k f fd ps sp:=
  ⟨len,fun A outer s H args us vs Q E hr e0 hb r h=>F.run A outer s H args us vs Q E hr e0 hb r ⟨h,fun b xs hk=>by
    obtain ⟨o,e⟩:=vn hk
    exact (e0.bs b o (e0.mod.Gd b o e)).2⟩⟩
section
variable {P:Program} {w:World} {K:PySem.W.Frag} {mg:Str→Option Value} {base:Heap}
theorem fL.okM {x qual:Str} {st:Stmt} {f:Addr} {fd:FuncData} {N ps:List Str} {k:Nat} {sp:Sp} (F:fL K x qual st f fd) (S:aG N ps (aj st)) (len:∀ vs H Q E,sp vs H Q E→vs.length=ps.length)
    (jH:∀ (cE:Value) (A:Around) (outer:List Env) (s:Shared) (H:Hp) (vs:List V) (Q:VK) (E:XK),dJ k (A.deeper (envOfC qual (aj st) s.heap.objs.size f cE))→j9 K H→sp vs H Q E→
      ∃ t,JB (jw eK P w K mg base N qual (aj st) f cE A outer s H E).Du (au st) t∧t { nx:=fun _ H'=>Q .cG H',rt:=Q } (start N vs) H):aT P w K mg base eK (k + 1) f fd ps sp:=
  aT.mod len (F.iC S (fun vs H Q E h=>len vs H Q E h.1) fun cE A outer s H vs Q E hr h=>jH cE A outer s H vs Q E hr h.2 h.1)
end
theorem j9.tup {K:PySem.W.Frag} {H:Hp} {a:Addr} {xs:List V} (m:j9 K H) (h:jc K a=some xs):tupQ K H a=some xs:=by
  unfold tupQ
  rw [m a xs h]
  exact h
theorem j9.ext {K:PySem.W.Frag} {H H':Hp} (m:j9 K H) (x:Ext K H H'):j9 K H':=fun b xs h=>x.mod b xs (m b xs h) h
end L2
namespace L2
open PySem PySem.Spec PyProof.Rows
section
variable {X:Cx} {tg:Expr}
end
section
variable {K:PySem.W.Frag} {ta:TA} {g:TG} {tb:TS} {D:Ends} {σ:St} {H:Hp} {lo stp:Int} {n:Nat}
end
end L2
namespace L2
open PySem PySem.Spec PyProof.Rows
section
variable {X:Cx}
def CM (K:PySem.W.Frag):V→Option Int→Option Int→Hp→VK→Prop:=fun x lo hi H Q=>∃ a xs,x=.ref a∧cz K H a xs∧∀ p,L2.new K H p→Q (.ref p) (upd H p (.lst (sq xs lo hi)))
end
end L2
set_option Elab.async false
set_option linter.all false
set_option maxRecDepth 100000
namespace L2
open PySem PySem.Spec PyProof.Rows
section
variable {X:Cx} {es:List Expr} {pos:Pos}
def lQ (K:PySem.W.Frag) (n:Nat) (t:Dv):TG:=fun v σ H Q=>∃ a xs,v=.ref a∧tupQ K H a=some xs∧xs.length=n∧t xs σ H Q
theorem sI {k:Nat} {t:Dv} {n:Nat} (hc:X.calm=true) (h:MP X es t) (hn:(assignEach es X.env).length=n:=by rfl) (rF:(assignEach es X.env).findIdx? (·.1)=none:=by rfl):JG X (.Tuple es k pos) (lQ X.K n t):=
  ⟨fun pins s σ H v u Q I r ⟨a,xs,e,h1,h2,h3⟩=>JL hc h.h hn rF pins s σ H v u Q I r ⟨a,xs,e,cH h1,h2,h3⟩⟩
end
theorem oK {c:Prop} [Decidable c] {a b:Prop} (h:c) (x:a):if c then a else b:=by rw [if_pos h];exact x
theorem gO {c:Prop} [Decidable c] {a b:Prop} (h:¬ c) (x:b):if c then a else b:=by rw [if_neg h];exact x
theorem Hs {K:PySem.W.Frag} {a:Addr} {d:Option Addr} {aY:Array Value} {k:Nat} {sl:Array (Option Value)} {xs:List V} (h:K.lookup a=some ⟨.type "tuple",d,.seq aY k,sl⟩) (hz:aY.size≤1000) (e:aY.toList.mapM yG=some xs):jc K a=some xs:=by
  unfold jc
  rw [h]
  simp only [if_true]
  rw [if_pos (Ea hz)]
  exact e
end L2
namespace L2
open PySem PySem.Spec PyProof.Rows
end L2
namespace L2
open PySem PySem.Spec PyProof.Rows
theorem Ext.at {K:PySem.W.Frag} {H H':Hp} {a:Addr} {o:HO} (x:Ext K H H') (h:H a=some o):H' a=some o:=x.same _ _ h
theorem Ext.jK {K:PySem.W.Frag} {H H':Hp} {a:Addr} {xs:List V} (x:Ext K H H') (h:jK K H a=some xs):jK K H' a=some xs:=by
  unfold L2.jK at h ⊢
  split at h
  · next e=>rw [x.same _ _ e];exact h
  · next e=>rw [x.same _ _ e];exact h
  · next e=>rw [x.same _ _ e];exact h
  · cases h
  · next e=>rw [x.mod a xs e h];exact h
end L2
namespace L2
open PySem PySem.Spec PyProof.Rows
structure CN (K:PySem.W.Frag) (p q:Addr) (H H':Hp):Prop where
  keep:∀ r o,H r=some o→r≠p→r≠q→H' r=some o
  mod:∀ a xs,H a=none→jc K a=some xs→H' a=none
section
variable {K:PySem.W.Frag} {p q:Addr} {H H' H1 H2:Hp} {o o':HO}
theorem Kp.l (x:Kp K p H H'):CN K p q H H':=⟨fun r o h n _=>x.keep r o h n,x.mod⟩
theorem Kp.r (x:Kp K q H H'):CN K p q H H':=⟨fun r o h _ n=>x.keep r o h n,x.mod⟩
theorem Ext.RK (x:Ext K H H'):CN K p q H H':=⟨fun r o h _ _=>x.same r o h,x.mod⟩
theorem CN.trans (x:CN K p q H H1) (y:CN K p q H1 H2):CN K p q H H2:=⟨fun r o h n m=>y.keep r o (x.keep r o h n m) n m,fun a xs h k=>y.mod a xs (x.mod a xs h k) k⟩
theorem CN.ext (x:CN K p q (L2.upd (L2.upd H p o) q o') H') (hp:L2.new K H p) (hq:L2.new K (L2.upd H p o) q):Ext K H H':=by
  have y:Ext K H (L2.upd (L2.upd H p o) q o'):=(Ext.new hp).trans (Ext.new hq)
  refine ⟨fun b u e=>?_,fun b ys e k=>x.mod b ys (y.mod b ys e k) k⟩
  have n:b≠p:=aJ e hp.1
  have m:b≠q:=aJ ((Ext.new hp).at e) hq.1
  exact x.keep b u (y.at e) n m
end
end L2
set_option Elab.async false
set_option linter.all false
set_option maxRecDepth 100000
namespace L2
open PySem PySem.Spec PyProof.Rows
def fX (env:Env):List (Str×NameKind)→List (Str×Addr)→List (Str×Addr)
  | [],cs=>cs
  | (n,k)::r,cs=>fX env r (if (k==NameKind.free)=true then (match env.cells.lookup n with | some a=>(n,a)::cs | none=>cs) else cs)
theorem fF {scope:Scope} {env:Env} (h:∀ x∈scope.names,x.2=.free→∃ c,env.cells.lookup x.1=some c):closureFor scope env=pure (fX env scope.names []):=by
  unfold closureFor
  generalize scope.names=names at h ⊢
  generalize ([]:List (Str×Addr))=cs
  induction names generalizing cs with
  | nil=>rfl
  | cons x r ih=>
    obtain ⟨n,k⟩:=x
    have ih':=fun cs=>ih (cs:=cs) fun x hx=>h x (List.mem_cons_of_mem _ hx)
    simp only [List.forIn_cons]
    cases hk:(k==NameKind.free) with
    | false=>
      simp only [fX,hk]
      exact ih' cs
    | true=>
      obtain ⟨c,hc⟩:=h (n,k) (List.mem_cons_self) (by simpa using hk)
      simp only [fX,hk,hc,cellOf]
      exact ih' _
theorem vo {env:Env}:∀ {names:List (Str×NameKind)} {cs:List (Str×Addr)} {n:Str} {c:Addr},(n,c)∈fX env names cs→(n,c)∈cs∨env.cells.lookup n=some c
  | [],cs,n,c,h=>.inl h
  | (m,k)::r,cs,n,c,h=>by
    rw [fX] at h
    rcases vo h with h | h
    · split at h
      · split at h
        · next a e=>
          rcases List.mem_cons.mp h with z | z
          · cases z;exact .inr e
          · exact .inl z
        · exact .inl h
      · exact .inl h
    · exact .inr h
theorem vp {env:Env}:∀ {names:List (Str×NameKind)} {cs:List (Str×Addr)} {p:Str×Addr},p∈cs→p∈fX env names cs
  | [],cs,p,h=>h
  | (m,k)::r,cs,p,h=>by
    rw [fX]
    refine vp ?_
    split
    · split
      · exact List.mem_cons_of_mem _ h
      · exact h
    · exact h
theorem vq {env:Env}:∀ {names:List (Str×NameKind)} {cs:List (Str×Addr)} {n:Str} {c:Addr},(n,NameKind.free)∈names→env.cells.lookup n=some c→(n,c)∈fX env names cs
  | (m,k)::r,cs,n,c,h,e=>by
    rw [fX]
    rcases List.mem_cons.mp h with z | z
    · cases z
      rw [if_pos (by decide),e]
      exact vp List.mem_cons_self
    · exact vq z e
theorem lookup_mem {α:Type}:∀ {l:List (Str×α)} {n:Str} {c:α},l.lookup n=some c→(n,c)∈l
  | (m,d)::r,n,c,h=>by
    rw [List.lookup_cons] at h
    cases e:n==m with
    | true=>
      rw [e] at h
      cases h
      rw [eq_of_beq e]
      exact List.mem_cons_self
    | false=>
      rw [e] at h
      exact List.mem_cons_of_mem _ (lookup_mem h)
theorem mem_lookup {α:Type}:∀ {l:List (Str×α)} {n:Str} {c:α},(n,c)∈l→∃ d,l.lookup n=some d
  | (m,d)::r,n,c,h=>by
    rw [List.lookup_cons]
    cases e:n==m with
    | true=>exact ⟨d,rfl⟩
    | false=>
      rcases List.mem_cons.mp h with z | z
      · cases z
        rw [beq_self_eq_true] at e;cases e
      · exact mem_lookup z
theorem bD {env:Env} {names:List (Str×NameKind)} {n:Str} {c:Addr} (h:(fX env names []).lookup n=some c):env.cells.lookup n=some c:=by
  rcases vo (lookup_mem h) with z | z
  · cases z
  · exact z
theorem lR {env:Env} {names:List (Str×NameKind)} {n:Str} {c:Addr} (h:(n,NameKind.free)∈names) (e:env.cells.lookup n=some c):(fX env names []).lookup n=some c:=by
  obtain ⟨d,hd⟩:=mem_lookup (vq (cs:=[]) h e)
  rw [hd]
  exact (bD hd).symm.trans e ▸ rfl
theorem kc {env:Env}:∀ {names:List (Str×NameKind)} {x:Str},names.lookup x=some .free→
    (names.map fun (n,k)=>if (k==NameKind.free&&env.scope.kind==.function&&env.kindOf n==some .cell) then (n,NameKind.cell) else (n,k)).lookup x=some .cell∨
    (names.map fun (n,k)=>if (k==NameKind.free&&env.scope.kind==.function&&env.kindOf n==some .cell) then (n,NameKind.cell) else (n,k)).lookup x=some .free
  | [],_,h=>by simp at h
  | (n,k)::r,x,h=>by
    have ih:=@kc env r x
    show List.lookup x ((if (k==NameKind.free&&env.scope.kind==.function&&env.kindOf n==some .cell)=true then (n,NameKind.cell) else (n,k))::_)=_∨List.lookup x ((if (k==NameKind.free&&env.scope.kind==.function&&env.kindOf n==some .cell)=true then (n,NameKind.cell) else (n,k))::_)=_
    cases hx:x==n with
    | true=>
      simp only [List.lookup_cons,hx] at h
      cases h
      split
      · simp [List.lookup_cons,hx]
      · simp [List.lookup_cons,hx]
    | false=>
      simp only [List.lookup_cons,hx] at h
      split
      · simp only [List.lookup_cons,hx];exact ih h
      · simp only [List.lookup_cons,hx];exact ih h
theorem lS {env:Env}:∀ {names:List (Str×NameKind)} {x:Str} {kk:NameKind},(∀ y∈names,y.2≠.cell)→
    (names.map fun (n,k)=>if (k==NameKind.free&&env.scope.kind==.function&&env.kindOf n==some .cell) then (n,NameKind.cell) else (n,k)).lookup x=some kk→kk=.cell∨kk=.free→(x,NameKind.free)∈names
  | [],_,_,_,h,_=>by simp at h
  | (n,k)::r,x,kk,hc,h,hk=>by
    have ih:=@lS env r x kk fun y hy=>hc y (List.mem_cons_of_mem _ hy)
    change List.lookup x ((if (k==NameKind.free&&env.scope.kind==.function&&env.kindOf n==some .cell)=true then (n,NameKind.cell) else (n,k))::_)=_ at h
    cases hx:x==n with
    | true=>
      have e:=eq_of_beq hx
      subst e
      split at h
      · next q=>
        simp only [Bool.and_eq_true,beq_iff_eq] at q
        rw [q.1.1]
        exact List.mem_cons_self
      · simp only [List.lookup_cons,hx] at h
        cases h
        rcases hk with z | z
        · exact absurd z (hc _ List.mem_cons_self)
        · rw [z];exact List.mem_cons_self
    | false=>
      refine List.mem_cons_of_mem _ (ih ?_ hk)
      split at h
      · simp only [List.lookup_cons,hx] at h;exact h
      · simp only [List.lookup_cons,hx] at h;exact h
def Cx.comp (X:Cx) (N:List Str) (scope:Scope) (C:Addr) (s:Shared) (H:Hp) (fp:List Addr):Cx:=
  { X with N:=N,s₀:=s,H₀:=H,env:=compEnvC scope (fX X.env scope.names []) C X.env,outer:=X.stack,ex:=fp,fn:=fun _=>false,pn:=[],xe:=fun _ _=>False }
def pick (σ:St) (src:List (Option Nat)):St:=src.map fun o=>match o with | none=>none | some j=>(σ[j]?).join
def vt (NX:List Str) (Pg sc:Scope) (N:List Str) (src:List (Option Nat)):Bool:=
  sc.names.all (fun x=>x.2 !=.cell)&&sc.names.all (fun x=>x.2 !=.local||sc.names.lookup x.1==some .local)&&
  sc.names.all (fun x=>x.2 !=.free||(Pg.names.lookup x.1==some .cell||Pg.names.lookup x.1==some .free))&&N.length==src.length&&
  (N.zip src).all (fun p=>match p.2 with | none=>true | some j=>NX[j]?==some p.1&&(Pg.names.lookup p.1==some .cell||Pg.names.lookup p.1==some .free)&&sc.names.lookup p.1==some .free)
structure m8 (X:Cx) (sc:Scope) (N:List Str) (src:List (Option Nat)):Prop where
  kind:sc.kind=.function
  ok:vt X.N X.env.scope sc N src=true
section
variable {X:Cx} {sc:Scope} {N:List Str} {src:List (Option Nat)}
theorem m8.cell (c:m8 X sc N src):∀ y∈sc.names,y.2≠.cell:=fun y hy=>by
  have h:=c.ok
  simp only [vt,Bool.and_eq_true,List.all_eq_true] at h
  simpa using h.1.1.1.1 y hy
theorem m8.names (c:m8 X sc N src):∀ y∈sc.names,y.2=.local→sc.names.lookup y.1=some .local:=fun y hy e=>by
  have h:=c.ok
  simp only [vt,Bool.and_eq_true,List.all_eq_true] at h
  have q:=h.1.1.1.2 y hy
  rw [e] at q
  simpa using q
theorem m8.free (c:m8 X sc N src) {x:Str} (hx:(x,NameKind.free)∈sc.names):X.env.kindOf x=some .cell∨X.env.kindOf x=some .free:=by
  have h:=c.ok
  simp only [vt,Bool.and_eq_true,List.all_eq_true] at h
  have q:=h.1.1.2 _ hx
  simpa [Env.kindOf] using q
theorem m8.len (c:m8 X sc N src):N.length=src.length:=by
  have h:=c.ok
  simp only [vt,Bool.and_eq_true,List.all_eq_true] at h
  simpa using h.1.2
theorem m8.at_ (c:m8 X sc N src) {i j:Nat} {x:Str} (h1:N[i]?=some x) (h2:src[i]?=some (some j)):X.N[j]?=some x∧(X.env.kindOf x=some .cell∨X.env.kindOf x=some .free)∧sc.names.lookup x=some .free:=by
  have h:=c.ok
  simp only [vt,Bool.and_eq_true,List.all_eq_true] at h
  have m:(x,some j)∈N.zip src:=by
    refine List.mem_of_getElem? (i:=i) ?_
    rw [List.getElem?_zip_eq_some]
    exact ⟨h1,h2⟩
  have q:=h.2 _ m
  simp only [Bool.and_eq_true,Bool.or_eq_true,beq_iff_eq] at q
  exact ⟨q.1.1,q.1.2,q.2⟩
theorem pW {σ:St} {i:Nat} {v:V} (h:(pick σ src)[i]?=some (some v)):∃ j,src[i]?=some (some j)∧σ[j]?=some (some v):=by
  unfold pick at h
  rw [List.getElem?_map] at h
  cases e:src[i]? with
  | none=>rw [e] at h;cases h
  | some o=>
    rw [e] at h
    cases o with
    | none=>simp at h
    | some j=>
      refine ⟨j,rfl,?_⟩
      simp only [Option.map_some,Option.some.injEq] at h
      cases e2:σ[j]? with
      | none=>rw [e2] at h;cases h
      | some w=>
        rw [e2] at h
        simp only [Option.join] at h
        exact congrArg some h
theorem Cx.Ok.comp {pins:List (Addr×Obj)} {σ:St} {H:Hp} {s:Shared} {fp:List Addr} {C:Addr} (I:Inv X pins σ H s) (c:m8 X sc N src) (hf:∀ b∈fp,lE X pins H b) (ho:∀ b∈fp,∃ o,s.heap.get? b=some o) (hC:s.heap.objs.size≤C):(X.comp N sc C s H fp).Ok where
  mod:=I.ok.mod
  kind:=c.kind
  glob:=I.ok.glob
  blt:=I.ok.blt
  above:=hC
  inj:=fun x y a h h'=>I.ok.inj x y a (bD h) (bD h')
  has:=fun x h=>by
    have m:(x,NameKind.free)∈sc.names:=by
      rcases h with h | h
      · exact lS c.cell h (.inl rfl)
      · exact lS c.cell h (.inr rfl)
    obtain ⟨a,ha⟩:=I.ok.has x (c.free m)
    exact ⟨a,lR m ha⟩
  Ge:=fun _ _ h=>nomatch h
  hd:=I.ok.hd
  frames:=I.ok.frames
  IC:=.inl rfl
  LN:=fun b hb=>by
    obtain ⟨o,e⟩:=ho b hb
    exact ⟨Nat.ne_of_lt (Nat.lt_of_lt_of_le (Heap.lt_size e) hC),fun x a h=>(hf b hb).2.2.2.2.1 x a (bD h)⟩
  bs:=I.bs
  Ac:=Nat.le_trans I.ok.Ac I.sz
  vP:=fun b o e hb=>by
    rcases (hf b hb).2.2.2.1 with z | z
    · exact I.ok.vP b o e z
    · exact absurd (Nat.lt_of_lt_of_le (Heap.lt_size e) (Nat.le_trans I.ok.Ac z)) (Nat.lt_irrefl _)
  yz:=fun b hb z=>by
    rcases List.mem_cons.mp (I.ly b z) with q | q
    · exact (hf b hb).2.1 q
    · exact (hf b hb).2.2.1 q
  jG:=I.stack
  Cb:=I.rD
theorem Inv.block {pins:List (Addr×Obj)} {σ:St} {H:Hp} {s:Shared} {fp:List Addr} {C D:Addr} {h1:Heap} {t':Nat} (I:Inv X pins σ H s) (c:m8 X sc N src) (hf:∀ b∈fp,lE X pins H b) (ho:∀ b∈fp,∃ o,s.heap.get? b=some o)
    (hD:s.heap.objs.size≤D) (hC:s.heap.objs.size≤C) (Ht:D≠C) (k:∀ b u,s.heap.get? b=some u→h1.get? b=some u) (hn:h1.Ns C fun _=>none) (new:cg X.prog X.w (upd H D (.lst [])) h1 D (.lst [])):
    Inv (X.comp N sc C s H fp) [] (pick σ src) (upd H D (.lst [])) { s with heap:=h1,toks:=t' } where
  ok:=Cx.Ok.comp I c hf ho hC
  os:=rfl
  bare:=I.bare
  base:=Un.laid k hD (I.bC.fresh hD)
  loc:=by
    refine ⟨_,hn,fun i x v e1 e2 e3=>?_⟩
    obtain ⟨j,ej,es⟩:=pW e2
    obtain ⟨n1,n2,n3⟩:=c.at_ e1 ej
    obtain ⟨m,_,hl⟩:=I.loc
    have JR:Jt X.env.scope x:=n2.elim (fun z=>.inr (.inl z)) fun z=>.inr (.inr z)
    obtain ⟨u,r,q⟩:=hl j x v n1 es JR
    refine ⟨u,r,.inr ⟨kc n3,?_⟩⟩
    rcases q with ⟨z,_⟩ | ⟨_,a,ha,z⟩
    · rcases n2 with n2 | n2 <;> rw [n2] at z <;> cases z
    · obtain ⟨o,e,d⟩:=z
      exact ⟨a,lR (lookup_mem n3) ha,o,k _ _ e,d⟩
  cell:=fun x a e=>by
    obtain ⟨v,o,e,d⟩:=I.cell x a (bD e)
    exact ⟨v,o,k _ _ e,d⟩
  free:=by
    show upd H D (.lst []) C=none
    rw [ao Ht.symm]
    exact I.bC.fresh hC
  eL:=fun x a e=>by
    obtain ⟨v,o,e',d⟩:=I.cell x a (bD e)
    rw [ao (Nat.ne_of_lt (Nat.lt_of_lt_of_le (Heap.lt_size e') hD))]
    exact I.eL x a (bD e)
  pin:=fun p hp=>nomatch hp
  bC:=I.bC.laid k hD new
  len:=by
    show (pick σ src).length=N.length
    rw [c.len,pick,List.length_map]
theorem Inv.oM {pins:List (Addr×Obj)} {σ σ':St} {H H':Hp} {s s':Shared} {fp:List Addr} {C:Addr} {h':Heap} (I:Inv X pins σ H s) (hf:∀ b∈fp,lE X pins H b) (hC:s.heap.objs.size≤C)
    (J:Inv (X.comp N sc C s H fp) [] σ' H' s') (hs:∀ b,b≠C→h'.get? b=s'.heap.get? b):Inv X pins σ H' { s' with heap:=h' }:=by
  have ne:∀ b o,s.heap.get? b=some o→b≠C:=fun b o e=>Nat.ne_of_lt (Nat.lt_of_lt_of_le (Heap.lt_size e) hC)
  have u:Un (kR X.stack) fp H H' s.heap s'.heap:=J.base
  have u':Un (kR X.stack) fp H H' s.heap h':=⟨fun b o e n a x=>(hs b (ne b o e)).trans (u.keep b o e n a x),fun b o e n a x=>by
      obtain ⟨sl,q⟩:=u.slot b o e n a x
      exact ⟨sl,(hs b (ne b o e)).trans q⟩,u.free,fun b o e x=>by
      obtain ⟨o',q⟩:=u.there b o e x
      exact ⟨o',(hs b (ne b o e)).trans q⟩,u.jX,u.ju,u.jY⟩
  refine I.IE (s':={ s' with heap:=h' }) J.os u' (fun b ob e=>?_) J.bare fun b hb=>⟨(hf b hb).2.2.2.1,(hf b hb).2.1,(hf b hb).2.2.2.2.1,(hf b hb).2.2.2.2.2⟩
  have fr:H' C=none:=J.free
  refine (J.bC b ob e).qQ (fun a w' ha q=>(hs a ?_).trans q) (fun _ q=>q) fun _ _ q=>q
  rintro rfl
  rcases ha with rfl | ha
  · rw [fr] at e;cases e
  · rw [fr] at ha;cases ha
end
abbrev F0:Value→Shared→Prop:=fun _ _=>False
section
variable {prog:Program} {w:World} {A:Around} {R:Result→Shared→Prop} {s:Shared}
theorem wg {elt target iter:Expr} {ifs:List Expr} {scope:Scope} {pos:Pos} {it acc:Value} {env:Env} (I:Nat→Shared→Prop)
    (turn:∀ n s,I n s→wpAny (model prog w) A (pyNext it) (fun r s₁=>match r with
      | none=>R (.ok .next) s₁
      | some v=>wpAny (model prog w) A (letOwnedTupleGo target it v) (fun _ s₁'=>wpAny (model prog w) A (assign target env v) (fun _ s₂=>
          wpAny (model prog w) A (forIn ifs true fun c r=>if r=true then do let ok ← isTrue c env (eval c env);pure (ForInStep.yield ok) else pure (ForInStep.yield r)) (fun ok s₃=>
            if ok=true then wpAny (model prog w) A (eval elt env) (fun x s₄=>
              wpAny (model prog w) A (call (.builtin "list.append") [acc,x]) (fun _ s₅=>∃ m,m < n∧I m s₅) F0 s₄) F0 s₃
            else ∃ m,m < n∧I m s₃) F0 s₂) F0 s₁') F0 s₁) F0 s)
    (n:Nat) (h:I n s):
    codeAny (model prog w) A (.compLoop (.ListComp elt [⟨target,iter,ifs,0⟩] scope pos) 0 it acc env) R s:=by
  refine codeAny_loop rfl I (fun n s hI=>?_) n h
  show wpAny _ A ((compTurn (.ListComp elt [⟨target,iter,ifs,0⟩] scope pos) 0 it acc env).onRaise (fun x=>do noteFrame x env;theTreesLotGoes x)) _ _ s
  refine wpAny_noted ?_
  rw [compTurn_list]
  refine wpAny_bind (wpAny_standAt (wpAny_bind (wpAny_mono (turn n s hI) (fun r s₁ h₁=>?_) fun _ _ h'=>h'.elim)))
  cases r with
  | none=>exact wpAny_pure h₁
  | some v=>
    refine wpAny_bind (wpAny_mono h₁ (fun _ s₁' h₁'=>?_) fun _ _ h'=>h'.elim)
    refine wpAny_bind (wpAny_mono h₁' (fun _ s₂ h₂=>wpAny_bind (wpAny_mono h₂ (fun ok s₃ h₃=>?_) fun _ _ h'=>h'.elim)) fun _ _ h'=>h'.elim)
    cases ok with
    | false=>exact wpAny_pure ⟨rfl,h₃⟩
    | true=>
      exact wpAny_bind (wpAny_bind (wpAny_mono h₃ (fun x s₄ h₄=>wpAny_bind (wpAny_mono h₄ (fun _ s₅ h₅=>wpAny_pure (wpAny_pure ⟨rfl,h₅⟩)) fun _ _ h'=>h'.elim)) fun _ _ h'=>h'.elim))
end
def PF (X:Cx) (ifs:List Expr) (t:TT):Prop:=
  ∀ (pins:List (Addr×Obj)) (s:Shared) (σ:St) (H:Hp) (Q:Bool→Hp→Prop),Inv X pins σ H s→t σ H Q→
    wpAny (model X.prog X.w) X.A (forIn ifs true fun c r=>if r=true then do let ok ← isTrue c X.env (eval c X.env);pure (ForInStep.yield ok) else pure (ForInStep.yield r)) (TP X pins σ Q) X.xe s
structure JF (X:Cx) (ifs:List Expr) (t:TT):Prop where h:PF X ifs t
def nH:TT:=fun _ H Q=>Q true H
theorem m9 {X:Cx}:JF X [] nH:=⟨fun _ _ _ H _ I h=>wpAny_tests_nil ⟨H,I,h⟩⟩
def eu (J:It) (g:TG) (tt:TT) (te:TE) (D:Addr) (Q:Hp→Prop) (σ:St) (H:Hp):Prop:=∃ W:Nat→Nat→List V→St→Hp→Prop,(∃ m,W 0 m [] σ H)∧∀ i m acc σ H,W i m acc σ H→
  (J.stop i H∧Q H)∨(J.go i H∧∃ N:List V→St→Hp→Prop,(∀ acc' σ' H',N acc' σ' H'→∃ m',m' < m∧W (i + 1) m' acc' σ' H')∧∀ x H',J.JV i H x H'→g x σ H' fun σ2 H2=>tt σ2 H2 fun b H3=>
    if b=true then te σ2 H3 fun v H4=>H4 D=some (.lst acc)∧acc.length < sizeLine∧N (acc++[v]) σ2 (upd H4 D (.lst (acc++[v])))
    else N acc σ2 H3)
def LS (K:PySem.W.Frag) (wi:TI) (src:List (Option Nat)) (g:TG) (tt:TT) (te:TE):TE:=fun σ H Q=>wi σ H fun J H1=>∀ D,L2.new K H1 D→eu J g tt te D (fun H'=>Q (.ref D) H') (pick σ src) (upd H1 D (.lst []))
section
variable {X:Cx} {sc:Scope} {N:List Str} {src:List (Option Nat)} {tg iter elt:Expr} {ifs:List Expr} {wi:TI} {g:TG} {tt:TT} {te:TE} {pos:Pos}
theorem sJ {R:Value→Addr→Result→Shared→Prop} {E:Value→Shared→Prop} (c:m8 X sc N src) (hc:X.calm=true)
    (hg:∀ C s H fp,JG (X.comp N sc C s H fp) tg g) (ht:∀ C s H fp,JF (X.comp N sc C s H fp) ifs tt) (he:∀ C s H fp,JE (X.comp N sc C s H fp) elt te)
    {pins:List (Addr×Obj)} {σ:St} {H:Hp} {s:Shared} {it:Addr} {fp:List Addr} {tn:Nat→Heap→Prop} {J:It} {Q:V→Hp→Prop} (I:Inv X pins σ H s) (T:Turn X.prog X.w X.K tg J fp it tn) (st:tn 0 s.heap) (hf:∀ b∈fp,lE X pins H b)
    (h:∀ D,L2.new X.K H D→eu J g tt te D (fun H'=>Q (.ref D) H') (pick σ src) (upd H D (.lst [])))
    (hR:∀ D C s' σ' H',s.heap.objs.size≤C→Inv (X.comp N sc C s H fp) [] σ' H' s'→Q (.ref D) H'→R (.ref D) C (.ok .next) s'):
    wpAny (model X.prog X.w) X.A (newList []) (fun acc s₃=>wpAny (model X.prog X.w) X.A (newFunctionEnv sc X.env.globals (fX X.env sc.names []) [] X.env.qual none .none (some X.env)) (fun cenv s₄=>
      codeAny (model X.prog X.w) X.A (.compStart (.ListComp elt [⟨tg,iter,ifs,0⟩] sc pos) 0 (.ref it) acc { cenv with scope:=relabel sc X.env }) (R acc cenv.locals) s₄) E s₃) E s:=by
  refine wpAny_newObj_type (wpAny_newFunctionEnv c.cell (by intro y hy;simp at hy) (fun h₁ hns₁ hsb₁=>?_) c.kind)
  dsimp only at hns₁ hsb₁ ⊢
  generalize hH2:s.heap.push { cls:=.type "list",dict:=none,data:=.seq ([]:List Value).toArray }=H2 at hns₁ hsb₁ ⊢
  have hC:H2.objs.size=s.heap.objs.size + 1:=by rw [← hH2,Heap.size_push]
  have Ht:s.heap.objs.size≠H2.objs.size:=by rw [hC];exact Nat.ne_of_lt (Nat.lt_succ_self _)
  have Ei:s.heap.objs.size≤H2.objs.size:=by rw [hC];exact Nat.le_succ _
  have below:∀ b,b < s.heap.objs.size→b≠H2.objs.size:=fun b hb=>by rw [hC];exact Nat.ne_of_lt (Nat.lt_succ_of_lt hb)
  have old:∀ b o,s.heap.get? b=some o→h₁.get? b=some o:=fun b o e=>hsb₁.extBut b o (below b (Heap.lt_size e)) (Heap.get?_push_of_some _ (hH2 ▸ Heap.get?_push_of_some _ e))
  have KY:h₁.get? s.heap.objs.size=some { cls:=.type "list",dict:=none,data:=.seq ([]:List Value).toArray }:=hsb₁.extBut _ _ Ht (Heap.get?_push_of_some _ (hH2 ▸ Heap.get?_push_size _ rfl))
  have ho:∀ b∈fp,∃ o,s.heap.get? b=some o:=fun b hb=>let ⟨o,e,_⟩:=T.obj _ _ st b hb;⟨o,e⟩
  have I0:=I.block (t':=s.toks + ([]:List (Str×Value)).length) c hf ho (Nat.le_refl _) Ei Ht old hns₁ ⟨Nat.zero_le _,[],0,.nil,KY⟩
  have MS:tn 0 h₁:=T.keep _ _ _ st fun b hb o e=>old b o e
  obtain ⟨W,⟨m0,w0⟩,turn⟩:=h _ I.new
  have rT:∀ {H':Hp},(∀ b∈fp,H' b=none)→∀ b∈fp,lE (X.comp N sc H2.objs.size s H fp) [] H' b:=fun hn b hb=>by
    obtain ⟨f0,f1,f2,f3,f4,f5⟩:=hf b hb
    obtain ⟨o,e⟩:=ho b hb
    refine ⟨hn b hb,below b (Heap.lt_size e),fun z=>?_,.inl hb,fun x a q=>f4 x a (bD q),fun p hp=>nomatch hp⟩
    rcases List.mem_cons.mp (I.ly b z) with q | q
    · exact f1 q
    · exact f2 q
  have RL:∀ b∈fp,(upd H s.heap.objs.size (.lst [])) b=none:=fun b hb=>by
    obtain ⟨o,e⟩:=ho b hb
    rw [ao (Nat.ne_of_lt (Heap.lt_size e))]
    exact (hf b hb).1
  have loop:∀ s₃:Shared,s₃={ s with heap:=h₁,toks:=s.toks + ([]:List (Str×Value)).length }→
      codeAny (model X.prog X.w) X.A (.compLoop (.ListComp elt [⟨tg,iter,ifs,0⟩] sc pos) 0 (.ref it) (.ref s.heap.objs.size) (compEnvC sc (fX X.env sc.names []) H2.objs.size X.env)) (R (.ref s.heap.objs.size) H2.objs.size) s₃:=by
    rintro s₃ rfl
    refine wg (fun n s'=>∃ i acc σ' H',Inv (X.comp N sc H2.objs.size s H fp) [] σ' H' s'∧tn i s'.heap∧(∀ b∈fp,H' b=none)∧W i n acc σ' H') ?_ m0 ⟨0,_,_,_,I0,MS,RL,w0⟩
    rintro n s3 ⟨i,acc,σ3,H3,I3,DJ,fr3,w3⟩
    rcases turn i n acc σ3 H3 w3 with ⟨stop,qn⟩ | ⟨go,NN,hNN,step⟩
    · refine bV (T.done (X.comp N sc H2.objs.size s H fp) rfl rfl rfl hc i [] s3 σ3 H3 F0 I3 (rT fr3) DJ stop) fun r s4 ⟨hr,I4⟩=>?_
      subst hr
      exact hR _ _ _ _ _ Ei I4 qn
    · refine bV (T.item (X.comp N sc H2.objs.size s H fp) rfl rfl rfl hc i [] s3 σ3 H3 F0 I3 (rT fr3) DJ go) fun r s4 ⟨u,hr,h4⟩=>?_
      subst hr
      refine bV h4 fun _ s5 ⟨x,H5,I5,r5,y5,st5,fr5⟩=>?_
      have Mu:=I5.pinned (rT fr5) (T.obj _ _ st5)
      refine bV ((hg _ _ _ _).h _ s5 σ3 H5 x u _ Mu r5 (step x H5 y5)) fun _ s6 ⟨σ6,H6,I6,q6⟩=>?_
      refine bV ((ht _ _ _ _).h _ s6 σ6 H6 _ I6 q6) fun b s7 ⟨H7,I7,q7⟩=>?_
      have again:∀ {AD:List V} {s8:Shared} {H8:Hp},Inv (X.comp N sc H2.objs.size s H fp) ([]++pJ fp s5.heap) σ6 H8 s8→NN AD σ6 H8→∃ m,m < n∧∃ i acc σ' H',Inv (X.comp N sc H2.objs.size s H fp) [] σ' H' s8∧tn i s8.heap∧(∀ b∈fp,H' b=none)∧W i m acc σ' H':=fun {AD s8 H8} I8 w=>by
        obtain ⟨m',hm,w8⟩:=hNN _ _ _ w
        refine ⟨m',hm,i + 1,AD,σ6,H8,I8.iU,T.keep _ _ _ st5 fun b hb o e=>(I8.pin (b,o) (List.mem_append_right _ (List.mem_append_right _ (gQ hb e)))).1,fun b hb=>?_,w8⟩
        obtain ⟨o,e,d⟩:=T.obj _ _ st5 b hb
        exact (I8.pin (b,o) (List.mem_append_right _ (List.mem_append_right _ (gQ hb e)))).2.1
      cases b with
      | false=>exact again I7 q7
      | true=>
        refine bV ((he _ _ _ _).h _ s7 σ6 H7 _ I7 q7) fun y s8 ⟨v,H8,I8,r8,q8⟩=>?_
        obtain ⟨hx,hz,w8⟩:=q8
        refine bV (fV (X:=X.comp N sc H2.objs.size s H fp) _ s8 σ6 H8 (.ref s.heap.objs.size) [v] (.ref s.heap.objs.size) [y] (fun _ H9=>H9=upd H8 s.heap.objs.size (.lst (acc++[v]))) I8 rfl (.cons r8 .nil) ⟨_,acc,v,rfl,rfl,hx,hz,rfl⟩) fun _ s9 ⟨_,H9,I9,_,q9⟩=>?_
        subst q9
        exact again I9 w8
  exact codeAny_compStart_list (loop _ rfl) (T.self _ 0 _ _ _ MS (loop _ rfl))
theorem LU (c:m8 X sc N src) (hc:X.calm=true) (hi:JI X tg iter wi)
    (hg:∀ C s H fp,JG (X.comp N sc C s H fp) tg g) (ht:∀ C s H fp,JF (X.comp N sc C s H fp) ifs tt) (he:∀ C s H fp,JE (X.comp N sc C s H fp) elt te)
    (hs:∀ x,foldedSetIterable iter X.env x=pure x:=by intro _;rfl):JE X (.ListComp elt [⟨tg,iter,ifs,0⟩] sc pos) (LS X.K wi src g tt te):=⟨by
  intro pins s σ H Q I h
  rw [eval_ListComp]
  refine wpAny_comprehension_free (use:=none) rfl hs (fF fun x hx hk=>?_) c.kind c.names ?_
  · obtain ⟨n,k⟩:=x
    cases hk
    exact I.ok.has _ (c.free hx)
  refine bV (hi.h pins s σ H _ I h) fun v s1 h1=>bV h1 fun LO s2 h2=>?_
  obtain ⟨it,fp,tn,J,H2,e,I2,T,st2,f2,h2⟩:=h2
  subst e
  refine sJ (R:=fun acc C=>compPost (model X.prog X.w) X.A X.xe none (EP X pins σ Q) acc C) (Q:=Q) c hc hg ht he I2 T st2 f2 h2 fun D C s' σ' H' hC I' q=>?_
  obtain ⟨m,hn,_⟩:=id I'.loc
  refine ⟨m,hn,fun h' sb=>?_⟩
  exact ⟨.ref D,H',I2.oM f2 hC I' fun b hb=>sb.2 b hb,rfl,q⟩⟩
theorem slc {i:Nat} {y:Str} {py ze:Pos} (hN:X.N.Nodup) (hy:X.N[i]?=some y) (hx:Loc X.env.scope y) (c:m8 X sc N src) (hc:X.calm=true) (hi:JI X tg iter wi)
    (hg:∀ C s H fp,JG (X.comp N sc C s H fp) tg g) (ht:∀ C s H fp,JF (X.comp N sc C s H fp) ifs tt) (he:∀ C s H fp,JE (X.comp N sc C s H fp) elt te)
    (MT:swapsWith (.ListComp elt [⟨tg,iter,ifs,0⟩] sc pos) (some (.Name y py)) ze.line X.env=pure true:=by rfl)
    (hf:X.fn y=true∨X.env.scope.names.lookup y=some .local:=by first | exact .inl rfl | exact .inr rfl | assumption)
    (hs:∀ x,foldedSetIterable iter X.env x=pure x:=by intro _;rfl):JS X (.Assign [.Name y py] (.ListComp elt [⟨tg,iter,ifs,0⟩] sc pos) ze) (pI (LS X.K wi src g tt te) (eN i)):=⟨by
  intro pins s σ H D I h
  rw [exec_Assign_Name_used _ _ _ _ MT]
  refine wpAny_bind (wpAny_standAt (wpAny_bind ?_))
  show wpAny _ X.A (do let _ ← comprehension (.ListComp elt [⟨tg,iter,ifs,0⟩] sc pos) sc X.env _ (newList []) false (eval iter X.env) (some (assign (.Name y py) X.env))) _ _ s
  refine wpAny_bind (wpAny_mono (wpAny_comprehension_free (use:=some (assign (.Name y py) X.env)) (Q:=fun _ s'=>SP X pins D .next s') rfl hs (fF fun x hx hk=>?_) c.kind c.names ?_) (fun _ s' hq=>wpAny_pure (wpAny_pure hq)) fun _ _ e=>e)
  · obtain ⟨n,k⟩:=x
    cases hk
    exact I.ok.has _ (c.free hx)
  refine bV (hi.h pins s σ H _ I h) fun v s1 h1=>bV h1 fun LO s2 h2=>?_
  obtain ⟨it,fp,tn,J,H2,e,I2,T,st2,f2,h2⟩:=h2
  subst e
  refine sJ (R:=fun acc C=>compPost (model X.prog X.w) X.A X.xe (some (assign (.Name y py) X.env)) (fun _ s'=>SP X pins D .next s') acc C) (Q:=fun v H'=>D.nx (σ.set i (some v)) H') c hc hg ht he I2 T st2 f2 h2 fun L C s' σ' H' hC I' q=>?_
  obtain ⟨m,hn,_⟩:=id I'.loc
  obtain ⟨o,es,ep,ho,r⟩:=id hn
  have I3:Inv X pins σ H' s':=I2.oM (h':=s'.heap) f2 hC I' fun _ _=>rfl
  have cL:C≠X.env.locals:=Nat.ne_of_gt (Nat.lt_of_lt_of_le I2.lt hC)
  have cC:∀ x a,X.env.cells.lookup x=some a→a≠C:=fun x a e=>by
    obtain ⟨v,o,e',_⟩:=I2.cell x a e
    exact Nat.ne_of_lt (Nat.lt_of_lt_of_le (Heap.lt_size e') hC)
  have cP:∀ p∈X.pn++pins,p.1≠C:=fun p hp=>Nat.ne_of_lt (Nat.lt_of_lt_of_le (Heap.lt_size (I2.pin p hp).1) hC)
  have fr:H' C=none:=I'.free
  have I4:Inv X (pins++[(C,o)]) σ H' s':=I3.rE fun p hp=>(List.mem_append.mp hp).elim (fun z=>I3.pin p (List.mem_append_right _ z)) fun z=>by
    have e:p=(C,o):=by simpa using z
    subst e
    exact ⟨ho,fr,cL,I2.Ju hC,fun v z=>by
      have r1:=r
      simp_all⟩
  show wpAny (model X.prog X.w) X.A (assign (.Name y py) X.env (.ref L)) _ _ s'
  refine bV (vQ (pos:=py) hN hy hx hf _ s' σ H' (.ref L) (.ref L) (fun σ1 H1=>D.nx σ1 H1∧H1=H') I4 rfl ⟨q,rfl⟩) fun _ s5 ⟨σ5,H5,I5,q5,e5⟩=>?_
  subst e5
  have pC:=(I5.pin (C,o) (List.mem_append_right _ (List.mem_append_right _ (by simp)))).1
  refine ⟨m,⟨o,es,ep,pC,r⟩,fun h' sb=>?_⟩
  exact ⟨σ5,H5,I5.iU.turned (t':=s5.toks) (fun b u hb e=>(sb.2 b hb).trans e) fr cL (.inr (Nat.le_trans I2.sz hC)) cC cP,q5⟩⟩
end
end L2
namespace L2
open PySem PySem.Spec PyProof.Rows
theorem jL {σ:St}:pick σ []=[]:=rfl
theorem jM {σ:St} {r:List (Option Nat)}:pick σ (none::r)=none::pick σ r:=rfl
theorem jN {σ:St} {j:Nat} {r:List (Option Nat)}:pick σ (some j::r)=(σ[j]?).join::pick σ r:=rfl
theorem join_some {α:Type} {o:Option α}:(some o).join=o:=rfl
section
variable {K:PySem.W.Frag} {g:TG} {tt:TT} {te:TE} {D a:Addr} {Q:Hp→Prop} {σ:St} {H:Hp} {xs:List V} {lo:Int} {n:Nat}
theorem wj {J:It} (Pv:Nat→List V→St→Hp→Prop) (h0:Pv 0 [] σ H) (hgo:∀ i acc σ H,i < n→Pv i acc σ H→J.go i H) (rF:∀ acc σ H,Pv n acc σ H→J.stop n H)
    (hs:∀ i acc σ H x H',i < n→Pv i acc σ H→J.JV i H x H'→g x σ H' fun σ2 H2=>tt σ2 H2 fun b H3=>if b=true then te σ2 H3 fun v H4=>H4 D=some (.lst acc)∧acc.length < sizeLine∧Pv (i + 1) (acc++[v]) σ2 (upd H4 D (.lst (acc++[v]))) else Pv (i + 1) acc σ2 H3)
    (hd:∀ acc σ H,Pv n acc σ H→Q H):eu J g tt te D Q σ H:=by
  refine ⟨fun i m acc σ H=>Pv i acc σ H∧i≤n∧m=n - i,⟨n,h0,Nat.zero_le _,by omega⟩,fun i m acc σ H ⟨h,hi,hm⟩=>?_⟩
  by_cases c:i < n
  · right
    exact ⟨hgo i acc σ H c h,Pv (i + 1),fun acc' σ' H' q=>⟨n - (i + 1),by omega,q,by omega,rfl⟩,fun x H' hy=>hs i acc σ H x H' c h hy⟩
  · left
    have e:i=n:=by omega
    subst e
    exact ⟨rF acc σ H h,hd acc σ H h⟩
theorem wm (Pv:Nat→List V→St→Hp→Prop) (h0:Pv 0 [] σ H) (hl:∀ i acc σ H,i≤xs.length→Pv i acc σ H→cz K H a xs)
    (hs:∀ i x acc σ H,xs[i]?=some x→Pv i acc σ H→g x σ H fun σ2 H2=>tt σ2 H2 fun b H3=>if b=true then te σ2 H3 fun v H4=>H4 D=some (.lst acc)∧acc.length < sizeLine∧Pv (i + 1) (acc++[v]) σ2 (upd H4 D (.lst (acc++[v]))) else Pv (i + 1) acc σ2 H3)
    (hd:∀ acc σ H,Pv xs.length acc σ H→Q H):eu (Cd K a) g tt te D Q σ H:=by
  refine wj (n:=xs.length) Pv h0 (fun i acc σ H hi h=>⟨xs,_,hl i acc σ H (Nat.le_of_lt hi) h,List.getElem?_eq_getElem hi⟩) (fun acc σ H h=>⟨xs,hl _ acc σ H (Nat.le_refl _) h,Nat.le_refl _⟩) (fun i acc σ H x H' hi h hy=>?_) hd
  obtain ⟨rfl,hy⟩:=hy
  exact hs i x acc σ _ (hy xs (hl i acc σ _ (Nat.le_of_lt hi) h)) h
theorem KZ (Pv:Nat→List V→St→Hp→Prop) (h0:Pv 0 [] σ H) (hl:∀ i acc σ H,i≤xs.length→Pv i acc σ H→j0 K H a xs)
    (hs:∀ i x acc σ H,xs[i]?=some x→Pv i acc σ H→g x σ H fun σ2 H2=>tt σ2 H2 fun b H3=>if b=true then te σ2 H3 fun v H4=>H4 D=some (.lst acc)∧acc.length < sizeLine∧Pv (i + 1) (acc++[v]) σ2 (upd H4 D (.lst (acc++[v]))) else Pv (i + 1) acc σ2 H3)
    (hd:∀ acc σ H,Pv xs.length acc σ H→Q H):eu (LP K a) g tt te D Q σ H:=by
  refine wj (n:=xs.length) Pv h0 (fun i acc σ H hi h=>⟨xs,_,hl i acc σ H (Nat.le_of_lt hi) h,List.getElem?_eq_getElem hi⟩) (fun acc σ H h=>⟨xs,hl _ acc σ H (Nat.le_refl _) h,Nat.le_refl _⟩) (fun i acc σ H x H' hi h hy=>?_) hd
  obtain ⟨rfl,hy⟩:=hy
  exact hs i x acc σ _ (hy xs (hl i acc σ _ (Nat.le_of_lt hi) h)) h
theorem jO {ta:TA} {src:List (Option Nat)} {Q:VK}:LS K (II ta) src g tt te σ H Q=ta σ H (fun vs H1=>∃ j:Int,vs=[.int j]∧-(2 ^ 62)≤j∧j < 2 ^ 62∧∀ D,L2.new K H1 D→eu (Ms 0 j.toNat) g tt te D (fun H'=>Q (.ref D) H') (pick σ src) (upd H1 D (.lst []))):=rfl
theorem jP {tl:TE} {src:List (Option Nat)} {Q:VK}:LS K (yN K tl) src g tt te σ H Q=tl σ H (fun x H1=>∃ a,x=.ref a∧(∃ xs,cz K H1 a xs)∧∀ D,L2.new K H1 D→eu (Cd K a) g tt te D (fun H'=>Q (.ref D) H') (pick σ src) (upd H1 D (.lst []))):=rfl
theorem mP {tl:TE} {src:List (Option Nat)} {Q:VK}:LS K (GG K tl) src g tt te σ H Q=tl σ H (fun x H1=>∃ a,x=.ref a∧(∃ xs,j0 K H1 a xs)∧∀ D,L2.new K H1 D→eu (LP K a) g tt te D (fun H'=>Q (.ref D) H') (pick σ src) (upd H1 D (.lst []))):=rfl
end
end L2
namespace L2
open PySem PySem.Spec PyProof.Rows
section
variable {X:Cx} {es:List Expr} {t:TA} {pos:Pos} (K:PySem.W.Frag)
theorem Ej (hk:X.K=K:=by rfl):Gj X (zd K):=by subst hk;exact dW
theorem K0 {k} (h:JA X es t) (hk:X.K=K:=by rfl):JE X (.Tuple es k pos) (qH K t):=by subst hk;exact fz h
theorem Ek (h:JA X es t) (hk:X.K=K:=by rfl):JE X (.List es pos) (qI K t):=by subst hk;exact bB h
theorem wo {k:Nat} {t:Dv} {n:Nat} (hc:X.calm=true) (h:MP X es t) (hn:(assignEach es X.env).length=n:=by rfl) (rF:(assignEach es X.env).findIdx? (·.1)=none:=by rfl) (hk:X.K=K:=by rfl):JG X (.Tuple es k pos) (lQ K n t):=by subst hk;exact sI hc h hn rF
end
end L2
namespace L2
open PySem PySem.Spec PyProof.Rows
section
variable {X:Cx} {pins:List (Addr×Obj)} {σ:St} {H:Hp} {s:Shared}
theorem Inv.kg (I:Inv X pins σ H s) {a:Addr} {o:HO} (h:H a=some o):jc X.K a=none:=by
  cases e:jc X.K a with
  | none=>rfl
  | some xs=>
    obtain ⟨ob,q⟩:=vn e
    rw [(I.bs a ob (I.ok.mod.Gd a ob q)).2] at h
    cases h
theorem jy:cX X (.type "list") (fun xs H Q=>∃ p ys,xs=[.ref p]∧jK X.K H p=some ys∧∀ l,L2.new X.K H l→Q (.ref l) (upd H l (.lst ys))):=by
  intro pins s σ H xs us Q I r h
  obtain ⟨p,ys,e,hq,q⟩:=h
  refine bV (vY pins s σ H xs us (fun v H'=>∃ l,H l=none∧v=.ref l∧H'=upd H l (.lst ys)) I r ⟨p,ys,e,rH hq,fun l hl=>⟨l,hl,rfl,rfl⟩⟩) fun u s' ⟨v,H',I',rv,l,hl,e1,e2⟩=>?_
  subst e1 e2
  exact ⟨_,_,I',rv,q l ⟨hl,I'.kg ai⟩⟩
theorem iZ (K:PySem.W.Frag) (hk:X.K=K:=by rfl):cX X (.type "list") (fun xs H Q=>∃ p ys,xs=[.ref p]∧jK K H p=some ys∧∀ l,L2.new K H l→Q (.ref l) (upd H l (.lst ys))):=by subst hk;exact jy
end
theorem CN.kp {K:PySem.W.Frag} {p D:Addr} {H H':Hp} {o:HO} (k:CN K p D (upd H D o) H') (n:L2.new K H D):Kp K p H H':=by
  refine ⟨fun q u e m=>?_,fun b ys e m=>k.mod b ys ((Ext.new n).mod b ys e m) m⟩
  have d:q≠D:=aJ e n.1
  exact k.keep q u (by rw [ao d];exact e) m d
theorem CN.refl {K:PySem.W.Frag} {p D:Addr} {H:Hp}:CN K p D H H:=⟨fun _ _ h _ _=>h,fun _ _ h _=>h⟩
end L2
set_option Elab.async false
set_option linter.all false
set_option maxRecDepth 100000
namespace L2
open PySem PySem.Spec PyProof.Rows
def gk {α:Type} (n m:Nat) (us ws:List α):List α:=if us.length=n∧ws.length=m then us++ws else []
structure JK (X:Cx) (MB:List Keyword) (t:TA):Prop where h:PK X MB t
structure Ph (P:Program) (w:World) (K:PySem.W.Frag) (mg:Str→Option Value) (base:Heap) (x:Str) (k:Nat) (ps:List Str) (ks:List Str) (n m:Nat) (sp:Sp):Prop where
  ex:∃ (f:Addr) (fd:FuncData),aT P w K mg base eK k f fd ps sp∧Kq K fd ps ks (gk n m) (gk n m)∧PySem.W.keepIn K (.ref f)=true∧mg x=some (.ref f)
structure Pj (P:Program) (w:World) (K:PySem.W.Frag) (mg:Str→Option Value) (base:Heap) (x:Str) (k:Nat) (ps:List Str) (iL:List V) (sp:Sp):Prop where
  ex:∃ (f:Addr) (fd:FuncData) (ds:List Value),aT P w K mg base eK k f fd ps sp∧Binds K fd ps ds∧Vals iL ds∧PySem.W.keepIn K (.ref f)=true∧mg x=some (.ref f)
section
variable {X:Cx} {x:Str} {k n m:Nat} {ps ks:List Str} {iL:List V} {sp:Sp} {e:Expr} {es:List Expr} {MB:List Keyword} {t tk:TA} {te:TE} {p pos Rv:Pos} {nm:Option Str}
end
end L2
namespace L2
open PySem PySem.Spec PyProof.Rows
end L2
namespace L2
open PySem PySem.Spec PyProof.Rows
section
variable {K:PySem.W.Frag} {s:Shared} {fd:FuncData} {args:Args} {binds:List (Str×Value)} {d:Addr} {name:Str} {v cls:Value} {es:Array DictEntry} {ep:Nat} {od:Option Addr} {sl:Array (Option Value)} {α β:Type}
end
end L2
set_option Elab.async false
set_option linter.all false
set_option maxRecDepth 100000
namespace L2
open PySem PySem.Spec PyProof.Rows
section
variable {X:Cx} {o lo hi e:Expr} {to tl th te:TE} {p pos:Pos}
end
end L2
namespace L2
open PySem PySem.Spec PyProof.Rows
section
variable {X:Cx}
def MU (K:PySem.W.Frag):V→Option Int→Option Int→Hp→VK→Prop:=fun x lo hi H Q=>∃ a xs,x=.ref a∧tupQ K H a=some xs∧
  ¬ (HT.iw xs.length 0 lo=0∧HT.iw xs.length xs.length hi=xs.length)∧∀ p,L2.new K H p→Q (.ref p) (upd H p (.tup (sq xs lo hi)))
theorem Hu:Gi X (MU X.K):=by
  intro pins s σ H x v vl vu lo hi sl Q I rx hs pl pu h
  obtain ⟨a,xs,rfl,hx,hw,q⟩:=h
  obtain ⟨T,id,h1,h2,h3⟩:=Ku pins s σ H (.ref a) v vl vu lo hi sl (fun v' H'=>∃ l,H l=none∧v'=.ref l∧H'=upd H l (.tup (sq xs lo hi))) I rx hs pl pu ⟨a,xs,rfl,cH hx,hw,fun l hl=>⟨l,hl,rfl,rfl⟩⟩
  refine ⟨T,id,h1,h2,bV h3 fun u s' ⟨v',H',I',rv,l,hl,e1,e2⟩=>?_⟩
  subst e1 e2
  exact ⟨_,_,I',rv,q l ⟨hl,I'.kg ai⟩⟩
end
end L2
set_option Elab.async false
set_option linter.all false
set_option maxRecDepth 100000
namespace L2
open PySem PySem.Spec PyProof.Rows
abbrev TBd:=List V→St→Hp→(List V→St→Hp→Prop)→Prop
section
variable {elt tg iter tg1 IY:Expr} {ifs MV:List Expr} {scope:Scope} {pos:Pos} {it acc:Value} {env:Env}
variable {prog:Program} {w:World} {A:Around} {R:Result→Shared→Prop} {s:Shared}
end
section
variable {Y:Cx} {elt tg iter tg1 IY:Expr} {ifs MV:List Expr} {scope:Scope} {pos:Pos} {g:TG} {tt:TT} {te:TE}
end
section
variable {X:Cx} {sc:Scope} {N:List Str} {src:List (Option Nat)} {tg iter tg1 IY elt:Expr} {ifs MV:List Expr} {wi wi1:TI} {g g1:TG} {tt tt1:TT} {te:TE} {pos:Pos}
end
section
variable {K:PySem.W.Frag} {g:TG} {tt:TT} {body:TBd} {a:Addr} {adT:List V} {F:List V→St→Hp→Prop} {σ:St} {H:Hp} {xs:List V} {n:Nat}
end
end L2
set_option Elab.async false
set_option linter.all false
set_option maxRecDepth 100000
namespace L2
open PySem PySem.Spec PyProof.Rows
theorem vz:∀ {us:List Value} {ns:List Int},IntsAre us ns→Vals (ns.map V.int) us
  | _,_,.nil=>.nil
  | _,_,.cons n t h=>.cons ⟨t,rfl⟩ (vz h)
theorem Hv {xs:List V} {us:List Value} (h:Vals xs us):∀ {i:Nat} {u:Value},us[i]?=some u→∃ x,xs[i]?=some x∧RelV x u:=by
  induction h with
  | nil=>intro i u e;simp at e
  | cons r rr ih=>
    intro i u e
    cases i with
    | zero=>simp only [List.getElem?_cons_zero,Option.some.injEq] at e ⊢;exact ⟨_,rfl,e ▸ r⟩
    | succ i=>simp only [List.getElem?_cons_succ] at e ⊢;exact ih e
section
variable {X:Cx}
theorem range_all {bs:List Bool}:(List.range bs.length).all (fun i=>bs.getD i true)=bs.all id:=by
  induction bs with
  | nil=>rfl
  | cons b bs ih=>
    rw [List.length_cons,List.range_succ_eq_map,List.all_cons,List.all_map,List.all_cons]
    have e:((fun i=>(b::bs).getD i true) ∘ Nat.succ)=fun i=>bs.getD i true:=by funext i;simp
    rw [e,ih]
    rfl
theorem zf {P:Program} {w:World} {A:Around} {bs:List Bool} {us:List Value} (r:Vals (bs.map V.bl) us):TruthOf P w A (fun i v=>us.toArray[i]?=some v) (fun i=>bs.getD i true):=by
  intro i v s Q E hv hQ
  rw [List.getElem?_toArray] at hv
  obtain ⟨x,hx,rx⟩:=Hv r hv
  rw [List.getElem?_map] at hx
  obtain ⟨b,hb,rfl⟩:=Option.map_eq_some_iff.mp hx
  cases rx
  have e:bs.getD i true=b:=by rw [List.getD_eq_getElem?_getD,hb];rfl
  dsimp only at hQ
  rw [e] at hQ
  exact wpAny_truthy_bool hQ
theorem kept_iter {s:Shared} {l:Addr} {h':Heap} (hk:∀ b o,b∉[s.heap.objs.size]→(s.heap.push { cls:=.type "list_iterator",data:=.fields #[.ref l,.int 0 0] }).get? b=some o→h'.get? b=some o):∀ b o,s.heap.get? b=some o→h'.get? b=some o:=fun b o e=>by
  refine hk b o (fun m=>?_) (Heap.get?_push_of_some _ e)
  have q:b=s.heap.objs.size:=by simpa using m
  exact Nat.lt_irrefl _ (q ▸ Heap.lt_size e)
theorem vA (hc:X.calm=true):cX X (.builtin "all") (fun xs H Q=>∃ (p:Addr) (bs:List Bool),xs=[.ref p]∧cz X.K H p (bs.map V.bl)∧Q (.bl (bs.all id)) H):=by
  intro pins s σ H xs us Q I r h
  obtain ⟨p,bs,rfl,hx,q⟩:=h
  obtain ⟨u,rfl,ru⟩:=vals1 r
  cases ru
  obtain ⟨aY,rv,ht,hz⟩:=I.list hx
  have hl:s.heap.IsList p aY.toArray:=ht.isList
  have Dw:p < s.heap.objs.size:=by obtain ⟨_,e,_⟩:=hl;exact Heap.lt_size e
  refine call_all_walk (wpAny_pyIter_list hl ?_)
  refine ⟨_,_,_,_,_,_,fun i=>bs.getD i true,rfl,Walks.list (A:=X.A.in1) (I.ok.hd hc) _ p (Nat.ne_of_lt Dw) aY.toArray,⟨⟨_,Heap.get?_push_size _ rfl,rfl,rfl⟩,hl.push _⟩,zf rv,fun h' tk hk=>?_⟩
  have el:aY.toArray.size=bs.length:=by rw [List.size_toArray,← rv.length,List.length_map]
  rw [el,range_all]
  exact ⟨.bl _,H,I.kept (kept_iter hk),rfl,q⟩
end
section
variable {P:Program} {w:World} {A:Around} {E:Value→Shared→Prop} {s:Shared} {b0:Array Keyed}
end
section
variable {X:Cx}
end
end L2
set_option Elab.async false
set_option linter.all false
set_option maxRecDepth 100000
namespace L2
open PySem PySem.Spec PyProof.Rows
def sL (xs:Array Nat):Prop:=xs.toList.Pairwise (· < ·)
structure iA (t:SetTable):Prop where
  bare:t.dummies=#[]
  rise:sL t.place
section
variable {xs:Array Nat} {j:Nat}
theorem sL.lt (h:sL xs) {i k:Nat} (ik:i < k) (hk:k < xs.size):xs.getD i j < xs.getD k j:=by
  have hi:i < xs.size:=Nat.lt_trans ik hk
  rw [Array.getD_eq_getD_getElem?,Array.getD_eq_getD_getElem?,Array.getElem?_eq_getElem hi,Array.getElem?_eq_getElem hk]
  have q:=List.pairwise_iff_getElem.mp h i k (by simpa using hi) (by simpa using hk) ik
  simpa using q
theorem El (h:sL xs) {m:Nat} (hm:xs.getD m j < j) {i:Nat} (hi:i≤m):xs.getD i j < j:=by
  by_cases c:m < xs.size
  · by_cases e:i=m
    · rw [e];exact hm
    · have:=h.lt (j:=j) (show i < m by omega) c
      omega
  · rw [Array.getD_eq_getD_getElem?,Array.getElem?_eq_none (by omega)] at hm
    exact absurd hm (Nat.lt_irrefl _)
theorem Hw (h:sL xs) {m:Nat} (hm:¬ xs.getD m j < j) {i:Nat} (hi:m≤i):¬ xs.getD i j < j:=fun c=>hm (El h c hi)
theorem sM (h:sL xs):∀ fuel lo hi,lo≤hi→hi≤xs.size→hi - lo≤fuel→(∀ i,i < lo→xs.getD i j < j)→(∀ i,hi≤i→¬ xs.getD i j < j)→
    SetTable.below.go xs j fuel lo hi≤xs.size∧(∀ i,i < SetTable.below.go xs j fuel lo hi→xs.getD i j < j)∧∀ i,SetTable.below.go xs j fuel lo hi≤i→¬ xs.getD i j < j
  | 0,lo,hi,h1,h2,h3,h4,h5=>by
    have e:lo=hi:=by omega
    unfold SetTable.below.go
    exact ⟨by omega,h4,fun i hi'=>h5 i (by omega)⟩
  | fuel + 1,lo,hi,h1,h2,h3,h4,h5=>by
    unfold SetTable.below.go
    by_cases c:lo < hi
    · rw [if_pos c]
      dsimp only
      by_cases d:xs.getD ((lo + hi) / 2) j < j
      · rw [if_pos d]
        exact sM h fuel _ _ (by omega) h2 (by omega) (fun i hi'=>El h d (by omega)) h5
      · rw [if_neg d]
        exact sM h fuel _ _ (by omega) (by omega) (by omega) h4 (fun i hi'=>Hw h d hi')
    · rw [if_neg c]
      exact ⟨by omega,h4,fun i hi'=>h5 i (by omega)⟩
theorem AE (h:sL xs) (j:Nat):SetTable.below xs j≤xs.size∧(∀ i,i < SetTable.below xs j→xs.getD i j < j)∧∀ i,SetTable.below xs j≤i→¬ xs.getD i j < j:=by
  unfold SetTable.below
  refine sM h _ _ _ (Nat.zero_le _) (Nat.le_refl _) (by omega) (fun i hi=>absurd hi (Nat.not_lt_zero _)) (fun i hi=>?_)
  rw [Array.getD_eq_getD_getElem?,Array.getElem?_eq_none hi]
  exact Nat.lt_irrefl _
theorem sL.insert (h:sL xs) {j:Nat} (free:xs[SetTable.below xs j]?≠some j):sL (SetTable.insertAt xs (SetTable.below xs j) j):=by
  obtain ⟨b1,b2,b3⟩:=AE h j
  generalize SetTable.below xs j=p at *
  have at_:∀ i (hi:i < xs.size),xs.getD i j=xs.toList[i]'(by simpa using hi):=fun i hi=>by
    rw [Array.getD_eq_getD_getElem?,Array.getElem?_eq_getElem hi];simp
  unfold sL SetTable.insertAt
  rw [Array.toList_append,Array.toList_push,Array.toList_extract,Array.toList_extract]
  simp only [List.extract_eq_drop_take,Nat.sub_zero,List.drop_zero]
  have e1:List.take (xs.size - p) (List.drop p xs.toList)=xs.toList.drop p:=List.take_of_length_le (by rw [List.length_drop];simp)
  rw [e1,List.append_assoc]
  refine List.pairwise_append.mpr ⟨h.sublist (List.take_sublist _ _),?_,?_⟩
  · refine List.pairwise_append.mpr ⟨List.pairwise_singleton _ _,h.sublist (List.drop_sublist _ _),fun a ha c hc=>?_⟩
    have ea:a=j:=by simpa using ha
    subst ea
    obtain ⟨i,hi,rfl⟩:=List.mem_iff_getElem.mp hc
    rw [List.length_drop] at hi
    rw [List.getElem_drop]
    have Dw:p + i < xs.size:=by simp at hi;omega
    have q:=b3 (p + i) (by omega)
    rw [at_ _ Dw] at q
    by_cases z:i=0
    · subst z
      have ne:xs.toList[p + 0]'(by simpa using Dw)≠a:=fun e=>free (by
        rw [Array.getElem?_eq_getElem (by simpa using Dw)]
        simpa using e)
      omega
    · have hp:p < xs.size:=by omega
      have q0:=b3 p (Nat.le_refl _)
      have q1:=h.lt (j:=a) (show p < p + i by omega) Dw
      rw [at_ _ Dw] at q1
      omega
  · intro a ha c hc
    obtain ⟨i,hi,rfl⟩:=List.mem_iff_getElem.mp ha
    rw [List.length_take] at hi
    rw [List.getElem_take]
    have Dw:i < xs.size:=by simp at hi;omega
    have qa:=b2 i (by omega)
    rw [at_ _ Dw] at qa
    rcases List.mem_append.mp hc with z | z
    · have e:c=j:=by simpa using z
      rw [e];exact qa
    · obtain ⟨k,hk,rfl⟩:=List.mem_iff_getElem.mp z
      rw [List.length_drop] at hk
      rw [List.getElem_drop]
      exact List.pairwise_iff_getElem.mp h i (p + k) _ _ (by omega)
end
theorem has_none (j:Nat):SetTable.has #[] j=false:=by simp [SetTable.has]
theorem iA.slot {t:SetTable} (h:iA t) {j:Nat} (e:t.slot j=.empty):t.place[SetTable.below t.place j]?≠some j:=by
  intro c
  unfold SetTable.slot at e
  simp only [c,beq_self_eq_true,if_true] at e
  cases e
theorem sN {t:SetTable} (h:iA t) {f:Nat→Int} {x:Int}:∀ (fuel:Nat) (p:SetTable.Probe) {j:Nat} {d:Option Nat},p.dummy=none→SetTable.probe.go t f x fuel p=some (.empty j d)→d=none∧t.slot j=.empty
  | 0,p,j,d,hp,e=>by unfold SetTable.probe.go at e;cases e
  | fuel + 1,p,j,d,hp,e=>by
    unfold SetTable.probe.go at e
    have adv:(t.advance p).dummy=none:=by unfold SetTable.advance;split <;> exact hp
    cases c:t.slot p.j with
    | empty=>
      rw [c] at e
      dsimp only at e
      cases e
      exact ⟨hp,c⟩
    | dummy=>
      exfalso
      unfold SetTable.slot at c
      dsimp only at c
      split at c
      · cases c
      · rw [h.bare,has_none] at c
        simp at c
    | live i=>
      rw [c] at e
      dsimp only at e
      split at e
      · cases e
      · exact sN h fuel _ adv e
theorem iA.standIn {t:SetTable} (n:Nat):iA (t.standIn n):=⟨rfl,by
  show (Array.range n).toList.Pairwise (· < ·)
  rw [Array.toList_range]
  exact List.pairwise_lt_range⟩
theorem iA.orStandIn {t:SetTable} (h:iA t) (n:Nat):iA (t.orStandIn n):=by
  unfold SetTable.orStandIn
  split
  · exact h
  · exact .standIn n
theorem iA.put {t:SetTable} (h:iA t) {j:Nat} (e:t.slot j=.empty):iA (t.put j).1:=⟨by
  show (if SetTable.has t.dummies j then _ else t.dummies)=#[]
  rw [h.bare,has_none]
  rfl,h.rise.insert (h.slot e)⟩
theorem AF {t:SetTable} (h:iA t) (es:Array (Int×Value)) (hv:Int) (x:Value):iA (layNew t es hv x).2.1∧(layNew t es hv x).2.1.led=t.led:=by
  unfold layNew
  cases c:t.freeSlot hv with
  | none=>exact ⟨.standIn _,rfl⟩
  | some q=>
    obtain ⟨sl,wd⟩:=q
    have free:t.slot sl=.empty:=by
      unfold SetTable.freeSlot at c
      split at c
      · next j d e=>
        unfold SetTable.probe at e
        obtain ⟨rfl,z⟩:=sN h _ _ rfl e
        simp only [Option.getD_none,Option.isSome_none,Option.some.injEq,Prod.mk.injEq] at c
        rw [← c.1];exact z
      · cases c
    dsimp only
    refine ⟨(h.put free).orStandIn _,?_⟩
    unfold SetTable.orStandIn
    split
    · rfl
    · rfl
theorem vB (f:Nat→Option Nat):∀ l:List Nat,l.Pairwise (· < ·)→((l.filterMap fun j=>(f j).map (j,·)).map (·.1)).Pairwise (· < ·)∧∀ a∈(l.filterMap fun j=>(f j).map (j,·)).map (·.1),a∈l
  | [],_=>⟨List.Pairwise.nil,fun a h=>nomatch h⟩
  | j::l,h=>by
    obtain ⟨i1,i2⟩:=vB f l (List.pairwise_cons.mp h).2
    cases c:f j with
    | none=>
      rw [List.filterMap_cons_none (by rw [c];rfl)]
      exact ⟨i1,fun a ha=>List.mem_cons_of_mem _ (i2 a ha)⟩
    | some k=>
      rw [List.filterMap_cons_some (b:=(j,k)) (by rw [c];rfl)]
      refine ⟨List.pairwise_cons.mpr ⟨fun a ha=>(List.pairwise_cons.mp h).1 a (i2 a ha),i1⟩,fun a ha=>?_⟩
      rcases List.mem_cons.mp ha with z | z
      · exact z ▸ List.mem_cons_self
      · exact List.mem_cons_of_mem _ (i2 a z)
theorem wu {t:SetTable} (es:Array (Int×Value)) (n:Nat):iA (relayAll t es n).2.1∧(relayAll t es n).2.1.led=t.led:=by
  unfold relayAll
  cases c:t.relaid (es.map (·.1)) n with
  | none=>exact ⟨.standIn _,rfl⟩
  | some q=>
    obtain ⟨t',order⟩:=q
    dsimp only
    split
    · unfold SetTable.relaid SetTable.laid at c
      cases d:SetTable.layClean (SetTable.sizeAbove n - 1) (es.map (·.1)) with
      | none=>rw [d] at c;cases c
      | some owner=>
        rw [d] at c
        simp only [Option.bind_eq_bind,Option.bind_some,Option.pure_def,Option.some.injEq,Prod.mk.injEq] at c
        rw [← c.1]
        refine ⟨⟨rfl,?_⟩,rfl⟩
        exact (vB (fun j=>owner.getD j none) _ List.pairwise_lt_range).1
    · exact ⟨.standIn _,rfl⟩
def sO (es:Array (Int×Value)):List Int:=es.toList.map fun e=>numOf e.2
structure MW (P:Program) (w:World) (h:Heap) (a:Addr) (L:Bool) (M:Int→Prop) (n:Nat) (es:Array (Int×Value)) (ep:Nat) (t:SetTable):Prop where
  at_:∃ o,h.get? a=some o∧o.ExactSet∧o.data=.set es ep t
  elems:ElemsOf (intKind P w) es.toList
  nd:(sO es).Nodup
  mem:∀ k,k∈sO es↔M k
  len:es.size≤n
  fits:t.fits es.size=true
  tab:iA t
  led:t.led=L
def wz (P:Program) (w:World) (h:Heap) (a:Addr) (L:Bool) (M:Int→Prop) (n:Nat):Prop:=∃ es ep t,MW P w h a L M n es ep t
section
variable {P:Program} {w:World} {A:Around} {E:Value→Shared→Prop} {s:Shared}
theorem wz.keep {h h':Heap} {a:Addr} {L:Bool} {M:Int→Prop} {n:Nat} (q:wz P w h a L M n) (k:∀ o,h.get? a=some o→h'.get? a=some o):wz P w h' a L M n:=by
  obtain ⟨es,ep,t,x⟩:=q
  obtain ⟨o,h1,h2⟩:=x.at_
  exact ⟨es,ep,t,⟨⟨o,k o h1,h2⟩,x.elems,x.nd,x.mem,x.len,x.fits,x.tab,x.led⟩⟩
theorem Em {k:Int} {v:Value} (h:(intKind P w).is k v=true):numOf v=k∧∃ t,v=.int k t:=by
  obtain ⟨t,rfl⟩:=Value.isInt_shape h
  exact ⟨rfl,t,rfl⟩
theorem sP {h:Heap} {a:Addr} {o:Obj} {RM es:Array (Int×Value)} {ep:Nat} {t0 t:SetTable} (ho:h.get? a=some o) (hx:o.ExactSet) (hd:o.data=.set RM ep t0):
    ∃ o',(h.update a (Obj.putSet es t)).get? a=some o'∧o'.ExactSet∧o'.data=.set es (ep + 1) t:=by
  refine ⟨{ o with data:=.set es (ep + 1) t },?_,hx,rfl⟩
  have g:=Heap.get?_update_self (Obj.putSet es t) ho (by rw [putSet_of es t hd];rfl)
  rwa [putSet_of es t hd] at g
theorem BI {g:Bool→Sem Unit} (hg:∀ (b:Bool) (s1:Shared) (R:Unit→Shared→Prop),R () s1→wpAny (model P w) A (g b) R E s1) {a:Addr} {o:Obj} {RM es:Array (Int×Value)} {ep:Nat} {t0 t:SetTable} {L:Bool} {M:Int→Prop} {n:Nat} {wd:Bool} {R:Option Bool→Shared→Prop}
    (ho:s.heap.get? a=some o) (hx:o.ExactSet) (hd:o.data=.set RM ep t0) (h1:ElemsOf (intKind P w) es.toList) (h2:(sO es).Nodup) (h3:∀ k,k∈sO es↔M k) (h4:es.size≤n) (h5:t.fits es.size=true) (h6:iA t) (h7:t.led=L) (hn:n < scanBound)
    (q:∀ h',Heap.SameBut a s.heap h'→wz P w h' a L M n→R (some true) { s with heap:=h' }):
    wpAny (model P w) A (do
      storeSet a es t
      if (!wd&&t.tooFull)=true then do
        g (relayAll t es (SetTable.grown es.size)).2.2
        storeSet a (relayAll t es (SetTable.grown es.size)).1 (relayAll t es (SetTable.grown es.size)).2.1
        pure (some true)
      else pure (some true)) R E s:=by
  refine wpAny_bind (wpAny_storeSet_of ho hd ?_ (fits_of_scanBound (Nat.lt_of_le_of_lt h4 hn)))
  obtain ⟨o1,g1,x1,d1⟩:=sP (es:=es) (t:=t) ho hx hd
  have sb:=Heap.SameBut.update s.heap a (Obj.putSet es t)
  split
  · have pm:=relayAll_perm t es (SetTable.grown es.size)
    have ft:=relayAll_fits t es (SetTable.grown es.size)
    obtain ⟨tb,ld⟩:=wu (t:=t) es (SetTable.grown es.size)
    generalize relayAll t es (SetTable.grown es.size)=W at pm ft tb ld ⊢
    have kp:(sO W.1).Perm (sO es):=pm.map _
    have sz:W.1.size=es.size:=by rw [← Array.length_toList,pm.length_eq,Array.length_toList]
    refine wpAny_bind (hg _ _ _ ?_)
    refine wpAny_bind (wpAny_storeSet_of g1 d1 ?_ (fits_of_scanBound (by omega)))
    obtain ⟨o2,g2,x2,d2⟩:=sP (es:=W.1) (t:=W.2.1) g1 x1 d1
    exact wpAny_pure (q _ (sb.trans (Heap.SameBut.update _ a _)) ⟨W.1,_,W.2.1,⟨⟨o2,g2,x2,d2⟩,h1.perm pm,kp.nodup_iff.mpr h2,fun k=>kp.mem_iff.trans (h3 k),by omega,ft,tb,ld.trans h7⟩⟩)
  · exact wpAny_pure (q _ sb ⟨es,_,t,⟨⟨o1,g1,x1,d1⟩,h1,h2,h3,h4,h5,h6,h7⟩⟩)
theorem add_int {a:Addr} {L:Bool} {M:Int→Prop} {n:Nat} {k:Int} {tk:Tok} {R:Bool→Shared→Prop} (h:wz P w s.heap a L M n) (hn:n + 1 < scanBound)
    (q:∀ h' b,Heap.SameBut a s.heap h'→wz P w h' a L (fun j=>M j∨j=k) (n + 1)→R b { s with heap:=h' }):wpAny (model P w) A (setAddHashed a (.int k tk) (hashInt k)) R E s:=by
  obtain ⟨es,ep,t,x⟩:=h
  obtain ⟨o,ho,hx,hd⟩:=x.at_
  have lt:es.size < scanBound:=Nat.lt_of_le_of_lt x.len (by omega)
  unfold setAddHashed setAddHashedIn
  refine wpAny_holding (wpAny_bind (wpAny_setState_of ho hd x.fits ?_))
  dsimp only
  rw [byScan_of (knd:=intKind P w) (x:=.int k tk) rfl lt x.elems]
  simp only [↓reduceIte]
  unfold setAddByScan
  refine wpAny_bind (wpAny_bind (wpAny_rule (wpAny_bind (wpAny_setScan_of (intKind_is P w k tk) ho hd x.fits x.elems ?_))))
  cases c:es.toList.findIdx? (fun e=>(intKind P w).is k e.2) with
  | some i=>
    obtain ⟨hi,p,_⟩:=List.findIdx?_eq_some_iff_getElem.mp c
    have there:M k:=(x.mem k).mp (List.mem_map.mpr ⟨_,List.getElem_mem hi,(Em p).1⟩)
    exact wpAny_pure (wpAny_pure (q s.heap false (Heap.SameBut.refl a s.heap) ⟨es,ep,t,⟨⟨o,ho,hx,hd⟩,x.elems,x.nd,fun j=>(x.mem j).trans ⟨.inl,fun z=>z.elim id fun e=>e ▸ there⟩,Nat.le_succ_of_le x.len,x.fits,x.tab,x.led⟩⟩))
  | none=>
    have fresh:k∉sO es:=fun m=>by
      obtain ⟨e,he,ek⟩:=List.mem_map.mp m
      have no:=List.findIdx?_eq_none_iff.mp c e he
      obtain ⟨⟨k',hk',_⟩,_⟩:=x.elems e he
      rw [(Em hk').1] at ek
      subst ek
      rw [hk'] at no
      cases no
    have AG:∀ (b:Bool) {s1:Shared} {R':Unit→Shared→Prop},R' () s1→wpAny (model P w) A (match b with | true=>rule "set.scan.the-table-gave-way" | false=>pure ()) R' E s1:=fun b {s1 R'} z=>by
      cases b with
      | true=>exact wpAny_rule z
      | false=>exact wpAny_pure z
    have pm:=layNew_perm t es (hashInt k) (.int k tk)
    have ft:=layNew_fits t es (hashInt k) (.int k tk)
    obtain ⟨tb,ld⟩:=AF x.tab es (hashInt k) (.int k tk)
    dsimp only
    generalize layNew t es (hashInt k) (.int k tk)=W at pm ft tb ld ⊢
    obtain ⟨es1,t1,wd,gv⟩:=W
    dsimp only at pm ft tb ld ⊢
    rw [Array.toList_push] at pm
    have e1:ElemsOf (intKind P w) es1.toList:=(x.elems.push (intKind_is P w k tk) rfl).perm pm
    have kp:(sO es1).Perm (sO es++[k]):=by
      have z:=pm.map fun e=>numOf e.2
      rwa [List.map_append] at z
    have n1:(sO es1).Nodup:=kp.nodup_iff.mpr (List.nodup_append.mpr ⟨x.nd,by simp,fun a ha b hb=>by
      have e:b=k:=by simpa using hb
      subst e
      exact fun z=>fresh (z ▸ ha)⟩)
    have m1:∀ j,j∈sO es1↔(M j∨j=k):=fun j=>by
      rw [kp.mem_iff,List.mem_append,x.mem j]
      simp
    have s1:es1.size≤n + 1:=by
      rw [← Array.length_toList,pm.length_eq,List.length_append,Array.length_toList]
      exact Nat.succ_le_succ x.len
    refine wpAny_bind (AG _ ?_)
    have MX:t1.led=L:=ld.trans x.led
    split
    · refine wpAny_bind ?_
      rw [hashByValue_scannable 8 (x:=.int k tk) rfl]
      refine wpAny_pure ?_
      refine BI ?_ ho hx hd e1 n1 m1 s1 ft tb MX hn fun h' z1 z2=>?_
      · intro b s2 R' z
        exact AG b z
      · exact wpAny_pure (q h' true z1 z2)
    · refine wpAny_bind (wpAny_pure ?_)
      refine BI ?_ ho hx hd e1 n1 m1 s1 ft tb MX hn fun h' z1 z2=>?_
      · intro b s2 R' z
        exact AG b z
      · exact wpAny_pure (q h' true z1 z2)
end
theorem wz.to {P:Program} {w:World} {h:Heap} {a:Addr} {L:Bool} {M M':Int→Prop} {n n':Nat} (q:wz P w h a L M n) (e:∀ k,M k↔M' k) (le:n≤n'):wz P w h a L M' n':=by
  obtain ⟨es,ep,t,x⟩:=q
  exact ⟨es,ep,t,⟨x.at_,x.elems,x.nd,fun k=>(x.mem k).trans (e k),Nat.le_trans x.len le,x.fits,x.tab,x.led⟩⟩
section
variable {P:Program} {w:World} {A:Around} {R:Result→Shared→Prop} {I S:Addr} {fp wr:List Addr} {G:Array GenState→Array GenState→Prop} {n:Nat} {Pv:Nat→Value→Prop} {St:Nat→Shared→Prop} {L:Bool}
end
section
variable {P:Program} {w:World} {A:Around} {E:Value→Shared→Prop} {s:Shared}
end
end L2
set_option Elab.async false
set_option linter.all false
set_option maxRecDepth 100000
namespace L2
open PySem PySem.Spec PyProof.Rows
def K1 (h:Heap) (S:Addr) (es:Array (Int×Value)) (ep:Nat) (t:SetTable):Prop:=∃ o,h.get? S=some o∧o.data=.set es ep t
section
variable {P:Program} {w:World} {A:Around} {E:Value→Shared→Prop} {s:Shared} {it S:Addr} {es:Array (Int×Value)} {ep i n:Nat} {t:SetTable} {R:Option Value→Shared→Prop}
end
section
variable {P:Program} {w:World} {A:Around} {it S T:Addr} {es:Array (Int×Value)} {ep:Nat} {t:SetTable}
theorem K1.keep {h h':Heap} (x:K1 h S es ep t) (k:∀ o,h.get? S=some o→h'.get? S=some o):K1 h' S es ep t:=by
  obtain ⟨o,g,d⟩:=x
  exact ⟨o,k o g,d⟩
end
structure Pk (P:Program) (w:World) (A:Around) (s s':Shared) (S it:Addr) (fp:List Addr) (vals:Array Value) (St:Nat→Heap→Prop):Prop where
  walk:Walks P w A it fp [it] vals.size (fun i v=>vals[i]?=some v) St
  st:St 0 s'.heap
  below:∀ b∈fp,b < s'.heap.objs.size
  new:∀ b∈fp,b=S∨s.heap.objs.size≤b
  old:s.heap.objs.size≤it
  gens:s'.gens=s.gens
  os:s'.os=s.os
  keep:∀ b o,s.heap.get? b=some o→s'.heap.get? b=some o
section
variable {P:Program} {w:World} {A:Around} {E:Value→Shared→Prop} {s:Shared} {S:Addr} {L:Bool} {M:Int→Prop} {n:Nat} {es:Array (Int×Value)} {ep:Nat} {t:SetTable}
end
end L2
set_option Elab.async false
set_option linter.all false
set_option maxRecDepth 100000
namespace L2
open PySem PySem.Spec PyProof.Rows
section
variable {P:Program} {w:World} {A:Around} {E:Value→Shared→Prop} {s:Shared} {S:Addr} {M:Int→Prop} {n:Nat}
end
section
variable {X:Cx} {pins:List (Addr×Obj)} {σ:St} {H:Hp} {s:Shared}
theorem Inv.RN (I:Inv X pins σ H s) {s':Shared} (e1:s'.gens=s.gens) (e2:s'.os=s.os) (e3:s'.heap=s.heap):Inv X pins σ H s':=by
  obtain ⟨hp,g,d,tk,os⟩:=s
  obtain ⟨hp',g',d',tk',GP⟩:=s'
  dsimp only at e1 e2 e3
  subst e1 e2 e3
  exact ⟨I.ok,I.os,I.bare,I.base,I.loc,I.cell,I.free,I.eL,I.pin,I.bC,I.len⟩
end
end L2
set_option Elab.async false
set_option linter.all false
set_option maxRecDepth 100000
namespace L2
open PySem PySem.Spec PyProof.Rows
theorem Inv.BJ {X:Cx} {pins:List (Addr×Obj)} {σ:St} {H:Hp} {s:Shared} {h':Heap} {ch:List Addr} {T:Addr} {o:HO} {t':Nat} (I:Inv X pins σ H s) (k:∀ b u,b∉ch→s.heap.get? b=some u→h'.get? b=some u) (hf:∀ b∈ch,lE X pins H b)
    (hp:s.heap.objs.size≤T) (new:cg X.prog X.w (upd H T o) h' T o):Inv X pins σ (upd H T o) { s with heap:=h',toks:=t' }:=by
  have fr:=I.bC.fresh hp
  have out:∀ b u,H b=some u→b∉ch:=fun b u e z=>by rw [(hf b z).1] at e;cases e
  refine I.step (g':=s.gens) (d':=s.drawn) (ch:=ch) (fun b hb=>⟨(hf b hb).2.2.2.1,(hf b hb).2.1,(hf b hb).2.2.2.2.1,(hf b hb).2.2.2.2.2⟩) (fun b u _ _ hc e _=>k b u hc e) (fun b u _ _ hc e _=>⟨u.slots,k b u hc e⟩)
    (fun b u _ e z=>by rw [ao (Nat.ne_of_lt (Nat.lt_of_lt_of_le (Heap.lt_size e) hp))];exact z) (fun b u hc e=>⟨u,k b u hc e⟩) (fun b xs e=>by rw [ao (aJ e fr)];exact e) (fun b u v e=>by rw [ao (aJ e fr)];exact e)
    (fun b ps e=>⟨#[],by rw [ao (aJ e fr),e];simp⟩) (fun m hm=>?_) (fun b u e=>?_) I.bare
  · obtain ⟨ob,es,ep,ho,r⟩:=hm
    exact ⟨ob,es,ep,k _ ob (fun z=>(hf _ z).2.1 rfl) ho,r⟩
  · by_cases hb:b=T
    · subst hb
      rw [ai] at e
      cases e
      exact new
    · rw [ao hb] at e
      refine (I.bC b u e).qQ (fun c v hc q=>k c v ?_ q) (fun c q=>by rw [ao (aJ q fr)];exact q) fun c xs q=>by rw [ao (aJ q fr)];exact q
      rcases hc with z | z
      · rw [z];exact out b u e
      · exact out c _ z
section
variable {X:Cx}
theorem sQ:cX X (.type "tuple") (fun xs H Q=>∃ (p:Addr) (ys:List V),xs=[.ref p]∧H p=some (.lst ys)∧∀ l,L2.new X.K H l→Q (.ref l) (upd H l (.tup ys))):=by
  intro pins s σ H xs us Q I r h
  obtain ⟨p,ys,e,hq,q⟩:=h
  refine bV (uA pins s σ H xs us (fun v H'=>∃ l,H l=none∧v=.ref l∧H'=upd H l (.tup ys)) I r ⟨p,ys,e,.inl ⟨cz.of hq,fun l hl=>⟨l,hl,rfl,rfl⟩⟩⟩) fun u s' ⟨v,H',I',rv,l,hl,e1,e2⟩=>?_
  subst e1 e2
  exact ⟨_,_,I',rv,q l ⟨hl,I'.kg ai⟩⟩
end
section
variable {K:PySem.W.Frag} {g:TG} {tt:TT} {te:TE} {D a:Addr} {Q:Hp→Prop} {σ:St} {H:Hp} {xs:List V}
end
section
variable {X:Cx}
end
end L2
set_option Elab.async false
set_option linter.all false
set_option maxRecDepth 100000
namespace L2
open PySem PySem.Spec PyProof.Rows
theorem Inv.BK {X:Cx} {pins:List (Addr×Obj)} {σ:St} {H:Hp} {s:Shared} {h':Heap} {ch:List Addr} {t':Nat} (I:Inv X pins σ H s) (k:∀ b u,b∉ch→s.heap.get? b=some u→h'.get? b=some u) (hf:∀ b∈ch,lE X pins H b):
    Inv X pins σ H { s with heap:=h',toks:=t' }:=by
  have out:∀ b u,H b=some u→b∉ch:=fun b u e z=>by rw [(hf b z).1] at e;cases e
  refine I.step (g':=s.gens) (d':=s.drawn) (ch:=ch) (fun b hb=>⟨(hf b hb).2.2.2.1,(hf b hb).2.1,(hf b hb).2.2.2.2.1,(hf b hb).2.2.2.2.2⟩) (fun b u _ _ hc e _=>k b u hc e) (fun b u _ _ hc e _=>⟨u.slots,k b u hc e⟩)
    (fun _ _ _ _ z=>z) (fun b u hc e=>⟨u,k b u hc e⟩) (fun _ _ e=>e) (fun _ _ _ e=>e)
    (fun b ps e=>⟨#[],by rw [e];simp⟩) (fun m hm=>?_) (fun b u e=>?_) I.bare
  · obtain ⟨ob,es,ep,ho,r⟩:=hm
    exact ⟨ob,es,ep,k _ ob (fun z=>(hf _ z).2.1 rfl) ho,r⟩
  · refine (I.bC b u e).qQ (fun c v hc q=>k c v ?_ q) (fun _ q=>q) fun _ _ q=>q
    rcases hc with z | z
    · rw [z];exact out b u e
    · exact out c _ z
def LV (K:PySem.W.Frag) (a b:Addr):It:=⟨fun i H=>∃ xs ys x y,cz K H a xs∧cz K H b ys∧xs[i]?=some x∧ys[i]?=some y,fun i H x H'=>∃ T v u,L2.new K H T∧(∀ xs,cz K H a xs→xs[i]?=some v)∧(∀ ys,cz K H b ys→ys[i]?=some u)∧x=.ref T∧H'=upd H T (.tup [v,u]),fun i H=>∃ xs ys,cz K H a xs∧cz K H b ys∧(xs.length≤i∨ys.length≤i)⟩
theorem En {P:Program} {w:World} {K:PySem.W.Frag} {es:List Expr} {k:Nat} {tp:Pos} (a b z TI TO i1 i2:Addr) (D:ZipApart z TI TO i1 i2 a b):Turn P w K (.Tuple es k tp) (LV K a b) [z,TI,TO,i1,i2] z
    (fun i h=>IsZip h z TI TO .none∧IsPair h TI (.ref i1) (.ref i2)∧(∃ p q,IsPair h TO p q)∧h.IsListIter i1 a i∧h.IsListIter i2 b i) where
  mem:=by simp
  obj:=fun i h st c hc=>by
    obtain ⟨g1,g2,⟨p,q,g3⟩,⟨o4,g4,c4,d4⟩,⟨o5,g5,c5,d5⟩⟩:=st
    simp only [List.mem_cons,List.not_mem_nil,or_false] at hc
    rcases hc with rfl | rfl | rfl | rfl | rfl
    · exact ⟨_,g1,fun v z=>by cases z⟩
    · exact ⟨_,g2,fun v z=>by cases z⟩
    · exact ⟨_,g3,fun v z=>by cases z⟩
    · exact ⟨o4,g4,fun v z=>by rw [d4] at z;cases z⟩
    · exact ⟨o5,g5,fun v z=>by rw [d5] at z;cases z⟩
  keep:=fun i h h' st kk=>by
    obtain ⟨g1,g2,⟨p,q,g3⟩,g4,g5⟩:=st
    exact ⟨kk z (by simp) _ g1,kk TI (by simp) _ g2,⟨p,q,kk TO (by simp) _ g3⟩,g4.at fun o g=>kk i1 (by simp) o g,g5.at fun o g=>kk i2 (by simp) o g⟩
  item:=by
    intro X hP hw hK hc i pins s σ H E I hf st hg
    subst hP hw hK
    obtain ⟨xs,ys,x,y,hq,hq',hx,hy⟩:=hg
    obtain ⟨aY,rv,p,hz⟩:=I.list hq
    obtain ⟨its',rv',p',hz'⟩:=I.list hq'
    obtain ⟨u,hu,ru⟩:=rv.get hx
    obtain ⟨u',hu',ru'⟩:=rv'.get hy
    obtain ⟨g1,g2,⟨a',b',g3⟩,g4,g5⟩:=st
    refine wpAny_pyNext_zip_item D g1 g2 g3 g4 g5 p.isList p'.isList (x:=u) (y:=u') (by simpa using hu) (by simpa using hu') fun h1 hz1 hTO1 hi1 hi2 gT sz kp=>?_
    refine ⟨_,rfl,wpAny_letOwnedTupleGo_zip hz1 fun h2 hz2 sb=>?_⟩
    have ltZ:z < s.heap.objs.size:=Heap.lt_size g1
    have RO:h2.get? s.heap.objs.size=some { cls:=.type "tuple",data:=.seq #[u,u'] }:=(sb.2 _ (Nat.ne_of_gt ltZ)).trans gT
    have I1:Inv X pins σ (upd H s.heap.objs.size (.tup [x,y])) { s with heap:=h2,toks:=s.toks }:=by
      refine I.BJ (ch:=[z,TI,TO,i1,i2]) (fun b o hb g=>?_) hf (Nat.le_refl _) ⟨(show 2≤sizeLine by decide),[u,u'],.cons ru (.cons ru' .nil),_,RO,rfl,_,rfl⟩
      simp only [List.mem_cons,List.not_mem_nil,or_false,not_or] at hb
      exact (sb.2 b hb.1).trans (kp b o hb.1 hb.2.2.1 hb.2.2.2.1 hb.2.2.2.2 g)
    have kT:∀ c o,c≠z→h1.get? c=some o→h2.get? c=some o:=fun c o n g=>(sb.2 c n).trans g
    refine ⟨.ref s.heap.objs.size,_,I1,rfl,⟨_,x,y,⟨I.bC.fresh (Nat.le_refl _),I1.kg ai⟩,fun ys hy=>by rw [I.om hy hq];exact hx,fun zs KI=>by rw [I.om KI hq'];exact hy,rfl,rfl⟩,
      ⟨hz2,kT _ _ D.TIz (kp _ _ D.TIz D.TITO D.TIi1 D.TIi2 g2),⟨_,_,kT _ _ D.TOz hTO1⟩,hi1.at fun o g=>kT _ o D.i1z g,hi2.at fun o g=>kT _ o D.i2z g⟩,fun c hc=>?_⟩
    have RP:c < s.heap.objs.size:=by
      obtain ⟨o4,e4,_⟩:=g4
      obtain ⟨o5,e5,_⟩:=g5
      simp only [List.mem_cons,List.not_mem_nil,or_false] at hc
      rcases hc with rfl | rfl | rfl | rfl | rfl
      · exact ltZ
      · exact Heap.lt_size g2
      · exact Heap.lt_size g3
      · exact Heap.lt_size e4
      · exact Heap.lt_size e5
    rw [ao (Nat.ne_of_lt RP)]
    exact (hf c hc).1
  done:=by
    intro X hP hw hK hc i pins s σ H E I hf st hg
    subst hP hw hK
    obtain ⟨xs,ys,hq,hq',hx⟩:=hg
    obtain ⟨aY,rv,p,hz⟩:=I.list hq
    obtain ⟨its',rv',p',hz'⟩:=I.list hq'
    obtain ⟨g1,g2,⟨a',b',g3⟩,g4,g5⟩:=st
    have hl:=rv.length
    have hl':=rv'.length
    refine wpAny_pyNext_zip_end (I.ok.hd hc) D g1 g2 g3 g4 g5 p.isList p'.isList ?_ fun h' kp=>⟨rfl,I.BK (t':=s.toks) (ch:=[z,TI,TO,i1,i2]) (fun b o hb g=>?_) hf⟩
    · rcases hx with e | e
      · exact .inl (by simp;omega)
      · exact .inr (by simp;omega)
    · simp only [List.mem_cons,List.not_mem_nil,or_false,not_or] at hb
      exact kp b o hb.1 hb.2.2.1 hb.2.2.2.1 hb.2.2.2.2 g
  self:=fun _ _ _ _ _ st h=>wpAny_pyIter_zip st.1 h
section
variable {X:Cx}
end
section
variable {K:PySem.W.Frag} {ta:TA} {g:TG} {tb:TS} {D:Ends} {σ:St} {H:Hp} {a b:Addr} {xs ys:List V}
end
section
variable {X:Cx}
theorem RQ {i:Nat} {x:Str} {e:Expr} {te:TE} {op:Operator} {ti:Mq} {p pos:Pos} (hN:X.N.Nodup) (hi:X.N[i]?=some x) (hx:Loc X.env.scope x) (he:JE X e te) (ho:Rp X op ti) (hf:X.fn x=true∨X.env.scope.names.lookup x=some .local:=by first | exact .inl rfl | exact .inr rfl | assumption):
    JS X (.AugAssign (.Name x p) op e pos) (Mr i te ti):=⟨JQ hN hi hx he.h ho hf⟩
end
mutual
def wt:PyData→Nat
  | .none=>1
  | .bool _=>1
  | .int _=>1
  | .str _=>1
  | .list ds=>vC ds + 1
  | .tuple ds=>vC ds + 1
  | .dict _=>1
def vC:List PyData→Nat
  | []=>0
  | d::ds=>wt d + vC ds
end
mutual
def bare:PyData→Bool
  | .none=>true
  | .int i=>decide (i.natAbs.log2 < 1920)
  | .list ds=>ki ds
  | .tuple ds=>ki ds
  | _=>false
def ki:List PyData→Bool
  | []=>true
  | d::ds=>bare d&&ki ds
end
theorem zg (ts:List Str):(listText ts).length≤piled ts + 2:=by
  cases ts with
  | nil=>exact Nat.le_of_eq rfl
  | cons t r=>
    have h:=textFrom_length_pos r 1 (("[":Str)++(if (0:Nat) > 0 then ", " else "":String)++t) (Nat.succ_pos 0)
    have e:((("[":Str)++(if (0:Nat) > 0 then ", " else "":String)++t)).length=1 + t.length:=by
      rw [strLen_append,strLen_append];rfl
    have hX:(listText (t::r)).length=(textFrom 0 "[" (t::r)).length + 1:=by
      show (textFrom 0 "[" (t::r)++"]").length=_
      rw [strLen_append];rfl
    have hY:(textFrom 0 "[" (t::r)).length=(textFrom 1 (("[":Str)++(if (0:Nat) > 0 then ", " else "":String)++t) r).length:=rfl
    rw [hX,hY,h,e,piled_cons];omega
theorem wA (ts:List Str):(tupleText ts).length≤piled ts + 3:=by
  unfold tupleText
  rw [strLen_append,strLen_append]
  have e1:((("(":String):Str)).length=1:=rfl
  have e3:(((if ts.length==1 then ",)" else ")":String):Str)).length≤2:=by split <;> decide
  rw [e1]
  by_cases h:ts=[]
  · subst h
    have:(Str.join ", " []).length=0:=rfl
    omega
  · have:=join_length_add ts h
    omega
mutual
theorem shown_le:∀ {d:PyData},bare d=true→d.shown.length + 4≤1930 * wt d
  | .none,_=>by simp only [PyData.shown,wt];decide
  | .int i,h=>by
    simp only [bare,decide_eq_true_eq] at h
    have:=int_text_len_1921 h
    simp only [PyData.shown,wt]
    omega
  | .list ds,h=>by
    simp only [bare] at h
    have:=shownAll_le h
    have l:=zg (PyData.shownAll ds)
    simp only [PyData.shown,wt]
    omega
  | .tuple ds,h=>by
    simp only [bare] at h
    have:=shownAll_le h
    have l:=wA (PyData.shownAll ds)
    simp only [PyData.shown,wt]
    omega
  | .bool _,h=>by simp [bare] at h
  | .str _,h=>by simp [bare] at h
  | .dict _,h=>by simp [bare] at h
theorem shownAll_le:∀ {ds:List PyData},ki ds=true→piled (PyData.shownAll ds)≤1930 * vC ds
  | [],_=>by simp [PyData.shownAll,piled,vC]
  | d::ds,h=>by
    simp only [ki,Bool.and_eq_true] at h
    have h1:=shown_le h.1
    have h2:=shownAll_le h.2
    simp only [PyData.shownAll,piled_cons,vC]
    omega
end
mutual
theorem CO:∀ {d:PyData},bare d=true→d.showable=true∧d.hasDict=false
  | .none,_=>by simp only [PyData.showable,PyData.hasDict];exact ⟨trivial,trivial⟩
  | .int i,h=>by
    simp only [bare] at h
    simp only [PyData.showable,PyData.hasDict]
    exact ⟨h,trivial⟩
  | .list ds,h=>by
    simp only [bare] at h
    simp only [PyData.showable,PyData.hasDict]
    exact kj h
  | .tuple ds,h=>by
    simp only [bare] at h
    simp only [PyData.showable,PyData.hasDict]
    exact kj h
  | .bool _,h=>by simp [bare] at h
  | .str _,h=>by simp [bare] at h
  | .dict _,h=>by simp [bare] at h
theorem kj:∀ {ds:List PyData},ki ds=true→PyData.showableAll ds=true∧PyData.hasDictAll ds=false
  | [],_=>by simp [PyData.showableAll,PyData.hasDictAll]
  | d::ds,h=>by
    simp only [ki,Bool.and_eq_true] at h
    have h1:=CO h.1
    have h2:=kj h.2
    simp only [PyData.showableAll,PyData.hasDictAll,h1.1,h1.2,h2.1,h2.2,Bool.and_self,Bool.or_self]
    exact ⟨trivial,trivial⟩
end
section
variable {X:Cx}
end
end L2
set_option Elab.async false
set_option linter.all false
set_option maxRecDepth 100000
namespace PySem
open Sem (wp)
end PySem
namespace PySem
namespace F
end F
section
variable {prog:Program} {w:World} {A:Around} {E:Value→Shared→Prop} {s:Shared}
end
section
variable {prog:Program} {w:World} {A:Around} {R:Result→Shared→Prop} {I:Addr} {fp wr:List Addr} {G:Array GenState→Array GenState→Prop} {n:Nat} {P:Nat→Value→Prop} {St:Nat→Shared→Prop} {K:Type} [DecidableEq K] {knd:KeyKind prog w K}
end
end PySem
namespace PySem
section
variable {prog:Program} {w:World} {K:Type} [DecidableEq K] {knd:KeyKind prog w K} {A:Around} {E:Value→Shared→Prop} {s:Shared}
end
end PySem
namespace L2
open PySem PySem.Spec PyProof.Rows
section
variable {X:Cx}
theorem Eo (hu:X.A.units + 64 < cLine):jE X (compareOp .In) (fun x y H Q=>∃ (a:Addr) (kvs:List (Key×V)) (k:Int),y=.ref a∧x=.int k∧H a=some (.dK kvs)∧Q (.bl (nB kvs (.inl k)).isSome) H):=by
  intro pins s σ H x y v u Q I rx ry h
  obtain ⟨a,kvs,k,rfl,rfl,e,q⟩:=h
  cases ry
  exact RC (by omega) I (sC.k (k:=.inl k) e) rx fun s' I'=>⟨.bl _,H,I',rfl,q⟩
theorem BL {o i:Expr} {td ty:TE} {pos:Pos} (hu:X.A.units + 64 < cLine) (ho:JE X o td) (hi:JE X i ty) (hs:KL i):JE X (.Subscript o i pos) (qF td ty):=⟨G8 (by omega) ho.h hi.h hs⟩
end
end L2
set_option Elab.async false
set_option linter.all false
set_option maxRecDepth 100000
namespace L2
open PySem PySem.Spec PyProof.Rows
theorem IZ {P:Program} {w:World} {k:Key} {u:Value} (h:(bq P w).is k u=true):RelV (kV k) u:=by
  rcases cK h with ⟨i,t,rfl,rfl⟩ | ⟨x,t,rfl,rfl⟩
  · exact ⟨t,rfl⟩
  · exact ⟨t,rfl⟩
section
variable {X:Cx} {pins:List (Addr×Obj)} {σ:St} {H:Hp} {s:Shared}
theorem Inv.swap {d:Addr} {u0 u1:HO} (I:Inv X pins σ H s) (e:H d=some u0) (m0:∀ xs,u0≠.tup xs) (m1:∀ o u,X.H₀ d≠some (.jt o u)) (m2:∀ ps,u0≠.z7 ps) (m3:∀ x,u0≠.own x) (new:cg X.prog X.w (upd H d u1) s.heap d u1):Inv X pins σ (upd H d u1) s where
  ok:=I.ok
  os:=I.os
  bare:=I.bare
  base:=⟨I.base.keep,I.base.slot,fun b o g n x=>by
      have z:=I.base.free b o g n x
      rw [ao (fun q=>by rw [q,e] at z;cases z)]
      exact z,I.base.there,fun b xs g=>by
      have z:=I.base.jX b xs g
      rw [ao (fun q=>by rw [q,e] at z;exact m0 xs (Option.some.inj z))]
      exact z,fun b o u g=>by
      have z:=I.base.ju b o u g
      rw [ao (fun q=>by rw [q] at g;exact m1 o u g)]
      exact z,fun b ps g=>by
      obtain ⟨more,z⟩:=I.base.jY b ps g
      refine ⟨more,?_⟩
      rw [ao (fun q=>by rw [q,e] at z;exact m2 _ (Option.some.inj z))]
      exact z⟩
  loc:=I.loc
  cell:=I.cell
  free:=by
    have z:=I.free
    rw [ao (fun q=>by rw [q,e] at z;cases z)]
    exact z
  eL:=fun x c g=>by
    have z:=I.eL x c g
    rw [ao (fun q=>by rw [q,e] at z;cases z)]
    exact z
  pin:=fun p hp=>by
    obtain ⟨a1,a2,a3⟩:=I.pin p hp
    refine ⟨a1,?_,a3⟩
    rw [ao (fun q=>by rw [q,e] at a2;cases a2)]
    exact a2
  bC:=fun a o g=>by
    by_cases q:a=d
    · subst q
      rw [ai] at g
      cases g
      exact new
    · rw [ao q] at g
      refine (I.bC a o g).qQ (fun _ _ _ z=>z) (fun b z=>?_) fun b xs z=>?_
      · rw [ao (fun q=>by rw [q,e] at z;exact m3 _ (Option.some.inj z))]
        exact z
      · rw [ao (fun q=>by rw [q,e] at z;exact m0 _ (Option.some.inj z))]
        exact z
  len:=I.len
theorem Inv.AH {d:Addr} {kvs:List (Key×V)} (I:Inv X pins σ H s) (e:H d=some (.dK kvs)):∀ o u,X.H₀ d≠some (.jt o u):=fun o u z=>by
  have q:=I.base.ju d o u z
  rw [e] at q
  cases q
theorem Inv.freeze {d:Addr} {kvs:List (Key×V)} {od:Obj} (I:Inv X pins σ H s) (e:H d=some (.dK kvs)) (g:s.heap.get? d=some od):Inv X pins σ (upd H d (.jt od (.dK kvs))) s:=
  I.swap e (fun _=>nofun) (I.AH e) (fun _=>nofun) (fun _=>nofun) ⟨g,I.bC d _ e⟩
theorem Inv.Ep {d:Addr} {kvs:List (Key×V)} {od:Obj} (I:Inv X pins σ H s) (e:H d=some (.jt od (.dK kvs))) (m:∀ o u,X.H₀ d≠some (.jt o u)):Inv X pins σ (upd H d (.dK kvs)) s:=
  I.swap e (fun _=>nofun) m (fun _=>nofun) (fun _=>nofun) (I.bC d _ e).2
end
def Itd (d:Addr) (od:Obj) (kvs:List (Key×V)):It:=
  ⟨fun i H=>H d=some (.jt od (.dK kvs))∧i < kvs.length,fun i H x H'=>H'=H∧∃ p,kvs[i]?=some p∧x=kV p.1,fun i H=>H d=some (.jt od (.dK kvs))∧kvs.length≤i⟩
theorem MY {kvs:List (Key×V)} {vs:List (Key×Value)} (r:KV kvs vs):∀ {i:Nat} {p:Key×V},kvs[i]?=some p→∃ v,vs[i]?=some (p.1,v):=by
  unfold KV at r
  induction r with
  | nil=>intro i p h;simp at h
  | @cons a b as bs h t ih=>
    intro i p e
    cases i with
    | zero=>
      simp only [List.getElem?_cons_zero,Option.some.injEq] at e ⊢
      subst e
      exact ⟨b.2,by rw [h.1]⟩
    | succ i=>
      simp only [List.getElem?_cons_succ] at e ⊢
      exact ih e
theorem wB {P:Program} {w:World} {H:Hp} {h:Heap} {d:Addr} {od:Obj} {kvs:List (Key×V)} {es:Array DictEntry} {ep:Nat} (pX:od.data=.dict es ep) (x:cg P w H h d (.jt od (.dK kvs))):∃ vs,KV kvs vs∧h.DictAt (bq P w) d vs ep:=by
  obtain ⟨g,z,hd,vs,rel,o,es',ep',g',r1,r2,r3⟩:=x
  rw [g] at g'
  cases g'
  rw [pX] at r2
  cases r2
  exact ⟨vs,rel,od,es,g,r1,pX,r3⟩
theorem CP {P:Program} {w:World} {K:PySem.W.Frag} {tg:Expr} {d it:Addr} {od:Obj} {kvs:List (Key×V)} {es:Array DictEntry} {ep:Nat} (pX:od.data=.dict es ep):Turn P w K tg (Itd d od kvs) [it] it (fun i h=>h.IsKeyIter it d i kvs.length ep) where
  mem:=by simp
  obj:=fun i h st b hb=>by
    have e:b=it:=by simpa using hb
    subst e
    obtain ⟨o,e,c,d⟩:=st
    exact ⟨o,e,fun v z=>by rw [d] at z;cases z⟩
  keep:=fun i h h' st k=>st.at fun o e=>k it (by simp) o e
  item:=by
    intro X hP hw hK hc i pins s σ H E I hf st hg
    subst hP hw hK
    obtain ⟨e,lt⟩:=hg
    obtain ⟨vs,rel,da⟩:=wB pX (I.bC d _ e)
    obtain ⟨p,ep⟩:∃ p,kvs[i]?=some p:=⟨_,List.getElem?_eq_getElem lt⟩
    obtain ⟨v,ev⟩:=MY rel ep
    obtain ⟨f0,f1,f2,f3,f4,f5⟩:=hf it (by simp)
    refine wpAny_pyNext_dict_item (kvs:=vs) (by rw [← rel.length];exact st) da ev fun key h' hk st' sb=>?_
    have I1:Inv X pins σ H { s with heap:=h' }:=I.turned (t':=s.toks) (fun b o hb e=>(sb.2 b hb).trans e) f0 f1 f3 f4 f5
    rw [← rel.length] at st'
    obtain ⟨o,e,c,d⟩:=id st'
    exact ⟨key,rfl,yL (s:={ s with heap:=h' }) e c d (by decide) ⟨kV p.1,H,I1,IZ hk,⟨rfl,p,ep,rfl⟩,st',fun b hb=>(hf b hb).1⟩⟩
  done:=by
    intro X hP hw hK hc i pins s σ H E I hf st hg
    subst hP hw hK
    obtain ⟨e,le⟩:=hg
    obtain ⟨vs,rel,da⟩:=wB pX (I.bC d _ e)
    obtain ⟨f0,f1,f2,f3,f4,f5⟩:=hf it (by simp)
    exact wpAny_pyNext_dict_end (kvs:=vs) (I.ok.hd hc) (by rw [← rel.length];exact st) da (List.getElem?_eq_none (by rw [← rel.length];exact le)) fun h' eb=>⟨rfl,I.turned (t':=s.toks) (fun b o hb e=>eb b o hb e) f0 f1 f3 f4 f5⟩
  self:=fun _ _ _ _ _ st h=>wpAny_pyIter_keyiter st h
def AI (K:PySem.W.Frag) (td:TE) (src:List (Option Nat)) (g:TG) (tt:TT) (te:TE):TE:=fun σ H Q=>td σ H fun x H1=>∃ a kvs,x=.ref a∧H1 a=some (.dK kvs)∧∀ od D,L2.new K (upd H1 a (.jt od (.dK kvs))) D→
  eu (Itd a od kvs) g tt te D (fun H'=>H' a=some (.jt od (.dK kvs))∧Q (.ref D) (upd H' a (.dK kvs))) (pick σ src) (upd (upd H1 a (.jt od (.dK kvs))) D (.lst []))
section
variable {X:Cx} {sc:Scope} {N:List Str} {src:List (Option Nat)} {tg iter elt:Expr} {ifs:List Expr} {td:TE} {g:TG} {tt:TT} {te:TE} {pos:Pos}
theorem RS (c:m8 X sc N src) (hc:X.calm=true) (hi:JE X iter td)
    (hg:∀ C s H fp,JG (X.comp N sc C s H fp) tg g) (ht:∀ C s H fp,JF (X.comp N sc C s H fp) ifs tt) (he:∀ C s H fp,JE (X.comp N sc C s H fp) elt te)
    (hs:∀ x,foldedSetIterable iter X.env x=pure x:=by intro _;rfl):JE X (.ListComp elt [⟨tg,iter,ifs,0⟩] sc pos) (AI X.K td src g tt te):=⟨by
  intro pins s σ H Q I h
  rw [eval_ListComp]
  refine wpAny_comprehension_free (use:=none) rfl hs (fF fun x hx hk=>?_) c.kind c.names ?_
  · obtain ⟨n,k⟩:=x
    cases hk
    exact I.ok.has _ (c.free hx)
  refine bV (hi.h pins s σ H _ I h) fun v s1 ⟨x,H1,I1,r1,q1⟩=>?_
  obtain ⟨a,kvs,rfl,e,q⟩:=q1
  cases r1
  obtain ⟨z,wC,vs,rel,dd⟩:=yY I1.bC e
  obtain ⟨ep,da⟩:=dd.dictAt
  obtain ⟨od,es,god,r1,pX,r⟩:=id da
  refine wpAny_pyIter_dict wC da ?_
  have If:=I1.freeze e god
  have lt:a < s1.heap.objs.size:=Heap.lt_size god
  have I2:Inv X pins σ (upd H1 a (.jt od (.dK kvs))) { s1 with heap:=s1.heap.push { cls:=.type "dict_keyiterator",data:=.fields #[.ref a,.int 0 0,.int vs.length 0,.int ep 0] } }:=If.kept (t':=s1.toks) fun b o e=>Heap.get?_push_of_some _ e
  have f2:∀ b∈[s1.heap.objs.size],lE X pins (upd H1 a (.jt od (.dK kvs))) b:=fun b hb=>by
    have e:b=s1.heap.objs.size:=by simpa using hb
    subst e
    exact If.Ae (Nat.le_refl _) (If.bC.fresh (Nat.le_refl _))
  refine sJ (R:=fun acc C=>compPost (model X.prog X.w) X.A X.xe none (EP X pins σ Q) acc C) (Q:=fun v H'=>H' a=some (.jt od (.dK kvs))∧Q v (upd H' a (.dK kvs))) c hc hg ht he I2 (CP pX) ⟨_,Heap.get?_push_size _ rfl,rfl,by rw [rel.length];rfl⟩ f2 (fun D nD=>q od D nD) fun D C s' σ' H' hC I' q=>?_
  obtain ⟨m,hn,_⟩:=id I'.loc
  refine ⟨m,hn,fun h' sb=>?_⟩
  have I3:=I2.oM f2 hC I' fun b hb=>sb.2 b hb
  exact ⟨.ref D,_,I3.Ep q.1 (I1.AH e),rfl,q.2⟩⟩
end
section
variable {prog:Program} {w:World} {A:Around} {R:Result→Shared→Prop} {s:Shared}
theorem uD {kx vx target iter:Expr} {ifs:List Expr} {scope:Scope} {pos:Pos} {it:Value} {D:Addr} {env:Env} (I:Nat→Shared→Prop)
    (turn:∀ n s,I n s→wpAny (model prog w) A (pyNext it) (fun r s₁=>match r with
      | none=>R (.ok .next) s₁
      | some v=>wpAny (model prog w) A (letOwnedTupleGo target it v) (fun _ s₁'=>wpAny (model prog w) A (assign target env v) (fun _ s₂=>
          wpAny (model prog w) A (forIn ifs true fun c r=>if r=true then do let ok ← isTrue c env (eval c env);pure (ForInStep.yield ok) else pure (ForInStep.yield r)) (fun ok s₃=>
            if ok=true then wpAny (model prog w) A (eval kx env) (fun kv s₄=>wpAny (model prog w) A (eval vx env) (fun vv s₅=>
              wpAny (model prog w) A (dictSet D kv vv) (fun _ s₆=>∃ m,m < n∧I m s₆) F0 s₅) F0 s₄) F0 s₃
            else ∃ m,m < n∧I m s₃) F0 s₂) F0 s₁') F0 s₁) F0 s)
    (n:Nat) (h:I n s):
    codeAny (model prog w) A (.compLoop (.DictComp kx vx [⟨target,iter,ifs,0⟩] scope pos) 0 it (.ref D) env) R s:=by
  refine codeAny_loop rfl I (fun n s hI=>?_) n h
  show wpAny _ A ((compTurn (.DictComp kx vx [⟨target,iter,ifs,0⟩] scope pos) 0 it (.ref D) env).onRaise (fun x=>do noteFrame x env;theTreesLotGoes x)) _ _ s
  refine wpAny_noted ?_
  rw [compTurn_dict]
  refine wpAny_bind (wpAny_standAt (wpAny_bind (wpAny_mono (turn n s hI) (fun r s₁ h₁=>?_) fun _ _ h'=>h'.elim)))
  cases r with
  | none=>exact wpAny_pure h₁
  | some v=>
    refine wpAny_bind (wpAny_mono h₁ (fun _ s₁' h₁'=>?_) fun _ _ h'=>h'.elim)
    refine wpAny_bind (wpAny_mono h₁' (fun _ s₂ h₂=>wpAny_bind (wpAny_mono h₂ (fun ok s₃ h₃=>?_) fun _ _ h'=>h'.elim)) fun _ _ h'=>h'.elim)
    cases ok with
    | false=>exact wpAny_pure ⟨rfl,h₃⟩
    | true=>
      exact wpAny_bind (wpAny_bind (wpAny_mono h₃ (fun kv s₄ h₄=>wpAny_bind (wpAny_holding (wpAny_mono h₄ (fun vv s₅ h₅=>wpAny_bind (wpAny_standAt (wpAny_holding (wpAny_mono h₅ (fun _ s₆ h₆=>wpAny_pure ⟨rfl,h₆⟩) fun _ _ h'=>h'.elim)))) fun _ _ h'=>h'.elim))) fun _ _ h'=>h'.elim))
end
def pY (J:It) (g:TG) (tt:TT) (tk tv:TE) (D:Addr) (Q:Hp→Prop) (σ:St) (H:Hp):Prop:=∃ W:Nat→Nat→List (Key×V)→St→Hp→Prop,(∃ m,W 0 m [] σ H)∧∀ i m acc σ H,W i m acc σ H→
  (J.stop i H∧Q H)∨(J.go i H∧∃ N:List (Key×V)→St→Hp→Prop,(∀ acc' σ' H',N acc' σ' H'→∃ m',m' < m∧W (i + 1) m' acc' σ' H')∧∀ x H',J.JV i H x H'→g x σ H' fun σ2 H2=>tt σ2 H2 fun b H3=>
    if b=true then tk σ2 H3 fun y H4=>tv σ2 H4 fun v H5=>∃ k:Key,y=kV k∧H5 D=some (.dK acc)∧acc.length < sizeLine∧N (putK acc k v) σ2 (upd H5 D (.dK (putK acc k v)))
    else N acc σ2 H3)
def Pn (K:PySem.W.Frag) (wi:TI) (src:List (Option Nat)) (g:TG) (tt:TT) (tk tv:TE):TE:=fun σ H Q=>wi σ H fun J H1=>∀ D,L2.new K H1 D→pY J g tt tk tv D (fun H'=>Q (.ref D) H') (pick σ src) (upd H1 D (.dK []))
section
variable {X:Cx} {sc:Scope} {N:List Str} {src:List (Option Nat)} {tg iter kx vx:Expr} {ifs:List Expr} {wi:TI} {g:TG} {tt:TT} {tk tv:TE} {pos:Pos}
theorem Inv.K2 {ob:HO} {pins:List (Addr×Obj)} {σ:St} {H:Hp} {s:Shared} {fp:List Addr} {C D:Addr} {h1:Heap} {t':Nat} (I:Inv X pins σ H s) (c:m8 X sc N src) (hf:∀ b∈fp,lE X pins H b) (ho:∀ b∈fp,∃ o,s.heap.get? b=some o)
    (hD:s.heap.objs.size≤D) (hC:s.heap.objs.size≤C) (Ht:D≠C) (k:∀ b u,s.heap.get? b=some u→h1.get? b=some u) (hn:h1.Ns C fun _=>none) (new:cg X.prog X.w (upd H D ob) h1 D ob):
    Inv (X.comp N sc C s H fp) [] (pick σ src) (upd H D ob) { s with heap:=h1,toks:=t' } where
  ok:=Cx.Ok.comp I c hf ho hC
  os:=rfl
  bare:=I.bare
  base:=Un.laid k hD (I.bC.fresh hD)
  loc:=by
    refine ⟨_,hn,fun i x v e1 e2 e3=>?_⟩
    obtain ⟨j,ej,es⟩:=pW e2
    obtain ⟨n1,n2,n3⟩:=c.at_ e1 ej
    obtain ⟨m,_,hl⟩:=I.loc
    have JR:Jt X.env.scope x:=n2.elim (fun z=>.inr (.inl z)) fun z=>.inr (.inr z)
    obtain ⟨u,r,q⟩:=hl j x v n1 es JR
    refine ⟨u,r,.inr ⟨kc n3,?_⟩⟩
    rcases q with ⟨z,_⟩ | ⟨_,a,ha,z⟩
    · rcases n2 with n2 | n2 <;> rw [n2] at z <;> cases z
    · obtain ⟨o,e,d⟩:=z
      exact ⟨a,lR (lookup_mem n3) ha,o,k _ _ e,d⟩
  cell:=fun x a e=>by
    obtain ⟨v,o,e,d⟩:=I.cell x a (bD e)
    exact ⟨v,o,k _ _ e,d⟩
  free:=by
    show upd H D ob C=none
    rw [ao Ht.symm]
    exact I.bC.fresh hC
  eL:=fun x a e=>by
    obtain ⟨v,o,e',d⟩:=I.cell x a (bD e)
    rw [ao (Nat.ne_of_lt (Nat.lt_of_lt_of_le (Heap.lt_size e') hD))]
    exact I.eL x a (bD e)
  pin:=fun p hp=>nomatch hp
  bC:=I.bC.laid k hD new
  len:=by
    show (pick σ src).length=N.length
    rw [c.len,pick,List.length_map]
theorem CQ {pins:List (Addr×Obj)} {σ:St} {H:Hp} {s:Shared} {a:Addr} {v:V} {u r:Value} {kvs:List (Key×V)} {k:Key} {A:Around} {E:Value→Shared→Prop} {Q:Unit→Shared→Prop} (I:Inv X pins σ H s) (e:H a=some (.dK kvs)) (l:kvs.length < sizeLine) (ry:RelV (kV k) u) (rv:RelV v r) (h:∀ s',Inv X pins σ (upd H a (.dK (putK kvs k v))) s'→Q () s'):
    wpAny (model X.prog X.w) A (dictSet a u r) Q E s:=by
  obtain ⟨z,hd,vs,rel,dd⟩:=yY I.bC e
  have hz:vs.length≤sizeLine:=by rw [← rel.length];exact z
  have hl:(putK kvs k v).length≤sizeLine:=by have:=lK kvs k v;omega
  refine wpAny_dictSet_pairs (sy ry) dd (fun h' dd' hs=>h _ ?_) hz
  have he:∃ q,h'.get? a=some q:=let ⟨q,_,_,hq,_⟩:=dd';⟨q,hq⟩
  exact vZ I (by rw [e];exact True.intro) hs he (Av hl hd (rel.put k rv) dd')
theorem vD {R:Value→Addr→Result→Shared→Prop} {E:Value→Shared→Prop} (c:m8 X sc N src) (hc:X.calm=true)
    (hg:∀ C s H fp,JG (X.comp N sc C s H fp) tg g) (ht:∀ C s H fp,JF (X.comp N sc C s H fp) ifs tt) (hk:∀ C s H fp,JE (X.comp N sc C s H fp) kx tk) (hv:∀ C s H fp,JE (X.comp N sc C s H fp) vx tv)
    {pins:List (Addr×Obj)} {σ:St} {H:Hp} {s:Shared} {it:Addr} {fp:List Addr} {tn:Nat→Heap→Prop} {J:It} {Q:V→Hp→Prop} (I:Inv X pins σ H s) (T:Turn X.prog X.w X.K tg J fp it tn) (st:tn 0 s.heap) (hf:∀ b∈fp,lE X pins H b)
    (h:∀ D,L2.new X.K H D→pY J g tt tk tv D (fun H'=>Q (.ref D) H') (pick σ src) (upd H D (.dK [])))
    (hR:∀ D C s' σ' H',s.heap.objs.size≤C→Inv (X.comp N sc C s H fp) [] σ' H' s'→Q (.ref D) H'→R (.ref D) C (.ok .next) s'):
    wpAny (model X.prog X.w) X.A newDict (fun acc s₃=>wpAny (model X.prog X.w) X.A (newFunctionEnv sc X.env.globals (fX X.env sc.names []) [] X.env.qual none .none (some X.env)) (fun cenv s₄=>
      codeAny (model X.prog X.w) X.A (.compStart (.DictComp kx vx [⟨tg,iter,ifs,0⟩] sc pos) 0 (.ref it) acc { cenv with scope:=relabel sc X.env }) (R acc cenv.locals) s₄) E s₃) E s:=by
  refine wpAny_newObj_type (wpAny_newFunctionEnv c.cell (by intro y hy;simp at hy) (fun h₁ hns₁ hsb₁=>?_) c.kind)
  dsimp only at hns₁ hsb₁ ⊢
  have hD0:(s.heap.push { cls:=.type "dict",dict:=none,data:=.dict #[] }).DictOf (bq X.prog X.w) s.heap.objs.size []:=Heap.DictOf.new s.heap
  generalize hH2:s.heap.push { cls:=.type "dict",dict:=none,data:=.dict #[] }=H2 at hns₁ hsb₁ hD0 ⊢
  have hC:H2.objs.size=s.heap.objs.size + 1:=by rw [← hH2,Heap.size_push]
  have Ht:s.heap.objs.size≠H2.objs.size:=by rw [hC];exact Nat.ne_of_lt (Nat.lt_succ_self _)
  have Ei:s.heap.objs.size≤H2.objs.size:=by rw [hC];exact Nat.le_succ _
  have below:∀ b,b < s.heap.objs.size→b≠H2.objs.size:=fun b hb=>by rw [hC];exact Nat.ne_of_lt (Nat.lt_succ_of_lt hb)
  have old:∀ b o,s.heap.get? b=some o→h₁.get? b=some o:=fun b o e=>hsb₁.extBut b o (below b (Heap.lt_size e)) (Heap.get?_push_of_some _ (hH2 ▸ Heap.get?_push_of_some _ e))
  have KY:h₁.DictOf (bq X.prog X.w) s.heap.objs.size []:=hD0.at fun o e=>hsb₁.extBut _ _ Ht (Heap.get?_push_of_some _ e)
  have ho:∀ b∈fp,∃ o,s.heap.get? b=some o:=fun b hb=>let ⟨o,e,_⟩:=T.obj _ _ st b hb;⟨o,e⟩
  have I0:=I.K2 (ob:=.dK []) (t':=s.toks + ([]:List (Str×Value)).length) c hf ho (Nat.le_refl _) Ei Ht old hns₁ (Av (Nat.zero_le _) (beq_eq_false_iff_ne.mpr (Ne.symm (Nat.ne_of_lt I.big))) (show KV [] [] from .nil) KY)
  have MS:tn 0 h₁:=T.keep _ _ _ st fun b hb o e=>old b o e
  have nD:L2.new X.K H s.heap.objs.size:=I.new
  obtain ⟨W,⟨m0,w0⟩,turn⟩:=h _ nD
  have rT:∀ {H':Hp},(∀ b∈fp,H' b=none)→∀ b∈fp,lE (X.comp N sc H2.objs.size s H fp) [] H' b:=fun hn b hb=>by
    obtain ⟨f0,f1,f2,f3,f4,f5⟩:=hf b hb
    obtain ⟨o,e⟩:=ho b hb
    refine ⟨hn b hb,below b (Heap.lt_size e),fun z=>?_,.inl hb,fun x a q=>f4 x a (bD q),fun p hp=>nomatch hp⟩
    rcases List.mem_cons.mp (I.ly b z) with q | q
    · exact f1 q
    · exact f2 q
  have RL:∀ b∈fp,(upd H s.heap.objs.size (.dK [])) b=none:=fun b hb=>by
    obtain ⟨o,e⟩:=ho b hb
    rw [ao (Nat.ne_of_lt (Heap.lt_size e))]
    exact (hf b hb).1
  have loop:∀ s₃:Shared,s₃={ s with heap:=h₁,toks:=s.toks + ([]:List (Str×Value)).length }→
      codeAny (model X.prog X.w) X.A (.compLoop (.DictComp kx vx [⟨tg,iter,ifs,0⟩] sc pos) 0 (.ref it) (.ref s.heap.objs.size) (compEnvC sc (fX X.env sc.names []) H2.objs.size X.env)) (R (.ref s.heap.objs.size) H2.objs.size) s₃:=by
    rintro s₃ rfl
    refine uD (fun n s'=>∃ i acc σ' H',Inv (X.comp N sc H2.objs.size s H fp) [] σ' H' s'∧tn i s'.heap∧(∀ b∈fp,H' b=none)∧W i n acc σ' H') ?_ m0 ⟨0,_,_,_,I0,MS,RL,w0⟩
    rintro n s3 ⟨i,acc,σ3,H3,I3,DJ,fr3,w3⟩
    rcases turn i n acc σ3 H3 w3 with ⟨stop,qn⟩ | ⟨go,NN,hNN,step⟩
    · refine bV (T.done (X.comp N sc H2.objs.size s H fp) rfl rfl rfl hc i [] s3 σ3 H3 F0 I3 (rT fr3) DJ stop) fun r s4 ⟨hr,I4⟩=>?_
      subst hr
      exact hR _ _ _ _ _ Ei I4 qn
    · refine bV (T.item (X.comp N sc H2.objs.size s H fp) rfl rfl rfl hc i [] s3 σ3 H3 F0 I3 (rT fr3) DJ go) fun r s4 ⟨u,hr,h4⟩=>?_
      subst hr
      refine bV h4 fun _ s5 ⟨x,H5,I5,r5,y5,st5,fr5⟩=>?_
      have Mu:=I5.pinned (rT fr5) (T.obj _ _ st5)
      refine bV ((hg _ _ _ _).h _ s5 σ3 H5 x u _ Mu r5 (step x H5 y5)) fun _ s6 ⟨σ6,H6,I6,q6⟩=>?_
      refine bV ((ht _ _ _ _).h _ s6 σ6 H6 _ I6 q6) fun b s7 ⟨H7,I7,q7⟩=>?_
      have again:∀ {AD:List (Key×V)} {s8:Shared} {H8:Hp},Inv (X.comp N sc H2.objs.size s H fp) ([]++pJ fp s5.heap) σ6 H8 s8→NN AD σ6 H8→∃ m,m < n∧∃ i acc σ' H',Inv (X.comp N sc H2.objs.size s H fp) [] σ' H' s8∧tn i s8.heap∧(∀ b∈fp,H' b=none)∧W i m acc σ' H':=fun {AD s8 H8} I8 w=>by
        obtain ⟨m',hm,w8⟩:=hNN _ _ _ w
        refine ⟨m',hm,i + 1,AD,σ6,H8,I8.iU,T.keep _ _ _ st5 fun b hb o e=>(I8.pin (b,o) (List.mem_append_right _ (List.mem_append_right _ (gQ hb e)))).1,fun b hb=>?_,w8⟩
        obtain ⟨o,e,d⟩:=T.obj _ _ st5 b hb
        exact (I8.pin (b,o) (List.mem_append_right _ (List.mem_append_right _ (gQ hb e)))).2.1
      cases b with
      | false=>exact again I7 q7
      | true=>
        refine bV ((hk _ _ _ _).h _ s7 σ6 H7 _ I7 q7) fun yk s8 ⟨y,H8,I8,r8,q8⟩=>?_
        refine bV ((hv _ _ _ _).h _ s8 σ6 H8 _ I8 q8) fun yv s9 ⟨v,H9,I9,r9,q9⟩=>?_
        obtain ⟨k,rfl,hx,hz,w9⟩:=q9
        exact CQ (X:=X.comp N sc H2.objs.size s H fp) I9 hx hz r8 r9 fun s10 I10=>again I10 w9
  exact codeAny_compStart_dict (loop _ rfl) (T.self _ 0 _ _ _ MS (loop _ rfl))
theorem uE {env:Env} (k v gens scope pos):eval (.DictComp k v gens scope pos) env=
    comprehension (.DictComp k v gens scope pos) scope env (firstIterPos gens pos) newDict (firstAsync gens) (firstIter gens env):=rfl
theorem edc (c:m8 X sc N src) (hc:X.calm=true) (hi:JI X tg iter wi)
    (hg:∀ C s H fp,JG (X.comp N sc C s H fp) tg g) (ht:∀ C s H fp,JF (X.comp N sc C s H fp) ifs tt) (hk:∀ C s H fp,JE (X.comp N sc C s H fp) kx tk) (hv:∀ C s H fp,JE (X.comp N sc C s H fp) vx tv)
    (hs:∀ x,foldedSetIterable iter X.env x=pure x:=by intro _;rfl):JE X (.DictComp kx vx [⟨tg,iter,ifs,0⟩] sc pos) (Pn X.K wi src g tt tk tv):=⟨by
  intro pins s σ H Q I h
  rw [uE]
  refine wpAny_comprehension_free (use:=none) rfl hs (fF fun x hx hk=>?_) c.kind c.names ?_
  · obtain ⟨n,k⟩:=x
    cases hk
    exact I.ok.has _ (c.free hx)
  refine bV (hi.h pins s σ H _ I h) fun v s1 h1=>bV h1 fun LO s2 h2=>?_
  obtain ⟨it,fp,tn,J,H2,e,I2,T,st2,f2,h2⟩:=h2
  subst e
  refine vD (R:=fun acc C=>compPost (model X.prog X.w) X.A X.xe none (EP X pins σ Q) acc C) (Q:=Q) c hc hg ht hk hv I2 T st2 f2 h2 fun D C s' σ' H' hC I' q=>?_
  obtain ⟨m,hn,_⟩:=id I'.loc
  refine ⟨m,hn,fun h' sb=>?_⟩
  exact ⟨.ref D,H',I2.oM f2 hC I' fun b hb=>sb.2 b hb,rfl,q⟩⟩
theorem sdc {i:Nat} {y:Str} {py ze:Pos} (hN:X.N.Nodup) (hy:X.N[i]?=some y) (hx:Loc X.env.scope y) (c:m8 X sc N src) (hc:X.calm=true) (hi:JI X tg iter wi)
    (hg:∀ C s H fp,JG (X.comp N sc C s H fp) tg g) (ht:∀ C s H fp,JF (X.comp N sc C s H fp) ifs tt) (hk:∀ C s H fp,JE (X.comp N sc C s H fp) kx tk) (hv:∀ C s H fp,JE (X.comp N sc C s H fp) vx tv)
    (MT:swapsWith (.DictComp kx vx [⟨tg,iter,ifs,0⟩] sc pos) (some (.Name y py)) ze.line X.env=pure true:=by rfl)
    (hf:X.fn y=true∨X.env.scope.names.lookup y=some .local:=by first | exact .inl rfl | exact .inr rfl | assumption)
    (hs:∀ x,foldedSetIterable iter X.env x=pure x:=by intro _;rfl):JS X (.Assign [.Name y py] (.DictComp kx vx [⟨tg,iter,ifs,0⟩] sc pos) ze) (pI (Pn X.K wi src g tt tk tv) (eN i)):=⟨by
  intro pins s σ H D I h
  rw [exec_Assign_Name_used _ _ _ _ MT]
  refine wpAny_bind (wpAny_standAt (wpAny_bind ?_))
  show wpAny _ X.A (do let _ ← comprehension (.DictComp kx vx [⟨tg,iter,ifs,0⟩] sc pos) sc X.env _ newDict false (eval iter X.env) (some (assign (.Name y py) X.env))) _ _ s
  refine wpAny_bind (wpAny_mono (wpAny_comprehension_free (use:=some (assign (.Name y py) X.env)) (Q:=fun _ s'=>SP X pins D .next s') rfl hs (fF fun x hx hk=>?_) c.kind c.names ?_) (fun _ s' hq=>wpAny_pure (wpAny_pure hq)) fun _ _ e=>e)
  · obtain ⟨n,k⟩:=x
    cases hk
    exact I.ok.has _ (c.free hx)
  refine bV (hi.h pins s σ H _ I h) fun v s1 h1=>bV h1 fun LO s2 h2=>?_
  obtain ⟨it,fp,tn,J,H2,e,I2,T,st2,f2,h2⟩:=h2
  subst e
  refine vD (R:=fun acc C=>compPost (model X.prog X.w) X.A X.xe (some (assign (.Name y py) X.env)) (fun _ s'=>SP X pins D .next s') acc C) (Q:=fun v H'=>D.nx (σ.set i (some v)) H') c hc hg ht hk hv I2 T st2 f2 h2 fun L C s' σ' H' hC I' q=>?_
  obtain ⟨m,hn,_⟩:=id I'.loc
  obtain ⟨o,es,ep,ho,r⟩:=id hn
  have I3:Inv X pins σ H' s':=I2.oM (h':=s'.heap) f2 hC I' fun _ _=>rfl
  have cL:C≠X.env.locals:=Nat.ne_of_gt (Nat.lt_of_lt_of_le I2.lt hC)
  have cC:∀ x a,X.env.cells.lookup x=some a→a≠C:=fun x a e=>by
    obtain ⟨v,o,e',_⟩:=I2.cell x a e
    exact Nat.ne_of_lt (Nat.lt_of_lt_of_le (Heap.lt_size e') hC)
  have cP:∀ p∈X.pn++pins,p.1≠C:=fun p hp=>Nat.ne_of_lt (Nat.lt_of_lt_of_le (Heap.lt_size (I2.pin p hp).1) hC)
  have fr:H' C=none:=I'.free
  have I4:Inv X (pins++[(C,o)]) σ H' s':=I3.rE fun p hp=>(List.mem_append.mp hp).elim (fun z=>I3.pin p (List.mem_append_right _ z)) fun z=>by
    have e:p=(C,o):=by simpa using z
    subst e
    exact ⟨ho,fr,cL,I2.Ju hC,fun v z=>by
      have r1:=r
      simp_all⟩
  show wpAny (model X.prog X.w) X.A (assign (.Name y py) X.env (.ref L)) _ _ s'
  refine bV (vQ (pos:=py) hN hy hx hf _ s' σ H' (.ref L) (.ref L) (fun σ1 H1=>D.nx σ1 H1∧H1=H') I4 rfl ⟨q,rfl⟩) fun _ s5 ⟨σ5,H5,I5,q5,e5⟩=>?_
  subst e5
  have pC:=(I5.pin (C,o) (List.mem_append_right _ (List.mem_append_right _ (by simp)))).1
  refine ⟨m,⟨o,es,ep,pC,r⟩,fun h' sb=>?_⟩
  exact ⟨σ5,H5,I5.iU.turned (t':=s5.toks) (fun b u hb e=>(sb.2 b hb).trans e) fr cL (.inr (Nat.le_trans I2.sz hC)) cC cP,q5⟩⟩
end
end L2
set_option Elab.async false
set_option linter.all false
set_option maxRecDepth 100000
set_option maxHeartbeats 4000000
namespace L2
open PySem PySem.Spec PyProof.Rows
section
variable {P:Program} {w:World} {A:Around} {E:Value→Shared→Prop} {s:Shared} {S:Addr} {vs:List (Key×Value)} {ep:Nat}
theorem wD (calm:A.handled=none) (wC:(S==sysModules)=false) (da:s.heap.DictAt (bq P w) S vs ep) (Hg:vs.length≤1000) {Q:List Value→Shared→Prop}
    (q:∀ (us:List Value) (s':Shared),us.length=vs.length→(∀ (i:Nat) (u:Value),us[i]?=some u→∃ k v,vs[i]?=some (k,v)∧(bq P w).is k u=true)→s'.gens=s.gens→s'.os=s.os→(∀ b o,s.heap.get? b=some o→s'.heap.get? b=some o)→s.heap.objs.size≤s'.heap.objs.size→Q us s'):
    wpAny (model P w) A (collect (.ref S)) Q E s:=by
  obtain ⟨o,es,g,ex,d⟩:=id da
  have RT:S < s.heap.objs.size:=Heap.lt_size g
  have line:vs.length≤sizeLine:=Nat.le_trans Hg (by decide)
  unfold collect
  refine wpAny_bind (wpAny_runValue (codeAny_builtin PySem.F.entry_proto_collect ?_))
  rw [Around.under_plainId PySem.F.plain_proto_collect _]
  show wpAny _ A.in1 (newList [] >>=fun l=>again (.builtin "list.__iadd__" ⟨[l,.ref S],[]⟩)) _ _ s
  refine wpAny_bind (wpAny_newObj_type (wpAny_pure ⟨plainId_quiet PySem.F.plain_list_iadd _,codeAny_builtin PySem.F.entry_list_iadd ?_⟩))
  rw [Around.under_plainId PySem.F.plain_list_iadd _]
  have gD:(s.heap.push { cls:=.type "list",data:=.seq ([]:List Value).toArray }).get? s.heap.objs.size=some { cls:=.type "list",data:=.seq ([]:List Value).toArray }:=Heap.get?_push_size _ rfl
  have Po:(s.heap.push { cls:=.type "list",data:=.seq ([]:List Value).toArray }).DictAt (bq P w) S vs ep:=da.push _
  have Pp:(s.heap.push { cls:=.type "list",data:=.seq ([]:List Value).toArray }).objs.size=s.heap.objs.size + 1:=Heap.size_push ..
  show wpAny _ A.in1 (Builtin.List.listExtendWith (.ref s.heap.objs.size) (.ref S) (.ref s.heap.objs.size)) _ _ { s with heap:=s.heap.push { cls:=.type "list",data:=.seq ([]:List Value).toArray } }
  have ty1:Shared.TypeIs { s with heap:=s.heap.push { cls:=.type "list",data:=.seq ([]:List Value).toArray } } (.ref S) "dict":=Po.dictOf.typeIs
  have apart:Builtin.List.listSameRef (.ref s.heap.objs.size) (.ref S)=false:=by
    simp only [Builtin.List.listSameRef,beq_eq_false_iff_ne]
    exact Nat.ne_of_gt RT
  unfold Builtin.List.listExtendWith
  refine wpAny_bind (wpAny_typeOf ty1 ?_)
  rw [if_neg (by rw [apart];decide)]
  refine wpAny_bind (wpAny_pyIter_dict wC Po ?_)
  generalize hH:(s.heap.push { cls:=.type "list",data:=.seq ([]:List Value).toArray })=h1 at gD Po Pp ty1 ⊢
  have RU:(h1.push { cls:=.type "dict_keyiterator",data:=.fields #[.ref S,.int 0 0,.int vs.length 0,.int ep 0] }).DictAt (bq P w) S vs ep:=Po.push _
  have RV:(h1.push { cls:=.type "dict_keyiterator",data:=.fields #[.ref S,.int 0 0,.int vs.length 0,.int ep 0] }).get? s.heap.objs.size=some { cls:=.type "list",data:=.seq ([]:List Value).toArray }:=Heap.get?_push_of_some _ gD
  have gI:(h1.push { cls:=.type "dict_keyiterator",data:=.fields #[.ref S,.int 0 0,.int vs.length 0,.int ep 0] }).IsKeyIter h1.objs.size S 0 vs.length ep:=⟨_,Heap.get?_push_size _ rfl,rfl,rfl⟩
  have Pq:Shared.TypeIs { s with heap:=h1.push { cls:=.type "dict_keyiterator",data:=.fields #[.ref S,.int 0 0,.int vs.length 0,.int ep 0] } } (.ref S) "dict":=RU.dictOf.typeIs
  have RK:∀ b o,s.heap.get? b=some o→(h1.push { cls:=.type "dict_keyiterator",data:=.fields #[.ref S,.int 0 0,.int vs.length 0,.int ep 0] }).get? b=some o:=fun b o e=>Heap.get?_push_of_some _ (hH ▸ Heap.get?_push_of_some _ e)
  show wpAny _ _ _ _ _ { s with heap:=h1.push { cls:=.type "dict_keyiterator",data:=.fields #[.ref S,.int 0 0,.int vs.length 0,.int ep 0] } }
  generalize (h1.push { cls:=.type "dict_keyiterator",data:=.fields #[.ref S,.int 0 0,.int vs.length 0,.int ep 0] })=h2 at RU RV gI Pq RK ⊢
  refine wpAny_bind (wpAny_holding ?_)
  unfold Builtin.List.listLengthHint
  refine wpAny_bind (wpAny_specialOf (name:=Str.ofString "__len__") Pq PySem.F.slot_dict_len.lookup ?_)
  wp_delta
  refine wpAny_bind (wpAny_isInstance (T:="dict") (b:=true) Pq (by rw [isSubtype_type];kernel_rfl) ?_)
  show wpAny _ _ (typeOf (Value.ref S) >>=_) _ _ _
  refine wpAny_bind (wpAny_typeOf Pq ?_)
  refine wpAny_pure ?_
  rw [if_pos (by decide)]
  refine wpAny_bind (wpAny_rule ?_)
  have nDS:s.heap.objs.size≠S:=Nat.ne_of_gt RT
  have nDI:s.heap.objs.size≠h1.objs.size:=by rw [Pp];exact Nat.ne_of_lt (Nat.lt_succ_self _)
  refine wpAny_bind ?_
  show wpAny _ A.in1 (updateSeq s.heap.objs.size (·.push .none) >>=fun _=>updateSeq s.heap.objs.size (·.pop)) _ _ _
  refine wpAny_bind (wpAny_updateSeq RV rfl ?_)
  have gD3:=Heap.get?_update_self (Obj.mapSeq (·.push Value.none)) RV rfl
  refine wpAny_updateSeq gD3 rfl ?_
  have gD4:=Heap.get?_update_self (Obj.mapSeq (·.pop)) gD3 rfl
  have other:∀ b o,b≠s.heap.objs.size→h2.get? b=some o→((h2.update s.heap.objs.size (Obj.mapSeq (·.push Value.none))).update s.heap.objs.size (Obj.mapSeq (·.pop))).get? b=some o:=
    fun b o hb e=>(Heap.get?_update_other _ _ (Ne.symm hb)).trans ((Heap.get?_update_other _ _ (Ne.symm hb)).trans e)
  have neI:S≠h1.objs.size:=Nat.ne_of_lt (by rw [Pp];exact Nat.lt_succ_of_lt RT)
  refine wpAny_pure ⟨plainId_quiet PySem.F.plain_extend_loop _,codeAny_extend_loopS ((Walks.dictKeys (knd:=bq P w) (A:=A.in1) (by simpa using calm) h1.objs.size S neI vs ep).toS) line _ (by simp only [List.mem_cons,List.not_mem_nil,or_false,not_or];exact ⟨nDI,nDS⟩) _ vs.length 0 _ _ _ rfl (Nat.zero_le _) ⟨gI.at fun o e=>other _ o (Ne.symm nDI) e,RU.at' fun o e=>other _ o (Ne.symm nDS) e⟩ gD4 (ItemsOf.nil _) fun s3 acc c mv gD5 aY=>?_⟩
  show wpAny _ A (load s.heap.objs.size >>=_) _ _ s3
  refine wpAny_bind (wpAny_load gD5 ?_)
  refine wpAny_pure (q _ _ (by rw [Array.length_toList];exact aY.1) (fun i u e=>?_) mv.gens mv.os (fun b ob e=>?_) (Nat.le_of_lt (Heap.lt_size gD5)))
  · rw [Array.getElem?_toList] at e
    exact aY.2 i u e
  · have lt:b < s.heap.objs.size:=Heap.lt_size e
    refine mv.heap b ob (fun z=>?_) (other b ob (Nat.ne_of_lt lt) (RK b ob e))
    rcases List.mem_cons.mp z with z | z
    · exact Nat.ne_of_lt lt z
    · have zi:b=h1.objs.size:=by simpa using z
      subst zi
      rw [Pp] at lt
      exact Nat.lt_irrefl _ (Nat.lt_of_succ_lt lt)
theorem BN:∀ {us:List Value} {ns:List Int},us.length=ns.length→(∀ (i:Nat) (u:Value),us[i]?=some u→∃ n t,ns[i]?=some n∧u=.int n t)→IntsAre us ns
  | [],[],_,_=>.nil
  | [],_::_,h,_=>by simp at h
  | _::_,[],h,_=>by simp at h
  | u::us,n::ns,h,f=>by
    obtain ⟨n',t,e,rfl⟩:=f 0 u rfl
    cases e
    exact .cons n t (BN (by simpa using h) fun i u e=>f (i + 1) u (by simpa using e))
theorem zj (calm:A.handled=none) (wC:(S==sysModules)=false) (da:s.heap.DictAt (bq P w) S vs ep) {ns:List Int} (hk:vs.map (·.1)=ns.map Sum.inl) (Hg:ns.length < 64) {R:Value→Shared→Prop}
    (q:∀ (D:Addr) (out:List Value) (ks:List Int) (m:Nat) (s':Shared),IntsAre out ks→ks.Pairwise (· < ·)→(∀ k,k∈ks↔k∈ns)→ks.length=ns.length→s'.gens=s.gens→s'.os=s.os→(∀ b o,s.heap.get? b=some o→s'.heap.get? b=some o)→s.heap.objs.size≤D→s'.heap.get? D=some (seqObj "list" out.toArray m)→R (.ref D) s'):
    wpAny (model P w) A (call (.builtin "sorted") [.ref S]) R E s:=by
  have lv:vs.length=ns.length:=by have:=congrArg List.length hk;simpa using this
  have nd:ns.Nodup:=by
    have:=da.nodup
    rw [hk] at this
    exact (List.pairwise_map.mp this).imp fun z e=>z (by rw [e])
  refine Calls.call_function_entry kind_sorted plain_sorted entry_sorted (args_sorted1 _) ?_
  unfold Builtin.«sorted»
  refine wpAny_bind (m:=checkCount "sorted" 1 1 _) (wpAny_pure ?_)
  refine wpAny_bind (wD (A:=A.in1) (by simpa using calm) wC da (by omega) fun us s2 lu hu e1 e2 kp big=>?_)
  have i1:IntsAre us ns:=BN (by omega) fun i u e=>by
    obtain ⟨k,v,ev,hk'⟩:=hu i u e
    have z:(vs.map (·.1))[i]?=some k:=by rw [List.getElem?_map,ev];rfl
    rw [hk,List.getElem?_map] at z
    obtain ⟨n,en,rfl⟩:=Option.map_eq_some_iff.mp z
    obtain ⟨t,rfl⟩:=(show ∃ t,u=Value.int n t from IZ hk')
    exact ⟨n,t,en,rfl⟩
  have fU:us.length≤sizeLine:=by rw [lu,lv];exact Nat.le_trans (Nat.le_of_lt Hg) (by decide)
  refine wpAny_bind (wpAny_newList ?_ fU)
  have g2:(s2.heap.push (seqObj "list" us.toArray 0)).get? s2.heap.objs.size=some (seqObj "list" us.toArray 0):=Heap.get?_push_size _ rfl
  show wpAny _ _ _ _ _ { s2 with heap:=s2.heap.push (seqObj "list" us.toArray 0) }
  refine wpAny_bind (wpAny_holding (wpAny_call_entry slot_list_sort ⟨_,g2,rfl⟩ entry_list_sort (list_sort_tree g2 i1 (by omega) fun out ks' a1 a2 a3=>⟨_,rfl,?_⟩) (args_list_sort _)))
  obtain ⟨m,g3⟩:=sortedHeap_at (out:=out) g2
  refine wpAny_pure ⟨_,rfl,q s2.heap.objs.size out.toList ks' m _ a1 ?_ (fun k=>a2.mem_iff) a2.length_eq e1 e2 (fun b o z=>?_) big (by simpa using g3)⟩
  · have Pr:ks'.Nodup:=a2.nodup_iff.mpr nd
    have both:=List.Pairwise.and a3 Pr
    exact both.imp fun z=>by omega
  · have lt:b < s2.heap.objs.size:=Heap.lt_size (kp b o z)
    have lt':b < (s2.heap.push (seqObj "list" us.toArray 0)).objs.size:=by rw [Heap.size_push];exact Nat.lt_succ_of_lt lt
    exact (sortedHeap_old (Nat.ne_of_lt lt) lt').trans (Heap.get?_push_of_some _ (kp b o z))
end
section
variable {X:Cx}
def dI (L:List (Int×V)):List (Key×V):=L.map fun q=>(.inl q.1,q.2)
theorem wF (hc:X.calm=true):cX X (.builtin "sorted") (fun xs H Q=>∃ (a:Addr) (L:List (Int×V)),xs=[.ref a]∧H a=some (.dK (dI L))∧L.length < 64∧
    ∀ (D:Addr) (ks:List Int),L2.new X.K H D→ks.Pairwise (· < ·)→(∀ k,k∈ks↔k∈L.map (·.1))→ks.length=L.length→Q (.ref D) (upd H D (.lst (ks.map V.int)))):=by
  intro pins s σ H xs us Q I r h
  obtain ⟨a,L,rfl,e,Hg,q⟩:=h
  obtain ⟨u,rfl,ru⟩:=vals1 r
  cases ru
  obtain ⟨z,wC,vs,rel,dd⟩:=yY I.bC e
  obtain ⟨ep,da⟩:=dd.dictAt
  have hk:vs.map (·.1)=(L.map (·.1)).map Sum.inl:=by
    rw [← rel.keys,dI,List.map_map,List.map_map]
    rfl
  refine zj (I.ok.hd hc) wC da hk (by simpa using Hg) fun D out ks m s3 i1 up mem len e1 e2 kp3 big g=>?_
  rw [List.length_map] at len
  have lk:ks.length≤sizeLine:=by rw [len];exact Nat.le_trans (Nat.le_of_lt Hg) (by decide)
  have I3:Inv X pins σ (upd H D (.lst (ks.map V.int))) { s with heap:=s3.heap,toks:=s3.toks }:=I.laid (t':=s3.toks) (o:=.lst (ks.map V.int)) kp3 big ⟨by rw [List.length_map];exact lk,out,m,vz i1,by simpa [seqObj] using g⟩
  have I4:=I3.RN (s':=s3) e1 e2 rfl
  exact ⟨.ref D,_,I4,rfl,q D ks ⟨I.bC.fresh big,I4.kg ai⟩ up mem len⟩
theorem K3 {o e:Expr} {td ty:TE} {apos cY:Pos} (hu:X.A.units + 64 < cLine) (ho:JE X o td) (he:JE X e ty) (m:M1 X o "get" apos e cY):JE X (.Call (.Attribute o "get" apos) [e] [] cY) (Aw td ty):=⟨D6 (by omega) ho.h he.h m⟩
theorem Er {o i value:Expr} {td ty tv:TE} {pos pos':Pos} (hu:X.A.units + 64 < cLine) (ho:JE X o td) (hi:JE X i ty) (hv:JE X value tv) (hs:swapsWith value (some (.Subscript o i pos')) pos.line X.env=pure false:=by rfl):JS X (.Assign [.Subscript o i pos'] value pos) (qG td ty tv):=⟨Hf (by omega) ho.h hi.h hv.h hs⟩
end
end L2
set_option Elab.async false
set_option linter.all false
set_option maxRecDepth 100000
set_option maxHeartbeats 4000000
namespace L2
open PySem PySem.Spec PyProof.Rows
section
variable {X:Cx}
def CS:V→Option Int→Option Int→Hp→VK→Prop:=fun x lo hi H Q=>∃ a,x=.str a∧a.length≤sizeLine∧Q (.str (Txt.slice a lo hi)) H
theorem BO:∀ {ts:List Str} {aY:List Value},Vals (ts.map V.str) aY→∃ l:List (Str×Tok),aY=strValues l∧l.map (·.1)=ts
  | [],_,r=>by rw [List.map_nil] at r;cases r;exact ⟨[],rfl,rfl⟩
  | t::ts,_,r=>by
    rw [List.map_cons] at r
    cases r with
    | cons h hr=>
      obtain ⟨u,rfl⟩:=h
      obtain ⟨l,rfl,e⟩:=BO hr
      exact ⟨(t,u)::l,rfl,by rw [List.map_cons,e]⟩
def nJ (sep:Str) (ts:List Str):Nat:=ts.foldl (fun n x=>n + x.length + sep.length) 0
def rJoin (K:PySem.W.Frag):V→List V→Hp→VK→Prop:=fun x vs H Q=>∃ (sep:Str) (p:Addr) (ts:List Str),x=.str sep∧vs=[.ref p]∧cz K H p (ts.map V.str)∧nJ sep ts≤sizeLine∧(Str.join sep ts).length≤sizeLine∧Q (.str (Str.join sep ts)) H
theorem oO:GX X "str.join" (rJoin X.K):=by
  intro pins s σ H x vs v us Q I rx rv h
  obtain ⟨sep,p,ts,rfl,rfl,hx,hl,hj,q⟩:=h
  obtain ⟨t,rfl⟩:=rx
  obtain ⟨u,rfl,ru⟩:=vals1 rv
  cases ru
  obtain ⟨aY,r,pl,hz⟩:=I.list hx
  obtain ⟨l,rfl,el⟩:=BO r
  refine call_meets PySem.F.slot_str_join (typeIs_str _ _ _) PySem.F.entry_str_join (PySem.F.args_str_join_2 _ _) (meets_str_join_list sep t p l ?_) ⟨pl.isList,?_⟩
  · rw [el]
    unfold Builtin.Str.tooLong
    rw [List.foldl_toArray]
    simpa [nJ] using hl
  · have fin:∀ t' k,EP X pins σ Q (.str (Str.join sep ts) t') { s with toks:=k }:=fun t' k=>⟨.str _,H,I.tok k,⟨t',rfl⟩,q⟩
    have eg:∀ l':List (Str×Tok),Builtin.Str.glued sep (l'.map (·.1))=Str.join sep (l'.map (·.1)):=fun l'=>StrLaws.glued_eq_join sep _
    match l,el with
    | [],el=>
      have e:=eg []
      rw [el] at e
      show _∧_
      rw [el,e]
      exact ⟨hj,fin _ _⟩
    | [pp],el=>
      have e:pp.1=Str.join sep ts:=by rw [← el];rfl
      show wants (EP X pins σ Q) X.xe (Except.ok (Flow.ret (Value.str pp.1 pp.2))) s
      rw [e]
      exact fin _ _
    | a::b::r,el=>
      show _∧_
      rw [show Builtin.Str.glued sep ((a::b::r).map (·.1))=Str.join sep ts from by rw [← el];exact eg _]
      exact ⟨hj,fin _ _⟩
end
end L2
set_option Elab.async false
set_option linter.all false
set_option maxRecDepth 100000
set_option maxHeartbeats 4000000
namespace L2
open PySem PySem.Spec PyProof.Rows
def RW (n:Nat):Str:=Str.ofString (toString ((n:Nat):Int))
def K4:Str:=Str.ofString " "
theorem BP {a b:Str} (h:a.cps.toList=b.cps.toList):a=b:=Str.ext' (Array.toList_inj.1 h)
theorem Hx (a b:Str):(a++b).cps.toList=a.cps.toList++b.cps.toList:=by rw [Str.cps_append,Array.toList_append]
def cA (b:Str):Str:=RW b.length++K4++b
section
variable {X:Cx}
end
end L2
set_option Elab.async false
set_option linter.all false
set_option maxRecDepth 100000
set_option maxHeartbeats 4000000
namespace L2
open PySem PySem.Spec PyProof.Rows
section
variable {X:Cx}
theorem CT:cX X (.type "str") (fun xs H Q=>(∃ i,xs=[.int i]∧i.natAbs.log2 < 1920∧Q (.str (toString i)) H)∨(xs=[.cG]∧Q (.str "None") H)):=by
  intro pins s σ H xs us Q I r h
  rcases h with h | ⟨rfl,q⟩
  · exact j3 pins s σ H xs us Q I r h
  · obtain ⟨u,rfl,r1⟩:=vals1 r
    cases r1
    exact PySem.P.str_of_none ⟨.str _,H,I.tok _,⟨_,rfl⟩,q⟩
end
end L2
set_option Elab.async false
set_option linter.all false
set_option maxRecDepth 100000
set_option maxHeartbeats 4000000
namespace L2
open PySem PySem.Spec PyProof.Rows
def nK (K:PySem.W.Frag):TE:=fun _ H Q=>∀ p,L2.new K H p→Q (.ref p) (upd H p (.dK []))
theorem wG {X:Cx} {pos:Pos}:JE X (.Dict [] [] pos) (nK X.K):=⟨fun pins s σ H Q I h=>
  wpAny_Dict_empty ⟨.ref s.heap.objs.size,_,I.laid (a:=s.heap.objs.size) (o:=.dK []) (t':=s.toks) (fun _ _ q=>Heap.get?_push_of_some _ q) (Nat.le_refl _) (D3 s.heap I.big),rfl,h _ I.new⟩⟩
end L2
namespace L2
open PySem PySem.Spec PyProof.Rows
section
variable {prog:Program} {w:World} {A:Around} {E:Value→Shared→Prop} {s:Shared}
theorem nextT {it t:Addr} {k:Nat} {xs:Array Value} {x:Value} {Q:Value→Shared→Prop} (hi:IsTupIter s.heap it t k) (ht:IsTup s.heap t xs) (hx:xs[k]?=some x)
    (q:∀ g,IsTupIter g it t (k + 1)→Heap.SameBut it s.heap g→Q x { s with heap:=g }):wpAny (model prog w) A (Builtin.SmallTypes.nextOf (.ref it)) Q E s:=by
  have ty:=hi.typeIs
  obtain ⟨o1,g1,c1,d1⟩:=hi
  obtain ⟨o2,g2,_,n2,d2⟩:=ht
  unfold Builtin.SmallTypes.nextOf
  refine wpAny_bind (wpAny_callSpecial?_slot (name:=Str.ofString "__next__") ty slot_tupleiter_next (wpAny_call_entry slot_tupleiter_next ty entry_tupleiter_next ?_ (args_tupleiter_next _)))
  show wpAny (model prog w) _ (field (.ref it) 0 >>=_) _ _ s
  refine wpAny_bind (wpAny_field g1 d1 (x:=Value.ref t) rfl ?_)
  show wpAny (model prog w) _ (if (Value.ref t==Value.none)=true then _ else _) _ _ s
  rw [if_neg (fun h=>by cases h)]
  show wpAny (model prog w) _ (field (.ref it) 1 >>=_) _ _ s
  refine wpAny_bind (wpAny_field g1 d1 (x:=Value.int k 0) rfl ?_)
  show wpAny (model prog w) _ (seqItems? (.ref t) >>=_) _ _ s
  refine wpAny_bind (wpAny_seqItems g2 d2 ?_)
  simp only [hx,Int.toNat_natCast]
  refine wpAny_bind (wpAny_setField g1 d1 (by simp) (wpAny_pure ⟨x,rfl,wpAny_pure (q _ ⟨_,Heap.get?_update_self _ g1 (Obj.isFreed_of_fields (Obj.data_mapFields d1 _)),(Obj.cls_mapFields ..).trans c1,?_⟩ (Heap.SameBut.update ..))⟩))
  rw [Obj.data_mapFields d1]
  simp [rawInt]
theorem CU {it t:Addr} {k:Nat} {xs:Array Value} {Q:Value→Shared→Prop} (calm:A.handled=none) (hi:IsTupIter s.heap it t k) (ht:IsTup s.heap t xs) (hx:xs[k]?=none)
    (q:∀ g e,Heap.ExtBut it s.heap g→(∃ o,g.get? e=some o∧o.cls=.type "StopIteration")→E (.ref e) { s with heap:=g }):wpAny (model prog w) A (Builtin.SmallTypes.nextOf (.ref it)) Q E s:=by
  have ty:=hi.typeIs
  obtain ⟨o1,g1,c1,d1⟩:=hi
  obtain ⟨o2,g2,_,n2,d2⟩:=ht
  unfold Builtin.SmallTypes.nextOf
  refine wpAny_bind (wpAny_callSpecial?_slot (name:=Str.ofString "__next__") ty slot_tupleiter_next (wpAny_call_entry slot_tupleiter_next ty entry_tupleiter_next ?_ (args_tupleiter_next _)))
  show wpAny (model prog w) _ (field (.ref it) 0 >>=_) _ _ s
  refine wpAny_bind (wpAny_field g1 d1 (x:=Value.ref t) rfl ?_)
  show wpAny (model prog w) _ (if (Value.ref t==Value.none)=true then _ else _) _ _ s
  rw [if_neg (fun h=>by cases h)]
  show wpAny (model prog w) _ (field (.ref it) 1 >>=_) _ _ s
  refine wpAny_bind (wpAny_field g1 d1 (x:=Value.int k 0) rfl ?_)
  show wpAny (model prog w) _ (seqItems? (.ref t) >>=_) _ _ s
  refine wpAny_bind (wpAny_seqItems g2 d2 ?_)
  simp only [hx,Int.toNat_natCast]
  refine wpAny_bind (wpAny_rule (wpAny_bind (wpAny_setField g1 d1 (by simp) ?_)))
  show wpAny (model prog w) _ (newExc (.type "StopIteration") [] >>=_) _ _ _
  refine wpAny_bind ?_
  simp only [newTuple,newExc]
  refine wpAny_bind (wpAny_newObj_type (wpAny_bind (m:=firstArgMember _ _) (wpAny_of_eq (a:=Value.none) (by first | rfl | (simp only [firstArgMember];rfl)) (wpAny_newObj_type ?_ (by size_fits)))) (by size_fits))
  simp only [raiseNew]
  refine wpAny_bind (wpAny_handled ?_)
  rw [show A.in1.handled=none from calm]
  exact wpAny_bind (wpAny_pure (wpAny_throw (q _ _ (((Heap.SameBut.update ..).extBut.push _).push _) ⟨_,Heap.get?_push_size _ rfl,rfl⟩)))
structure ZT (g:Heap) (z ti to p1 p2 t1 t2:Addr) (out:Value) (k1 k2:Nat):Prop where
  zip:IsZip g z ti to out
  aY:IsPair g ti (.ref p1) (.ref p2)
  fst:IsTupIter g p1 t1 k1
  snd:IsTupIter g p2 t2 k2
theorem CV {z ti to p1 p2 t1 t2:Addr} {k1 k2:Nat} {xs ys:Array Value} {x y u v:Value} {Q:Option Value→Shared→Prop} (D:ZipApart z ti to p1 p2 t1 t2) (Z:ZT s.heap z ti to p1 p2 t1 t2 .none k1 k2) (ho:IsPair s.heap to u v)
    (h1:IsTup s.heap t1 xs) (h2:IsTup s.heap t2 ys) (hx:xs[k1]?=some x) (hy:ys[k2]?=some y)
    (q:∀ g,ZT g z ti to p1 p2 t1 t2 (rawInt s.heap.objs.size) (k1 + 1) (k2 + 1)→IsPair g to x y→IsPair g s.heap.objs.size x y→g.objs.size=s.heap.objs.size + 1→
      (∀ c o,c≠z→c≠to→c≠p1→c≠p2→s.heap.get? c=some o→g.get? c=some o)→Q (some (.ref s.heap.objs.size)) { s with heap:=g }):
    wpAny (model prog w) A (pyNext (.ref z)) Q E s:=by
  have ty:s.TypeIs (.ref z) "zip":=⟨_,Z.zip,rfl⟩
  unfold pyNext
  refine wpAny_bind (wpAny_attempt (wpAny_callSpecial?_slot (name:=Str.ofString "__next__") ty F.slot_zip_next (wpAny_call_entry F.slot_zip_next ty F.entry_zip_next ?_ (F.args_zip_next_1 _))))
  show wpAny (model prog w) _ (field (.ref z) 2 >>=_) _ _ _
  refine wpAny_bind (wpAny_field Z.zip rfl (x:=Value.bool false) rfl ?_)
  show wpAny (model prog w) _ (field (.ref z) 3 >>=_) _ _ _
  refine wpAny_bind (wpAny_field Z.zip rfl (x:=Value.ref ti) rfl (wpAny_bind (wpAny_seqItems Z.aY rfl ?_)))
  show wpAny (model prog w) _ (Builtin.SmallTypes.ownedTupleIsFree (.ref z) >>=_) _ _ _
  refine wpAny_bind ?_
  unfold Builtin.SmallTypes.ownedTupleIsFree
  refine wpAny_bind (wpAny_field Z.zip rfl (x:=Value.none) rfl (wpAny_pure ?_))
  rw [if_pos rfl]
  refine wpAny_bind (wpAny_rule (wpAny_bind (wpAny_field Z.zip rfl (x:=Value.ref to) rfl (wpAny_bind (wpAny_setField_rec Z.zip (by simp) fun a1 az as=>?_)))))
  replace az:IsZip a1 z ti to .ellipsis:=az
  refine wpAny_bind ?_
  simp only [List.forIn_nil,List.forIn_cons,List.zipIdx_nil,List.zipIdx_cons]
  refine wpAny_bind (wpAny_bind (wpAny_onRaise ?_))
  show wpAny (model prog w) _ (Builtin.SmallTypes.nextOf (.ref p1) >>=_) _ _ _
  refine wpAny_bind (nextT (Z.fst.extBut as.extBut D.i1z) (h1.extBut as.extBut D.l1z) hx fun a2 bi bs=>wpAny_pure ?_)
  have bo:IsPair a2 to u v:=bs.extBut _ _ D.TOi1 (as.extBut _ _ D.TOz ho)
  refine wpAny_bind (wpAny_seqItems bo rfl (wpAny_bind (wpAny_updateSeq_pair bo fun a3 co cs=>?_)))
  replace co:IsPair a3 to x v:=co
  refine wpAny_bind (wpAny_letGo (wpAny_pure (wpAny_bind (wpAny_bind (wpAny_onRaise ?_)))))
  show wpAny (model prog w) _ (Builtin.SmallTypes.nextOf (.ref p2) >>=_) _ _ _
  refine wpAny_bind (nextT (((Z.snd.extBut as.extBut D.i2z).extBut bs.extBut D.i12.symm).extBut cs.extBut D.TOi2.symm) (((h2.extBut as.extBut D.l2z).extBut bs.extBut D.l2i1).extBut cs.extBut D.l2TO) hy fun a4 di ds=>wpAny_pure ?_)
  have dO:IsPair a4 to x v:=ds.extBut _ _ D.TOi2 co
  refine wpAny_bind (wpAny_seqItems dO rfl (wpAny_bind (wpAny_updateSeq_pair dO fun a5 eo es=>?_)))
  replace eo:IsPair a5 to x y:=eo
  refine wpAny_bind (wpAny_letGo (wpAny_pure (wpAny_pure (wpAny_bind (wpAny_seqItems eo rfl (wpAny_bind (wpAny_newTuple ?_)))))))
  have n5:a5.objs.size=s.heap.objs.size:=by rw [es.1,ds.1,cs.1,bs.1,as.1]
  have ez:IsZip a5 z ti to .ellipsis:=es.extBut _ _ D.TOz.symm (ds.extBut _ _ D.i2z.symm (cs.extBut _ _ D.TOz.symm (bs.extBut _ _ D.i1z.symm az)))
  have Ja:∀ c o,c≠z→c≠to→c≠p1→c≠p2→s.heap.get? c=some o→a5.get? c=some o:=fun c o e1 e2 e3 e4 e=>
    es.extBut _ _ e2 (ds.extBut _ _ e4 (cs.extBut _ _ e2 (bs.extBut _ _ e3 (as.extBut _ _ e1 e))))
  have f5:IsTupIter a5 p1 t1 (k1 + 1):=((bi.extBut cs.extBut D.TOi1.symm).extBut ds.extBut D.i12).extBut es.extBut D.TOi1.symm
  have s5:IsTupIter a5 p2 t2 (k2 + 1):=di.extBut es.extBut D.TOi2.symm
  have lz:z < a5.objs.size:=Heap.lt_size ez
  show wpAny (model prog w) _ (Builtin.SmallTypes.ownedTupleHandOut (.ref z) (.ref a5.objs.size) >>=_) _ _ _
  refine wpAny_bind ?_
  unfold Builtin.SmallTypes.ownedTupleHandOut
  refine wpAny_bind (wpAny_setField_rec (show IsZip (a5.push { cls:=.type "tuple",data:=.seq #[x,y] }) z ti to .ellipsis from Heap.get?_push_of_some _ ez) (by simp) fun a7 gz gs=>?_)
  replace gz:IsZip a7 z ti to (rawInt a5.objs.size):=gz
  refine wpAny_setField_rec gz (by simp) fun a8 iz js=>?_
  replace iz:IsZip a8 z ti to (rawInt a5.objs.size):=iz
  have on:∀ c o,c≠z→a5.get? c=some o→a8.get? c=some o:=fun c o ne e=>js.extBut _ _ ne (gs.extBut _ _ ne (Heap.get?_push_of_some _ e))
  have T8:IsPair a8 a5.objs.size x y:=js.extBut _ _ (Nat.ne_of_gt lz) (gs.extBut _ _ (Nat.ne_of_gt lz) (Heap.get?_push_size _ rfl))
  have n8:a8.objs.size=a5.objs.size + 1:=by rw [js.1,gs.1,Heap.size_push]
  rw [n5] at iz T8 n8
  refine wpAny_pure ⟨_,rfl,wpAny_pure ?_⟩
  show Q (some (.ref a5.objs.size)) _
  rw [n5]
  have at_:∀ {p t:Addr} {k:Nat},p≠z→IsTupIter a5 p t k→IsTupIter a8 p t k:=fun ne h=>let ⟨o,e,r⟩:=h;⟨o,on _ o ne e,r⟩
  exact q a8 ⟨iz,on _ _ D.TIz (Ja _ _ D.TIz D.TITO D.TIi1 D.TIi2 Z.aY),at_ D.i1z f5,at_ D.i2z s5⟩ (on _ _ D.TOz eo) T8 n8 fun c o e1 e2 e3 e4 e=>on c o e1 (Ja c o e1 e2 e3 e4 e)
theorem Es {z ti to p1 p2 t1 t2:Addr} {k1 k2:Nat} {xs:Array Value} {u v:Value} {Q:Option Value→Shared→Prop} (calm:A.handled=none) (D:ZipApart z ti to p1 p2 t1 t2) (Z:ZT s.heap z ti to p1 p2 t1 t2 .none k1 k2) (ho:IsPair s.heap to u v)
    (h1:IsTup s.heap t1 xs) (hx:xs[k1]?=none) (q:∀ g,(∀ c o,c≠z→c≠p1→s.heap.get? c=some o→g.get? c=some o)→Q none { s with heap:=g }):wpAny (model prog w) A (pyNext (.ref z)) Q E s:=by
  have ty:s.TypeIs (.ref z) "zip":=⟨_,Z.zip,rfl⟩
  unfold pyNext
  refine wpAny_bind (wpAny_attempt (wpAny_callSpecial?_slot (name:=Str.ofString "__next__") ty F.slot_zip_next (wpAny_call_entry F.slot_zip_next ty F.entry_zip_next ?_ (F.args_zip_next_1 _))))
  show wpAny (model prog w) _ (field (.ref z) 2 >>=_) _ _ _
  refine wpAny_bind (wpAny_field Z.zip rfl (x:=Value.bool false) rfl ?_)
  show wpAny (model prog w) _ (field (.ref z) 3 >>=_) _ _ _
  refine wpAny_bind (wpAny_field Z.zip rfl (x:=Value.ref ti) rfl (wpAny_bind (wpAny_seqItems Z.aY rfl ?_)))
  show wpAny (model prog w) _ (Builtin.SmallTypes.ownedTupleIsFree (.ref z) >>=_) _ _ _
  refine wpAny_bind ?_
  unfold Builtin.SmallTypes.ownedTupleIsFree
  refine wpAny_bind (wpAny_field Z.zip rfl (x:=Value.none) rfl (wpAny_pure ?_))
  rw [if_pos rfl]
  refine wpAny_bind (wpAny_rule (wpAny_bind (wpAny_field Z.zip rfl (x:=Value.ref to) rfl (wpAny_bind (wpAny_setField_rec Z.zip (by simp) fun a1 az as=>?_)))))
  replace az:IsZip a1 z ti to .ellipsis:=az
  refine wpAny_bind ?_
  simp only [List.forIn_nil,List.forIn_cons,List.zipIdx_nil,List.zipIdx_cons]
  refine wpAny_bind (wpAny_bind (wpAny_onRaise ?_))
  show wpAny (model prog w) _ (Builtin.SmallTypes.nextOf (.ref p1) >>=_) _ _ _
  refine wpAny_bind (CU calm (Z.fst.extBut as.extBut D.i1z) (h1.extBut as.extBut D.l1z) hx fun a2 e bs he=>?_)
  obtain ⟨oe,ge,ce⟩:=he
  have bz:IsZip a2 z ti to .ellipsis:=bs _ _ D.i1z.symm az
  have ez:e≠z:=fun z'=>by subst z';rw [bz] at ge;cases ge;simp at ce
  refine wpAny_setField_rec bz (by simp) fun a3 _ cs=>wpAny_bind (wpAny_isInstance (T:="StopIteration") (b:=true) ⟨oe,cs.extBut _ _ ez ge,ce⟩ isSubtype_stop (wpAny_pure (q a3 fun c o e1 e2 e=>cs.extBut _ _ e1 (bs _ _ e2 (as.extBut _ _ e1 e)))))
abbrev zl (t:Addr):Obj:={ cls:=.type "tuple_iterator",data:=.fields #[.ref t,.int 0 0] }
abbrev Pu (h:Heap) (t1 t2:Addr):Heap:=(h.push (zl t1)).push (zl t2)
abbrev Pw (h:Heap) (t1 t2:Addr):Heap:=(Pu h t1 t2).push { cls:=.type "tuple",data:=.seq #[.ref h.objs.size,.ref (h.push (zl t1)).objs.size] }
abbrev Px (h:Heap) (t1 t2:Addr):Heap:=(Pw h t1 t2).push { cls:=.type "tuple",data:=.seq #[.none,.none] }
abbrev LW (h:Heap) (t1 t2:Addr):Heap:=(Px h t1 t2).push { cls:=.type "zip",data:=.fields #[.none,.bool false,.bool false,.ref (Pu h t1 t2).objs.size,.ref (Pw h t1 t2).objs.size] }
theorem Et (t1 t2:Addr) (xs ys:Array Value):Meets (Builtin.«zip.__new__» ⟨[.type "zip",.ref t1,.ref t2],[]⟩) (fun _ R s=>IsTup s.heap t1 xs∧IsTup s.heap t2 ys∧R (.ok (.ret (.ref (Px s.heap t1 t2).objs.size))) { s with heap:=LW s.heap t1 t2 }):=
  .of_wp fun prog w A R s h=>by
    obtain ⟨h0,gn,dr,tk,os⟩:=s
    obtain ⟨e1,e2,h⟩:=h
    have sub:=sub_zip
    have f1:IsTup (Shared.heap ⟨h0,gn,dr,tk,os⟩) t1 xs:=e1
    have f2:IsTup (Shared.heap ⟨h0.push (zl t1),gn,dr,tk,os⟩) t2 ys:=e2.push _
    wp_walk using iter_tuple f1,iter_tuple f2
    exact ⟨_,rfl,h⟩
theorem CW {t1 t2:Addr} {xs ys:Array Value} {Q:Value→Shared→Prop} (h1:IsTup s.heap t1 xs) (h2:IsTup s.heap t2 ys)
    (q:∀ g,ZT g (s.heap.objs.size + 4) (s.heap.objs.size + 2) (s.heap.objs.size + 3) s.heap.objs.size (s.heap.objs.size + 1) t1 t2 .none 0 0→IsPair g (s.heap.objs.size + 3) .none .none→(∀ c o,s.heap.get? c=some o→g.get? c=some o)→Q (.ref (s.heap.objs.size + 4)) { s with heap:=g }):
    wpAny (model prog w) A (call (.type "zip") [.ref t1,.ref t2]) Q E s:=by
  refine callType_new F.called_zip (by decide) (F.typeCall_zip_2 _ _) (F.newCall_zip_2 _ _) (fun o=>F.args_object_init_3 o _ _) F.entry_zip_new (Et t1 t2 xs ys) ⟨h1,h2,?_⟩
  have z1:(s.heap.push (zl t1)).objs.size=s.heap.objs.size + 1:=Heap.size_push ..
  have z2:(Pu s.heap t1 t2).objs.size=s.heap.objs.size + 2:=by rw [Heap.size_push,Heap.size_push]
  have z3:(Pw s.heap t1 t2).objs.size=s.heap.objs.size + 3:=by rw [Heap.size_push,z2]
  have z4:(Px s.heap t1 t2).objs.size=s.heap.objs.size + 4:=by rw [Heap.size_push,z3]
  have e5:(LW s.heap t1 t2).get? (Px s.heap t1 t2).objs.size=some _:=Heap.get?_push_size _ rfl
  have e4:(LW s.heap t1 t2).get? (Pw s.heap t1 t2).objs.size=some _:=Heap.get?_push_of_some _ (Heap.get?_push_size _ rfl)
  have e3:(LW s.heap t1 t2).get? (Pu s.heap t1 t2).objs.size=some _:=Heap.get?_push_of_some _ (Heap.get?_push_of_some _ (Heap.get?_push_size _ rfl))
  have e2:(LW s.heap t1 t2).get? (s.heap.push (zl t1)).objs.size=some (zl t2):=Heap.get?_push_of_some _ (Heap.get?_push_of_some _ (Heap.get?_push_of_some _ (Heap.get?_push_size _ rfl)))
  have e1:(LW s.heap t1 t2).get? s.heap.objs.size=some (zl t1):=Heap.get?_push_of_some _ (Heap.get?_push_of_some _ (Heap.get?_push_of_some _ (Heap.get?_push_of_some _ (Heap.get?_push_size _ rfl))))
  rw [z2,z3,z4] at e5
  rw [z1,z2] at e3
  rw [z3] at e4
  rw [z1] at e2
  show _∧_
  rw [z4]
  exact ⟨⟨_,e5,rfl⟩,q _ ⟨e5,e3,⟨_,e1,rfl,rfl⟩,⟨_,e2,rfl,rfl⟩⟩ e4 fun c o x=>Heap.get?_push_of_some _ (Heap.get?_push_of_some _ (Heap.get?_push_of_some _ (Heap.get?_push_of_some _ (Heap.get?_push_of_some _ x))))⟩
end
def CY (K:PySem.W.Frag) (a b:Addr):It:=⟨fun i H=>∃ xs ys x y,j0 K H a xs∧j0 K H b ys∧xs[i]?=some x∧ys[i]?=some y,fun i H x H'=>∃ T v u,L2.new K H T∧(∀ xs,j0 K H a xs→xs[i]?=some v)∧(∀ ys,j0 K H b ys→ys[i]?=some u)∧x=.ref T∧H'=upd H T (.tup [v,u]),fun i H=>∃ xs,j0 K H a xs∧xs.length≤i⟩
theorem CZ {P:Program} {w:World} {K:PySem.W.Frag} {es:List Expr} {k:Nat} {tp:Pos} (a b z ti to p1 p2:Addr) (D:ZipApart z ti to p1 p2 a b):Turn P w K (.Tuple es k tp) (CY K a b) [z,ti,to,p1,p2] z
    (fun i h=>ZT h z ti to p1 p2 a b .none i i∧∃ p q,IsPair h to p q) where
  mem:=by simp
  obj:=fun i h st c hc=>by
    obtain ⟨⟨g1,g2,⟨o4,g4,c4,d4⟩,⟨o5,g5,c5,d5⟩⟩,p,q,g3⟩:=st
    simp only [List.mem_cons,List.not_mem_nil,or_false] at hc
    rcases hc with rfl | rfl | rfl | rfl | rfl
    · exact ⟨_,g1,fun v z=>by cases z⟩
    · exact ⟨_,g2,fun v z=>by cases z⟩
    · exact ⟨_,g3,fun v z=>by cases z⟩
    · exact ⟨o4,g4,fun v z=>by rw [d4] at z;cases z⟩
    · exact ⟨o5,g5,fun v z=>by rw [d5] at z;cases z⟩
  keep:=fun i h h' st kk=>by
    obtain ⟨⟨g1,g2,⟨o4,g4,r4⟩,⟨o5,g5,r5⟩⟩,p,q,g3⟩:=st
    exact ⟨⟨kk z (by simp) _ g1,kk ti (by simp) _ g2,⟨o4,kk p1 (by simp) _ g4,r4⟩,⟨o5,kk p2 (by simp) _ g5,r5⟩⟩,p,q,kk to (by simp) _ g3⟩
  item:=by
    intro X hP hw hK hc i pins s σ H E I hf st hg
    subst hP hw hK
    obtain ⟨xs,ys,x,y,hq,hq',hx,hy⟩:=hg
    obtain ⟨aY,rv,p,hz⟩:=I.tuple hq
    obtain ⟨its',rv',p',hz'⟩:=I.tuple hq'
    obtain ⟨u,hu,ru⟩:=rv.get hx
    obtain ⟨u',hu',ru'⟩:=rv'.get hy
    obtain ⟨Z,a',b',g3⟩:=st
    refine CV D Z g3 p p' (x:=u) (y:=u') (by simpa using hu) (by simpa using hu') fun h1 Z1 hO gT sz kp=>?_
    refine ⟨_,rfl,wpAny_letOwnedTupleGo_zip Z1.zip fun h2 hz2 sb=>?_⟩
    have ltZ:z < s.heap.objs.size:=Heap.lt_size Z.zip
    have RO:h2.get? s.heap.objs.size=some { cls:=.type "tuple",data:=.seq #[u,u'] }:=(sb.2 _ (Nat.ne_of_gt ltZ)).trans gT
    have I1:Inv X pins σ (upd H s.heap.objs.size (.tup [x,y])) { s with heap:=h2,toks:=s.toks }:=by
      refine I.BJ (ch:=[z,ti,to,p1,p2]) (fun b o hb g=>?_) hf (Nat.le_refl _) ⟨(show 2≤sizeLine by decide),[u,u'],.cons ru (.cons ru' .nil),_,RO,rfl,_,rfl⟩
      simp only [List.mem_cons,List.not_mem_nil,or_false,not_or] at hb
      exact (sb.2 b hb.1).trans (kp b o hb.1 hb.2.2.1 hb.2.2.2.1 hb.2.2.2.2 g)
    have kT:∀ c o,c≠z→h1.get? c=some o→h2.get? c=some o:=fun c o n g=>(sb.2 c n).trans g
    have itT:∀ {p t:Addr} {k:Nat},p≠z→IsTupIter h1 p t k→IsTupIter h2 p t k:=fun ne h=>let ⟨o,e,r⟩:=h;⟨o,kT _ o ne e,r⟩
    refine ⟨.ref s.heap.objs.size,_,I1,rfl,⟨_,x,y,⟨I.bC.fresh (Nat.le_refl _),I1.kg ai⟩,fun ys hy=>by rw [I.pH hy hq];exact hx,fun zs KI=>by rw [I.pH KI hq'];exact hy,rfl,rfl⟩,
      ⟨⟨hz2,kT _ _ D.TIz Z1.aY,itT D.i1z Z1.fst,itT D.i2z Z1.snd⟩,_,_,kT _ _ D.TOz hO⟩,fun c hc=>?_⟩
    have RP:c < s.heap.objs.size:=by
      obtain ⟨_,g2,⟨o4,e4,_⟩,⟨o5,e5,_⟩⟩:=Z
      simp only [List.mem_cons,List.not_mem_nil,or_false] at hc
      rcases hc with rfl | rfl | rfl | rfl | rfl
      · exact ltZ
      · exact Heap.lt_size g2
      · exact Heap.lt_size g3
      · exact Heap.lt_size e4
      · exact Heap.lt_size e5
    rw [ao (Nat.ne_of_lt RP)]
    exact (hf c hc).1
  done:=by
    intro X hP hw hK hc i pins s σ H E I hf st hg
    subst hP hw hK
    obtain ⟨xs,hq,hx⟩:=hg
    obtain ⟨aY,rv,p,hz⟩:=I.tuple hq
    obtain ⟨Z,a',b',g3⟩:=st
    have hl:=rv.length
    refine Es (I.ok.hd hc) D Z g3 p (by simp;omega) fun h' kp=>⟨rfl,I.BK (t':=s.toks) (ch:=[z,ti,to,p1,p2]) (fun b o hb g=>?_) hf⟩
    simp only [List.mem_cons,List.not_mem_nil,or_false,not_or] at hb
    exact kp b o hb.1 hb.2.2.2.1 g
  self:=fun _ _ _ _ _ st h=>wpAny_pyIter_zip st.1.zip h
section
variable {X:Cx}
def Jb (K:PySem.W.Frag) (tl:TA):TI:=fun σ H R=>tl σ H fun vs H1=>∃ a b,vs=[.ref a,.ref b]∧(((∃ xs,cz K H1 a xs)∧(∃ ys,cz K H1 b ys)∧R (LV K a b) H1)∨((∃ xs,j0 K H1 a xs)∧(∃ ys,j0 K H1 b ys)∧R (CY K a b) H1))
theorem MZ {K:PySem.W.Frag} {l l':Expr} {t:TA} {es:List Expr} {k:Nat} {p pos tp:Pos} (hg:Gl X "zip") (hm:X.mg "zip"=none) (ha:JA X [l,l'] t) (hs:starEach [l,l'] X.env=(false,eval l X.env)::starEach [l'] X.env:=by rfl) (Pd:(backTo pos (starEach [l'] X.env)).any (·.1)=false:=by rfl) (hk:X.K=K:=by rfl):
    JI X (.Tuple es k tp) (.Call (.Name "zip" p) [l,l'] [] pos) (Jb K t):=⟨by
  subst hk
  intro pins s σ H R I h
  refine Call_ (rR I hg hm KP (PyProof.Rows.callWith_type1 (bV (ha.h pos pins s σ H _ I h) fun us s1 ⟨vs,H1,I1,r1,q1⟩=>?_) hs Pd))
  have Py:∀ b,b∈[s1.heap.objs.size + 4,s1.heap.objs.size + 2,s1.heap.objs.size + 3,s1.heap.objs.size,s1.heap.objs.size + 1]→s1.heap.objs.size≤b:=by
    intro b hb
    simp only [List.mem_cons,List.not_mem_nil,or_false] at hb
    omega
  obtain ⟨a,b,rfl,⟨⟨xs,hx⟩,⟨ys,hy⟩,q⟩ | ⟨⟨xs,hx⟩,⟨ys,hy⟩,q⟩⟩:=q1
  · obtain ⟨u,u',rfl,ru,ru'⟩:=vals2 r1
    cases ru
    cases ru'
    obtain ⟨aY,rv,ht,hz⟩:=I1.list hx
    obtain ⟨its',rv',ht',hz'⟩:=I1.list hy
    have la:a < s1.heap.objs.size:=by obtain ⟨_,e,_⟩:=ht.isList;exact Heap.lt_size e
    have lb:b < s1.heap.objs.size:=by obtain ⟨_,e,_⟩:=ht'.isList;exact Heap.lt_size e
    refine call_zip_2 ht.isList ht'.isList fun h2 g1 g2 g3 g4 g5 sz kp=>?_
    exact wpAny_pyIter_zip g1 ⟨_,[s1.heap.objs.size + 4,s1.heap.objs.size + 2,s1.heap.objs.size + 3,s1.heap.objs.size,s1.heap.objs.size + 1],_,LV X.K a b,H1,rfl,I1.kept (t':=s1.toks) kp,En a b _ _ _ _ _ (zipApart_new la lb),⟨g1,g2,⟨_,_,g3⟩,g4,g5⟩,fun b hb=>I1.Ae (Py b hb) (I1.bC.fresh (Py b hb)),q⟩
  · obtain ⟨u,u',rfl,ru,ru'⟩:=vals2 r1
    cases ru
    cases ru'
    obtain ⟨aY,rv,ht,hz⟩:=I1.tuple hx
    obtain ⟨its',rv',ht',hz'⟩:=I1.tuple hy
    refine CW ht ht' fun h2 Z g3 kp=>?_
    exact wpAny_pyIter_zip Z.zip ⟨_,[s1.heap.objs.size + 4,s1.heap.objs.size + 2,s1.heap.objs.size + 3,s1.heap.objs.size,s1.heap.objs.size + 1],_,CY X.K a b,H1,rfl,I1.kept (t':=s1.toks) kp,CZ a b _ _ _ _ _ (zipApart_new ht.lt ht'.lt),⟨Z,_,_,g3⟩,fun b hb=>I1.Ae (Py b hb) (I1.bC.fresh (Py b hb)),q⟩⟩
end
section
variable {K:PySem.W.Frag} {g:TG} {tt:TT} {te:TE} {D:Addr} {σ:St} {H:Hp} {Q:Hp→Prop} {a b:Addr} {xs ys:List V}
theorem jQ {ta:TA} {src:List (Option Nat)} {Q:VK}:LS K (Jb K ta) src g tt te σ H Q=ta σ H (fun vs H1=>∃ a b,vs=[.ref a,.ref b]∧(((∃ xs,cz K H1 a xs)∧(∃ ys,cz K H1 b ys)∧∀ D,L2.new K H1 D→eu (LV K a b) g tt te D (fun H'=>Q (.ref D) H') (pick σ src) (upd H1 D (.lst [])))∨
    ((∃ xs,j0 K H1 a xs)∧(∃ ys,j0 K H1 b ys)∧∀ D,L2.new K H1 D→eu (CY K a b) g tt te D (fun H'=>Q (.ref D) H') (pick σ src) (upd H1 D (.lst []))))):=rfl
theorem K5 (Pv:Nat→List V→St→Hp→Prop) (el:xs.length=ys.length) (h0:Pv 0 [] σ H) (hl:∀ i acc σ H,i≤xs.length→Pv i acc σ H→cz K H a xs∧cz K H b ys)
    (hs:∀ i x y acc σ H T,xs[i]?=some x→ys[i]?=some y→Pv i acc σ H→L2.new K H T→g (.ref T) σ (upd H T (.tup [x,y])) fun σ2 H2=>tt σ2 H2 fun b H3=>if b=true then te σ2 H3 fun v H4=>H4 D=some (.lst acc)∧acc.length < sizeLine∧Pv (i + 1) (acc++[v]) σ2 (upd H4 D (.lst (acc++[v]))) else Pv (i + 1) acc σ2 H3)
    (hd:∀ acc σ H,Pv xs.length acc σ H→Q H):eu (LV K a b) g tt te D Q σ H:=by
  refine wj (n:=xs.length) Pv h0 (fun i acc σ H hi h=>?_) (fun acc σ H h=>?_) (fun i acc σ H x H' hi h hy=>?_) hd
  · obtain ⟨q1,q2⟩:=hl i acc σ H (Nat.le_of_lt hi) h
    exact ⟨xs,ys,xs[i],ys[i]'(by omega),q1,q2,by simp [hi],by simp [← el,hi]⟩
  · obtain ⟨q1,q2⟩:=hl _ acc σ H (Nat.le_refl _) h
    exact ⟨xs,ys,q1,q2,.inl (Nat.le_refl _)⟩
  · obtain ⟨q1,q2⟩:=hl i acc σ H (Nat.le_of_lt hi) h
    obtain ⟨T,v,u,nT,hv,hu,rfl,rfl⟩:=hy
    exact hs i v u acc σ H T (hv xs q1) (hu ys q2) h nT
theorem Hy (Pv:Nat→List V→St→Hp→Prop) (el:xs.length=ys.length) (h0:Pv 0 [] σ H) (hl:∀ i acc σ H,i≤xs.length→Pv i acc σ H→j0 K H a xs∧j0 K H b ys)
    (hs:∀ i x y acc σ H T,xs[i]?=some x→ys[i]?=some y→Pv i acc σ H→L2.new K H T→g (.ref T) σ (upd H T (.tup [x,y])) fun σ2 H2=>tt σ2 H2 fun b H3=>if b=true then te σ2 H3 fun v H4=>H4 D=some (.lst acc)∧acc.length < sizeLine∧Pv (i + 1) (acc++[v]) σ2 (upd H4 D (.lst (acc++[v]))) else Pv (i + 1) acc σ2 H3)
    (hd:∀ acc σ H,Pv xs.length acc σ H→Q H):eu (CY K a b) g tt te D Q σ H:=by
  refine wj (n:=xs.length) Pv h0 (fun i acc σ H hi h=>?_) (fun acc σ H h=>?_) (fun i acc σ H x H' hi h hy=>?_) hd
  · obtain ⟨q1,q2⟩:=hl i acc σ H (Nat.le_of_lt hi) h
    exact ⟨xs,ys,xs[i],ys[i]'(by omega),q1,q2,by simp [hi],by simp [← el,hi]⟩
  · obtain ⟨q1,q2⟩:=hl _ acc σ H (Nat.le_refl _) h
    exact ⟨xs,q1,Nat.le_refl _⟩
  · obtain ⟨q1,q2⟩:=hl i acc σ H (Nat.le_of_lt hi) h
    obtain ⟨T,v,u,nT,hv,hu,rfl,rfl⟩:=hy
    exact hs i v u acc σ H T (hv xs q1) (hu ys q2) h nT
end
section
variable {X:Cx}
theorem mQ:cX X (.builtin "len") (fun xs H Q=>(∃ p ys,xs=[.ref p]∧jK X.K H p=some ys∧Q (.int ys.length) H)∨∃ a kvs,xs=[V.ref a]∧H a=some (.dK kvs)∧Q (.int kvs.length) H):=by
  intro pins s σ H xs us Q I r h
  rcases h with h | h
  · exact pV pins s σ H xs us Q I r h
  · exact CD pins s σ H xs us Q I r h
end
end L2
set_option Elab.async false
set_option linter.all false
set_option maxRecDepth 100000
set_option maxHeartbeats 4000000
namespace L2
open PySem PySem.Spec PyProof.Rows
def pF (P:Program) (w:World):uy:=fun outer H s E e s'=>∃ (a:Addr) (cls a0:Value) (B:Heap) (H':Hp),e=.ref a∧s'.os=s.os∧AllBare s'.gens∧Heap.FlyingW B outer a cls a0 s'.heap∧Un (kR outer) [] H H' s.heap s'.heap∧
  (∀ b o,s.heap.get? b=some o→H b=none→b∉kR outer→B.get? b=some o)∧(∀ b o,s.heap.get? b=some o→b∉kR outer→∃ o',B.get? b=some o')∧mY P w H' B∧s.heap.get? a=none∧E cls none H'
theorem K6 {P:Program} {w:World} {H:Hp} {h:Heap} {a:Addr} {o:HO} (x:cg P w H h a o):∃ u,h.get? a=some u:=by
  cases o with
  | lst xs=>obtain ⟨_,_,_,_,e⟩:=x;exact ⟨_,e⟩
  | tup xs=>obtain ⟨_,_,_,u,e,_⟩:=x;exact ⟨_,e⟩
  | dK kvs=>obtain ⟨_,_,_,_,o,_,_,e,_⟩:=x;exact ⟨_,e⟩
  | dT kvs=>obtain ⟨_,_,_,_,o,_,_,e,_⟩:=x;exact ⟨_,e⟩
  | set S n=>obtain ⟨o,_,_,_,e,_⟩:=x;exact ⟨_,e⟩
  | ins C dx fs=>obtain ⟨_,_,_,e,_⟩:=x;exact ⟨_,e⟩
  | own y=>exact x
  | xd fs=>obtain ⟨_,⟨_,_,_,e,_⟩,_⟩:=x;exact ⟨_,e⟩
  | O7 lo hi=>obtain ⟨_,_,_,e⟩:=x;exact ⟨_,e⟩
  | jt ob u=>obtain ⟨e,_⟩:=x;exact ⟨_,e⟩
  | z7 ps=>exact ⟨_,(show h.get? a=some _ from x)⟩
  | met f y=>exact ⟨_,(show h.get? a=some _ from x)⟩
  | ext φ=>exact x.2.1
section
variable {X:Cx} {E:XK}
theorem BQ {pins:List (Addr×Obj)} {σ:St} {H H':Hp} {s:Shared} {h1 h2 B:Heap} {a:Addr} {cls a0:Value} {os:OsState} {g:Array GenState} {d:Drawn} {t:Nat} (rF:X.stack=X.env::X.outer) (hex:X.ex=[])
    (I:Inv X pins σ H s) (ho:os=s.os) (hg:AllBare g) (fl:Heap.FlyingW B X.outer a cls a0 h2) (up:h1.UpToSlots h2)
    (un:Un (kR X.stack) [] H H' s.heap h1) (kb:∀ b o,s.heap.get? b=some o→H b=none→b∉kR X.stack→B.get? b=some o)
    (tb:∀ b o,s.heap.get? b=some o→b∉kR X.stack→∃ o',B.get? b=some o') (bC:mY X.prog X.w H' B) (na:s.heap.get? a=none) (hE:E cls none H'):
    pF X.prog X.w X.outer X.H₀ X.s₀ E (.ref a) ⟨h2,g,d,t,os⟩:=by
  have nx:∀ b:Addr,b∉X.ex:=fun b=>by rw [hex];simp
  have ne:∀ b o,X.s₀.heap.get? b=some o→b∉kR X.outer→b∉kR X.stack:=fun b o e n z=>by
    rcases List.mem_cons.mp (I.ly b z) with q | q
    · have h1:=I.ok.above
      rw [← q] at h1
      exact absurd (Nat.lt_of_lt_of_le (Heap.lt_size e) h1) (Nat.lt_irrefl _)
    · exact n q
  have inS:∀ b,b∈kR X.outer→b∈kR X.stack:=fun b hb=>by
    rw [rF]
    unfold kR at hb ⊢
    rw [List.filterMap_cons]
    split
    · exact hb
    · exact List.mem_cons_of_mem _ hb
  refine ⟨a,cls,a0,B,H',rfl,ho.trans I.os,hg,fl,⟨fun b o e n hb _=>?_,fun b o e n hb _=>?_,fun b o e n _=>?_,fun b o e _=>?_,fun b xs e=>un.jX b xs (I.base.jX b xs e),fun b o xs e=>un.ju b o xs (I.base.ju b o xs e),fun b ps e=>?_⟩,
    fun b o e n hb=>kb b o (I.base.keep b o e n hb (nx b)) (I.base.free b o e n (nx b)) (ne b o e hb),fun b o e hb=>?_,bC,?_,hE⟩
  · exact fl.1 b o (kb b o (I.base.keep b o e n hb (nx b)) (I.base.free b o e n (nx b)) (ne b o e hb))
  · obtain ⟨sl,e1⟩:=I.base.slot b o e n hb (nx b)
    obtain ⟨sl',e2⟩:=un.slot b _ e1 (I.base.free b o e n (nx b)) (inS b hb) (by simp)
    obtain ⟨_,o',e3,nf⟩:=I.jG.mem hb
    rw [e1] at e3
    cases e3
    obtain ⟨sl'',e4⟩:=up b _ e2 nf
    exact ⟨sl'',e4⟩
  · obtain ⟨o',e1⟩:=I.base.there b o e (nx b)
    exact un.free b o' e1 (I.base.free b o e n (nx b)) (by simp)
  · by_cases hb:b∈kR X.outer
    · have n:X.H₀ b=none:=I.ok.Cb b hb
      obtain ⟨sl,e1⟩:=I.base.slot b o e n hb (nx b)
      obtain ⟨sl',e2⟩:=un.slot b _ e1 (I.base.free b o e n (nx b)) (inS b hb) (by simp)
      obtain ⟨_,o',e3,nf⟩:=I.jG.mem hb
      rw [e1] at e3
      cases e3
      obtain ⟨sl'',e4⟩:=up b _ e2 nf
      exact ⟨_,e4⟩
    · obtain ⟨o1,e1⟩:=I.base.there b o e (nx b)
      obtain ⟨o2,e2⟩:=tb b o1 e1 (ne b o e hb)
      exact ⟨o2,fl.1 b o2 e2⟩
  · obtain ⟨m1,e1⟩:=I.base.jY b ps e
    obtain ⟨m2,e2⟩:=un.jY b _ e1
    exact ⟨m1++m2,by rw [e2,Array.append_assoc]⟩
  · obtain ⟨o1,e1⟩:=I.base.there b o e (nx b)
    exact tb b o1 e1 (ne b o e hb)
  · cases q:X.s₀.heap.get? a with
    | none=>rfl
    | some o=>
      obtain ⟨o1,e1⟩:=I.base.there a o q (nx a)
      rw [na] at e1
      cases e1
def Cx.K7 (X:Cx) (E:XK):Prop:=X.xe=fun e s'=>wpAny (model X.prog X.w) X.A (leaving X.env e) (fun _ s''=>pF X.prog X.w X.outer X.H₀ X.s₀ E e s'') (fun e' s''=>pF X.prog X.w X.outer X.H₀ X.s₀ E e' s'') s'
theorem Hz (rF:X.stack=X.env::X.outer∧X.env.frame=some X.env.locals) (hex:X.ex=[]) (hx:X.K7 E):Passes (pF X.prog X.w) X E:=by
  rintro pins σ H s e ⟨h',g',d',t',GP⟩ I ⟨a,cls,a0,B,H',rfl,os,bare,fl,un,kb,tb,bC,na,hE⟩
  rw [hx]
  have fr:X.A.frames=some (X.env::X.outer):=by rw [← rF.1];exact I.ok.frames
  have fl:Heap.FlyingW B (X.env::X.outer) a cls a0 h':=by rw [← rF.1];exact fl
  refine wpAny_leaves_onW (base:=B) fr rF.2 fl fun h2 fl2 up=>?_
  exact BQ rF.1 hex I os bare fl2 up un kb tb bC na hE
end
section
variable {P:Program} {w:World} {K:PySem.W.Frag} {mg:Str→Option Value} {base:Heap} {N:List Str} {qual:Str} {scope:Scope} {f:Addr} {cd:Value} {A:Around} {outer:List Env} {s0:Shared} {H0:Hp} {E:XK} {CX:uy}
theorem M0:Passes (pF P w) (jw (pF P w) P w K mg base N qual scope f cd A outer s0 H0 E) E:=Hz (X:=jw (pF P w) P w K mg base N qual scope f cd A outer s0 H0 E) ⟨rfl,rfl⟩ rfl rfl
def nN (E:XK) (c:Value):TS:=fun _ _ H=>E c none H
structure Exc (K:PySem.W.Frag) (C:Addr):Prop where
  is:PySem.W.excIn K C [.type "ValueError",.type "Exception",.type "BaseException",.type "object"] "ValueError.__new__"=true
theorem Exc.obj {h:Heap} {C:Addr} (X:K.In h) (e:Exc K C):∃ bm Nn nm q bs hdct sn sub ab col dd k0 k1 k2 k3 k5 mN,h.get? C=some (excClassObj nm q C Nn bs bm hdct sn sub ab col dd k0 k1 k2 k3 k5 "ValueError.__new__")∧h.Ns Nn mN∧mN "__init__"=none∧OwnTail h [.type "ValueError",.type "Exception",.type "BaseException",.type "object"] bm:=by
  have q:=e.is
  unfold PySem.W.excIn at q
  split at q
  · rename_i dd cd sl ho
    split at q
    · rename_i C' bm k0 k1 k2 k3 n k5 hm hs
      simp only [Bool.and_eq_true,beq_iff_eq,Bool.not_eq_true'] at q
      obtain ⟨⟨⟨⟨⟨rfl,rfl⟩,hdel⟩,ht⟩,bC⟩,hni⟩:=q
      obtain ⟨nm,bs,mro,ns,qn,hd,sn,sub,ab,col,del⟩:=cd
      have e1:mro=.ref C'::bm:=hm
      have e2:del=false:=hdel
      subst e1 e2
      obtain ⟨l⟩:=sl
      have e3:l=[k0,k1,k2,k3,some (.builtin "ValueError.__new__"),k5]:=hs
      subst e3
      exact ⟨bm,ns,nm,qn,bs,hd,sn,sub,ab,col,dd,k0,k1,k2,k3,k5,_,X _ _ ho,.of_isNs (PySem.W.isNs_of_in X bC),PySem.W.nsMap_none_of_in X bC hni,PySem.W.tail_of_in X ht⟩
    · cases q
  · cases q
theorem Eu {C:Addr} {x y:Str} {np cY pos sp:Pos} {j:Nat} (hC:Exc K C) (hm:mg x=some (.ref C)) (hd:A.handled=none) (hg:Gl (jw (pF P w) P w K mg base N qual scope f cd A outer s0 H0 E) x) (qB:(x==("__debug__":Str))=false:=by decide):
    JS (jw (pF P w) P w K mg base N qual scope f cd A outer s0 H0 E) (.Raise (some (.Call (.Name x np) [.Constant (.str y) j sp] [] cY)) none pos) (nN E (.ref C)):=⟨by
  intro pins s σ H D I h
  obtain ⟨bm,Nn,nm,q,bs,hdct,sn,sub,ab,col,dd,k0,k1,k2,k3,k5,mN,hCo,hN,hni,T⟩:=hC.obj I.mod.Gd
  refine wpAny_Raise_call_subT (C:=C) (nm:=nm) (q:=q) (N:=Nn) (bs:=bs) (bm:=bm) (hdct:=hdct) (sn:=sn) (sub:=sub) (ab:=ab) (col:=col) (dd:=dd) (k0:=k0) (k1:=k1) (k2:=k2) (k3:=k3) (k5:=k5) PySem.F.excBase_ValueError (mN:=mN) (T.hasType PySem.F.excBase_ValueError.hasBase) hd rfl hni (jZ I hg hm ⟨rfl,?_⟩ qB)
  have pa:=Bs (X:=jw (pF P w) P w K mg base N qual scope f cd A outer s0 H0 E) (DC (x:=y) (j:=j) (pos:=sp)) DS
  refine Calls.evalArgs_plain (wpAny_mono (pa cY pins s σ H (fun vs H2=>vs.length=1∧H2=H) I ⟨rfl,rfl⟩) (fun us s2 z=>?_) fun _ _ z=>z)
  obtain ⟨vs,H2,I2,r2,l2,rfl⟩:=z
  refine ⟨rfl,?_,I2.bk _ _ hCo,hN.keeps I2.bk,T.keeps I2.bk,fun h' e hx=>?_⟩
  · show us.length≤_
    rw [← r2.length,l2]
    decide
  have nf:∀ b u,H2 b=some u→b∉kR (jw (pF P w) P w K mg base N qual scope f cd A outer s0 H0 E).stack:=fun b u e z=>by
    rw [I2.rD b z] at e
    cases e
  refine wpAny_leaves_madeW (base:=PySem.W.hideAll s2.heap (kR (jw (pF P w) P w K mg base N qual scope f cd A outer s0 H0 E).stack)) (h:=s2.heap) I2.ok.frames rfl (fun b o q=>PySem.W.of_hideAll _ q) (PySem.W.funFrames_hide I2.stack fun env he b hb=>List.mem_filterMap.mpr ⟨env,he,hb⟩) hx fun h2 t fl _ _ up=>?_
  refine BQ (X:=jw (pF P w) P w K mg base N qual scope f cd A outer s0 H0 E) (H':=H2) (h1:=h') (s:=s2) rfl rfl I2 rfl I2.bare fl up (Un.kept hx.keeps) (fun b o e _ n=>PySem.W.hideAll_get _ e n) (fun b o e n=>⟨o,PySem.W.hideAll_get _ e n⟩) (fun b o e=>(I2.bC b o e).qQ (fun c u hc q=>PySem.W.hideAll_get _ q ?_) (fun _ q=>q) fun _ _ q=>q) hx.new h
  rcases hc with z | z
  · subst z
    exact nf _ _ e
  · exact nf _ _ z⟩
end
end L2
namespace L2
open PySem PySem.Spec PyProof.Rows PySem.W PySem.Calls PySem.Builtin PySem.Builtin.ObjectAttr PySem.Builtin.Getset_descriptor
structure nO (K:PySem.W.Frag) (C:Addr):Prop where
  ga:findIn K (.ref C) "__getattribute__"=some (some (.builtin "BaseException.__getattribute__"))
  gh:findIn K (.ref C) "__getattr__"=some none
  cl:findIn K (.ref C) "__class__"=some (some (.builtin "object.__class__"))
  mo:mroIn K C (.type "object")=some true
  mb:mroIn K C (.type "BaseException")=some true
  gt:specialIn K (.builtin "object.__class__") "__get__"=some (some (.builtin "getset_descriptor.__get__"))
  tk:takesIn K (.builtin "object.__class__")=some true
  is:(clsIn K C).isSome=true
def uz (a C:Addr) (h:Heap):Prop:=∃ o,h.get? a=some o∧o.cls=.ref C
section
variable {K:PySem.W.Frag} {prog:Program} {w:World} {A:Around} {E:Value→Shared→Prop} {s:Shared} {a C:Addr}
theorem uz.ty {M:Model} {h:Heap} (x:uz a C h):Looks M h (typeOf (.ref a)) (.ref C):=by
  obtain ⟨o,e,c⟩:=x
  exact c ▸ (Looks.ld e).andThen .now
theorem Ew {R:Result→Shared→Prop} {tp:Value} (X:K.In s.heap) (x:uz a C s.heap) (F:nO K C) (h:R (.ok (.ret (.ref C))) s):codeAny (model prog w) A (.call (.builtin "getset_descriptor.__get__") ⟨[.builtin "object.__class__",.ref a,tp],[]⟩) R s:=by
  obtain ⟨h0,gn,dr,tk,os⟩:=s
  have l0:=x.ty (M:=model prog w)
  have l1:=looks_mroIn (M:=model prog w) X F.mo
  refine codeAny_call_builtin KF.slot_gs.plain KF.entry_gs (KF.slot_gs.check _ _ _ _ _ _ _ _ KF.type_class (KF.args_gs _ _ _) ?_)
  unfold Builtin.«getset_descriptor.__get__»;unfold descrGet
  rw [dga_obj]
  refine wpAny_bind (wpAny_pure ?_)
  unfold descrGetter;unfold descrCheckInstance;unfold descrNameAndClass;unfold isInstance
  simp only [KF.owner_class]
  repeat lk
  refine ⟨Code.quiet_builtin _ (by decide +kernel),codeAny_builtin KF.entry_class ?_⟩
  unfold Builtin.«object.__class__»;unfold shownTypeOf
  repeat lk
  exact h
theorem C0 {M:Model} {h:Heap} (X:K.In h) (F:nO K C):Looks M h (find (.ref a) (.ref C) "__class__") (.bind (.builtin "getset_descriptor.__get__") (.builtin "object.__class__")):=by
  have l1:=looks_findIn (M:=M) X F.cl
  have l2:=looks_specialIn (M:=M) X F.gt
  have l3:=looks_takesIn (M:=M) X F.tk
  exact l1.andThen (Looks.andThen (a:=some (Value.builtin "getset_descriptor.__get__")) l2 ((show Looks M h (dataDescriptor? (some (.builtin "object.__class__")) (some (.builtin "getset_descriptor.__get__"))) (some (.builtin "getset_descriptor.__get__",.builtin "object.__class__")) from l3.andThen .now).andThen (Looks.tag .now)))
theorem AJ {tk:Tok} {Q:Fin→Shared→Prop} (X:K.In s.heap) (x:uz a C s.heap) (F:nO K C) (h:Q (.done (.ret (.ref C))) s):wpAny (model prog w) A (Builtin.«object.__getattribute__» ⟨[.ref a,.str "__class__" tk],[]⟩) Q E s:=by
  obtain ⟨h0,gn,dr,tk,os⟩:=s
  have l0:=x.ty (M:=model prog w)
  have l1:=C0 (M:=model prog w) (a:=a) X F
  unfold Builtin.«object.__getattribute__»
  refine wpAny_bind (wpAny_pure ?_)
  refine wpAny_bind (wpAny_pure ?_)
  refine wpAny_bind (l0.at ?_)
  refine wpAny_bind (l1.at ?_)
  show wpAny (model prog w) A (bindTo (.builtin "getset_descriptor.__get__") (.builtin "object.__class__") (.ref a) (.ref C)) _ _ _
  unfold bindTo
  show wpAny (model prog w) A (holding [.builtin "object.__class__"] (call (.builtin "getset_descriptor.__get__") [.builtin "object.__class__",.ref a,.ref C]) >>=ret) _ _ _
  exact wpAny_bind (wpAny_holding (wpAny_call (Ew (s:=⟨h0,gn,dr,tk,os⟩) X x F (wpAny_pure h))))
theorem C1 {tk:Tok} {R:Result→Shared→Prop} (X:K.In s.heap) (x:uz a C s.heap) (F:nO K C) (h:R (.ok (.ret (.ref C))) s):codeAny (model prog w) A (.call (.builtin "BaseException.__getattribute__") ⟨[.ref a,.str "__class__" tk],[]⟩) R s:=by
  refine codeAny_call_builtin PySem.F.attr_ValueError.ga.plain PySem.F.entry_bexc_ga ?_
  have hk:builtinKind "BaseException.__getattribute__"=some .slot:=by decide +kernel
  have hp:splitId "BaseException.__getattribute__"=some ("BaseException","__getattribute__"):=by decide +kernel
  have ha:=PySem.F.args_bexc_ga (.ref a) (.str "__class__" tk)
  have l0:=x.ty (M:=model prog w)
  have l1:=looks_mroIn (M:=model prog w) X F.mb
  have l2:Looks (model prog w) s.heap (isInstance (.ref a) (.type "BaseException")) true:=l0.andThen l1
  simp only [checkBuiltinCall,hk,hp]
  refine wpAny_bind (l2.at ?_)
  rw [if_neg (by decide)]
  exact wpAny_of_eq ha (AJ X x F h)
theorem HH {tk:Tok} {Q:Value→Shared→Prop} (X:K.In s.heap) (x:uz a C s.heap) (F:nO K C) (h:Q (.ref C) s):wpAny (model prog w) A (getAttrBy (.ref a) (.str "__class__" tk) false) Q E s:=by
  have l0:=x.ty (M:=model prog w)
  have l1:=looks_findIn (M:=model prog w) X F.ga
  have l2:=looks_findIn (M:=model prog w) X F.gh
  have f3:=PySem.F.attr_ValueError.ga.bind (.ref a)
  unfold getAttrBy
  refine wpAny_holding (wpAny_bind (l0.at (wpAny_bind (l1.at ?_))))
  dsimp only
  have nb:(onTheHeap (Value.ref C)&&Value.builtin "BaseException.__getattribute__"==Value.builtin "object.__getattribute__")=false:=by
    rw [show (Value.builtin "BaseException.__getattribute__"==Value.builtin "object.__getattribute__")=false by decide +kernel,Bool.and_false]
  rw [nb,if_neg (by decide)]
  unfold getAttrByItsOwn
  refine wpAny_bind ?_
  show wpAny (model prog w) A (typeLookup (.ref C) "__getattr__") _ _ _
  refine l2.at (wpAny_bind (wpAny_attempt (wpAny_holding ?_)))
  show wpAny (model prog w) A (boundAndCalled (.builtin "BaseException.__getattribute__") (.ref a) (.str "__class__" tk)) _ _ _
  unfold boundAndCalled
  refine wpAny_bind (wpAny_of_eq f3 ?_)
  refine wpAny_call (C1 (s:=s) X x F ?_)
  exact wpAny_pure h
theorem C2 {Q:Option Value→Shared→Prop} (X:K.In s.heap) (x:uz a C s.heap) (F:nO K C) (h:Q (some (.ref C)) { s with toks:=s.toks + 1 }):wpAny (model prog w) A (getAttr? (.ref a) "__class__") Q E s:=by
  unfold getAttr?;unfold getAttrBy?
  exact wpAny_bind (wpAny_mkText (wpAny_bind (wpAny_attempt (HH (s:={ s with toks:=s.toks + 1 }) X x F (wpAny_pure h)))))
theorem zm (F:nO K C):KitX K (.ref a) (.ref C) (uz a C) where
  ty:=fun _ _ _ x=>x.ty
  it:=fun _ _ X _=>by
    have q:=F.is
    unfold clsIn at q
    split at q
    · rename_i ho
      intro A' Q' E' s' k z
      unfold isType loadHead
      exact wpAny_bind (wpAny_loadPart (k _ _ (X _ _ ho)) (wpAny_pure z))
    · cases q
  ne:=fun h tp dd aY n sl X e=>by
    have q:=F.is
    refine Bool.eq_false_iff.mpr fun z=>?_
    cases beq_iff_eq.mp z
    unfold clsIn at q
    split at q
    · rename_i ho
      have z:=(X _ _ ho).symm.trans e
      cases z
    · cases q
  ca:=fun X x k=>C2 X x F k
end
end L2
set_option Elab.async false
set_option linter.all false
set_option maxRecDepth 100000
set_option maxHeartbeats 4000000
namespace L2
open PySem PySem.Spec PyProof.Rows
def Cx.vE (X:Cx) (xe:Value→Shared→Prop) (pn:List (Addr×Obj)):Cx:={ X with xe:=xe,pn:=pn }
def Cx.sR (X:Cx) (a:Addr) (xe:Value→Shared→Prop) (pn:List (Addr×Obj)):Cx:={ X with A:=X.A.mark (some (.ref a)),calm:=false,xe:=xe,pn:=pn }
section
variable {X:Cx} {pins Ex:List (Addr×Obj)} {σ:St} {H H':Hp} {s:Shared} {xe:Value→Shared→Prop}
theorem Inv.vE (I:Inv X pins σ H s):Inv (X.vE xe (X.pn++pins)) [] σ H s:=
  ⟨⟨I.ok.mod,I.ok.kind,I.ok.glob,I.ok.blt,I.ok.above,I.ok.inj,I.ok.has,I.ok.Ge,I.ok.hd,I.ok.frames,I.ok.IC,I.ok.LN,I.ok.bs,I.ok.Ac,I.ok.vP,I.ok.yz,I.ok.jG,I.ok.Cb⟩,I.os,I.bare,I.base,I.loc,I.cell,I.free,I.eL,fun p hp=>I.pin p (by rw [List.append_nil] at hp;exact hp),I.bC,I.len⟩
theorem Inv.oQ (I:Inv (X.vE xe (X.pn++pins)) Ex σ H s):Inv X pins σ H s:=
  ⟨⟨I.ok.mod,I.ok.kind,I.ok.glob,I.ok.blt,I.ok.above,I.ok.inj,I.ok.has,I.ok.Ge,I.ok.hd,I.ok.frames,I.ok.IC,I.ok.LN,I.ok.bs,I.ok.Ac,I.ok.vP,I.ok.yz,I.ok.jG,I.ok.Cb⟩,I.os,I.bare,I.base,I.loc,I.cell,I.free,I.eL,fun p hp=>I.pin p (List.mem_append_left _ hp),I.bC,I.len⟩
theorem Inv.sR {a:Addr} (I:Inv X pins σ H s):Inv (X.sR a xe (X.pn++pins)) [] σ H s:=
  ⟨⟨I.ok.mod,I.ok.kind,I.ok.glob,I.ok.blt,I.ok.above,I.ok.inj,I.ok.has,I.ok.Ge,(fun z=>nomatch z),I.ok.frames,I.ok.IC,I.ok.LN,I.ok.bs,I.ok.Ac,I.ok.vP,I.ok.yz,I.ok.jG,I.ok.Cb⟩,I.os,I.bare,I.base,I.loc,I.cell,I.free,I.eL,fun p hp=>I.pin p (by rw [List.append_nil] at hp;exact hp),I.bC,I.len⟩
theorem Inv.uncaught {a:Addr} (ok:X.Ok) (I:Inv (X.sR a xe (X.pn++pins)) Ex σ H s):Inv X pins σ H s:=
  ⟨ok,I.os,I.bare,I.base,I.loc,I.cell,I.free,I.eL,fun p hp=>I.pin p (List.mem_append_left _ hp),I.bC,I.len⟩
theorem Inv.M3 {a:Addr} {o:HO} (I:Inv X pins σ H s) (hn:H a=none) (ha:X.s₀.heap.get? a=none) (hl:a≠X.env.locals) (hc:∀ x c,X.env.cells.lookup x=some c→c≠a) (hp:∀ p∈X.pn++pins,p.1≠a) (ok:cg X.prog X.w (upd H a o) s.heap a o):Inv X pins σ (upd H a o) s:=by
  have ne:∀ b u,H b=some u→b≠a:=fun b u e=>aJ e hn
  refine ⟨I.ok,I.os,I.bare,⟨I.base.keep,I.base.slot,fun b u e n hx=>?_,I.base.there,fun b xs e=>?_,fun b u xs e=>?_,fun b ps e=>?_⟩,I.loc,I.cell,?_,fun x c e=>?_,fun p q=>?_,fun b u e=>?_,I.len⟩
  · rw [ao (fun z=>by rw [z,ha] at e;cases e)]
    exact I.base.free b u e n hx
  · have:=I.base.jX b xs e
    rw [ao (ne _ _ this)]
    exact this
  · have:=I.base.ju b u xs e
    rw [ao (ne _ _ this)]
    exact this
  · obtain ⟨m,this⟩:=I.base.jY b ps e
    exact ⟨m,by rw [ao (ne _ _ this)];exact this⟩
  · rw [ao hl.symm]
    exact I.free
  · rw [ao (hc x c e)]
    exact I.eL x c e
  · obtain ⟨e,n,r⟩:=I.pin p q
    exact ⟨e,by rw [ao (hp p q)];exact n,r⟩
  · by_cases z:b=a
    · subst z
      rw [ai] at e
      cases e
      exact ok
    · rw [ao z] at e
      exact (I.bC b u e).qQ (fun _ _ _ q=>q) (fun c q=>by rw [ao (ne _ _ q)];exact q) fun c xs q=>by rw [ao (ne _ _ q)];exact q
end
theorem M4 {st:List Env} {base h h1 h2 B:Heap} {H H':Hp} (ff:h.FunFrames base st) (fr:∀ b∈kR st,H b=none) (un:Un (kR st) [] H H' h h1) (kb:∀ b o,h.get? b=some o→H b=none→b∉kR st→B.get? b=some o)
    (tb:∀ b o,h.get? b=some o→b∉kR st→∃ o',B.get? b=some o') (ks:B.StaysIn h2) (up:h1.UpToSlots h2):Un (kR st) [] H H' h h2:=by
  have sl:∀ b o,h.get? b=some o→H b=none→b∈kR st→∃ sl,h2.get? b=some { o with slots:=sl }:=fun b o e n hb=>by
    obtain ⟨s1,e1⟩:=un.slot b o e n hb (by simp)
    obtain ⟨_,o',e3,nf⟩:=ff.mem hb
    rw [e] at e3
    cases e3
    obtain ⟨s2,e2⟩:=up b _ e1 nf
    exact ⟨s2,e2⟩
  refine ⟨fun b o e n hb _=>ks b o (kb b o e n hb),fun b o e n hb _=>sl b o e n hb,un.free,fun b o e _=>?_,un.jX,un.ju,un.jY⟩
  by_cases hb:b∈kR st
  · obtain ⟨_,e1⟩:=sl b o e (fr b hb) hb
    exact ⟨_,e1⟩
  · obtain ⟨o',e1⟩:=tb b o e hb
    exact ⟨o',ks b o' e1⟩
def Ends.gone (D:Ends) (i:Nat):Ends:={ nx:=fun σ H=>D.nx (σ.set i none) H,rt:=D.rt,bk:=fun σ H=>D.bk (σ.set i none) H,ct:=fun σ H=>D.ct (σ.set i none) H }
theorem name_goes {X:Cx} {pins:List (Addr×Obj)} {σ:St} {H:Hp} {s:Shared} {M:Model} {A:Around} {E:Value→Shared→Prop} {Q:Unit→Shared→Prop} {n:Str} {i:Nat} {pos:Pos} (I:Inv X pins σ H s) (hN:X.N.Nodup) (hi:X.N[i]?=some n) (hl:X.env.kindOf n=some .local)
    (h:∀ s',Inv X pins (σ.set i none) H s'→Q () s'):wpAny M A (do bindName X.env n .none;unbindBehindTheSuite X.env n pos) Q E s:=by
  obtain ⟨m,hn,hv⟩:=id I.loc
  obtain ⟨oL,_,_,hoL,_⟩:=id hn
  have ne:∀ b o,X.s₀.heap.get? b=some o→b≠X.env.locals:=fun b o e=>Nat.ne_of_lt (Nat.lt_of_lt_of_le (Heap.lt_size e) I.ok.above)
  refine wpAny_nameGoes_keeps hl hn (by rw [I.ok.kind];rfl) fun h' v hn' hs=>?_
  refine h _ ⟨I.ok,I.os,I.bare,⟨fun b o e n hb hx=>(hs.2 b (ne b o e)).trans (I.base.keep b o e n hb hx),fun b o e n hb hx=>?_,I.base.free,fun b o e hx=>?_,I.base.jX,I.base.ju,I.base.jY⟩,⟨_,hn',fun j y u e1 e2 e3=>?_⟩,fun y c e=>?_,I.free,I.eL,fun p hp=>?_,fun b u e=>?_,by simpa using I.len⟩
  · obtain ⟨sl,e1⟩:=I.base.slot b o e n hb hx
    exact ⟨sl,(hs.2 b (ne b o e)).trans e1⟩
  · obtain ⟨o',e1⟩:=I.base.there b o e hx
    exact ⟨o',(hs.2 b (ne b o e)).trans e1⟩
  · by_cases hj:j=i
    · subst hj
      have:j < σ.length:=by rw [I.len];exact (List.getElem?_eq_some_iff.mp hi).1
      rw [List.getElem?_set_self this] at e2
      cases e2
    · rw [List.getElem?_set_ne (Ne.symm hj)] at e2
      obtain ⟨u',r',q⟩:=hv j y u e1 e2 e3
      refine ⟨u',r',?_⟩
      rcases q with ⟨k,e⟩ | ⟨k,c,e,z⟩
      · refine .inl ⟨k,?_⟩
        have:y≠n:=fun e=>hj (rP hN e1 (e ▸ hi))
        show (if y=n then v else m y)=_
        rw [if_neg this]
        exact e
      · exact .inr ⟨k,c,e,z.sameBut hs (I.Gf y c e)⟩
  · obtain ⟨w',z⟩:=I.cell y c e
    exact ⟨w',z.sameBut hs (I.Gf y c e)⟩
  · obtain ⟨e,n,ne,r⟩:=I.pin p hp
    exact ⟨(hs.2 p.1 ne).trans e,n,ne,r⟩
  · refine (I.bC b u e).qQ (fun c w' hc q=>(hs.2 c ?_).trans q) (fun _ q=>q) fun _ _ q=>q
    rintro rfl
    rcases hc with z | z
    · rw [← z,I.free] at e
      cases e
    · rw [I.free] at z
      cases z
section
variable {X:Cx}
def C4 (K:PySem.W.Frag) (CF:Addr) (len i:Nat) (tb:XK→TS) (ts:TS):TS:=fun D σ H=>
  tb (fun cls _ H'=>∃ C,cls=.ref C∧nO K C∧PySem.W.exmOne K (.ref C) (.ref CF)=some true∧∀ a,L2.new K H' a→ts (D.gone i) ((List.replicate len none).set i (some (.ref a))) (upd H' a (.ext (uz a C)))) D σ H
end
end L2
set_option Elab.async false
set_option linter.all false
set_option maxRecDepth 100000
set_option maxHeartbeats 4000000
namespace L2
open PySem PySem.Spec PyProof.Rows
def M5 (P:Program) (w:World) (K:PySem.W.Frag) (mg:Str→Option Value) (base:Heap) (N:List Str) (qual:Str) (scope:Scope) (f:Addr) (cd:Value) (A:Around) (outer:List Env) (s:Shared) (H:Hp) (E:XK) (cl:List (Str×Addr)):Cx where
  prog:=P
  w:=w
  K:=K
  mg:=mg
  base:=base
  A:=A.deeper (PySem.W.envX qual scope s.heap.objs.size f cd cl)
  N:=N
  s₀:=s
  H₀:=H
  env:=PySem.W.envX qual scope s.heap.objs.size f cd cl
  outer:=outer
  stack:=PySem.W.envX qual scope s.heap.objs.size f cd cl::outer
  ex:=[]
  calm:=true
  fn:=fun _=>false
  pn:=[]
  xe:=fun e s'=>wpAny (model P w) (A.deeper (PySem.W.envX qual scope s.heap.objs.size f cd cl)) (leaving (PySem.W.envX qual scope s.heap.objs.size f cd cl) e) (fun _ s''=>pF P w outer H s E e s'') (fun e' s''=>pF P w outer H s E e' s'') s'
structure M6 (K:PySem.W.Frag) (H:Hp) (h:Heap) (f:Addr) (name qual:Str) (params:Arguments) (body:Expr) (scope:Scope) (cl:List (Str×Addr)) (pm zo:Value) (c':Addr) (N:List Str) (σ:St):Prop where
  obj:h.get? f=some (PySem.W.kla_obj name qual params body scope cl pm c' zo)
  code:h.CodeRec (.ref c') qual
  free:∀ x c,cl.lookup x=some c→H c=none∧∃ v,h.IsCell c v
  inj:∀ x y c,cl.lookup x=some c→cl.lookup y=some c→x=y
  has:∀ x,(scope.names.lookup x=some .cell∨scope.names.lookup x=some .free)→∃ c,cl.lookup x=some c
  vals:∀ (i:Nat) (x:Str) (v:V),N[i]?=some x→σ[i]?=some (some v)→∃ u c,RelV v u∧cl.lookup x=some c∧h.IsCell c (some u)∧scope.names.lookup x=some .free
  len:σ.length=N.length
section
variable {P:Program} {w:World} {K:PySem.W.Frag} {mg:Str→Option Value} {base:Heap} {N:List Str} {name qual:Str} {scope:Scope} {f c':Addr} {A:Around} {outer:List Env} {s:Shared} {H:Hp} {E:XK} {cl:List (Str×Addr)} {params:Arguments} {body:Expr} {pm zo:Value} {σ:St} {Q:VK} {k:Nat} {te:TE}
end
section
variable {X:Cx} {N:List Str} {name qual:Str} {scope:Scope} {f c':Addr} {E:XK} {cl:List (Str×Addr)} {params:Arguments} {body:Expr} {pm zo:Value} {σl:St} {k i:Nat} {te:TE} {x:Str} {p pos:Pos}
theorem M6.on {pins:List (Addr×Obj)} {σ:St} {s:Shared} (L:M6 X.K X.H₀ X.s₀.heap f name qual params body scope cl pm zo c' N σl) (hf:X.H₀ f=none∧f∉X.fs) (hc:X.H₀ c'=some (.ext fun h=>h.CodeRec (.ref c') qual)) (hcl:∀ x c,cl.lookup x=some c→c∉X.fs) (hex:X.ex=[])
    (I:Inv X pins σ X.H₀ s):M6 X.K X.H₀ s.heap f name qual params body scope cl pm zo c' N σl:=by
  have nx:∀ b:Addr,b∉X.ex:=fun b=>by rw [hex];simp
  have ck:∀ y c v,cl.lookup y=some c→X.s₀.heap.IsCell c v→s.heap.IsCell c v:=fun y c v e ⟨o,q,d⟩=>⟨o,I.base.keep c o q (L.free y c e).1 (hcl y c e) (nx c),d⟩
  refine ⟨I.base.keep f _ L.obj hf.1 hf.2 (nx f),(I.bC c' _ hc).1,fun y c e=>?_,L.inj,L.has,fun j y v e1 e2=>?_,L.len⟩
  · obtain ⟨n,v,z⟩:=L.free y c e
    exact ⟨n,v,ck y c v e z⟩
  · obtain ⟨u,c,r,e,z,q⟩:=L.vals j y v e1 e2
    exact ⟨u,c,r,e,ck y c _ e z,q⟩
end
end L2
set_option Elab.async false
set_option linter.all false
set_option maxRecDepth 100000
set_option maxHeartbeats 4000000
namespace L2
open PySem PySem.Spec PyProof.Rows
def AK (H:Hp) (ps:Array Value) (qual:Str):Prop:=TriplesOk ps.toList∧∀ q v,codeAmong q ps.toList=some v→∃ c',v=.ref c'∧H c'=some (.ext fun h=>h.CodeRec (.ref c') qual)
structure RX (X:Cx) (c P:Addr):Prop where
  code:X.env.code=.ref c
  hd:PySem.W.CodeHd X.base c P
  bt:∃ bm ob,X.mg "__builtins__"=some (.ref bm)∧bm≠builtinsNs∧X.base.get? bm=some ob∧ob.cls=.type "module"∧ob.dict=some builtinsNs∧ob.data=.plain
section
variable {X:Cx} {pins:List (Addr×Obj)} {σ:St} {H:Hp} {s:Shared} {c P:Addr} {ps:Array Value} {params:Arguments} {body:Expr} {scope:Scope} {pos:Pos} {A:Around} {E:Value→Shared→Prop} {Q:Value→Shared→Prop}
structure Made (X:Cx) (pins:List (Addr×Obj)) (σ:St) (H:Hp) (P:Addr) (qual:Str) (params:Arguments) (body:Expr) (scope:Scope) (H':Hp) (s':Shared) (f c':Addr) (pm zo:Value):Prop where
  inv:Inv X pins σ H' s'
  tab:∃ ps',H' P=some (.z7 ps')∧AK H' ps' qual
  code:H' c'=some (.ext fun h=>h.CodeRec (.ref c') qual)
  keep:∀ b o,H b=some o→b≠P→H' b=some o
  mod:∀ b xs,H b=none→jc X.K b=some xs→H' b=none
  obj:s'.heap.get? f=some (PySem.W.kla_obj "<lambda>" qual params body scope (fX X.env scope.names []) pm c' zo)
  free:H' f=none
  above:X.s₀.heap.objs.size≤f
end
section
variable {X:Cx} {pins:List (Addr×Obj)} {σ:St} {H H':Hp} {s':Shared} {P f c':Addr} {qual:Str} {params:Arguments} {body:Expr} {scope:Scope} {pm zo:Value} {N:List Str} {src:List (Option Nat)}
theorem Made.lam (M:Made X pins σ H P qual params body scope H' s' f c' pm zo) (c:m8 X scope N src):M6 X.K H' s'.heap f "<lambda>" qual params body scope (fX X.env scope.names []) pm zo c' N (pick σ src):=by
  have I:=M.inv
  refine ⟨M.obj,(I.bC c' _ M.code).1,fun x d e=>⟨I.eL x d (bD e),I.cell x d (bD e)⟩,fun x y d e1 e2=>I.ok.inj x y d (bD e1) (bD e2),fun x h=>?_,fun i x v e1 e2=>?_,by unfold pick;rw [List.length_map];exact c.len.symm⟩
  · have m:(x,NameKind.free)∈scope.names:=by
      rcases h with h | h
      · exact absurd rfl (c.cell _ (lookup_mem h))
      · exact lookup_mem h
    obtain ⟨d,hd⟩:=I.ok.has x (c.free m)
    exact ⟨d,lR m hd⟩
  · obtain ⟨j,e3,e4⟩:=pW e2
    obtain ⟨a1,a2,a3⟩:=c.at_ e1 e3
    obtain ⟨m,_,hl⟩:=I.loc
    have JR:Jt X.env.scope x:=by
      rcases a2 with z | z
      · exact .inr (.inl z)
      · exact .inr (.inr z)
    obtain ⟨u,r,q⟩:=hl j x v a1 e4 JR
    rcases q with ⟨z,_⟩ | ⟨_,d,e,z⟩
    · rw [z] at a2
      rcases a2 with z | z <;> cases z
    · exact ⟨u,d,r,lR (lookup_mem a3) e,z,a3⟩
theorem Made.apart (M:Made X pins σ H P qual params body scope H' s' f c' pm zo) (Mh:∀ x,X.fn x=true):f∉kR X.stack∧∀ x d,(fX X.env scope.names []).lookup x=some d→d∉kR X.stack:=by
  have I:=M.inv
  have old:∀ b,X.s₀.heap.objs.size≤b→b∉X.fs:=fun b hb z=>by
    obtain ⟨_,o,e,_⟩:=I.ok.jG.mem z
    exact absurd (Nat.lt_of_lt_of_le (Heap.lt_size e) hb) (Nat.lt_irrefl _)
  refine ⟨fun z=>?_,fun x d e z=>?_⟩
  · rcases List.mem_cons.mp (I.ly f z) with q | q
    · obtain ⟨m,⟨o,es,ep,e,k,_⟩,_⟩:=I.loc
      rw [← q,M.obj] at e
      cases e
      cases k
    · exact old f M.above q
  · rcases List.mem_cons.mp (I.ly d z) with q | q
    · exact I.Gf x d (bD e) q
    · exact old d (I.ok.Ge x d (Mh x) (bD e)) q
end
section
variable {P:Program} {w:World} {K:PySem.W.Frag} {mg:Str→Option Value} {base:Heap} {x qual:Str} {st:Stmt} {f:Addr} {fd:FuncData} {N ps:List Str} {k:Nat}
theorem fL.RY {sp:Sp} (F:fL K x qual st f fd) (S:aG N ps (aj st)) (len:∀ vs H Q E,sp vs H Q E→vs.length=ps.length)
    (jH:∀ (cE:Value) (A:Around) (outer:List Env) (s:Shared) (H:Hp) (vs:List V) (Q:VK) (E:XK),dJ k (A.deeper (envOfC qual (aj st) s.heap.objs.size f cE))→sp vs H Q E→
      ∃ t,JB (jw (pF P w) P w K mg base N qual (aj st) f cE A outer s H E) (au st) t∧t { nx:=fun _ H'=>Q .cG H',rt:=Q } (start N vs) H):aT P w K mg base (pF P w) (k + 1) f fd ps sp:=by
  obtain ⟨oc,od,kV,doc,pm,an,cE,ct,Co,rfl,lk,yC⟩:=F.ex
  refine Bt lk yC S len fun A outer s H vs Q E hr Bu=>?_
  obtain ⟨t,h,q⟩:=jH cE A outer s H vs Q E hr Bu
  exact ⟨t,h.h,q⟩
structure oR (P:Program) (w:World) (K:PySem.W.Frag) (mg:Str→Option Value) (base:Heap) (x:Str) (k:Nat) (ps:List Str) (sp:Sp):Prop where
  ex:∃ (f:Addr) (fd:FuncData),aT P w K mg base (pF P w) k f fd ps sp∧Binds K fd ps []∧PySem.W.keepIn K (.ref f)=true∧mg x=some (.ref f)
end
end L2
set_option Elab.async false
set_option linter.all false
set_option maxRecDepth 100000
set_option maxHeartbeats 4000000
namespace L2
open PySem PySem.Spec PyProof.Rows
section
variable {X:Cx}
theorem AL:cX X (.builtin "isinstance") (fun xs H Q=>∃ a C D b,xs=[.ref a,.ref D]∧H a=some (.ext (uz a C))∧nO X.K C∧PySem.W.kitOne X.K (.ref C) (.ref D)=some b∧Q (.bl b) H):=by
  rintro pins s σ H xs us Q I r ⟨a,C,D,b,rfl,hx,F,e,q⟩
  obtain ⟨u,w',rfl,ru,rw'⟩:=vals2 r
  cases (show w'=Value.ref D from rw')
  cases (show u=Value.ref a from ru)
  exact PySem.W.kia_one (zm F) I.lq (I.bC a _ hx).1 e (fun z=>nomatch z) fun tk=>⟨.bl b,H,I.tok tk,rfl,q⟩
end
end L2
set_option Elab.async false
set_option linter.all false
set_option maxRecDepth 100000
set_option maxHeartbeats 4000000
namespace L2
open PySem PySem.Spec PyProof.Rows
structure M7 (params:Arguments) (body:Expr) (scope:Scope):Prop where
  kind:scope.kind=.function
  co:scope.isCoroutine=false
  gen:scope.isGenerator=false
  cell:∀ x∈scope.names,x.2≠.cell
  bind:∀ (name qual:Str) (cl:List (Str×Addr)) (pm zo:Value) (c':Addr),bindArgs (PySem.W.kla_fn name qual params body scope cl pm (.ref c') zo) ⟨[],[]⟩=pure []
structure M8 (K:PySem.W.Frag) (outer:List Env) (s:Shared) (H:Hp) (f c':Addr) (name qual:Str) (params:Arguments) (body:Expr) (scope:Scope) (cl:List (Str×Addr)) (pm zo:Value) (N:List Str) (σl:St):Prop where
  lam:M6 K H s.heap f name qual params body scope cl pm zo c' N σl
  free:H f=none∧f∉kR outer
  code:H c'=some (.ext fun h=>h.CodeRec (.ref c') qual)
  cls:∀ x d,cl.lookup x=some d→d∉kR outer
  sc:M7 params body scope
structure abJ (P:Program) (w:World) (K:PySem.W.Frag) (mg:Str→Option Value) (base:Heap) (y:Str) (k:Nat) (tw:(XK→TE)→St→Hp→VK→Prop):Prop where
  up:∀ te te':XK→TE,(∀ E σ H Q,te E σ H Q→te' E σ H Q)→∀ σ H Q,tw te σ H Q→tw te' σ H Q
  ex:∃ fW,PySem.W.keepIn K (.ref fW)=true∧mg y=some (.ref fW)∧∀ (A:Around) (outer:List Env) (s:Shared) (H:Hp) (f c':Addr) (name qual:Str) (params:Arguments) (body:Expr) (scope:Scope) (cl:List (Str×Addr)) (pm zo:Value) (N:List Str) (σl:St) (te:XK→TE) (Q:VK),
    (∀ E E' σ H Q Q',te E σ H Q→(∀ c x H',E c x H'→E' c x H')→(∀ v H',Q v H'→Q' v H')→te E' σ H Q')→dJ (k + 2) A→sf P w K mg base A outer s H→M8 K outer s H f c' name qual params body scope cl pm zo N σl→
    (∀ (E:XK) (A':Around) (K8:List Env) (s1:Shared),dJ k (A'.deeper (PySem.W.envX qual scope s1.heap.objs.size f (.ref c') cl))→JE (M5 P w K mg base N qual scope f (.ref c') A' K8 s1 H E cl) body (te E))→tw te σl H Q→
    codeAny (model P w) A (.call (.ref fW) ⟨[.ref f],[]⟩) (CR eK outer P w H s Q fun _ _ _=>False) s
structure ad0 (K:PySem.W.Frag) (T:Addr) (qual:Str) (H H':Hp):Prop where
  tab:∃ ps,H' T=some (.z7 ps)∧AK H' ps qual
  keep:∀ b o,H b=some o→b≠T→H' b=some o
  mod:∀ b xs,H b=none→jc K b=some xs→H' b=none
end L2
set_option Elab.async false
set_option linter.all false
set_option maxRecDepth 100000
set_option maxHeartbeats 4000000
namespace L2
open PySem PySem.Spec PyProof.Rows HT
section
variable {prog:Program} {w:World} {A:Around} {E:Value→Shared→Prop} {s:Shared}
theorem oS {t sl:Addr} {items:Array Value} {vl vu:Value} {lo hi:Option Int} {Q:Value→Shared→Prop} (ht:IsTup s.heap t items) (hs:s.heap.IsSliceOf sl vl vu .none) (pl:IsPart vl lo) (pu:IsPart vu hi)
    (hw:iw items.size 0 lo=0∧iw items.size items.size hi=items.size) (h:Q (.ref t) s):wpAny (model prog w) A (getItem (.ref t) (.ref sl)) Q E s:=by
  obtain ⟨os,hos,hcs,Cq⟩:=id hs
  have Rx:s.TypeIs (.ref sl) "slice":=⟨os,hos,hcs⟩
  unfold getItem
  refine wpAny_holding ?_
  first | refine wpAny_bind (wpAny_pure ?_) | skip
  refine wpAny_bind (wpAny_sequenceKey ht.typeIs (by decide) ?_)
  refine wpAny_bind (wpAny_callSpecial?_slot (name:=Str.ofString "__getitem__") ht.typeIs PyProof.Rows.slot_tuple_getitem
    (wpAny_call_entry PyProof.Rows.slot_tuple_getitem ht.typeIs entry_tuple_getitem ?_ (args_tuple_getitem _ _)))
  show wpAny _ _ (Builtin.Tuple.tupleItemsOf (.ref t) >>=_) _ _ s
  refine wpAny_bind (tupleItemsOf_ ht ?_)
  refine wpAny_bind (wpAny_typeOf Rx ?_)
  rw [if_pos (by decide)]
  refine wpAny_bind (jI hs pl pu ?_)
  have RZ:((((iw items.size 0 lo:Nat):Int)==0&&(1:Int)==1&&(iw items.size items.size hi - iw items.size 0 lo)==items.size)=true):=by
    rw [hw.1,hw.2]
    simp
  show wpAny _ _ (if (((iw items.size 0 lo:Nat):Int)==0&&(1:Int)==1&&(iw items.size items.size hi - iw items.size 0 lo)==items.size)=true then _ else _) _ _ s
  rw [if_pos RZ]
  unfold Builtin.Tuple.tupleIsExact
  refine wpAny_bind (wpAny_bind (wpAny_typeOf ht.typeIs (wpAny_pure ?_)))
  rw [if_pos (by decide)]
  exact wpAny_bind (wpAny_rule (wpAny_pure ⟨_,rfl,wpAny_pure h⟩))
end
theorem bA {X:Cx} {all rest:List Stmt} {t2:TS} {G:TS→Prop} (h2:JB X rest t2) (k:∀ r,JB X rest r→r=t2→∃ t,JB X all t∧G t):∃ t,JB X all t∧G t:=k t2 h2 rfl
theorem LX {CX:uy} {P:Program} {w:World} {K:PySem.W.Frag} {mg:Str→Option Value} {base:Heap} {N:List Str} {qual:Str} {scope:Scope} {f:Addr} {cd:Value} {A:Around} {outer:List Env} {s:Shared} {H:Hp} {E:XK}:(jw CX P w K mg base N qual scope f cd A outer s H E).N=N:=rfl
section
variable {X:Cx}
def M9 (K:PySem.W.Frag):V→Option Int→Option Int→Hp→VK→Prop:=fun x lo hi H Q=>∃ a xs,x=.ref a∧tupQ K H a=some xs∧
  (if HT.iw xs.length 0 lo=0∧HT.iw xs.length xs.length hi=xs.length then Q (.ref a) H else ∀ p,L2.new K H p→Q (.ref p) (upd H p (.tup (sq xs lo hi))))
theorem HP:Gi X (M9 X.K):=by
  intro pins s σ H x v vl vu lo hi sl Q I rx hs pl pu h
  obtain ⟨a,xs,rfl,hx,h⟩:=h
  split at h
  · rename_i hw
    cases rx
    obtain ⟨aY,r,ht,hz⟩:=I.tuple (cH hx)
    have hlen:aY.toArray.size=xs.length:=by rw [List.size_toArray];exact r.length.symm
    refine ⟨"tuple",_,PyProof.Rows.slot_tuple_getitem.lookup,ht.typeIs,?_⟩
    exact oS ht hs pl pu (by rw [hlen];exact hw) ⟨.ref a,H,I,rfl,h⟩
  · rename_i hw
    exact Hu pins s σ H (.ref a) v vl vu lo hi sl Q I rx hs pl pu ⟨a,xs,rfl,hx,hw,h⟩
def K9 (K:PySem.W.Frag):R2:=fun x y H Q=>∃ a b xs ys,x=.ref a∧y=.ref b∧tupQ K H a=some xs∧tupQ K H b=some ys∧xs≠[]∧xs.length + ys.length≤sizeLine∧
  (if ys=[] then Q (.ref a) H else ∀ p,L2.new K H p→Q (.ref p) (upd H p (.tup (xs++ys))))
theorem Ey:jE X (binaryOp .Add) (K9 X.K):=by
  intro pins s σ H x y v u Q I rx ry h
  obtain ⟨a,b,xs,ys,rfl,rfl,ha,hb,hx,hz,h⟩:=h
  refine bV (GW pins s σ H _ _ v u (fun v' H'=>(ys=[]∧v'=.ref a∧H'=H)∨(ys≠[]∧∃ l,H l=none∧v'=.ref l∧H'=upd H l (.tup (xs++ys)))) I rx ry ⟨a,b,xs,ys,rfl,rfl,cH ha,cH hb,hx,hz,fun e=>.inl ⟨e,rfl,rfl⟩,fun e l hl=>.inr ⟨e,l,hl,rfl,rfl⟩⟩) fun u' s' ⟨v',H',I',rv,q⟩=>?_
  rcases q with ⟨e,rfl,rfl⟩ | ⟨e,l,hl,rfl,rfl⟩
  · rw [if_pos e] at h
    exact ⟨_,_,I',rv,h⟩
  · rw [if_neg e] at h
    exact ⟨_,_,I',rv,h l ⟨hl,I'.kg ai⟩⟩
def sS (K:PySem.W.Frag):V→Option Int→Option Int→Hp→VK→Prop:=fun x lo hi H Q=>∃ a xs,x=.ref a∧tupQ K H a=some xs∧∀ q H',tupQ K H' q=some (sq xs lo hi)→Ext K H H'→Q (.ref q) H'
theorem BR:Gi X (sS X.K):=by
  intro pins s σ H x v vl vu lo hi sl Q I rx hs pl pu h
  obtain ⟨a,xs,rfl,hx,h⟩:=h
  refine HP pins s σ H (.ref a) v vl vu lo hi sl Q I rx hs pl pu ⟨a,xs,rfl,hx,?_⟩
  split
  · rename_i hw
    refine h a H ?_ Ext.refl
    have:sq xs lo hi=xs:=by
      unfold sq
      rw [hw.1,hw.2]
      simp
    rw [this]
    exact hx
  · exact fun p np=>h p _ aN (Ext.new np)
def nQ (K:PySem.W.Frag):R2:=fun x y H Q=>∃ a b xs ys,x=.ref a∧y=.ref b∧tupQ K H a=some xs∧tupQ K H b=some ys∧xs≠[]∧xs.length + ys.length≤sizeLine∧∀ q H',tupQ K H' q=some (xs++ys)→Ext K H H'→Q (.ref q) H'
theorem Ez:jE X (binaryOp .Add) (nQ X.K):=by
  intro pins s σ H x y v u Q I rx ry h
  obtain ⟨a,b,xs,ys,rfl,rfl,ha,hb,hx,hz,h⟩:=h
  refine Ey pins s σ H _ _ v u Q I rx ry ⟨a,b,xs,ys,rfl,rfl,ha,hb,hx,hz,?_⟩
  split
  · rename_i e
    refine h a H ?_ Ext.refl
    rw [e,List.append_nil]
    exact ha
  · exact fun p np=>h p _ aN (Ext.new np)
theorem qJ (K:PySem.W.Frag) (hk:X.K=K:=by rfl):cX X (.builtin "isinstance") (fun xs H Q=>∃ a C D b,xs=[.ref a,.ref D]∧H a=some (.ext (uz a C))∧nO K C∧PySem.W.kitOne K (.ref C) (.ref D)=some b∧Q (.bl b) H):=by subst hk;exact AL
end
structure XT (K:PySem.W.Frag) (T:Addr) (q:Str) (H H':Hp):Prop where
  R0:∃ ps,H T=some (.z7 ps)
  tab:∃ ps,H' T=some (.z7 ps)∧AK H' ps q
  keep:∀ b o,H b=some o→b≠T→H' b=some o
  mod:∀ b xs,H b=none→jc K b=some xs→H' b=none
section
variable {K:PySem.W.Frag} {T:Addr} {q:Str} {H H1 H2:Hp}
theorem AK.ext {ps:Array Value} (h:AK H ps q) (x:∀ b o,H b=some o→(∀ ps,o≠.z7 ps)→H1 b=some o):AK H1 ps q:=⟨h.1,fun p v e=>by
  obtain ⟨c,rfl,hc⟩:=h.2 p v e
  exact ⟨c,rfl,x _ _ hc nofun⟩⟩
theorem XT.refl (h:∃ ps,H T=some (.z7 ps)∧AK H ps q):XT K T q H H:=⟨let ⟨ps,e,_⟩:=h;⟨ps,e⟩,h,fun _ _ e _=>e,fun _ _ e _=>e⟩
theorem XT.trans (x:XT K T q H H1) (y:XT K T q H1 H2):XT K T q H H2:=⟨x.R0,y.tab,fun b o e n=>y.keep b o (x.keep b o e n) n,fun b xs e k=>y.mod b xs (x.mod b xs e k) k⟩
theorem XT.ext (x:XT K T q H H1) (y:Ext K H1 H2):XT K T q H H2:=by
  obtain ⟨ps,e,c⟩:=x.tab
  exact ⟨x.R0,⟨ps,y.same _ _ e,c.ext fun b o h _=>y.same b o h⟩,fun b o e n=>y.same _ _ (x.keep b o e n),fun b xs e k=>y.mod b xs (x.mod b xs e k) k⟩
theorem XT.at (x:XT K T q H H1) {b:Addr} {o:HO} (h:H b=some o) (n:∀ ps,o≠.z7 ps):H1 b=some o:=x.keep b o h fun z=>by
  obtain ⟨ps,e⟩:=x.R0
  rw [z,e] at h
  cases h
  exact n _ rfl
theorem XT.tup (x:XT K T q H H1) {a:Addr} {vs:List V} (h:tupQ K H a=some vs):tupQ K H1 a=some vs:=by
  unfold tupQ at h ⊢
  split at h
  · next e=>rw [x.at e nofun];exact h
  · cases h
  · next e=>rw [x.mod a vs e h];exact h
end
end L2
set_option Elab.async false
set_option linter.all false
set_option maxRecDepth 100000
set_option maxHeartbeats 4000000
namespace L2
open PySem PySem.Spec PyProof.Rows
section
variable {X:Cx}
end
section
variable {X:Cx}
def ko (K:PySem.W.Frag):R2:=fun x y H Q=>∃ a b xs ys,x=.ref a∧y=.ref b∧tupQ K H a=some xs∧tupQ K H b=some ys∧xs.length + ys.length≤sizeLine∧∀ q H',tupQ K H' q=some (xs++ys)→Ext K H H'→Q (.ref q) H'
theorem C5:jE X (binaryOp .Add) (ko X.K):=by
  intro pins s σ H x y v u Q I rx ry h
  obtain ⟨a,b,xs,ys,rfl,rfl,ha,hb,hz,h⟩:=h
  by_cases hx:xs=[]
  · subst hx
    cases rx
    cases ry
    obtain ⟨aY,r1,p1,_⟩:=I.tuple (cH ha)
    obtain ⟨its2,r2,p2,_⟩:=I.tuple (cH hb)
    have he:aY=[]:=by cases r1;rfl
    subst he
    obtain ⟨⟨cls,dd,data,sl⟩,ho,hc,n,hd⟩:=id p1
    obtain ⟨⟨cls2,dd2,data2,LQ⟩,ho2,hc2,n2,hd2⟩:=id p2
    simp only at hc hd hc2 hd2
    subst hc hd hc2 hd2
    exact concat_meets ⟨_,ho,rfl⟩ ⟨_,ho2,rfl⟩ noFill_tuple_add seq_tuple_add PySem.F.slot_tuple_add PySem.F.entry_tuple_add (PySem.F.args_tuple_add_2 _ _)
      (tuple_addW0 a b #[] its2.toArray n n2 dd dd2 sl LQ rfl) ⟨ho,ho2,⟨.ref b,H,I,rfl,h b H (by simpa using hb) Ext.refl⟩⟩
  · exact Ez pins s σ H _ _ v u Q I rx ry ⟨a,b,xs,ys,rfl,rfl,ha,hb,hx,hz,h⟩
end
mutual
theorem eqv_refl:∀ (d:PyData),d.canLay0=true→PyData.eqv d d=true
  | .none,_=>by simp [PyData.eqv]
  | .bool b,_=>by simp [PyData.eqv]
  | .int i,_=>by simp [PyData.eqv]
  | .str x,_=>by simp [PyData.eqv]
  | .list ds,h=>by
    simp only [PyData.canLay0] at h
    simp only [PyData.eqv]
    exact eqvAll_refl ds h
  | .tuple ds,h=>by
    simp only [PyData.canLay0] at h
    simp only [PyData.eqv]
    exact eqvAll_refl ds h
  | .dict _,h=>by simp [PyData.canLay0] at h
theorem eqvAll_refl:∀ (ds:List PyData),PyData.canLayAll0 ds=true→PyData.eqvAll ds ds=true
  | [],_=>by simp [PyData.eqvAll]
  | d::ds,h=>by
    simp only [PyData.canLayAll0,Bool.and_eq_true] at h
    simp only [PyData.eqvAll,Bool.and_eq_true]
    exact ⟨eqv_refl d h.1,eqvAll_refl ds h.2⟩
end
end L2
set_option Elab.async false
set_option linter.all false
set_option maxRecDepth 100000
set_option maxHeartbeats 4000000
namespace L2
open PySem PySem.Spec PyProof.Rows
section
variable {X:Cx} {o e value:Expr} {f:Str} {pos pos' DR p:Pos} {ta tv te:TE}
theorem gU (he:JE X e ta) (hb:attributeBase e f X.env (eval e X.env)=eval e X.env:=by rfl):JE X (.Attribute e f pos) (vV X.K ta f):=⟨Kl he.h hb⟩
theorem jd (ha:JE X o ta) (hv:JE X value tv) (hs:swapsWith value (some (.Attribute o f pos')) pos.line X.env=pure false:=by rfl):JS X (.Assign [.Attribute o f pos'] value pos) (yP X.K ta tv f):=⟨Km ha.h hv.h hs⟩
end
structure HQ (K:PySem.W.Frag) (x qual:Str) (st:Stmt) (f:Addr) (fd:FuncData):Prop where
  ex:∃ (oc:Value) (od:Option Addr) (dV kV doc pm:Value) (an:Option Addr) (cE ct:Value) (Co:Array (Option Value)),
    fd=PySem.W.fnOf x qual (aF st) (au st) (aj st) dV kV doc pm an cE ct∧K.lookup f=some ⟨oc,od,.func fd,Co⟩∧PySem.W.codeIn K cE qual=true
section
variable {P:Program} {w:World} {K:PySem.W.Frag} {mg:Str→Option Value} {base:Heap} {x qual:Str} {st:Stmt} {f:Addr} {fd:FuncData} {N ps:List Str} {k:Nat} {sp:Sp}
theorem HQ.RY (F:HQ K x qual st f fd) (S:aG N ps (aj st)) (len:∀ vs H Q E,sp vs H Q E→vs.length=ps.length)
    (jH:∀ (cE:Value) (A:Around) (outer:List Env) (s:Shared) (H:Hp) (vs:List V) (Q:VK) (E:XK),dJ k (A.deeper (envOfC qual (aj st) s.heap.objs.size f cE))→sp vs H Q E→
      ∃ t,JB (jw (pF P w) P w K mg base N qual (aj st) f cE A outer s H E) (au st) t∧t { nx:=fun _ H'=>Q .cG H',rt:=Q } (start N vs) H):aT P w K mg base (pF P w) (k + 1) f fd ps sp:=by
  obtain ⟨oc,od,dV,kV,doc,pm,an,cE,ct,Co,rfl,lk,yC⟩:=F.ex
  refine Bt lk yC S len fun A outer s H vs Q E hr Bu=>?_
  obtain ⟨t,h,q⟩:=jH cE A outer s H vs Q E hr Bu
  exact ⟨t,h.h,q⟩
end
def kq (K:PySem.W.Frag) (C:Addr) (sp:Sp) (iL:List V) (E:XK) (t:TA):TE:=fun σ H Q=>t σ H fun vs H1=>∀ x dx,new K H1 x→new K H1 dx→dx≠x→
  sp (.ref x::(vs++iL)) (upd (upd H1 dx (.own x)) x (.ins C dx [])) (fun v H2=>v=.cG∧Q (.ref x) H2) E
structure AM (P:Program) (w:World) (K:PySem.W.Frag) (mg:Str→Option Value) (base:Heap) (x:Str) (k:Nat) (ps:List Str) (iL:List V) (C:Addr) (sp:Sp):Prop where
  ex:∃ (f:Addr) (fd:FuncData) (ds:List Value),Mk K C f∧aT P w K mg base (pF P w) k f fd ps sp∧Binds K fd ps ds∧Vals iL ds∧mg x=some (.ref C)
section
variable {X:Cx} {CX:uy} {k:Nat} {f C:Addr} {fd:FuncData} {ps:List Str} {sp:Sp} {iL:List V} {ds:List Value} {E:XK} {y:Str} {p pos:Pos} {e:Expr} {es:List Expr} {t:TA}
theorem pZ {pins:List (Addr×Obj)} {σ:St} {H:Hp} {s:Shared} {Q:VK} {us:List Value} {vs:List V} (M:Mk X.K C f) (F:aT X.prog X.w X.K X.mg X.base CX k f fd ps sp) (hr:dJ (k + 1) X.A) (hb:Binds X.K fd ps ds) (hd:Vals iL ds)
    (hx:Passes CX X E) (I:Inv X pins σ H s) (r:Vals vs us)
    (h:∀ x dx,new X.K H x→new X.K H dx→dx≠x→sp (.ref x::(vs++iL)) (upd (upd H dx (.own x)) x (.ins C dx [])) (fun v H2=>v=.cG∧Q (.ref x) H2) E):
    wpAny (model X.prog X.w) X.A (call (.ref C) us) (EP X pins σ Q) X.xe s:=by
  have I2:=Inv.made (C:=C) I
  have hq:=h (s.heap.objs.size + 1) s.heap.objs.size ⟨I.bC.fresh (Nat.le_succ _),I2.kg ai⟩ I.new (Nat.ne_of_lt (Nat.lt_succ_self _))
  have r2:Vals (V.ref (s.heap.objs.size + 1)::(vs++iL)) (Value.ref (s.heap.objs.size + 1)::(us++ds)):=.cons rfl (r.append hd)
  have hl:(Value.ref (s.heap.objs.size + 1)::us++ds).length=ps.length:=by
    have e:=r2.length
    rw [F.len _ _ _ _ hq] at e
    exact e.symm
  refine wpAny_call (DQ (f:=f) I.lq M.makes M.init (beq_iff_eq.mp M.fn) (codeAny_mono (F.run _ X.stack _ _ ⟨Value.ref (s.heap.objs.size + 1)::us,[]⟩ (Value.ref (s.heap.objs.size + 1)::(us++ds)) _ _ E (hr.make C us [])
    (I2.Ko.make C us []) (hb _ (Value.ref (s.heap.objs.size + 1)::us) I2.lq hl) r2 hq) fun r s' hq'=>?_))
  cases r with
  | error e=>exact hx pins σ _ _ e s' I2 hq'
  | ok fl=>
    cases fl with
    | ret u=>
      obtain ⟨v,H',I3,rv,ev,q3⟩:=I2.after hq'
      subst ev
      exact ⟨rv,⟨V.ref (s.heap.objs.size + 1),H',I3,rfl,q3⟩⟩
    | next=>exact False.elim hq'
    | brk=>exact False.elim hq'
    | cont=>exact False.elim hq'
theorem La (M:AM X.prog X.w X.K X.mg X.base y k ps iL C sp) (hx:Passes (pF X.prog X.w) X E) (hr:dJ (k + 1) X.A) (hg:Gl X y) (ha:JA X (e::es) t)
    (qB:(y==("__debug__":Str))=false:=by decide) (he:starEach (e::es) X.env=(false,eval e X.env)::starEach es X.env:=by rfl) (qC:(backTo pos (starEach es X.env)).any (·.1)=false:=by rfl):
    JE X (.Call (.Name y p) (e::es) [] pos) (kq X.K C sp iL E t):=⟨by
  intro pins s σ H Q I h
  obtain ⟨f,fd,ds,M,F,b,vd,mm⟩:=M.ex
  refine wpAny_Call_Name_kw (jZ I hg mm ?_ qB)
  refine PySem.W.callWith_K (h₀:=X.base) I.ok.mod.Gd M.kp (bV (ha.h pos pins s σ H _ I h) fun us s1 ⟨vs,H1,I1,r,q⟩=>⟨I1.lq,?_⟩) he qC
  exact pZ M F hr b vd hx I1 r q⟩
end
theorem Ext.made {K:PySem.W.Frag} {H:Hp} {x dx:Addr} {o o':HO} (n:L2.new K H x) (m:L2.new K H dx) (ne:dx≠x):Ext K H (upd (upd H dx o') x o):=
  (Ext.new m).trans (Ext.new (eY.mpr ⟨ne.symm,n⟩))
structure abK (P:Program) (w:World) (K:PySem.W.Frag) (a:Addr) (vs:List (Key×Value)):Prop where
  of:∀ h:Heap,K.In h→h.DictOf (bq P w) a vs
  ne:(a==sysModules)=false
section
variable {X:Cx} {a:Addr} {vs:List (Key×Value)} {o i:Expr} {to ti:TE} {pos:Pos}
end
section
variable {X:Cx}
end
section
variable {X:Cx}
end
end L2
set_option Elab.async false
set_option linter.all false
set_option maxRecDepth 100000
set_option maxHeartbeats 4000000
namespace HT
open PySem PySem.Spec PyProof.Rows
section
variable {prog:Program} {w:World} {A:Around} {E:Value→Shared→Prop} {s:Shared}
end
end HT
namespace L2
open PySem PySem.Spec PyProof.Rows
section
variable {X:Cx} {e:Expr} {te:TE} {pos:Pos}
end
end L2
set_option Elab.async false
set_option linter.all false
set_option maxRecDepth 100000
set_option maxHeartbeats 4000000
namespace L2
open PySem PySem.Spec PyProof.Rows
structure bH (P:Program) (w:World) (K:PySem.W.Frag) (mg:Str→Option Value) (base:Heap) (C:Addr) (m:Str) (k:Nat) (ps:List Str) (iL:List V) (sp:Sp):Prop where
  ex:∃ (f:Addr) (fd:FuncData) (ds:List Value),Meth K C m f∧aT P w K mg base eK k f fd ps sp∧Binds K fd ps ds∧Vals iL ds
structure abL (P:Program) (w:World) (K:PySem.W.Frag) (mg:Str→Option Value) (base:Heap) (C:Addr) (m:Str) (k:Nat) (ps:List Str) (iL:List V) (sp:Sp):Prop where
  ex:∃ (f:Addr) (fd:FuncData) (ds:List Value),Meth K C m f∧aT P w K mg base (pF P w) k f fd ps sp∧Binds K fd ps ds∧Vals iL ds
structure Maker (P:Program) (w:World) (K:PySem.W.Frag) (mg:Str→Option Value) (base:Heap) (x:Str) (k:Nat) (ps:List Str) (iL:List V) (C:Addr) (sp:Sp):Prop where
  ex:∃ (f:Addr) (fd:FuncData) (ds:List Value),Mk K C f∧aT P w K mg base eK k f fd ps sp∧Binds K fd ps ds∧Vals iL ds∧mg x=some (.ref C)
section
variable {X:Cx} {k:Nat} {C:Addr} {ps:List Str} {sp:Sp} {iL:List V} {E:XK} {m y:Str} {apos pos p:Pos} {o e value:Expr} {es:List Expr} {t:TA} {ta tv:TE} {pl:Sem Bool}
theorem jR (M:bH X.prog X.w X.K X.mg X.base C m k ps iL sp) (c:iu X.K C) (hr:dJ k X.A) (ho:JE X o ta) (ha:JA X (e::es) t)
    (rF:starEach (e::es) X.env=(false,eval e X.env)::starEach es X.env:=by rfl) (qC:(backTo pos (starEach es X.env)).any (·.1)=false:=by rfl)
    (ht:eval (.Call (.Attribute o m apos) (e::es) [] pos) X.env=(do
      let ov ← eval o X.env
      standAt apos.atName
      let (f,first) ← holding [ov] (getMethod ov m pl)
      callWith pos f first (backTo pos (starEach (e::es) X.env)) (backToKw pos (keywordEach [] X.env))):=by rfl):
    JE X (.Call (.Attribute o m apos) (e::es) [] pos) (m6 C m sp iL E0 ta t):=⟨by
  obtain ⟨f,fd,ds,hm,F,b,vd⟩:=M.ex
  exact GR ho.h c hm F hr b vd zb ha.h rF qC ht⟩
theorem fC (M:bH X.prog X.w X.K X.mg X.base C m k ps iL sp) (c:iu X.K C) (hr:dJ k X.A) (ho:JE X o ta)
    (ht:eval (.Call (.Attribute o m apos) [] [] pos) X.env=(do
      let ov ← eval o X.env
      standAt apos.atName
      let (f,first) ← holding [ov] (getMethod ov m pl)
      callWith pos f first (backTo pos (starEach [] X.env)) (backToKw pos (keywordEach [] X.env))):=by rfl):
    JE X (.Call (.Attribute o m apos) [] [] pos) (m6 C m sp iL E0 ta ou):=⟨by
  obtain ⟨f,fd,ds,hm,F,b,vd⟩:=M.ex
  exact DT ho.h c hm F hr b vd zb ht⟩
theorem EA (M:Maker X.prog X.w X.K X.mg X.base y k ps iL C sp) (hr:dJ (k + 1) X.A) (hg:Gl X y) (ha:JA X (e::es) t)
    (qB:(y==("__debug__":Str))=false:=by decide) (he:starEach (e::es) X.env=(false,eval e X.env)::starEach es X.env:=by rfl) (qC:(backTo pos (starEach es X.env)).any (·.1)=false:=by rfl):
    JE X (.Call (.Name y p) (e::es) [] pos) (kq X.K C sp iL E0 t):=⟨by
  intro pins s σ H Q I h
  obtain ⟨f,fd,ds,M,F,b,vd,mm⟩:=M.ex
  refine wpAny_Call_Name_kw (jZ I hg mm ?_ qB)
  refine PySem.W.callWith_K (h₀:=X.base) I.ok.mod.Gd M.kp (bV (ha.h pos pins s σ H _ I h) fun us s1 ⟨vs,H1,I1,r,q⟩=>⟨I1.lq,?_⟩) he qC
  exact pZ M F hr b vd zb I1 r q⟩
theorem AN (M:Maker X.prog X.w X.K X.mg X.base y k ps iL C sp) (hr:dJ (k + 1) X.A) (hg:Gl X y)
    (qB:(y==("__debug__":Str))=false:=by decide):JE X (.Call (.Name y p) [] [] pos) (kq X.K C sp iL E0 ou):=⟨by
  intro pins s σ H Q I h
  obtain ⟨f,fd,ds,M,F,b,vd,mm⟩:=M.ex
  refine wpAny_Call_Name_kw (jZ I hg mm ?_ qB)
  exact PySem.W.callWith_K0 I.lq M.kp (pZ (us:=[]) M F hr b vd zb I .nil h)⟩
theorem BS {op:Operator} {rd:V→V→Hp→VK→Prop} {f:Str} {DR:Pos} (Rt:GO X op rd) (ha:JE X o ta) (hv:JE X value tv):JS X (.AugAssign (.Attribute o f DR) op value pos) (iB X.K ta tv rd f):=⟨Cj ha.h hv.h Rt⟩
end
section
variable {P:Program} {w:World} {K:PySem.W.Frag} {mg:Str→Option Value} {base:Heap} {x qual:Str} {st:Stmt} {f:Addr} {fd:FuncData} {N ps:List Str} {k:Nat} {sp:Sp}
theorem HQ.iC (F:HQ K x qual st f fd) (S:aG N ps (aj st)) (len:∀ vs H Q E,sp vs H Q E→vs.length=ps.length)
    (jH:∀ (cE:Value) (A:Around) (outer:List Env) (s:Shared) (H:Hp) (vs:List V) (Q:VK) (E:XK),dJ k (A.deeper (envOfC qual (aj st) s.heap.objs.size f cE))→sp vs H Q E→
      ∃ t,JB (jw eK P w K mg base N qual (aj st) f cE A outer s H E).Du (au st) t∧t { nx:=fun _ H'=>Q .cG H',rt:=Q } (start N vs) H):aT P w K mg base eK (k + 1) f fd ps sp:=by
  obtain ⟨oc,od,dV,kV,doc,pm,an,cE,ct,Co,rfl,lk,yC⟩:=F.ex
  refine Bt lk yC S len fun A outer s H vs Q E hr Bu=>?_
  obtain ⟨t,h,q⟩:=jH cE A outer s H vs Q E hr Bu
  exact ⟨t,h.h.Du,q⟩
end
section
variable {X:Cx}
theorem oU:cX X (.builtin "isinstance") (fun xs H Q=>∃ x C t b,xs=[x,.ref C]∧oq X.K H x t∧PySem.W.kitOne X.K t (.ref C)=some b∧Q (.bl b) H):=by
  intro pins s σ H xs us Q I r h
  obtain ⟨x,C,t,b,rfl,ty,e,q⟩:=h
  obtain ⟨u,w',rfl,ru,rw'⟩:=vals2 r
  cases rw'
  exact uW I ru ty e fun tk=>⟨.bl b,H,I.tok tk,rfl,q⟩
end
end L2
set_option Elab.async false
set_option linter.all false
set_option maxRecDepth 100000
set_option maxHeartbeats 4000000
namespace L2
open PySem PySem.Spec PyProof.Rows
section
variable {X:Cx}
def AO (K:PySem.W.Frag):R2:=fun x y H Q=>∃ l b xs,x=.ref l∧y=.ref b∧cz K H l xs∧cz K H b []∧Q (.bl (!xs.isEmpty)) H
theorem Lb (hu:X.A.units < cLine):jE X (compareOp .NotEq) (AO X.K):=by
  intro pins s σ H x y v u Q I rx ry h
  obtain ⟨l,b,xs,rfl,rfl,h1,h2,q⟩:=h
  cases rx
  cases ry
  obtain ⟨aY,rv,p,_⟩:=I.list h1
  obtain ⟨its2,rv2,p2,_⟩:=I.list h2
  cases rv2
  have fin:∀ k:Bool,k=(!xs.isEmpty)→EP X pins σ Q (.bool k) s:=fun k e=>⟨.bl k,H,I,rfl,by rw [e];exact q⟩
  cases rv with
  | nil=>exact SeqAt.RcNeAt.lists (e:=fun _=>true) p.isList p2.isList rfl hu (fun j h1=>by simp at h1) X.prog X.w X.xe _ (fin _ (by simp))
  | cons a b=>exact SeqAt.RcNeAt.lists_lengths p.isList p2.isList (by simp) hu X.prog X.w X.xe _ (fin _ rfl)
end
section
variable {P:Program} {w:World} {A:Around} {E:Value→Shared→Prop} {s:Shared} {S:Addr} {vs:List (Key×Value)} {ep:Nat}
end
section
variable {X:Cx}
def EB (N:Addr→Prop) (R:Hp→Prop) (H:Hp):Prop:=∃ a od kvs,N a∧H a=some (.jt od (.dK kvs))∧R (upd H a (.dK kvs))
def Jc (N:Addr→Prop) (D:Ends):Ends:={ nx:=fun σ H=>EB N (D.nx σ) H,rt:=fun v H=>EB N (D.rt v) H,bk:=fun σ H=>EB N (D.bk σ) H,ct:=fun σ H=>EB N (D.ct σ) H }
end
end L2
set_option Elab.async false
set_option linter.all false
set_option maxRecDepth 100000
set_option maxHeartbeats 4000000
namespace L2
open PySem PySem.Spec PyProof.Rows
section
variable {X:Cx}
theorem qK (K:PySem.W.Frag) (hk:X.K=K:=by rfl):cX X (.builtin "isinstance") (fun xs H Q=>∃ a C n b,xs=[.ref a,.ty n]∧H a=some (.ext (uz a C))∧nO K C∧PySem.W.kitOne K (.ref C) (.type n)=some b∧Q (.bl b) H):=by
  subst hk
  rintro pins s σ H xs us Q I r ⟨a,C,D,b,rfl,hx,F,e,q⟩
  obtain ⟨u,w',rfl,ru,rw'⟩:=vals2 r
  cases (show w'=Value.type D from rw')
  cases (show u=Value.ref a from ru)
  exact PySem.W.kia_one (zm F) I.lq (I.bC a _ hx).1 e (fun z=>nomatch z) fun tk=>⟨.bl b,H,I.tok tk,rfl,q⟩
theorem C6 (hu:X.A.units + 64 < cLine):jE X (compareOp .NotIn) (fun x y H Q=>∃ (a:Addr) (kvs:List (Key×V)) (k:Int),y=.ref a∧x=.int k∧H a=some (.dK kvs)∧Q (.bl (!(nB kvs (.inl k)).isSome)) H):=by
  intro pins s σ H x y v u Q I rx ry h
  obtain ⟨a,kvs,k,rfl,rfl,e,q⟩:=h
  cases ry
  obtain ⟨z,hd,vs,rel,dd⟩:=qE I.bC (.inl e)
  refine wpAny_notIn_of (sy (k:=.inl k) rx) hd dd.mapOf ?_
  rw [← (rel.val (.inl k)).mL]
  exact ⟨.bl _,H,I.tok _,rfl,q⟩
theorem ni:bootBuiltins "ValueError"=some (.type "ValueError"):=by decide +kernel
end
end L2
set_option Elab.async false
set_option linter.all false
set_option maxRecDepth 100000
set_option maxHeartbeats 4000000
namespace L2
open PySem PySem.Spec PyProof.Rows
section
variable {X:Cx}
end
end L2
set_option Elab.async false
set_option linter.all false
set_option maxRecDepth 100000
set_option maxHeartbeats 4000000
namespace L2
open PySem PySem.Spec PyProof.Rows PySem.W
section
variable {prog:Program} {w:World} {A:Around} {E:Value→Shared→Prop} {s:Shared}
end
section
variable {X:Cx} {es:List Expr} {pos:Pos} {e:Expr}
structure abM (K:PySem.W.Frag) (C D:Addr):Prop where
  nf:notFirst K C (.ref D)=true
  ne:findIn K (.ref C) "__ne__"=some (some (.builtin "object.__ne__"))
  ob:subIn K (.ref C) (.type "object")=some true
end
end L2
set_option Elab.async false
set_option linter.all false
set_option maxRecDepth 100000
set_option maxHeartbeats 4000000
namespace L2
open PySem PySem.Spec PyProof.Rows
end L2
set_option Elab.async false
set_option linter.all false
set_option maxRecDepth 100000
set_option maxHeartbeats 4000000
namespace L2
open PySem PySem.Spec PyProof.Rows
theorem C7 {X:Cx}:cX X (.type "str") (fun xs H Q=>(∃ i,xs=[.int i]∧i.natAbs.log2 < 1920∧Q (.str (toString i)) H)∨(∃ t,xs=[.str t]∧Q (.str t) H)):=by
  intro pins s σ H xs us Q I r h
  rcases h with ⟨i,rfl,h1,q⟩ | ⟨t,rfl,q⟩
  · exact CT pins s σ H _ us Q I r (.inl ⟨i,rfl,h1,q⟩)
  · obtain ⟨u,rfl,ru⟩:=vals1 r
    obtain ⟨tk,rfl⟩:=ru
    exact PySem.P.str_of_str ⟨.str t,H,I,⟨tk,rfl⟩,q⟩
end L2
set_option Elab.async false
set_option linter.all false
set_option maxRecDepth 100000
set_option maxHeartbeats 4000000
namespace L2
open PySem PySem.Spec PyProof.Rows PySem.W PySem.AutoSeq1 PySem.MeetsSeq
section
variable {P:Program} {w:World} {A:Around} {E:Value→Shared→Prop} {s:Shared} {K:PySem.W.Frag} {x C:Addr} {ox:Obj} {od:Option Obj}
end
inductive Na (K:PySem.W.Frag) (H:Hp):V→Prop where
  | cG:Na K H .cG
  | int (i:Int):Na K H (.int i)
  | str (t:Str):Na K H (.str t)
  | tup {a:Addr} {xs:List V} (h:j0 K H a xs):Na K H (.ref a)
  | lst {a:Addr} {xs:List V} (h:cz K H a xs):Na K H (.ref a)
structure R1 (K:PySem.W.Frag) (C:Addr):Prop where
  t:subIn K (.ref C) (.type "tuple")=some false
  l:subIn K (.ref C) (.type "list")=some false
  i:subIn K (.ref C) (.type "int")=some false
  s:subIn K (.ref C) (.type "str")=some false
  n:subIn K (.ref C) (.type "NoneType")=some false
section
variable {X:Cx} {pins:List (Addr×Obj)} {σ:St} {H:Hp} {s:Shared} {A:Around} {E:Value→Shared→Prop} {x C dx:Addr} {fs:List (Str×V)}
end
section
variable {X:Cx}
end
end L2
set_option Elab.async false
set_option linter.all false
set_option maxRecDepth 100000
set_option maxHeartbeats 4000000
namespace L2
open PySem PySem.Spec PyProof.Rows
section
variable {X:Cx}
end
section
variable {K:PySem.W.Frag} {g:TG} {tt:TT} {te:TE} {D:Addr} {Q:Hp→Prop} {σ:St} {H:Hp} {x:Str} {tb:TS} {DD:Ends}
end
theorem aT.quiet {P:Program} {w:World} {K:PySem.W.Frag} {mg:Str→Option Value} {base:Heap} {k:Nat} {f:Addr} {fd:FuncData} {ps:List Str} {sp IM:Sp} (F:aT P w K mg base (pF P w) k f fd ps sp)
    (h:∀ vs H Q E,IM vs H Q E→sp vs H Q fun _ _ _=>False):aT P w K mg base eK k f fd ps IM:=
  ⟨fun vs H Q E q=>F.len vs H Q _ (h _ _ _ _ q),fun A outer s H args us vs Q E hr he hb hv hs=>codeAny_mono (F.run A outer s H args us vs Q _ hr he hb hv (h _ _ _ _ hs)) fun r s' z=>by
    cases r with
    | ok fl=>cases fl <;> exact z
    | error e=>
      obtain ⟨_,_,_,_,_,_,_,_,_,_,_,_,_,_,q⟩:=z
      exact q⟩
theorem oR.quiet {P:Program} {w:World} {K:PySem.W.Frag} {mg:Str→Option Value} {base:Heap} {x:Str} {k:Nat} {ps:List Str} {sp IM:Sp} (C:oR P w K mg base x k ps sp)
    (h:∀ vs H Q E,IM vs H Q E→sp vs H Q fun _ _ _=>False):Callee P w K mg base x k ps IM:=by
  obtain ⟨f,fd,F,b,kp,m⟩:=C.ex
  exact ⟨f,fd,F.quiet h,b,kp,m⟩
end L2
set_option Elab.async false
set_option linter.all false
set_option maxRecDepth 100000
set_option maxHeartbeats 4000000
namespace L2
open PySem PySem.Spec PyProof.Rows
structure FnAt (P:Program) (w:World) (K:PySem.W.Frag) (mg:Str→Option Value) (base:Heap) (k:Nat) (ps:List Str) (sp:Sp) (f:Addr):Prop where
  ex:∃ fd:FuncData,aT P w K mg base eK k f fd ps sp∧Binds K fd ps []∧PySem.W.keepIn K (.ref f)=true
section
variable {X:Cx}
end
section
variable {X:Cx}
end
section
variable {K:PySem.W.Frag} {g:TG} {tb:TS} {DD:Ends} {σ:St} {H:Hp} {x:Str}
end
section
variable {prog:Program} {w:World} {A:Around} {E:Value→Shared→Prop} {s:Shared}
end
section
variable {X:Cx} {es:List Expr} {pos:Pos}
end
section
variable {K:PySem.W.Frag} {ta:TA} {g:TG} {tb:TS} {DD:Ends} {σ:St} {H:Hp} {a b D:Addr} {xs ys:List V} {tt:TT} {te:TE} {Q:Hp→Prop} {n:Nat}
end
section
variable {K:PySem.W.Frag} {g:TG} {tb:TS} {DD:Ends} {σ:St} {H:Hp} {x:Str}
end
end L2
set_option Elab.async false
set_option linter.all false
set_option maxRecDepth 100000
set_option maxHeartbeats 4000000
namespace L2
open PySem PySem.Spec PyProof PyProof.Rows
def sU (CX:uy) (X:Cx) (E:XK) (σ:St):Prop:=∀ (pins:List (Addr×Obj)) (H:Hp) (s:Shared) (e:Value) (s':Shared),Inv X pins σ H s→CX X.stack H s E e s'→X.xe e s'
def Lc (K:PySem.W.Frag) (C:Addr) (D:Ends) (σ:St) (H:Hp):List (Addr×Nat×TS)→Prop
  | []=>False
  | (CF,i,ts)::r=>(PySem.W.exmOne K (.ref C) (.ref CF)=some true∧∀ a,L2.new K H a→ts (D.gone i) (σ.set i (some (.ref a))) (upd H a (.ext (uz a C))))∨(PySem.W.exmOne K (.ref C) (.ref CF)=some false∧Lc K C D σ H r)
inductive zp (X:Cx):List ExceptHandler→List (Addr×Nat×TS)→Prop
  | nil:zp X [] []
  | cons {x n:Str} {CF:Addr} {i:Nat} {np hp:Pos} {EC:List Stmt} {b0:Stmt} {ts:TS} {r:List ExceptHandler} {rs:List (Addr×Nat×TS)} (hi:X.N[i]?=some n) (hl:X.env.kindOf n=some .local) (hg:Gl X x) (hm:X.mg x=some (.ref CF))
      (hs:∀ (a:Addr) (xe:Value→Shared→Prop) (pn:List (Addr×Obj)),JB (X.sR a xe pn) (b0::EC) ts) (hr:zp X r rs) (qB:(x==("__debug__":Str))=false:=by decide):zp X (.ExceptHandler (some (.Name x np)) (some n) (b0::EC) hp::r) ((CF,i,ts)::rs)
section
variable {X:Cx}
def sV (K:PySem.W.Frag) (hs:List (Addr×Nat×TS)) (tb:St→XK→TS):TS:=fun D σ H=>
  tb σ (fun cls _ H'=>∃ C,cls=.ref C∧nO K C∧Lc K C D σ H' hs) D σ H
theorem AQ {pins:List (Addr×Obj)} {σ:St} {H1 H':Hp} {s1:Shared} {h':Heap} {B:Heap} {a C:Addr} {a0:Value} {D:Ends} (hN:X.N.Nodup) (rF:X.stack=X.env::X.outer∧X.env.frame=some X.env.locals) (hex:X.ex=[])
    {g':_} {d':_} {t':_} {GP:_} (J:Inv X pins σ H1 s1) (na:s1.heap.get? a=none) (bC:mY X.prog X.w H' B) (F:nO X.K C)
    (mk:∀ {h6:Heap},Heap.FlyingW B (X.env::X.outer) a (.ref C) a0 h6→h'.UpToSlots h6→Inv X pins σ H' ⟨h6,g',d',t',GP⟩):
    ∀ {Cq:List ExceptHandler} {hs:List (Addr×Nat×TS)},zp X Cq hs→Lc X.K C D σ H' hs→∀ {h5:Heap},Heap.FlyingW B (X.env::X.outer) a (.ref C) a0 h5→h'.UpToSlots h5→wpAny (model X.prog X.w) X.A (handleBy (.ref a) X.env Cq) (SP X pins D) X.xe ⟨h5,g',d',t',GP⟩:=by
  intro Cq hs hh
  induction hh with
  | nil=>intro k;exact k.elim
  | @cons x n CF i np hp EC b0 ts r rs hi hl hg hm hsu hr qB ih=>
    intro k h5 fl5 up5
    have J5:=mk fl5 up5
    have xa:∀ {h6:Heap},Heap.FlyingW B (X.env::X.outer) a (.ref C) a0 h6→uz a C h6:=fun fl6=>fl6.there
    refine wpAny_handleBy_cons (codeAny_handlers_test (Calls.Name_function_global J5.ok.kind hg (Calls.loadGlobal_global (by rw [J5.ok.glob];exact J5.mod.glob.keeps J5.bk) hm ?_) qB)) (by intro q;cases q)
    rcases k with ⟨hx,k⟩ | ⟨hx,k⟩
    · refine (PySem.W.exm_one J5.lq (xa fl5).ty hx).at ?_
      show codeAny _ _ _ _ _
      refine codeAny_handlers_suite_as ?_
      refine lands_againW fl5 fun h6 fl6 up6=>?_
      have J6:=mk fl6 (up5.trans up6)
      have ex:∀ b o,s1.heap.get? b=some o→b≠a:=fun b o e z=>by rw [z,na] at e;cases e
      have aL:X.env.locals≠a:=by
        obtain ⟨m,⟨o,_,_,e,_⟩,_⟩:=J.loc
        exact ex _ o e
      have aC:∀ y c,X.env.cells.lookup y=some c→c≠a:=fun y c e=>by
        obtain ⟨v,o,q,_⟩:=J.cell y c e
        exact ex c o q
      have hH:H' a=none:=by
        cases q:H' a with
        | none=>rfl
        | some u=>
          obtain ⟨o,e⟩:=K6 (bC a u q)
          have:=fl5.2.1
          rw [this] at e
          cases e
      refine uU J6 hN hi (.inl hl) (v:=.ref a) rfl (fun s7 J7 sm=>?_) (.inr hl)
      have x7:uz a C s7.heap:=by
        obtain ⟨b,sb,hb⟩:=sm
        obtain ⟨o,e,c⟩:=xa fl6
        refine ⟨o,(sb.2 a ?_).trans e,c⟩
        rcases hb with rfl | hb
        · exact aL.symm
        · exact (aC _ _ hb).symm
      have J9:=J7.M3 (a:=a) (o:=.ext (uz a C)) hH (by
        cases q:X.s₀.heap.get? a with
        | none=>rfl
        | some o=>
          obtain ⟨o',e⟩:=J.base.there a o q (by rw [hex];simp)
          exact absurd rfl (ex a o' e)) aL.symm aC (fun p hp=>ex p.1 p.2 (J.pin p hp).1) ⟨x7,(let ⟨o,e,_⟩:=x7;⟨o,e⟩),fun h1 h2 ⟨o,e,c⟩ k=>⟨o,k o e,c⟩⟩
      have nw:=k a ⟨hH,J9.kg ai⟩
      refine wpAny_mono ((hsu a _ (X.pn++pins)).h [] s7 _ _ (D.gone i) (J9.sR (a:=a)) nw) (fun f s8 q=>?_) fun _ _ z=>z
      cases f with
      | next=>
        obtain ⟨σ',H2,JA,q⟩:=q
        exact name_goes (JA.uncaught J.ok) hN hi hl fun s' JB=>⟨_,_,JB,q⟩
      | brk=>
        obtain ⟨σ',H2,JA,q⟩:=q
        exact name_goes (JA.uncaught J.ok) hN hi hl fun s' JB=>⟨_,_,JB,q⟩
      | cont=>
        obtain ⟨σ',H2,JA,q⟩:=q
        exact name_goes (JA.uncaught J.ok) hN hi hl fun s' JB=>⟨_,_,JB,q⟩
      | ret u=>
        obtain ⟨v,σ',H2,JA,r,q⟩:=q
        exact name_goes (JA.uncaught J.ok) hN hi hl fun s' JB=>⟨_,_,_,JB,r,q⟩
    · refine (PySem.W.exm_one J5.lq (xa fl5).ty hx).at ?_
      show wpAny _ _ _ _ _ _
      exact ih k fl5 up5
theorem Nb {pos:Pos} {body:List Stmt} {h0:ExceptHandler} {Cq:List ExceptHandler} {hs:List (Addr×Nat×TS)} {tb:St→XK→TS} (hN:X.N.Nodup) (rF:X.stack=X.env::X.outer∧X.env.frame=some X.env.locals) (hex:X.ex=[])
    (hb:∀ (σ:St) (E1:XK) (xe:Value→Shared→Prop) (pn:List (Addr×Obj)),sU (pF X.prog X.w) (X.vE xe pn) E1 σ→JB (X.vE xe pn) body (tb σ E1)) (hh:zp X (h0::Cq) hs):
    JS X (.Try body (h0::Cq) [] [] pos) (sV X.K hs tb):=⟨by
  intro pins s σ H D I h
  refine wpAny_Try_except (wpAny_mono ((hb σ _ (fun e s₁=>wpAny (model X.prog X.w) X.A (noteFrame e X.env) (fun _ s₂=>wpAny (model X.prog X.w) X.A (setFlight e none) (fun _ s₃=>wpAny (model X.prog X.w) X.A (handleBy e X.env (h0::Cq)) (SP X pins D) X.xe s₃) X.xe s₂) X.xe s₁) (X.pn++pins) ?_).h [] s σ H D (I.vE (pins:=pins)) h) (fun f s1 q=>?_) fun _ _ z=>z)
  · rintro Ex H1 s1 e ⟨h',g',d',t',GP⟩ J ⟨a,cls,a0,B,H',rfl,os,bare,fl,un,kb,tb,bC,na,C,rfl,F,k⟩
    have J:=J.oQ
    have fr:X.A.frames=some (X.env::X.outer):=by rw [← rF.1];exact J.ok.frames
    have fl:Heap.FlyingW B (X.env::X.outer) a (.ref C) a0 h':=by rw [← rF.1];exact fl
    refine wpAny_looks_onW fr rF.2 fl fun h4 held4 up4=>wpAny_landsW held4 fun h5 fl5 up5=>?_
    have R3:=up4.trans up5
    have mk:∀ {h6:Heap},Heap.FlyingW B (X.env::X.outer) a (.ref C) a0 h6→h'.UpToSlots h6→Inv X pins σ H' ⟨h6,g',d',t',GP⟩:=fun {h6} fl6 up6=>
      J.IE (s':=⟨h6,g',d',t',GP⟩) (ch:=[]) os (M4 J.stack J.rD un kb tb fl6.1 up6) (bC.kept fl6.1) bare (fun b z=>absurd z (by simp))
    exact AQ hN rF hex J na bC F mk hh k fl5 R3
  · cases f with
    | next=>
      obtain ⟨σ',H',J,q⟩:=q
      exact wpAny_execs_nil ⟨σ',H',J.oQ,q⟩
    | brk=>
      obtain ⟨σ',H',J,q⟩:=q
      exact ⟨σ',H',J.oQ,q⟩
    | cont=>
      obtain ⟨σ',H',J,q⟩:=q
      exact ⟨σ',H',J.oQ,q⟩
    | ret u=>
      obtain ⟨v,σ',H',J,r,q⟩:=q
      exact ⟨v,σ',H',J.oQ,r,q⟩⟩
def Ld (σ0:St) (te:TE):TE:=fun σ H Q=>σ=σ0∧te σ H Q
theorem Le {CX:uy} {k:Nat} {f:Addr} {fd:FuncData} {ps:List Str} {sp:Sp} {iL:List V} {ds:List Value} {E:XK} {pins:List (Addr×Obj)} {σ:St} {H:Hp} {s:Shared} {Q:VK} {us:List Value} {vs:List V} (F:aT X.prog X.w X.K X.mg X.base CX k f fd ps sp)
    (hr:dJ k X.A) (hb:Binds X.K fd ps ds) (hd:Vals iL ds) (hx:sU CX X E σ) (I:Inv X pins σ H s) (r:Vals vs us) (h:sp (vs++iL) H Q E):wpAny (model X.prog X.w) X.A (call (.ref f) us) (EP X pins σ Q) X.xe s:=by
  have r2:=r.append hd
  have hl:(us++ds).length=ps.length:=r2.length ▸ F.len _ _ _ _ h
  refine wpAny_call (codeAny_mono (F.run _ _ s H ⟨us,[]⟩ _ _ Q E hr I.Ko (hb s us I.lq hl) r2 h) fun r s' hq=>?_)
  match r,hq with
  | .error e,hq=>exact hx pins H s e s' I hq
  | .ok (.ret u),hq=>exact I.after hq
theorem HR {E:XK} {sp:Sp} {k:Nat} {ps:List Str} {σ0:St} {e:Expr} {es:List Expr} {t:TA} {p pos:Pos} {y:Str} (C:oR X.prog X.w X.K X.mg X.base y k ps sp) (hx:sU (pF X.prog X.w) X E σ0) (hr:dJ k X.A) (hg:Gl X y) (ha:JA X (e::es) t)
    (qB:(y==("__debug__":Str))=false:=by decide) (he:starEach (e::es) X.env=(false,eval e X.env)::starEach es X.env:=by rfl) (qC:(backTo pos (starEach es X.env)).any (·.1)=false:=by rfl):
    JE X (.Call (.Name y p) (e::es) [] pos) (Ld σ0 (jh sp [] E t)):=⟨by
  obtain ⟨f,fd,F,b,kp,m⟩:=C.ex
  rintro pins s σ H Q I ⟨rfl,h⟩
  refine wpAny_Call_Name_kw (jZ I hg m ?_ qB)
  refine PySem.W.callWith_K (h₀:=X.base) I.ok.mod.Gd kp (bV (ha.h pos pins s σ H _ I h) fun us s1 ⟨vs,H1,I1,r,q⟩=>⟨I1.lq,?_⟩) he qC
  exact Le F hr b .nil hx I1 r q⟩
end
end L2
set_option Elab.async false
set_option linter.all false
set_option maxRecDepth 100000
set_option maxHeartbeats 4000000
namespace L2
open PySem PySem.Spec PyProof.Rows
def Pz (d:Addr) (od:Obj) (kvs:List (Key×V)):It:=
  ⟨fun i H=>H d=some (.jt od (.dK kvs))∧i < kvs.length,fun i H x H'=>H'=H∧∃ p,kvs[i]?=some p∧x=p.2,fun i H=>H d=some (.jt od (.dK kvs))∧kvs.length≤i⟩
theorem Lf {kvs:List (Key×V)} {vs:List (Key×Value)} (r:KV kvs vs):∀ {i:Nat} {p:Key×V},kvs[i]?=some p→∃ v,vs[i]?=some (p.1,v)∧RelV p.2 v:=by
  unfold KV at r
  induction r with
  | nil=>intro i p h;simp at h
  | @cons a b as bs h t ih=>
    intro i p e
    cases i with
    | zero=>
      simp only [List.getElem?_cons_zero,Option.some.injEq] at e ⊢
      subst e
      exact ⟨b.2,by rw [h.1],h.2⟩
    | succ i=>
      simp only [List.getElem?_cons_succ] at e ⊢
      exact ih e
theorem C8 {P:Program} {w:World} {K:PySem.W.Frag} {tg:Expr} {d it:Addr} {od:Obj} {kvs:List (Key×V)} {es:Array DictEntry} {ep:Nat} (pX:od.data=.dict es ep):Turn P w K tg (Pz d od kvs) [it] it (fun i h=>h.IsValIter it d i kvs.length ep) where
  mem:=by simp
  obj:=fun i h st b hb=>by
    have e:b=it:=by simpa using hb
    subst e
    obtain ⟨o,e,c,d⟩:=st
    exact ⟨o,e,fun v z=>by rw [d] at z;cases z⟩
  keep:=fun i h h' st k=>by
    obtain ⟨o,e,c,d⟩:=st
    exact ⟨o,k it (by simp) o e,c,d⟩
  item:=by
    intro X hP hw hK hc i pins s σ H E I hf st hg
    subst hP hw hK
    obtain ⟨e,lt⟩:=hg
    obtain ⟨vs,rel,da⟩:=wB pX (I.bC d _ e)
    obtain ⟨p,ep⟩:∃ p,kvs[i]?=some p:=⟨_,List.getElem?_eq_getElem lt⟩
    obtain ⟨v,ev,rv⟩:=Lf rel ep
    obtain ⟨f0,f1,f2,f3,f4,f5⟩:=hf it (by simp)
    refine wpAny_pyNext_values_item (kvs:=vs) (by rw [← rel.length];exact st) da ev fun h' st' sb=>?_
    have I1:Inv X pins σ H { s with heap:=h' }:=I.turned (t':=s.toks) (fun b o hb e=>(sb.2 b hb).trans e) f0 f1 f3 f4 f5
    rw [← rel.length] at st'
    obtain ⟨o,e,c,d⟩:=id st'
    exact ⟨v,rfl,yL (s:={ s with heap:=h' }) e c d (by decide) ⟨p.2,H,I1,rv,⟨rfl,p,ep,rfl⟩,st',fun b hb=>(hf b hb).1⟩⟩
  done:=by
    intro X hP hw hK hc i pins s σ H E I hf st hg
    subst hP hw hK
    obtain ⟨e,le⟩:=hg
    obtain ⟨vs,rel,da⟩:=wB pX (I.bC d _ e)
    obtain ⟨f0,f1,f2,f3,f4,f5⟩:=hf it (by simp)
    exact wpAny_pyNext_values_end (kvs:=vs) (I.ok.hd hc) (by rw [← rel.length];exact st) da (List.getElem?_eq_none (by rw [← rel.length];exact le)) fun h' eb=>⟨rfl,I.turned (t':=s.toks) (fun b o hb e=>eb b o hb e) f0 f1 f3 f4 f5⟩
  self:=fun _ _ _ _ _ st h=>wpAny_pyIter_valiter st h
section
variable {X:Cx}
def Jd (N:Addr→Prop) (td:TE):TI:=fun σ H R=>td σ H fun x H1=>∃ a kvs,x=.ref a∧H1 a=some (.dK kvs)∧(N a→∀ od,R (Pz a od kvs) (upd H1 a (.jt od (.dK kvs))))
theorem Nc {tg o:Expr} {td:TE} {apos cY:Pos} (ho:JE X o td) (lH:attributeBase o "values" X.env (eval o X.env)=eval o X.env:=by rfl) (lI:(apos.endLine==cY.line)=true:=by rfl):
    JI X tg (.Call (.Attribute o "values" apos) [] [] cY) (Jd (fun a=>∀ o u,X.H₀ a≠some (.jt o u)) td):=⟨by
  intro pins s σ H R I h
  refine wpAny_Call_method0_late lH lI (bV (ho.h pins s σ H _ I h) fun v s1 ⟨x,H1,I1,r1,q1⟩=>?_)
  obtain ⟨a,kvs,rfl,e,q⟩:=q1
  cases r1
  obtain ⟨t1,t2,_⟩:=D4 I1 (.inl ⟨kvs,.inl e⟩)
  refine ⟨"dict","dict.values",PySem.F.plainAttrs_dict,PySem.F.slot_dict_values,PySem.F.type_dict_values,t1,t2,Calls.callWith_builtin rfl (PySem.evalArgs_none ?_)⟩
  obtain ⟨z,wC,vs,rel,dd⟩:=yY I1.bC e
  refine call_meetsIn PySem.F.slot_dict_values dd.typeIs PySem.F.entry_dict_values (PySem.F.args_dict_values_1 _) (meets_dict_values (bq X.prog X.w) a wC) ⟨⟨vs,dd⟩,?_⟩
  obtain ⟨ep,da⟩:=dd.dictAt
  obtain ⟨od,es,god,r1,pX,r⟩:=id da
  have da':(s1.heap.push { cls:=.type "dict_values",data:=.fields #[.ref a] }).DictAt (bq X.prog X.w) a vs ep:=⟨od,es,Heap.get?_push_of_some _ god,r1,pX,r⟩
  refine wpAny_pyIter_values (s:={ s1 with heap:=s1.heap.push { cls:=.type "dict_values",data:=.fields #[.ref a] } }) ⟨_,Heap.get?_push_size _ rfl,rfl,rfl⟩ da' ?_
  have I1':Inv X pins σ H1 { s1 with heap:=s1.heap.push { cls:=.type "dict_values",data:=.fields #[.ref a] } }:=I1.kept (t':=s1.toks) fun b o e=>Heap.get?_push_of_some _ e
  have If:=I1'.freeze e (Heap.get?_push_of_some _ god)
  refine ⟨_,[_],_,_,_,rfl,If.kept (t':=s1.toks) fun b o e=>Heap.get?_push_of_some _ e,C8 pX,⟨_,Heap.get?_push_size _ rfl,rfl,by rw [rel.length];rfl⟩,fun b hb=>?_,q (I1.AH e) od⟩
  have le:(s1.heap.push { cls:=.type "dict_values",data:=.fields #[.ref a] }).objs.size≤b:=by
    rw [List.mem_singleton.mp hb]
    exact Nat.le_refl _
  exact If.Ae le (If.bC.fresh le)⟩
theorem Nf {st:Stmt} {t:(Addr→Prop)→TS} (h:JS X st (t fun a=>∀ o u,X.H₀ a≠some (.jt o u))):JS X st (fun D σ H=>∀ N,t N (Jc N D) σ H):=⟨by
  intro pins s σ H D I q
  refine bV (h.h pins s σ H (Jc (fun a=>∀ o u,X.H₀ a≠some (.jt o u)) D) I (q _)) fun f s' q=>?_
  cases f with
  | next=>
    obtain ⟨σ',H',I',a,od,kvs,n,e,q⟩:=q
    exact ⟨σ',_,I'.Ep e n,q⟩
  | ret v=>
    obtain ⟨σ',v',H',I',r,a,od,kvs,n,e,q⟩:=q
    exact ⟨σ',v',_,I'.Ep e n,r,q⟩
  | brk=>
    obtain ⟨σ',H',I',a,od,kvs,n,e,q⟩:=q
    exact ⟨σ',_,I'.Ep e n,q⟩
  | cont=>
    obtain ⟨σ',H',I',a,od,kvs,n,e,q⟩:=q
    exact ⟨σ',_,I'.Ep e n,q⟩⟩
def AR (K:PySem.W.Frag) (td:TE) (src:List (Option Nat)) (g:TG) (tt:TT) (tk tv:TE) (i:Nat):TS:=fun D σ H=>∀ N:Addr→Prop,td σ H fun x H1=>∃ a kvs,x=.ref a∧H1 a=some (.dK kvs)∧(N a→∀ od L,L2.new K (upd H1 a (.jt od (.dK kvs))) L→
  pY (Pz a od kvs) g tt tk tv L (fun H'=>EB N (D.nx (σ.set i (some (.ref L)))) H') (pick σ src) (upd (upd H1 a (.jt od (.dK kvs))) L (.dK [])))
theorem R4 {sc:Scope} {N:List Str} {src:List (Option Nat)} {tg o kx vx:Expr} {ifs:List Expr} {td:TE} {g:TG} {tt:TT} {tk tv:TE} {pos apos cY:Pos} {i:Nat} {y:Str} {py ze:Pos} (hN:X.N.Nodup) (hy:X.N[i]?=some y) (hx:Loc X.env.scope y) (c:m8 X sc N src) (hc:X.calm=true) (ho:JE X o td)
    (hg:∀ C s H fp,JG (X.comp N sc C s H fp) tg g) (ht:∀ C s H fp,JF (X.comp N sc C s H fp) ifs tt) (hk:∀ C s H fp,JE (X.comp N sc C s H fp) kx tk) (hv:∀ C s H fp,JE (X.comp N sc C s H fp) vx tv)
    (MT:swapsWith (.DictComp kx vx [⟨tg,.Call (.Attribute o "values" apos) [] [] cY,ifs,0⟩] sc pos) (some (.Name y py)) ze.line X.env=pure true:=by rfl)
    (hf:X.fn y=true∨X.env.scope.names.lookup y=some .local:=by first | exact .inl rfl | exact .inr rfl | assumption)
    (hs:∀ x,foldedSetIterable (.Call (.Attribute o "values" apos) [] [] cY) X.env x=pure x:=by intro _;rfl)
    (lH:attributeBase o "values" X.env (eval o X.env)=eval o X.env:=by rfl) (lI:(apos.endLine==cY.line)=true:=by rfl):JS X (.Assign [.Name y py] (.DictComp kx vx [⟨tg,.Call (.Attribute o "values" apos) [] [] cY,ifs,0⟩] sc pos) ze) (AR X.K td src g tt tk tv i):=
  ⟨fun pins s σ H D I h=>(Nf (t:=fun N=>pI (Pn X.K (Jd N td) src g tt tk tv) (eN i)) (sdc hN hy hx c hc (Nc ho lH lI) hg ht hk hv MT hf hs)).h pins s σ H D I h⟩
theorem ED {a L:Addr} {od:Obj} {g:TG} {tt:TT} {tk tv:TE} {Q:Hp→Prop} {σ:St} {H:Hp} (e:H a=some (.jt od (.dK []))) (q:Q H):pY (Pz a od []) g tt tk tv L Q σ H:=
  ⟨fun i m acc σ' H'=>H'=H,⟨0,rfl⟩,fun i m acc σ' H' h=>.inl ⟨⟨by rw [h];exact e,Nat.zero_le _⟩,by rw [h];exact q⟩⟩
theorem jS {K:PySem.W.Frag} {tl:TE} {src:List (Option Nat)} {g:TG} {tt:TT} {tk tv:TE} {σ:St} {H:Hp} {Q:VK}:Pn K (yN K tl) src g tt tk tv σ H Q=tl σ H (fun x H1=>∃ a,x=.ref a∧(∃ xs,cz K H1 a xs)∧∀ D,L2.new K H1 D→pY (Cd K a) g tt tk tv D (fun H'=>Q (.ref D) H') (pick σ src) (upd H1 D (.dK []))):=rfl
theorem EE {K:PySem.W.Frag} {a L:Addr} {g:TG} {tt:TT} {tk tv:TE} {Q:Hp→Prop} {σ:St} {H:Hp} (e:cz K H a []) (q:Q H):pY (Cd K a) g tt tk tv L Q σ H:=
  ⟨fun i m acc σ' H'=>H'=H,⟨0,rfl⟩,fun i m acc σ' H' h=>.inl ⟨⟨[],by rw [h];exact e,Nat.zero_le _⟩,by rw [h];exact q⟩⟩
end
def PB (K:PySem.W.Frag) (a:Addr) (n:Nat):It:=
  ⟨fun i H=>∃ xs x,cz K H a xs∧i < n∧xs[n - 1 - i]?=some x,fun i H x H'=>H'=H∧∀ xs,cz K H a xs→xs[n - 1 - i]?=some x,fun i _=>i=n⟩
theorem EF {P:Program} {w:World} {K:PySem.W.Frag} {tg:Expr} (a it:Addr) (n:Nat):Turn P w K tg (PB K a n) [it] it (fun i h=>h.IsRevIter it a ((n:Int) - 1 - i)) where
  mem:=by simp
  obj:=fun i h st b hb=>by
    have e:b=it:=by simpa using hb
    subst e
    obtain ⟨o,e,c,d⟩:=st
    exact ⟨o,e,fun v z=>by rw [d] at z;cases z⟩
  keep:=fun i h h' st k=>st.at fun o e=>k it (by simp) o e
  item:=by
    intro X hP hw hK hc i pins s σ H E I hf st hg
    subst hP hw hK
    obtain ⟨xs,x,hq,lt,hx⟩:=hg
    obtain ⟨aY,rv,p,hz⟩:=I.list hq
    obtain ⟨u,hu,ru⟩:=rv.get hx
    obtain ⟨f0,f1,f2,f3,f4,f5⟩:=hf it (by simp)
    have e1:(n:Int) - 1 - i=((n - 1 - i:Nat):Int):=by omega
    rw [e1] at st
    refine wpAny_pyNext_rev_item st p.isList (x:=u) (by simpa using hu) fun h' st' sb=>?_
    have e2:((n - 1 - i:Nat):Int) - 1=(n:Int) - 1 - ((i + 1:Nat):Int):=by omega
    rw [e2] at st'
    have I1:Inv X pins σ H { s with heap:=h' }:=I.turned (t':=s.toks) (fun b o hb e=>(sb.2 b hb).trans e) f0 f1 f3 f4 f5
    obtain ⟨o,e,c,d⟩:=id st'
    exact ⟨u,rfl,yL (s:={ s with heap:=h' }) e c d (by decide) ⟨x,H,I1,ru,⟨rfl,fun ys hy=>by rw [I.om hy hq];exact hx⟩,st',fun b hb=>(hf b hb).1⟩⟩
  done:=by
    intro X hP hw hK hc i pins s σ H E I hf st hg
    subst hP hw hK
    cases hg
    obtain ⟨f0,f1,f2,f3,f4,f5⟩:=hf it (by simp)
    have e1:(n:Int) - 1 - (n:Int)=-1:=by omega
    rw [e1] at st
    exact wpAny_pyNext_rev_end (I.ok.hd hc) st fun h' eb=>⟨rfl,I.turned (t':=s.toks) (fun b o hb e=>eb b o hb e) f0 f1 f3 f4 f5⟩
  self:=fun _ _ _ _ _ st h=>wpAny_pyIter_revIter st h
section
variable {X:Cx}
def Ng (K:PySem.W.Frag) (tl:TA):TI:=fun σ H R=>tl σ H fun vs H1=>∃ a xs,vs=[.ref a]∧cz K H1 a xs∧R (PB K a xs.length) H1
theorem R5 {K:PySem.W.Frag} {tg l:Expr} {t:TA} {p pos:Pos} (hg:Gl X "reversed") (hm:X.mg "reversed"=none) (ha:JA X [l] t) (hs:starEach [l] X.env=(false,eval l X.env)::starEach [] X.env:=by rfl) (hk:X.K=K:=by rfl):
    JI X tg (.Call (.Name "reversed" p) [l] [] pos) (Ng K t):=⟨by
  subst hk
  intro pins s σ H R I h
  refine Call_ (rR I hg hm zc (PyProof.Rows.callWith_type1 (bV (ha.h pos pins s σ H _ I h) fun us s1 ⟨vs,H1,I1,r1,q1⟩=>?_) hs rfl))
  obtain ⟨a,xs,rfl,hx,q⟩:=q1
  obtain ⟨u,rfl,ru⟩:=vals1 r1
  cases ru
  obtain ⟨aY,rv,ht,hz⟩:=I1.list hx
  refine call_reversed_list ht.isList ?_
  have st:(s1.heap.push (revObj a ((aY.toArray.size:Int) - 1))).IsRevIter s1.heap.objs.size a ((xs.length:Int) - 1 - ((0:Nat):Int)):=⟨_,Heap.get?_push_size _ rfl,rfl,by
    have e:(aY.toArray.size:Int) - 1=(xs.length:Int) - 1 - ((0:Nat):Int):=by
      rw [rv.length,List.size_toArray]
      omega
    rw [← e]
    rfl⟩
  refine wpAny_pyIter_revIter (s:={ s1 with heap:=s1.heap.push (revObj a ((aY.toArray.size:Int) - 1)) }) st ⟨_,[_],_,_,H1,rfl,I1.kept (t':=s1.toks) fun b o e=>Heap.get?_push_of_some _ e,EF a _ xs.length,st,fun b hb=>?_,q⟩
  have e:b=s1.heap.objs.size:=by simpa using hb
  subst e
  exact I1.Ae (Nat.le_refl _) (I1.bC.fresh (Nat.le_refl _))⟩
end
section
variable {K:PySem.W.Frag} {g:TG} {tb:TS} {D:Ends} {σ:St} {H:Hp} {a:Addr} {xs:List V}
theorem jT {ta:TA}:Ag (Ng K ta) g tb D σ H=ta σ H (fun vs H1=>∃ a xs,vs=[.ref a]∧cz K H1 a xs∧Loop (PB K a xs.length) g tb D σ H1):=rfl
theorem EG (Pv:Nat→St→Hp→Prop) (h0:Pv 0 σ H) (hl:∀ i σ H,i < xs.length→Pv i σ H→cz K H a xs)
    (hs:∀ i x σ H,i < xs.length→xs[xs.length - 1 - i]?=some x→Pv i σ H→g x σ H fun σ2 H2=>tb { D with nx:=Pv (i + 1),ct:=Pv (i + 1),bk:=D.nx } σ2 H2) (hd:∀ σ H,Pv xs.length σ H→D.nx σ H):Loop (PB K a xs.length) g tb D σ H:=by
  refine ⟨fun i m σ H=>i + m=xs.length∧Pv i σ H,⟨xs.length,by omega,h0⟩,fun i m σ H ⟨e,p⟩=>?_⟩
  by_cases z:i < xs.length
  · have q:=hl i σ H z p
    refine .inr ⟨⟨xs,_,q,z,List.getElem?_eq_getElem (by omega)⟩,Pv (i + 1),fun σ' H' p'=>⟨m - 1,by omega,by omega,p'⟩,?_⟩
    rintro x H' ⟨rfl,hx⟩
    exact hs i x σ H' z (hx xs q) p
  · have:i=xs.length:=by omega
    subst this
    exact .inl ⟨rfl,hd σ H p⟩
end
end L2
set_option Elab.async false
set_option linter.all false
set_option maxRecDepth 100000
set_option maxHeartbeats 4000000
namespace K84
open PySem L2
local macro_rules | `(tactic| walk_at "rd")=>`(tactic| simp only [yH,qw,yJ,pI,eN,yK,yI,uV,qy,oj,tC,Bm,IJ,Bo,rI,rU,qz,tB,qu,yF,qv,Cc,IF,yE,IG,lG,Gh,jg,ou,Cm,Ck,pU,List.getElem?_cons_zero,List.getElem?_cons_succ,List.set_cons_zero,List.set_cons_succ,Option.some.injEq,V.int.injEq,V.bl.injEq,V.ref.injEq,V.ty.injEq,V.str.injEq,List.cons.injEq,exists_eq_left',exists_eq_left,exists_and_left,and_true,true_and,and_assoc,LR,CI,sr,Kd,Ke,yO,HO.lst.injEq,HO.tup.injEq,iV,pN,pO,pP,pQ,pR,pS,ai,gR,gS,ve,vf,vg,vh,decide_eq_true_eq,L2.start,List.map_cons,List.map_nil,List.length_cons,List.length_nil,Nat.reduceAdd,Nat.reduceSub,List.replicate_succ,List.replicate_zero,List.cons_append,List.nil_append,List.append_nil,iM,iN,cZ,jJ,KO,vR,Ah,sizeLine_eq,Int.reduceLE,Int.reduceLT,Int.reducePow,Int.reduceToNat,Int.reduceAdd,Int.reduceSub,Int.reduceMul,Int.reduceNeg,Nat.reduceLeDiff,Nat.reducePow,Nat.reduceLT,Int.reduceEq,true_or,or_true,ite_true,ite_false,if_true,if_false,Bool.not_true,Bool.not_false,Bool.false_eq_true,decide_true,decide_false,zd,iO,iP,aN,IP,ji,qD,CM,sS,sH,qH,qI,eY,lA,AA,AB,lQ,je,rS,IS,j5,kq,yP,vV,iB,m6,nK,cZ,yW,j6,jP,mP,jO,jL,jM,jN,join_some,nH,GZ,C4,sV,Ld,Ends.gone,nN,LX,jh,CS,jQ,AI,qF,Cs,rJoin,nQ,ko,qG,AO,Au,lB,AR,jS,jT])
local macro_rules | `(tactic| walk_at "rn")=>`(tactic| simp only [yH,qw,yJ,pI,eN,yK,yI,uV,qy,oj,tC,Bm,IJ,Bo,rI,rU,qz,tB,qu,yF,qv,Cc,IF,yE,IG,lG,Gh,jg,ou,Cm,Ck,pU,List.getElem?_cons_zero,List.getElem?_cons_succ,List.set_cons_zero,List.set_cons_succ,Option.some.injEq,V.int.injEq,V.bl.injEq,V.ref.injEq,V.ty.injEq,V.str.injEq,List.cons.injEq,exists_eq_left',exists_eq_left,exists_and_left,and_true,true_and,and_assoc,LR,CI,sr,Kd,Ke,yO,HO.lst.injEq,HO.tup.injEq,iV,pN,pO,pP,pQ,pR,pS,ai,gR,gS,ve,vf,vg,vh,decide_eq_true_eq,L2.start,List.map_cons,List.map_nil,List.length_cons,List.length_nil,Nat.reduceAdd,Nat.reduceSub,List.replicate_succ,List.replicate_zero,List.cons_append,List.nil_append,List.append_nil,iM,iN,cZ,jJ,KO,vR,Ah,sizeLine_eq,Int.reduceLE,Int.reduceLT,Int.reducePow,Int.reduceToNat,Int.reduceAdd,Int.reduceSub,Int.reduceMul,Int.reduceNeg,Nat.reduceLeDiff,Nat.reducePow,Nat.reduceLT,Int.reduceEq,true_or,or_true,ite_true,ite_false,if_true,if_false,Bool.not_true,Bool.not_false,Bool.false_eq_true,decide_true,decide_false,zd,iO,iP,aN,IP,ji,qD,CM,sS,sH,qH,qI,lA,AA,AB,lQ,je,rS,IS,j5,kq,yP,vV,iB,m6,nK,cZ,yW,j6,jP,mP,jO,jL,jM,jN,join_some,nH,GZ,C4,sV,Ld,Ends.gone,nN,LX,jh,CS,jQ,AI,qF,Cs,rJoin,nQ,ko,qG,AO,Au,lB,AR,jS,jT])
local macro_rules | `(tactic| simp_arith [$hs,*])=>`(tactic| simp only [yH,qw,yJ,pI,eN,yK,yI,uV,qy,oj,tC,Bm,IJ,Bo,rI,rU,qz,tB,qu,yF,qv,Cc,IF,yE,IG,lG,Gh,jg,ou,Cm,Ck,pU,List.getElem?_cons_zero,List.getElem?_cons_succ,List.set_cons_zero,List.set_cons_succ,Option.some.injEq,V.int.injEq,V.bl.injEq,V.ref.injEq,V.ty.injEq,V.str.injEq,List.cons.injEq,exists_eq_left',exists_eq_left,exists_and_left,and_true,true_and,and_assoc,LR,CI,sr,Kd,Ke,yO,HO.lst.injEq,HO.tup.injEq,iV,pN,pO,pP,pQ,pR,pS,ai,gR,gS,ve,vf,vg,vh,decide_eq_true_eq,L2.start,List.map_cons,List.map_nil,List.length_cons,List.length_nil,Nat.reduceAdd,Nat.reduceSub,List.replicate_succ,List.replicate_zero,List.cons_append,List.nil_append,List.append_nil,iM,iN,cZ,jJ,KO,vR,Ah,sizeLine_eq,Int.reduceLE,Int.reduceLT,Int.reducePow,Int.reduceToNat,Int.reduceAdd,Int.reduceSub,Int.reduceMul,Int.reduceNeg,Nat.reduceLeDiff,Nat.reducePow,Nat.reduceLT,Int.reduceEq,true_or,or_true,ite_true,ite_false,if_true,if_false,Bool.not_true,Bool.not_false,Bool.false_eq_true,decide_true,decide_false,zd,iO,iP,aN,IP,ji,qD,CM,sS,sH,qH,qI,lA,AA,AB,lQ,je,rS,IS,j5,kq,yP,vV,iB,m6,nK,cZ,yW,j6,jP,mP,jO,jL,jM,jN,join_some,nH,GZ,C4,sV,Ld,Ends.gone,nN,LX,jh,CS,jQ,AI,qF,Cs,rJoin,nQ,ko,qG,AO,Au,lB,AR,jS,jT,$hs,*])
def top (i:Nat):Stmt:=PySem.Challenge.pw_notefall_k84_begun_on_a_bare_shelf.main.body.getD i (.Pass ⟨0,0,0,0⟩)
abbrev fY:Stmt:=top 17
abbrev gW:Stmt:=top 18
abbrev iQ:Stmt:=top 24
abbrev iR:Stmt:=top 25
abbrev eZ:Stmt:=top 31
abbrev fZ:Stmt:=top 36
abbrev dM:Stmt:=top 37
abbrev i0:Stmt:=top 39
abbrev gb:Stmt:=top 42
abbrev gc:Stmt:=top 43
abbrev gf:Stmt:=top 44
abbrev iS:Stmt:=top 45
abbrev dc:Stmt:=inClass (top 53) 0
abbrev cO:Stmt:=inClass (top 57) 0
abbrev gg:Stmt:=top 58
abbrev gi:Stmt:=top 61
abbrev gX:Stmt:=top 62
abbrev gj:Stmt:=top 63
abbrev iT:Stmt:=top 64
abbrev cQ:Stmt:=inClass (top 79) 0
abbrev d8:Stmt:=inClass (top 79) 4
abbrev d9:Stmt:=inClass (top 79) 20
abbrev fc:Stmt:=top 82
abbrev dg:Stmt:=top 83
abbrev dj:Stmt:=inClass (top 84) 0
abbrev bM:Stmt:=inClass (top 84) 2
abbrev bE:Stmt:=inClass (top 84) 3
abbrev cu:Stmt:=inClass (top 84) 4
abbrev mR:Stmt:=top 85
abbrev gY:Stmt:=top 88
abbrev cS:Stmt:=inClass (top 89) 0
abbrev ee:Stmt:=inClass (top 89) 1
abbrev fh:Stmt:=inClass (top 89) 2
abbrev fj:Stmt:=inClass (top 89) 3
abbrev cT:Stmt:=inClass (top 89) 4
abbrev cy:Stmt:=inClass (top 89) 5
abbrev fk:Stmt:=inClass (top 89) 6
abbrev dN:Stmt:=inClass (top 89) 7
abbrev dm:Stmt:=inClass (top 89) 8
abbrev gm:Stmt:=inClass (top 89) 9
abbrev dQ:Stmt:=top 91
abbrev fm:Stmt:=top 92
abbrev dD:Stmt:=top 93
abbrev gq:Stmt:=top 94
abbrev aR:Stmt:=top 95
abbrev gr:Stmt:=top 96
abbrev gZ:Stmt:=top 97
abbrev bN:Stmt:=top 98
abbrev dR:Stmt:=top 99
abbrev bP:Stmt:=top 100
abbrev ia:Stmt:=top 101
structure XR (K:PySem.W.Frag) (C cB:Addr):Prop where
  x:Exc K C
  i:nO K C
  m:PySem.W.exmOne K (.ref C) (.ref C)=some true
  k0:PySem.W.kitOne K (.ref C) (.ref cB)=some false
  k1:PySem.W.kitOne K (.ref C) (.type "ValueError")=some true
structure XB (K:PySem.W.Frag) (C cR cF:Addr):Prop where
  x:Exc K C
  i:nO K C
  m0:PySem.W.exmOne K (.ref C) (.ref cR)=some false
  m1:PySem.W.exmOne K (.ref C) (.ref cF)=some true
  k0:PySem.W.kitOne K (.ref C) (.ref C)=some true
  k1:PySem.W.kitOne K (.ref C) (.type "ValueError")=some true
structure B (K:PySem.W.Frag) (mg:Str→Option Value) (cF cR cB ak aq aP:Addr) (tE t1 t2 t3 t4 tP tQ:Tok):Prop where
  len:mg "len"=none
  isinstance:mg "isinstance"=none
  int:mg "int"=none
  bool:mg "bool"=none
  str:mg "str"=none
  tuple:mg "tuple"=none
  list:mg "list"=none
  range:mg "range"=none
  max:mg "max"=none
  min:mg "min"=none
  sorted:mg "sorted"=none
  dict:mg "dict"=none
  all:mg "all"=none
  zip:mg "zip"=none
  reversed:mg "reversed"=none
  ValueError:mg "ValueError"=none
  END:mg "END"=some (.int 1000000000000 tE)
  C9:mg "MOST_TRAY"=some (.int 64 t1)
  Dc:mg "LEAST_FAN"=some (.int 3 t2)
  EH:mg "MOST_FAN"=some (.int 16 t3)
  Dd:mg "MOST_ROWS"=some (.int 64 t4)
  AS:mg "MOST_PLACE"=some (.int 1000000 tP)
  zq:mg "FIRST_PLACE"=some (.int 2 tQ)
  Nh:mg "PLANS"=some (.ref aP)
  De:mg "FallError"=some (.ref cF)
  EI:mg "NoRule"=some (.ref cR)
  wH:mg "NotBare"=some (.ref cB)
  R6:mg "Leaf"=some (.ref ak)
  Inner:mg "Inner"=some (.ref aq)
  kL:PySem.W.kitOne K (.ref ak) (.ref ak)=some true
  kI:PySem.W.kitOne K (.ref ak) (.ref aq)=some false
  lC:PySem.W.findIn K (.ref ak) "__class__"=some (some (.builtin "object.__class__"))∧PySem.W.specialIn K (.builtin "object.__class__") "__get__"=some (some (.builtin "getset_descriptor.__get__"))∧PySem.W.takesIn K (.builtin "object.__class__")=some true∧PySem.W.mroIn K ak (.type "object")=some true
  kP:jc K aP=some [.str "fullest",.str "eldest"]
  xr:XR K cR cB
  xb:XB K cB cR cF
section
variable {K:PySem.W.Frag} {mg:Str→Option Value} {cF cR cB ak aq aP:Addr} {tE t1 t2 t3 t4 tP tQ:Tok}
theorem B.Lg (_:B K mg cF cR cB ak aq aP tE t1 t2 t3 t4 tP tQ):RelV (.int 1000000000000) (.int 1000000000000 tE):=⟨tE,rfl⟩
theorem B.wI (_:B K mg cF cR cB ak aq aP tE t1 t2 t3 t4 tP tQ):RelV (.int 64) (.int 64 t1):=⟨t1,rfl⟩
theorem B.wJ (_:B K mg cF cR cB ak aq aP tE t1 t2 t3 t4 tP tQ):RelV (.int 3) (.int 3 t2):=⟨t2,rfl⟩
theorem B.zu (_:B K mg cF cR cB ak aq aP tE t1 t2 t3 t4 tP tQ):RelV (.int 16) (.int 16 t3):=⟨t3,rfl⟩
theorem B.wK (_:B K mg cF cR cB ak aq aP tE t1 t2 t3 t4 tP tQ):RelV (.int 64) (.int 64 t4):=⟨t4,rfl⟩
theorem B.uF (_:B K mg cF cR cB ak aq aP tE t1 t2 t3 t4 tP tQ):RelV (.int 1000000) (.int 1000000 tP):=⟨tP,rfl⟩
theorem B.sW (_:B K mg cF cR cB ak aq aP tE t1 t2 t3 t4 tP tQ):RelV (.int 2) (.int 2 tQ):=⟨tQ,rfl⟩
theorem B.EJ (_:B K mg cF cR cB ak aq aP tE t1 t2 t3 t4 tP tQ):RelV (.ref aP) (.ref aP):=rfl
theorem B.sX (_:B K mg cF cR cB ak aq aP tE t1 t2 t3 t4 tP tQ):RelV (.ref cB) (.ref cB):=rfl
theorem B.HS (_:B K mg cF cR cB ak aq aP tE t1 t2 t3 t4 tP tQ):RelV (.ref ak) (.ref ak):=rfl
theorem B.EK (_:B K mg cF cR cB ak aq aP tE t1 t2 t3 t4 tP tQ):RelV (.ref aq) (.ref aq):=rfl
theorem B.EL (b:B K mg cF cR cB ak aq aP tE t1 t2 t3 t4 tP tQ):Exc K cR:=b.xr.x
theorem B.Df (b:B K mg cF cR cB ak aq aP tE t1 t2 t3 t4 tP tQ):Exc K cB:=b.xb.x
end
inductive Th where
  | num (i:Int) | LY (b:Bool) | cG | txt (s:Str) | lst | tup
def kr (K:PySem.W.Frag) (p:Addr) (H:Hp):Th→V→Prop
  | .num i,v=>v=.int i
  | .LY b,v=>v=.bl b
  | .cG,v=>v=.cG
  | .txt s,v=>v=.str s
  | .lst,v=>∃ a xs,v=.ref a∧a≠p∧H a=some (.lst xs)
  | .tup,v=>∃ a xs,v=.ref a∧tupQ K H a=some xs
def Th.wh (lo hi:Int):Th→Bool
  | .num i=>decide (lo≤i∧i≤hi)
  | _=>false
def Th.zw:Th→Bool
  | .txt s=>Kz (.str s) [.str "fullest",.str "eldest"]
  | _=>false
inductive Rl where
  | tp (ts:List Th) | no
def Rl.ok:Rl→Bool
  | .tp [a,b,c,d]=>a.wh 1 64&&b.wh 3 16&&c.wh 1 64&&d.zw
  | _=>false
section
variable {P:Program} {w:World} {K:PySem.W.Frag} {mg:Str→Option Value} {base:Heap}
def gP (K:PySem.W.Frag) (p:Addr) (H:Hp):List Th→List V→Prop
  | [],vs=>vs=[]
  | t::ts,vs=>∃ v r,vs=v::r∧kr K p H t v∧gP K p H ts r
def m5 (K:PySem.W.Frag) (p:Addr) (H:Hp):Rl→V→Prop
  | .tp ts,v=>∃ a vs,v=.ref a∧tupQ K H a=some vs∧gP K p H ts vs
  | .no,v=>v=.cG∨(∃ i,v=.int i)∨(∃ s,v=.str s)∨∃ a xs,v=.ref a∧a≠p∧H a=some (.lst xs)
def Th.ty:Th→String
  | .num _=>"int" | .LY _=>"bool" | .cG=>"NoneType" | .txt _=>"str" | .lst=>"list" | .tup=>"tuple"
theorem kr.ty {p:Addr} {H:Hp} {t:Th} {v:V} (h:kr K p H t v):BH K H v (.type t.ty):=by
  cases t with
  | num i=>cases h;exact .inl (.int i)
  | LY b=>cases h;exact .inl (.bl b)
  | cG=>cases h;exact .inl .cG
  | txt s=>cases h;exact .inl (.str s)
  | lst=>obtain ⟨a,xs,rfl,_,h⟩:=h;exact .inl (.lst h)
  | tup=>obtain ⟨a,xs,rfl,h⟩:=h;exact .tup h
theorem kr.move {p:Addr} {H H':Hp} (ht:∀ a vs,tupQ K H a=some vs→tupQ K H' a=some vs) (hl:∀ a vs,a≠p→H a=some (.lst vs)→H' a=some (.lst vs)) {t:Th} {v:V} (h:kr K p H t v):kr K p H' t v:=by
  cases t with
  | lst=>obtain ⟨a,xs,e,n,h⟩:=h;exact ⟨a,xs,e,n,hl a xs n h⟩
  | tup=>obtain ⟨a,xs,e,h⟩:=h;exact ⟨a,xs,e,ht a xs h⟩
  | _=>exact h
theorem gP.move {p:Addr} {H H':Hp} (ht:∀ a vs,tupQ K H a=some vs→tupQ K H' a=some vs) (hl:∀ a vs,a≠p→H a=some (.lst vs)→H' a=some (.lst vs)):∀ {ts:List Th} {vs:List V},gP K p H ts vs→gP K p H' ts vs
  | [],_,h=>h
  | t::ts,_,⟨v,r,e,h1,h2⟩=>⟨v,r,e,h1.move ht hl,gP.move ht hl h2⟩
theorem m5.move {p:Addr} {H H':Hp} (ht:∀ a vs,tupQ K H a=some vs→tupQ K H' a=some vs) (hl:∀ a vs,a≠p→H a=some (.lst vs)→H' a=some (.lst vs)) {r:Rl} {v:V} (h:m5 K p H r v):m5 K p H' r v:=by
  cases r with
  | tp ts=>obtain ⟨a,vs,e,h1,h2⟩:=h;exact ⟨a,vs,e,ht a vs h1,h2.move ht hl⟩
  | no=>
    rcases h with h | h | h | ⟨a,xs,e,n,h⟩
    · exact .inl h
    · exact .inr (.inl h)
    · exact .inr (.inr (.inl h))
    · exact .inr (.inr (.inr ⟨a,xs,e,n,hl a xs n h⟩))
theorem m5.ext {p:Addr} {H H':Hp} {r:Rl} {v:V} (h:m5 K p H r v) (x:Ext K H H'):m5 K p H' r v:=h.move (fun _ _ e=>x.tup e) (fun _ _ _ e=>x.same _ _ e)
theorem kr.ext {p:Addr} {H H':Hp} {t:Th} {v:V} (h:kr K p H t v) (x:Ext K H H'):kr K p H' t v:=h.move (fun _ _ e=>x.tup e) (fun _ _ _ e=>x.same _ _ e)
theorem gP.ext {p:Addr} {H H':Hp} {ts:List Th} {vs:List V} (h:gP K p H ts vs) (x:Ext K H H'):gP K p H' ts vs:=h.move (fun _ _ e=>x.tup e) (fun _ _ _ e=>x.same _ _ e)
theorem gP.len {p:Addr} {H:Hp}:∀ {ts:List Th} {vs:List V},gP K p H ts vs→vs.length=ts.length
  | [],_,h=>by cases h;rfl
  | t::ts,_,⟨v,r,e,_,h2⟩=>by rw [e,List.length_cons,List.length_cons,gP.len h2]
def BU (K:PySem.W.Frag):Sp:=fun vs H Q _=>∃ p t v,vs=[v]∧kr K p H t v∧Q (.bl (match t with | .num _=>true | _=>false)) H
def rJ (K:PySem.W.Frag):Sp:=fun vs H Q _=>∃ p t v lo hi,vs=[v,.int lo,.int hi]∧kr K p H t v∧Q (.bl (t.wh lo hi)) H
def AU (K:PySem.W.Frag):Sp:=fun vs H Q _=>∃ p t v,vs=[v]∧kr K p H t v∧Q (.bl t.zw) H
def AV (K:PySem.W.Frag):Sp:=fun vs H Q _=>∃ p r v,vs=[v]∧m5 K p H r v∧Q (.bl r.ok) H
theorem wL:aG ["thing"] ["thing"] (aj fY):=⟨rfl,rfl,rfl,by decide +kernel,rfl,by decide +kernel,by decide +kernel⟩
theorem wM {f:Addr} {fd:FuncData} (F:fL K "is_number" "is_number" fY f fd) {cF cR cB ak aq aP:Addr} {tE t1 t2 t3 t4 tP tQ:Tok} (B:B K mg cF cR cB ak aq aP tE t1 t2 t3 t4 tP tQ):aT P w K mg base eK 1 f fd ["thing"] (BU K):=by
  refine F.iC wL (fun vs H Q E h=>?_) (fun cE A outer s H vs Q E hr h=>?_)
  · obtain ⟨p,t,v,rfl,_⟩:=h
    rfl
  obtain ⟨p,t,v,rfl,ht,q⟩:=h
  refine ⟨_,(aV (bT (qU (bw aW rfl B.isinstance aH (aa (ev 0) (aa (j8 rfl B.int sF) ay))) (qT (KQ (bw aW rfl B.isinstance aH (aa (ev 0) (aa (j8 rfl B.bool BD) ay)))))))),?_⟩
  try walk_at "rn"
  have ty:=ht.ty
  cases t with
  | num i=>exact ⟨_,ty,true,rfl,_,ty,false,rfl,q⟩
  | LY b=>exact ⟨_,ty,true,rfl,_,ty,true,rfl,q⟩
  | _=>exact ⟨_,ty,false,rfl,q⟩
theorem zy:aG ["thing","low","high"] ["thing","low","high"] (aj gW):=⟨rfl,rfl,rfl,by decide +kernel,rfl,by decide +kernel,by decide +kernel⟩
theorem zz {f:Addr} {fd:FuncData} (F:fL K "is_whole" "is_whole" gW f fd) {cF cR cB ak aq aP:Addr} {tE t1 t2 t3 t4 tP tQ:Tok} (B:B K mg cF cR cB ak aq aP tE t1 t2 t3 t4 tP tQ) (dS:Callee P w K mg base "is_number" 1 ["thing"] (BU K)):aT P w K mg base eK 2 f fd ["thing","low","high"] (rJ K):=by
  refine F.iC zy (fun vs H Q E h=>?_) (fun cE A outer s H vs Q E hr h=>?_)
  · obtain ⟨p,t,v,lo,hi,rfl,_⟩:=h
    rfl
  obtain ⟨p,t,v,lo,hi,rfl,ht,q⟩:=h
  refine ⟨_,(aV (bT (qU (aM dS (hr.mono (by decide)) rfl (aa (ev 0) ay)) (qT (KR IL IL (ev 1) (ev 0) (ev 2)))))),?_⟩
  try walk_at "rn"
  refine ⟨p,t,v,rfl,ht,?_⟩
  cases t with
  | num i=>
    cases ht
    refine ⟨true,rfl,?_⟩
    rw [if_pos rfl]
    refine ⟨i,rfl,?_⟩
    simp only [Th.wh] at q
    split
    · rename_i c
      simp only [c,true_and] at q
      exact ⟨i,rfl,q⟩
    · rename_i c
      simp only [c,false_and,decide_false] at q
      exact q
  | _=>exact ⟨false,rfl,by rw [if_neg (by decide)];exact q⟩
theorem AW:aG ["thing"] ["thing"] (aj iQ):=⟨rfl,rfl,rfl,by decide +kernel,rfl,by decide +kernel,by decide +kernel⟩
theorem AX {f:Addr} {fd:FuncData} (F:fL K "is_plan" "is_plan" iQ f fd) {cF cR cB ak aq aP:Addr} {tE t1 t2 t3 t4 tP tQ:Tok} (B:B K mg cF cR cB ak aq aP tE t1 t2 t3 t4 tP tQ):aT P w K mg base eK 1 f fd ["thing"] (AU K):=by
  refine F.okM AW (fun vs H Q E h=>?_) (fun cE A outer s H vs Q E hr hm h=>?_)
  · obtain ⟨p,t,v,rfl,_⟩:=h
    rfl
  obtain ⟨p,t,v,rfl,ht,q⟩:=h
  refine ⟨_,(aV (bT (qU (bw aW rfl B.isinstance aH (aa (ev 0) (aa (j8 rfl B.str nC) ay))) (qT (we KW (ev 0) (kU rfl B.Nh B.EJ) (by with_unfolding_all rfl)))))),?_⟩
  try walk_at "rn"
  have ty:=ht.ty
  cases t with
  | txt x=>
    cases ht
    refine ⟨_,ty,true,rfl,?_⟩
    rw [if_pos rfl]
    exact ⟨_,cU (hm.tup B.kP),rfl,rfl,q⟩
  | _=>exact ⟨_,ty,false,rfl,q⟩
theorem BV {ts:List Th} (h:ts.length≠4):(Rl.tp ts).ok=false:=by
  rcases ts with _ | ⟨a,_ | ⟨b,_ | ⟨c,_ | ⟨d,_ | ⟨e,ts⟩⟩⟩⟩⟩ <;> first | rfl | exact absurd rfl h
theorem zA {p:Addr} {H:Hp} {r:Rl} {v:V} (h:m5 K p H r v):(∃ ty,BH K H v (.type ty)∧PySem.W.kitOne K (.type ty) (.type "tuple")=some false∧r.ok=false)∨
    (∃ a vs ts,r=.tp ts∧v=.ref a∧tupQ K H a=some vs∧gP K p H ts vs∧ts.length≠4)∨
    ∃ a va vb vc vd ta tb tc td,r=.tp [ta,tb,tc,td]∧v=.ref a∧tupQ K H a=some [va,vb,vc,vd]∧kr K p H ta va∧kr K p H tb vb∧kr K p H tc vc∧kr K p H td vd:=by
  cases r with
  | no=>
    rcases h with rfl | ⟨i,rfl⟩ | ⟨s,rfl⟩ | ⟨a,xs,rfl,_,h⟩
    · exact .inl ⟨"NoneType",.inl .cG,rfl,rfl⟩
    · exact .inl ⟨"int",.inl (.int i),rfl,rfl⟩
    · exact .inl ⟨"str",.inl (.str s),rfl,rfl⟩
    · exact .inl ⟨"list",.inl (.lst h),rfl,rfl⟩
  | tp ts=>
    obtain ⟨a,vs,rfl,ha,hs⟩:=h
    by_cases z:ts.length=4
    · match ts,z,hs with
      | [ta,tb,tc,td],_,hs=>
        obtain ⟨va,_,rfl,h1,vb,_,rfl,h2,vc,_,rfl,h3,vd,_,rfl,h4,rfl⟩:=hs
        exact .inr (.inr ⟨a,va,vb,vc,vd,ta,tb,tc,td,rfl,rfl,ha,h1,h2,h3,h4⟩)
    · exact .inr (.inl ⟨a,vs,ts,rfl,rfl,ha,hs,z⟩)
theorem i7:aG ["thing","tray","fan","rows","plan"] ["thing"] (aj iR):=⟨rfl,rfl,rfl,by decide +kernel,rfl,by decide +kernel,by decide +kernel⟩
theorem AY {f:Addr} {fd:FuncData} (F:fL K "is_rule" "is_rule" iR f fd) {cF cR cB ak aq aP:Addr} {tE t1 t2 t3 t4 tP tQ:Tok} (B:B K mg cF cR cB ak aq aP tE t1 t2 t3 t4 tP tQ) (dH:Callee P w K mg base "is_whole" 2 ["thing","low","high"] (rJ K)) (mS:Callee P w K mg base "is_plan" 1 ["thing"] (AU K)):aT P w K mg base eK 3 f fd ["thing"] (AV K):=by
  refine F.iC i7 (fun vs H Q E h=>?_) (fun cE A outer s H vs Q E hr h=>?_)
  · obtain ⟨p,r,v,rfl,_⟩:=h
    rfl
  obtain ⟨p,r,v,rfl,hv,q⟩:=h
  refine ⟨_,(aD (nF (tw (Dz (mZ (iY (bw aW rfl B.isinstance aH (aa (ev 0) (aa (j8 rfl B.tuple lN) ay))))) (qV (iX rV (bw pV rfl B.len j7 (aa (ev 0) ay)) ei (bS _))))) (aV (bT Ay)) gy)
      (aD (uB (ev 0) (sI (n:=4) rfl (cj (bF (i:=1) i7.nd rfl (Or.inl rfl)) (cj (bF (i:=2) i7.nd rfl (Or.inl rfl)) (cj (bF (i:=3) i7.nd rfl (Or.inl rfl)) (cj (bF (i:=4) i7.nd rfl (Or.inl rfl)) uC))))))
      (aD (nF (tw (Dz (mZ (iY (aM dH (hr.mono (by decide)) rfl (aa (ev 1) (aa ei (aa (kU rfl B.C9 B.wI) ay)))))) (qV (mZ (iY (aM dH (hr.mono (by decide)) rfl (aa (ev 2) (aa (kU rfl B.Dc B.wJ) (aa (kU rfl B.EH B.zu) ay))))))))) (aV (bT Ay)) gy)
      (aV (bT (qU (aM dH (hr.mono (by decide)) rfl (aa (ev 3) (aa ei (aa (kU rfl B.Dd B.wK) ay)))) (qT (aM mS (hr.mono (by decide)) rfl (aa (ev 4) ay))))))))),?_⟩
  try walk_at "rn"
  rcases zA hv with ⟨ty,nt,hk,e⟩ | ⟨a,vs,ts,rfl,rfl,ha,hs,ne⟩ | ⟨a,va,vb,vc,vd,ta,tb,tc,td,rfl,rfl,ha,h1,h2,h3,h4⟩
  · refine ⟨_,nt,false,hk,?_⟩
    rw [e] at q
    exact q
  · refine ⟨_,.tup ha,true,rfl,?_⟩
    rw [if_neg (by decide)]
    refine ⟨a,rfl,vs,cU ha,?_⟩
    rw [if_pos (by rw [hs.len];simp only [Bool.not_eq_true',decide_eq_false_iff_not];omega)]
    rw [BV ne] at q
    exact q
  · refine ⟨_,.tup ha,true,rfl,?_⟩
    rw [if_neg (by decide)]
    refine ⟨a,rfl,_,cU ha,?_⟩
    rw [if_neg (by simp)]
    refine ⟨a,rfl,_,ha,rfl,_,_,rfl,_,_,rfl,_,_,rfl,_,_,rfl,rfl,p,ta,va,_,_,rfl,h1,_,rfl,?_⟩
    simp only [Rl.ok] at q
    cases c1:ta.wh 1 64 with
    | false=>
      rw [c1] at q
      rw [if_pos (by decide)]
      exact q
    | true=>
      rw [c1] at q
      rw [if_neg (by decide)]
      refine ⟨p,tb,vb,_,_,rfl,h2,_,rfl,?_⟩
      cases c2:tb.wh 3 16 with
      | false=>
        rw [c2] at q
        rw [if_pos (by decide)]
        exact q
      | true=>
        rw [c2] at q
        rw [if_neg (by decide)]
        refine ⟨p,tc,vc,_,_,rfl,h3,_,rfl,?_⟩
        cases c3:tc.wh 1 64 with
        | false=>
          rw [c3] at q
          rw [if_neg (by decide)]
          exact q
        | true=>
          rw [c3] at q
          rw [if_pos rfl]
          exact ⟨p,td,vd,rfl,h4,q⟩
end
section
variable {P:Program} {w:World} {K:PySem.W.Frag} {mg:Str→Option Value} {base:Heap}
def nU (K:PySem.W.Frag) (C:Addr):Sp:=fun vs H Q _=>∃ x dx v1 v2,vs=[.ref x,v1,v2]∧H x=some (.ins C dx [])∧Q .cG (upd H x (.ins C dx [(("number":Str),v1),(("rows":Str),v2)]))
theorem two {a b:V}:bW "rows" b (bW "number" a [])=[(("number":Str),a),(("rows":Str),b)]:=by
  have k1:¬ (("number":Str)="rows"):=by decide +kernel
  simp only [bW,k1,if_false]
theorem p5:aG ["self","number","rows"] ["self","number","rows"] (aj dc):=⟨rfl,rfl,rfl,by decide +kernel,rfl,by decide +kernel,by decide +kernel⟩
theorem p6 {f:Addr} {fd:FuncData} (F:fL K "__init__" "Leaf.__init__" dc f fd) {cF cR cB ak aq aP:Addr} {tE t1 t2 t3 t4 tP tQ:Tok} (B:B K mg cF cR cB ak aq aP tE t1 t2 t3 t4 tP tQ) (fS:iu K ak) (lT:aK K ak "number") (sY:aK K ak "rows"):aT P w K mg base eK 1 f fd ["self","number","rows"] (nU K ak):=by
  refine F.iC p5 (fun vs H Q E h=>?_) (fun cE A outer s H vs Q E hr h=>?_)
  · obtain ⟨x,dx,v1,v2,rfl,_⟩:=h
    rfl
  obtain ⟨x,dx,v1,v2,rfl,hx,q⟩:=h
  refine ⟨_,(aD (jd (ev 0) (ev 1))
      (aV (jd (ev 0) (ev 2)))),?_⟩
  try walk_at "rn"
  refine ⟨_,_,_,hx,fS,lT,by decide,_,_,_,rfl,fS,sY,by have:=eO "number" v1 [];simp only [List.length_nil] at this;omega,?_⟩
  rw [gw,two]
  exact q
def Gm (v:V) (k lf t:Addr):List (Str×V):=[(("rule":Str),v),(("kept":Str),.ref k),(("fresh":Str),.int 1),(("top":Str),.ref lf),(("trail":Str),.ref t)]
theorem HU {v:V} {k lf t:Addr}:bW "trail" (.ref t) (bW "top" (.ref lf) (bW "fresh" (.int 1) (bW "kept" (.ref k) (bW "rule" v []))))=Gm v k lf t:=by
  have k1:¬ (("rule":Str)="kept"):=by decide +kernel
  have k2:¬ (("rule":Str)="fresh"):=by decide +kernel
  have k3:¬ (("kept":Str)="fresh"):=by decide +kernel
  have k4:¬ (("rule":Str)="top"):=by decide +kernel
  have k5:¬ (("kept":Str)="top"):=by decide +kernel
  have k6:¬ (("fresh":Str)="top"):=by decide +kernel
  have k7:¬ (("rule":Str)="trail"):=by decide +kernel
  have k8:¬ (("kept":Str)="trail"):=by decide +kernel
  have k9:¬ (("fresh":Str)="trail"):=by decide +kernel
  have k0:¬ (("top":Str)="trail"):=by decide +kernel
  simp only [bW,k1,k2,k3,k4,k5,k6,k7,k8,k9,k0,if_false,Gm]
def lU (K:PySem.W.Frag) (C:Addr):Sp:=fun vs H Q _=>∃ x dx v k lf,vs=[.ref x,v,.ref k,.int 1,.ref lf]∧H x=some (.ins C dx [])∧∀ t H',new K H t→H' t=some (.lst [])→H' x=some (.ins C dx (Gm v k lf t))→Kp K x H H'→Q .cG H'
theorem oV:aG ["self","rule","kept","fresh","top"] ["self","rule","kept","fresh","top"] (aj cO):=⟨rfl,rfl,rfl,by decide +kernel,rfl,by decide +kernel,by decide +kernel⟩
theorem oW {f av:Addr} {fd:FuncData} (F:fL K "__init__" "House.__init__" cO f fd) {cF cR cB ak aq aP:Addr} {tE t1 t2 t3 t4 tP tQ:Tok} (B:B K mg cF cR cB ak aq aP tE t1 t2 t3 t4 tP tQ) (dF:iu K av) (lV:aK K av "rule") (EM:aK K av "kept") (BW:aK K av "fresh") (Je:aK K av "top") (BX:aK K av "trail"):aT P w K mg base eK 1 f fd ["self","rule","kept","fresh","top"] (lU K av):=by
  refine F.iC oV (fun vs H Q E h=>?_) (fun cE A outer s H vs Q E hr h=>?_)
  · obtain ⟨x,dx,v,k,lf,rfl,_⟩:=h
    rfl
  obtain ⟨x,dx,v,k,lf,rfl,hx,q⟩:=h
  refine ⟨_,(aD (jd (ev 0) (ev 1))
      (aD (jd (ev 0) (ev 2))
      (aD (jd (ev 0) (ev 3))
      (aD (jd (ev 0) (ev 4))
      (aV (jd (ev 0) (bB ay))))))),?_⟩
  try walk_at "rn"
  have lp:∀ (f:Str) (y:V) (fs:List (Str×V)) (n:Nat),fs.length≤n→(bW f y fs).length≤n + 1:=fun f y fs n h=>by
    have:=eO f y fs
    omega
  refine ⟨_,_,_,hx,dF,lV,by decide,_,_,_,rfl,dF,EM,Nat.lt_of_le_of_lt (lp _ _ [] 0 (Nat.le_refl _)) (by decide),_,_,_,rfl,dF,BW,Nat.lt_of_le_of_lt (lp _ _ _ 1 (lp _ _ [] 0 (Nat.le_refl _))) (by decide),_,_,_,rfl,dF,Je,Nat.lt_of_le_of_lt (lp _ _ _ 2 (lp _ _ _ 1 (lp _ _ [] 0 (Nat.le_refl _)))) (by decide),fun t nt=>?_⟩
  simp only [gw] at nt ⊢
  obtain ⟨tx,nt⟩:=eY.1 nt
  refine ⟨_,_,_,by rw [ao (Ne.symm tx),ai],dF,BX,Nat.lt_of_le_of_lt (lp _ _ _ 3 (lp _ _ _ 2 (lp _ _ _ 1 (lp _ _ [] 0 (Nat.le_refl _))))) (by decide),?_⟩
  rw [HU]
  refine q t _ nt (by rw [ao tx,ai]) ai ⟨fun r o e n=>?_,fun b ys e m=>?_⟩
  · rw [ao n,ao (aJ e nt.1),ao n]
    exact e
  · have bx:b≠x:=fun z=>by rw [z,hx] at e;cases e
    have bt:b≠t:=fun z=>by rw [z,nt.2] at m;cases m
    rw [ao bx,ao bt,ao bx]
    exact e
theorem Kp.made {H H':Hp} {C x dx:Addr} (nx:new K H x) (ndx:new K H dx) (ne:dx≠x) (kp:Kp K x (upd (upd H dx (.own x)) x (.ins C dx [])) H'):Ext K H H':=by
  have x1:=Ext.made (K:=K) (o:=.ins C dx []) (o':=.own x) nx ndx ne
  exact ⟨fun q o e=>kp.keep q o (x1.same q o e) (aJ e nx.1),fun a xs e m=>kp.mod a xs (x1.mod a xs e m) m⟩
theorem br {H H1:Hp} {v:Addr} (x:Ext K H H1) (n:new K H1 v):new K H v:=by
  refine ⟨?_,n.2⟩
  have h1:=n.1
  cases e:H v with
  | none=>rfl
  | some o=>
    rw [x.same v o e] at h1
    cases h1
structure EN (K:PySem.W.Frag) (H:Hp) (av ak h dh k lf dl r t:Addr) (v:V):Prop where
  ins:H h=some (.ins av dh (Gm v k lf t))
  kept:H k=some (.lst [])
  leaf:H lf=some (.ins ak dl [(("number":Str),.int 0),(("rows":Str),.ref r)])
  rows:H r=some (.lst [])
  trail:H t=some (.lst [])
theorem EN.ext {H H':Hp} {av ak h dh k lf dl r t:Addr} {v:V} (a:EN K H av ak h dh k lf dl r t v) (x:Ext K H H'):EN K H' av ak h dh k lf dl r t v:=
  ⟨x.same _ _ a.ins,x.same _ _ a.kept,x.same _ _ a.leaf,x.same _ _ a.rows,x.same _ _ a.trail⟩
def nV (K:PySem.W.Frag) (av ak:Addr):Sp:=fun vs H Q _=>∃ v,vs=[v]∧∀ h dh k lf dl r t H',(∀ y∈[h,k,lf,r,t],new K H y)→EN K H' av ak h dh k lf dl r t v→Ext K H H'→Q (.ref h) H'
theorem wN:aG ["rule"] ["rule"] (aj gg):=⟨rfl,rfl,rfl,by decide +kernel,rfl,by decide +kernel,by decide +kernel⟩
theorem wO {f av:Addr} {fd:FuncData} (F:fL K "new_house" "new_house" gg f fd) {cF cR cB ak aq aP:Addr} {tE t1 t2 t3 t4 tP tQ:Tok} (B:B K mg cF cR cB ak aq aP tE t1 t2 t3 t4 tP tQ) (rK:Maker P w K mg base "House" 1 ["self","rule","kept","fresh","top"] [] av (lU K av)) (wQ:Maker P w K mg base "Leaf" 1 ["self","number","rows"] [] ak (nU K ak)):aT P w K mg base eK 3 f fd ["rule"] (nV K av ak):=by
  refine F.iC wN (fun vs H Q E h=>?_) (fun cE A outer s H vs Q E hr h=>?_)
  · obtain ⟨v,rfl,_⟩:=h
    rfl
  obtain ⟨v,rfl,q⟩:=h
  refine ⟨_,(aV (bT (EA rK (hr.mono (by decide)) rfl (aa (ev 0) (aa (bB ay) (aa ei (aa (EA wQ (hr.mono (by decide)) rfl (aa ei (aa (bB ay) ay))) ay))))))),?_⟩
  try walk_at "rn"
  intro k nk r nr lf dl nlf ndl nel
  refine ⟨lf,dl,_,_,rfl,ai,rfl,?_⟩
  rw [gw]
  have w2:=Ext.made (K:=K) (o:=.ins ak dl [(("number":Str),.int 0),(("rows":Str),.ref r)]) (o':=.own lf) nlf ndl nel
  have zr:=w2.same _ _ (ai (a:=r))
  have w1:=(Ext.new nr).trans w2
  have zk:=w1.same _ _ (ai (a:=k))
  have x2:=(Ext.new nk).trans w1
  have zlf:(upd (upd (upd (upd H k (.lst [])) r (.lst [])) dl (.own lf)) lf (.ins ak dl [(("number":Str),.int 0),(("rows":Str),.ref r)])) lf=some (.ins ak dl [(("number":Str),.int 0),(("rows":Str),.ref r)]):=ai
  generalize (upd (upd (upd (upd H k (.lst [])) r (.lst [])) dl (.own lf)) lf (.ins ak dl [(("number":Str),.int 0),(("rows":Str),.ref r)]))=H2 at zr zk x2 zlf
  intro h dh nh ndh neh
  refine ⟨h,dh,v,k,lf,rfl,ai,fun t H3 nt zt zh kp=>⟨rfl,?_⟩⟩
  have x3:=Kp.made nh ndh neh kp
  have a1:new K H r:=br (.new nk) nr
  have a2:new K H lf:=br ((Ext.new nk).trans (.new nr)) nlf
  have a3:new K H h:=br x2 nh
  have a4:new K H t:=br (x2.trans (Ext.made nh ndh neh)) nt
  have nw:∀ y∈[h,k,lf,r,t],new K H y:=by
    intro y hy
    simp only [List.mem_cons,List.not_mem_nil,or_false] at hy
    rcases hy with rfl | rfl | rfl | rfl | rfl <;> assumption
  exact q h dh k lf dl r t H3 nw ⟨zh,x3.same _ _ zk,x3.same _ _ zlf,x3.same _ _ zr,zt⟩ (x2.trans x3)
def EO (v:V) (h:Addr):List (Str×V):=[(("rule":Str),v),(("last":Str),.int 0),(("house":Str),.ref h),(("runs":Str),.int 0)]
theorem HV {v:V} {h:Addr}:bW "runs" (.int 0) (bW "house" (.ref h) (bW "last" (.int 0) (bW "rule" v [])))=EO v h:=by
  have k1:¬ (("rule":Str)="last"):=by decide +kernel
  have k2:¬ (("rule":Str)="house"):=by decide +kernel
  have k3:¬ (("last":Str)="house"):=by decide +kernel
  have k4:¬ (("rule":Str)="runs"):=by decide +kernel
  have k5:¬ (("last":Str)="runs"):=by decide +kernel
  have k6:¬ (("house":Str)="runs"):=by decide +kernel
  simp only [bW,k1,k2,k3,k4,k5,k6,if_false,EO]
structure qW (K:PySem.W.Frag) (H:Hp) (aA av ak x dx h dh k lf dl r t:Addr) (v:V):Prop where
  ins:H x=some (.ins aA dx (EO v h))
  hs:EN K H av ak h dh k lf dl r t v
theorem qW.ext {H H':Hp} {aA av ak x dx h dh k lf dl r t:Addr} {v:V} (a:qW K H aA av ak x dx h dh k lf dl r t v) (y:Ext K H H'):qW K H' aA av ak x dx h dh k lf dl r t v:=
  ⟨y.same _ _ a.ins,a.hs.ext y⟩
def lX (K:PySem.W.Frag) (aA av ak cR:Addr):Sp:=fun vs H Q E=>∃ p x dx rl v,vs=[.ref x,v]∧H x=some (.ins aA dx [])∧m5 K p H rl v∧(rl.ok=false→E (.ref cR) none H)∧
  (rl.ok=true→∀ h dh k lf dl r t H',(∀ y∈[h,k,lf,r,t],new K H y)→qW K H' aA av ak x dx h dh k lf dl r t v→Kp K x H H'→Q .cG H')
theorem oX:aG ["self","rule"] ["self","rule"] (aj cQ):=⟨rfl,rfl,rfl,by decide +kernel,rfl,by decide +kernel,by decide +kernel⟩
theorem oY {f aA av:Addr} {fd:FuncData} (F:fL K "__init__" "Store.__init__" cQ f fd) {cF cR cB ak aq aP:Addr} {tE t1 t2 t3 t4 tP tQ:Tok} (B:B K mg cF cR cB ak aq aP tE t1 t2 t3 t4 tP tQ) (mT:Callee P w K mg base "is_rule" 3 ["thing"] (AV K)) (jk:Callee P w K mg base "new_house" 3 ["rule"] (nV K av ak)) (bu:iu K aA) (lV:aK K aA "rule") (sZ:aK K aA "last") (iD:aK K aA "house") (ER:aK K aA "runs"):aT P w K mg base (pF P w) 4 f fd ["self","rule"] (lX K aA av ak cR):=by
  refine F.RY oX (fun vs H Q E h=>?_) (fun cE A outer s H vs Q E hr h=>?_)
  · obtain ⟨p,x,dx,rl,v,rfl,_⟩:=h
    rfl
  obtain ⟨p,x,dx,rl,v,rfl,hx,hv,qx,q⟩:=h
  refine ⟨_,(aD (nF (mZ (iY (aM mT (hr.mono (by decide)) rfl (aa (ev 1) ay)))) (aV (Eu B.EL B.EI hr.hd rfl)) gy)
      (aD (jd (ev 0) (ev 1))
      (aD (jd (ev 0) ei)
      (aD (jd (ev 0) (aM jk (hr.mono (by decide)) rfl (aa (ev 1) ay)))
      (aV (jd (ev 0) ei)))))),?_⟩
  try walk_at "rn"
  refine ⟨p,rl,v,rfl,hv,_,rfl,?_⟩
  cases ok:rl.ok with
  | false=>
    rw [if_pos (by decide)]
    exact qx ok
  | true=>
  have q:=q ok
  rw [if_neg (by decide)]
  have lp:∀ (f:Str) (y:V) (fs:List (Str×V)) (n:Nat),fs.length≤n→(bW f y fs).length≤n + 1:=fun f y fs n h=>by
    have:=eO f y fs
    omega
  refine ⟨_,_,_,hx,bu,lV,by decide,_,_,_,rfl,bu,sZ,Nat.lt_of_le_of_lt (lp _ _ [] 0 (Nat.le_refl _)) (by decide),?_⟩
  rw [gw]
  refine ⟨v,rfl,fun h dh k lf dl r t H2 nw hs x2=>?_⟩
  have zx:=x2.same _ _ (ai (a:=x))
  refine ⟨_,_,_,zx,bu,iD,Nat.lt_of_le_of_lt (lp _ _ _ 1 (lp _ _ [] 0 (Nat.le_refl _))) (by decide),_,_,_,rfl,bu,ER,Nat.lt_of_le_of_lt (lp _ _ _ 2 (lp _ _ _ 1 (lp _ _ [] 0 (Nat.le_refl _)))) (by decide),?_⟩
  rw [gw,HV]
  have nx:∀ y∈[h,k,lf,r,t],y≠x:=fun y hy z=>by
    have e:=(nw y hy).1
    rw [z,ai] at e
    cases e
  refine q h dh k lf dl r t _ (fun y hy=>(eY.mp (nw y hy)).2) ⟨ai,⟨?_,?_,?_,?_,?_⟩⟩ ⟨fun y o e n=>?_,fun b ys e m=>?_⟩
  · rw [ao (nx h (by simp))];exact hs.ins
  · rw [ao (nx k (by simp))];exact hs.kept
  · rw [ao (nx lf (by simp))];exact hs.leaf
  · rw [ao (nx r (by simp))];exact hs.rows
  · rw [ao (nx t (by simp))];exact hs.trail
  · rw [ao n]
    exact x2.same _ _ (by rw [ao n];exact e)
  · have bx:b≠x:=fun z=>by rw [z,hx] at e;cases e
    rw [ao bx]
    exact x2.mod b ys (by rw [ao bx];exact e) m
end
inductive Ent where
  | cA (p:Int) (t:Str) | line (t:Str) | blot
def Ent.v:Ent→List V
  | .cA p t=>[.str "page",.int p,.str t]
  | .line t=>[.str "line",.str t]
  | .blot=>[.str "blot"]
def Ent.signs:Ent→Str
  | .cA _ t=>t
  | .line t=>t++"\n"
  | .blot=>""
def Ent.small:Ent→Prop
  | .cA _ t=>t.length≤100
  | .line t=>t.length≤100
  | .blot=>True
theorem w1:¬ (("line":Str)="page"):=by decide +kernel
theorem w2:¬ (("blot":Str)="page"):=by decide +kernel
theorem w3:¬ (("blot":Str)="line"):=by decide +kernel
theorem w4:¬ (("page":Str)="blot"):=by decide +kernel
theorem w5:¬ (("line":Str)="blot"):=by decide +kernel
theorem w6:¬ (("page":Str)="line"):=by decide +kernel
section
variable {P:Program} {w:World} {K:PySem.W.Frag} {mg:Str→Option Value} {base:Heap}
def wR (K:PySem.W.Frag):Sp:=fun vs H Q _=>∃ a e,vs=[.ref a]∧tupQ K H a=some (Ent.v e)∧e.small∧Q (.str e.signs) H
theorem zB:aG ["entry"] ["entry"] (aj gY):=⟨rfl,rfl,rfl,by decide +kernel,rfl,by decide +kernel,by decide +kernel⟩
theorem zC {f:Addr} {fd:FuncData} (F:fL K "signs_of" "signs_of" gY f fd) {cF cR cB ak aq aP:Addr} {tE t1 t2 t3 t4 tP tQ:Tok} (B:B K mg cF cR cB ak aq aP tE t1 t2 t3 t4 tP tQ):aT P w K mg base eK 1 f fd ["entry"] (wR K):=by
  refine F.iC zB (fun vs H Q E h=>?_) (fun cE A outer s H vs Q E hr h=>?_)
  · obtain ⟨a,e,rfl,_⟩:=h
    rfl
  obtain ⟨a,e,rfl,ha,sm,q⟩:=h
  refine ⟨_,(aD (nF (iX jf (jF dW (ev 0) ei (fun _ _=>rfl)) bL (bS _)) (aV (bT (jF dW (ev 0) ei (fun _ _=>rfl)))) gy)
      (aV (bT (Pf (iX jf (jF dW (ev 0) ei (fun _ _=>rfl)) bL (bS _)) (iW fR (jF dW (ev 0) ei (fun _ _=>rfl)) bL) bL)))),?_⟩
  simp_arith [cU ha]
  cases e with
  | cA pl t=>exact ⟨_,rfl,rfl,by rw [if_pos rfl];exact ⟨_,rfl,q⟩⟩
  | line t=>
    refine ⟨_,rfl,rfl,?_⟩
    rw [if_neg (fun z=>w1 (V.str.inj z))]
    refine ⟨_,rfl,rfl,?_⟩
    rw [if_pos rfl]
    refine ⟨_,rfl,t,rfl,?_,q⟩
    have h1:t.length≤100:=sm
    have h2:(Str.ofString "\n").length=1:=by decide +kernel
    omega
  | blot=>
    refine ⟨_,rfl,rfl,?_⟩
    rw [if_neg (fun z=>w2 (V.str.inj z))]
    refine ⟨_,rfl,rfl,?_⟩
    rw [if_neg (fun z=>w3 (V.str.inj z))]
    exact q
structure Sh where
  D:List (Int×Str)
  J:Str
  W:List Ent
  D0:List (Int×Str)
  J0:Str
def zD (D:List (Int×Str)):List (Key×V):=D.map fun e=>(.inl e.1,.str e.2)
def rL (af:Addr) (K:PySem.W.Frag):Sp:=fun vs H Q _=>∃ x dx,vs=[.ref x]∧H x=some (.ins af dx [])∧
  ∀ a1 a2 a3 H',new K H a1→new K H a2→new K H a3→a1≠a2→a1≠a3→a2≠a3→H' x=some (.ins af dx [(("sheets":Str),.ref a1),(("diary":Str),.str ""),(("writes":Str),.ref a2),(("first_sheets":Str),.ref a3),(("first_diary":Str),.str "")])→
    H' a1=some (.dK [])→H' a2=some (.lst [])→H' a3=some (.dK [])→Kp K x H H'→Q .cG H'
theorem R7 {a d b c e:V}:bW "first_diary" e (bW "first_sheets" c (bW "writes" b (bW "diary" d (bW "sheets" a []))))=[(("sheets":Str),a),(("diary":Str),d),(("writes":Str),b),(("first_sheets":Str),c),(("first_diary":Str),e)]:=by
  have k1:(("sheets":Str)=="diary")=false:=by decide +kernel
  have k2:(("sheets":Str)=="writes")=false:=by decide +kernel
  have k3:(("diary":Str)=="writes")=false:=by decide +kernel
  have k4:(("sheets":Str)=="first_sheets")=false:=by decide +kernel
  have k5:(("diary":Str)=="first_sheets")=false:=by decide +kernel
  have k6:(("writes":Str)=="first_sheets")=false:=by decide +kernel
  have k7:(("sheets":Str)=="first_diary")=false:=by decide +kernel
  have k8:(("diary":Str)=="first_diary")=false:=by decide +kernel
  have k9:(("writes":Str)=="first_diary")=false:=by decide +kernel
  have k0:(("first_sheets":Str)=="first_diary")=false:=by decide +kernel
  simp only [beq_eq_false_iff_ne,ne_eq] at k1 k2 k3 k4 k5 k6 k7 k8 k9 k0
  simp only [bW,k1,k2,k3,k4,k5,k6,k7,k8,k9,k0,if_false]
theorem oZ:aG ["self"] ["self"] (aj cS):=⟨rfl,rfl,rfl,by decide +kernel,rfl,by decide +kernel,by decide +kernel⟩
theorem o6 {f af:Addr} {fd:FuncData} (F:fL K "__init__" "Shelf.__init__" cS f fd) {cF cR cB ak aq aP:Addr} {tE t1 t2 t3 t4 tP tQ:Tok} (B:B K mg cF cR cB ak aq aP tE t1 t2 t3 t4 tP tQ) (c:iu K af) (eS:aK K af "sheets") (iE:aK K af "diary") (ic:aK K af "writes") (lY:aK K af "first_sheets") (nj:aK K af "first_diary"):aT P w K mg base eK 1 f fd ["self"] (rL af K):=by
  refine F.iC oZ (fun vs H Q E h=>?_) (fun cE A outer s H vs Q E hr h=>?_)
  · obtain ⟨x,dx,rfl,_⟩:=h
    rfl
  obtain ⟨x,dx,rfl,hx,q⟩:=h
  refine ⟨_,(aD (jd (ev 0) wG)
      (aD (jd (ev 0) bL)
      (aD (jd (ev 0) (bB ay))
      (aD (jd (ev 0) wG)
      (aV (jd (ev 0) bL)))))),?_⟩
  try walk_at "rn"
  intro a1 n1
  have m1:x≠a1:=aJ hx n1.1
  have lp:∀ (f:Str) (y:V) (fs:List (Str×V)) (n:Nat),fs.length≤n→(bW f y fs).length≤n + 1:=fun f y fs n h=>by
    have:=eO f y fs
    omega
  refine ⟨af,dx,[],by rw [ao m1];exact hx,c,eS,by decide,af,dx,_,rfl,c,iE,Nat.lt_of_le_of_lt (lp _ _ [] 0 (Nat.le_of_eq rfl)) (by decide),fun a2 n2=>?_⟩
  rw [gw] at n2 ⊢
  have m2:x≠a2:=fun z=>by have:=n2.1;rw [← z,ai] at this;cases this
  refine ⟨af,dx,_,by rw [ao m2,ai],c,ic,Nat.lt_of_le_of_lt (lp _ _ _ 1 (lp _ _ [] 0 (Nat.le_of_eq rfl))) (by decide),fun a3 n3=>?_⟩
  have m3:x≠a3:=fun z=>by have:=n3.1;rw [← z,ai] at this;cases this
  refine ⟨af,dx,_,by rw [ao m3,ai],c,lY,Nat.lt_of_le_of_lt (lp _ _ _ 2 (lp _ _ _ 1 (lp _ _ [] 0 (Nat.le_of_eq rfl)))) (by decide),af,dx,_,rfl,c,nj,Nat.lt_of_le_of_lt (lp _ _ _ 3 (lp _ _ _ 2 (lp _ _ _ 1 (lp _ _ [] 0 (Nat.le_of_eq rfl))))) (by decide),?_⟩
  rw [gw,R7]
  obtain ⟨_,n2⟩:=eY.mp n2
  obtain ⟨m21,n2⟩:=eY.mp n2
  obtain ⟨_,n3⟩:=eY.mp n3
  obtain ⟨m32,n3⟩:=eY.mp n3
  obtain ⟨_,n3⟩:=eY.mp n3
  obtain ⟨m31,n3⟩:=eY.mp n3
  refine q a1 a2 a3 _ n1 n2 n3 (Ne.symm m21) (Ne.symm m31) (Ne.symm m32) ai ?_ ?_ ?_ ⟨fun b o hb nb=>?_,fun b ys hb hk=>?_⟩
  · rw [ao (Ne.symm m1),ao (Ne.symm m31),ao (Ne.symm m1),ao (Ne.symm m21),ao (Ne.symm m1),ai]
  · rw [ao (Ne.symm m2),ao (Ne.symm m32),ao (Ne.symm m2),ai]
  · rw [ao (Ne.symm m3),ai]
  · rw [ao nb,ao (aJ hb n3.1),ao nb,ao (aJ hb n2.1),ao nb,ao (aJ hb n1.1)]
    exact hb
  · have z:∀ {p:Addr},new K H p→b≠p:=fun n z=>by rw [z,n.2] at hk;cases hk
    have zx:b≠x:=fun z=>by rw [z,hx] at hb;cases hb
    rw [ao zx,ao (z n3),ao zx,ao (z n2),ao zx,ao (z n1)]
    exact hb
end
section
variable {X:Cx}
def Jf:V→V→Hp→VK→Prop:=fun x y H Q=>∃ a b,x=.str a∧y=.str b∧a.length + b.length≤sizeLine∧Q (.str (a++b)) H
theorem HW:GO X .Add Jf:=by
  rintro pins s σ H x y u v Q I rx ry ⟨a,b,rfl,rfl,hz,q⟩
  obtain ⟨t,rfl⟩:=(show ∃ t,u=Value.str a t from rx)
  obtain ⟨t',rfl⟩:=(show ∃ t',v=Value.str b t' from ry)
  exact PyProof.Rows.iadd_str (fun t' tk=>⟨.str (a++b),H,I.tok tk,⟨_,rfl⟩,q⟩) hz
end
section
variable {P:Program} {w:World} {K:PySem.W.Frag} {mg:Str→Option Value} {base:Heap}
structure g6 (K:PySem.W.Frag) (ps:List Addr) (H H':Hp):Prop where
  keep:∀ q o,H q=some o→q∉ps→H' q=some o
  mod:∀ a xs,H a=none→jc K a=some xs→H' a=none
structure bJ (K:PySem.W.Frag) (H:Hp) (C p dx a1 a2 a3:Addr) (s:Sh) (ws:List Addr):Prop where
  ins:H p=some (.ins C dx [(("sheets":Str),.ref a1),(("diary":Str),.str s.J),(("writes":Str),.ref a2),(("first_sheets":Str),.ref a3),(("first_diary":Str),.str s.J0)])
  d:H a1=some (.dK (zD s.D))
  w:H a2=some (.lst (ws.map V.ref))
  d0:H a3=some (.dK (zD s.D0))
  Aa:a1≠a3
def putD (D:List (Int×Str)) (k:Int) (t:Str):List (Int×Str):=if D.any (fun e=>e.1=k) then D.map (fun e=>if e.1=k then (e.1,t) else e) else D++[(k,t)]
def Sh.carry (s:Sh) (e:Ent) (sg:Str):Sh:=match e with
  | .blot=>{ s with J:="" }
  | .line _=>{ s with J:=s.J++sg }
  | .cA p _=>if sg="" then s else { s with D:=putD s.D p sg }
def wU (K:PySem.W.Frag) (af:Addr):Sp:=fun vs H Q _=>∃ p dx a1 a2 a3 s ws a e sg,vs=[.ref p,.ref a,.str sg]∧bJ K H af p dx a1 a2 a3 s ws∧tupQ K H a=some (Ent.v e)∧s.J.length + sg.length≤sizeLine∧s.D.length < 1000∧
  ∀ H',bJ K H' af p dx a1 a2 a3 (s.carry e sg) ws→g6 K [p,a1] H H'→Q .cG H'
theorem Ni:¬ (("sheets":Str)="diary"):=by decide +kernel
theorem Nj:(("diary":Str)=="sheets")=false:=by decide +kernel
theorem p7 {a d b c e:V}:List.lookup ("sheets":Str) [(("sheets":Str),a),(("diary":Str),d),(("writes":Str),b),(("first_sheets":Str),c),(("first_diary":Str),e)]=some a:=by
  simp only [List.lookup,beq_self_eq_true]
theorem zE {a d b c e:V}:List.lookup ("diary":Str) [(("sheets":Str),a),(("diary":Str),d),(("writes":Str),b),(("first_sheets":Str),c),(("first_diary":Str),e)]=some d:=by
  simp only [List.lookup,beq_self_eq_true,Nj]
theorem Dg {a d b c e v:V}:bW "diary" v [(("sheets":Str),a),(("diary":Str),d),(("writes":Str),b),(("first_sheets":Str),c),(("first_diary":Str),e)]=[(("sheets":Str),a),(("diary":Str),v),(("writes":Str),b),(("first_sheets":Str),c),(("first_diary":Str),e)]:=by
  simp only [bW,if_neg Ni,if_true]
theorem ES (D:List (Int×Str)) (k:Int) (t:Str):putK (zD D) (.inl k) (.str t)=zD (putD D k t):=by
  have e:(zD D).any (fun kv=>decide (kv.1=(.inl k:Key)))=D.any (fun e=>decide (e.1=k)):=by
    simp only [zD,List.any_map,Function.comp_def,Sum.inl.injEq]
  unfold putK putD
  rw [e]
  by_cases h:D.any (fun e=>decide (e.1=k))=true
  · rw [if_pos h,if_pos h]
    simp only [zD,List.map_map]
    refine List.map_congr_left fun x _=>?_
    simp only [Function.comp_def,Sum.inl.injEq]
    by_cases g:x.1=k
    · rw [if_pos g,if_pos g]
    · rw [if_neg g,if_neg g]
  · rw [if_neg h,if_neg h]
    simp only [zD,List.map_append,List.map_cons,List.map_nil]
theorem bJ.Jg {H:Hp} {C p dx a1 a2 a3:Addr} {s:Sh} {ws:List Addr} (sh:bJ K H C p dx a1 a2 a3 s ws) (j:Str):bJ K (upd H p (.ins C dx (bW "diary" (.str j) [(("sheets":Str),.ref a1),(("diary":Str),.str s.J),(("writes":Str),.ref a2),(("first_sheets":Str),.ref a3),(("first_diary":Str),.str s.J0)]))) C p dx a1 a2 a3 { s with J:=j } ws:=by
  have n1:a1≠p:=by rintro rfl;have:=sh.d;rw [sh.ins] at this;cases this
  have n2:a2≠p:=by rintro rfl;have:=sh.w;rw [sh.ins] at this;cases this
  have n3:a3≠p:=by rintro rfl;have:=sh.d0;rw [sh.ins] at this;cases this
  rw [Dg]
  exact ⟨ai,(ao n1).trans sh.d,(ao n2).trans sh.w,(ao n3).trans sh.d0,sh.Aa⟩
theorem bJ.put {H:Hp} {C p dx a1 a2 a3:Addr} {s:Sh} {ws:List Addr} (sh:bJ K H C p dx a1 a2 a3 s ws) (k:Int) (t:Str):bJ K (upd H a1 (.dK (putK (zD s.D) (.inl k) (.str t)))) C p dx a1 a2 a3 { s with D:=putD s.D k t } ws:=by
  have n1:p≠a1:=by rintro rfl;have:=sh.d;rw [sh.ins] at this;cases this
  have n2:a2≠a1:=by rintro rfl;have:=sh.w;rw [sh.d] at this;cases this
  rw [ES]
  exact ⟨(ao n1).trans sh.ins,ai,(ao n2).trans sh.w,(ao (Ne.symm sh.Aa)).trans sh.d0,sh.Aa⟩
theorem g6.upd {H:Hp} {ps:List Addr} {p:Addr} {o o':HO} (e:H p=some o) (m:p∈ps):g6 K ps H (L2.upd H p o'):=
  ⟨fun q x h n=>(ao (fun z=>by rw [z] at n;exact n m)).trans h,fun a xs h _=>(ao (fun z=>by rw [z,e] at h;cases h)).trans h⟩
theorem g6.refl {H:Hp} {ps:List Addr}:g6 K ps H H:=⟨fun _ _ h _=>h,fun _ _ h _=>h⟩
theorem nX:aG ["self","entry","signs"] ["self","entry","signs"] (aj cy):=⟨rfl,rfl,rfl,by decide +kernel,rfl,by decide +kernel,by decide +kernel⟩
theorem nY {f af:Addr} {fd:FuncData} (F:fL K "carry_out" "Shelf.carry_out" cy f fd) {cF cR cB ak aq aP:Addr} {tE t1 t2 t3 t4 tP tQ:Tok} (B:B K mg cF cR cB ak aq aP tE t1 t2 t3 t4 tP tQ) (c:iu K af) (eS:aK K af "sheets") (iE:aK K af "diary"):aT P w K mg base eK 1 f fd ["self","entry","signs"] (wU K af):=by
  refine F.iC nX (fun vs H Q E h=>?_) (fun cE A outer s H vs Q E hr h=>?_)
  · obtain ⟨p,dx,a1,a2,a3,s,ws,a,e,sg,rfl,_⟩:=h
    rfl
  obtain ⟨p,dx,a1,a2,a3,s,ws,a,e,sg,rfl,sh,ha,hz,hd,q⟩:=h
  refine ⟨_,(aV (nF (iX jf (jF dW (ev 1) ei (fun _ _=>rfl)) bL (bS _)) (aV (jd (ev 0) bL)) (aV (nF (iX jf (jF dW (ev 1) ei (fun _ _=>rfl)) bL (bS _)) (aV (BS HW (ev 0) (ev 2))) (aV (nF (iX rV (ev 2) bL (bS _)) (aV (Er hr.units (gU (ev 0)) (jF dW (ev 1) ei (fun _ _=>rfl)) (ev 2))) gy)))))),?_⟩
  simp_arith [cU ha,iB,Jf]
  have Nk:∀ a d b c e:V,[(("sheets":Str),a),(("diary":Str),d),(("writes":Str),b),(("first_sheets":Str),c),(("first_diary":Str),e)].length < 1000:=fun _ _ _ _ _=>by simp only [List.length_cons,List.length_nil];omega
  cases e with
  | blot=>
    refine ⟨_,rfl,rfl,?_⟩
    rw [if_pos rfl]
    exact ⟨_,_,_,sh.ins,c,iE,Nk _ _ _ _ _,q _ (sh.Jg _) (.upd sh.ins (by simp))⟩
  | line t=>
    refine ⟨_,rfl,rfl,?_⟩
    rw [if_neg (fun z=>w5 (V.str.inj z))]
    refine ⟨_,rfl,rfl,?_⟩
    rw [if_pos rfl]
    exact ⟨_,_,_,sh.ins,c,iE,_,zE,_,rfl,hz,_,_,sh.ins,Nk _ _ _ _ _,q _ (sh.Jg _) (.upd sh.ins (by simp))⟩
  | cA k t=>
    refine ⟨_,rfl,rfl,?_⟩
    rw [if_neg (fun z=>w4 (V.str.inj z))]
    refine ⟨_,rfl,rfl,?_⟩
    rw [if_neg (fun z=>w6 (V.str.inj z))]
    by_cases z:sg=""
    · rw [if_neg (by simp [z])]
      refine q _ ?_ .refl
      simp only [Sh.carry,if_pos z]
      exact sh
    · rw [if_pos (by simp [z])]
      refine ⟨_,_,_,sh.ins,c,eS,_,p7,_,rfl,_,rfl,_,.k (k:=.inl k) sh.d (by simp only [zD,List.length_map];have:=sizeLine_eq;omega),q _ ?_ (.upd sh.d (by simp))⟩
      simp only [Sh.carry,if_neg z]
      exact sh.put k sg
theorem vF {a d b c e:V}:List.lookup ("writes":Str) [(("sheets":Str),a),(("diary":Str),d),(("writes":Str),b),(("first_sheets":Str),c),(("first_diary":Str),e)]=some b:=by
  have k1:(("writes":Str)=="sheets")=false:=by decide +kernel
  have k2:(("writes":Str)=="diary")=false:=by decide +kernel
  simp only [List.lookup,beq_self_eq_true,k1,k2]
theorem gB {a d b c e:V} {m:Str} (k1:(m=="sheets")=false) (k2:(m=="diary")=false) (k3:(m=="writes")=false) (k4:(m=="first_sheets")=false) (k5:(m=="first_diary")=false):List.lookup m [(("sheets":Str),a),(("diary":Str),d),(("writes":Str),b),(("first_sheets":Str),c),(("first_diary":Str),e)]=none:=by
  simp only [List.lookup,k1,k2,k3,k4,k5]
theorem bJ.wr {H:Hp} {C p dx a1 a2 a3:Addr} {s:Sh} {ws R8:List Addr} (sh:bJ K H C p dx a1 a2 a3 s ws):bJ K (upd H a2 (.lst (R8.map V.ref))) C p dx a1 a2 a3 s R8:=by
  have n1:p≠a2:=by rintro rfl;have:=sh.w;rw [sh.ins] at this;cases this
  have n2:a1≠a2:=by rintro rfl;have:=sh.w;rw [sh.d] at this;cases this
  have n3:a3≠a2:=by rintro rfl;have:=sh.w;rw [sh.d0] at this;cases this
  exact ⟨(ao n1).trans sh.ins,(ao n2).trans sh.d,ai,(ao n3).trans sh.d0,sh.Aa⟩
theorem g6.trans {H H' Gn:Hp} {ps qs:List Addr} (k:g6 K ps H H') (l:g6 K qs H' Gn) (h:∀ q,q∈qs→q∈ps):g6 K ps H Gn:=
  ⟨fun q o e n=>l.keep q o (k.keep q o e n) (fun m=>n (h q m)),fun a xs e m=>l.mod a xs (k.mod a xs e m) m⟩
def jU (K:PySem.W.Frag) (af:Addr):Sp:=fun vs H Q _=>∃ p dx a1 a2 a3 s ws a e,vs=[.ref p,.ref a]∧bJ K H af p dx a1 a2 a3 s ws∧tupQ K H a=some (Ent.v e)∧e.small∧s.J.length + 101≤sizeLine∧s.D.length < 1000∧ws.length < 1000∧
  ∀ H',bJ K H' af p dx a1 a2 a3 (s.carry e e.signs) (ws++[a])→g6 K [p,a1,a2] H H'→Q .cG H'
theorem ET {a b:Str}:(a++b).length=a.length + b.length:=by show (a.cps++b.cps).size=_;rw [Array.size_append];rfl
theorem Ent.zF {e:Ent} (h:e.small):e.signs.length≤101:=by
  cases e with
  | cA p t=>exact Nat.le_succ_of_le h
  | line t=>
    have h:t.length≤100:=h
    have z:("\n":Str).length=1:=by decide +kernel
    have:(t++("\n":Str)).length=t.length + ("\n":Str).length:=ET
    show (t++("\n":Str)).length≤101
    omega
  | blot=>exact Nat.zero_le _
theorem o7:aG ["self","entry"] ["self","entry"] (aj cT):=⟨rfl,rfl,rfl,by decide +kernel,rfl,by decide +kernel,by decide +kernel⟩
theorem o8 {f af:Addr} {fd:FuncData} (F:fL K "put_down" "Shelf.put_down" cT f fd) {cF cR cB ak aq aP:Addr} {tE t1 t2 t3 t4 tP tQ:Tok} (B:B K mg cF cR cB ak aq aP tE t1 t2 t3 t4 tP tQ) (kB:Callee P w K mg base "signs_of" 1 ["entry"] (wR K)) (dX:bH P w K mg base af "carry_out" 1 ["self","entry","signs"] [] (wU K af)) (aB:iu K af) (ic:aK K af "writes"):aT P w K mg base eK 2 f fd ["self","entry"] (jU K af):=by
  refine F.iC o7 (fun vs H Q E h=>?_) (fun cE A outer s H vs Q E hr h=>?_)
  · obtain ⟨p,dx,a1,a2,a3,s,ws,a,e,rfl,_⟩:=h
    rfl
  obtain ⟨p,dx,a1,a2,a3,s,ws,a,e,rfl,sh,ha,hm,hz,hd,hw,q⟩:=h
  refine ⟨_,(aD (fE (CL PySem.F.plainAttrs_list PySem.F.slot_list_append PySem.F.type_list_append fV (gU (ev 0)) (aa (ev 1) ay)))
      (aV (fE (jR dX aB (hr.mono (by decide)) (ev 0) (aa (ev 1) (aa (aM kB (hr.mono (by decide)) rfl (aa (ev 1) ay)) ay)))))),?_⟩
  simp_arith [cU ha]
  have na:a≠a2:=by
    rintro rfl
    unfold tupQ at ha
    rw [sh.w] at ha
    cases ha
  refine ⟨_,_,_,sh.ins,aB,ic,_,vF,.inl ⟨_,.inl (.inl sh.w)⟩,_,rfl,_,sh.w,by simp only [List.length_map];omega,?_⟩
  have e1:(ws.map V.ref++[V.ref a])=(ws++[a]).map V.ref:=by simp only [List.map_append,List.map_cons,List.map_nil]
  rw [e1]
  have s1:=sh.wr (R8:=ws++[a])
  refine ⟨_,_,s1.ins,gB (by decide +kernel) (by decide +kernel) (by decide +kernel) (by decide +kernel) (by decide +kernel),?_⟩
  have t1:tupQ K (upd H a2 (.lst ((ws++[a]).map V.ref))) a=some (Ent.v e):=(gA na).trans ha
  refine ⟨a,e,rfl,t1,hm,?_⟩
  have:=Ent.zF hm
  exact ⟨p,dx,a1,a2,a3,s,ws++[a],a,e,_,rfl,s1,t1,by omega,hd,fun H' g1 g2=>q H' g1 (g6.trans (.upd sh.w (by simp)) g2 (by simp))⟩
def p8 (K:PySem.W.Frag) (af:Addr) (R:List V→Ent→Prop):Sp:=fun vs H Q _=>∃ p dx a1 a2 a3 s ws us e,vs=.ref p::us∧R us e∧bJ K H af p dx a1 a2 a3 s ws∧e.small∧s.J.length + 101≤sizeLine∧s.D.length < 1000∧ws.length < 1000∧
  ∀ b H',new K H b→tupQ K H' b=some (Ent.v e)→bJ K H' af p dx a1 a2 a3 (s.carry e e.signs) (ws++[b])→g6 K [p,a1,a2] H H'→Q .cG H'
theorem bJ.no {H:Hp} {C p dx a1 a2 a3 b:Addr} {s:Sh} {ws:List Addr} (sh:bJ K H C p dx a1 a2 a3 s ws) (nb:new K H b):b≠p∧b≠a1∧b≠a2∧b≠a3:=by
  have e:=nb.1
  refine ⟨?_,?_,?_,?_⟩ <;> rintro rfl
  · rw [sh.ins] at e;cases e
  · rw [sh.d] at e;cases e
  · rw [sh.w] at e;cases e
  · rw [sh.d0] at e;cases e
theorem bJ.fresh {H:Hp} {C p dx a1 a2 a3 b:Addr} {s:Sh} {ws:List Addr} {o:HO} (sh:bJ K H C p dx a1 a2 a3 s ws) (nb:new K H b):bJ K (upd H b o) C p dx a1 a2 a3 s ws:=by
  obtain ⟨n,n1,n2,n3⟩:=sh.no nb
  exact ⟨(ao n.symm).trans sh.ins,(ao n1.symm).trans sh.d,(ao n2.symm).trans sh.w,(ao n3.symm).trans sh.d0,sh.Aa⟩
theorem bJ.tD {H:Hp} {C p dx a1 a2 a3 b:Addr} {s:Sh} {ws:List Addr} (sh:bJ K H C p dx a1 a2 a3 s ws) (nb:new K H b):b∉[p,a1,a2]:=by
  obtain ⟨n,n1,n2,n3⟩:=sh.no nb
  simp [n,n1,n2]
theorem g6.fresh {H:Hp} {ps:List Addr} {b:Addr} {o:HO} (nb:new K H b):g6 K ps H (L2.upd H b o):=
  ⟨fun q x h _=>(ao (fun z=>by rw [z,nb.1] at h;cases h)).trans h,fun a xs h k=>(ao (fun z=>by rw [z,nb.2] at k;cases k)).trans h⟩
theorem uG:aG ["self","text"] ["self","text"] (aj fh):=⟨rfl,rfl,rfl,by decide +kernel,rfl,by decide +kernel,by decide +kernel⟩
theorem uH {f af:Addr} {fd:FuncData} (F:fL K "line" "Shelf.line" fh f fd) {cF cR cB ak aq aP:Addr} {tE t1 t2 t3 t4 tP tQ:Tok} (B:B K mg cF cR cB ak aq aP tE t1 t2 t3 t4 tP tQ) (aS:bH P w K mg base af "put_down" 2 ["self","entry"] [] (jU K af)) (aB:iu K af):aT P w K mg base eK 3 f fd ["self","text"] (p8 K af fun vs e=>∃ t,vs=[.str t]∧e=.line t):=by
  refine F.iC uG (fun vs H Q E h=>?_) (fun cE A outer s H vs Q E hr h=>?_)
  · obtain ⟨p,dx,a1,a2,a3,s,ws,vs,e,rfl,⟨t,rfl,rfl⟩,_⟩:=h
    rfl
  obtain ⟨p,dx,a1,a2,a3,s,ws,vs,e,rfl,⟨t,rfl,rfl⟩,sh,hm,hz,hd,hw,q⟩:=h
  refine ⟨_,(aV (fE (jR aS aB (hr.mono (by decide)) (ev 0) (aa (fz (aa bL (aa (ev 1) ay))) ay)))),?_⟩
  try walk_at "rn"
  refine ⟨_,_,sh.ins,gB (by decide +kernel) (by decide +kernel) (by decide +kernel) (by decide +kernel) (by decide +kernel),fun b nb=>?_⟩
  exact ⟨p,dx,a1,a2,a3,s,ws,b,.line t,rfl,sh.fresh nb,aN,hm,hz,hd,hw,fun H' g1 g2=>q b H' nb (lP (g2.keep b _ ai (sh.tD nb))) g1 (g6.trans (.fresh nb) g2 (fun _ m=>m))⟩
theorem uI:aG ["self"] ["self"] (aj fj):=⟨rfl,rfl,rfl,by decide +kernel,rfl,by decide +kernel,by decide +kernel⟩
theorem uJ {f af:Addr} {fd:FuncData} (F:fL K "blot" "Shelf.blot" fj f fd) {cF cR cB ak aq aP:Addr} {tE t1 t2 t3 t4 tP tQ:Tok} (B:B K mg cF cR cB ak aq aP tE t1 t2 t3 t4 tP tQ) (aS:bH P w K mg base af "put_down" 2 ["self","entry"] [] (jU K af)) (aB:iu K af):aT P w K mg base eK 3 f fd ["self"] (p8 K af fun vs e=>vs=[]∧e=.blot):=by
  refine F.iC uI (fun vs H Q E h=>?_) (fun cE A outer s H vs Q E hr h=>?_)
  · obtain ⟨p,dx,a1,a2,a3,s,ws,vs,e,rfl,⟨rfl,rfl⟩,_⟩:=h
    rfl
  obtain ⟨p,dx,a1,a2,a3,s,ws,vs,e,rfl,⟨rfl,rfl⟩,sh,hm,hz,hd,hw,q⟩:=h
  refine ⟨_,(aV (fE (jR aS aB (hr.mono (by decide)) (ev 0) (aa (fz (aa bL ay)) ay)))),?_⟩
  try walk_at "rn"
  refine ⟨_,_,sh.ins,gB (by decide +kernel) (by decide +kernel) (by decide +kernel) (by decide +kernel) (by decide +kernel),fun b nb=>?_⟩
  exact ⟨p,dx,a1,a2,a3,s,ws,b,.blot,rfl,sh.fresh nb,aN,hm,hz,hd,hw,fun H' g1 g2=>q b H' nb (lP (g2.keep b _ ai (sh.tD nb))) g1 (g6.trans (.fresh nb) g2 (fun _ m=>m))⟩
theorem tF:aG ["self","place","text"] ["self","place","text"] (aj ee):=⟨rfl,rfl,rfl,by decide +kernel,rfl,by decide +kernel,by decide +kernel⟩
theorem tG {f af:Addr} {fd:FuncData} (F:fL K "write" "Shelf.write" ee f fd) {cF cR cB ak aq aP:Addr} {tE t1 t2 t3 t4 tP tQ:Tok} (B:B K mg cF cR cB ak aq aP tE t1 t2 t3 t4 tP tQ) (dH:Callee P w K mg base "is_whole" 2 ["thing","low","high"] (rJ K)) (aS:bH P w K mg base af "put_down" 2 ["self","entry"] [] (jU K af)) (aB:iu K af):aT P w K mg base eK 3 f fd ["self","place","text"] (p8 K af fun vs e=>∃ k t,vs=[.int k,.str t]∧e=.cA k t∧0≤k∧k≤1000000):=by
  refine F.iC tF (fun vs H Q E h=>?_) (fun cE A outer s H vs Q E hr h=>?_)
  · obtain ⟨p,dx,a1,a2,a3,s,ws,vs,e,rfl,⟨k,t,rfl,rfl,k0,k1⟩,_⟩:=h
    rfl
  obtain ⟨p,dx,a1,a2,a3,s,ws,vs,e,rfl,⟨k,t,rfl,rfl,k0,k1⟩,sh,hm,hz,hd,hw,q⟩:=h
  refine ⟨_,(aD (nF (mZ (iY (aM dH (hr.mono (by decide)) rfl (aa (ev 1) (aa ei (aa (kU rfl B.AS B.uF) ay)))))) (aV jx) gy)
      (aV (fE (jR aS aB (hr.mono (by decide)) (ev 0) (aa (fz (aa bL (aa (ev 1) (aa (ev 2) ay)))) ay))))),?_⟩
  try walk_at "rn"
  refine ⟨p,.num k,_,_,_,rfl,rfl,_,rfl,?_⟩
  rw [if_neg (by simp [Th.wh,k0,k1])]
  refine ⟨_,_,sh.ins,gB (by decide +kernel) (by decide +kernel) (by decide +kernel) (by decide +kernel) (by decide +kernel),fun b nb=>?_⟩
  exact ⟨p,dx,a1,a2,a3,s,ws,b,.cA k t,rfl,sh.fresh nb,aN,hm,hz,hd,hw,fun H' g1 g2=>q b H' nb (lP (g2.keep b _ ai (sh.tD nb))) g1 (g6.trans (.fresh nb) g2 (fun _ m=>m))⟩
theorem p9:aG ["self"] ["self"] (aj dm):=⟨rfl,rfl,rfl,by decide +kernel,rfl,by decide +kernel,by decide +kernel⟩
def mU (K:PySem.W.Frag) (af:Addr):Sp:=fun vs H Q _=>∃ p dx a1 a2 a3 s ws,vs=[.ref p]∧bJ K H af p dx a1 a2 a3 s ws∧Q (.str s.J) H
theorem qb {f af:Addr} {fd:FuncData} (F:fL K "journal" "Shelf.journal" dm f fd) {cF cR cB ak aq aP:Addr} {tE t1 t2 t3 t4 tP tQ:Tok} (B:B K mg cF cR cB ak aq aP tE t1 t2 t3 t4 tP tQ) (aB:iu K af) (iE:aK K af "diary"):aT P w K mg base eK 1 f fd ["self"] (mU K af):=by
  refine F.iC p9 (fun vs H Q E h=>?_) (fun cE A outer s H vs Q E hr h=>?_)
  · obtain ⟨p,dx,a1,a2,a3,s,ws,rfl,_⟩:=h
    rfl
  obtain ⟨p,dx,a1,a2,a3,s,ws,rfl,sh,q⟩:=h
  refine ⟨_,(aV (bT (gU (ev 0)))),?_⟩
  try walk_at "rn"
  exact ⟨_,_,_,sh.ins,aB,iE,_,zE,q⟩
end
section
variable {P:Program} {w:World} {K:PySem.W.Frag} {mg:Str→Option Value} {base:Heap}
theorem wV:aG ["self"] ["self"] (aj gm):=⟨rfl,rfl,rfl,by decide +kernel,rfl,by decide +kernel,by decide +kernel⟩
def vG (K:PySem.W.Frag) (af:Addr):Sp:=fun vs H Q _=>∃ p dx a1 a2 a3 s ws,vs=[.ref p]∧bJ K H af p dx a1 a2 a3 s ws∧ws.length < 1000∧∀ b,new K H b→Q (.ref b) (upd H b (.lst (ws.map V.ref)))
theorem wW {f af:Addr} {fd:FuncData} (F:fL K "log" "Shelf.log" gm f fd) {cF cR cB ak aq aP:Addr} {tE t1 t2 t3 t4 tP tQ:Tok} (B:B K mg cF cR cB ak aq aP tE t1 t2 t3 t4 tP tQ) (aB:iu K af) (ic:aK K af "writes"):aT P w K mg base eK 1 f fd ["self"] (vG K af):=by
  refine F.iC wV (fun vs H Q E h=>?_) (fun cE A outer s H vs Q E hr h=>?_)
  · obtain ⟨p,dx,a1,a2,a3,s,ws,rfl,_⟩:=h
    rfl
  obtain ⟨p,dx,a1,a2,a3,s,ws,rfl,sh,hw,q⟩:=h
  refine ⟨_,(aV (bT (fM (iZ K) rfl B.list jj (aa (gU (ev 0)) ay)))),?_⟩
  try walk_at "rn"
  exact ⟨_,_,_,sh.ins,aB,ic,_,vF,_,rfl,_,bX sh.w,q⟩
theorem zG (k:Int):∀ D:List (Int×Str),nB (zD D) (.inl k)=(D.lookup k).map V.str
  | []=>rfl
  | (i,t)::D=>by
    by_cases h:i=k
    · subst h
      rw [show zD ((i,t)::D)=((.inl i:Key),V.str t)::zD D from rfl,oE rfl]
      simp only [List.lookup,beq_self_eq_true,Option.map_some]
    · rw [show zD ((i,t)::D)=((.inl i:Key),V.str t)::zD D from rfl,oH (fun z=>h (Sum.inl.inj z)),zG k D]
      have:(k==i)=false:=by simp [Ne.symm h]
      simp only [List.lookup,this]
theorem uK:aG ["self","place"] ["self","place"] (aj fk):=⟨rfl,rfl,rfl,by decide +kernel,rfl,by decide +kernel,by decide +kernel⟩
def AZ (K:PySem.W.Frag) (af:Addr):Sp:=fun vs H Q _=>∃ p dx a1 a2 a3 s ws v,vs=[.ref p,v]∧bJ K H af p dx a1 a2 a3 s ws∧(∃ k,v=.int k∧Q (((s.D.lookup k).map V.str).getD .cG) H)
theorem uL {f af:Addr} {fd:FuncData} (F:fL K "page" "Shelf.page" fk f fd) {cF cR cB ak aq aP:Addr} {tE t1 t2 t3 t4 tP tQ:Tok} (B:B K mg cF cR cB ak aq aP tE t1 t2 t3 t4 tP tQ) (dS:Callee P w K mg base "is_number" 1 ["thing"] (BU K)) (aB:iu K af) (eS:aK K af "sheets"):aT P w K mg base eK 2 f fd ["self","place"] (AZ K af):=by
  refine F.iC uK (fun vs H Q E h=>?_) (fun cE A outer s H vs Q E hr h=>?_)
  · obtain ⟨p,dx,a1,a2,a3,s,ws,v,rfl,_⟩:=h
    rfl
  obtain ⟨p,dx,a1,a2,a3,s,ws,v,rfl,sh,h⟩:=h
  refine ⟨_,(aV (bT (Pf (iY (aM dS (hr.mono (by decide)) rfl (aa (ev 1) ay))) (K3 hr.units (gU (ev 0)) (ev 1) ⟨rfl,rfl,rfl,rfl⟩) wc))),?_⟩
  try walk_at "rn"
  obtain ⟨k,rfl,q⟩:=h
  refine ⟨p,.num k,_,rfl,rfl,true,rfl,?_⟩
  rw [if_pos rfl]
  simp_arith [Aw,vV]
  refine ⟨_,_,_,sh.ins,aB,eS,_,p7,_,rfl,.inl ⟨_,.inl sh.d⟩,_,.inl ⟨_,.inl k,.inl sh.d,rfl,rfl⟩,?_⟩
  rw [zG]
  exact q
end
section
variable {P:Program} {w:World} {K:PySem.W.Frag} {mg:Str→Option Value} {base:Heap}
theorem Lh (D:List (Int×Str)):zD D=dI (D.map fun e=>(e.1,V.str e.2)):=by
  unfold zD dI
  rw [List.map_map]
  rfl
theorem qX:aG ["self"] ["self"] (aj dN):=⟨rfl,rfl,rfl,by decide +kernel,rfl,by decide +kernel,by decide +kernel⟩
def o9 (K:PySem.W.Frag) (af:Addr):Sp:=fun vs H Q _=>∃ p dx a1 a2 a3 s ws,vs=[.ref p]∧bJ K H af p dx a1 a2 a3 s ws∧s.D.length < 64∧
  ∀ b (ks:List Int),new K H b→ks.Pairwise (· < ·)→(∀ k,k∈ks↔k∈s.D.map (·.1))→ks.length=s.D.length→Q (.ref b) (upd H b (.lst (ks.map V.int)))
theorem qY {f af:Addr} {fd:FuncData} (F:fL K "places" "Shelf.places" dN f fd) {cF cR cB ak aq aP:Addr} {tE t1 t2 t3 t4 tP tQ:Tok} (B:B K mg cF cR cB ak aq aP tE t1 t2 t3 t4 tP tQ) (aB:iu K af) (eS:aK K af "sheets"):aT P w K mg base eK 1 f fd ["self"] (o9 K af):=by
  refine F.iC qX (fun vs H Q E h=>?_) (fun cE A outer s H vs Q E hr h=>?_)
  · obtain ⟨p,dx,a1,a2,a3,s,ws,rfl,_⟩:=h
    rfl
  obtain ⟨p,dx,a1,a2,a3,s,ws,rfl,sh,hz,q⟩:=h
  refine ⟨_,(aV (bT (bw (wF rfl) rfl B.sorted CK (aa (gU (ev 0)) ay)))),?_⟩
  try walk_at "rn"
  refine ⟨_,_,_,sh.ins,aB,eS,_,p7,_,rfl,_,(Lh s.D) ▸ sh.d,by simpa using hz,fun b ks nb up mem len=>?_⟩
  refine q b ks nb up (fun k=>?_) (by simpa using len)
  rw [mem,List.map_map]
  rfl
theorem g6.ext {H H1 H2:Hp} {ps:List Addr} (k:g6 K ps H1 H2) (x:Ext K H H1) (n:∀ p∈ps,new K H p):Ext K H H2:=
  ⟨fun q o e=>k.keep q o (x.same q o e) (fun m=>by rw [(n q m).1] at e;exact nomatch e),fun a xs e m=>k.mod a xs (x.mod a xs e m) m⟩
theorem g6.of {H H1:Hp} {p:Addr} (k:Kp K p H H1):g6 K [p] H H1:=⟨fun q o e n=>k.keep q o e (fun z=>n (by simp [z])),k.mod⟩
theorem bJ.ext {H H':Hp} {C p dx a1 a2 a3:Addr} {s:Sh} {ws:List Addr} (sh:bJ K H C p dx a1 a2 a3 s ws) (x:Ext K H H'):bJ K H' C p dx a1 a2 a3 s ws:=
  ⟨x.same _ _ sh.ins,x.same _ _ sh.d,x.same _ _ sh.w,x.same _ _ sh.d0,sh.Aa⟩
def bK (K:PySem.W.Frag) (H:Hp) (ws:List Addr) (W:List Ent):Prop:=ws.length=W.length∧∀ (i:Nat) a e,ws[i]?=some a→W[i]?=some e→tupQ K H a=some (Ent.v e)∧e.small
theorem bK.ext {H H':Hp} {ws:List Addr} {W:List Ent} (en:bK K H ws W) (x:Ext K H H'):bK K H' ws W:=
  ⟨en.1,fun i a e h1 h2=>⟨x.tup (en.2 i a e h1 h2).1,(en.2 i a e h1 h2).2⟩⟩
end
theorem zH {α:Type} {K:PySem.W.Frag} {c D:Addr} {L:List α} {f g:α→V} {te:TE} {v0:Option V} {rest:St} {H:Hp} {Q:Hp→Prop} (hk:tupQ K H c=some (L.map f)) (nD:new K H D) (hz:L.length≤1000)
    (elt:∀ q∈L,∀ H' (Q:VK),Ext K H H'→(∀ Gn,Ext K H' Gn→Q (g q) Gn)→te (some (f q)::rest) H' Q)
    (fin:∀ H',H' D=some (.lst (L.map g))→Ext K H H'→Q H'):eu (LP K c) (eN 0) nH te D Q (v0::rest) (upd H D (.lst [])):=by
  refine KZ (xs:=L.map f) (fun i acc σ' H'=>∃ (v0:Option V),σ'=v0::rest∧H' D=some (.lst acc)∧acc=(L.take i).map g∧Kp K D (upd H D (.lst [])) H') ?_ ?_ ?_ ?_
  · exact ⟨_,rfl,ai,rfl,Kp.refl⟩
  · rintro i acc σ' H' _ ⟨v0,rfl,hD,rfl,k⟩
    exact cH ((k.ext nD).tup hk)
  · rintro i x acc σ' H' hx ⟨v0,rfl,hD,rfl,k⟩
    rw [List.getElem?_map] at hx
    obtain ⟨q,ek,rfl⟩:=Option.map_eq_some_iff.mp hx
    have hlen:((L.take i).map g).length≤1000:=by rw [List.length_map,List.length_take];omega
    unfold eN nH
    refine MN ?_
    refine elt q (List.mem_of_getElem? ek) H' _ (k.ext nD) fun Gn x''=>⟨x''.at hD,Nat.lt_of_le_of_lt hlen (by decide),_,rfl,ai,?_,k.trans (x''.kp.trans (Kp.upd (x''.at hD)))⟩
    rw [List.take_add_one,ek,Option.toList_some,List.map_append]
    rfl
  · rintro acc σ' H' ⟨v0,rfl,hD,rfl,k⟩
    rw [List.length_map,List.take_length] at hD
    exact fin H' hD (k.ext nD)
def bf (i:Int):Str:=Str.ofString (toString i)
theorem bY {i:Int} (h:i.natAbs < 10 ^ 100):(bf i).length≤101:=by
  unfold bf
  rw [PySem.ofString_length]
  exact int_text_length_le10 (by decide) h
theorem pe {i:Int} (h:i.natAbs < 10 ^ 100):i.natAbs.log2 < 1920:=by
  by_cases e:i.natAbs=0
  · rw [e];decide
  · exact Nat.lt_trans ((Nat.log2_lt (k:=400) e).2 (Nat.lt_trans h (by decide))) (by decide)
theorem vH {sep:Str} {m:Nat} (ts:List Str) (h:∀ t∈ts,t.length≤m):nJ sep ts≤ts.length * (m + sep.length):=by
  have e:∀ (ts:List Str) (k:Nat),(∀ t∈ts,t.length≤m)→ts.foldl (fun n x=>n + x.length + sep.length) k≤k + ts.length * (m + sep.length):=by
    intro ts
    induction ts with
    | nil=>intro k _;simp
    | cons x r ih=>
      intro k h
      rw [List.foldl_cons,List.length_cons,Nat.add_mul]
      have h1:=ih (k + x.length + sep.length) fun t m=>h t (List.mem_cons_of_mem _ m)
      have h2:=h x List.mem_cons_self
      omega
  have:=e ts 0 h
  unfold nJ
  omega
theorem join_le {sep:Str} {m:Nat}:∀ (ts:List Str),(∀ t∈ts,t.length≤m)→(Str.join sep ts).length≤ts.length * (m + sep.length)
  | [],_=>by simp [Str.join,Str.empty,Str.length]
  | [x],h=>by
    have:=h x List.mem_cons_self
    show x.length≤1 * (m + sep.length)
    omega
  | x::y::r,h=>by
    have e:=join_le (sep:=sep) (y::r) fun t m=>h t (List.mem_cons_of_mem _ m)
    have h2:=h x List.mem_cons_self
    show (x++sep++Str.join sep (y::r)).length≤_
    rw [Str.length_append,Str.length_append,List.length_cons (a:=x),Nat.add_mul]
    omega
theorem BP {x y:Str} (h:x.cps.toList=y.cps.toList):x=y:=by
  cases x;cases y
  simp only at h
  rw [Array.toList_inj.mp h]
theorem BY {α:Type} {K:PySem.W.Frag} {c D:Addr} {L:List α} {f g:α→V} {te:TE} {v0:Option V} {rest:St} {H:Hp} {Q:Hp→Prop} (hk:cz K H c (L.map f)) (nD:new K H D) (hz:L.length≤16000000)
    (elt:∀ q∈L,∀ H' (Q:VK),Ext K H H'→(∀ Gn,Ext K H' Gn→Q (g q) Gn)→te (some (f q)::rest) H' Q)
    (fin:∀ H',H' D=some (.lst (L.map g))→Ext K H H'→Q H'):eu (Cd K c) (eN 0) nH te D Q (v0::rest) (upd H D (.lst [])):=by
  refine wm (xs:=L.map f) (fun i acc σ' H'=>∃ (v0:Option V),σ'=v0::rest∧H' D=some (.lst acc)∧acc=(L.take i).map g∧Kp K D (upd H D (.lst [])) H') ?_ ?_ ?_ ?_
  · exact ⟨_,rfl,ai,rfl,Kp.refl⟩
  · rintro i acc σ' H' _ ⟨v0,rfl,hD,rfl,k⟩
    exact (k.ext nD).same.seq hk
  · rintro i x acc σ' H' hx ⟨v0,rfl,hD,rfl,k⟩
    rw [List.getElem?_map] at hx
    obtain ⟨q,ek,rfl⟩:=Option.map_eq_some_iff.mp hx
    have hlen:((L.take i).map g).length≤16000000:=by rw [List.length_map,List.length_take];omega
    unfold eN nH
    refine MN ?_
    refine elt q (List.mem_of_getElem? ek) H' _ (k.ext nD) fun Gn x''=>⟨x''.at hD,Nat.lt_of_le_of_lt hlen (by decide),_,rfl,ai,?_,k.trans (x''.kp.trans (Kp.upd (x''.at hD)))⟩
    rw [List.take_add_one,ek,Option.toList_some,List.map_append]
    rfl
  · rintro acc σ' H' ⟨v0,rfl,hD,rfl,k⟩
    rw [List.length_map,List.take_length] at hD
    exact fin H' hD (k.ext nD)
section
variable {P:Program} {w:World} {K:PySem.W.Frag} {mg:Str→Option Value} {base:Heap}
def tH:Sp:=fun vs H Q _=>∃ i:Int,vs=[.int i]∧i.natAbs < 10 ^ 100∧Q (.str (bf i)) H
theorem uM:aG ["number"] ["number"] (aj eZ):=⟨rfl,rfl,rfl,by decide +kernel,rfl,by decide +kernel,by decide +kernel⟩
theorem uN {f:Addr} {fd:FuncData} (F:fL K "figures_of" "figures_of" eZ f fd) {cF cR cB ak aq aP:Addr} {tE t1 t2 t3 t4 tP tQ:Tok} (B:B K mg cF cR cB ak aq aP tE t1 t2 t3 t4 tP tQ):aT P w K mg base eK 1 f fd ["number"] tH:=by
  refine F.iC uM (fun vs H Q E h=>?_) (fun cE A outer s H vs Q E hr h=>?_)
  · obtain ⟨i,rfl,_⟩:=h
    rfl
  obtain ⟨i,rfl,h,q⟩:=h
  refine ⟨_,(aV (bT (fM j3 rfl B.str nC (aa (ev 0) ay)))),?_⟩
  try walk_at "rn"
  exact ⟨pe h,q⟩
end
def cW (ns:List Int):Prop:=∀ i∈ns,i.natAbs < 10 ^ 60
def vI (g:Str) (ts:List Str):Str:=if ts=[] then Str.ofString "-" else Str.join g ts
def qL (ns:List Int):Str:=vI (Str.ofString ",") (ns.map bf)
def lZ (a b c:Int) (pl:Str):Str:=Str.join (Str.ofString ",") [bf a,bf b,bf c,pl]
def BZ (n1 n2 n3 n4 a b c:Int) (pl:Str) (ms:List Int):Str:=Str.join (Str.ofString " ") [Str.ofString "head",bf n1,bf n2,bf n3,bf n4,lZ a b c pl,qL ms]
theorem jV {i:Int} (h:i.natAbs < 10 ^ 60):i.natAbs < 10 ^ 100:=Nat.lt_trans h (by decide)
theorem vJ {a b c:Int} {pl:Str} (h:cW [a,b,c]) (hp:pl.length≤101):(lZ a b c pl).length≤408:=by
  have l0:∀ t∈[bf a,bf b,bf c,pl],t.length≤101:=by
    intro t ht
    simp only [List.mem_cons,List.not_mem_nil,or_false] at ht
    rcases ht with rfl | rfl | rfl | rfl
    · exact bY (jV (h a (by simp)))
    · exact bY (jV (h b (by simp)))
    · exact bY (jV (h c (by simp)))
    · exact hp
  have l2:=join_le (sep:=Str.ofString ",") _ l0
  rw [show (Str.ofString ",").length=1 from by decide +kernel] at l2
  simp only [List.length_cons,List.length_nil] at l2
  unfold lZ
  omega
theorem Dh {ms:List Int} (h:cW ms):(qL ms).length≤ms.length * 102 + 1:=by
  unfold qL vI
  split
  · have:(Str.ofString "-").length=1:=by decide +kernel
    omega
  · have l2:=join_le (sep:=Str.ofString ",") (m:=101) (ms.map bf) (fun t ht=>by
      obtain ⟨i,hi,rfl⟩:=List.mem_map.mp ht
      exact bY (jV (h i hi)))
    rw [show (Str.ofString ",").length=1 from by decide +kernel,List.length_map] at l2
    omega
theorem qc {n1 n2 n3 n4 a b c:Int} {pl:Str} {ms:List Int} (h1:cW [n1,n2,n3,n4]) (h2:cW [a,b,c]) (hp:pl.length≤101) (h3:cW ms):
    nJ (Str.ofString " ") [Str.ofString "head",bf n1,bf n2,bf n3,bf n4,lZ a b c pl,qL ms]≤ms.length * 102 + 900∧(BZ n1 n2 n3 n4 a b c pl ms).length≤ms.length * 102 + 900:=by
  have q1:=bY (jV (h1 n1 (by simp)))
  have q2:=bY (jV (h1 n2 (by simp)))
  have q3:=bY (jV (h1 n3 (by simp)))
  have q4:=bY (jV (h1 n4 (by simp)))
  have q5:=vJ h2 hp
  have q6:=Dh h3
  have l1:(Str.ofString " ").length=1:=by decide +kernel
  have l4:(Str.ofString "head").length=4:=by decide +kernel
  constructor
  · simp only [nJ,List.foldl_cons,List.foldl_nil]
    omega
  · have e:BZ n1 n2 n3 n4 a b c pl ms=Str.ofString "head"++Str.ofString " "++(bf n1++Str.ofString " "++(bf n2++Str.ofString " "++(bf n3++Str.ofString " "++(bf n4++Str.ofString " "++(lZ a b c pl++Str.ofString " "++qL ms))))):=rfl
    rw [e]
    simp only [Str.length_append]
    omega
section
variable {P:Program} {w:World} {K:PySem.W.Frag} {mg:Str→Option Value} {base:Heap}
def HX (K:PySem.W.Frag):Sp:=fun vs H Q _=>∃ D ts g,vs=[.ref D,.str g]∧cz K H D (List.map V.str ts)∧g.length=1∧ts.length≤120000∧(∀ t∈ts,t.length≤101)∧Q (.str (vI g ts)) H
theorem wX:aG ["texts","sign"] ["texts","sign"] (aj fZ):=⟨rfl,rfl,rfl,by decide +kernel,rfl,by decide +kernel,by decide +kernel⟩
theorem wY {f:Addr} {fd:FuncData} (F:fL K "list_text" "list_text" fZ f fd) {cF cR cB ak aq aP:Addr} {tE t1 t2 t3 t4 tP tQ:Tok} (B:B K mg cF cR cB ak aq aP tE t1 t2 t3 t4 tP tQ):aT P w K mg base eK 1 f fd ["texts","sign"] (HX K):=by
  refine F.iC wX (fun vs H Q E h=>?_) (fun cE A outer s H vs Q E hr h=>?_)
  · obtain ⟨D,ts,g,rfl,_⟩:=h
    rfl
  obtain ⟨D,ts,g,rfl,hD,hg,hl,ht,q⟩:=h
  refine ⟨_,(aV (bT (Pf (Az (ev 0) (fun _=>rfl)) (CL PySem.F.plainAttrs_str PySem.F.slot_str_join PySem.F.type_str_join oO (ev 1) (aa (ev 0) ay)) bL))),?_⟩
  try walk_at "rn"
  refine ⟨_,.inl ⟨_,hD,rfl⟩,?_⟩
  unfold vI at q
  by_cases e:ts=[]
  · subst e
    rw [if_pos rfl] at q
    exact gO (by simp) q
  · rw [if_neg e] at q
    have l1:=vH (sep:=g) ts ht
    have l2:=join_le (sep:=g) ts ht
    rw [hg] at l1 l2
    have:ts.length * 102≤120000 * 102:=Nat.mul_le_mul_right _ hl
    exact oK (by simp [e]) ⟨ts,hD,by omega,by omega,q⟩
def Li (K:PySem.W.Frag):Sp:=fun vs H Q _=>∃ D ns,vs=[.ref D]∧cz K H D (List.map V.int ns)∧ns.length≤120000∧cW ns∧∀ H',Ext K H H'→Q (.str (qL ns)) H'
theorem qZ:aG ["numbers"] ["numbers"] (aj dM):=⟨rfl,rfl,rfl,by decide +kernel,rfl,by decide +kernel,by decide +kernel⟩
theorem rj {f:Addr} {fd:FuncData} (F:fL K "numbers_text" "numbers_text" dM f fd) {cF cR cB ak aq aP:Addr} {tE t1 t2 t3 t4 tP tQ:Tok} (B:B K mg cF cR cB ak aq aP tE t1 t2 t3 t4 tP tQ) (aI:Callee P w K mg base "figures_of" 1 ["number"] tH) (dU:Callee P w K mg base "list_text" 1 ["texts","sign"] (HX K)):aT P w K mg base eK 2 f fd ["numbers"] (Li K):=by
  refine F.iC qZ (fun vs H Q E h=>?_) (fun cE A outer s H vs Q E hr h=>?_)
  · obtain ⟨D,ns,rfl,_⟩:=h
    rfl
  obtain ⟨D,ns,rfl,hD,hl,hs,q⟩:=h
  refine ⟨_,(aV (bT (aM dU (hr.mono (by decide)) rfl (aa (LU (m8.mk (N:=["number"]) (src:=[none]) rfl rfl) rfl (sG (ev 0)) (fun _ _ _ _=>(bF (i:=0) (show (["number"]:List Str).Nodup from by decide +kernel) rfl (Or.inl rfl))) (fun _ _ _ _=>m9) (fun _ _ _ _=>(aM aI (hr.mono (by decide)) rfl (aa (ev 0) ay)))) (aa bL ay))))),?_⟩
  try walk_at "rn"
  refine ⟨⟨_,hD⟩,fun D1 n1=>BY (f:=V.int) (g:=fun i=>V.str (bf i)) hD n1 (by omega) (fun i hi H' Q' xx qq=>?_) (fun H1 h1 x1=>?_)⟩
  · try walk_at "rn"
    exact ⟨i,rfl,jV (hs i hi),qq _ Ext.refl⟩
  refine ⟨D1,ns.map bf,_,rfl,cz.of (by rw [h1,List.map_map];rfl),by decide +kernel,by rw [List.length_map];exact hl,fun t ht=>?_,q _ x1⟩
  obtain ⟨i,hi,rfl⟩:=List.mem_map.mp ht
  exact bY (jV (hs i hi))
def Lj (K:PySem.W.Frag):Sp:=fun vs H Q _=>∃ T a b c pl,vs=[.ref T]∧tupQ K H T=some [.int a,.int b,.int c,.str pl]∧cW [a,b,c]∧pl.length≤101∧∀ H',Ext K H H'→Q (.str (lZ a b c pl)) H'
theorem gC:aG ["rule","tray","fan","rows","plan"] ["rule"] (aj gc):=⟨rfl,rfl,rfl,by decide +kernel,rfl,by decide +kernel,by decide +kernel⟩
theorem wZ {f:Addr} {fd:FuncData} (F:fL K "rule_text" "rule_text" gc f fd) {cF cR cB ak aq aP:Addr} {tE t1 t2 t3 t4 tP tQ:Tok} (B:B K mg cF cR cB ak aq aP tE t1 t2 t3 t4 tP tQ) (aI:Callee P w K mg base "figures_of" 1 ["number"] tH):aT P w K mg base eK 2 f fd ["rule"] (Lj K):=by
  refine F.iC gC (fun vs H Q E h=>?_) (fun cE A outer s H vs Q E hr h=>?_)
  · obtain ⟨T,a,b,c,pl,rfl,_⟩:=h
    rfl
  obtain ⟨T,a,b,c,pl,rfl,hT,hs,hp,q⟩:=h
  refine ⟨_,(aD (uB (ev 0) (sI (n:=4) rfl (cj (bF (i:=1) gC.nd rfl (Or.inl rfl)) (cj (bF (i:=2) gC.nd rfl (Or.inl rfl)) (cj (bF (i:=3) gC.nd rfl (Or.inl rfl)) (cj (bF (i:=4) gC.nd rfl (Or.inl rfl)) uC))))))
      (aV (bT (CL PySem.F.plainAttrs_str PySem.F.slot_str_join PySem.F.type_str_join oO bL (aa (bB (aa (aM aI (hr.mono (by decide)) rfl (aa (ev 1) ay)) (aa (aM aI (hr.mono (by decide)) rfl (aa (ev 2) ay)) (aa (aM aI (hr.mono (by decide)) rfl (aa (ev 3) ay)) (aa (ev 4) ay))))) ay))))),?_⟩
  try walk_at "rn"
  have ha:=jV (hs a (by simp))
  have hb:=jV (hs b (by simp))
  have hc:=jV (hs c (by simp))
  refine ⟨_,hT,rfl,_,_,rfl,_,_,rfl,_,_,rfl,_,_,rfl,rfl,a,rfl,ha,b,rfl,hb,c,rfl,hc,fun p np=>⟨[bf a,bf b,bf c,pl],cz.of ai,?_,?_,q _ (Ext.new np)⟩⟩
  all_goals
    have l0:∀ t∈[bf a,bf b,bf c,pl],t.length≤101:=by
      intro t ht
      simp only [List.mem_cons,List.not_mem_nil,or_false] at ht
      rcases ht with rfl | rfl | rfl | rfl
      · exact bY ha
      · exact bY hb
      · exact bY hc
      · exact hp
    have l1:=vH (sep:=Str.ofString ",") _ l0
    have l2:=join_le (sep:=Str.ofString ",") _ l0
    rw [show (Str.ofString ",").length=1 from by decide +kernel] at l1 l2
    simp only [List.length_cons,List.length_nil] at l1 l2
    omega
def Lk (K:PySem.W.Frag):Sp:=fun vs H Q _=>∃ T n1 n2 n3 n4 R a b c pl M ms,vs=[.ref T]∧tupQ K H T=some [.int n1,.int n2,.int n3,.int n4,.ref R,.ref M]∧tupQ K H R=some [.int a,.int b,.int c,.str pl]∧cz K H M (List.map V.int ms)∧
  cW [n1,n2,n3,n4]∧cW [a,b,c]∧pl.length≤101∧cW ms∧ms.length≤120000∧∀ H',Ext K H H'→Q (.str (BZ n1 n2 n3 n4 a b c pl ms)) H'
theorem dG:aG ["head","series","last","fresh","place","rule","marks","numbers"] ["head"] (aj gf):=⟨rfl,rfl,rfl,by decide +kernel,rfl,by decide +kernel,by decide +kernel⟩
theorem xh {f:Addr} {fd:FuncData} (F:fL K "head_text" "head_text" gf f fd) {cF cR cB ak aq aP:Addr} {tE t1 t2 t3 t4 tP tQ:Tok} (B:B K mg cF cR cB ak aq aP tE t1 t2 t3 t4 tP tQ) (aI:Callee P w K mg base "figures_of" 1 ["number"] tH) (jm:Callee P w K mg base "rule_text" 2 ["rule"] (Lj K)) (gE:Callee P w K mg base "numbers_text" 2 ["numbers"] (Li K)):aT P w K mg base eK 3 f fd ["head"] (Lk K):=by
  refine F.iC dG (fun vs H Q E h=>?_) (fun cE A outer s H vs Q E hr h=>?_)
  · obtain ⟨T,n1,n2,n3,n4,R,a,b,c,pl,M,ms,rfl,_⟩:=h
    rfl
  obtain ⟨T,n1,n2,n3,n4,R,a,b,c,pl,M,ms,rfl,hT,hR,hM,h1,h2,hp,h3,hl,q⟩:=h
  refine ⟨_,(aD (uB (ev 0) (sI (n:=6) rfl (cj (bF (i:=1) dG.nd rfl (Or.inl rfl)) (cj (bF (i:=2) dG.nd rfl (Or.inl rfl)) (cj (bF (i:=3) dG.nd rfl (Or.inl rfl)) (cj (bF (i:=4) dG.nd rfl (Or.inl rfl)) (cj (bF (i:=5) dG.nd rfl (Or.inl rfl)) (cj (bF (i:=6) dG.nd rfl (Or.inl rfl)) uC))))))))
      (aD (slc (i:=7) dG.nd rfl (Or.inl rfl) (m8.mk (N:=["number"]) (src:=[none]) rfl rfl) rfl (MR (fz (aa (ev 1) (aa (ev 2) (aa (ev 3) (aa (ev 4) ay)))))) (fun _ _ _ _=>(bF (i:=0) (show (["number"]:List Str).Nodup from by decide +kernel) rfl (Or.inl rfl))) (fun _ _ _ _=>m9) (fun _ _ _ _=>(aM aI (hr.mono (by decide)) rfl (aa (ev 0) ay))))
      (aV (bT (CL PySem.F.plainAttrs_str PySem.F.slot_str_join PySem.F.type_str_join oO bL (aa (iW mO (iW mO (bB (aa bL ay)) (ev 7)) (bB (aa (aM jm (hr.mono (by decide)) rfl (aa (ev 5) ay)) (aa (aM gE (hr.mono (by decide)) rfl (aa (ev 6) ay)) ay)))) ay)))))),?_⟩
  try walk_at "rn"
  refine ⟨_,hT,rfl,_,_,rfl,_,_,rfl,_,_,rfl,_,_,rfl,_,_,rfl,_,_,rfl,rfl,fun p np=>⟨⟨_,cH aN⟩,fun D nD=>?_⟩⟩
  have xp:=Ext.new (K:=K) (o:=.tup [V.int n1,V.int n2,V.int n3,V.int n4]) np
  refine zH (f:=V.int) (g:=fun i=>V.str (bf i)) (L:=[n1,n2,n3,n4]) aN nD (by simp) (fun i hi H' Q' xx qq=>?_) (fun G hD x1=>?_)
  · try walk_at "rn"
    exact ⟨i,rfl,jV (h1 i hi),qq _ Ext.refl⟩
  intro p1 m1
  have y1:=Ext.new (K:=K) (o:=.lst [V.str "head"]) m1
  refine ⟨_,y1.at hD,by simp,fun p2 m2=>?_⟩
  have y2:=Ext.new (K:=K) (o:=.lst (V.str "head"::List.map (fun i=>V.str (bf i)) [n1,n2,n3,n4])) m2
  have xx:=xp.trans (x1.trans (y1.trans y2))
  have e2:=ai (H:=upd G p1 (.lst [V.str "head"])) (a:=p2) (o:=.lst (V.str "head"::List.map (fun i=>V.str (bf i)) [n1,n2,n3,n4]))
  generalize upd (upd G p1 (.lst [V.str "head"])) p2 (.lst (V.str "head"::List.map (fun i=>V.str (bf i)) [n1,n2,n3,n4]))=G2 at xx e2 ⊢
  refine ⟨R,a,b,c,pl,rfl,xx.tup hR,h2,hp,fun H4 x4=>⟨M,ms,rfl,(xx.trans x4).same.seq hM,hl,h3,fun H5 x5 p3 m3=>?_⟩⟩
  have y3:=Ext.new (K:=K) (o:=.lst [V.str (lZ a b c pl),V.str (qL ms)]) m3
  refine ⟨_,y3.at ((x4.trans x5).at e2),by simp,fun p4 m4=>⟨[Str.ofString "head",bf n1,bf n2,bf n3,bf n4,lZ a b c pl,qL ms],cz.of ai,?_,?_,q _ (xx.trans (x4.trans (x5.trans (y3.trans (Ext.new m4)))))⟩⟩
  · have:=(qc h1 h2 hp h3).1
    omega
  · have:=(qc h1 h2 hp h3).2
    exact Nat.le_trans this (by omega)
end
section
variable {P:Program} {w:World} {K:PySem.W.Frag} {mg:Str→Option Value} {base:Heap}
def HY:Sp:=fun _ _ _ _=>False
theorem Nl {k:Nat} {f:Addr} {fd:FuncData} {ps:List Str} {CX:uy}:aT P w K mg base CX k f fd ps HY:=
  ⟨fun _ _ _ _ h=>h.elim,fun _ _ _ _ _ _ _ _ _ _ _ _ _ h=>h.elim⟩
theorem zI {f:Addr} {fd:FuncData} (F:fL K "row_text" "row_text" i0 f fd) {cF cR cB ak aq aP:Addr} {tE t1 t2 t3 t4 tP tQ:Tok} (B:B K mg cF cR cB ak aq aP tE t1 t2 t3 t4 tP tQ):aT P w K mg base eK 3 f fd ["row"] HY:=Nl
def aX (b:Str):Str:=bf b.length++Str.ofString " "++b
def HZ:Sp:=fun vs H Q _=>∃ b:Str,vs=[.str b]∧b.length≤10000∧Q (.str (aX b)) H
theorem mV {n:Nat} (h:n≤10000):(n:Int).natAbs < 10 ^ 100:=by
  have:(10000:Nat) < 10 ^ 100:=by decide
  omega
theorem A0:aG ["body"] ["body"] (aj iS):=⟨rfl,rfl,rfl,by decide +kernel,rfl,by decide +kernel,by decide +kernel⟩
theorem A2 {f:Addr} {fd:FuncData} (F:fL K "page_of" "page_of" iS f fd) {cF cR cB ak aq aP:Addr} {tE t1 t2 t3 t4 tP tQ:Tok} (B:B K mg cF cR cB ak aq aP tE t1 t2 t3 t4 tP tQ) (aI:Callee P w K mg base "figures_of" 1 ["number"] tH):aT P w K mg base eK 2 f fd ["body"] HZ:=by
  refine F.iC A0 (fun vs H Q E h=>?_) (fun cE A outer s H vs Q E hr h=>?_)
  · obtain ⟨b,rfl,_⟩:=h
    rfl
  obtain ⟨b,rfl,hb,q⟩:=h
  refine ⟨_,(aV (bT (iW fR (iW fR (aM aI (hr.mono (by decide)) rfl (aa (bw oB rfl B.len j7 (aa (ev 0) ay)) ay)) bL) (ev 0)))),?_⟩
  try walk_at "rn"
  have l1:=bY (mV hb)
  have l2:(Str.ofString " ").length=1:=by decide +kernel
  refine ⟨by omega,_,rfl,mV hb,_,rfl,by omega,by rw [Str.length_append];omega,q⟩
def EU (K:PySem.W.Frag):Sp:=fun vs H Q _=>∃ T Rw p,vs=[.ref T,.ref p]∧tupQ K H T=some [.str (Str.ofString "leaf"),.int 0,.ref Rw]∧H Rw=some (.lst [])∧∀ H',Ext K H H'→Q (.str (Str.ofString "leaf 0 -")) H'
theorem iF:aG ["room","places","word","number","rows","pivots","children","tray","spots","notes"] ["room","places"] (aj gb):=⟨rfl,rfl,rfl,by decide +kernel,rfl,by decide +kernel,by decide +kernel⟩
theorem xj {f:Addr} {fd:FuncData} (F:fL K "room_text" "room_text" gb f fd) {cF cR cB ak aq aP:Addr} {tE t1 t2 t3 t4 tP tQ:Tok} (B:B K mg cF cR cB ak aq aP tE t1 t2 t3 t4 tP tQ) (aI:Callee P w K mg base "figures_of" 1 ["number"] tH) (dU:Callee P w K mg base "list_text" 1 ["texts","sign"] (HX K)) (kC:Callee P w K mg base "row_text" 3 ["row"] HY):aT P w K mg base eK 4 f fd ["room","places"] (EU K):=by
  refine F.iC iF (fun vs H Q E h=>?_) (fun cE A outer s H vs Q E hr h=>?_)
  · obtain ⟨T,Rw,p,rfl,_⟩:=h
    rfl
  obtain ⟨T,Rw,p,rfl,hT,hR,q⟩:=h
  refine ⟨_,(aD (nF (iX jf (jF dW (ev 0) ei (fun _ _=>rfl)) bL (bS _)) (aD (uB (ev 0) (sI (n:=3) rfl (cj (bF (i:=2) iF.nd rfl (Or.inl rfl)) (cj (bF (i:=3) iF.nd rfl (Or.inl rfl)) (cj (bF (i:=4) iF.nd rfl (Or.inl rfl)) uC)))))
      (aV (bT (CL PySem.F.plainAttrs_str PySem.F.slot_str_join PySem.F.type_str_join oO bL (aa (bB (aa (ev 2) (aa (aM aI (hr.mono (by decide)) rfl (aa (ev 3) ay)) (aa (aM dU (hr.mono (by decide)) rfl (aa (LU (m8.mk (N:=["row"]) (src:=[none]) rfl rfl) rfl (sG (ev 4)) (fun _ _ _ _=>(bF (i:=0) (show (["row"]:List Str).Nodup from by decide +kernel) rfl (Or.inl rfl))) (fun _ _ _ _=>m9) (fun _ _ _ _=>(aM kC (hr.mono (by decide)) rfl (aa (ev 0) ay)))) (aa bL ay))) ay)))) ay))))) gy)
      (aD jx
      (aD jx
      (aD jx
      (aV jx))))),?_⟩
  simp_arith [cU hT]
  refine ⟨_,hT,rfl,_,_,rfl,_,_,rfl,_,_,rfl,rfl,0,rfl,by decide,Rw,rfl,⟨_,cz.of hR⟩,fun D nD=>?_⟩
  refine BY (α:=Int) (L:=[]) (f:=V.int) (g:=V.int) (cz.of hR) nD (by simp) (fun i hi=>by cases hi) (fun G hD x1=>?_)
  refine ⟨D,[],_,rfl,cz.of hD,by decide +kernel,by simp,fun t m=>by (cases m),fun p2 n2=>?_⟩
  refine ⟨[Str.ofString "leaf",bf 0,vI (Str.ofString ";") []],cz.of ai,by decide +kernel,by decide +kernel,?_⟩
  rw [show Str.join (Str.ofString " ") [Str.ofString "leaf",bf 0,vI (Str.ofString ";") []]=Str.ofString "leaf 0 -" from by decide +kernel]
  exact q _ (x1.trans (Ext.new n2))
end
section
variable {P:Program} {w:World} {K:PySem.W.Frag} {mg:Str→Option Value} {base:Heap}
theorem qd {v:V} {h:Addr}:List.lookup ("house":Str) (EO v h)=some (.ref h):=by
  have k1:(("house":Str)=="rule")=false:=by decide +kernel
  have k2:(("house":Str)=="last")=false:=by decide +kernel
  simp only [EO,List.lookup,beq_self_eq_true,k1,k2]
theorem EV {v:V} {k lf t:Addr}:List.lookup ("kept":Str) (Gm v k lf t)=some (.ref k):=by
  have k1:(("kept":Str)=="rule")=false:=by decide +kernel
  simp only [Gm,List.lookup,beq_self_eq_true,k1]
def xo (K:PySem.W.Frag) (aA av ak:Addr):Sp:=fun vs H Q _=>∃ x dx h dh k lf dl r t v,vs=[.ref x]∧qW K H aA av ak x dx h dh k lf dl r t v∧∀ D H',new K H D→H' D=some (.lst [])→Ext K H H'→Q (.ref D) H'
theorem tK:aG ["self"] ["self"] (aj d8):=⟨rfl,rfl,rfl,by decide +kernel,rfl,by decide +kernel,by decide +kernel⟩
theorem tL {f aA av:Addr} {fd:FuncData} (F:fL K "marks" "Store.marks" d8 f fd) {cF cR cB ak aq aP:Addr} {tE t1 t2 t3 t4 tP tQ:Tok} (B:B K mg cF cR cB ak aq aP tE t1 t2 t3 t4 tP tQ) (bu:iu K aA) (iD:aK K aA "house") (dF:iu K av) (EW:aK K av "kept"):aT P w K mg base eK 1 f fd ["self"] (xo K aA av ak):=by
  refine F.iC tK (fun vs H Q E h=>?_) (fun cE A outer s H vs Q E hr h=>?_)
  · obtain ⟨x,dx,h,dh,k,lf,dl,r,t,v,rfl,_⟩:=h
    rfl
  obtain ⟨x,dx,h,dh,k,lf,dl,r,t,v,rfl,st,q⟩:=h
  refine ⟨_,(aV (bT (fM (iZ K) rfl B.list jj (aa (gU (gU (ev 0))) ay)))),?_⟩
  try walk_at "rn"
  refine ⟨_,_,_,st.ins,bu,iD,_,qd,_,rfl,_,_,_,st.hs.ins,dF,EW,_,EV,_,rfl,_,bX st.hs.kept,fun D nD=>q D _ nD ai (.new nD)⟩
theorem xq {H G:Hp} {W:Addr} {o:HO} (x:Ext K H G) (n:new K H W):Ext K H (upd G W o):=by
  refine ⟨fun b u e=>?_,fun b xs e k=>?_⟩
  · rw [ao (aJ e n.1)]
    exact x.at e
  · rw [ao (fun z=>by rw [z,n.2] at k;cases k)]
    exact x.mod b xs e k
theorem Ia {c D:Addr} {g:TG} {tt:TT} {te:TE} {Q:Hp→Prop} {σ:St} {H:Hp} (hk:cz K H c []) (nD:new K H D) (fin:∀ H',H' D=some (.lst [])→Ext K H H'→Q H'):eu (Cd K c) g tt te D Q σ (upd H D (.lst [])):=by
  refine wm (xs:=[]) (fun i acc σ' H'=>acc=[]∧H' D=some (.lst [])∧Kp K D (upd H D (.lst [])) H') ⟨rfl,ai,Kp.refl⟩ ?_ ?_ ?_
  · rintro i acc σ' H' _ ⟨_,hD,k⟩
    exact (k.ext nD).same.seq hk
  · rintro i x acc σ' H' hx
    cases hx
  · rintro acc σ' H' ⟨rfl,hD,k⟩
    exact fin H' hD (k.ext nD)
theorem Di {a b:V}:List.lookup ("number":Str) [(("number":Str),a),(("rows":Str),b)]=some a:=by
  simp only [List.lookup,beq_self_eq_true]
theorem Ib {a b:V}:List.lookup ("rows":Str) [(("number":Str),a),(("rows":Str),b)]=some b:=by
  have k1:(("rows":Str)=="number")=false:=by decide +kernel
  simp only [List.lookup,beq_self_eq_true,k1]
def EX (K:PySem.W.Frag):Sp:=fun vs H Q _=>∃ r,vs=[.ref r]∧H r=some (.lst [])∧∀ D H',H' D=some (.lst [])→new K H D→Ext K H H'→Q (.ref D) H'
theorem zJ:aG ["rows"] ["rows"] (aj gX):=⟨rfl,rfl,rfl,by decide +kernel,rfl,by decide +kernel,by decide +kernel⟩
theorem zK {f:Addr} {fd:FuncData} (F:fL K "own_rows" "own_rows" gX f fd) {cF cR cB ak aq aP:Addr} {tE t1 t2 t3 t4 tP tQ:Tok} (B:B K mg cF cR cB ak aq aP tE t1 t2 t3 t4 tP tQ):aT P w K mg base eK 1 f fd ["rows"] (EX K):=by
  refine F.iC zJ (fun vs H Q E h=>?_) (fun cE A outer s H vs Q E hr h=>?_)
  · obtain ⟨r,rfl,_⟩:=h
    rfl
  obtain ⟨r,rfl,hr',q⟩:=h
  refine ⟨_,(aV (bT (LU (m8.mk (N:=["key","versions"]) (src:=[none,none]) rfl rfl) rfl (sG (ev 0)) (fun _ _ _ _=>(wo K (n:=2) rfl (cj (bF (i:=0) (show (["key","versions"]:List Str).Nodup from by decide +kernel) rfl (Or.inl rfl)) (cj (bF (i:=1) (show (["key","versions"]:List Str).Nodup from by decide +kernel) rfl (Or.inl rfl)) uC)))) (fun _ _ _ _=>m9) (fun _ _ _ _=>(K0 K (aa (ev 0) (aa (fM (iZ K) rfl B.list jj (aa (ev 1) ay)) ay))))))),?_⟩
  try walk_at "rn"
  refine ⟨⟨_,cz.of hr'⟩,fun D nD=>Ia (cz.of hr') nD fun H' hD x=>q D H' hD nD x⟩
def A3 (K:PySem.W.Frag) (ak:Addr):Sp:=fun vs H Q _=>∃ lf dl r,vs=[.ref lf]∧H lf=some (.ins ak dl [(("number":Str),.int 0),(("rows":Str),.ref r)])∧H r=some (.lst [])∧∀ T D H',tupQ K H' T=some [.str (Str.ofString "leaf"),.int 0,.ref D]→H' D=some (.lst [])→new K H D→Ext K H H'→Q (.ref T) H'
theorem xu:aG ["room","numbers"] ["room"] (aj gj):=⟨rfl,rfl,rfl,by decide +kernel,rfl,by decide +kernel,by decide +kernel⟩
theorem xE {f:Addr} {fd:FuncData} (F:fL K "room_told" "room_told" gj f fd) {cF cR cB ak aq aP:Addr} {tE t1 t2 t3 t4 tP tQ:Tok} (B:B K mg cF cR cB ak aq aP tE t1 t2 t3 t4 tP tQ) (kF:Callee P w K mg base "own_rows" 1 ["rows"] (EX K)) (fS:iu K ak) (lT:aK K ak "number") (sY:aK K ak "rows"):aT P w K mg base eK 2 f fd ["room"] (A3 K ak):=by
  refine F.iC xu (fun vs H Q E h=>?_) (fun cE A outer s H vs Q E hr h=>?_)
  · obtain ⟨lf,dl,r,rfl,_⟩:=h
    rfl
  obtain ⟨lf,dl,r,rfl,hl,hr',q⟩:=h
  refine ⟨_,(aD (nF (iY (bw oU rfl B.isinstance aH (aa (ev 0) (aa (kU rfl B.R6 B.HS) ay)))) (aV (bT (fz (aa bL (aa (gU (ev 0)) (aa (aM kF (hr.mono (by decide)) rfl (aa (gU (ev 0)) ay)) ay)))))) gy)
      (aD jx
      (aV jx))),?_⟩
  try walk_at "rn"
  refine ⟨_,.ins hl fS B.lC.1 B.lC.2.1 B.lC.2.2.1 B.lC.2.2.2,true,B.kL,?_⟩
  rw [if_pos rfl]
  refine ⟨_,_,_,hl,fS,lT,_,Di,_,_,_,hl,fS,sY,_,Ib,r,rfl,hr',fun D H1 hD nD x1 T nT=>?_⟩
  exact q T D _ aN ((Ext.new nT).at hD) nD (x1.trans (Ext.new nT))
def EY (K:PySem.W.Frag) (ak:Addr):Sp:=fun vs H Q _=>∃ lf dl r,vs=[.ref lf]∧H lf=some (.ins ak dl [(("number":Str),.int 0),(("rows":Str),.ref r)])∧∀ D T H',H' D=some (.lst [.ref T])→tupQ K H' T=some [.ref lf,.int 0,.int 1000000000000]→Ext K H H'→Q (.ref D) H'
theorem fq:aG ["top","told","waiting","room","low","high"] ["top"] (aj gi):=⟨rfl,rfl,rfl,by decide +kernel,rfl,by decide +kernel,by decide +kernel⟩
theorem xO {f:Addr} {fd:FuncData} (F:fL K "all_rooms" "all_rooms" gi f fd) {cF cR cB ak aq aP:Addr} {tE t1 t2 t3 t4 tP tQ:Tok} (B:B K mg cF cR cB ak aq aP tE t1 t2 t3 t4 tP tQ) (fS:iu K ak):aT P w K mg base eK 3 f fd ["top"] (EY K ak):=by
  refine F.iC fq (fun vs H Q E h=>?_) (fun cE A outer s H vs Q E hr h=>?_)
  · obtain ⟨lf,dl,r,rfl,_⟩:=h
    rfl
  obtain ⟨lf,dl,r,rfl,hl,q⟩:=h
  refine ⟨_,(aD (sset (i:=1) fq.nd rfl (Or.inl rfl) (bB ay))
      (aD (sset (i:=2) fq.nd rfl (Or.inl rfl) (bB (aa (fz (aa (ev 0) (aa ei (aa (kU rfl B.END B.Lg) ay)))) ay)))
      (aD (Ec PassesOwn.never (Az (ev 2) (fun _=>rfl))
        (aD (uB (RJ PySem.F.plainAttrs_list PySem.F.slot_list_pop PySem.F.type_list_pop KH (ev 2)) (sI (n:=3) rfl (cj (bF (i:=3) fq.nd rfl (Or.inl rfl)) (cj (bF (i:=4) fq.nd rfl (Or.inl rfl)) (cj (bF (i:=5) fq.nd rfl (Or.inl rfl)) uC)))))
      (aD (fE (CL PySem.F.plainAttrs_list PySem.F.slot_list_append PySem.F.type_list_append fV (ev 1) (aa (fz (aa (ev 3) (aa (ev 4) (aa (ev 5) ay)))) ay)))
      (aV (nF (iY (bw oU rfl B.isinstance aH (aa (ev 3) (aa (kU rfl B.Inner B.EK) ay)))) (aV jx) gy)))))
      (aV (bT (ev 1)))))),?_⟩
  try walk_at "rn"
  intro p np t nt l nl
  have xp:=Ext.new (K:=K) (o:=.lst []) np
  have xt:=Ext.new (K:=K) (o:=.tup [V.ref lf,V.int 0,V.int 1000000000000]) nt
  have xl:=Ext.new (K:=K) (o:=.lst [V.ref t]) nl
  have Ic:=(xt.trans xl).at (ai (H:=H) (a:=p) (o:=.lst []))
  have Gp:tupQ K _ t=some [V.ref lf,V.int 0,V.int 1000000000000]:=xl.tup aN
  have Ie:=ai (H:=upd (upd H p (.lst [])) t (.tup [V.ref lf,V.int 0,V.int 1000000000000])) (a:=l) (o:=.lst [V.ref t])
  have x3:=xp.trans (xt.trans xl)
  have npl:p≠l:=fun e=>by
    have:=xt.at (ai (H:=H) (a:=p) (o:=.lst []))
    have z:=nl.1
    rw [← e,this] at z
    cases z
  have nl0:new K H l:=br (xp.trans xt) nl
  generalize upd (upd (upd H p (.lst [])) t (.tup [V.ref lf,V.int 0,V.int 1000000000000])) l (.lst [V.ref t])=H3 at Ic Gp Ie x3 ⊢
  refine ⟨fun m σ H'=>(m=1∧σ=[some (V.ref lf),some (V.ref p),some (V.ref l),none,none,none]∧H'=H3)∨(m=0∧∃ v3 v4 v5 T,σ=[some (V.ref lf),some (V.ref p),some (V.ref l),v3,v4,v5]∧H' l=some (.lst [])∧H' p=some (.lst [.ref T])∧tupQ K H' T=some [.ref lf,.int 0,.int 1000000000000]∧Ext K H H'),⟨1,.inl ⟨rfl,rfl,rfl⟩⟩,?_⟩
  rintro m σ H' (⟨rfl,rfl,rfl⟩ | ⟨rfl,v3,v4,v5,T,rfl,h1,h2,h3,h4⟩)
  · try walk_at "rn"
    refine ⟨_,.inl ⟨_,cz.of Ie,rfl⟩,?_⟩
    try walk_at "rn"
    have ptl:∀ {o:HO},tupQ K (upd H' l o) t=some [V.ref lf,V.int 0,V.int 1000000000000]:=(gA (fun e=>by
      have z:=cH Gp
      rw [e] at Gp
      unfold tupQ at Gp
      rw [Ie] at Gp
      cases Gp)).trans Gp
    refine oK rfl ⟨fun σ G=>∃ v3 v4 v5 T,σ=[some (V.ref lf),some (V.ref p),some (V.ref l),v3,v4,v5]∧G l=some (.lst [])∧G p=some (.lst [.ref T])∧tupQ K G T=some [.ref lf,.int 0,.int 1000000000000]∧Ext K H G,fun σ' G h=>⟨0,by decide,.inr ⟨rfl,?_⟩⟩,.inl ⟨_,cz.of Ie⟩,_,Ie,_,rfl,t,rfl,_,ptl,rfl,_,_,rfl,_,_,rfl,_,_,rfl,rfl,?_⟩
    · obtain ⟨v3,v4,v5,T,h⟩:=h
      exact ⟨v3,v4,v5,h.1,h.2.1,T,h.2.2⟩
    have EZ:upd H' l (.lst [V.ref t].dropLast) p=some (.lst []):=(ao npl).trans Ic
    have hl4:upd H' l (.lst [V.ref t].dropLast) l=some (.lst []):=ai
    have x4:Ext K H (upd H' l (.lst [V.ref t].dropLast)):=xq x3 nl0
    have hf4:upd H' l (.lst [V.ref t].dropLast) lf=_:=x4.at hl
    generalize upd H' l (.lst [V.ref t].dropLast)=H4 at EZ hl4 x4 hf4 ⊢
    refine ⟨.inl ⟨_,cz.of EZ⟩,fun T nT=>?_⟩
    have x5:=Ext.new (K:=K) (o:=.tup [V.ref lf,V.int 0,V.int 1000000000000]) nT
    have Gq:=x5.at EZ
    have hl5:=x5.at hl4
    have hf5:=x5.at hf4
    have tT5:tupQ K (upd H4 T (.tup [V.ref lf,V.int 0,V.int 1000000000000])) T=_:=aN
    have xx:=x4.trans x5
    have R9:new K H p:=np
    generalize upd H4 T (.tup [V.ref lf,V.int 0,V.int 1000000000000])=H5 at Gq hl5 hf5 tT5 xx ⊢
    have x6:Ext K H (upd H5 p (.lst ([]++[V.ref T]))):=xq xx R9
    have nTp:T≠p:=fun e=>by
      have z:=nT.1
      rw [e,EZ] at z
      cases z
    refine ⟨_,Gq,by simp,_,.ins (x6.at hl) fS B.lC.1 B.lC.2.1 B.lC.2.2.1 B.lC.2.2.2,false,B.kI,gO (by decide) ⟨_,_,_,T,rfl,(ao npl.symm).trans hl5,ai,(gA nTp).trans tT5,x6⟩⟩
  · try walk_at "rn"
    refine ⟨_,.inl ⟨_,cz.of h1,rfl⟩,?_⟩
    try walk_at "rn"
    exact q p T H' h2 h3 h4
theorem zL {v:V} {h:Addr}:List.lookup ("rule":Str) (EO v h)=some v:=by
  simp only [EO,List.lookup,beq_self_eq_true]
theorem E3 {v:V} {h:Addr}:List.lookup ("last":Str) (EO v h)=some (.int 0):=by
  have k1:(("last":Str)=="rule")=false:=by decide +kernel
  simp only [EO,List.lookup,beq_self_eq_true,k1]
theorem Dj {v:V} {k lf t:Addr}:List.lookup ("fresh":Str) (Gm v k lf t)=some (.int 1):=by
  have k1:(("fresh":Str)=="rule")=false:=by decide +kernel
  have k2:(("fresh":Str)=="kept")=false:=by decide +kernel
  simp only [Gm,List.lookup,beq_self_eq_true,k1,k2]
theorem Ig {v:V} {k lf t:Addr}:List.lookup ("top":Str) (Gm v k lf t)=some (.ref lf):=by
  have k1:(("top":Str)=="rule")=false:=by decide +kernel
  have k2:(("top":Str)=="kept")=false:=by decide +kernel
  have k3:(("top":Str)=="fresh")=false:=by decide +kernel
  simp only [Gm,List.lookup,beq_self_eq_true,k1,k2,k3]
theorem qe {v:V} {h:Addr} {m:Str} (k1:(m=="rule")=false) (k2:(m=="last")=false) (k3:(m=="house")=false) (k4:(m=="runs")=false):List.lookup m (EO v h)=none:=by
  simp only [EO,List.lookup,k1,k2,k3,k4]
def tN (K:PySem.W.Frag) (H:Hp) (Rl:Addr):Prop:=∃ T D,H Rl=some (.lst [.ref T])∧tupQ K H T=some [.str (Str.ofString "leaf"),.int 0,.ref D]∧H D=some (.lst [])
theorem tN.ext {H H':Hp} {Rl:Addr} (h:tN K H Rl) (x:Ext K H H'):tN K H' Rl:=by
  obtain ⟨T,D,h1,h2,h3⟩:=h
  exact ⟨T,D,x.at h1,x.tup h2,x.at h3⟩
def A4 (K:PySem.W.Frag) (ak:Addr):Sp:=fun vs H Q _=>∃ lf dl r,vs=[.ref lf]∧H lf=some (.ins ak dl [(("number":Str),.int 0),(("rows":Str),.ref r)])∧H r=some (.lst [])∧∀ Rl H',new K H Rl→tN K H' Rl→Ext K H H'→Q (.ref Rl) H'
theorem A5:aG ["top"] ["top"] (aj iT):=⟨rfl,rfl,rfl,by decide +kernel,rfl,by decide +kernel,by decide +kernel⟩
theorem A6 {f:Addr} {fd:FuncData} (F:fL K "roll_of" "roll_of" iT f fd) {cF cR cB ak aq aP:Addr} {tE t1 t2 t3 t4 tP tQ:Tok} (B:B K mg cF cR cB ak aq aP tE t1 t2 t3 t4 tP tQ) (jn:Callee P w K mg base "room_told" 2 ["room"] (A3 K ak)) (jo:Callee P w K mg base "all_rooms" 3 ["top"] (EY K ak)):aT P w K mg base eK 4 f fd ["top"] (A4 K ak):=by
  refine F.iC A5 (fun vs H Q E h=>?_) (fun cE A outer s H vs Q E hr h=>?_)
  · obtain ⟨lf,dl,r,rfl,_⟩:=h
    rfl
  obtain ⟨lf,dl,r,rfl,hl,hr',q⟩:=h
  refine ⟨_,(aV (bT (LU (m8.mk (N:=["room","low","high"]) (src:=[none,none,none]) rfl rfl) rfl (sG (aM jo (hr.mono (by decide)) rfl (aa (ev 0) ay))) (fun _ _ _ _=>(wo K (n:=3) rfl (cj (bF (i:=0) (show (["room","low","high"]:List Str).Nodup from by decide +kernel) rfl (Or.inl rfl)) (cj (bF (i:=1) (show (["room","low","high"]:List Str).Nodup from by decide +kernel) rfl (Or.inl rfl)) (cj (bF (i:=2) (show (["room","low","high"]:List Str).Nodup from by decide +kernel) rfl (Or.inl rfl)) uC))))) (fun _ _ _ _=>m9) (fun _ _ _ _=>(aM jn (hr.mono (by decide)) rfl (aa (ev 0) ay)))))),?_⟩
  try walk_at "rn"
  refine ⟨lf,dl,r,rfl,hl,fun D T H1 hD hT x1=>⟨D,rfl,⟨_,cz.of hD⟩,fun E2 nE=>?_⟩⟩
  refine wm (xs:=[V.ref T]) (fun i acc σ' H'=>σ'.length=3∧Kp K E2 (upd H1 E2 (.lst [])) H'∧H' E2=some (.lst acc)∧((i=0∧acc=[])∨(i=1∧∃ T2 D2,acc=[.ref T2]∧tupQ K H' T2=some [.str (Str.ofString "leaf"),.int 0,.ref D2]∧H' D2=some (.lst [])))) ⟨rfl,Kp.refl,ai,.inl ⟨rfl,rfl⟩⟩ ?_ ?_ ?_
  · rintro i acc σ' H' _ ⟨_,k,_⟩
    exact (k.ext nE).same.seq (cz.of hD)
  · rintro i x acc σ' H' hx ⟨ls,k,hE,h⟩
    obtain ⟨v0,v1,v2,rfl⟩:∃ v0 v1 v2:Option V,σ'=[v0,v1,v2]:=by
      match σ',ls with
      | [a,b,c],_=>exact ⟨a,b,c,rfl⟩
    obtain rfl:i=0:=by
      have:=(List.getElem?_eq_some_iff.mp hx).1
      simp at this
      exact this
    obtain rfl:V.ref T=x:=by simpa using hx
    obtain rfl:acc=[]:=by
      rcases h with ⟨_,h⟩ | ⟨h,_⟩
      · exact h
      · cases h
    try walk_at "rn"
    have xk:=k.ext nE
    refine ⟨_,xk.tup hT,rfl,_,_,rfl,_,_,rfl,_,_,rfl,rfl,lf,dl,r,rfl,(x1.trans xk).at hl,(x1.trans xk).at hr',fun T2 D2 H4 hT2 PC nD2 x4=>?_⟩
    have Sb:=x4.at hE
    refine ⟨Sb,k.trans (x4.kp.trans (Kp.upd Sb)),.inr ⟨T2,rfl,D2,(gA (fun e=>?_)).trans hT2,(ao (fun e=>?_)).trans PC⟩⟩
    · rw [e] at hT2
      unfold tupQ at hT2
      rw [Sb] at hT2
      cases hT2
    · have z:=nD2.1
      rw [e,hE] at z
      cases z
  · rintro acc σ' H' ⟨_,k,hE,h⟩
    rcases h with ⟨h,_⟩ | ⟨_,T2,D2,rfl,h1,h2⟩
    · cases h
    · exact q E2 H' (br x1 nE) ⟨T2,D2,hE,h1,h2⟩ (x1.trans (k.ext nE))
def B0 (K:PySem.W.Frag) (aA av ak:Addr):Sp:=fun vs H Q _=>∃ x dx h dh k lf dl r t v,vs=[.ref x]∧qW K H aA av ak x dx h dh k lf dl r t v∧∀ I Mk Rl H',new K H Mk→new K H Rl→tupQ K H' I=some [v,.int 0,.ref Mk,.int 1,.ref Rl]→H' Mk=some (.lst [])→tN K H' Rl→Ext K H H'→Q (.ref I) H'
theorem tO:aG ["self"] ["self"] (aj d9):=⟨rfl,rfl,rfl,by decide +kernel,rfl,by decide +kernel,by decide +kernel⟩
theorem tR {f aA av:Addr} {fd:FuncData} (F:fL K "image" "Store.image" d9 f fd) {cF cR cB ak aq aP:Addr} {tE t1 t2 t3 t4 tP tQ:Tok} (B:B K mg cF cR cB ak aq aP tE t1 t2 t3 t4 tP tQ) (mW:Callee P w K mg base "roll_of" 4 ["top"] (A4 K ak)) (gF:bH P w K mg base aA "marks" 1 ["self"] [] (xo K aA av ak)) (bu:iu K aA) (lV:aK K aA "rule") (sZ:aK K aA "last") (iD:aK K aA "house") (dF:iu K av) (B3:aK K av "fresh") (Jh:aK K av "top"):aT P w K mg base eK 5 f fd ["self"] (B0 K aA av ak):=by
  refine F.iC tO (fun vs H Q E h=>?_) (fun cE A outer s H vs Q E hr h=>?_)
  · obtain ⟨x,dx,h,dh,k,lf,dl,r,t,v,rfl,_⟩:=h
    rfl
  obtain ⟨x,dx,h,dh,k,lf,dl,r,t,v,rfl,st,q⟩:=h
  refine ⟨_,(aV (bT (fz (aa (gU (ev 0)) (aa (gU (ev 0)) (aa (fC gF bu (hr.mono (by decide)) (ev 0)) (aa (gU (gU (ev 0))) (aa (aM mW (hr.mono (by decide)) rfl (aa (gU (gU (ev 0))) ay)) ay)))))))),?_⟩
  try walk_at "rn"
  refine ⟨_,_,_,st.ins,bu,lV,_,zL,_,_,_,st.ins,bu,sZ,_,E3,_,_,st.ins,qe (by decide +kernel) (by decide +kernel) (by decide +kernel) (by decide +kernel),x,dx,h,dh,k,lf,dl,r,t,v,rfl,st,fun Mk H1 nM hM x1=>?_⟩
  have Ih:=st.ext x1
  refine ⟨_,_,_,Ih.ins,bu,iD,_,qd,_,rfl,?_⟩
  refine ⟨_,_,_,Ih.hs.ins,dF,B3,_,Dj,_,_,_,Ih.ins,bu,iD,_,qd,_,rfl,_,_,_,Ih.hs.ins,dF,Jh,_,Ig,lf,dl,r,rfl,Ih.hs.leaf,Ih.hs.rows,fun Rl H2 nR hR x2 I nI=>?_⟩
  have xI:=Ext.new (K:=K) (o:=.tup [v,V.int 0,V.ref Mk,V.int 1,V.ref Rl]) nI
  exact q I Mk Rl _ nM (br x1 nR) aN ((x2.trans xI).at hM) (hR.ext xI) (x1.trans (x2.trans xI))
end
section
variable {P:Program} {w:World} {K:PySem.W.Frag} {mg:Str→Option Value} {base:Heap}
def kZ (a b c d:V):List (Str×V):=[(("store":Str),a),(("shelf":Str),b),(("series":Str),c),(("stands":Str),d)]
theorem Ii {a b c d:V}:bW "stands" d (bW "series" c (bW "shelf" b (bW "store" a [])))=kZ a b c d:=by
  have k1:¬ (("store":Str)="shelf"):=by decide +kernel
  have k2:¬ (("store":Str)="series"):=by decide +kernel
  have k3:¬ (("shelf":Str)="series"):=by decide +kernel
  have k4:¬ (("store":Str)="stands"):=by decide +kernel
  have k5:¬ (("shelf":Str)="stands"):=by decide +kernel
  have k6:¬ (("series":Str)="stands"):=by decide +kernel
  simp only [bW,k1,k2,k3,k4,k5,k6,if_false,kZ]
theorem qf {a b c d:V}:List.lookup ("store":Str) (kZ a b c d)=some a:=by
  simp only [kZ,List.lookup,beq_self_eq_true]
theorem mX {a b c d:V}:List.lookup ("shelf":Str) (kZ a b c d)=some b:=by
  have k1:(("shelf":Str)=="store")=false:=by decide +kernel
  simp only [kZ,List.lookup,beq_self_eq_true,k1]
theorem tS {a b c d:V}:List.lookup ("series":Str) (kZ a b c d)=some c:=by
  have k1:(("series":Str)=="store")=false:=by decide +kernel
  have k2:(("series":Str)=="shelf")=false:=by decide +kernel
  simp only [kZ,List.lookup,beq_self_eq_true,k1,k2]
theorem tT {a b c d:V}:List.lookup ("stands":Str) (kZ a b c d)=some d:=by
  have k1:(("stands":Str)=="store")=false:=by decide +kernel
  have k2:(("stands":Str)=="shelf")=false:=by decide +kernel
  have k3:(("stands":Str)=="series")=false:=by decide +kernel
  simp only [kZ,List.lookup,beq_self_eq_true,k1,k2,k3]
theorem A7 {a b c d:V} {m:Str} (k1:(m=="store")=false) (k2:(m=="shelf")=false) (k3:(m=="series")=false) (k4:(m=="stands")=false):List.lookup m (kZ a b c d)=none:=by
  simp only [kZ,List.lookup,k1,k2,k3,k4]
def nZ (aE:Addr):Sp:=fun vs H Q _=>∃ x dx a b c d,vs=[.ref x,a,b,c,d]∧H x=some (.ins aE dx [])∧Q .cG (upd H x (.ins aE dx (kZ a b c d)))
theorem qg:aG ["self","store","shelf","series","stands"] ["self","store","shelf","series","stands"] (aj dj):=⟨rfl,rfl,rfl,by decide +kernel,rfl,by decide +kernel,by decide +kernel⟩
theorem qh {f aE:Addr} {fd:FuncData} (F:fL K "__init__" "Kept.__init__" dj f fd) {cF cR cB ak aq aP:Addr} {tE t1 t2 t3 t4 tP tQ:Tok} (B:B K mg cF cR cB ak aq aP tE t1 t2 t3 t4 tP tQ) (bh:iu K aE) (iG:aK K aE "store") (fN:aK K aE "shelf") (jW:aK K aE "series") (gG:aK K aE "stands"):aT P w K mg base eK 1 f fd ["self","store","shelf","series","stands"] (nZ aE):=by
  refine F.iC qg (fun vs H Q E h=>?_) (fun cE A outer s H vs Q E hr h=>?_)
  · obtain ⟨x,dx,a,b,c,d,rfl,_⟩:=h
    rfl
  obtain ⟨x,dx,a,b,c,d,rfl,hx,q⟩:=h
  refine ⟨_,(aD (jd (ev 0) (ev 1))
      (aD (jd (ev 0) (ev 2))
      (aD (jd (ev 0) (ev 3))
      (aV (jd (ev 0) (ev 4)))))),?_⟩
  try walk_at "rn"
  have lp:∀ (f:Str) (y:V) (fs:List (Str×V)) (n:Nat),fs.length≤n→(bW f y fs).length≤n + 1:=fun f y fs n h=>by
    have:=eO f y fs
    omega
  refine ⟨_,_,_,hx,bh,iG,by decide,_,_,_,rfl,bh,fN,Nat.lt_of_le_of_lt (lp _ _ [] 0 (Nat.le_refl _)) (by decide),_,_,_,rfl,bh,jW,Nat.lt_of_le_of_lt (lp _ _ _ 1 (lp _ _ [] 0 (Nat.le_refl _))) (by decide),_,_,_,rfl,bh,gG,Nat.lt_of_le_of_lt (lp _ _ _ 2 (lp _ _ _ 1 (lp _ _ [] 0 (Nat.le_refl _)))) (by decide),?_⟩
  simp only [gw]
  rw [Ii]
  exact q
def xP (K:PySem.W.Frag):Sp:=fun vs H Q _=>∃ T D,vs=[.ref T]∧tupQ K H T=some [.str (Str.ofString "leaf"),.int 0,.ref D]∧∀ p,new K H p→Q (.ref p) (upd H p (.lst []))
theorem qi:aG ["room"] ["room"] (aj dg):=⟨rfl,rfl,rfl,by decide +kernel,rfl,by decide +kernel,by decide +kernel⟩
theorem qj {f:Addr} {fd:FuncData} (F:fL K "children_told" "children_told" dg f fd) {cF cR cB ak aq aP:Addr} {tE t1 t2 t3 t4 tP tQ:Tok} (B:B K mg cF cR cB ak aq aP tE t1 t2 t3 t4 tP tQ):aT P w K mg base eK 1 f fd ["room"] (xP K):=by
  refine F.iC qi (fun vs H Q E h=>?_) (fun cE A outer s H vs Q E hr h=>?_)
  · obtain ⟨T,D,rfl,_⟩:=h
    rfl
  obtain ⟨T,D,rfl,hT,q⟩:=h
  refine ⟨_,(aV (bT (Pf (iX jf (jF dW (ev 0) ei (fun _ _=>rfl)) bL (bS _)) (jF dW (ev 0) ei (fun _ _=>rfl)) (bB ay)))),?_⟩
  simp_arith [cU hT]
  exact gO (by decide +kernel) q
def Ll (H:Hp) (aE y dy:Addr) (a b:V) (n:Int) (d:Addr):Prop:=H y=some (.ins aE dy (kZ a b (.int n) (.ref d)))∧H d=some (.dK [])
def xQ (K:PySem.W.Frag) (aE:Addr):Sp:=fun vs H Q _=>∃ y dy a b n d t,vs=[.ref y,.int 0,.str t]∧Ll H aE y dy a b n d∧Q .cG H
theorem kH:aG ["self","number","body","other","place"] ["self","number","body"] (aj bE):=⟨rfl,rfl,rfl,by decide +kernel,rfl,by decide +kernel,by decide +kernel⟩
theorem kJ {f aE:Addr} {fd:FuncData} (F:fL K "standing_place" "Kept.standing_place" bE f fd) {cF cR cB ak aq aP:Addr} {tE t1 t2 t3 t4 tP tQ:Tok} (B:B K mg cF cR cB ak aq aP tE t1 t2 t3 t4 tP tQ) (bh:iu K aE) (gG:aK K aE "stands"):aT P w K mg base eK 1 f fd ["self","number","body"] (xQ K aE):=by
  refine F.iC kH (fun vs H Q E h=>?_) (fun cE A outer s H vs Q E hr h=>?_)
  · obtain ⟨y,dy,a,b,n,d,t,rfl,_⟩:=h
    rfl
  obtain ⟨y,dy,a,b,n,d,t,rfl,⟨hy,hd⟩,q⟩:=h
  refine ⟨_,(aD (nF (iX (C6 hr.units) (ev 1) (gU (ev 0)) (by with_unfolding_all rfl)) (aV (bT wc)) gy)
      (aD jx
      (aV jx))),?_⟩
  try walk_at "rn"
  refine ⟨_,_,_,hy,bh,gG,_,tT,?_⟩
  exact ⟨d,rfl,_,hd,oK rfl q⟩
def A8:Sp:=fun vs H Q _=>∃ d,vs=[.ref d]∧H d=some (.dK [])∧Q (.int 2) H
theorem jz:aG ["taken","place"] ["taken"] (aj fc):=⟨rfl,rfl,rfl,by decide +kernel,rfl,by decide +kernel,by decide +kernel⟩
theorem uO {f:Addr} {fd:FuncData} (F:fL K "free_place" "free_place" fc f fd) {cF cR cB ak aq aP:Addr} {tE t1 t2 t3 t4 tP tQ:Tok} (B:B K mg cF cR cB ak aq aP tE t1 t2 t3 t4 tP tQ):aT P w K mg base eK 1 f fd ["taken"] A8:=by
  refine F.iC jz (fun vs H Q E h=>?_) (fun cE A outer s H vs Q E hr h=>?_)
  · obtain ⟨d,rfl,_⟩:=h
    rfl
  obtain ⟨d,rfl,hd,q⟩:=h
  refine ⟨_,(aD (sset (i:=1) jz.nd rfl (Or.inl rfl) (kU rfl B.zq B.sW))
      (aD (Ec PassesOwn.never (iX (Eo hr.units) (ev 1) (ev 0) (by with_unfolding_all rfl))
        (aV (RQ (i:=1) jz.nd rfl (Or.inl rfl) ei JU)))
      (aV (bT (ev 1))))),?_⟩
  try walk_at "rn"
  refine ⟨fun m σ H'=>σ=[some (.ref d),some (.int 2)]∧H'=H,⟨0,rfl,rfl⟩,?_⟩
  rintro m σ H' ⟨rfl,rfl⟩
  try walk_at "rn"
  exact ⟨_,hd,gO (fun h=>by cases h) q⟩
def bQ (a b c:Int) (pl:Str):Str:=BZ 0 0 1 2 a b c pl []
theorem vK {a b c:Int} {pl:Str} (h:cW [a,b,c]) (hp:pl.length≤10):(bQ a b c pl).length≤900:=by
  have z:cW [(0:Int),0,1,2]:=by
    intro i hi
    simp only [List.mem_cons,List.not_mem_nil,or_false] at hi
    rcases hi with rfl | rfl | rfl | rfl <;> omega
  have z2:cW ([]:List Int):=fun i hi=>by cases hi
  exact Nat.le_trans (qc z h (show pl.length≤101 by omega) z2).2 (Nat.le_of_eq (by simp))
theorem bJ.ext' {H H':Hp} {C p dx a1 a2 a3:Addr} {s:Sh} {ws:List Addr} (sh:bJ K H C p dx a1 a2 a3 s ws) (x:Ext K H H'):bJ K H' C p dx a1 a2 a3 s ws:=⟨x.at sh.ins,x.at sh.d,x.at sh.w,x.at sh.d0,sh.Aa⟩
def tU (H:Hp) (ps:List Addr):Prop:=∀ q∈ps,∃ o,H q=some o∧(∀ xs,o≠.tup xs)∧∀ o' u,o≠.jt o' u
theorem g6.tup {H H':Hp} {ps:List Addr} {a:Addr} {xs:List V} (k:g6 K ps H H') (nt:tU H ps) (h:tupQ K H a=some xs):tupQ K H' a=some xs:=by
  unfold tupQ at h ⊢
  cases e:H a with
  | none=>
    rw [e] at h
    rw [k.mod a xs e h]
    exact h
  | some o=>
    rw [e] at h
    cases o with
    | tup ys=>
      rw [k.keep a _ e (fun m=>by
        obtain ⟨o,e',n,_⟩:=nt a m
        rw [e] at e'
        exact n ys (Option.some.inj e').symm)]
      exact h
    | _=>cases h
theorem bJ.qM {H:Hp} {C p dx a1 a2 a3:Addr} {s:Sh} {ws:List Addr} (sh:bJ K H C p dx a1 a2 a3 s ws):tU H [p,a1,a2]:=by
  intro q m
  simp only [List.mem_cons,List.not_mem_nil,or_false] at m
  rcases m with rfl | rfl | rfl
  · exact ⟨_,sh.ins,fun _ h=>(by cases h),fun _ _ h=>(by cases h)⟩
  · exact ⟨_,sh.d,fun _ h=>(by cases h),fun _ _ h=>(by cases h)⟩
  · exact ⟨_,sh.w,fun _ h=>(by cases h),fun _ _ h=>(by cases h)⟩
theorem tV {s:Sh} {k:Int} {t sg:Str}:(s.carry (.cA k t) sg).J=s.J∧(s.carry (.cA k t) sg).D.length≤s.D.length + 1:=by
  show (if sg="" then s else { s with D:=putD s.D k sg }).J=s.J∧(if sg="" then s else { s with D:=putD s.D k sg }).D.length≤s.D.length + 1
  by_cases h:sg=""
  · rw [if_pos h]
    exact ⟨rfl,by omega⟩
  · rw [if_neg h]
    refine ⟨rfl,?_⟩
    show (putD s.D k sg).length≤_
    unfold putD
    split
    · rw [List.length_map];omega
    · rw [List.length_append];simp
theorem Ij {H:Hp} {C C' y dy p dx a1 a2 a3:Addr} {s:Sh} {ws:List Addr} {a b c d:V} (hy:H y=some (.ins C' dy (kZ a b c d))) (sh:bJ K H C p dx a1 a2 a3 s ws):y∉[p,a1,a2]:=by
  intro m
  simp only [List.mem_cons,List.not_mem_nil,or_false] at m
  rcases m with rfl | rfl | rfl
  · rw [sh.ins] at hy
    have e:=Option.some.inj hy
    simp only [HO.ins.injEq,kZ,List.cons.injEq,Prod.mk.injEq] at e
    have:¬ (("sheets":Str)="store"):=by decide +kernel
    exact this e.2.2.1.1
  · rw [sh.d] at hy;cases hy
  · rw [sh.w] at hy;cases hy
def Lm (K:PySem.W.Frag) (aE af:Addr):Sp:=fun vs H Q _=>∃ y dy x n d T R M a b c pl p dx a1 a2 a3 s ws,vs=[.ref y,.ref T]∧Ll H aE y dy x (.ref p) n d∧tupQ K H T=some [.int 0,.int 0,.int 1,.int 2,.ref R,.ref M]∧tupQ K H R=some [.int a,.int b,.int c,.str pl]∧H M=some (.lst [])∧
  cW [a,b,c]∧(aX (bQ a b c pl)).length≤100∧pl.length≤10∧bJ K H af p dx a1 a2 a3 s ws∧s.J.length + 101≤sizeLine∧s.D.length < 900∧ws.length < 900∧
  ∀ u1 u2 H',tupQ K H' u1=some (Ent.v (.cA 0 (aX (bQ a b c pl))))→tupQ K H' u2=some (Ent.v .blot)→bJ K H' af p dx a1 a2 a3 ((s.carry (.cA 0 (aX (bQ a b c pl))) (aX (bQ a b c pl))).carry .blot "") (ws++[u1]++[u2])→g6 K [p,a1,a2] H H'→Q (.int 0) H'
theorem i9:aG ["self","head","place"] ["self","head"] (aj cu):=⟨rfl,rfl,rfl,by decide +kernel,rfl,by decide +kernel,by decide +kernel⟩
theorem n9 {f aE af:Addr} {fd:FuncData} (F:fL K "write_head" "Kept.write_head" cu f fd) {cF cR cB ak aq aP:Addr} {tE t1 t2 t3 t4 tP tQ:Tok} (B:B K mg cF cR cB ak aq aP tE t1 t2 t3 t4 tP tQ) (gu:Callee P w K mg base "page_of" 2 ["body"] HZ) (jq:Callee P w K mg base "head_text" 3 ["head"] (Lk K)) (bg:bH P w K mg base af "write" 3 ["self","place","text"] [] (p8 K af fun vs e=>∃ k t,vs=[.int k,.str t]∧e=.cA k t∧0≤k∧k≤1000000)) (cM:bH P w K mg base af "blot" 3 ["self"] [] (p8 K af fun vs e=>vs=[]∧e=.blot)) (bh:iu K aE) (fN:aK K aE "shelf") (aB:iu K af):aT P w K mg base eK 4 f fd ["self","head"] (Lm K aE af):=by
  refine F.iC i9 (fun vs H Q E h=>?_) (fun cE A outer s H vs Q E hr h=>?_)
  · obtain ⟨y,dy,x,n,d,T,R,M,a,b,c,pl,p,dx,a1,a2,a3,s,ws,rfl,_⟩:=h
    rfl
  obtain ⟨y,dy,x,n,d,T,R,M,a,b,c,pl,p,dx,a1,a2,a3,s,ws,rfl,⟨hy,hd⟩,hT,hR,hM,s3,l100,lp,sh,hJ,hD,hW,q⟩:=h
  refine ⟨_,(aD (sset (i:=2) i9.nd rfl (Or.inl rfl) (iW lF (jF dW (ev 1) ei (fun _ _=>rfl)) ei))
      (aD (fE (jR bg aB (hr.mono (by decide)) (gU (ev 0)) (aa (ev 2) (aa (aM gu (hr.mono (by decide)) rfl (aa (aM jq (hr.mono (by decide)) rfl (aa (ev 1) ay)) ay)) ay))))
      (aD (fE (fC cM aB (hr.mono (by decide)) (gU (ev 0))))
      (aV (bT (ev 2)))))),?_⟩
  simp_arith [cU hT]
  simp only [show (0:Int) % 2=0 from rfl]
  have z:cW [(0:Int),0,1,2]:=by
    intro i hi
    simp only [List.mem_cons,List.not_mem_nil,or_false] at hi
    rcases hi with rfl | rfl | rfl | rfl <;> omega
  have z2:cW ([]:List Int):=fun i hi=>by cases hi
  have hl:=vK s3 lp
  refine ⟨_,_,_,hy,bh,fN,_,mX,p,rfl,_,_,sh.ins,gB (by decide +kernel) (by decide +kernel) (by decide +kernel) (by decide +kernel) (by decide +kernel),T,0,0,1,2,R,a,b,c,pl,M,[],rfl,hT,hR,cz.of hM,z,s3,by omega,z2,by simp,fun H1 x1=>?_⟩
  refine ⟨bQ a b c pl,rfl,by omega,?_⟩
  refine ⟨p,dx,a1,a2,a3,s,ws,_,.cA 0 (aX (bQ a b c pl)),rfl,⟨0,_,rfl,rfl,by decide,by decide⟩,sh.ext' x1,l100,hJ,by omega,by omega,fun u1 H2 n1 t1 Dk k2=>?_⟩
  have hy2:=k2.keep y _ (x1.at hy) (Ij (x1.at hy) (sh.ext' x1))
  refine ⟨_,_,_,hy2,bh,fN,_,mX,p,rfl,_,_,Dk.ins,gB (by decide +kernel) (by decide +kernel) (by decide +kernel) (by decide +kernel) (by decide +kernel),?_⟩
  obtain ⟨c1,c2⟩:=tV (s:=s) (k:=0) (t:=aX (bQ a b c pl)) (sg:=aX (bQ a b c pl))
  have c1:(s.carry (.cA 0 (aX (bQ a b c pl))) (Ent.signs (.cA 0 (aX (bQ a b c pl))))).J=s.J:=c1
  have c2:(s.carry (.cA 0 (aX (bQ a b c pl))) (Ent.signs (.cA 0 (aX (bQ a b c pl))))).D.length≤s.D.length + 1:=c2
  refine ⟨p,dx,a1,a2,a3,_,_,[],.blot,rfl,⟨rfl,rfl⟩,Dk,trivial,by rw [c1];exact hJ,by omega,by rw [List.length_append];simp;omega,fun u2 H3 n2 t2 zM k3=>?_⟩
  exact q u1 u2 H3 (k3.tup Dk.qM t1) t2 zM (g6.trans (g6.trans (ps:=[p,a1,a2]) ⟨fun q o e _=>x1.same q o e,x1.mod⟩ k2 (fun _ m=>m)) k3 (fun _ m=>m))
end
section
variable {P:Program} {w:World} {K:PySem.W.Frag} {mg:Str→Option Value} {base:Heap}
def Sh.begun (s:Sh) (hd:Str):Sh:={ s with D:=[(2,aX (Str.ofString "leaf 0 -")),(0,aX hd)],J:=Str.ofString "" }
structure ie (K:PySem.W.Frag) (H:Hp) (R:Addr) (a b c:Int) (pl:Str):Prop where
  t:tupQ K H R=some [.int a,.int b,.int c,.str pl]
  a:1≤a∧a≤64
  b:3≤b∧b≤16
  c:1≤c∧c≤64
  p:pl=Str.ofString "fullest"∨pl=Str.ofString "eldest"
structure xR (K:PySem.W.Frag) (H0 H:Hp) (aE aA av ak y p:Addr) (v:V):Prop where
  ex:∃ dy x dx h dh k lf dl r t d,(∀ z∈[y,x,h,k,lf,r,t],new K H0 z)∧H y=some (.ins aE dy (kZ (.ref x) (.ref p) (.int 0) (.ref d)))∧qW K H aA av ak x dx h dh k lf dl r t v
def tW (K:PySem.W.Frag) (aE af aA av ak:Addr):Sp:=fun vs H Q _=>∃ y dy x d R a b c pl dx h dh k lf dl r t p dp a1 a2 a3 s ws,vs=[.ref y]∧Ll H aE y dy (.ref x) (.ref p) (-1) d∧qW K H aA av ak x dx h dh k lf dl r t (.ref R)∧ie K H R a b c pl∧bJ K H af p dp a1 a2 a3 s ws∧s.D=[]∧s.J=Str.ofString ""∧ws.length < 800∧(∀ z∈[y,x,h,k,lf,r,t,d],z∉[p,a1,a2])∧
  ∀ W d' u0 u1 u2 H',H' y=some (.ins aE dy (kZ (.ref x) (.ref p) (.int 0) (.ref d')))→qW K H' aA av ak x dx h dh k lf dl r t (.ref R)→tupQ K H' u0=some (Ent.v (.cA 2 (aX (Str.ofString "leaf 0 -"))))→tupQ K H' u1=some (Ent.v (.cA 0 (aX (bQ a b c pl))))→tupQ K H' u2=some (Ent.v .blot)→bJ K H' af p dp a1 a2 a3 (s.begun (bQ a b c pl)) (ws++[u0,u1,u2])→g6 K [y,p,a1,a2] H H'→Q (.ref W) H'
def rM (K:PySem.W.Frag) (aE af aA av ak cR cB:Addr):Sp:=fun vs H Q E=>∃ q rl v p dp a1 a2 a3 s ws,vs=[.ref p,v]∧m5 K q H rl v∧bJ K H af p dp a1 a2 a3 s ws∧s.D.length < 64∧s.J.length≤sizeLine∧ws.length < 800∧
  (rl.ok=false→∀ H',Ext K H H'→E (.ref cR) none H')∧(rl.ok=true→¬ (s.D=[]∧s.J=Str.ofString "")→∀ H',Ext K H H'→E (.ref cB) none H')∧
  (rl.ok=true→s.D=[]→s.J=Str.ofString ""→∀ R a b c pl y u0 u1 u2 H',v=.ref R→ie K H R a b c pl→xR K H H' aE aA av ak y p v→tupQ K H' u0=some (Ent.v (.cA 2 (aX (Str.ofString "leaf 0 -"))))→tupQ K H' u1=some (Ent.v (.cA 0 (aX (bQ a b c pl))))→tupQ K H' u2=some (Ent.v .blot)→bJ K H' af p dp a1 a2 a3 (s.begun (bQ a b c pl)) (ws++[u0,u1,u2])→g6 K [p,a1,a2] H H'→Q (.ref y) H')
theorem ie.ext {H H':Hp} {R:Addr} {a b c:Int} {pl:Str} (h:ie K H R a b c pl) (x:Ext K H H'):ie K H' R a b c pl:=⟨x.tup h.t,h.a,h.b,h.c,h.p⟩
theorem Ik {q:Addr} {H:Hp} {rl:Rl} {v:V} (h:m5 K q H rl v) (ok:rl.ok=true):∃ R a b c pl,v=.ref R∧ie K H R a b c pl:=by
  rcases zA h with ⟨ty,_,_,e⟩ | ⟨a,vs,ts,rfl,_,_,_,ne⟩ | ⟨R,va,vb,vc,vd,ta,tb,tc,td,rfl,rfl,hT,h1,h2,h3,h4⟩
  · rw [e] at ok;cases ok
  · rw [BV ne] at ok;cases ok
  · have ok:(ta.wh 1 64&&tb.wh 3 16&&tc.wh 1 64&&td.zw)=true:=ok
    simp only [Bool.and_eq_true] at ok
    obtain ⟨⟨⟨o1,o2⟩,o3⟩,o4⟩:=ok
    have num:∀ {t:Th} {lo hi:Int} {v:V},t.wh lo hi=true→kr K q H t v→∃ i,v=.int i∧lo≤i∧i≤hi:=by
      intro t lo hi v o h
      cases t with
      | num i=>exact ⟨i,h,by simpa [Th.wh] using o⟩
      | _=>cases o
    obtain ⟨a,rfl,ha⟩:=num o1 h1
    obtain ⟨b,rfl,hb⟩:=num o2 h2
    obtain ⟨c,rfl,hc⟩:=num o3 h3
    cases td with
    | txt s=>
      cases h4
      refine ⟨R,a,b,c,s,rfl,hT,ha,hb,hc,?_⟩
      have o4:Kz (.str s) [.str "fullest",.str "eldest"]=true:=o4
      unfold Kz at o4
      simp only [List.any_cons,List.any_nil,Bool.or_false,Bool.or_eq_true,beq_iff_eq,decide_eq_true_eq,V.str.injEq] at o4
      rcases o4 with o | o
      · exact .inl (eq_of_beq (show ((Str.ofString "fullest":Str)==s)=true from o)).symm
      · exact .inr (eq_of_beq (show ((Str.ofString "eldest":Str)==s)=true from o)).symm
    | _=>cases o4
theorem tX:aG ["shelf","rule","store","kept"] ["shelf","rule"] (aj mR):=⟨rfl,rfl,rfl,by decide +kernel,rfl,by decide +kernel,by decide +kernel⟩
theorem E4 {f aE af aA av:Addr} {fd:FuncData} (F:fL K "begin" "begin" mR f fd) {cF cR cB ak aq aP:Addr} {tE t1 t2 t3 t4 tP tQ:Tok} (B:B K mg cF cR cB ak aq aP tE t1 t2 t3 t4 tP tQ) (rN:AM P w K mg base "Store" 4 ["self","rule"] [] aA (lX K aA av ak cR)) (xS:Maker P w K mg base "Kept" 1 ["self","store","shelf","series","stands"] [] aE (nZ aE)) (bR:bH P w K mg base af "places" 1 ["self"] [] (o9 K af)) (bI:bH P w K mg base af "journal" 1 ["self"] [] (mU K af)) (gH:bH P w K mg base aE "settle" 6 ["self"] [] (tW K aE af aA av ak)) (aB:iu K af) (bh:iu K aE):aT P w K mg base (pF P w) 7 f fd ["shelf","rule"] (rM K aE af aA av ak cR cB):=by
  refine F.RY tX (fun vs H Q E h=>?_) (fun cE A outer s H vs Q E hr h=>?_)
  · obtain ⟨q,rl,v,p,dp,a1,a2,a3,s,ws,rfl,_⟩:=h
    rfl
  obtain ⟨q,rl,v,p,dp,a1,a2,a3,s,ws,rfl,hv,sh,lD,lJ,lW,q1,q2,q3⟩:=h
  refine ⟨_,(aD (sset (i:=2) tX.nd rfl (Or.inl rfl) (La rN M0 (hr.mono (by decide)) rfl (aa (ev 1) ay)))
      (aD (nF (tw (Dz (Az (fC bR aB (hr.mono (by decide)) (ev 0)) (fun _=>rfl)) (qV (iX rV (fC bI aB (hr.mono (by decide)) (ev 0)) bL (bS _))))) (aV (Eu B.Df B.wH hr.hd rfl)) gy)
      (aD (sset (i:=3) tX.nd rfl (Or.inl rfl) (EA xS (hr.mono (by decide)) rfl (aa (ev 2) (aa (ev 0) (aa (eun Kc ei) (aa wG ay))))))
      (aD (fE (fC gH bh (hr.mono (by decide)) (ev 3)))
      (aV (bT (ev 3))))))),?_⟩
  try walk_at "rn"
  intro x dx nx nd ne
  have e0:=Ext.made (K:=K) (o:=.ins aA dx []) (o':=.own x) nx nd ne
  refine ⟨q,x,dx,rl,v,rfl,ai,hv.ext e0,fun no=>q1 no _ e0,fun ok h dh k lf dl r t H2 nw st kp=>⟨rfl,?_⟩⟩
  have x2:Ext K H H2:=Kp.made nx nd ne kp
  have Dk:=sh.ext' x2
  refine ⟨_,_,Dk.ins,gB (by decide +kernel) (by decide +kernel) (by decide +kernel) (by decide +kernel) (by decide +kernel),p,dp,a1,a2,a3,s,ws,rfl,Dk,lD,fun b ks nb _ _ lk=>?_⟩
  have xb:=Ext.new (K:=K) (o:=.lst (ks.map V.int)) nb
  refine ⟨_,.inl ⟨_,cz.of ai,rfl⟩,?_⟩
  have x3:=x2.trans xb
  have zM:=Dk.ext' xb
  have DJ:=st.ext xb
  generalize upd H2 b (.lst (ks.map V.int))=H3 at x3 zM DJ ⊢
  cases hD:s.D with
  | cons e r=>
    have:ks≠[]:=fun z=>by rw [z,hD] at lk;cases lk
    refine oK (by cases ks with | nil=>exact absurd rfl this | cons a l=>rfl) (q2 ok (fun z=>by rw [hD] at z;cases z.1) _ x3)
  | nil=>
  obtain rfl:ks=[]:=List.length_eq_zero_iff.mp (by rw [lk,hD];rfl)
  refine gO (fun z=>by cases z) ?_
  refine ⟨_,_,zM.ins,gB (by decide +kernel) (by decide +kernel) (by decide +kernel) (by decide +kernel) (by decide +kernel),p,dp,a1,a2,a3,s,ws,rfl,zM,rfl,?_⟩
  by_cases hJ:s.J=Str.ofString ""
  case neg=>
    refine oK ?_ (q2 ok (fun z=>hJ z.2) _ x3)
    rw [decide_eq_false (fun z=>hJ (V.str.inj z))]
    rfl
  rw [hJ,decide_eq_true rfl]
  refine gO (by decide) ?_
  intro d Pr y dy ny ndy ney
  refine ⟨y,dy,_,_,_,_,rfl,ai,rfl,?_⟩
  rw [gw]
  have xd:=Ext.new (K:=K) (o:=.dK []) Pr
  have xy:=Ext.made (K:=K) (o:=.ins aE dy (kZ (.ref x) (.ref p) (.int (-1)) (.ref d))) (o':=.own y) ny ndy ney
  have PD:=xy.at (ai (H:=H3) (a:=d) (o:=.dK []))
  have Il:=ai (H:=upd (upd H3 d (.dK [])) dy (.own y)) (a:=y) (o:=.ins aE dy (kZ (.ref x) (.ref p) (.int (-1)) (.ref d)))
  have x4:=xd.trans xy
  have ny0:new K H y:=br (x3.trans xd) ny
  have nd0:new K H d:=br x3 Pr
  generalize upd (upd (upd H3 d (.dK [])) dy (.own y)) y (.ins aE dy (kZ (.ref x) (.ref p) (.int (-1)) (.ref d)))=H4 at PD Il x4 ⊢
  obtain ⟨R,a,b,c,pl,rfl,ru⟩:=Ik hv ok
  have Sd:=x3.trans x4
  have nx0:new K H x:=nx
  have Nm:∀ z∈[y,x,h,k,lf,r,t],new K H z:=by
    intro z hz
    rcases List.mem_cons.mp hz with rfl | hz
    · exact ny0
    rcases List.mem_cons.mp hz with rfl | hz
    · exact nx0
    exact br e0 (nw z hz)
  have sep:∀ z∈[y,x,h,k,lf,r,t,d],z∉[p,a1,a2]:=by
    intro z hz m
    have nz:new K H z:=by
      rcases List.mem_append.mp (show z∈[y,x,h,k,lf,r,t]++[d] from hz) with hz | hz
      · exact Nm z hz
      · rw [List.mem_singleton.mp hz];exact nd0
    obtain ⟨m1,m2,m3,_⟩:=sh.no nz
    simp only [List.mem_cons,List.not_mem_nil,or_false] at m
    rcases m with m | m | m
    · exact m1 m
    · exact m2 m
    · exact m3 m
  refine ⟨_,_,Il,A7 (by decide +kernel) (by decide +kernel) (by decide +kernel) (by decide +kernel),y,dy,x,d,R,a,b,c,pl,dx,h,dh,k,lf,dl,r,t,p,dp,a1,a2,a3,s,ws,rfl,⟨Il,PD⟩,DJ.ext x4,ru.ext Sd,zM.ext' x4,hD,hJ,lW,sep,fun W d' u0 u1 u2 H' KI st' t0 t1 t2 sh' k'=>?_⟩
  refine q3 ok hD hJ R a b c pl y u0 u1 u2 H' rfl ru ⟨dy,x,dx,h,dh,k,lf,dl,r,t,d',Nm,KI,st'⟩ t0 t1 t2 sh' ⟨fun g o e n=>k'.keep g o (Sd.same g o e) (fun m=>?_),fun g xs e m=>k'.mod g xs (Sd.mod g xs e m) m⟩
  rcases List.mem_cons.mp m with rfl | m
  · rw [ny0.1] at e;cases e
  · exact n m
end
section
variable {P:Program} {w:World} {K:PySem.W.Frag} {mg:Str→Option Value} {base:Heap}
def L3 (x y z:Int):HO:=.lst [.int x,.int y,.int z]
def Wl (H:Hp) (p:Addr):Prop:=(∃ x,H p=some (.lst [.int x]))∨∃ x y z,H p=some (L3 x y z)
theorem Wl.ext {K:PySem.W.Frag} {H H':Hp} {p:Addr} (h:Wl H p) (x:Ext K H H'):Wl H' p:=by
  rcases h with ⟨u,h⟩ | ⟨u,v,z,h⟩
  · exact .inl ⟨u,x.at h⟩
  · exact .inr ⟨u,v,z,x.at h⟩
theorem Wl.ne {K:PySem.W.Frag} {H:Hp} {p b:Addr} (h:Wl H p) (n:new K H b):b≠p:=by
  rcases h with ⟨u,h⟩ | ⟨u,v,z,h⟩
  · exact (aJ h n.1).symm
  · exact (aJ h n.1).symm
theorem Wl.upd {H:Hp} {p b:Addr} {o:HO} (h:Wl H p) (n:p≠b):Wl (upd H b o) p:=by
  rcases h with ⟨u,h⟩ | ⟨u,v,z,h⟩
  · exact .inl ⟨u,by rw [ao n];exact h⟩
  · exact .inr ⟨u,v,z,by rw [ao n];exact h⟩
def A9 (K:PySem.W.Frag):Sp:=fun vs H Q _=>∃ (a:Addr) (ns:List Int) (k:Int),vs=[.ref a,.int k]∧cz K H a (ns.map V.int)∧0≤k∧∀ n,Q (.int n) H
theorem rm:aG ["_law_script","_law_k"] ["_law_script","_law_k"] (aj dQ):=⟨rfl,rfl,rfl,by decide +kernel,rfl,by decide +kernel,by decide +kernel⟩
theorem rq {f:Addr} {fd:FuncData} (F:fL K "_law_cell_at" "_law_cell_at" dQ f fd) {cF cR cB ak aq aP:Addr} {tE t1 t2 t3 t4 tP tQ:Tok} (B:B K mg cF cR cB ak aq aP tE t1 t2 t3 t4 tP tQ):aT P w K mg base eK 1 f fd ["_law_script","_law_k"] (A9 K):=by
  refine F.iC rm (fun vs H Q E h=>?_) (fun cE A outer s H vs Q E hr h=>?_)
  · obtain ⟨a,ns,k,rfl,_⟩:=h
    rfl
  obtain ⟨a,ns,k,rfl,hs,h0,q⟩:=h
  refine ⟨_,(aD (nF (iX Mx (ev 1) (bw oA rfl B.len j7 (aa (ev 0) ay)) (bS _)) (aV (bT (jF BB (ev 0) (ev 1) (fun _ _=>rfl)))) gy)
      (aV (bT ei))),?_⟩
  simp_arith [MG]
  refine ⟨_,.inl hs,?_⟩
  refine Ax (fun c=>?_) (fun c=>q 0)
  obtain ⟨v,e,m⟩:=pT h0 c
  obtain ⟨n,_,rfl⟩:=List.mem_map.mp m
  exact ⟨_,hs,_,e,q n⟩
def pq (K:PySem.W.Frag):Sp:=fun vs H Q _=>∃ p m,vs=[.ref p,.int m]∧Wl H p∧0 < m∧m < 10 ^ 100∧
  ∀ (r:Int) (H':Hp),0≤r→r < m→Wl H' p→Kp K p H H'→Q (.int r) H'
theorem fG:aG ["_law_state","_law_base","_law_cell","_law_found","_law_number"] ["_law_state","_law_base"] (aj fm):=⟨rfl,rfl,rfl,by decide +kernel,rfl,by decide +kernel,by decide +kernel⟩
theorem uP {f:Addr} {fd:FuncData} (F:fL K "_law_digit" "_law_digit" fm f fd) {cF cR cB ak aq aP:Addr} {tE t1 t2 t3 t4 tP tQ:Tok} (B:B K mg cF cR cB ak aq aP tE t1 t2 t3 t4 tP tQ):aT P w K mg base eK 1 f fd ["_law_state","_law_base"] (pq K):=by
  refine F.iC fG (fun vs H Q E h=>?_) (fun cE A outer s H vs Q E hr h=>?_)
  · obtain ⟨p,m,rfl,_⟩:=h
    rfl
  obtain ⟨p,m,rfl,hp,h0,h1,q⟩:=h
  refine ⟨_,(Hq (nF (iX jf (bw pV rfl B.len j7 (aa (ev 0) ay)) ei (bS _)) (aD (sset (i:=2) fG.nd rfl (Or.inl rfl) (jF dW (ev 0) ei (fun _ _=>rfl)))
      (aD (uB (jF dW (bB (aa ei (aa (ev 2) ay))) (fM CJ rfl B.int sF (aa (we Mz (ev 2) (IV 1000000000000000000) (bS _)) ay)) (fun _ _=>rfl)) (Hr (ev 0) ei set_list))
      (aV (fE (CL PySem.F.plainAttrs_list PySem.F.slot_list_extend PySem.F.type_list_extend Cv (ev 0) (aa (bB (aa (iW lF (ev 2) ei) (aa ei ay))) ay)))))) gy)
      (aD (nF (iX My (jF dW (ev 0) ei (fun _ _=>rfl)) ei (bS _)) (aD (sset (i:=3) fG.nd rfl (Or.inl rfl) (iW lF (jF dW (ev 0) ei (fun _ _=>rfl)) (ev 1)))
      (aD (uB (iW sD (jF dW (ev 0) ei (fun _ _=>rfl)) (ev 1)) (Hr (ev 0) ei set_list))
      (aV (bT (ev 3))))) gy)
      (aD (uB (iW gx (jF dW (ev 0) ei (fun _ _=>rfl)) ei) (Hr (ev 0) ei set_list))
      (aD (sset (i:=4) fG.nd rfl (Or.inl rfl) (iW lF (iW vU (iW gx (iW gx (jF dW (ev 0) ei (fun _ _=>rfl)) (iW vU ei (jF dW (ev 0) ei (fun _ _=>rfl)))) ei) ei) ei))
      (aD (sset (i:=4) fG.nd rfl (Or.inl rfl) (iW lF (iW vU (ev 4) (iW gx (iW sD (ev 4) ei) ei)) ei))
      (aV (bT (iW lF (iW lF (iW vU (ev 4) (iW gx (iW sD (ev 4) ei) ei)) ei) (ev 1))))))))),?_⟩
  obtain ⟨J,eJ⟩:∃ J:St→Hp→Prop,J=fun σ1 G1=>∃ (v2:Option V) (x y z:Int),σ1=[some (.ref p),some (.int m),v2,none,none]∧G1 p=some (L3 x y z)∧Kp K p H G1:=⟨_,rfl⟩
  refine ⟨J,?_,?_⟩
  · rcases hp with ⟨x,hp⟩ | ⟨x,y,z,hp⟩
    · simp only [yH,qw,yJ,pI,eN,yK,yI,uV,qy,oj,tC,Bm,IJ,Bo,rI,rU,qz,tB,qu,yF,qv,Cc,IF,yE,IG,lG,Gh,jg,ou,Cm,Ck,pU,List.getElem?_cons_zero,List.getElem?_cons_succ,List.set_cons_zero,List.set_cons_succ,Option.some.injEq,V.int.injEq,V.bl.injEq,V.ref.injEq,V.ty.injEq,V.str.injEq,List.cons.injEq,exists_eq_left',exists_eq_left,exists_and_left,and_true,true_and,and_assoc,LR,CI,sr,Kd,Ke,yO,HO.lst.injEq,HO.tup.injEq,iV,pN,pO,pP,pQ,pR,pS,ai,gR,gS,ve,vf,vg,vh,decide_eq_true_eq,L2.start,List.map_cons,List.map_nil,List.length_cons,List.length_nil,Nat.reduceAdd,Nat.reduceSub,List.replicate_succ,List.replicate_zero,List.cons_append,List.nil_append,List.append_nil,iM,iN,cZ,jJ,KO,vR,Ah,sizeLine_eq,Int.reduceLE,Int.reduceLT,Int.reducePow,Int.reduceToNat,Int.reduceAdd,Int.reduceSub,Int.reduceMul,Int.reduceNeg,Nat.reduceLeDiff,Nat.reducePow,Nat.reduceLT,Int.reduceEq,true_or,or_true,ite_true,ite_false,if_true,if_false,Bool.not_true,Bool.not_false,Bool.false_eq_true,decide_true,decide_false,zd,iO,iP,aN,IP,ji,qD,CM,sS,sH,qH,qI,eY,lA,AA,AB,lQ,je,rS,IS,j5,kq,yP,vV,iB,m6,nK,cZ,yW,j6,jP,mP,jO,jL,jM,jN,join_some,nH,GZ,C4,sV,Ld,Ends.gone,nN,LX,jh,CS,jQ,AI,qF,Cs,rJoin,nQ,ko,qG,AO,Au,lB,AR,jS,jT,hp,bX hp]
      refine Ax (fun _=>?_) (fun c=>absurd rfl c)
      intro b nb
      have ne:b≠p:=(aJ hp nb.1).symm
      obtain ⟨v,ev⟩:∃ v:Int,yV [V.int 0,V.int x] (if 1000000000000000000≤x then 1 else 0)=some (.int v):=by split <;> exact ⟨_,rfl⟩
      have x1:=Ext.new (K:=K) (o:=.lst [.int 0,.int x]) nb
      have Dl:=x1.at hp
      refine ⟨_,ev,_,Dl,0,rfl,.inl ⟨_,cz.of ai⟩,fun b2 nb2=>⟨_,by rw [ao nb2.1.symm];exact ai,by show 1≤16777214;decide,?_⟩⟩
      rw [eJ]
      have k2:Kp K p _ (upd (upd H b (.lst [.int 0,.int x])) p (.lst [.int v])):=Kp.upd Dl
      have n2:new K (upd (upd H b (.lst [.int 0,.int x])) p (.lst [.int v])) b2:=⟨by rw [ao nb2.1,ao nb2.2.1];exact nb2.2.2.1,nb2.2.2.2⟩
      have x3:=Ext.new (K:=K) (o:=.lst [.int (x % 2147483647),.int 0]) n2
      exact ⟨_,v,_,_,rfl,ai,x1.kp.trans (k2.trans (x3.kp.trans (Kp.upd (x3.at ai))))⟩
    · unfold L3 at hp
      simp only [yH,qw,yJ,pI,eN,yK,yI,uV,qy,oj,tC,Bm,IJ,Bo,rI,rU,qz,tB,qu,yF,qv,Cc,IF,yE,IG,lG,Gh,jg,ou,Cm,Ck,pU,List.getElem?_cons_zero,List.getElem?_cons_succ,List.set_cons_zero,List.set_cons_succ,Option.some.injEq,V.int.injEq,V.bl.injEq,V.ref.injEq,V.ty.injEq,V.str.injEq,List.cons.injEq,exists_eq_left',exists_eq_left,exists_and_left,and_true,true_and,and_assoc,LR,CI,sr,Kd,Ke,yO,HO.lst.injEq,HO.tup.injEq,iV,pN,pO,pP,pQ,pR,pS,ai,gR,gS,ve,vf,vg,vh,decide_eq_true_eq,L2.start,List.map_cons,List.map_nil,List.length_cons,List.length_nil,Nat.reduceAdd,Nat.reduceSub,List.replicate_succ,List.replicate_zero,List.cons_append,List.nil_append,List.append_nil,iM,iN,cZ,jJ,KO,vR,Ah,sizeLine_eq,Int.reduceLE,Int.reduceLT,Int.reducePow,Int.reduceToNat,Int.reduceAdd,Int.reduceSub,Int.reduceMul,Int.reduceNeg,Nat.reduceLeDiff,Nat.reducePow,Nat.reduceLT,Int.reduceEq,true_or,or_true,ite_true,ite_false,if_true,if_false,Bool.not_true,Bool.not_false,Bool.false_eq_true,decide_true,decide_false,zd,iO,iP,aN,IP,ji,qD,CM,sS,sH,qH,qI,eY,lA,AA,AB,lQ,je,rS,IS,j5,kq,yP,vV,iB,m6,nK,cZ,yW,j6,jP,mP,jO,jL,jM,jN,join_some,nH,GZ,C4,sV,Ld,Ends.gone,nN,LX,jh,CS,jQ,AI,qF,Cs,rJoin,nQ,ko,qG,AO,Au,lB,AR,jS,jT,hp,bX hp]
      refine Ax (fun c=>absurd c (by decide)) (fun _=>?_)
      rw [eJ]
      exact ⟨_,_,_,_,rfl,hp,Kp.refl⟩
  intro σ1 G1 h
  rw [eJ] at h
  clear eJ
  obtain ⟨v2,x,y,z,rfl,hp,k⟩:=h
  unfold L3 at hp
  simp only [yH,qw,yJ,pI,eN,yK,yI,uV,qy,oj,tC,Bm,IJ,Bo,rI,rU,qz,tB,qu,yF,qv,Cc,IF,yE,IG,lG,Gh,jg,ou,Cm,Ck,pU,List.getElem?_cons_zero,List.getElem?_cons_succ,List.set_cons_zero,List.set_cons_succ,Option.some.injEq,V.int.injEq,V.bl.injEq,V.ref.injEq,V.ty.injEq,V.str.injEq,List.cons.injEq,exists_eq_left',exists_eq_left,exists_and_left,and_true,true_and,and_assoc,LR,CI,sr,Kd,Ke,yO,HO.lst.injEq,HO.tup.injEq,iV,pN,pO,pP,pQ,pR,pS,ai,gR,gS,ve,vf,vg,vh,decide_eq_true_eq,L2.start,List.map_cons,List.map_nil,List.length_cons,List.length_nil,Nat.reduceAdd,Nat.reduceSub,List.replicate_succ,List.replicate_zero,List.cons_append,List.nil_append,List.append_nil,iM,iN,cZ,jJ,KO,vR,Ah,sizeLine_eq,Int.reduceLE,Int.reduceLT,Int.reducePow,Int.reduceToNat,Int.reduceAdd,Int.reduceSub,Int.reduceMul,Int.reduceNeg,Nat.reduceLeDiff,Nat.reducePow,Nat.reduceLT,Int.reduceEq,true_or,or_true,ite_true,ite_false,if_true,if_false,Bool.not_true,Bool.not_false,Bool.false_eq_true,decide_true,decide_false,zd,iO,iP,aN,IP,ji,qD,CM,sS,sH,qH,qI,eY,lA,AA,AB,lQ,je,rS,IS,j5,kq,yP,vV,iB,m6,nK,cZ,yW,j6,jP,mP,jO,jL,jM,jN,join_some,nH,GZ,C4,sV,Ld,Ends.gone,nN,LX,jh,CS,jQ,AI,qF,Cs,rJoin,nQ,ko,qG,AO,Au,lB,AR,jS,jT,hp,bX hp]
  have g:∀ (u v z:Int),Kp K p H (upd G1 p (L3 u v z)):=fun u v z=>k.trans (Kp.upd hp)
  refine Ax (fun c=>⟨h0,h0,by omega,?_⟩) (fun c=>?_)
  · exact q _ _ (Int.emod_nonneg _ (by omega)) (Int.emod_lt_of_pos _ h0) (.inr ⟨_,_,_,ai⟩) (g _ _ _)
  · refine ⟨?_,?_,h0,q _ _ (Int.emod_nonneg _ (by omega)) (Int.emod_lt_of_pos _ h0) (.inr ⟨_,_,_,ai⟩) (g _ _ _)⟩
    all_goals omega
def xU (K:PySem.W.Frag):Sp:=fun vs H Q _=>∃ p,vs=[.ref p]∧Wl H p∧∀ (R:Addr) (a b c:Int) (pl:Str) (H':Hp),ie K H' R a b c pl→Wl H' p→Kp K p H H'→Q (.ref R) H'
theorem pA:aG ["_law_state","_law_plan"] ["_law_state"] (aj gq):=⟨rfl,rfl,rfl,by decide +kernel,rfl,by decide +kernel,by decide +kernel⟩
theorem xV {f:Addr} {fd:FuncData} (F:fL K "_law_rule" "_law_rule" gq f fd) {cF cR cB ak aq aP:Addr} {tE t1 t2 t3 t4 tP tQ:Tok} (B:B K mg cF cR cB ak aq aP tE t1 t2 t3 t4 tP tQ) (aO:Callee P w K mg base "_law_digit" 1 ["_law_state","_law_base"] (pq K)):aT P w K mg base eK 2 f fd ["_law_state"] (xU K):=by
  refine F.iC pA (fun vs H Q E h=>?_) (fun cE A outer s H vs Q E hr h=>?_)
  · obtain ⟨p,rfl,_⟩:=h
    rfl
  obtain ⟨p,rfl,hp,q⟩:=h
  refine ⟨_,(aD (sset (i:=1) pA.nd rfl (Or.inl rfl) (jF dW (bB (aa bL (aa bL ay))) (aM aO (hr.mono (by decide)) rfl (aa (ev 0) (aa ei ay))) (fun _ _=>rfl)))
      (aV (bT (fz (aa (iW gx ei (aM aO (hr.mono (by decide)) rfl (aa (ev 0) (aa ei ay)))) (aa (iW gx ei (aM aO (hr.mono (by decide)) rfl (aa (ev 0) (aa ei ay)))) (aa (iW gx ei (aM aO (hr.mono (by decide)) rfl (aa (ev 0) (aa ei ay)))) (aa (ev 1) ay)))))))),?_⟩
  try walk_at "rn"
  intro b1 n1
  have y1:=Ext.new (K:=K) (o:=.lst [V.str (Str.ofString "fullest"),V.str (Str.ofString "eldest")]) n1
  refine ⟨p,2,rfl,hp.ext y1,by decide,by decide,fun d H1 d0 d1 Dl k1=>⟨_,rfl,_,bX (k1.keep b1 _ ai (hp.ne n1)),?_⟩⟩
  obtain ⟨v,ev,mv⟩:=pT (xs:=[V.str (Str.ofString "fullest"),V.str (Str.ofString "eldest")]) d0 d1
  obtain ⟨pl,rfl,qC⟩:∃ pl:Str,v=.str pl∧(pl=Str.ofString "fullest"∨pl=Str.ofString "eldest"):=by
    simp only [List.mem_cons,List.not_mem_nil,or_false] at mv
    rcases mv with rfl | rfl
    · exact ⟨_,rfl,.inl rfl⟩
    · exact ⟨_,rfl,.inr rfl⟩
  refine ⟨_,ev,p,64,rfl,Dl,by decide,by decide,fun r2 H2 a0 a1 Dy k2=>⟨_,rfl,p,14,rfl,Dy,by decide,by decide,fun r3 H3 b0 b1 Ic k3=>⟨_,rfl,p,64,rfl,Ic,by decide,by decide,fun r4 H4 c0 c1 EZ k4=>⟨_,rfl,fun R nR=>?_⟩⟩⟩⟩
  have yR:=Ext.new (K:=K) (o:=.tup [V.int (1 + r2),V.int (3 + r3),V.int (1 + r4),V.str pl]) nR
  exact q R (1 + r2) (3 + r3) (1 + r4) pl _ ⟨aN,by omega,by omega,by omega,qC⟩ (EZ.ext yR) (y1.kp.trans (k1.trans (k2.trans (k3.trans (k4.trans yR.kp)))))
def E5:Sp:=fun vs H Q _=>∃ b:Str,vs=[.str b]∧b.length≤10000∧Q (.str (aX b)) H
theorem xW:aG ["_law_body"] ["_law_body"] (aj gr):=⟨rfl,rfl,rfl,by decide +kernel,rfl,by decide +kernel,by decide +kernel⟩
theorem xX {f:Addr} {fd:FuncData} (F:fL K "_law_page" "_law_page" gr f fd) {cF cR cB ak aq aP:Addr} {tE t1 t2 t3 t4 tP tQ:Tok} (B:B K mg cF cR cB ak aq aP tE t1 t2 t3 t4 tP tQ):aT P w K mg base eK 1 f fd ["_law_body"] E5:=by
  refine F.iC xW (fun vs H Q E h=>?_) (fun cE A outer s H vs Q E hr h=>?_)
  · obtain ⟨b,rfl,_⟩:=h
    rfl
  obtain ⟨b,rfl,hb,q⟩:=h
  refine ⟨_,(aV (bT (iW fR (iW fR (fM j3 rfl B.str nC (aa (bw oB rfl B.len j7 (aa (ev 0) ay)) ay)) bL) (ev 0)))),?_⟩
  try walk_at "rn"
  have l1:(Str.ofString (toString (b.length:Int))).length≤101:=bY (mV hb)
  have l2:(Str.ofString " ").length=1:=by decide +kernel
  exact ⟨by omega,pe (mV hb),by omega,by rw [Str.length_append];omega,q⟩
def Np (K:PySem.W.Frag) (H:Hp) (D:Addr) (a b c:Int) (pl:Str):Prop:=∃ u0 u1 u2,H D=some (.lst [.ref u0,.ref u1,.ref u2])∧tupQ K H u0=some (Ent.v (.cA 2 (aX (Str.ofString "leaf 0 -"))))∧tupQ K H u1=some (Ent.v (.cA 0 (aX (bQ a b c pl))))∧tupQ K H u2=some (Ent.v .blot)
def E6 (K:PySem.W.Frag):Sp:=fun vs H Q _=>∃ R a b c pl,vs=[.ref R]∧ie K H R a b c pl∧∀ D H',Np K H' D a b c pl→new K H D→Ext K H H'→Q (.ref D) H'
theorem ie.small {H:Hp} {R:Addr} {a b c:Int} {pl:Str} (h:ie K H R a b c pl):cW [a,b,c]∧pl.length≤10:=by
  have:=h.a
  have:=h.b
  have:=h.c
  refine ⟨fun i hi=>?_,by rcases h.p with rfl | rfl <;> decide +kernel⟩
  simp only [List.mem_cons,List.not_mem_nil,or_false] at hi
  rcases hi with rfl | rfl | rfl <;> omega
theorem zN (a b c:Int) (pl:Str):Str.ofString "head 0 0 1 2 "++Str.join (Str.ofString ",") [bf a,bf b,bf c,pl]++Str.ofString " -"=bQ a b c pl:=by
  have e:bQ a b c pl=Str.ofString "head"++Str.ofString " "++(bf 0++Str.ofString " "++(bf 0++Str.ofString " "++(bf 1++Str.ofString " "++(bf 2++Str.ofString " "++(Str.join (Str.ofString ",") [bf a,bf b,bf c,pl]++Str.ofString " "++Str.ofString "-"))))):=rfl
  rw [e]
  refine BP ?_
  generalize Str.join (Str.ofString ",") [bf a,bf b,bf c,pl]=m
  simp only [Hx]
  rw [show (Str.ofString "head 0 0 1 2 ").cps.toList=[104,101,97,100,32,48,32,48,32,49,32,50,32] from by decide +kernel,show (Str.ofString " -").cps.toList=[32,45] from by decide +kernel,show (Str.ofString "head").cps.toList=[104,101,97,100] from by decide +kernel,show (Str.ofString " ").cps.toList=[32] from by decide +kernel,show (Str.ofString "-").cps.toList=[45] from by decide +kernel,
    show (bf 0).cps.toList=[48] from by decide +kernel,show (bf 1).cps.toList=[49] from by decide +kernel,show (bf 2).cps.toList=[50] from by decide +kernel]
  simp
def Nq:V→Str
  | .int i=>bf i
  | .str t=>t
  | _=>Str.ofString ""
theorem mh:aG ["_law_rule_here","_law_words","_law_head"] ["_law_rule_here"] (aj gZ):=⟨rfl,rfl,rfl,by decide +kernel,rfl,by decide +kernel,by decide +kernel⟩
theorem zO {f:Addr} {fd:FuncData} (F:fL K "_law_due" "_law_due" gZ f fd) {cF cR cB ak aq aP:Addr} {tE t1 t2 t3 t4 tP tQ:Tok} (B:B K mg cF cR cB ak aq aP tE t1 t2 t3 t4 tP tQ) (ig:Callee P w K mg base "_law_page" 1 ["_law_body"] E5):aT P w K mg base eK 2 f fd ["_law_rule_here"] (E6 K):=by
  refine F.iC mh (fun vs H Q E h=>?_) (fun cE A outer s H vs Q E hr h=>?_)
  · obtain ⟨R,a,b,c,pl,rfl,_⟩:=h
    rfl
  obtain ⟨R,a,b,c,pl,rfl,ru,q⟩:=h
  obtain ⟨s3,lp⟩:=ru.small
  refine ⟨_,(aD (sset (i:=1) mh.nd rfl (Or.inl rfl) (CL PySem.F.plainAttrs_str PySem.F.slot_str_join PySem.F.type_str_join oO bL (aa (LU (m8.mk (N:=["_law_thing"]) (src:=[none]) rfl rfl) rfl (MR (ev 0)) (fun _ _ _ _=>(bF (i:=0) (show (["_law_thing"]:List Str).Nodup from by decide +kernel) rfl (Or.inl rfl))) (fun _ _ _ _=>m9) (fun _ _ _ _=>(fM C7 rfl B.str nC (aa (ev 0) ay)))) ay)))
      (aD (sset (i:=2) mh.nd rfl (Or.inl rfl) (aM ig (hr.mono (by decide)) rfl (aa (iW fR (iW fR bL (ev 1)) bL) ay)))
      (aV (bT (bB (aa (fz (aa bL (aa ei (aa (aM ig (hr.mono (by decide)) rfl (aa bL ay)) ay)))) (aa (fz (aa bL (aa ei (aa (ev 2) ay)))) (aa (fz (aa bL ay)) ay)))))))),?_⟩
  try walk_at "rn"
  have hl:=vK s3 lp
  have na:=bY (jV (s3 a (by simp)))
  have nb:=bY (jV (s3 b (by simp)))
  have nc:=bY (jV (s3 c (by simp)))
  have lr:=vJ (pl:=pl) s3 (by omega)
  refine ⟨⟨_,cH ru.t⟩,fun D nD=>?_⟩
  refine zH (α:=V) (L:=[.int a,.int b,.int c,.str pl]) (f:=id) (g:=fun v=>.str (Nq v)) (by rw [List.map_id];exact ru.t) nD (by simp) (fun v hv H' Q' xx qq=>?_) (fun G hD x1=>?_)
  · try walk_at "rn"
    simp only [List.mem_cons,List.not_mem_nil,or_false] at hv
    rcases hv with rfl | rfl | rfl | rfl
    · exact .inl ⟨a,rfl,pe (jV (s3 a (by simp))),qq _ Ext.refl⟩
    · exact .inl ⟨b,rfl,pe (jV (s3 b (by simp))),qq _ Ext.refl⟩
    · exact .inl ⟨c,rfl,pe (jV (s3 c (by simp))),qq _ Ext.refl⟩
    · exact .inr ⟨pl,rfl,qq _ Ext.refl⟩
  have PJ:(Str.ofString "head 0 0 1 2 ").length=13:=by decide +kernel
  have l2:(Str.ofString " -").length=2:=by decide +kernel
  have l1:(Str.ofString ",").length=1:=by decide +kernel
  have lr:(Str.join (Str.ofString ",") [bf a,bf b,bf c,pl]).length≤408:=lr
  refine ⟨[bf a,bf b,bf c,pl],cz.of hD,by simp only [nJ,List.foldl_cons,List.foldl_nil];omega,by omega,by omega,by rw [Str.length_append];omega,?_⟩
  rw [zN]
  refine ⟨_,rfl,by omega,_,rfl,by decide +kernel,fun u0 m0 u1 m1 u2 m2 D2 mD=>?_⟩
  have y0:=Ext.new (K:=K) (o:=.tup [V.str (Str.ofString "page"),V.int 2,V.str (aX (Str.ofString "leaf 0 -"))]) m0
  have y1:=Ext.new (K:=K) (o:=.tup [V.str (Str.ofString "page"),V.int 0,V.str (aX (bQ a b c pl))]) m1
  have y2:=Ext.new (K:=K) (o:=.tup [V.str (Str.ofString "blot")]) m2
  have yD:=Ext.new (K:=K) (o:=.lst [V.ref u0,V.ref u1,V.ref u2]) mD
  exact q D2 _ ⟨u0,u1,u2,ai,(y1.trans (y2.trans yD)).tup aN,(y2.trans yD).tup aN,yD.tup aN⟩ (br (x1.trans (y0.trans (y1.trans y2))) mD) (x1.trans (y0.trans (y1.trans (y2.trans yD))))
end
section
variable {P:Program} {w:World} {K:PySem.W.Frag} {mg:Str→Option Value} {base:Heap}
theorem fD (s:String):PyData.strOk (Str.ofString s)=true:=by
  unfold PyData.strOk
  rw [Str.ofString_eq_toList]
  simp only [List.all_toArray,List.all_map,List.all_eq_true,Function.comp,decide_eq_true_eq]
  intro c _
  rcases c.valid with h | ⟨_,h⟩
  · exact Nat.lt_trans h (by decide)
  · exact h
theorem g7 {a b:Str} (ha:PyData.strOk a=true) (hb:PyData.strOk b=true):PyData.strOk (a++b)=true:=by
  unfold PyData.strOk at *
  rw [Str.cps_append,Array.all_append,ha,hb]
  rfl
def Ent.good:Ent→Prop
  | .cA _ t=>PyData.strOk t=true
  | .line t=>PyData.strOk t=true
  | .blot=>True
theorem bK.keep {H H':Hp} {ps ws:List Addr} {W:List Ent} (en:bK K H ws W) (k:g6 K ps H H') (nt:tU H ps):bK K H' ws W:=
  ⟨en.1,fun i a e h1 h2=>⟨k.tup nt (en.2 i a e h1 h2).1,(en.2 i a e h1 h2).2⟩⟩
theorem bK.more {H:Hp} {ws:List Addr} {W:List Ent} {a:Addr} {e:Ent} (en:bK K H ws W) (h:tupQ K H a=some (Ent.v e)) (sm:e.small):bK K H (ws++[a]) (W++[e]):=by
  refine ⟨by rw [List.length_append,List.length_append,en.1];rfl,fun i b e' h1 h2=>?_⟩
  by_cases z:i < ws.length
  · rw [List.getElem?_append_left z] at h1
    rw [List.getElem?_append_left (by rw [← en.1];exact z)] at h2
    exact en.2 i b e' h1 h2
  · rw [List.getElem?_append_right (by omega)] at h1
    rw [List.getElem?_append_right (by rw [← en.1];omega)] at h2
    rw [← en.1] at h2
    cases ei:i - ws.length with
    | zero=>
      rw [ei] at h1 h2
      cases h1
      cases h2
      exact ⟨h,sm⟩
    | succ j=>
      rw [ei] at h1
      cases h1
theorem zP {H:Hp}:bK K H [] []:=⟨rfl,fun i a e h _=>by simp at h⟩
theorem E7 {q:Addr} {ps:List Addr} {H H2 H3:Hp} (k:Kp K q H H2) (l:g6 K ps H2 H3) (n:∀ y∈ps,new K H y):Kp K q H H3:=
  ⟨fun y o e ny=>l.keep y o (k.keep y o e ny) (fun m=>by rw [(n y m).1] at e;cases e),fun a xs e m=>l.mod a xs (k.mod a xs e m) m⟩
theorem Wl.E8 {q:Addr} {ps:List Addr} {H H':Hp} (h:Wl H q) (l:g6 K ps H H') (n:q∉ps):Wl H' q:=by
  rcases h with ⟨x,h⟩ | ⟨x,y,z,h⟩
  · exact .inl ⟨x,l.keep q _ h n⟩
  · exact .inr ⟨x,y,z,l.keep q _ h n⟩
theorem Wl.old {q y:Addr} {H:Hp} (h:Wl H q) (n:new K H y):q≠y:=fun e=>h.ne n e.symm
theorem bJ.kp {q:Addr} {H H':Hp} {C p dx a1 a2 a3:Addr} {s:Sh} {ws:List Addr} (sh:bJ K H C p dx a1 a2 a3 s ws) (k:Kp K q H H') (n:∀ y∈[p,a1,a2,a3],y≠q):bJ K H' C p dx a1 a2 a3 s ws:=
  ⟨k.keep p _ sh.ins (n p (by simp)),k.keep a1 _ sh.d (n a1 (by simp)),k.keep a2 _ sh.w (n a2 (by simp)),k.keep a3 _ sh.d0 (n a3 (by simp)),sh.Aa⟩
theorem bK.kp {q:Addr} {H H':Hp} {ws:List Addr} {W:List Ent} (en:bK K H ws W) (hq:Wl H q) (k:Kp K q H H'):bK K H' ws W:=by
  have l:g6 K [q] H H':=g6.of k
  refine en.keep l (fun y m=>?_)
  obtain rfl:=List.mem_singleton.mp m
  rcases hq with ⟨x,h⟩ | ⟨x,y,z,h⟩
  · exact ⟨_,h,fun _ z=>(by cases z),fun _ _ z=>(by cases z)⟩
  · exact ⟨_,h,fun _ z=>(by cases z),fun _ _ z=>(by cases z)⟩
def yw:Sh:=⟨[],Str.ofString "",[],[],Str.ofString ""⟩
theorem Ln {k:Int} {t:Str} (h:t≠Str.ofString ""):yw.carry (.cA k t) t=⟨[(k,t)],Str.ofString "",[],[],Str.ofString ""⟩:=by
  show (if t="" then yw else { yw with D:=putD yw.D k t })=_
  rw [if_neg h]
  rfl
theorem mj:(Str.ofString "").length=0:=by decide +kernel
theorem E9:(Str.ofString "\n").length=1:=by decide +kernel
structure Nr (K:PySem.W.Frag) (H H':Hp) (af p:Addr) (s:Sh) (W:List Ent):Prop where
  ex:∃ dp a1 a2 a3 ws,bJ K H' af p dp a1 a2 a3 s ws∧bK K H' ws W∧(∀ e∈W,e.good)∧∀ y∈[p,a1,a2,a3],new K H y
def qk (K:PySem.W.Frag) (af:Addr):Sp:=fun vs H Q _=>∃ q,vs=[.ref q]∧Wl H q∧∀ (p:Addr) (s:Sh) (W:List Ent) (H':Hp),Nr K H H' af p s W→¬ (s.D=[]∧s.J=Str.ofString "")→s.D.length≤1→s.J.length≤101→W.length≤2→Wl H' q→Kp K q H H'→Q (.ref p) H'
theorem fu:aG ["_law_state","_law_shelf","_law_way","_law_place"] ["_law_state"] (aj bP):=⟨rfl,rfl,rfl,by decide +kernel,rfl,by decide +kernel,by decide +kernel⟩
theorem ql {f af:Addr} {fd:FuncData} (F:fL K "_law_not_bare" "_law_not_bare" bP f fd) {cF cR cB ak aq aP:Addr} {tE t1 t2 t3 t4 tP tQ:Tok} (B:B K mg cF cR cB ak aq aP tE t1 t2 t3 t4 tP tQ) (aO:Callee P w K mg base "_law_digit" 1 ["_law_state","_law_base"] (pq K)) (iH:Maker P w K mg base "Shelf" 1 ["self"] [] af (rL af K)) (bg:bH P w K mg base af "write" 3 ["self","place","text"] [] (p8 K af fun vs e=>∃ k t,vs=[.int k,.str t]∧e=.cA k t∧0≤k∧k≤1000000)) (cN:bH P w K mg base af "line" 3 ["self","text"] [] (p8 K af fun vs e=>∃ t,vs=[.str t]∧e=.line t)) (aB:iu K af):aT P w K mg base eK 4 f fd ["_law_state"] (qk K af):=by
  refine F.iC fu (fun vs H Q E h=>?_) (fun cE A outer s H vs Q E hr h=>?_)
  · obtain ⟨q,rfl,_⟩:=h
    rfl
  obtain ⟨q,rfl,hq,k⟩:=h
  refine bA (rest:=(au bP).drop 3) (Hq (nF (tw (Dz (iX jf (ev 2) ei (bS _)) (qV (iX jf (ev 2) ei (bS _))))) (aV (fE (jR cN aB (hr.mono (by decide)) (ev 1) (aa (jF dW (bB (aa bL (aa bL (aa bL ay)))) (aM aO (hr.mono (by decide)) rfl (aa (ev 0) (aa ei ay))) (fun _ _=>rfl)) ay)))) gy)
      (aV (bT (ev 1)))) fun r3 J3 e3=>?_
  refine bA (rest:=(au bP).drop 2) (Hq (nF (iX rV (ev 2) ei (bS _)) (aD (sset (i:=3) fu.nd rfl (Or.inl rfl) (aM aO (hr.mono (by decide)) rfl (aa (ev 0) (aa (jF dW (bB (aa ei (aa ei (aa (iW gx (IV 1000000) ei) ay)))) (aM aO (hr.mono (by decide)) rfl (aa (ev 0) (aa ei ay))) (fun _ _=>rfl)) ay))))
      (aV (fE (jR bg aB (hr.mono (by decide)) (ev 1) (aa (ev 3) (aa (jF dW (bB (aa bL (aa bL (aa bL ay)))) (aM aO (hr.mono (by decide)) rfl (aa (ev 0) (aa ei ay))) (fun _ _=>rfl)) ay)))))) gy)
      J3) fun r2 J2 e2=>?_
  refine ⟨_,(aD (sset (i:=1) fu.nd rfl (Or.inl rfl) (AN iH (hr.mono (by decide)) rfl))
      (aD (sset (i:=2) fu.nd rfl (Or.inl rfl) (aM aO (hr.mono (by decide)) rfl (aa (ev 0) (aa ei ay))))
      J2)),?_⟩
  try walk_at "rn"
  intro p dp np nd ne
  refine ⟨p,dp,rfl,ai,fun a1 a2 a3 H1 n1 n2 n3 PL Aa n23 Dl h1 h2 h3 kp=>⟨rfl,?_⟩⟩
  have x1:=Kp.made np nd ne kp
  have x0:=Ext.made (K:=K) (o:=.ins af dp []) (o':=.own p) np nd ne
  have sh:bJ K H1 af p dp a1 a2 a3 ⟨[],Str.ofString "",[],[],Str.ofString ""⟩ []:=⟨Dl,h1,h2,h3,Aa⟩
  have nw:∀ y∈[p,a1,a2,a3],new K H y:=by
    intro y hy
    simp only [List.mem_cons,List.not_mem_nil,or_false] at hy
    rcases hy with rfl | rfl | rfl | rfl
    · exact np
    · exact br x0 n1
    · exact br x0 n2
    · exact br x0 n3
  refine ⟨q,4,rfl,hq.ext x1,by decide,by decide,fun way H2 w0 w1 hq2 k2=>?_⟩
  rw [e2]
  try walk_at "rn"
  have nq:∀ y∈[p,a1,a2,a3],y≠q:=fun y m=>hq.ne (nw y m)
  have nq3:q∉[p,a1,a2]:=fun m=>nq q (by simp only [List.mem_cons,List.not_mem_nil,or_false] at m ⊢;rcases m with h | h | h <;> simp [h]) rfl
  have nw3:∀ y∈[p,a1,a2],new K H y:=fun y m=>nw y (by simp only [List.mem_cons,List.not_mem_nil,or_false] at m ⊢;rcases m with h | h | h <;> simp [h])
  have Dk:=sh.kp k2 nq
  have kH2:Kp K q H H2:=(x1.kp (p:=q)).trans k2
  refine ⟨fun σ H'=>∃ (v3:Option V) (s':Sh) (ws:List Addr) (W:List Ent),σ=[some (V.ref q),some (V.ref p),some (V.int way),v3]∧bJ K H' af p dp a1 a2 a3 s' ws∧bK K H' ws W∧(∀ e∈W,e.good)∧s'.D.length≤1∧(way≠0→s'.D≠[])∧s'.J=Str.ofString ""∧W.length≤1∧Wl H' q∧Kp K q H H',?_,?_⟩
  · try walk_at "rn"
    refine Ax (fun c=>?_) (fun c=>?_)
    case refine_2=>
      have w0:way=0:=by
        by_cases h:way=0
        · exact h
        · exact absurd (by simpa using h) c
      exact ⟨yw,[],Dk,[],zP,fun e h=>(by cases h),Nat.zero_le _,fun z=>absurd w0 z,rfl,Nat.zero_le _,hq2,kH2⟩
    intro b1 m1
    have y1:=Ext.new (K:=K) (o:=.lst [V.int 3,V.int 20,V.int 1000001]) m1
    refine ⟨q,3,rfl,hq2.ext y1,by decide,by decide,fun r3 G1 r0 r1 hq3 k3=>⟨_,rfl,_,bX (k3.keep b1 _ ai (hq2.ne m1)),?_⟩⟩
    obtain ⟨v,ev,mv⟩:=pT (xs:=[V.int 3,V.int 20,V.int 1000001]) r0 r1
    obtain ⟨n,rfl,n0,n1⟩:∃ n:Int,v=.int n∧0 < n∧n≤1000001:=by
      simp only [List.mem_cons,List.not_mem_nil,or_false] at mv
      rcases mv with rfl | rfl | rfl <;> exact ⟨_,rfl,by decide,by decide⟩
    have zM:=(Dk.ext' y1).kp k3 nq
    refine ⟨_,ev,q,n,rfl,hq3,n0,by omega,fun pl G2 p0 p1 hq4 k4=>?_⟩
    have Ji:=zM.kp k4 nq
    refine ⟨_,_,Ji.ins,gB (by decide +kernel) (by decide +kernel) (by decide +kernel) (by decide +kernel) (by decide +kernel),fun b2 m2=>?_⟩
    have y2:=Ext.new (K:=K) (o:=.lst [V.str (Str.ofString "x"),V.str (Str.ofString "8 leaf 0 -"),V.str (Str.ofString "0 ")]) m2
    refine ⟨q,3,rfl,hq4.ext y2,by decide,by decide,fun r5 G3 s0 s1 hq5 k5=>⟨_,rfl,_,bX (k5.keep b2 _ ai (hq4.ne m2)),?_⟩⟩
    obtain ⟨v2,ev2,mv2⟩:=pT (xs:=[V.str (Str.ofString "x"),V.str (Str.ofString "8 leaf 0 -"),V.str (Str.ofString "0 ")]) s0 s1
    obtain ⟨t,rfl,tn,lt,gt⟩:∃ t:Str,v2=.str t∧t≠Str.ofString ""∧t.length≤100∧PyData.strOk t=true:=by
      simp only [List.mem_cons,List.not_mem_nil,or_false] at mv2
      rcases mv2 with rfl | rfl | rfl <;> exact ⟨_,rfl,by decide +kernel,by decide +kernel,fD _⟩
    have Nt:bJ K G3 af p dp a1 a2 a3 yw []:=(Ji.ext' y2).kp k5 nq
    refine ⟨_,ev2,p,dp,a1,a2,a3,yw,[],_,.cA pl t,rfl,⟨pl,t,rfl,rfl,p0,by omega⟩,Nt,lt,by show (Str.ofString "").length + 101≤sizeLine;have:=sizeLine_eq;have:=mj;omega,by decide,by decide,fun u G4 nu tu LZ ku=>?_⟩
    have LZ:bJ K G4 af p dp a1 a2 a3 (yw.carry (.cA pl t) t) [u]:=LZ
    rw [Ln tn] at LZ
    exact ⟨_,_,LZ,[.cA pl t],(zP.more tu lt:bK K G4 ([]++[u]) ([]++[.cA pl t])),fun e h=>(by rw [List.mem_singleton.mp h];exact gt),by simp,fun _=>by simp,rfl,by simp,hq5.E8 ku nq3,E7 (kH2.trans (y1.kp.trans (k3.trans (k4.trans (y2.kp.trans k5))))) ku nw3⟩
  · rintro σ H3 ⟨v3,s3,ws,W,rfl,zM,en3,gd3,l1,nD,hJ,lW,hq3,k3⟩
    rw [e3]
    try walk_at "rn"
    refine ⟨fun σ H'=>∃ (s':Sh) (ws:List Addr) (W:List Ent),σ=[some (V.ref q),some (V.ref p),some (V.int way),v3]∧bJ K H' af p dp a1 a2 a3 s' ws∧bK K H' ws W∧(∀ e∈W,e.good)∧s'.D.length≤1∧¬ (s'.D=[]∧s'.J=Str.ofString "")∧s'.J.length≤101∧W.length≤2∧Wl H' q∧Kp K q H H',?_,?_⟩
    · try walk_at "rn"
      refine Ax (fun c=>?_) (fun c=>Ax (fun c2=>?_) (fun c2=>?_))
      rotate_left 2
      · exact ⟨s3,ws,zM,W,en3,gd3,l1,fun z=>nD c z.1,by rw [hJ,mj];omega,by omega,hq3,k3⟩
      all_goals
        refine ⟨_,_,zM.ins,gB (by decide +kernel) (by decide +kernel) (by decide +kernel) (by decide +kernel) (by decide +kernel),fun b1 m1=>?_⟩
        have y1:=Ext.new (K:=K) (o:=.lst [V.str (Str.ofString ""),V.str (Str.ofString "1 mark"),V.str (Str.ofString "0")]) m1
        refine ⟨q,3,rfl,hq3.ext y1,by decide,by decide,fun r3 G1 r0 r1 hq4 k4=>⟨_,rfl,_,bX (k4.keep b1 _ ai (hq3.ne m1)),?_⟩⟩
        obtain ⟨v2,ev2,mv2⟩:=pT (xs:=[V.str (Str.ofString ""),V.str (Str.ofString "1 mark"),V.str (Str.ofString "0")]) r0 r1
        obtain ⟨t,rfl,lt,gt⟩:∃ t:Str,v2=.str t∧t.length≤100∧PyData.strOk t=true:=by
          simp only [List.mem_cons,List.not_mem_nil,or_false] at mv2
          rcases mv2 with rfl | rfl | rfl <;> exact ⟨_,rfl,by decide +kernel,fD _⟩
        have sh5:=(zM.ext' y1).kp k4 nq
        have en5:=(en3.ext y1).kp (hq3.ext y1) k4
        have wl:ws.length≤1:=by rw [en3.1];exact lW
        refine ⟨_,ev2,p,dp,a1,a2,a3,s3,ws,_,.line t,rfl,⟨t,rfl,rfl⟩,sh5,lt,by rw [hJ,mj];have:=sizeLine_eq;omega,by omega,by omega,fun u G4 nu tu LZ ku=>?_⟩
        have jl:(s3.J++(t++Str.ofString "\n")).length=t.length + 1:=by rw [Str.length_append,Str.length_append,hJ,mj,E9];omega
        refine ⟨{ s3 with J:=s3.J++(t++Str.ofString "\n") },_,LZ,_,(en5.keep ku sh5.qM).more tu lt,fun e h=>(by rcases List.mem_append.mp h with h | h;exact gd3 e h;rw [List.mem_singleton.mp h];exact gt),l1,fun z=>?_,by show (s3.J++(t++Str.ofString "\n")).length≤101;omega,by rw [List.length_append];simp;omega,hq4.E8 ku nq3,E7 (k3.trans (y1.kp.trans k4)) ku nw3⟩
        have z2:s3.J++(t++Str.ofString "\n")=Str.ofString "":=z.2
        rw [z2,mj] at jl
        omega
    · rintro σ H4 ⟨s4,ws4,W4,rfl,Ji,PM,gd4,d4,nb4,j4,w4,hq4,k4⟩
      try walk_at "rn"
      exact k p s4 W4 H4 ⟨dp,a1,a2,a3,ws4,Ji,PM,gd4,nw⟩ nb4 d4 j4 w4 hq4 k4
end
section
variable {P:Program} {w:World} {K:PySem.W.Frag} {mg:Str→Option Value} {base:Heap}
def Ab (K:PySem.W.Frag) (H:Hp):Nat→V→V→Prop
  | 0,_,_=>False
  | n + 1,u,v=>(u=v∧((∃ i,v=.int i)∨v=.cG∨∃ s,v=.str s))∨
    (∃ a b xs ys,u=.ref a∧v=.ref b∧H a=some (.lst xs)∧H b=some (.lst ys)∧xs.length=ys.length∧xs.length≤1000000∧∀ (i:Nat) x y,xs[i]?=some x→ys[i]?=some y→Ab K H n x y)∨
    (∃ a b xs ys,u=.ref a∧v=.ref b∧tupQ K H a=some xs∧tupQ K H b=some ys∧xs.length=ys.length∧xs.length≤1000000∧∀ (i:Nat) x y,xs[i]?=some x→ys[i]?=some y→Ab K H n x y)
theorem Ab.ext {H H':Hp} (x:Ext K H H'):∀ {n:Nat} {u v:V},Ab K H n u v→Ab K H' n u v
  | 0,_,_,h=>h
  | n + 1,u,v,h=>by
    rcases h with h | ⟨a,b,xs,ys,rfl,rfl,h1,h2,l1,l2,h⟩ | ⟨a,b,xs,ys,rfl,rfl,h1,h2,l1,l2,h⟩
    · exact .inl h
    · exact .inr (.inl ⟨a,b,xs,ys,rfl,rfl,x.at h1,x.at h2,l1,l2,fun i p q e f=>(h i p q e f).ext x⟩)
    · exact .inr (.inr ⟨a,b,xs,ys,rfl,rfl,x.tup h1,x.tup h2,l1,l2,fun i p q e f=>(h i p q e f).ext x⟩)
theorem Ab.int {H:Hp} {n:Nat} {i:Int}:Ab K H (n + 1) (.int i) (.int i):=.inl ⟨rfl,.inl ⟨_,rfl⟩⟩
theorem Ab.str {H:Hp} {n:Nat} {s:Str}:Ab K H (n + 1) (.str s) (.str s):=.inl ⟨rfl,.inr (.inr ⟨_,rfl⟩)⟩
def nv (K:PySem.W.Frag) (n:Nat):Sp:=fun vs H Q _=>∃ u v,vs=[u,v]∧Ab K H n u v∧∀ H',Ext K H H'→Q (.bl true) H'
theorem pG {H:Hp} {v:V} {t:Value} {n:String} {b:Bool} {R:Bool→Prop} (h:BH K H v t) (e:PySem.W.kitOne K t (.type n)=some b) (r:R b):∃ x,BH K H v x∧∃ y,PySem.W.kitOne K x (.type n)=some y∧R y:=⟨t,h,b,e,r⟩
theorem kW {a b:Prop} (h:b):if false=true then a else b:=by rw [if_neg (by decide)];exact h
theorem xY {a b:Prop} (h:a):if true=true then a else b:=by rw [if_pos rfl];exact h
theorem Lo {a b:Prop} (h:a):if (!false)=true then a else b:=by rw [Bool.not_false,if_pos rfl];exact h
theorem rO {x:Bool} {a b:Prop} (h:b):if (!decide (x=x))=true then a else b:=by rw [decide_eq_true rfl];exact kW h
theorem Jj (n:Nat):(List.replicate n true).map V.bl=List.replicate n (.bl true):=by rw [List.map_replicate]
theorem vL (n:Nat):(List.replicate n true).all id=true:=by
  rw [List.all_eq_true]
  intro b hb
  rw [(List.mem_replicate.1 hb).2]
  rfl
theorem zQ {n:Nat} {H H':Hp} {D T:Addr} {i:Nat} {x y:V} {R:List V→St→Hp→Prop} {Z:St→Hp→Prop} {v0 v1:Option V} (hn:Ab K H n x y) (xH:Ext K H H') (hD:H' D=some (.lst (List.replicate i (.bl true)))) (hi:i < 1000000) (nT:new K H' T)
    (r:∀ H2,Kp K D H' H2→H2 D=some (.lst (List.replicate (i + 1) (.bl true)))→R (List.replicate i (.bl true)++[.bl true]) [some x,some y] H2):
    lQ K 2 (je (eN 0) (je (eN 1) rS)) (.ref T) [v0,v1] (upd H' T (.tup [x,y])) fun σ2 H2=>nH σ2 H2 fun b H3=>if b=true then jh (nv K n) [] E0 (jg (oj 0) (jg (oj 1) ou)) σ2 H3 fun v H4=>H4 D=some (.lst (List.replicate i (.bl true)))∧(List.replicate i (V.bl true)).length < sizeLine∧R (List.replicate i (.bl true)++[v]) σ2 (upd H4 D (.lst (List.replicate i (.bl true)++[v]))) else Z σ2 H3:=by
  simp_arith [nH]
  have xT:=Ext.new (K:=K) (o:=.tup [x,y]) nT
  refine ⟨x,y,rfl,hn.ext (xH.trans xT),fun H2 x2=>?_⟩
  have PC:=(xT.trans x2).at hD
  have er:List.replicate i (V.bl true)++[.bl true]=List.replicate (i + 1) (.bl true):=(List.replicate_succ' ..).symm
  refine ⟨PC,by rw [List.length_replicate];have:=sizeLine_eq;omega,r _ ((xT.trans x2).kp.trans (Kp.upd PC)) (by rw [ai,er])⟩
theorem Dm {n:Nat} {H:Hp} {a b D:Addr} {xs ys:List V} {R:Hp→Prop} (h1:H a=some (.lst xs)) (h2:H b=some (.lst ys)) (l1:xs.length=ys.length) (l2:xs.length≤1000000) (h:∀ (i:Nat) x y,xs[i]?=some x→ys[i]?=some y→Ab K H n x y) (nD:new K H D)
    (fin:∀ H',H' D=some (.lst ((List.replicate xs.length true).map V.bl))→Ext K H H'→R H'):eu (LV K a b) (lQ K 2 (je (eN 0) (je (eN 1) rS))) nH (jh (nv K n) [] E0 (jg (oj 0) (jg (oj 1) ou))) D R [none,none] (upd H D (.lst [])):=by
  refine K5 (xs:=xs) (ys:=ys) (fun i acc σ' H'=>∃ v0 v1:Option V,σ'=[v0,v1]∧acc=List.replicate i (.bl true)∧H' D=some (.lst acc)∧Kp K D (upd H D (.lst [])) H') l1 ⟨_,_,rfl,rfl,ai,Kp.refl⟩ ?_ ?_ ?_
  · rintro i acc σ' H' _ ⟨_,_,rfl,rfl,hD,k⟩
    exact ⟨cz.of ((k.ext nD).at h1),cz.of ((k.ext nD).at h2)⟩
  · rintro i x y acc σ' H' T hx hy ⟨_,_,rfl,rfl,hD,k⟩ nT
    have hi:=(List.getElem?_eq_some_iff.1 hx).1
    exact zQ (R:=fun acc σ H2=>∃ v0 v1:Option V,σ=[v0,v1]∧acc=List.replicate (i + 1) (.bl true)∧H2 D=some (.lst acc)∧Kp K D (upd H D (.lst [])) H2) (h i x y hx hy) (k.ext nD) hD (by omega) nT fun H2 k2 e2=>⟨_,_,rfl,(List.replicate_succ' ..).symm,by rw [e2,List.replicate_succ'],k.trans k2⟩
  · rintro acc σ' H' ⟨_,_,rfl,rfl,hD,k⟩
    rw [← Jj] at hD
    exact fin H' hD (k.ext nD)
theorem Ba {n:Nat} {H:Hp} {a b D:Addr} {xs ys:List V} {R:Hp→Prop} (h1:tupQ K H a=some xs) (h2:tupQ K H b=some ys) (l1:xs.length=ys.length) (l2:xs.length≤1000000) (h:∀ (i:Nat) x y,xs[i]?=some x→ys[i]?=some y→Ab K H n x y) (nD:new K H D)
    (fin:∀ H',H' D=some (.lst ((List.replicate xs.length true).map V.bl))→Ext K H H'→R H'):eu (CY K a b) (lQ K 2 (je (eN 0) (je (eN 1) rS))) nH (jh (nv K n) [] E0 (jg (oj 0) (jg (oj 1) ou))) D R [none,none] (upd H D (.lst [])):=by
  refine Hy (xs:=xs) (ys:=ys) (fun i acc σ' H'=>∃ v0 v1:Option V,σ'=[v0,v1]∧acc=List.replicate i (.bl true)∧H' D=some (.lst acc)∧Kp K D (upd H D (.lst [])) H') l1 ⟨_,_,rfl,rfl,ai,Kp.refl⟩ ?_ ?_ ?_
  · rintro i acc σ' H' _ ⟨_,_,rfl,rfl,hD,k⟩
    exact ⟨cH ((k.ext nD).tup h1),cH ((k.ext nD).tup h2)⟩
  · rintro i x y acc σ' H' T hx hy ⟨_,_,rfl,rfl,hD,k⟩ nT
    have hi:=(List.getElem?_eq_some_iff.1 hx).1
    exact zQ (R:=fun acc σ H2=>∃ v0 v1:Option V,σ=[v0,v1]∧acc=List.replicate (i + 1) (.bl true)∧H2 D=some (.lst acc)∧Kp K D (upd H D (.lst [])) H2) (h i x y hx hy) (k.ext nD) hD (by omega) nT fun H2 k2 e2=>⟨_,_,rfl,(List.replicate_succ' ..).symm,by rw [e2,List.replicate_succ'],k.trans k2⟩
  · rintro acc σ' H' ⟨_,_,rfl,rfl,hD,k⟩
    rw [← Jj] at hD
    exact fin H' hD (k.ext nD)
theorem uQ:aG ["_law_found","_law_due_here"] ["_law_found","_law_due_here"] (aj dD):=⟨rfl,rfl,rfl,by decide +kernel,rfl,by decide +kernel,by decide +kernel⟩
theorem rA {n:Nat} {f:Addr} {fd:FuncData} (F:fL K "_law_alike" "_law_alike" dD f fd) {cF cR cB ak aq aP:Addr} {tE t1 t2 t3 t4 tP tQ:Tok} (B:B K mg cF cR cB ak aq aP tE t1 t2 t3 t4 tP tQ) (bO:Callee P w K mg base "_law_alike" n ["_law_found","_law_due_here"] (nv K n)):aT P w K mg base eK (n + 1) f fd ["_law_found","_law_due_here"] (nv K (n + 1)):=by
  refine F.iC uQ (fun vs H Q E h=>?_) (fun cE A outer s H vs Q E hr h=>?_)
  · obtain ⟨u,v,rfl,_⟩:=h
    rfl
  obtain ⟨u,v,rfl,h,q⟩:=h
  refine ⟨_,(aD (nF (tw (Dz (iY (bw aW rfl B.isinstance aH (aa (ev 1) (aa (j8 rfl B.list jj) ay)))) (qV (iY (bw aW rfl B.isinstance aH (aa (ev 1) (aa (j8 rfl B.tuple lN) ay))))))) (aD (nF (tw (Dz (iX rV (bw aW rfl B.isinstance aH (aa (ev 0) (aa (j8 rfl B.list jj) ay))) (bw aW rfl B.isinstance aH (aa (ev 1) (aa (j8 rfl B.list jj) ay))) (bS _)) (qV (iX rV (bw aW rfl B.isinstance aH (aa (ev 0) (aa (j8 rfl B.tuple lN) ay))) (bw aW rfl B.isinstance aH (aa (ev 1) (aa (j8 rfl B.tuple lN) ay))) (bS _))))) (aV (bT Ay)) gy)
      (aV (bT (qU (we jf (bw mQ rfl B.len j7 (aa (ev 0) ay)) (bw mQ rfl B.len j7 (aa (ev 1) ay)) (bS _)) (qT (bw (vA rfl) rfl B.all D9 (aa (LU (m8.mk (N:=["_law_one","_law_other"]) (src:=[none,none]) rfl rfl) rfl (MZ rfl B.zip (aa (ev 0) (aa (ev 1) ay))) (fun _ _ _ _=>(wo K (n:=2) rfl (cj (bF (i:=0) (show (["_law_one","_law_other"]:List Str).Nodup from by decide +kernel) rfl (Or.inl rfl)) (cj (bF (i:=1) (show (["_law_one","_law_other"]:List Str).Nodup from by decide +kernel) rfl (Or.inl rfl)) uC)))) (fun _ _ _ _=>m9) (fun _ _ _ _=>(aM bO (hr.mono (by omega)) rfl (aa (ev 0) (aa (ev 1) ay))))) ay))))))) gy)
      (aD (nF (iY (bw aW rfl B.isinstance aH (aa (ev 1) (aa (j8 rfl B.dict BE) ay)))) (aD (nF (tw (Dz (mZ (iY (bw aW rfl B.isinstance aH (aa (ev 0) (aa (j8 rfl B.dict BE) ay))))) (qV (iX rV (bw mQ rfl B.len j7 (aa (ev 0) ay)) (bw mQ rfl B.len j7 (aa (ev 1) ay)) (bS _))))) (aV (bT Ay)) gy)
      (aV (bT (bw (vA rfl) rfl B.all D9 (aa (RS (m8.mk (N:=["_law_key","_law_found","_law_due_here"]) (src:=[none,some 0,some 1]) rfl rfl) rfl (ev 1) (fun _ _ _ _=>(bF (i:=0) (show (["_law_key","_law_found","_law_due_here"]:List Str).Nodup from by decide +kernel) rfl (Or.inl rfl))) (fun _ _ _ _=>m9) (fun _ _ _ _=>(qU (we (Eo hr.units) (ev 0) (ev 1) (by with_unfolding_all rfl)) (qT (aM bO (hr.mono (by omega)) rfl (aa (BL hr.units (ev 1) (ev 0) (fun _ _=>rfl)) (aa (BL hr.units (ev 2) (ev 0) (fun _ _=>rfl)) ay))))))) ay))))) gy)
      (aD (nF (tw (Dz (iX DM (ev 1) wc (bS _)) (qV (iY (bw aW rfl B.isinstance aH (aa (ev 1) (aa (j8 rfl B.str nC) ay))))))) (aV (bT (qU (we jf (ev 0) (ev 1) (bS _)) (qT (we jf (bw aW rfl B.isinstance aH (aa (ev 0) (aa (j8 rfl B.str nC) ay))) (bw aW rfl B.isinstance aH (aa (ev 1) (aa (j8 rfl B.str nC) ay))) (bS _)))))) gy)
      (aV (bT (qU (bw aW rfl B.isinstance aH (aa (ev 0) (aa (j8 rfl B.int sF) ay))) (qU (KQ (bw aW rfl B.isinstance aH (aa (ev 0) (aa (j8 rfl B.bool BD) ay)))) (qT (we jf (ev 0) (ev 1) (bS _)))))))))),?_⟩
  try walk_at "rn"
  rcases h with ⟨rfl,⟨i,rfl⟩ | rfl | ⟨s',rfl⟩⟩ | ⟨a,b,xs,ys,rfl,rfl,h1,h2,l1,l2,h⟩ | ⟨a,b,xs,ys,rfl,rfl,h1,h2,l1,l2,h⟩
  · have ty:BH K H (.int i) (.type "int"):=.inl (.int i)
    refine pG ty rfl (kW (pG ty rfl (kW (pG ty rfl (kW ?_)))))
    rw [if_neg (fun e=>by cases e)]
    refine pG ty rfl (kW (pG ty rfl (xY (pG (b:=false) ty rfl (Lo ⟨rfl,?_⟩)))))
    rw [decide_eq_true rfl]
    exact q _ Ext.refl
  · have ty:BH K H .cG (.type "NoneType"):=.inl .cG
    refine pG ty rfl (kW (pG ty rfl (kW (pG ty rfl (kW ?_)))))
    rw [if_pos rfl]
    refine ⟨rfl,?_⟩
    rw [if_pos rfl]
    refine pG ty rfl (pG ty rfl ?_)
    exact q _ Ext.refl
  · have ty:BH K H (.str s') (.type "str"):=.inl (.str s')
    refine pG ty rfl (kW (pG ty rfl (kW (pG ty rfl (kW ?_)))))
    rw [if_neg (fun e=>by cases e)]
    refine pG ty rfl (xY ⟨rfl,?_⟩)
    rw [if_pos rfl]
    refine pG ty rfl (pG ty rfl ?_)
    exact q _ Ext.refl
  · have ta:BH K H (.ref a) (.type "list"):=.inl (.lst h1)
    have tb:BH K H (.ref b) (.type "list"):=.inl (.lst h2)
    refine pG tb rfl (xY (pG ta rfl (pG tb rfl (rO (pG ta rfl (pG tb rfl (rO (.inl ⟨a,rfl,xs,bX h1,.inl ⟨b,rfl,ys,bX h2,?_⟩⟩))))))))
    rw [if_pos (by rw [l1])]
    refine ⟨a,rfl,b,rfl,.inl ⟨⟨_,cz.of h1⟩,⟨_,cz.of h2⟩,fun D nD=>Dm h1 h2 l1 l2 h nD fun H' hD x=>⟨_,cz.of hD,?_⟩⟩⟩
    rw [vL]
    exact q _ x
  · have ta:BH K H (.ref a) (.type "tuple"):=.tup h1
    have tb:BH K H (.ref b) (.type "tuple"):=.tup h2
    refine pG tb rfl (kW (pG tb rfl (xY (pG ta rfl (pG tb rfl (rO (pG ta rfl (pG tb rfl (rO (.inl ⟨a,rfl,xs,cU h1,.inl ⟨b,rfl,ys,cU h2,?_⟩⟩))))))))))
    rw [if_pos (by rw [l1])]
    refine ⟨a,rfl,b,rfl,.inr ⟨⟨_,cH h1⟩,⟨_,cH h2⟩,fun D nD=>Ba h1 h2 l1 l2 h nD fun H' hD x=>⟨_,cz.of hD,?_⟩⟩⟩
    rw [vL]
    exact q _ x
theorem rB {f:Addr} {fd:FuncData}:aT P w K mg base eK 0 f fd ["_law_found","_law_due_here"] (nv K 0):=
  ⟨fun _ _ _ _ h=>let ⟨_,_,_,h,_⟩:=h;h.elim,fun _ _ _ _ _ _ _ _ _ _ _ _ _ h=>let ⟨_,_,_,h,_⟩:=h;h.elim⟩
theorem mq {f:Addr} {fd:FuncData} (F:fL K "_law_alike" "_law_alike" dD f fd) {cF cR cB ak aq aP:Addr} {tE t1 t2 t3 t4 tP tQ:Tok} (B:B K mg cF cR cB ak aq aP tE t1 t2 t3 t4 tP tQ) (b:Binds K fd ["_law_found","_law_due_here"] []) (kp:PySem.W.keepIn K (.ref f)=true) (m:mg "_law_alike"=some (.ref f)):∀ n:Nat,aT P w K mg base eK n f fd ["_law_found","_law_due_here"] (nv K n)
  | 0=>rB
  | n + 1=>rA F B ⟨f,fd,mq F B b kp m n,b,kp,m⟩
theorem uR {f:Addr} {fd:FuncData} (F:fL K "_law_alike" "_law_alike" dD f fd) {cF cR cB ak aq aP:Addr} {tE t1 t2 t3 t4 tP tQ:Tok} (B:B K mg cF cR cB ak aq aP tE t1 t2 t3 t4 tP tQ) (b:Binds K fd ["_law_found","_law_due_here"] []) (kp:PySem.W.keepIn K (.ref f)=true) (m:mg "_law_alike"=some (.ref f)):aT P w K mg base eK 5 f fd ["_law_found","_law_due_here"] (nv K 5):=mq F B b kp m 5
end
section
variable {P:Program} {w:World} {K:PySem.W.Frag} {mg:Str→Option Value} {base:Heap}
theorem g6.sub {H H':Hp} {ps qs:List Addr} (k:g6 K ps H H') (h:∀ q,q∈ps→q∈qs):g6 K qs H H':=⟨fun q o e n=>k.keep q o e (fun m=>n (h q m)),k.mod⟩
theorem bJ.Im {H:Hp} {C p dx a1 a2 a3 z:Addr} {s:Sh} {ws:List Addr} {o:HO} (sh:bJ K H C p dx a1 a2 a3 s ws) (n:z≠p∧z≠a1∧z≠a2∧z≠a3):bJ K (upd H z o) C p dx a1 a2 a3 s ws:=
  ⟨(ao n.1.symm).trans sh.ins,(ao n.2.1.symm).trans sh.d,(ao n.2.2.1.symm).trans sh.w,(ao n.2.2.2.symm).trans sh.d0,sh.Aa⟩
theorem qm {H:Hp} {a b:Addr} {xs:List V} {o:HO} (h:tupQ K H a=some xs) (e:H b=some o) (n:∀ xs,o≠.tup xs):a≠b:=by
  rintro rfl
  unfold tupQ at h
  rw [e] at h
  cases o with
  | tup ys=>exact n ys rfl
  | _=>cases h
theorem g6.PN {H H':Hp} {ps:List Addr} (x:Ext K H H'):g6 K ps H H':=⟨fun q o e _=>x.same q o e,x.mod⟩
theorem Nu:∀ n:Nat,n < 100→(bf (n:Int)).length≤2:=by decide +kernel
theorem Fb {i:Int} (h:0≤i∧i < 100):(bf i).length≤2:=by
  obtain ⟨n,rfl⟩:=Int.eq_ofNat_of_zero_le h.1
  exact Nu n (by omega)
theorem qN {H:Hp} {R:Addr} {a b c:Int} {pl:Str} (ru:ie K H R a b c pl):(aX (bQ a b c pl)).length≤100∧cW [a,b,c]∧pl.length≤10:=by
  obtain ⟨_,⟨a1,a2⟩,⟨b1,b2⟩,⟨c1,c2⟩,p⟩:=ru
  have lp:pl.length≤7:=by rcases p with rfl | rfl <;> decide +kernel
  have la:=Fb (i:=a) ⟨by omega,by omega⟩
  have lb:=Fb (i:=b) ⟨by omega,by omega⟩
  have lc:=Fb (i:=c) ⟨by omega,by omega⟩
  have er:lZ a b c pl=bf a++Str.ofString ","++(bf b++Str.ofString ","++(bf c++Str.ofString ","++pl)):=rfl
  have eh:bQ a b c pl=Str.ofString "head"++Str.ofString " "++(bf 0++Str.ofString " "++(bf 0++Str.ofString " "++(bf 1++Str.ofString " "++(bf 2++Str.ofString " "++(lZ a b c pl++Str.ofString " "++Str.ofString "-"))))):=rfl
  have l0:(Str.ofString ",").length=1:=by decide +kernel
  have l1:(Str.ofString " ").length=1:=by decide +kernel
  have l2:(Str.ofString "-").length=1:=by decide +kernel
  have l3:(Str.ofString "head").length=4:=by decide +kernel
  have n0:(bf 0).length=1:=by decide +kernel
  have n1:(bf 1).length=1:=by decide +kernel
  have n2:(bf 2).length=1:=by decide +kernel
  have lr:(lZ a b c pl).length≤16:=by rw [er];simp only [ET,l0];omega
  have lh:(bQ a b c pl).length≤50:=by rw [eh];simp only [ET,l1,l2,l3,n0,n1,n2];omega
  refine ⟨?_,?_,by omega⟩
  · unfold aX
    have:=Nu (bQ a b c pl).length (by omega)
    simp only [ET,l1]
    omega
  · intro i hi
    simp only [List.mem_cons,List.not_mem_nil,or_false] at hi
    rcases hi with rfl | rfl | rfl <;> omega
theorem zR {a b c d v:V}:bW (Str.ofString "series") v (kZ a b c d)=kZ a b v d:=by
  have k2:¬ (("store":Str)="series"):=by decide +kernel
  have k3:¬ (("shelf":Str)="series"):=by decide +kernel
  simp only [bW,kZ,k2,k3,if_false,if_true]
theorem Fc {a b c d v:V}:bW (Str.ofString "stands") v (kZ a b c d)=kZ a b c v:=by
  have k2:¬ (("store":Str)="stands"):=by decide +kernel
  have k3:¬ (("shelf":Str)="stands"):=by decide +kernel
  have k4:¬ (("series":Str)="stands"):=by decide +kernel
  simp only [bW,kZ,k2,k3,k4,if_false,if_true]
theorem zS {b:Str}:aX b≠Str.ofString "":=fun e=>by
  have l1:(Str.ofString " ").length=1:=by decide +kernel
  have l2:(Str.ofString "").length=0:=by decide +kernel
  have:=congrArg Str.length e
  unfold aX at this
  simp only [ET,l1,l2] at this
  omega
theorem zT {s:Sh} {k:Int} {t:Str} (h:t≠Str.ofString ""):s.carry (.cA k t) t={ s with D:=putD s.D k t }:=if_neg h
theorem Fd {s:Sh} {hd:Str} (hD:s.D=[]):((s.carry (.cA 2 (aX (Str.ofString "leaf 0 -"))) (aX (Str.ofString "leaf 0 -"))).carry (.cA 0 (aX hd)) (aX hd)).carry .blot ""=s.begun hd:=by
  rw [zT zS,zT zS,hD]
  rfl
theorem aU:aG ["self","rule","last","marks","fresh","rooms","stands","written","taken","room","body","place","top_place","head_place"] ["self"] (aj bM):=⟨rfl,rfl,rfl,by decide +kernel,rfl,by decide +kernel,by decide +kernel⟩
theorem tY {f aE af aA av:Addr} {fd:FuncData} (F:fL K "settle" "Kept.settle" bM f fd) {cF cR cB ak aq aP:Addr} {tE t1 t2 t3 t4 tP tQ:Tok} (B:B K mg cF cR cB ak aq aP tE t1 t2 t3 t4 tP tQ) (jr:Callee P w K mg base "room_text" 4 ["room","places"] (EU K)) (fO:Callee P w K mg base "children_told" 1 ["room"] (xP K)) (iI:Callee P w K mg base "free_place" 1 ["taken"] A8) (gu:Callee P w K mg base "page_of" 2 ["body"] HZ) (bZ:bH P w K mg base aA "image" 5 ["self"] [] (B0 K aA av ak)) (cI:bH P w K mg base aE "standing_place" 1 ["self","number","body"] [] (xQ K aE)) (bg:bH P w K mg base af "write" 3 ["self","place","text"] [] (p8 K af fun vs e=>∃ k t,vs=[.int k,.str t]∧e=.cA k t∧0≤k∧k≤1000000)) (dY:bH P w K mg base aE "write_head" 4 ["self","head"] [] (Lm K aE af)) (bh:iu K aE) (bu:iu K aA) (aB:iu K af) (iG:aK K aE "store") (fN:aK K aE "shelf") (jW:aK K aE "series") (gG:aK K aE "stands"):aT P w K mg base eK 6 f fd ["self"] (tW K aE af aA av ak):=by
  refine F.iC aU (fun vs H Q E h=>?_) (fun cE A outer s H vs Q E hr h=>?_)
  · obtain ⟨y,dy,x,d,R,a,b,c,pl,dx,h,dh,k,lf,dl,r,t,p,dp,a1,a2,a3,s,ws,rfl,_⟩:=h
    rfl
  obtain ⟨y,dy,x,d,R,a,b,c,pl,dx,h,dh,k,lf,dl,r,t,p,dp,a1,a2,a3,s,ws,rfl,⟨hy,hd⟩,st,ru,sh,hD,hJ,lW,sep,q⟩:=h
  refine bA (rest:=(au bM).drop 5) (aD (sset (i:=12) aU.nd rfl (Or.inl rfl) (jF dW (BL hr.units (ev 6) (jF dW (jF dW (ev 5) ei (fun _ _=>rfl)) ei (fun _ _=>rfl)) (fun _ _=>rfl)) ei (fun _ _=>rfl)))
      (aD (sset (i:=13) aU.nd rfl (Or.inl rfl) (jR dY bh (hr.mono (by decide)) (ev 0) (aa (fz (aa (iW gx (gU (ev 0)) ei) (aa (ev 2) (aa (ev 4) (aa (ev 12) (aa (ev 1) (aa (ev 3) ay))))))) ay)))
      (aD (BS Kn (ev 0) ei)
      (aD (jd (ev 0) (ev 6))
      (aV (bT (iW mO (ev 7) (bB (aa (ev 13) ay))))))))) fun r5 J5 e5=>?_
  refine bA (rest:=(au bM).drop 4) (aD (KS PassesOwn.never rfl (R5 rfl B.reversed (aa (ev 5) ay)) (bF (i:=9) aU.nd rfl (Or.inl rfl))
        (aD (sset (i:=10) aU.nd rfl (Or.inl rfl) (aM jr (hr.mono (by decide)) rfl (aa (ev 9) (aa (edc (m8.mk (N:=["child","stands"]) (src:=[none,some 6]) rfl rfl) rfl (sG (aM fO (hr.mono (by decide)) rfl (aa (ev 9) ay))) (fun _ _ _ _=>(bF (i:=0) (show (["child","stands"]:List Str).Nodup from by decide +kernel) rfl (Or.inl rfl))) (fun _ _ _ _=>m9) (fun _ _ _ _=>(ev 0)) (fun _ _ _ _=>(jF (Ej K) (BL hr.units (ev 1) (ev 0) (fun _ _=>rfl)) ei (fun _ _=>rfl)))) ay))))
      (aD (sset (i:=11) aU.nd rfl (Or.inl rfl) (jR cI bh (hr.mono (by decide)) (ev 0) (aa (jF dW (ev 9) ei (fun _ _=>rfl)) (aa (ev 10) ay))))
      (Hq (nF (iX DM (ev 11) wc (bS _)) (aD (sset (i:=11) aU.nd rfl (Or.inl rfl) (aM iI (hr.mono (by decide)) rfl (aa (ev 8) ay)))
      (aD (fE (jR bg aB (hr.mono (by decide)) (gU (ev 0)) (aa (ev 11) (aa (aM gu (hr.mono (by decide)) rfl (aa (ev 10) ay)) ay))))
      (aV (fE (CL PySem.F.plainAttrs_list PySem.F.slot_list_append PySem.F.type_list_append fV (ev 7) (aa (ev 11) ay)))))) gy)
      (aD (Er hr.units (ev 8) (ev 11) Ay)
      (aV (Er hr.units (ev 6) (jF dW (ev 9) ei (fun _ _=>rfl)) (fz (aa (ev 10) (aa (ev 11) ay))))))))))
      J5) fun r4 J4 e4=>?_
  refine bA (rest:=(au bM).drop 3) (aD (R4 (i:=8) aU.nd rfl (Or.inl rfl) (m8.mk (N:=["body","place"]) (src:=[none,none]) rfl rfl) rfl (gU (ev 0)) (fun _ _ _ _=>(wo K (n:=2) rfl (cj (bF (i:=0) (show (["body","place"]:List Str).Nodup from by decide +kernel) rfl (Or.inl rfl)) (cj (bF (i:=1) (show (["body","place"]:List Str).Nodup from by decide +kernel) rfl (Or.inl rfl)) uC)))) (fun _ _ _ _=>m9) (fun _ _ _ _=>(ev 1)) (fun _ _ _ _=>Ay))
      J4) fun r3 J3 e3=>?_
  refine bA (rest:=(au bM).drop 1) (aD (sset (i:=6) aU.nd rfl (Or.inr rfl) wG)
      (aD (sset (i:=7) aU.nd rfl (Or.inl rfl) (bB ay))
      J3)) fun r1 J1 e1=>?_
  refine ⟨_,(aD (uB (fC bZ bu (hr.mono (by decide)) (gU (ev 0))) (sI (n:=5) rfl (cj (bF (i:=1) aU.nd rfl (Or.inl rfl)) (cj (bF (i:=2) aU.nd rfl (Or.inl rfl)) (cj (bF (i:=3) aU.nd rfl (Or.inl rfl)) (cj (bF (i:=4) aU.nd rfl (Or.inl rfl)) (cj (bF (i:=5) aU.nd rfl (Or.inl rfl)) uC)))))))
      J1),?_⟩
  try walk_at "rn"
  refine ⟨_,_,_,hy,bh,iG,_,qf,x,rfl,_,_,st.ins,qe (by decide +kernel) (by decide +kernel) (by decide +kernel) (by decide +kernel),x,dx,h,dh,k,lf,dl,r,t,_,rfl,st,fun I Mk Rl H1 nMk nRl hI hMk hRl x1=>?_⟩
  refine ⟨I,rfl,_,hI,rfl,_,_,rfl,_,_,rfl,_,_,rfl,_,_,rfl,_,_,rfl,rfl,?_⟩
  rw [e1]
  try walk_at "rn"
  intro g ng wr nw
  have xg:=Ext.new (K:=K) (o:=.dK []) ng
  have xw:=Ext.new (K:=K) (o:=.lst []) nw
  have Se:=xw.at (ai (H:=H1) (a:=g) (o:=.dK []))
  have hw2:=ai (H:=upd H1 g (.dK [])) (a:=wr) (o:=.lst [])
  have x2:=xg.trans xw
  generalize upd (upd H1 g (.dK [])) wr (.lst [])=H2 at Se hw2 x2 ⊢
  rw [e3]
  try walk_at "rn"
  intro N
  have Lp:=x1.trans x2
  have hd2:=Lp.at hd
  refine ⟨_,_,_,Lp.at hy,bh,gG,_,tT,d,rfl,_,hd2,fun Nd od L nL=>?_⟩
  have PR:L≠d:=fun e=>by
    have z:=nL.1
    rw [e,ai] at z
    cases z
  refine ED ((ao PR.symm).trans ai) ⟨d,od,[],Nd,(ao PR.symm).trans ai,?_⟩
  have Lq:new K H2 L:=⟨by have z:=nL.1;rw [ao PR] at z;exact z,nL.2⟩
  have e3':upd (upd (upd H2 d (.jt od (.dK []))) L (.dK [])) d (.dK [])=upd H2 L (.dK []):=by
    funext z
    unfold upd
    by_cases z1:z=d
    · subst z1
      simp [PR.symm,hd2]
    · by_cases z2:z=L <;> simp [z1,z2]
  rw [e3']
  have xL:=Ext.new (K:=K) (o:=.dK []) Lq
  have Lr:=ai (H:=H2) (a:=L) (o:=.dK [])
  have Ls:=xL.at Se
  have Io:=xL.at hw2
  have x3:=Lp.trans xL
  have Nv:=hRl.ext (x2.trans xL)
  have Dn:=(x2.trans xL).at hMk
  generalize upd H2 L (.dK [])=H3 at Lr Ls Io x3 Nv Dn ⊢
  rw [e4]
  try walk_at "rn"
  obtain ⟨T,Dr,hR1,hT,hDr⟩:=id Nv
  have zM:=sh.ext' x3
  have Sf:new K H g:=br x1 ng
  have Sg:new K H wr:=br (x1.trans xg) nw
  have Si:new K H L:=br Lp Lq
  have PU:∀ {z:Addr},new K H z→z∉[p,a1,a2]:=fun nz m=>by
    obtain ⟨m1,m2,m3,_⟩:=sh.no nz
    simp only [List.mem_cons,List.not_mem_nil,or_false] at m
    rcases m with m | m | m
    · exact m1 m
    · exact m2 m
    · exact m3 m
  have wr3:=PU Sg
  have ngw:g≠wr:=fun e=>by rw [e,Io] at Ls;cases Ls
  have nwL:wr≠L:=fun e=>by rw [e,Lr] at Io;cases Io
  have ngL:g≠L:=fun e=>by
    have z:=Lq.1
    rw [← e,Se] at z
    cases z
  have no4:∀ {z:Addr},new K H z→z≠wr→z∉[p,a1,a2,wr]:=fun nz n m=>by
    rcases List.mem_append.mp (show _∈[p,a1,a2]++[wr] from m) with m | m
    · exact PU nz m
    · exact n (List.mem_singleton.mp m)
  have L3:=no4 Si nwL.symm
  have g3:=no4 Sf ngw
  obtain ⟨Pv,hPv⟩:∃ Pv:Nat→St→Hp→Prop,Pv=fun i σ H'=>(i=0∧σ=[some (V.ref y),some (V.ref R),some (V.int 0),some (V.ref Mk),some (V.int 1),some (V.ref Rl),some (V.ref g),some (V.ref wr),some (V.ref L),none,none,none,none,none]∧H'=H3)∨
    (i=1∧∃ v9 v10 v11 u0 tt,σ=[some (V.ref y),some (V.ref R),some (V.int 0),some (V.ref Mk),some (V.int 1),some (V.ref Rl),some (V.ref g),some (V.ref wr),some (V.ref L),v9,v10,v11,none,none]∧H' wr=some (.lst [.int 2])∧H' g=some (.dK [(.inl 0,.ref tt)])∧tupQ K H' tt=some [.str (Str.ofString "leaf 0 -"),.int 2]∧tupQ K H' u0=some (Ent.v (.cA 2 (aX (Str.ofString "leaf 0 -"))))∧
      bJ K H' af p dp a1 a2 a3 (s.carry (.cA 2 (aX (Str.ofString "leaf 0 -"))) (aX (Str.ofString "leaf 0 -"))) (ws++[u0])∧g6 K [p,a1,a2,g,wr,L] H3 H'):=⟨_,rfl⟩
  refine ⟨_,cz.of hR1,EG Pv (by rw [hPv];exact .inl ⟨rfl,rfl,rfl⟩) ?_ ?_ ?_⟩
  · intro i σ H' hi hp
    rw [hPv] at hp
    rcases hp with ⟨rfl,rfl,rfl⟩ | ⟨rfl,_⟩
    · exact cz.of hR1
    · simp at hi
  · intro i z σ H' hi hz hp
    rw [hPv] at hp
    rcases hp with ⟨rfl,rfl,rfl⟩ | ⟨rfl,_⟩
    case inr=>simp at hi
    obtain rfl:V.ref T=z:=by simpa using hz
    try walk_at "rn"
    refine ⟨T,Dr,rfl,hT,fun ch nc=>⟨ch,rfl,⟨_,cz.of ai⟩,fun D2 nD2=>?_⟩⟩
    have xc:=Ext.new (K:=K) (o:=.lst []) nc
    have xD:=Ext.new (K:=K) (o:=.dK []) nD2
    refine EE (cz.of (xD.at ai)) ?_
    have x5:=xc.trans xD
    generalize upd (upd H' ch (.lst [])) D2 (.dK [])=H5 at x5 ⊢
    refine ⟨T,Dr,D2,rfl,x5.tup hT,x5.at hDr,fun H6 x6=>?_⟩
    have xx:=x5.trans x6
    have Nx:=x3.trans xx
    have Nt:=sh.ext' Nx
    refine ⟨_,_,Nx.at hy,A7 (by decide +kernel) (by decide +kernel) (by decide +kernel) (by decide +kernel),_,cU (xx.tup hT),_,rfl,y,dy,_,_,_,d,_,rfl,⟨Nx.at hy,Nx.at hd⟩,?_⟩
    refine ⟨fun σ G=>∃ u0,σ=[some (V.ref y),some (V.ref R),some (V.int 0),some (V.ref Mk),some (V.int 1),some (V.ref Rl),some (V.ref g),some (V.ref wr),some (V.ref L),some (V.ref T),some (V.str (Str.ofString "leaf 0 -")),some (V.int 2),none,none]∧G wr=some (.lst [.int 2])∧tupQ K G u0=some (Ent.v (.cA 2 (aX (Str.ofString "leaf 0 -"))))∧bJ K G af p dp a1 a2 a3 (s.carry (.cA 2 (aX (Str.ofString "leaf 0 -"))) (aX (Str.ofString "leaf 0 -"))) (ws++[u0])∧g6 K [p,a1,a2,wr] H6 G,?_,?_⟩
    · try walk_at "rn"
      refine ⟨L,rfl,xx.at Lr,_,_,_,Nx.at hy,bh,fN,_,mX,p,rfl,_,_,Nt.ins,gB (by decide +kernel) (by decide +kernel) (by decide +kernel) (by decide +kernel) (by decide +kernel),_,rfl,by decide +kernel,?_⟩
      refine ⟨p,dp,a1,a2,a3,s,ws,_,.cA 2 (aX (Str.ofString "leaf 0 -")),rfl,⟨2,_,rfl,rfl,by decide,by decide⟩,Nt,(show (aX (Str.ofString "leaf 0 -")).length≤100 from by decide +kernel),by rw [hJ];decide +kernel,by rw [hD];decide,by omega,fun u0 H7 nb tb Dp k7=>?_⟩
      have L0:=k7.keep wr _ (xx.at Io) wr3
      have nuw:u0≠wr:=fun e=>by
        have z:=nb.1
        rw [e,xx.at Io] at z
        cases z
      exact ⟨.inl ⟨_,cz.of L0⟩,_,L0,by decide,rfl,rfl,u0,(gA nuw).trans tb,Dp.Im (sh.no Sg),(k7.sub (by simp +contextual)).trans (qs:=[wr]) (g6.upd L0 (by simp)) (by simp)⟩
    · rintro σ G ⟨u0,rfl,hwG,huG,shG,kG⟩
      try walk_at "rn"
      have nt6:tU H6 [p,a1,a2,wr]:=by
        intro q m
        rcases List.mem_append.mp (show q∈[p,a1,a2]++[wr] from m) with m | m
        · exact Nt.qM q m
        · rw [List.mem_singleton.mp m]
          exact ⟨_,xx.at Io,fun _ h=>(by cases h),fun _ _ h=>(by cases h)⟩
      have hTG:=kG.tup nt6 (xx.tup hT)
      have PV:=kG.keep L _ (xx.at Lr) L3
      have hgG:=kG.keep g _ (xx.at Ls) g3
      refine ⟨_,.inl ⟨_,.inl 2,PV,rfl,by decide,rfl⟩,fun tt ntt=>?_⟩
      have xt:=Ext.new (K:=K) (o:=.tup [V.str (Str.ofString "leaf 0 -"),V.int 2]) ntt
      have hT7:tupQ K (upd G L (.dK (putK [] (.inl 2) (.bl true)))) T=_:=(gA (qm hTG PV (fun _ h=>by cases h))).trans hTG
      have Sj:tupQ K (upd G L (.dK (putK [] (.inl 2) (.bl true)))) u0=_:=(gA (qm huG PV (fun _ h=>by cases h))).trans huG
      have hg7:upd G L (.dK (putK [] (.inl 2) (.bl true))) g=_:=(ao ngL).trans hgG
      have L0:upd G L (.dK (putK [] (.inl 2) (.bl true))) wr=_:=(ao nwL).trans hwG
      have Dp:=shG.Im (o:=.dK (putK [] (.inl 2) (.bl true))) (sh.no Si)
      have k7:g6 K [p,a1,a2,g,wr,L] H' (upd G L (.dK (putK [] (.inl 2) (.bl true)))):=((g6.PN xx).trans kG (by simp +contextual)).trans (qs:=[L]) (g6.upd PV (by simp)) (by simp)
      generalize upd G L (.dK (putK [] (.inl 2) (.bl true)))=G7 at ntt xt hT7 Sj hg7 L0 Dp k7 ⊢
      have htt:tupQ K (upd G7 tt (.tup [V.str (Str.ofString "leaf 0 -"),V.int 2])) tt=_:=aN
      have PX:=xt.at hg7
      refine ⟨_,cU (xt.tup hT7),_,rfl,_,.inl ⟨_,.inl 0,PX,rfl,by decide,rfl⟩,?_⟩
      rw [hPv]
      refine .inr ⟨rfl,_,_,_,u0,tt,rfl,(ao ngw.symm).trans (xt.at L0),ai,(gA (qm htt PX (fun _ h=>by cases h))).trans htt,(gA (qm (xt.tup Sj) PX (fun _ h=>by cases h))).trans (xt.tup Sj),(Dp.ext' xt).Im (sh.no Sf),(k7.trans (qs:=[]) (g6.PN xt) (by simp)).trans (qs:=[g]) (g6.upd PX (by simp)) (by simp)⟩
  · intro σ H' hp
    rw [hPv] at hp
    rcases hp with ⟨h0,_⟩ | ⟨_,v9,v10,v11,u0,tt,rfl,hw4,hg4,ht4,hu4,Ji,k4⟩
    · cases h0
    show r5 _ _ _
    rw [e5]
    try walk_at "rn"
    have keep:∀ {z:Addr} {o:HO},H z=some o→z∉[p,a1,a2]→H' z=some o:=fun {z o} e n=>k4.keep z o (x3.at e) (fun m=>by
      rcases List.mem_append.mp (show z∈[p,a1,a2]++[g,wr,L] from m) with m | m
      · exact n m
      · simp only [List.mem_cons,List.not_mem_nil,or_false] at m
        rcases m with rfl | rfl | rfl
        · rw [Sf.1] at e;cases e
        · rw [Sg.1] at e;cases e
        · rw [Si.1] at e;cases e)
    have nt3:tU H3 [p,a1,a2,g,wr,L]:=by
      intro q m
      rcases List.mem_append.mp (show q∈[p,a1,a2]++[g,wr,L] from m) with m | m
      · exact zM.qM q m
      · simp only [List.mem_cons,List.not_mem_nil,or_false] at m
        rcases m with rfl | rfl | rfl
        · exact ⟨_,Ls,fun _ h=>(by cases h),fun _ _ h=>(by cases h)⟩
        · exact ⟨_,Io,fun _ h=>(by cases h),fun _ _ h=>(by cases h)⟩
        · exact ⟨_,Lr,fun _ h=>(by cases h),fun _ _ h=>(by cases h)⟩
    have hT4:=k4.tup nt3 hT
    have hR4:=k4.tup nt3 (x3.tup ru.t)
    have Sk:=k4.keep Rl _ hR1 (fun m=>by
      rcases List.mem_append.mp (show Rl∈[p,a1,a2]++[g,wr,L] from m) with m | m
      · exact PU nRl m
      · simp only [List.mem_cons,List.not_mem_nil,or_false] at m
        rcases m with rfl | rfl | rfl
        · rw [Ls] at hR1;cases hR1
        · rw [Io] at hR1;cases hR1
        · rw [Lr] at hR1;cases hR1)
    have nMw:Mk≠wr:=fun e=>by
      have z:=nw.1
      rw [← e,xg.at hMk] at z
      cases z
    have Sl:=k4.keep Mk _ Dn (fun m=>by
      rcases List.mem_append.mp (show Mk∈[p,a1,a2]++[g,wr,L] from m) with m | m
      · exact PU nMk m
      · simp only [List.mem_cons,List.not_mem_nil,or_false] at m
        rcases m with rfl | m | rfl
        · rw [Ls] at Dn;cases Dn
        · exact nMw m
        · rw [Lr] at Dn;cases Dn)
    have Il:=keep hy (sep y (by simp))
    have PD:=keep hd (sep d (by simp))
    have st4:qW K H' aA av ak x dx h dh k lf dl r t (.ref R):=⟨keep st.ins (sep x (by simp)),keep st.hs.ins (sep h (by simp)),keep st.hs.kept (sep k (by simp)),keep st.hs.leaf (sep lf (by simp)),keep st.hs.rows (sep r (by simp)),keep st.hs.trail (sep t (by simp))⟩
    obtain ⟨l100,s60,lp⟩:=qN ru
    refine ⟨_,bX Sk,_,rfl,T,rfl,_,cU hT4,_,rfl,_,.inl ⟨_,.inl 0,.inl hg4,rfl,rfl⟩,tt,rfl,_,cU ht4,_,rfl,_,_,Il,A7 (by decide +kernel) (by decide +kernel) (by decide +kernel) (by decide +kernel),_,_,_,Il,bh,jW,_,tS,-1,rfl,fun TT nTT=>?_⟩
    have xT:=Ext.new (K:=K) (o:=.tup [V.int (-1 + 1),V.int 0,V.int 1,V.int 2,V.ref R,V.ref Mk]) nTT
    have hTT:tupQ K (upd H' TT (.tup [V.int (-1 + 1),V.int 0,V.int 1,V.int 2,V.ref R,V.ref Mk])) TT=_:=aN
    obtain ⟨cJ,cD⟩:=tV (s:=s) (k:=2) (t:=aX (Str.ofString "leaf 0 -")) (sg:=aX (Str.ofString "leaf 0 -"))
    refine ⟨y,dy,_,_,d,TT,R,Mk,a,b,c,pl,p,dp,a1,a2,a3,_,_,rfl,⟨xT.at Il,xT.at PD⟩,hTT,xT.tup hR4,xT.at Sl,s60,l100,lp,Ji.ext' xT,by rw [cJ,hJ];decide +kernel,by rw [hD] at cD;exact Nat.lt_of_le_of_lt cD (by decide),by rw [List.length_append];simp;omega,fun u1 u2 H9 t1 t2 Jk k9=>?_⟩
    have Lu:=k9.keep y _ (xT.at Il) (sep y (by simp))
    have L5:=k9.keep wr _ (xT.at hw4) wr3
    refine ⟨_,_,_,Lu,bh,jW,_,tS,_,_,rfl,rfl,_,_,Lu,(show (4:Nat) < 1000 by decide),_,_,_,rfl,bh,gG,by rw [zR];exact (show (4:Nat) < 1000 by decide),fun l nl=>?_⟩
    rw [gw,zR,Fc] at nl ⊢
    have hyT:=xT.at Il
    have ny3:y≠p∧y≠a1∧y≠a2∧y≠a3:=by
      have m:=sep y (by simp)
      exact ⟨fun e=>m (by simp [e]),fun e=>m (by simp [e]),fun e=>m (by simp [e]),fun e=>by rw [e,(Ji.ext' xT).d0] at hyT;cases hyT⟩
    have tZ:∀ {z:Addr} {o:HO},H z=some o→z∉[p,a1,a2]→H9 z=some o:=fun {z o} e n=>k9.keep z o (xT.at (keep e n)) n
    have L6:∀ {z:Addr} {o:HO},H z=some o→(∀ dz a b c d,o≠.ins aE dz (kZ a b c d))→z≠y:=fun e n z=>by
      rw [z,hy] at e
      exact n _ _ _ _ _ (Option.some.inj e).symm
    have Ip:qW K H9 aA av ak x dx h dh k lf dl r t (.ref R):=⟨tZ st.ins (sep x (by simp)),tZ st.hs.ins (sep h (by simp)),tZ st.hs.kept (sep k (by simp)),tZ st.hs.leaf (sep lf (by simp)),tZ st.hs.rows (sep r (by simp)),tZ st.hs.trail (sep t (by simp))⟩
    have nm:∀ (m:Str),¬ (m="store")→∀ {C dz dz' C':Addr} {v a b c d:V} {fs:List (Str×V)},HO.ins C' dz' ((m,v)::fs)≠.ins C dz (kZ a b c d):=fun m n {_ _ _ _ _ _ _ _ _ _} e=>by
      simp only [HO.ins.injEq,kZ,List.cons.injEq,Prod.mk.injEq] at e
      exact n e.2.2.1.1
    have Ny:qW K (upd H9 y (.ins aE dy (kZ (.ref x) (.ref p) (.int (-1 + 1)) (.ref g)))) aA av ak x dx h dh k lf dl r t (.ref R):=
      ⟨(ao (L6 st.ins fun _ _ _ _ _=>nm _ (by decide +kernel))).trans Ip.ins,(ao (L6 st.hs.ins fun _ _ _ _ _=>nm _ (by decide +kernel))).trans Ip.hs.ins,(ao (L6 st.hs.kept fun _ _ _ _ _ z=>by cases z)).trans Ip.hs.kept,(ao (L6 st.hs.leaf fun _ _ _ _ _=>nm _ (by decide +kernel))).trans Ip.hs.leaf,(ao (L6 st.hs.rows fun _ _ _ _ _ z=>by cases z)).trans Ip.hs.rows,(ao (L6 st.hs.trail fun _ _ _ _ _ z=>by cases z)).trans Ip.hs.trail⟩
    have PY:=k9.tup (Ji.ext' xT).qM (xT.tup hu4)
    have ty:∀ {u:Addr} {xs:List V},tupQ K H9 u=some xs→tupQ K (upd H9 y (.ins aE dy (kZ (.ref x) (.ref p) (.int (-1 + 1)) (.ref g)))) u=some xs:=fun h=>(gA (qm h Lu (fun _ z=>by cases z))).trans h
    have PY:=ty PY
    have t1:=ty t1
    have t2:=ty t2
    rw [Fd hD] at Jk
    have Jk:=Jk.Im (o:=.ins aE dy (kZ (.ref x) (.ref p) (.int (-1 + 1)) (.ref g))) ny3
    have L5:upd H9 y (.ins aE dy (kZ (.ref x) (.ref p) (.int (-1 + 1)) (.ref g))) wr=_:=(ao (fun e=>by rw [e,Lu] at L5;cases L5)).trans L5
    have Nz:upd H9 y (.ins aE dy (kZ (.ref x) (.ref p) (.int (-1 + 1)) (.ref g))) y=_:=ai
    have kk:g6 K [y,p,a1,a2] H (upd H9 y (.ins aE dy (kZ (.ref x) (.ref p) (.int (-1 + 1)) (.ref g)))):=⟨fun z o e n=>(ao (fun w=>n (by simp [w]))).trans (tZ e (fun m=>n (List.mem_cons_of_mem _ m))),fun z xs e m=>(ao (fun w=>by rw [w,hy] at e;cases e)).trans (k9.mod z xs (xT.mod z xs (k4.mod z xs (x3.mod z xs e m) m) m) m)⟩
    generalize upd H9 y (.ins aE dy (kZ (.ref x) (.ref p) (.int (-1 + 1)) (.ref g)))=G at nl Jk Ny PY t1 t2 L5 Nz kk ⊢
    have xl:=Ext.new (K:=K) (o:=.lst [V.int 0]) nl
    refine ⟨_,xl.at L5,by decide,fun W nW=>?_⟩
    have xl:=xl.trans (Ext.new (K:=K) (o:=.lst ([V.int 2]++[V.int 0])) nW)
    exact q W g u0 u1 u2 _ (xl.at Nz) (Ny.ext xl) (xl.tup PY) (xl.tup t1) (xl.tup t2) (by have z:=Jk.ext' xl;simpa using z) (kk.trans (qs:=[]) (g6.PN xl) (by simp))
end
def Ent.d:Ent→PyData
  | .cA p t=>.tuple [.str (Str.ofString "page"),.int p,.str t]
  | .line t=>.tuple [.str (Str.ofString "line"),.str t]
  | .blot=>.tuple [.str (Str.ofString "blot")]
section
variable {P:Program} {w:World} {K:PySem.W.Frag} {mg:Str→Option Value} {base:Heap}
theorem Lv {H:Hp} {a:Addr} {e:Ent} (h:tupQ K H a=some (Ent.v e)):Is K H e.d (.ref a):=by
  cases e with
  | cA p t=>
    simp only [Ent.d,Is]
    exact ⟨a,_,rfl,cH h,by simp only [eE,Is];exact ⟨_,_,rfl,rfl,_,_,rfl,rfl,_,_,rfl,rfl,rfl⟩⟩
  | line t=>
    simp only [Ent.d,Is]
    exact ⟨a,_,rfl,cH h,by simp only [eE,Is];exact ⟨_,_,rfl,rfl,_,_,rfl,rfl,rfl⟩⟩
  | blot=>
    simp only [Ent.d,Is]
    exact ⟨a,_,rfl,cH h,by simp only [eE,Is];exact ⟨_,_,rfl,rfl,rfl⟩⟩
theorem zU {H:Hp}:∀ {ws:List Addr} {W:List Ent},bK K H ws W→eE K H (W.map Ent.d) (ws.map V.ref)
  | [],[],_=>by simp only [List.map_nil,eE]
  | [],_::_,h=>by cases h.1
  | _::_,[],h=>by cases h.1
  | a::ws,e::W,h=>by
    simp only [List.map_cons,eE]
    refine ⟨_,_,rfl,Lv (h.2 0 a e rfl rfl).1,zU ⟨by simpa using h.1,fun i a' e' h1 h2=>h.2 (i + 1) a' e' h1 h2⟩⟩
theorem B4 {H:Hp} {b:Addr} {ws:List Addr} {W:List Ent} (h:H b=some (.lst (ws.map V.ref))) (en:bK K H ws W):Is K H (.list (W.map Ent.d)) (.ref b):=by
  simp only [Is]
  exact ⟨b,_,rfl,cz.of h,zU en⟩
theorem zV:∀ (W:List Ent),(∀ e∈W,e.good)→PyData.canLayAll0 (W.map Ent.d)=true∧PyData.depthAll (W.map Ent.d)≤4
  | [],_=>by simp [PyData.canLayAll0,PyData.depthAll]
  | e::W,g=>by
    have ih:=zV W (fun e he=>g e (List.mem_cons_of_mem _ he))
    have ge:=g e List.mem_cons_self
    simp only [List.map_cons,PyData.canLayAll0,PyData.depthAll,ih.1,Bool.and_true]
    cases e <;> simp only [Ent.d,PyData.canLay0,PyData.canLayAll0,PyData.depth,PyData.depthAll,Bool.and_true,fD,Bool.true_and] <;> refine ⟨?_,Nat.max_le.mpr ⟨by decide,ih.2⟩⟩
    · exact ge
    · exact ge
    · trivial
theorem qO (W:List Ent) (g:∀ e∈W,e.good):SeqAt.shaped (.list (W.map Ent.d))=true:=by
  have h:=zV W g
  have e:(PyData.list (W.map Ent.d)).depth=PyData.depthAll (W.map Ent.d) + 1:=by simp only [PyData.depth]
  simp only [SeqAt.shaped,PyData.canLay0,h.1,Bool.true_and,decide_eq_true_eq]
  rw [e]
  omega
theorem t6:∀ (W:List Ent),lO (W.map Ent.d)=true
  | []=>rfl
  | e::W=>by
    simp only [List.map_cons,lO,t6 W,Bool.and_true]
    cases e <;> rfl
theorem Dq (W:List Ent):PyData.eqv (.list (W.map Ent.d)) (.list (W.map Ent.d))=true:=(BF (show Ed (.list _)=true from t6 W) (show Ed (.list _)=true from t6 W)).mpr rfl
def ja (K:PySem.W.Frag) (af:Addr):Sp:=fun vs H Q _=>∃ q rl v p dp a1 a2 a3 s ws W word,vs=[.ref p,v,.str word]∧m5 K q H rl v∧bJ K H af p dp a1 a2 a3 s ws∧bK K H ws W∧(∀ e∈W,e.good)∧s.D.length < 64∧s.J.length≤sizeLine∧ws.length < 800∧
  ((word=Str.ofString "rule"∧rl.ok=false)∨(word=Str.ofString "bare"∧rl.ok=true∧¬ (s.D=[]∧s.J=Str.ofString "")))∧∀ H',Ext K H H'→Q (.bl true) H'
theorem dw:aG ["_law_shelf","_law_rule_here","_law_word","_law_log","_law_told","e"] ["_law_shelf","_law_rule_here","_law_word"] (aj dR):=⟨rfl,rfl,rfl,by decide +kernel,rfl,by decide +kernel,by decide +kernel⟩
theorem rC {f aE af aA av:Addr} {fd:FuncData} (F:fL K "_law_refused" "_law_refused" dR f fd) {cF cR cB ak aq aP:Addr} {tE t1 t2 t3 t4 tP tQ:Tok} (B:B K mg cF cR cB ak aq aP tE t1 t2 t3 t4 tP tQ) (pB:oR P w K mg base "begin" 7 ["shelf","rule"] (rM K aE af aA av ak cR cB)) (aZ:bH P w K mg base af "log" 1 ["self"] [] (vG K af)) (aB:iu K af):aT P w K mg base eK 8 f fd ["_law_shelf","_law_rule_here","_law_word"] (ja K af):=by
  refine F.iC dw (fun vs H Q E h=>?_) (fun cE A outer s H vs Q E hr h=>?_)
  · obtain ⟨q,rl,v,p,dp,a1,a2,a3,s,ws,W,word,rfl,_⟩:=h
    rfl
  obtain ⟨q,rl,v,p,dp,a1,a2,a3,s,ws,W,word,rfl,hv,sh,en,gd,lD,lJ,lW,hw,k⟩:=h
  refine ⟨_,(aD (sset (i:=3) dw.nd rfl (Or.inl rfl) (fC aZ aB (hr.mono (by decide)) (ev 0)))
      (aD (sset (i:=4) dw.nd rfl (Or.inl rfl) bL)
      (aD (Nb dw.nd ⟨rfl,rfl⟩ rfl (fun σ1 E1 xe pn hp=>(aV (fE (HR pB hp (hr.mono (by decide)) rfl (aa (ev 0) (aa (ev 1) ay))))))
        (zp.cons (i:=5) rfl rfl rfl B.EI (fun a xe pn=>(aV (sset (i:=4) dw.nd rfl (Or.inl rfl) (jF (Ej K) (Ek K (aa bL (aa bL ay))) (fM pL rfl B.int sF (aa (eor (bw (qJ K) rfl B.isinstance aH (aa (ev 5) (aa (kU rfl B.wH B.sX) ay))) (qT (KQ (bw (qK K) rfl B.isinstance aH (aa (ev 5) (aa (j8 rfl B.ValueError ni) ay)))))) ay)) (fun _ _=>rfl))))) (zp.cons (i:=5) rfl rfl rfl B.De (fun a xe pn=>(aV (sset (i:=4) dw.nd rfl (Or.inl rfl) (jF (Ej K) (Ek K (aa bL (aa bL ay))) (fM pL rfl B.int sF (aa (qU (bw (qJ K) rfl B.isinstance aH (aa (ev 5) (aa (kU rfl B.wH B.sX) ay))) (qT (bw (qK K) rfl B.isinstance aH (aa (ev 5) (aa (j8 rfl B.ValueError ni) ay))))) ay)) (fun _ _=>rfl))))) zp.nil)))
      (aV (bT (qU (we jf (ev 4) (ev 2) (bS _)) (qT (we (KU hr.units) (fC aZ aB (hr.mono (by decide)) (ev 0)) (ev 3) (bS _))))))))),?_⟩
  try walk_at "rn"
  refine ⟨_,_,sh.ins,gB (by decide +kernel) (by decide +kernel) (by decide +kernel) (by decide +kernel) (by decide +kernel),p,dp,a1,a2,a3,s,ws,rfl,sh,by omega,fun lg nl=>?_⟩
  have xl:=Ext.new (K:=K) (o:=.lst (ws.map V.ref)) nl
  have hlg:=ai (H:=H) (a:=lg) (o:=.lst (ws.map V.ref))
  generalize upd H lg (.lst (ws.map V.ref))=H1 at xl hlg ⊢
  have tail:∀ H3,Ext K H1 H3→∃ x x_1,H3 p=some (HO.ins af x x_1)∧List.lookup (Str.ofString "log") x_1=none∧vG K af [V.ref p] H3 (fun x H1=>∃ d,Is K H1 d x∧∃ x,Is K H1 x (V.ref lg)∧SeqAt.shaped d=true∧SeqAt.shaped x=true∧Q (V.bl (d.eqv x)) H1) E0:=by
    intro H3 x3
    have zM:=sh.ext' (xl.trans x3)
    refine ⟨_,_,zM.ins,gB (by decide +kernel) (by decide +kernel) (by decide +kernel) (by decide +kernel) (by decide +kernel),p,dp,a1,a2,a3,s,ws,rfl,zM,by omega,fun l2 n2=>?_⟩
    have x4:=Ext.new (K:=K) (o:=.lst (ws.map V.ref)) n2
    have PM:=en.ext (xl.trans (x3.trans x4))
    refine ⟨_,B4 ai PM,_,B4 ((x3.trans x4).at hlg) PM,qO W gd,qO W gd,?_⟩
    rw [Dq]
    exact k _ (xl.trans (x3.trans x4))
  refine ⟨q,rl,v,p,dp,a1,a2,a3,s,ws,rfl,hv.ext xl,sh.ext' xl,lD,lJ,lW,fun no H2 x2=>⟨cR,rfl,B.xr.i,.inl ⟨B.xr.m,fun a na=>?_⟩⟩,fun ok nb H2 x2=>⟨cB,rfl,B.xb.i,.inr ⟨B.xb.m0,.inl ⟨B.xb.m1,fun a na=>?_⟩⟩⟩,fun ok h1 h2=>?_⟩
  · try walk_at "rn"
    intro m nm
    have xm:=Ext.new (K:=K) (o:=.lst [V.str (Str.ofString "rule"),V.str (Str.ofString "")]) nm
    have hx:=xm.at (ai (H:=H2) (a:=a) (o:=.ext (uz a cR)))
    have x3:=x2.trans ((Ext.new (K:=K) (o:=.ext (uz a cR)) na).trans xm)
    generalize upd (upd H2 a (.ext (uz a cR))) m (.lst [V.str (Str.ofString "rule"),V.str (Str.ofString "")])=H3 at hx x3 ⊢
    refine ⟨_,hx,B.xr.i,_,B.xr.k0,gO (by decide) ⟨_,hx,B.xr.i,_,B.xr.k1,.inr ⟨_,rfl,rfl,oK ?_ (tail H3 x3)⟩⟩⟩
    rcases hw with ⟨rfl,_⟩ | ⟨_,h,_⟩
    · rfl
    · rw [no] at h;cases h
  · try walk_at "rn"
    intro m nm
    have xm:=Ext.new (K:=K) (o:=.lst [V.str (Str.ofString ""),V.str (Str.ofString "bare")]) nm
    have hx:=xm.at (ai (H:=H2) (a:=a) (o:=.ext (uz a cB)))
    have x3:=x2.trans ((Ext.new (K:=K) (o:=.ext (uz a cB)) na).trans xm)
    generalize upd (upd H2 a (.ext (uz a cB))) m (.lst [V.str (Str.ofString ""),V.str (Str.ofString "bare")])=H3 at hx x3 ⊢
    refine ⟨_,hx,B.xb.i,_,B.xb.k0,oK rfl ⟨_,hx,B.xb.i,_,B.xb.k1,.inr ⟨_,rfl,rfl,oK ?_ (tail H3 x3)⟩⟩⟩
    rcases hw with ⟨_,h⟩ | ⟨rfl,_⟩
    · rw [ok] at h;cases h
    · rfl
  · exfalso
    rcases hw with ⟨_,h⟩ | ⟨_,_,h⟩
    · rw [ok] at h;cases h
    · exact h ⟨h1,h2⟩
end
section
variable {P:Program} {w:World} {K:PySem.W.Frag} {mg:Str→Option Value} {base:Heap}
theorem Iq {H H':Hp} {p a:Addr} {xs:List V} (k:Kp K p H H') (hp:Wl H p) (h:tupQ K H a=some xs):tupQ K H' a=some xs:=by
  rcases hp with ⟨x,hp⟩ | ⟨x,y,z,hp⟩
  · exact k.tup hp h
  · exact k.tup hp h
theorem Lw {H:Hp} {M t l:Addr} {ms w:List V} {o:HO} (hM:H M=some (.lst ms)) (nt:new K H t) (nl:new K (upd H t o) l):
    ∃ H',H'=upd (upd (upd H t o) l (.lst w)) M (.lst (ms++[.ref l]))∧H' M=some (.lst (ms++[.ref l]))∧H' t=some o∧H' l=some (.lst w)∧t≠M∧l≠M∧Kp K M H H':=by
  have x1:=Ext.new (K:=K) (o:=o) nt
  have x2:=Ext.new (K:=K) (o:=.lst w) nl
  have tM:t≠M:=fun e=>by have z:=nt.1;rw [e,hM] at z;cases z
  have lM:l≠M:=fun e=>by have z:=nl.1;rw [e,x1.at hM] at z;cases z
  refine ⟨_,rfl,ai,(ao tM).trans (x2.at ai),(ao lM).trans ai,tM,lM,?_⟩
  exact (x1.trans x2).kp.trans (Kp.upd ((x1.trans x2).at hM))
theorem gP.set {p:Addr} {H:Hp} {th:Th} {v:V} (g:kr K p H th v):∀ {ts:List Th} {vs:List V} (k:Nat),gP K p H ts vs→gP K p H (ts.set k th) (vs.set k v)
  | [],_,k,h=>by cases h;cases k <;> rfl
  | t::ts,_,0,⟨u,r,e,h1,h2⟩=>⟨v,r,by rw [e];rfl,g,h2⟩
  | t::ts,_,k + 1,⟨u,r,e,h1,h2⟩=>⟨u,r.set k v,by rw [e];rfl,h1,gP.set g k h2⟩
theorem B5 {H:Hp} {p l:Addr} {w:List V} (h:Wl H p) (e:H l=some (.lst w)) (n:w.length=7):l≠p:=by
  rintro rfl
  rcases h with ⟨x,h⟩ | ⟨x,y,z,h⟩
  · rw [h] at e;cases e;cases n
  · rw [h] at e;cases e;cases n
def zW (k:Nat) (th:Th):Prop:=∀ ta tb tc td,(Rl.tp ([ta,tb,tc,td].set k th)).ok=false
theorem Bb {th:Th} (h:th.wh 1 64=false):zW 0 th:=fun ta tb tc td=>by show (th.wh 1 64&&_&&_&&_)=false;rw [h];rfl
theorem Bc {th:Th} (h:th.wh 3 16=false):zW 1 th:=fun ta tb tc td=>by show (ta.wh 1 64&&th.wh 3 16&&_&&_)=false;rw [h,Bool.and_false];rfl
theorem Bd {th:Th} (h:th.wh 1 64=false):zW 2 th:=fun ta tb tc td=>by show (ta.wh 1 64&&tb.wh 3 16&&th.wh 1 64&&_)=false;rw [h,Bool.and_false];rfl
theorem Be {th:Th} (h:th.zw=false):zW 3 th:=fun ta tb tc td=>by show (ta.wh 1 64&&tb.wh 3 16&&tc.wh 1 64&&th.zw)=false;rw [h,Bool.and_false]
theorem kX {i lo hi:Int} (h:¬ (lo≤i∧i≤hi)):(Th.num i).wh lo hi=false:=decide_eq_false h
def qo (K:PySem.W.Frag):Sp:=fun vs H Q _=>∃ p R a b c pl,vs=[.ref p,.ref R]∧Wl H p∧ie K H R a b c pl∧∀ D bads H',H' D=some (.lst bads)→(∀ v∈bads,∃ rl,m5 K p H' rl v∧rl.ok=false)→Wl H' p→Kp K p H H'→Q (.ref D) H'
theorem bU:aG ["_law_state","_law_rule_here","_law_far","_law_many","_law_k","_law_spoilt","_law_found"] ["_law_state","_law_rule_here"] (aj aR):=⟨rfl,rfl,rfl,by decide +kernel,rfl,by decide +kernel,by decide +kernel⟩
theorem qp {f:Addr} {fd:FuncData} (F:fL K "_law_no_rules" "_law_no_rules" aR f fd) {cF cR cB ak aq aP:Addr} {tE t1 t2 t3 t4 tP tQ:Tok} (B:B K mg cF cR cB ak aq aP tE t1 t2 t3 t4 tP tQ) (aO:Callee P w K mg base "_law_digit" 1 ["_law_state","_law_base"] (pq K)):aT P w K mg base eK 2 f fd ["_law_state","_law_rule_here"] (qo K):=by
  refine F.iC bU (fun vs H Q E h=>?_) (fun cE A outer s H vs Q E hr h=>?_)
  · obtain ⟨p,R,a,b,c,pl,rfl,_⟩:=h
    rfl
  obtain ⟨p,R,a,b,c,pl,rfl,hp,ru,q⟩:=h
  refine bA (rest:=(au aR).drop 9) (aD (sset (i:=6) bU.nd rfl (Or.inl rfl) (iW mO (ev 6) (bB (aa (fz (aa (ev 1) ay)) (aa wc (aa (ev 2) (aa (fz ay) ay)))))))
      (aD (fE (CL PySem.F.plainAttrs_list PySem.F.slot_list_append PySem.F.type_list_append fV (ev 6) (aa (fz (aa (jF dW (ev 1) ei (fun _ _=>rfl)) (aa (jF dW (ev 1) ei (fun _ _=>rfl)) (aa (jF dW (ev 1) ei (fun _ _=>rfl)) (aa (jF dW (ev 1) ei (fun _ _=>rfl)) ay))))) ay)))
      (aV (bT (ev 6))))) fun r9 J9 e9=>?_
  refine bA (rest:=(au aR).drop 8) (aD (sset (i:=6) bU.nd rfl (Or.inl rfl) (bB (aa (fM sQ rfl B.tuple lN (aa (ev 5) ay)) (aa (fM jy rfl B.list jj (aa (ev 1) ay)) (aa (Eb BR (ev 1) IW (IX ei)) (aa (iW C5 (ev 1) (fz (aa ei ay))) ay))))))
      J9) fun r8 J8 e8=>?_
  refine bA (rest:=(au aR).drop 6) (aD (sset (i:=5) bU.nd rfl (Or.inl rfl) (fM jy rfl B.list jj (aa (ev 1) ay)))
      (aD (uB (jF dW (jF dW (ev 3) (ev 4) (fun _ _=>rfl)) (iW lF (ev 2) ei) (fun _ _=>rfl)) (Hr (ev 5) (ev 4) set_list))
      J8)) fun r6 J6 e6=>?_
  refine bA (rest:=(au aR).drop 5) (aD (sset (i:=4) bU.nd rfl (Or.inl rfl) (aM aO (hr.mono (by decide)) rfl (aa (ev 0) (aa ei ay))))
      J6) fun r5 J5 e5=>?_
  refine bA (rest:=(au aR).drop 4) (aD (fE (CL PySem.F.plainAttrs_list PySem.F.slot_list_append PySem.F.type_list_append fV (ev 3) (aa (bB (aa bL (aa bL (aa bL (aa wc (aa ei (aa (bB (aa bL ay)) (aa bL ay)))))))) ay)))
      J5) fun r4 J4 e4=>?_
  refine bA (rest:=(au aR).drop 3) (aD (fE (CL PySem.F.plainAttrs_list PySem.F.slot_list_append PySem.F.type_list_append fV (ev 3) (aa (bB (aa ei (aa ei (aa (iW vS ei (ev 2)) (aa (iW gx ei (ev 2)) (aa Ay (aa wc (aa (fz (aa ei ay)) ay)))))))) ay)))
      J4) fun r3 J3 e3=>?_
  refine bA (rest:=(au aR).drop 2) (aD (fE (CL PySem.F.plainAttrs_list PySem.F.slot_list_append PySem.F.type_list_append fV (ev 3) (aa (bB (aa ei (aa ei (aa (iW vS ei (ev 2)) (aa (iW gx ei (ev 2)) (aa wc (aa bL (aa (bB (aa ei ay)) ay)))))))) ay)))
      J3) fun r2 J2 e2=>?_
  refine bA (rest:=(au aR).drop 1) (aD (sset (i:=3) bU.nd rfl (Or.inl rfl) (bB (aa (bB (aa ei (aa ei (aa (iW vS (iW vS ei ei) (ev 2)) (aa (iW gx ei (ev 2)) (aa Ay (aa wc (aa bL ay)))))))) ay)))
      J2) fun r1 J1 e1=>?_
  refine ⟨_,(aD (sset (i:=2) bU.nd rfl (Or.inl rfl) (aM aO (hr.mono (by decide)) rfl (aa (ev 0) (aa ei ay))))
      J1),?_⟩
  try walk_at "rn"
  refine ⟨p,1000,rfl,hp,by decide,by decide,fun fa H1 f0 f1 Dl k1=>?_⟩
  rw [e1]
  try walk_at "rn"
  obtain ⟨w0,hw0⟩:∃ w0,w0=[V.int 0,V.int 65,V.int (-1 - fa),V.int (65 + fa),V.bl true,V.cG,V.str (Str.ofString "3")]:=⟨_,rfl⟩
  rw [← hw0]
  intro l0 n0 M nM
  have y0:=Ext.new (K:=K) (o:=.lst w0) n0
  have yM:=Ext.new (K:=K) (o:=.lst [V.ref l0]) nM
  have nM1:new K H1 M:=br y0 nM
  have L7:=yM.at (ai (H:=H1) (a:=l0) (o:=.lst w0))
  have hM:=ai (H:=upd H1 l0 (.lst w0)) (a:=M) (o:=.lst [V.ref l0])
  have x2:=y0.trans yM
  generalize upd (upd H1 l0 (.lst w0)) M (.lst [V.ref l0])=H2 at L7 hM x2 ⊢
  rw [e2]
  try walk_at "rn"
  refine ⟨.inl ⟨_,cz.of hM⟩,fun t1 m1 l1 n1=>⟨_,((Ext.new m1).trans (Ext.new n1)).at hM,by simp,?_⟩⟩
  obtain ⟨H3,e,hM3,ht1,hl1,tM1,lM1,k3⟩:=Lw (K:=K) (w:=[V.int 2,V.int 17,V.int (0 - fa),V.int (17 + fa),V.cG,V.str (Str.ofString "3"),V.ref t1]) hM m1 n1
  rw [← e,e3]
  clear e
  try walk_at "rn"
  refine ⟨.inl ⟨_,cz.of hM3⟩,fun t2 m2 l2 n2=>⟨_,((Ext.new m2).trans (Ext.new n2)).at hM3,by simp,?_⟩⟩
  obtain ⟨H4,e,hM4,ht2,hl2,tM2,lM2,k4⟩:=Lw (K:=K) (w:=[V.int 0,V.int 65,V.int (0 - fa),V.int (65 + fa),V.bl true,V.cG,V.ref t2]) hM3 m2 n2
  rw [← e,e4]
  clear e
  try walk_at "rn"
  refine ⟨.inl ⟨_,cz.of hM4⟩,fun t3 m3 l3 n3=>⟨_,((Ext.new m3).trans (Ext.new n3)).at hM4,by simp,?_⟩⟩
  obtain ⟨H5,e,hM5,Gp,Ie,tM3,lM3,k5⟩:=Lw (K:=K) (w:=[V.str (Str.ofString ""),V.str (Str.ofString "Eldest"),V.str (Str.ofString "fullest "),V.cG,V.int 0,V.ref t3,V.str (Str.ofString "full")]) hM4 m3 n3
  rw [← e,e5]
  clear e
  try walk_at "rn"
  have lM0:l0≠M:=fun e=>by rw [e,hM] at L7;simp [hw0] at L7
  have Dy:=Dl.ext x2
  have Mp:=Dl.ne nM1
  have wk:∀ {G G':Hp},Wl G p→Kp K M G G'→Wl G' p:=fun h k=>h.E8 (g6.of k) (by simp [Mp.symm])
  have Ic:=wk Dy k3
  have EZ:=wk Ic k4
  have Gq:=wk EZ k5
  have Gr:=k3.trans (k4.trans k5)
  have tk:∀ {G G':Hp} {u:Addr} {xs ys:List V},G M=some (.lst ys)→Kp K M G G'→tupQ K G u=some xs→tupQ K G' u=some xs:=fun h k e=>k.tup h e
  have hR5:=tk hM Gr (x2.tup (Iq k1 hp ru.t))
  refine ⟨p,4,rfl,Gq,by decide,by decide,fun ck H6 c0 c1 Jl k6=>?_⟩
  have hR6:=Iq k6 Gq hR5
  have hM6:=k6.keep M _ hM5 Mp
  have tp1:=Dy.ne m1
  have tp2:=Ic.ne m2
  have tp3:=EZ.ne m3
  have h0:=k6.keep l0 _ (Gr.keep l0 _ L7 lM0) (B5 Dy L7 (by rw [hw0];rfl))
  have h1:=k6.keep l1 _ ((k4.trans k5).keep l1 _ hl1 lM1) (B5 Ic hl1 rfl)
  have h2:=k6.keep l2 _ (k5.keep l2 _ hl2 lM2) (B5 EZ hl2 rfl)
  have h3:=k6.keep l3 _ Ie (B5 Gq Ie rfl)
  have g1:=k6.keep t1 _ ((k4.trans k5).keep t1 _ ht1 tM1) tp1
  have g2:=Iq k6 Gq (tk hM4 k5 (lP ht2))
  have g3:=k6.keep t3 _ Gp tp3
  have pk:∃ li wi,yV [V.ref l0,V.ref l1,V.ref l2,V.ref l3] ck=some (.ref li)∧H6 li=some (.lst wi)∧wi.length=7∧∀ v∈wi,∃ th,kr K p H6 th v∧zW ck.toNat th:=by
    obtain rfl | rfl | rfl | rfl:ck=0∨ck=1∨ck=2∨ck=3:=by omega
    · refine ⟨l0,w0,rfl,h0,by rw [hw0];rfl,fun v hv=>?_⟩
      rw [hw0] at hv
      simp only [List.mem_cons,List.not_mem_nil,or_false] at hv
      rcases hv with rfl | rfl | rfl | rfl | rfl | rfl | rfl
      · exact ⟨.num _,rfl,Bb (kX (by omega))⟩
      · exact ⟨.num _,rfl,Bb (kX (by omega))⟩
      · exact ⟨.num _,rfl,Bb (kX (by omega))⟩
      · exact ⟨.num _,rfl,Bb (kX (by omega))⟩
      · exact ⟨.LY _,rfl,Bb rfl⟩
      · exact ⟨.cG,rfl,Bb rfl⟩
      · exact ⟨.txt _,rfl,Bb rfl⟩
    · refine ⟨l1,_,rfl,h1,rfl,fun v hv=>?_⟩
      simp only [List.mem_cons,List.not_mem_nil,or_false] at hv
      rcases hv with rfl | rfl | rfl | rfl | rfl | rfl | rfl
      · exact ⟨.num _,rfl,Bc (kX (by omega))⟩
      · exact ⟨.num _,rfl,Bc (kX (by omega))⟩
      · exact ⟨.num _,rfl,Bc (kX (by omega))⟩
      · exact ⟨.num _,rfl,Bc (kX (by omega))⟩
      · exact ⟨.cG,rfl,Bc rfl⟩
      · exact ⟨.txt _,rfl,Bc rfl⟩
      · exact ⟨.lst,⟨t1,_,rfl,tp1,g1⟩,Bc rfl⟩
    · refine ⟨l2,_,rfl,h2,rfl,fun v hv=>?_⟩
      simp only [List.mem_cons,List.not_mem_nil,or_false] at hv
      rcases hv with rfl | rfl | rfl | rfl | rfl | rfl | rfl
      · exact ⟨.num _,rfl,Bd (kX (by omega))⟩
      · exact ⟨.num _,rfl,Bd (kX (by omega))⟩
      · exact ⟨.num _,rfl,Bd (kX (by omega))⟩
      · exact ⟨.num _,rfl,Bd (kX (by omega))⟩
      · exact ⟨.LY _,rfl,Bd rfl⟩
      · exact ⟨.cG,rfl,Bd rfl⟩
      · exact ⟨.tup,⟨t2,_,rfl,g2⟩,Bd rfl⟩
    · refine ⟨l3,_,rfl,h3,rfl,fun v hv=>?_⟩
      simp only [List.mem_cons,List.not_mem_nil,or_false] at hv
      rcases hv with rfl | rfl | rfl | rfl | rfl | rfl | rfl
      · exact ⟨.txt _,rfl,Be (by decide +kernel)⟩
      · exact ⟨.txt _,rfl,Be (by decide +kernel)⟩
      · exact ⟨.txt _,rfl,Be (by decide +kernel)⟩
      · exact ⟨.cG,rfl,Be rfl⟩
      · exact ⟨.num _,rfl,Be rfl⟩
      · exact ⟨.lst,⟨t3,_,rfl,tp3,g3⟩,Be rfl⟩
      · exact ⟨.txt _,rfl,Be (by decide +kernel)⟩
  have kk6:Kp K p H H6:=k1.trans ((⟨fun z o e n=>Gr.keep z o (x2.at e) (fun w=>by rw [w,nM1.1] at e;cases e),fun b xs e m=>Gr.mod b xs (x2.mod b xs e m) m⟩:Kp K p H1 H5).trans k6)
  rw [e6]
  try walk_at "rn"
  obtain ⟨li,wi,ei,hi,leni,thi⟩:=pk
  obtain ⟨v,ev,mv⟩:=pT (xs:=wi) (show 0≤fa % 7 by omega) (by rw [leni];omega)
  obtain ⟨th,hth,bad⟩:=thi v mv
  refine ⟨_,cU hR6,fun S nS=>?_⟩
  have yS:=Ext.new (K:=K) (o:=.lst [V.int a,V.int b,V.int c,V.str pl]) nS
  refine ⟨_,bX (yS.at hM6),_,ei,li,rfl,_,bX (yS.at hi),_,ev,ck.toNat,?_,?_⟩
  · obtain rfl | rfl | rfl | rfl:ck=0∨ck=1∨ck=2∨ck=3:=by omega
    all_goals rfl
  rw [gw]
  have yS:=Ext.new (K:=K) (o:=.lst ([V.int a,V.int b,V.int c,V.str pl].set ck.toNat v)) nS
  have hS:=ai (H:=H6) (a:=S) (o:=.lst ([V.int a,V.int b,V.int c,V.str pl].set ck.toNat v))
  generalize upd H6 S (.lst ([V.int a,V.int b,V.int c,V.str pl].set ck.toNat v))=H7 at yS hS ⊢
  have NB:=yS.tup hR6
  have Fe:=Jl.ext yS
  have Sm:=hth.ext yS
  have kk7:=kk6.trans yS.kp
  clear k1 k3 k4 k5 k6 Gr hM hM3 hM4 hM5 hM6 h0 h1 h2 h3 g1 g2 g3 ht1 ht2 Gp L7 hl1 hl2 Ie Dl Dy Ic EZ Gq x2 y0 yM
  rw [e8]
  try walk_at "rn"
  refine ⟨_,hS,fun T1 nT1=>?_⟩
  have z1:=Ext.new (K:=K) (o:=.tup ([V.int a,V.int b,V.int c,V.str pl].set ck.toNat v)) nT1
  have f1:tupQ K (upd H7 T1 (.tup ([V.int a,V.int b,V.int c,V.str pl].set ck.toNat v))) T1=_:=aN
  generalize upd H7 T1 (.tup ([V.int a,V.int b,V.int c,V.str pl].set ck.toNat v))=G1 at z1 f1 ⊢
  refine ⟨_,cU (z1.tup NB),fun L1 nL1=>?_⟩
  have z2:=Ext.new (K:=K) (o:=.lst [V.int a,V.int b,V.int c,V.str pl]) nL1
  have f2:=ai (H:=G1) (a:=L1) (o:=.lst [V.int a,V.int b,V.int c,V.str pl])
  have L1p:=(Fe.ext z1).ne nL1
  generalize upd G1 L1 (.lst [V.int a,V.int b,V.int c,V.str pl])=G2 at z2 f2 ⊢
  have z12:=z1.trans z2
  refine ⟨_,z12.tup NB,fun C3 G3 f3 z3 o1 no1=>?_⟩
  have z13:=z12.trans z3
  have z4:=Ext.new (K:=K) (o:=.tup [V.int 1]) no1
  have Sn:=z13.trans z4
  generalize upd G3 o1 (.tup [V.int 1])=G4 at z4 Sn ⊢
  refine ⟨_,Sn.tup NB,by simp,fun D5 G5 f5 z5 F1 nF1=>?_⟩
  have z6:=Ext.new (K:=K) (o:=.lst [V.ref T1,V.ref L1,V.ref C3,V.ref D5]) nF1
  have f6:=ai (H:=G5) (a:=F1) (o:=.lst [V.ref T1,V.ref L1,V.ref C3,V.ref D5])
  have z15:=Sn.trans z5
  have F1p:=(Fe.ext z15).ne nF1
  generalize upd G5 F1 (.lst [V.ref T1,V.ref L1,V.ref C3,V.ref D5])=G6 at z6 f6 ⊢
  have z16:=z15.trans z6
  have r1:∀ {G:Hp},Ext K G6 G→∀ v∈[V.ref T1,V.ref L1,V.ref C3,V.ref D5],∃ rl,m5 K p G rl v∧rl.ok=false:=by
    intro G xG v' hv
    have gt:∀ {G:Hp},gP K p G [.num a,.num b,.num c,.txt pl] [.int a,.int b,.int c,.str pl]:=⟨_,_,rfl,rfl,_,_,rfl,rfl,_,_,rfl,rfl,_,_,rfl,rfl,rfl⟩
    simp only [List.mem_cons,List.not_mem_nil,or_false] at hv
    rcases hv with rfl | rfl | rfl | rfl
    · exact ⟨.tp ([.num a,.num b,.num c,.txt pl].set ck.toNat th),⟨T1,_,rfl,(z2.trans (z3.trans (z4.trans (z5.trans (z6.trans xG))))).tup f1,gt.set (Sm.ext (z16.trans xG)) _⟩,bad _ _ _ _⟩
    · exact ⟨.no,.inr (.inr (.inr ⟨L1,_,rfl,L1p,(z3.trans (z4.trans (z5.trans (z6.trans xG)))).at f2⟩)),rfl⟩
    · exact ⟨.tp [.num a,.num b,.num c],⟨C3,_,rfl,(z4.trans (z5.trans (z6.trans xG))).tup f3,_,_,rfl,rfl,_,_,rfl,rfl,_,_,rfl,rfl,rfl⟩,rfl⟩
    · exact ⟨.tp [.num a,.num b,.num c,.txt pl,.num 1],⟨D5,_,rfl,(z6.trans xG).tup f5,_,_,rfl,rfl,_,_,rfl,rfl,_,_,rfl,rfl,_,_,rfl,rfl,_,_,rfl,rfl,rfl⟩,rfl⟩
  rw [e9]
  try walk_at "rn"
  intro A1 nA1 B1 nB1 L4 nL4
  have u1:=Ext.new (K:=K) (o:=.tup [V.ref R]) nA1
  have u2:=Ext.new (K:=K) (o:=.tup []) nB1
  have u3:=Ext.new (K:=K) (o:=.lst [V.ref A1,V.cG,V.int fa,V.ref B1]) nL4
  have fA:tupQ K _ A1=_:=(u2.trans u3).tup (aN (H:=G6) (a:=A1) (xs:=[V.ref R]))
  have fB:tupQ K _ B1=_:=u3.tup (aN (H:=upd G6 A1 (.tup [V.ref R])) (a:=B1) (xs:=[]))
  have PZ:=u1.trans (u2.trans u3)
  generalize upd (upd (upd G6 A1 (.tup [V.ref R])) B1 (.tup [])) L4 (.lst [V.ref A1,V.cG,V.int fa,V.ref B1])=G9 at fA fB PZ ⊢
  refine ⟨_,PZ.at f6,by simp,fun F2 nF2=>⟨.inl ⟨_,cz.of ai⟩,?_⟩⟩
  have y9:=Ext.new (K:=K) (o:=.lst ([V.ref T1,V.ref L1,V.ref C3,V.ref D5]++[V.ref A1,V.cG,V.int fa,V.ref B1])) nF2
  have hF:=ai (H:=G9) (a:=F2) (o:=.lst ([V.ref T1,V.ref L1,V.ref C3,V.ref D5]++[V.ref A1,V.cG,V.int fa,V.ref B1]))
  have z9:=z16.trans PZ
  have F2p:=(Fe.ext z9).ne nF2
  generalize upd G9 F2 (.lst ([V.ref T1,V.ref L1,V.ref C3,V.ref D5]++[V.ref A1,V.cG,V.int fa,V.ref B1]))=GA at y9 hF ⊢
  have P0:=(z9.trans y9).tup NB
  refine ⟨_,cU P0,_,rfl,_,cU P0,_,rfl,_,cU P0,_,rfl,_,cU P0,_,rfl,fun T9 nT9=>⟨_,(Ext.new nT9).at hF,by simp,?_⟩⟩
  have yT:=Ext.new (K:=K) (o:=.tup [V.int b,V.str pl,V.int c,V.int a]) nT9
  have fT:tupQ K (upd GA T9 (.tup [V.int b,V.str pl,V.int c,V.int a])) T9=_:=aN
  have hFT:=yT.at hF
  have P1:=y9.trans yT
  generalize upd GA T9 (.tup [V.int b,V.str pl,V.int c,V.int a])=GB at fT hFT P1 ⊢
  have Ir:Ext K G9 (upd GB F2 (.lst ([V.ref T1,V.ref L1,V.ref C3,V.ref D5]++[V.ref A1,V.cG,V.int fa,V.ref B1]++[V.ref T9]))):=xq P1 nF2
  have fT:tupQ K (upd GB F2 (.lst ([V.ref T1,V.ref L1,V.ref C3,V.ref D5]++[V.ref A1,V.cG,V.int fa,V.ref B1]++[V.ref T9]))) T9=_:=(gA (qm fT hFT (fun _ h=>by cases h))).trans fT
  refine q F2 _ _ ai (fun v' hv=>?_) (Fe.ext (z9.trans Ir)) (kk7.trans (z9.trans Ir).kp)
  rcases List.mem_append.mp hv with hv | hv
  · rcases List.mem_append.mp hv with hv | hv
    · exact r1 (PZ.trans Ir) v' hv
    · simp only [List.mem_cons,List.not_mem_nil,or_false] at hv
      rcases hv with rfl | rfl | rfl | rfl
      · exact ⟨.tp [.tup],⟨A1,_,rfl,Ir.tup fA,_,_,rfl,⟨R,_,rfl,(z9.trans Ir).tup NB⟩,rfl⟩,rfl⟩
      · exact ⟨.no,.inl rfl,rfl⟩
      · exact ⟨.no,.inr (.inl ⟨_,rfl⟩),rfl⟩
      · exact ⟨.tp [],⟨B1,_,rfl,Ir.tup fB,rfl⟩,rfl⟩
  · obtain rfl:=List.mem_singleton.mp hv
    exact ⟨.tp [.num b,.txt pl,.num c,.num a],⟨T9,_,rfl,fT,_,_,rfl,rfl,_,_,rfl,rfl,_,_,rfl,rfl,_,_,rfl,rfl,rfl⟩,by simp [Rl.ok,Th.wh,Th.zw]⟩
end
section
variable {P:Program} {w:World} {K:PySem.W.Frag} {mg:Str→Option Value} {base:Heap}
theorem bK.app {H:Hp} {ws vs:List Addr} {W V:List Ent} (h:bK K H ws W) (g:bK K H vs V):bK K H (ws++vs) (W++V):=by
  refine ⟨by rw [List.length_append,List.length_append,h.1,g.1],fun i b e' h1 h2=>?_⟩
  by_cases z:i < ws.length
  · rw [List.getElem?_append_left z] at h1
    rw [List.getElem?_append_left (by rw [← h.1];exact z)] at h2
    exact h.2 i b e' h1 h2
  · rw [List.getElem?_append_right (by omega)] at h1
    rw [List.getElem?_append_right (by rw [← h.1];omega),← h.1] at h2
    exact g.2 _ b e' h1 h2
theorem Iu {H:Hp} {n:Nat} {a b:Addr} {e:Ent} (h:tupQ K H a=some (Ent.v e)) (g:tupQ K H b=some (Ent.v e)):Ab K H (n + 2) (.ref a) (.ref b):=by
  refine .inr (.inr ⟨a,b,_,_,rfl,rfl,h,g,rfl,by cases e <;> simp [Ent.v],fun i x y u v=>?_⟩)
  have xy:x=y:=by rw [u] at v;exact Option.some.inj v
  subst xy
  have m:=List.mem_of_getElem? u
  cases e <;> simp only [Ent.v,List.mem_cons,List.not_mem_nil,or_false] at m
  · rcases m with rfl | rfl | rfl
    · exact .str
    · exact .int
    · exact .str
  · rcases m with rfl | rfl <;> exact .str
  · subst m;exact .str
theorem zX {H:Hp} {n:Nat} {a b:Addr} {ws vs:List Addr} {W:List Ent} (h:bK K H ws W) (g:bK K H vs W) (ha:H a=some (.lst (ws.map V.ref))) (hb:H b=some (.lst (vs.map V.ref))) (l:ws.length≤1000):Ab K H (n + 3) (.ref a) (.ref b):=by
  refine .inr (.inl ⟨a,b,_,_,rfl,rfl,ha,hb,by rw [List.length_map,List.length_map,h.1,g.1],by rw [List.length_map];omega,fun i x y u v=>?_⟩)
  rw [List.getElem?_map] at u v
  cases hu:ws[i]? with
  | none=>rw [hu] at u;cases u
  | some a'=>
    cases hv:vs[i]? with
    | none=>rw [hv] at v;cases v
    | some b'=>
      rw [hu] at u
      rw [hv] at v
      cases u
      cases v
      have li:i < W.length:=by rw [← h.1];exact (List.getElem?_eq_some_iff.mp hu).1
      have e:=List.getElem?_eq_getElem li
      exact Iu (h.2 i a' _ hu e).1 (g.2 i b' _ hv e).1
theorem Ff {H:Hp} {R:Addr} {a b c:Int} {pl:Str} {n:Nat} (ru:ie K H R a b c pl):Ab K H (n + 2) (.ref R) (.ref R):=by
  refine .inr (.inr ⟨R,R,_,_,rfl,rfl,ru.t,ru.t,rfl,by simp,fun i x y e f=>?_⟩)
  have xy:x=y:=by rw [e] at f;exact Option.some.inj f
  subst xy
  have m:=List.mem_of_getElem? e
  simp only [List.mem_cons,List.not_mem_nil,or_false] at m
  rcases m with rfl | rfl | rfl | rfl
  · exact .int
  · exact .int
  · exact .int
  · exact .str
def Bf (a b c:Int) (pl:Str):List Ent:=[.cA 2 (aX (Str.ofString "leaf 0 -")),.cA 0 (aX (bQ a b c pl)),.blot]
theorem t7 {H:Hp} {R u0 u1 u2:Addr} {a b c:Int} {pl:Str} (ru:ie K H R a b c pl) (t0:tupQ K H u0=some (Ent.v (.cA 2 (aX (Str.ofString "leaf 0 -"))))) (t1:tupQ K H u1=some (Ent.v (.cA 0 (aX (bQ a b c pl))))) (t2:tupQ K H u2=some (Ent.v .blot)):bK K H [u0,u1,u2] (Bf a b c pl):=by
  refine ⟨rfl,fun i u e h1 h2=>?_⟩
  rcases i with _ | _ | _ | i
  · cases h1;cases h2
    exact ⟨t0,(show (aX (Str.ofString "leaf 0 -")).length≤100 from by decide +kernel)⟩
  · cases h1;cases h2
    exact ⟨t1,(qN ru).1⟩
  · cases h1;cases h2
    exact ⟨t2,trivial⟩
  · cases h1
theorem NC {ks:List Int} (pw:ks.Pairwise (· < ·)) (m:∀ k,k∈ks↔k=2∨k=0) (l:ks.length=2):ks=[0,2]:=by
  match ks,l with
  | [x,y],_=>
    have lt:x < y:=by simpa using pw
    have hx:=(m x).mp (by simp)
    have hy:=(m y).mp (by simp)
    have:x=0∧y=2:=by omega
    rw [this.1,this.2]
def mw (K:PySem.W.Frag) (aE af aA av ak:Addr):Sp:=fun vs H Q _=>∃ H0 y p R A a b c pl dp a1 a2 a3 s ws zs W,vs=[.ref y,.ref p,.ref R,.ref A]∧xR K H0 H aE aA av ak y p (.ref R)∧ie K H R a b c pl∧bJ K H af p dp a1 a2 a3 (Sh.begun s (bQ a b c pl)) ws∧bK K H ws (W++Bf a b c pl)∧H A=some (.lst (zs.map V.ref))∧bK K H zs W∧W.length < 900∧∀ H',Ext K H H'→Q (.bl true) H'
theorem jA:aG ["_law_kept","_law_shelf","_law_rule_here","_law_ahead","_law_due_here","_law_texts"] ["_law_kept","_law_shelf","_law_rule_here","_law_ahead"] (aj bN):=⟨rfl,rfl,rfl,by decide +kernel,rfl,by decide +kernel,by decide +kernel⟩
theorem uS {f aE af aA av:Addr} {fd:FuncData} (F:fL K "_law_begun" "_law_begun" bN f fd) {cF cR cB ak aq aP:Addr} {tE t1 t2 t3 t4 tP tQ:Tok} (B:B K mg cF cR cB ak aq aP tE t1 t2 t3 t4 tP tQ) (bO:Callee P w K mg base "_law_alike" 5 ["_law_found","_law_due_here"] (nv K 5)) (kK:Callee P w K mg base "_law_due" 2 ["_law_rule_here"] (E6 K)) (aZ:bH P w K mg base af "log" 1 ["self"] [] (vG K af)) (fH:bH P w K mg base af "page" 2 ["self","place"] [] (AZ K af)) (bI:bH P w K mg base af "journal" 1 ["self"] [] (mU K af)) (bR:bH P w K mg base af "places" 1 ["self"] [] (o9 K af)) (bZ:bH P w K mg base aA "image" 5 ["self"] [] (B0 K aA av ak)) (bh:iu K aE) (bu:iu K aA) (aB:iu K af) (iG:aK K aE "store") (fN:aK K aE "shelf") (Fg:aK K aA "rule"):aT P w K mg base eK 6 f fd ["_law_kept","_law_shelf","_law_rule_here","_law_ahead"] (mw K aE af aA av ak):=by
  refine F.iC jA (fun vs H Q E h=>?_) (fun cE A outer s H vs Q E hr h=>?_)
  · obtain ⟨H0,y,p,R,A,a,b,c,pl,dp,a1,a2,a3,s,ws,zs,W,rfl,_⟩:=h
    rfl
  obtain ⟨H0,y,p,R,A,a,b,c,pl,dp,a1,a2,a3,s,ws,zs,W,rfl,⟨dy,x,dx,h,dh,k,lf,dl,r,t,d,_,hy,st⟩,ru,sh,en,hA,ND,lW,q⟩:=h
  refine bA (rest:=(au bN).drop 5) (aV (bT (aM bO (hr.mono (by decide)) rfl (aa (fC bZ bu (hr.mono (by decide)) (gU (ev 0))) (aa (fz (aa (ev 2) (aa ei (aa (bB ay) (aa ei (aa (bB (aa (fz (aa bL (aa ei (aa (bB ay) ay)))) ay)) ay)))))) ay))))) fun r5 J5 e5=>?_
  refine bA (rest:=(au bN).drop 4) (aD (nF (tw (Dz (mZ (iY (aM bO (hr.mono (by decide)) rfl (aa (fC bR aB (hr.mono (by decide)) (ev 1)) (aa (bB (aa ei (aa ei ay))) ay))))) (qV (mZ (iY (aM bO (hr.mono (by decide)) rfl (aa (gU (gU (ev 0))) (aa (ev 2) ay)))))))) (aV (bT Ay)) gy)
      J5) fun r4 J4 e4=>?_
  refine bA (rest:=(au bN).drop 3) (aD (nF (mZ (iY (aM bO (hr.mono (by decide)) rfl (aa (ev 5) (aa (bB (aa (jF dW (jF dW (ev 4) ei (fun _ _=>rfl)) ei (fun _ _=>rfl)) (aa (jF dW (jF dW (ev 4) ei (fun _ _=>rfl)) ei (fun _ _=>rfl)) (aa bL ay)))) ay))))) (aV (bT Ay)) gy)
      J4) fun r3 J3 e3=>?_
  refine bA (rest:=(au bN).drop 2) (aD (sset (i:=5) jA.nd rfl (Or.inl rfl) (bB (aa (jR fH aB (hr.mono (by decide)) (ev 1) (aa ei ay)) (aa (jR fH aB (hr.mono (by decide)) (ev 1) (aa ei ay)) (aa (fC bI aB (hr.mono (by decide)) (ev 1)) ay)))))
      J3) fun r2 J2 e2=>?_
  refine bA (rest:=(au bN).drop 1) (aD (nF (mZ (iY (aM bO (hr.mono (by decide)) rfl (aa (bB (aa (fC aZ aB (hr.mono (by decide)) (ev 1)) (aa (fC aZ aB (hr.mono (by decide)) (gU (ev 0))) ay))) (aa (bB (aa (iW mO (ev 3) (ev 4)) (aa (iW mO (ev 3) (ev 4)) ay))) ay))))) (aV (bT Ay)) gy)
      J2) fun r1 J1 e1=>?_
  refine ⟨_,(aD (sset (i:=4) jA.nd rfl (Or.inl rfl) (aM kK (hr.mono (by decide)) rfl (aa (ev 2) ay)))
      J1),?_⟩
  try walk_at "rn"
  refine ⟨R,a,b,c,pl,rfl,ru,fun D H1 ⟨u0,u1,u2,hD,t0,t1,t2⟩ nD x1=>?_⟩
  have So:=x1.at hy
  have Ih:=st.ext x1
  have L8:=ru.ext x1
  have NF:=sh.ext' x1
  have en1:=en.ext x1
  have Sq:=x1.at hA
  have NG:=ND.ext x1
  have NH:=NG.app (t7 L8 t0 t1 t2)
  have lws:ws.length < 1000:=by have:=en.1;rw [List.length_append] at this;have:(Bf a b c pl).length=3:=rfl;omega
  rw [e1]
  try walk_at "rn"
  refine ⟨_,_,NF.ins,gB (by decide +kernel) (by decide +kernel) (by decide +kernel) (by decide +kernel) (by decide +kernel),p,dp,a1,a2,a3,_,ws,rfl,NF,lws,fun g1 n1=>?_⟩
  have y1:=Ext.new (K:=K) (o:=.lst (ws.map V.ref)) n1
  have Dk:=NF.ext' y1
  refine ⟨_,_,_,y1.at So,bh,fN,_,mX,p,rfl,_,_,Dk.ins,gB (by decide +kernel) (by decide +kernel) (by decide +kernel) (by decide +kernel) (by decide +kernel),p,dp,a1,a2,a3,_,ws,rfl,Dk,lws,fun g2 n2=>?_⟩
  have y2:=Ext.new (K:=K) (o:=.lst (ws.map V.ref)) n2
  have f1:=y2.at (ai (H:=H1) (a:=g1) (o:=.lst (ws.map V.ref)))
  have f2:=ai (H:=upd H1 g1 (.lst (ws.map V.ref))) (a:=g2) (o:=.lst (ws.map V.ref))
  have x2:=y1.trans y2
  generalize upd (upd H1 g1 (.lst (ws.map V.ref))) g2 (.lst (ws.map V.ref))=H2 at f1 f2 x2 ⊢
  intro L nL
  have y3:=Ext.new (K:=K) (o:=.lst [V.ref g1,V.ref g2]) nL
  have f3:=ai (H:=H2) (a:=L) (o:=.lst [V.ref g1,V.ref g2])
  generalize upd H2 L (.lst [V.ref g1,V.ref g2])=H3 at y3 f3 ⊢
  have x3:=x2.trans y3
  have lz:zs.length < 900:=by rw [ND.1];exact lW
  refine ⟨_,x3.at Sq,_,x3.at hD,by simp;omega,fun c1 nc1=>?_⟩
  have cat:zs.map V.ref++[V.ref u0,V.ref u1,V.ref u2]=(zs++[u0,u1,u2]).map V.ref:=by rw [List.map_append];rfl
  rw [cat]
  have y4:=Ext.new (K:=K) (o:=.lst ((zs++[u0,u1,u2]).map V.ref)) nc1
  refine ⟨_,(x3.trans y4).at Sq,_,(x3.trans y4).at hD,by simp;omega,fun c2 nc2=>?_⟩
  rw [cat]
  have y5:=Ext.new (K:=K) (o:=.lst ((zs++[u0,u1,u2]).map V.ref)) nc2
  have f4:=y5.at (ai (H:=H3) (a:=c1) (o:=.lst ((zs++[u0,u1,u2]).map V.ref)))
  have f5:=ai (H:=upd H3 c1 (.lst ((zs++[u0,u1,u2]).map V.ref))) (a:=c2) (o:=.lst ((zs++[u0,u1,u2]).map V.ref))
  have x5:=y4.trans y5
  generalize upd (upd H3 c1 (.lst ((zs++[u0,u1,u2]).map V.ref))) c2 (.lst ((zs++[u0,u1,u2]).map V.ref))=H5 at f4 f5 x5 ⊢
  intro L' nL'
  have y6:=Ext.new (K:=K) (o:=.lst [V.ref c1,V.ref c2]) nL'
  have f6:=ai (H:=H5) (a:=L') (o:=.lst [V.ref c1,V.ref c2])
  have x6:=x5.trans y6
  have xx:=x3.trans x6
  have P4:=en1.ext xx
  have Iv:=NH.ext xx
  have z1:=(y3.trans x6).at f1
  have z2:=(y3.trans x6).at f2
  have z3:=x6.at f3
  have z4:=y6.at f4
  have z5:=y6.at f5
  generalize upd H5 L' (.lst [V.ref c1,V.ref c2])=H6 at z1 z2 z3 z4 z5 f6 xx P4 Iv ⊢
  refine ⟨_,_,rfl,.inr (.inl ⟨L,L',_,_,rfl,rfl,z3,f6,rfl,by simp,fun i x y e f=>?_⟩),fun H7 x7=>⟨_,rfl,?_⟩⟩
  · rcases i with _ | _ | i
    · cases e;cases f;exact zX P4 Iv z1 z4 (by omega)
    · cases e;cases f;exact zX P4 Iv z2 z5 (by omega)
    · cases e
  refine gO (by decide) ?_
  have Iw:=xx.trans x7
  have hy7:=Iw.at So
  have st7:=Ih.ext Iw
  have ru7:=L8.ext Iw
  have Dp:=NF.ext' Iw
  have Ss:=Iw.at hD
  have t07:=Iw.tup t0
  have t17:=Iw.tup t1
  have x07:=x1.trans Iw
  clear Iw xx x6 x5 x3 x2 y1 y2 y3 y4 y5 y6 z1 z2 z3 z4 z5 f1 f2 f3 f4 f5 f6 P4 Iv NH en1 x1 x7 So Ih L8 NF Sq NG nL nL' nc1 nc2 n1 n2
  rw [e2]
  try walk_at "rn"
  have fl:∀ {m:Str},(m=="sheets")=false→(m=="diary")=false→(m=="writes")=false→(m=="first_sheets")=false→(m=="first_diary")=false→∀ {b c d e f:V},List.lookup m [(("sheets":Str),b),(("diary":Str),c),(("writes":Str),d),(("first_sheets":Str),e),(("first_diary":Str),f)]=none:=fun k1 k2 k3 k4 k5=>by
    intro b c d e f
    simp only [List.lookup,k1,k2,k3,k4,k5]
  refine ⟨_,_,Dp.ins,fl (by decide +kernel) (by decide +kernel) (by decide +kernel) (by decide +kernel) (by decide +kernel),p,dp,a1,a2,a3,_,ws,_,rfl,Dp,0,rfl,_,_,Dp.ins,fl (by decide +kernel) (by decide +kernel) (by decide +kernel) (by decide +kernel) (by decide +kernel),p,dp,a1,a2,a3,_,ws,_,rfl,Dp,2,rfl,_,_,Dp.ins,fl (by decide +kernel) (by decide +kernel) (by decide +kernel) (by decide +kernel) (by decide +kernel),p,dp,a1,a2,a3,_,ws,rfl,Dp,fun tx ntx=>?_⟩
  show r3 _ _ (upd H7 tx (.lst [V.str (aX (bQ a b c pl)),V.str (aX (Str.ofString "leaf 0 -")),V.str (Str.ofString "")]))
  have y8:=Ext.new (K:=K) (o:=.lst [V.str (aX (bQ a b c pl)),V.str (aX (Str.ofString "leaf 0 -")),V.str (Str.ofString "")]) ntx
  have f8:=ai (H:=H7) (a:=tx) (o:=.lst [V.str (aX (bQ a b c pl)),V.str (aX (Str.ofString "leaf 0 -")),V.str (Str.ofString "")])
  generalize upd H7 tx (.lst [V.str (aX (bQ a b c pl)),V.str (aX (Str.ofString "leaf 0 -")),V.str (Str.ofString "")])=H8 at y8 f8 ⊢
  rw [e3]
  try walk_at "rn"
  refine ⟨_,bX (y8.at Ss),_,rfl,u1,rfl,_,cU (y8.tup t17),_,rfl,_,bX (y8.at Ss),_,rfl,u0,rfl,_,cU (y8.tup t07),_,rfl,fun L2 Lq=>?_⟩
  have y9:=Ext.new (K:=K) (o:=.lst [V.str (aX (bQ a b c pl)),V.str (aX (Str.ofString "leaf 0 -")),V.str (Str.ofString "")]) Lq
  refine ⟨_,_,rfl,.inr (.inl ⟨tx,L2,_,_,rfl,rfl,y9.at f8,ai,rfl,by simp,fun i x y e f=>?_⟩),fun H9 x9=>⟨_,rfl,gO (by decide) ?_⟩⟩
  · rcases i with _ | _ | _ | i
    · cases e;cases f;exact .str
    · cases e;cases f;exact .str
    · cases e;cases f;exact .str
    · cases e
  have Ma:=y8.trans (y9.trans x9)
  have Jk:=Dp.ext' Ma
  have Ip:=st7.ext Ma
  have ru9:=ru7.ext Ma
  have Lu:=Ma.at hy7
  have x09:=x07.trans Ma
  clear Ma y8 y9 x9 f8 x07 Ss t07 t17 Dp st7 ru7 hy7
  rw [e4]
  try walk_at "rn"
  refine ⟨_,_,Jk.ins,fl (by decide +kernel) (by decide +kernel) (by decide +kernel) (by decide +kernel) (by decide +kernel),p,dp,a1,a2,a3,_,ws,rfl,Jk,(show (2:Nat) < 64 by decide),fun kl ks nkl pw mk lk L3 nL3=>?_⟩
  obtain rfl:=NC pw (fun z=>(mk z).trans (by show z∈[(2:Int),0]↔_;simp)) lk
  have P1:=Ext.new (K:=K) (o:=.lst (List.map V.int [0,2])) nkl
  have Ir:=Ext.new (K:=K) (o:=.lst [V.int 0,V.int 2]) nL3
  refine ⟨_,_,rfl,.inr (.inl ⟨kl,L3,_,_,rfl,rfl,Ir.at ai,ai,rfl,by simp,fun i x y e f=>?_⟩),fun H10 x10=>⟨_,rfl,gO (by decide) ?_⟩⟩
  · rcases i with _ | _ | i
    · cases e;cases f;exact .int
    · cases e;cases f;exact .int
    · cases e
  have P5:=P1.trans (Ir.trans x10)
  have stA:=Ip.ext P5
  have ruA:=ru9.ext P5
  refine ⟨_,_,_,P5.at Lu,bh,iG,_,qf,x,rfl,_,_,_,stA.ins,bu,Fg,_,zL,_,_,rfl,Ff ruA,fun H11 x11=>⟨_,rfl,gO (by decide) ?_⟩⟩
  have P6:=P5.trans x11
  have stB:=Ip.ext P6
  have hyB:=P6.at Lu
  have ruB:=ru9.ext P6
  have x0B:=x09.trans P6
  rw [e5]
  try walk_at "rn"
  refine ⟨_,_,_,hyB,bh,iG,_,qf,x,rfl,_,_,stB.ins,qe (by decide +kernel) (by decide +kernel) (by decide +kernel) (by decide +kernel),x,dx,h,dh,k,lf,dl,r,t,_,rfl,stB,fun I Mk Rl H12 nMk nRl hI hMk hRl Lp=>?_⟩
  obtain ⟨T,Dr,hR1,hT,hDr⟩:=hRl
  intro m1 n1 d1 nd1 s1 ns1 l1 nl1 i1 ni1
  have v1:=Ext.new (K:=K) (o:=.lst []) n1
  have v2:=Ext.new (K:=K) (o:=.lst []) nd1
  have v3:=Ext.new (K:=K) (o:=.tup [V.str (Str.ofString "leaf"),V.int 0,V.ref d1]) ns1
  have v4:=Ext.new (K:=K) (o:=.lst [V.ref s1]) nl1
  have v5:=Ext.new (K:=K) (o:=.tup [V.ref R,V.int 0,V.ref m1,V.int 1,V.ref l1]) ni1
  have g1:=(v2.trans (v3.trans (v4.trans v5))).at ai
  have g2:=(v3.trans (v4.trans v5)).at ai
  have g3:=(v4.trans v5).tup aN
  have g4:=v5.at ai
  have vv:=v1.trans (v2.trans (v3.trans (v4.trans v5)))
  refine ⟨_,_,rfl,.inr (.inr ⟨I,i1,_,_,rfl,rfl,vv.tup hI,aN,rfl,by simp,fun i x y e f=>?_⟩),fun H13 x13=>q _ (x0B.trans (Lp.trans (vv.trans x13)))⟩
  rcases i with _ | _ | _ | _ | _ | i
  · cases e;cases f;exact Ff (ruB.ext (Lp.trans vv))
  · cases e;cases f;exact .int
  · cases e;cases f;exact .inr (.inl ⟨Mk,m1,_,_,rfl,rfl,vv.at hMk,g1,rfl,by simp,fun i x y e f=>by cases e⟩)
  · cases e;cases f;exact .int
  · cases e;cases f
    refine .inr (.inl ⟨Rl,l1,_,_,rfl,rfl,vv.at hR1,g4,rfl,by simp,fun i x y e f=>?_⟩)
    rcases i with _ | i
    · cases e;cases f
      refine .inr (.inr ⟨T,s1,_,_,rfl,rfl,vv.tup hT,g3,rfl,by simp,fun i x y e f=>?_⟩)
      rcases i with _ | _ | _ | i
      · cases e;cases f;exact .str
      · cases e;cases f;exact .int
      · cases e;cases f;exact .inr (.inl ⟨Dr,d1,_,_,rfl,rfl,vv.at hDr,g2,rfl,by simp,fun i x y e f=>by cases e⟩)
      · cases e
    · cases e
  · cases e
end
section
variable {P:Program} {w:World} {K:PySem.W.Frag} {mg:Str→Option Value} {base:Heap}
def zY (K:PySem.W.Frag) (aE af aA av ak:Addr):Sp:=fun vs H Q _=>∃ p R a b c pl dp a1 a2 a3 s ws,vs=[.ref p,.ref R]∧ie K H R a b c pl∧bJ K H af p dp a1 a2 a3 s ws∧s.D=[]∧s.J=Str.ofString ""∧ws.length < 800∧
  ∀ y u0 u1 u2 H',xR K H H' aE aA av ak y p (.ref R)→tupQ K H' u0=some (Ent.v (.cA 2 (aX (Str.ofString "leaf 0 -"))))→tupQ K H' u1=some (Ent.v (.cA 0 (aX (bQ a b c pl))))→tupQ K H' u2=some (Ent.v .blot)→bJ K H' af p dp a1 a2 a3 (Sh.begun s (bQ a b c pl)) (ws++[u0,u1,u2])→g6 K [p,a1,a2] H H'→Q (.ref y) H'
theorem Fi {q:Addr} {H:Hp} {R:Addr} {a b c:Int} {pl:Str} (ru:ie K H R a b c pl):m5 K q H (.tp [.num a,.num b,.num c,.txt pl]) (.ref R)∧(Rl.tp [.num a,.num b,.num c,.txt pl]).ok=true:=by
  refine ⟨⟨R,_,rfl,ru.t,_,_,rfl,rfl,_,_,rfl,rfl,_,_,rfl,rfl,_,_,rfl,rfl,rfl⟩,?_⟩
  show ((Th.num a).wh 1 64&&(Th.num b).wh 3 16&&(Th.num c).wh 1 64&&(Th.txt pl).zw)=true
  have h1:(Th.num a).wh 1 64=true:=decide_eq_true ru.a
  have h2:(Th.num b).wh 3 16=true:=decide_eq_true ru.b
  have h3:(Th.num c).wh 1 64=true:=decide_eq_true ru.c
  have h4:(Th.txt pl).zw=true:=by rcases ru.p with rfl | rfl <;> decide +kernel
  rw [h1,h2,h3,h4]
  rfl
theorem Lx {H:Hp} {R:Addr} {a b c a' b' c':Int} {pl Su:Str} (h:ie K H R a b c pl) (g:ie K H R a' b' c' Su):a=a'∧b=b'∧c=c'∧pl=Su:=by
  have e:=h.t.symm.trans g.t
  simpa using e
theorem Ly {aE af aA av ak cR cB:Addr}:∀ vs H Q E,zY K aE af aA av ak vs H Q E→rM K aE af aA av ak cR cB vs H Q fun _ _ _=>False:=by
  rintro vs H Q E ⟨p,R,a,b,c,pl,dp,a1,a2,a3,s,ws,rfl,ru,sh,hD,hJ,lW,q⟩
  obtain ⟨h,ok⟩:=Fi (q:=p) ru
  refine ⟨p,_,_,p,dp,a1,a2,a3,s,ws,rfl,h,sh,by rw [hD];decide,by rw [hJ];decide +kernel,lW,fun no=>(by rw [ok] at no;cases no),fun _ n=>absurd ⟨hD,hJ⟩ n,fun _ _ _ R' a' b' c' Su y u0 u1 u2 H' e ru'=>?_⟩
  cases e
  obtain ⟨rfl,rfl,rfl,rfl⟩:=Lx ru ru'
  exact q y u0 u1 u2 H'
structure kM (K:PySem.W.Frag) (H:Hp) (C p dp a1 a2 a3:Addr) (s:Sh) (ws:List Addr) (W:List Ent):Prop where
  sh:bJ K H C p dp a1 a2 a3 s ws
  en:bK K H ws W
  gd:∀ e∈W,e.good
  D:s.D.length < 64
  J:s.J.length≤sizeLine
  W:ws.length < 100
theorem kM.ext {H H':Hp} {C p dp a1 a2 a3:Addr} {s:Sh} {ws:List Addr} {W:List Ent} (h:kM K H C p dp a1 a2 a3 s ws W) (x:Ext K H H'):kM K H' C p dp a1 a2 a3 s ws W:=⟨h.sh.ext' x,h.en.ext x,h.gd,h.D,h.J,h.W⟩
theorem kM.kp {q:Addr} {H H':Hp} {C p dp a1 a2 a3:Addr} {s:Sh} {ws:List Addr} {W:List Ent} (h:kM K H C p dp a1 a2 a3 s ws W) (hq:Wl H q) (k:Kp K q H H') (n:∀ y∈[p,a1,a2,a3],y≠q):kM K H' C p dp a1 a2 a3 s ws W:=⟨h.sh.kp k n,h.en.kp hq k,h.gd,h.D,h.J,h.W⟩
theorem kM.Gs {ps:List Addr} {H H':Hp} {C p dp a1 a2 a3:Addr} {s:Sh} {ws:List Addr} {W:List Ent} (h:kM K H C p dp a1 a2 a3 s ws W) (nt:tU H ps) (k:g6 K ps H H') (n:∀ y∈[p,a1,a2,a3],y∉ps):kM K H' C p dp a1 a2 a3 s ws W:=
  ⟨⟨k.keep p _ h.sh.ins (n p (by simp)),k.keep a1 _ h.sh.d (n a1 (by simp)),k.keep a2 _ h.sh.w (n a2 (by simp)),k.keep a3 _ h.sh.d0 (n a3 (by simp)),h.sh.Aa⟩,h.en.keep k nt,h.gd,h.D,h.J,h.W⟩
theorem kM.ref {q v rl word Q E} {H:Hp} {C p dp a1 a2 a3:Addr} {s:Sh} {ws:List Addr} {W:List Ent} (h:kM K H C p dp a1 a2 a3 s ws W) (hv:m5 K q H rl v) (hw:(word=Str.ofString "rule"∧rl.ok=false)∨(word=Str.ofString "bare"∧rl.ok=true∧¬ (s.D=[]∧s.J=Str.ofString ""))) (k:∀ H',Ext K H H'→Q (.bl true) H'):ja K C [.ref p,v,.str word] H Q E:=
  ⟨q,rl,v,p,dp,a1,a2,a3,s,ws,W,word,rfl,hv,h.sh,h.en,h.gd,h.D,h.J,by have:=h.W;omega,hw,k⟩
theorem kM.some {H:Hp} {C p dp a1 a2 a3:Addr} {s:Sh} {ws:List Addr} {W:List Ent} (h:kM K H C p dp a1 a2 a3 s ws W):∀ y∈[p,a1,a2,a3],H y≠none:=by
  intro y m e
  simp only [List.mem_cons,List.not_mem_nil,or_false] at m
  rcases m with rfl | rfl | rfl | rfl
  · rw [h.sh.ins] at e;cases e
  · rw [h.sh.d] at e;cases e
  · rw [h.sh.w] at e;cases e
  · rw [h.sh.d0] at e;cases e
theorem vM {b:Str} (h:PyData.strOk b=true):PyData.strOk (aX b)=true:=g7 (g7 (fD _) (fD _)) h
theorem zZ {H:Hp} {R:Addr} {a b c:Int} {pl:Str} (ru:ie K H R a b c pl):∀ e∈Bf a b c pl,e.good:=by
  have g:PyData.strOk (bQ a b c pl)=true:=by
    have gp:PyData.strOk pl=true:=by rcases ru.p with rfl | rfl <;> exact fD _
    rw [← zN]
    exact g7 (g7 (fD _) (g7 (g7 (fD _) (fD _)) (g7 (g7 (fD _) (fD _)) (g7 (g7 (fD _) (fD _)) gp)))) (fD _)
  intro e he
  simp only [Bf,List.mem_cons,List.not_mem_nil,or_false] at he
  rcases he with rfl | rfl | rfl
  · exact vM (fD _)
  · exact vM g
  · trivial
theorem ie.kp {q:Addr} {H H':Hp} {R:Addr} {a b c:Int} {pl:Str} (h:ie K H R a b c pl) (hq:Wl H q) (k:Kp K q H H'):ie K H' R a b c pl:=⟨Iq k hq h.t,h.a,h.b,h.c,h.p⟩
theorem ie.Gs {ps:List Addr} {H H':Hp} {R:Addr} {a b c:Int} {pl:Str} (h:ie K H R a b c pl) (nt:tU H ps) (k:g6 K ps H H'):ie K H' R a b c pl:=⟨k.tup nt h.t,h.a,h.b,h.c,h.p⟩
theorem xR.Gs {ps:List Addr} {H0 H H':Hp} {aE aA av ak y p:Addr} {v:V} (h:xR K H0 H aE aA av ak y p v) (k:g6 K ps H H') (n:∀ q∈ps,H0 q≠none):xR K H0 H' aE aA av ak y p v:=by
  obtain ⟨dy,x,dx,h,dh,kk,lf,dl,r,t,d,nw,hy,st⟩:=h
  have no:∀ z∈[y,x,h,kk,lf,r,t],z∉ps:=fun z hz m=>n z m (nw z hz).1
  exact ⟨dy,x,dx,h,dh,kk,lf,dl,r,t,d,nw,k.keep y _ hy (no y (by simp)),k.keep x _ st.ins (no x (by simp)),k.keep h _ st.hs.ins (no h (by simp)),k.keep kk _ st.hs.kept (no kk (by simp)),k.keep lf _ st.hs.leaf (no lf (by simp)),k.keep r _ st.hs.rows (no r (by simp)),k.keep t _ st.hs.trail (no t (by simp))⟩
theorem xR.ext {H0 H H':Hp} {aE aA av ak y p:Addr} {v:V} (h:xR K H0 H aE aA av ak y p v) (x:Ext K H H'):xR K H0 H' aE aA av ak y p v:=h.Gs (ps:=[]) (g6.PN x) (by simp)
theorem iy:aG ["_law_script","_law_state","_law_rule_here","_law_other","_law_blotted","_law_bare","_law_shelf","_law_bad","_law_one","_law_ahead","_law_first","_law_second"] ["_law_script"] (aj ia):=⟨rfl,rfl,rfl,by decide +kernel,rfl,by decide +kernel,by decide +kernel⟩
def B6 (K:PySem.W.Frag):Sp:=fun vs H Q _=>∃ (a:Addr) (ns:List Int),vs=[.ref a]∧cz K H a (ns.map V.int)∧ns.length≤63∧Hi H∧∀ H',Q (.bl true) H'
theorem Lz {f aE af aA av:Addr} {fd:FuncData} (F:fL K "law" "law" ia f fd) {cF cR cB ak aq aP:Addr} {tE t1 t2 t3 t4 tP tQ:Tok} (B:B K mg cF cR cB ak aq aP tE t1 t2 t3 t4 tP tQ) (eT:Callee P w K mg base "_law_cell_at" 1 ["_law_script","_law_k"] (A9 K)) (ir:Callee P w K mg base "_law_rule" 2 ["_law_state"] (xU K)) (fP:Callee P w K mg base "_law_not_bare" 4 ["_law_state"] (qk K af)) (fQ:Callee P w K mg base "_law_no_rules" 2 ["_law_state","_law_rule_here"] (qo K)) (cV:Callee P w K mg base "_law_refused" 8 ["_law_shelf","_law_rule_here","_law_word"] (ja K af)) (dZ:Callee P w K mg base "_law_begun" 6 ["_law_kept","_law_shelf","_law_rule_here","_law_ahead"] (mw K aE af aA av ak)) (pD:Callee P w K mg base "begin" 7 ["shelf","rule"] (zY K aE af aA av ak))
    (iH:Maker P w K mg base "Shelf" 1 ["self"] [] af (rL af K)) (cN:bH P w K mg base af "line" 3 ["self","text"] [] (p8 K af fun vs e=>∃ t,vs=[.str t]∧e=.line t)) (cM:bH P w K mg base af "blot" 3 ["self"] [] (p8 K af fun vs e=>vs=[]∧e=.blot)) (aZ:bH P w K mg base af "log" 1 ["self"] [] (vG K af)) (aB:iu K af):aT P w K mg base eK 9 f fd ["_law_script"] (B6 K):=by
  refine F.iC iy (fun vs H Q E h=>?_) (fun cE A outer s H vs Q E hr h=>?_)
  · obtain ⟨a,ns,rfl,_⟩:=h
    rfl
  obtain ⟨sa,ns,rfl,hs,hl,on,q⟩:=h
  refine bA (rest:=(au ia).drop 15) (aV (bT (qU (aM dZ (hr.mono (by decide)) rfl (aa (ev 10) (aa (ev 5) (aa (ev 2) (aa (bB ay) ay))))) (qT (aM dZ (hr.mono (by decide)) rfl (aa (ev 11) (aa (ev 4) (aa (ev 3) (aa (ev 9) ay))))))))) fun r15 J15 e15=>?_
  refine bA (rest:=(au ia).drop 14) (aD (nF (tw (Dz (mZ (iY (aM cV (hr.mono (by decide)) rfl (aa (ev 5) (aa (ev 3) (aa bL ay)))))) (qV (mZ (iY (aM cV (hr.mono (by decide)) rfl (aa (ev 4) (aa (Eb BR (ev 2) IW (IX ei)) (aa bL ay))))))))) (aV (bT Ay)) gy)
      J15) fun r14 J14 e14=>?_
  refine bA (rest:=(au ia).drop 13) (aD (nF (tw (Dz (mZ (iY (aM dZ (hr.mono (by decide)) rfl (aa (ev 10) (aa (ev 5) (aa (ev 2) (aa (bB ay) ay))))))) (qV (mZ (iY (aM dZ (hr.mono (by decide)) rfl (aa (ev 11) (aa (ev 4) (aa (ev 3) (aa (ev 9) ay)))))))))) (aV (bT Ay)) gy)
      J14) fun r13 J13 e13=>?_
  refine bA (rest:=(au ia).drop 10) (aD (sset (i:=9) iy.nd rfl (Or.inl rfl) (fC aZ aB (hr.mono (by decide)) (ev 4)))
      (aD (sset (i:=10) iy.nd rfl (Or.inl rfl) (aM pD (hr.mono (by decide)) rfl (aa (ev 5) (aa (ev 2) ay))))
      (aD (sset (i:=11) iy.nd rfl (Or.inl rfl) (aM pD (hr.mono (by decide)) rfl (aa (ev 4) (aa (ev 3) ay))))
      J13))) fun r10 J10 e10=>?_
  refine bA (rest:=(au ia).drop 9) (aD (nF (tw (Dz (mZ (iY (aM cV (hr.mono (by decide)) rfl (aa (ev 6) (aa (ev 2) (aa bL ay)))))) (qV (iX (Lb (Nat.lt_of_le_of_lt (Nat.le_add_right _ 64) hr.units)) (fC aZ aB (hr.mono (by decide)) (ev 5)) (bB ay) (bS _))))) (aV (bT Ay)) gy)
      J10) fun r9 J9 e9=>?_
  refine bA (rest:=(au ia).drop 8) (aD (KS PassesOwn.never rfl (sG (aM fQ (hr.mono (by decide)) rfl (aa (ev 1) (aa (ev 2) ay)))) (bF (i:=7) iy.nd rfl (Or.inl rfl))
        (aV (KS PassesOwn.never rfl (sG (bB (aa (ev 6) (aa (ev 5) (aa (ev 4) ay))))) (bF (i:=8) iy.nd rfl (Or.inl rfl))
        (aV (nF (mZ (iY (aM cV (hr.mono (by decide)) rfl (aa (ev 8) (aa (ev 7) (aa bL ay)))))) (aV (bT Ay)) gy)))))
      J9) fun r8 J8 e8=>?_
  refine bA (rest:=(au ia).drop 7) (aD (sset (i:=6) iy.nd rfl (Or.inl rfl) (aM fP (hr.mono (by decide)) rfl (aa (ev 1) ay)))
      J8) fun r7 J7 e7=>?_
  refine bA (rest:=(au ia).drop 3) (aD (sset (i:=4) iy.nd rfl (Or.inl rfl) (AN iH (hr.mono (by decide)) rfl))
      (aD (fE (jR cN aB (hr.mono (by decide)) (ev 4) (aa bL ay)))
      (aD (fE (fC cM aB (hr.mono (by decide)) (ev 4)))
      (aD (sset (i:=5) iy.nd rfl (Or.inl rfl) (AN iH (hr.mono (by decide)) rfl))
      J7)))) fun r3 J3 e3=>?_
  refine ⟨_,(aD (sset (i:=1) iy.nd rfl (Or.inl rfl) (bB (aa (aM eT (hr.mono (by decide)) rfl (aa (ev 0) (aa ei ay))) ay)))
      (aD (sset (i:=2) iy.nd rfl (Or.inl rfl) (aM ir (hr.mono (by decide)) rfl (aa (ev 1) ay)))
      (aD (sset (i:=3) iy.nd rfl (Or.inl rfl) (aM ir (hr.mono (by decide)) rfl (aa (bB (aa (iW gx (aM eT (hr.mono (by decide)) rfl (aa (ev 0) (aa ei ay))) ei) ay)) ay)))
      J3))),?_⟩
  try walk_at "rn"
  refine ⟨sa,ns,0,rfl,hs,by decide,fun n0 p0 R9=>⟨p0,rfl,.inl ⟨_,ai⟩,fun R a b c pl H1 L8 Dl k1=>?_⟩⟩
  have x1:Ext K H H1:=k1.ext R9
  refine ⟨sa,ns,1,rfl,x1.same.seq hs,by decide,fun n1=>⟨_,rfl,fun p1 np1=>⟨p1,rfl,.inl ⟨_,ai⟩,fun R2 b1 b2 b3 pl2 H2 t8 hp1' k2=>?_⟩⟩⟩
  have x2:Ext K H1 H2:=k2.ext np1
  have Dy:=Dl.ext x2
  have ru:=L8.ext x2
  clear k1 k2 x1 x2 Dl hp1' hs L8
  rw [e3]
  try walk_at "rn"
  intro pb db npb ndb neb
  refine ⟨pb,db,rfl,ai,fun d1 d2 d3 H3 m1 m2 m3 m12 m13 m23 hpb hd1 hd2 hd3 kpb=>⟨rfl,?_⟩⟩
  have x3:=Kp.made npb ndb neb kpb
  have xm:=Ext.made (K:=K) (o:=.ins af db []) (o':=.own pb) npb ndb neb
  have Mb:bJ K H3 af pb db d1 d2 d3 yw []:=⟨hpb,hd1,hd2,hd3,m13⟩
  have nwb:∀ y∈[pb,d1,d2,d3],new K H2 y:=by
    intro y hy
    simp only [List.mem_cons,List.not_mem_nil,or_false] at hy
    rcases hy with rfl | rfl | rfl | rfl
    · exact npb
    · exact br xm m1
    · exact br xm m2
    · exact br xm m3
  have NI:∀ y∈[pb,d1,d2],new K H2 y:=fun y m=>nwb y (List.mem_append_left [d3] m)
  refine ⟨_,_,Mb.ins,gB (by decide +kernel) (by decide +kernel) (by decide +kernel) (by decide +kernel) (by decide +kernel),pb,db,d1,d2,d3,yw,[],_,.line (Str.ofString "1 mark"),rfl,⟨_,rfl,rfl⟩,Mb,(show (Str.ofString "1 mark").length≤100 by decide +kernel),by decide +kernel,by decide,by decide,fun w1 H4 nw1 tw1 shb4 k4=>?_⟩
  refine ⟨_,_,shb4.ins,gB (by decide +kernel) (by decide +kernel) (by decide +kernel) (by decide +kernel) (by decide +kernel),pb,db,d1,d2,d3,_,_,[],.blot,rfl,⟨rfl,rfl⟩,shb4,trivial,by decide +kernel,by decide,by simp,fun w2 H5 nw2 tw2 shb5 k5=>?_⟩
  have x5:Ext K H2 H5:=(k5.ext (k4.ext x3 NI) NI)
  have tw1:=k5.tup shb4.qM tw1
  have nA:kM K H5 af pb db d1 d2 d3 yw [w1,w2] [.line (Str.ofString "1 mark"),.blot]:=⟨shb5,(zP.more tw1 (show (Str.ofString "1 mark").length≤100 by decide +kernel)).more tw2 trivial,fun e h=>by
    simp only [List.mem_cons,List.not_mem_nil,or_false] at h
    rcases h with rfl | rfl
    · exact fD _
    · trivial,by decide,by decide +kernel,(show (2:Nat) < 100 by decide)⟩
  clear Mb shb4 shb5 tw1 tw2 k4 k5 x3 xm kpb hpb hd1 hd2 hd3
  intro pa da npa nda nea
  refine ⟨pa,da,rfl,ai,fun c1 c2 c3 H6 m1 m2 m3 m12 m13 m23 hpa hc1 hc2 hc3 kpa=>⟨rfl,?_⟩⟩
  have x6:=Kp.made npa nda nea kpa
  have xm:=Ext.made (K:=K) (o:=.ins af da []) (o':=.own pa) npa nda nea
  have qP:kM K H6 af pa da c1 c2 c3 yw [] []:=⟨⟨hpa,hc1,hc2,hc3,m13⟩,zP,fun e h=>(by cases h),by decide,by decide +kernel,(show (0:Nat) < 100 by decide)⟩
  have Nm:∀ y∈[pa,c1,c2,c3],new K H5 y:=by
    intro y hy
    simp only [List.mem_cons,List.not_mem_nil,or_false] at hy
    rcases hy with rfl | rfl | rfl | rfl
    · exact npa
    · exact br xm m1
    · exact br xm m2
    · exact br xm m3
  rw [e7]
  try walk_at "rn"
  have Sv:=x5.trans x6
  have Gq:=Dy.ext x5
  have Jl:=Dy.ext Sv
  have Sw:=nA.some
  have nA:=nA.ext x6
  have NJ:∀ y∈[pb,d1,d2,d3],y≠p0:=fun y m=>Dy.ne (nwb y m)
  have NK:∀ y∈[pa,c1,c2,c3],y≠p0:=fun y m=>Gq.ne (Nm y m)
  refine ⟨p0,rfl,Jl,fun ps ss Ws H7 ⟨dps,s1,s2,s3,wss,shs,ens,gds,nws⟩ nbs lDs lJs lWs Fe k7=>?_⟩
  have LA:kM K H7 af ps dps s1 s2 s3 ss wss Ws:=⟨shs,ens,gds,by omega,by have:=sizeLine_eq;omega,by rw [ens.1];omega⟩
  have nA:=nA.kp Jl k7 NJ
  have qP:=qP.kp Jl k7 NK
  have ru:=(ru.ext Sv).kp Jl k7
  have t8:=(t8.ext Sv).kp Jl k7
  have Sx:∀ y∈[ps,s1,s2,s3],y≠p0:=fun y m=>Jl.ne (nws y m)
  have sep:∀ y∈[pa,c1,c2,c3],∀ z∈[pb,d1,d2,d3],y≠z:=fun y hy z hz e=>Sw z hz (by rw [← e];exact (Nm y hy).1)
  have Sy:∀ y∈[pa,c1,c2,c3],y∉[pb,d1,d2]:=fun y hy m=>sep y hy y (List.mem_append_left [d3] m) rfl
  have NL:∀ y∈[pb,d1,d2,d3],y∉[pa,c1,c2]:=fun y hy m=>sep y (List.mem_append_left [c3] m) y hy rfl
  rw [e8]
  try walk_at "rn"
  refine ⟨p0,R,a,b,c,pl,rfl,Fe,ru,fun D bads H8 hD hb hp8 k8=>⟨D,rfl,⟨_,cz.of hD⟩,?_⟩⟩
  have LA:=LA.kp Fe k8 Sx
  have nA:=nA.kp Fe k8 NJ
  have qP:=qP.kp Fe k8 NK
  have ru:=ru.kp Fe k8
  have t8:=t8.kp Fe k8
  refine vj (xs:=bads) (fun i σ H'=>(∃ v7 v8,σ=[some (V.ref sa),some (V.ref p0),some (V.ref R),some (V.ref R2),some (V.ref pb),some (V.ref pa),some (V.ref ps),v7,v8,none,none,none])∧Ext K H8 H') ⟨⟨_,_,rfl⟩,Ext.refl⟩ (fun i σ H' _ h=>h.2.same.seq (cz.of hD)) ?_ ?_
  · rintro i bad σ H9 hi ⟨⟨v7,v8,rfl⟩,x9⟩
    try walk_at "rn"
    intro L nL
    obtain ⟨rl,hrl,no⟩:=hb bad (List.mem_of_getElem? hi)
    have xL:=x9.trans (Ext.new (K:=K) (o:=.lst [V.ref ps,V.ref pa,V.ref pb]) nL)
    have hL:=ai (H:=H9) (a:=L) (o:=.lst [V.ref ps,V.ref pa,V.ref pb])
    generalize upd H9 L (.lst [V.ref ps,V.ref pa,V.ref pb])=HL at xL hL ⊢
    refine ⟨⟨_,cz.of hL⟩,vj (xs:=[V.ref ps,V.ref pa,V.ref pb]) (fun j σ H'=>(∃ v8,σ=[some (V.ref sa),some (V.ref p0),some (V.ref R),some (V.ref R2),some (V.ref pb),some (V.ref pa),some (V.ref ps),some bad,v8,none,none,none])∧Ext K HL H') ⟨⟨_,rfl⟩,Ext.refl⟩ (fun i σ H' _ h=>h.2.same.seq (cz.of hL)) ?_ ?_⟩
    · rintro j one σ HM hj ⟨⟨v8,rfl⟩,xM⟩
      try walk_at "rn"
      have xx:=xL.trans xM
      have m:=List.mem_of_getElem? hj
      have go:∀ {pp dd e1 e2 e3:Addr} {s':Sh} {ws:List Addr} {W:List Ent},one=.ref pp→kM K H8 af pp dd e1 e2 e3 s' ws W→ja K af [one,bad,V.str (Str.ofString "rule")] HM (fun x H1=>∃ c,x=V.bl c∧if (!c)=true then Q (V.bl false) H1 else (∃ v8,some one=v8)∧Ext K HL H1) E0:=fun e sv=>by
        subst e
        exact (sv.ext xx).ref (hrl.ext xx) (.inl ⟨rfl,no⟩) fun HN xN=>⟨_,rfl,gO (by decide) ⟨⟨_,rfl⟩,xM.trans xN⟩⟩
      simp only [List.mem_cons,List.not_mem_nil,or_false] at m
      rcases m with e | e | e
      · exact go e LA
      · exact go e qP
      · exact go e nA
    · rintro σ HM ⟨⟨v8,rfl⟩,xM⟩
      exact ⟨⟨_,_,rfl⟩,xL.trans xM⟩
  · rintro σ H9 ⟨⟨v7,v8,rfl⟩,x9⟩
    have LA:=LA.ext x9
    have nA:=nA.ext x9
    have qP:=qP.ext x9
    have ru:=ru.ext x9
    have t8:=t8.ext x9
    clear x9
    show r9 _ _ _
    rw [e9]
    try walk_at "rn"
    obtain ⟨rr,ok1⟩:=Fi (q:=p0) ru
    refine LA.ref rr (.inr ⟨rfl,ok1,nbs⟩) fun HA xA=>⟨_,rfl,gO (by decide) ?_⟩
    clear LA rr
    have nA:=nA.ext xA
    have qP:=qP.ext xA
    have ru:=ru.ext xA
    have t8:=t8.ext xA
    refine ⟨_,_,qP.sh.ins,gB (by decide +kernel) (by decide +kernel) (by decide +kernel) (by decide +kernel) (by decide +kernel),pa,da,c1,c2,c3,_,[],rfl,qP.sh,by decide,fun g ng l nl=>⟨g,rfl,[],cz.of ((Ext.new nl).at ai),cz.of ai,gO (by decide) ?_⟩⟩
    have xB:=(Ext.new (K:=K) (o:=.lst (List.map V.ref [])) ng).trans (Ext.new (K:=K) (o:=.lst []) nl)
    have nA:=nA.ext xB
    have qP:=qP.ext xB
    have ru:=ru.ext xB
    have t8:=t8.ext xB
    generalize upd (upd HA g (.lst (List.map V.ref []))) l (.lst [])=HB at nA qP ru t8 ⊢
    clear xB xA
    rw [e10]
    try walk_at "rn"
    refine ⟨_,_,nA.sh.ins,gB (by decide +kernel) (by decide +kernel) (by decide +kernel) (by decide +kernel) (by decide +kernel),pb,db,d1,d2,d3,_,[w1,w2],rfl,nA.sh,by simp,fun ah nah=>?_⟩
    have xC:=Ext.new (K:=K) (o:=.lst (List.map V.ref [w1,w2])) nah
    have noa:ah∉[pa,c1,c2]∧ah∉[pb,d1,d2]:=⟨fun m=>qP.some ah (List.mem_append_left [c3] m) nah.1,fun m=>nA.some ah (List.mem_append_left [d3] m) nah.1⟩
    have Mc:=ai (H:=HB) (a:=ah) (o:=.lst (List.map V.ref [w1,w2]))
    have nA:=nA.ext xC
    have qP:=qP.ext xC
    have ru:=ru.ext xC
    have t8:=t8.ext xC
    generalize upd HB ah (.lst (List.map V.ref [w1,w2]))=HC at Mc nA qP ru t8 ⊢
    clear xC
    refine ⟨pa,R,a,b,c,pl,da,c1,c2,c3,yw,[],rfl,ru,qP.sh,rfl,rfl,by decide,fun y1 u0 u1 u2 HD Sz t0 t1 t2 sha kD=>?_⟩
    have Sw:=nA.some
    have P7:=qP.sh.qM
    have nA:=nA.Gs P7 kD NL
    have ru:=ru.Gs P7 kD
    have t8:=t8.Gs P7 kD
    have Mc:=kD.keep ah _ Mc noa.1
    have qP:kM K HD af pa da c1 c2 c3 (yw.begun (bQ a b c pl)) [u0,u1,u2] (Bf a b c pl):=⟨sha,t7 ru t0 t1 t2,zZ ru,(show (2:Nat) < 64 by decide),(show (Str.ofString "").length≤sizeLine by decide +kernel),(show (3:Nat) < 100 by decide)⟩
    clear sha t0 t1 t2 kD P7
    refine ⟨pb,R2,b1,b2,b3,pl2,db,d1,d2,d3,yw,[w1,w2],rfl,t8,nA.sh,rfl,rfl,by simp,fun y2 v0 v1 v2 HE bg2 t0 t1 t2 Mb kE=>?_⟩
    have NO:=nA.sh.qM
    have Sz:=Sz.Gs kE (fun q m=>Sw q (List.mem_append_left [d3] m))
    have qP:=qP.Gs NO kE Sy
    have ru:=ru.Gs NO kE
    have t8:=t8.Gs NO kE
    have Mc:=kE.keep ah _ Mc noa.2
    have ND:=nA.en.keep kE NO
    have nA:kM K HE af pb db d1 d2 d3 (yw.begun (bQ b1 b2 b3 pl2)) ([w1,w2]++[v0,v1,v2]) ([.line (Str.ofString "1 mark"),.blot]++Bf b1 b2 b3 pl2):=⟨Mb,ND.app (t7 t8 t0 t1 t2),fun e he=>by
      rcases List.mem_append.mp he with he | he
      · exact nA.gd e he
      · exact zZ t8 e he,(show (2:Nat) < 64 by decide),(show (Str.ofString "").length≤sizeLine by decide +kernel),(show (5:Nat) < 100 by decide)⟩
    clear Mb t0 t1 t2 kE NO
    show r13 _ _ _
    rw [e13]
    try walk_at "rn"
    have B1:∀ {G:Hp} {L:Addr} {Q E},Ext K HE G→G L=some (.lst [])→(∀ H',Ext K G H'→Q (.bl true) H')→mw K aE af aA av ak [V.ref y1,V.ref pa,V.ref R,V.ref L] G Q E:=fun {G L Q E} x hL k=>⟨HC,y1,pa,R,L,a,b,c,pl,da,c1,c2,c3,yw,[u0,u1,u2],[],[],rfl,Sz.ext x,ru.ext x,(qP.ext x).sh,(qP.ext x).en,hL,zP,by decide,k⟩
    have B2:∀ {G:Hp} {Q E},Ext K HE G→(∀ H',Ext K G H'→Q (.bl true) H')→mw K aE af aA av ak [V.ref y2,V.ref pb,V.ref R2,V.ref ah] G Q E:=fun {G Q E} x k=>⟨HD,y2,pb,R2,ah,b1,b2,b3,pl2,db,d1,d2,d3,yw,[w1,w2]++[v0,v1,v2],[w1,w2],[.line (Str.ofString "1 mark"),.blot],rfl,bg2.ext x,t8.ext x,(nA.ext x).sh,(nA.ext x).en,x.at Mc,ND.ext x,by simp,k⟩
    intro L nL
    have xL:=Ext.new (K:=K) (o:=.lst []) nL
    refine B1 xL ai fun HF xF=>⟨_,rfl,gO (by decide) ?_⟩
    have xF:=xL.trans xF
    refine B2 xF fun HG xG=>⟨_,rfl,gO (by decide) ?_⟩
    have xG:=xF.trans xG
    rw [e14]
    try walk_at "rn"
    obtain ⟨rr2,ok2⟩:=Fi (q:=p0) (t8.ext xG)
    refine (qP.ext xG).ref rr2 (.inr ⟨rfl,ok2,fun z=>by cases z.1⟩) fun HI xI=>⟨_,rfl,gO (by decide) ?_⟩
    have xI:=xG.trans xI
    refine ⟨_,(ru.ext xI).t,fun C3 HJ tC xJ=>?_⟩
    have xJ:=xI.trans xJ
    refine (nA.ext xJ).ref (q:=p0) (rl:=.tp [.num a,.num b,.num c]) ⟨C3,_,rfl,tC,_,_,rfl,rfl,_,_,rfl,rfl,_,_,rfl,rfl,rfl⟩ (.inl ⟨rfl,rfl⟩) fun HK xK=>⟨_,rfl,gO (by decide) ?_⟩
    have xK:=xJ.trans xK
    rw [e15]
    try walk_at "rn"
    intro L2 Lq
    have xL2:=Ext.new (K:=K) (o:=.lst []) Lq
    refine B1 (xK.trans xL2) ai fun HM xM=>?_
    exact ⟨_,rfl,oK rfl (B2 (xK.trans (xL2.trans xM)) fun HN _=>q HN)⟩
end
theorem all_mk {l:PySem.W.OpenLaw} {w:World} {K:PySem.W.Frag} {h:Heap} {mg:Str→Option Value} {fa f1 f2 f3 f4 f5 f6 f7 f8 f9 NP NQ NR NS NT NU NV NW NY NZ P8 P9 Qa Qc Qd Qe Qf Qg N1 Qh Qi Qj Qk N2 N3 Ql N4 Qm N5 Qn Qo Qp Qq Qs Qt Qu N6 Qv Qw Qx Qy SD:Addr} {od1 an1 od2 an2 od3 an3 od4 an4 od5 an5 od6 an6 od7 an7 od8 an8 od9 an9 SE SG SH SI SJ SK SN SO SQ SR SS SV SW SX SY S1 S2 S3 S4 S5 S6 S7 S8 S9 Tc Td Te Tf Tg Ti Tj Tn To Tp Tq Tr Tt Tu Tv Tw Tz TF TH TJ TL TM TN TQ TR TU TV TX TY TZ T3 T4 T5 T6 T7 Ua Ub Uc Ud Ue Ug Uh Ui Uj Uk Ul Um Uo Up Uq Ur Us Ut Uu Uv Uw Ux Uy Uz N7:Option Addr} {sl1 LQ sl3 sl4 sl5 sl6 sl7 sl8 sl9 UA UB UC UD UE UG UH UI UJ UK UL UM UN UO UP UQ UR US UT UU UW UX UY UZ U0 U1 U3 U4 U5 U6 U7 U8 U9 Va Vb Vc Vd Ve Vf Vg Vh Vi:Array (Option Value)} {oc1 kV1 dc1 pm1 cd1 ct1 oc2 kV2 dc2 pm2 cd2 ct2 oc3 kV3 dc3 pm3 cd3 ct3 oc4 kV4 dc4 pm4 cd4 ct4 oc5 kV5 dc5 pm5 cd5 ct5 oc6 kV6 dc6 pm6 cd6 ct6 oc7 kV7 dc7 pm7 cd7 ct7 oc8 kV8 dc8 pm8 cd8 ct8 oc9 kV9 dc9 pm9 cd9 ct9 Vj Vk Vl Vm N8 Vn Vo Vp Vq Vr N9 Vs Vt Vu Vv Vw Oa Vx Vy Vz VA VB Ob VC VD VE VF VG Oc VH VI VJ VL VM Od VN VO VP VQ VR Oe VS VT VU VV VW Of VX VY VZ V0 V1 Og V2 V3 V4 V5 V6 Oh V7 V8 V9 Wa Wb Oi Wc Wd We Wf Wg Oj Wh Wi Wj Wk Wm Ol Wn Wo Wq Wr Wt Om Wu Wv Ww Wx Wy Oo Wz WA WB WC WD Oq WE WG WH WI WJ Ot WK WL WM WN WO Ou WQ WR WS WT WU Ov WV WW WX WY WZ Ow W0 W2 W3 W5 W6 Ox W7 W8 W9 Xa Xb Oz Xc Xd Xe Xf Xg OA Xh Xi Xj Xk Xl OB Xm Xn Xo Xp Xq OC Xr Xs Xu Xv Xw OD Xx Xy Xz XA XC OE XD XE XF XG XH OF XI XJ XM XN XO OG XQ XS XU XW XX OH XY XZ X0 X3 X4 OI X5 X6 X7 X8 Yb OJ Yc Yd Ye Yg Yh OL Yi Yj Yk Yl Ym OM Yn Yo Yp Yq Yr ON Ys Yt Yu Yv Yw OO Yx Yy Yz YA YB OP YC YD YE YF YG OQ YH YI YJ YK YL OR YM YN YO YQ YR OS YS YT YU YV YW OT YX YY OU OV OW LB OX:Value} {tE:Tok} {t1:Tok} {t2:Tok} {t3:Tok} {t4:Tok} {tP:Tok} {tQ:Tok} {aP:Addr} {cF:Addr} {cR:Addr} {cB:Addr} {ak:Addr} {aq:Addr} {av:Addr} {aA:Addr} {aE:Addr} {af:Addr} {dP:Option Addr} {u1 u2:Tok} {nP:Nat} {slP:Array (Option Value)} {coR:Value} {doR:Option Addr} {cdR:ClassData} {slR:Array (Option Value)} {coB:Value} {doB:Option Addr} {cdB:ClassData} {slB:Array (Option Value)} (X:K.In h) (G:h.Ns mainGlobals mg) (hfa:mg "law"=some (.ref fa))
    (gJ:PySem.W.findIn K (.ref ak) "number"=some none)
    (iJ:PySem.W.findIn K (.ref ak) "rows"=some none)
    (xZ:PySem.W.plainGet K ak Str.empty=true) (x8:PySem.W.hasDictIn K ak=true) (ya:PySem.W.plainOver K ak=true) (yb:PySem.W.findIn K (.ref ak) "__setattr__"=some (some (.builtin "object.__setattr__")))
    (yc:PySem.W.makesIn K ak=true) (yd:PySem.W.keepIn K (.ref ak)=true)
    (gK:PySem.W.findIn K (.ref av) "fresh"=some none)
    (g8:PySem.W.findIn K (.ref av) "kept"=some none)
    (jB:PySem.W.findIn K (.ref av) "rule"=some none)
    (iK:PySem.W.findIn K (.ref av) "top"=some none)
    (jb:PySem.W.findIn K (.ref av) "trail"=some none)
    (t9:PySem.W.plainGet K av Str.empty=true) (ua:PySem.W.hasDictIn K av=true) (uc:PySem.W.plainOver K av=true) (ud:PySem.W.findIn K (.ref av) "__setattr__"=some (some (.builtin "object.__setattr__")))
    (ue:PySem.W.makesIn K av=true) (uf:PySem.W.keepIn K (.ref av)=true)
    (eU:PySem.W.findIn K (.ref aA) "house"=some none)
    (g9:PySem.W.findIn K (.ref aA) "last"=some none)
    (fJ:PySem.W.findIn K (.ref aA) "rule"=some none)
    (jC:PySem.W.findIn K (.ref aA) "runs"=some none)
    (ug:PySem.W.plainGet K aA Str.empty=true) (uh:PySem.W.hasDictIn K aA=true) (um:PySem.W.plainOver K aA=true) (uo:PySem.W.findIn K (.ref aA) "__setattr__"=some (some (.builtin "object.__setattr__")))
    (uq:PySem.W.makesIn K aA=true) (ur:PySem.W.keepIn K (.ref aA)=true)
    (eV:PySem.W.findIn K (.ref af) "diary"=some none)
    (eW:PySem.W.findIn K (.ref af) "first_diary"=some none)
    (eB:PySem.W.findIn K (.ref af) "first_sheets"=some none)
    (dB:PySem.W.findIn K (.ref af) "sheets"=some none)
    (d7:PySem.W.findIn K (.ref af) "writes"=some none)
    (mz:PySem.W.plainGet K af Str.empty=true) (mC:PySem.W.hasDictIn K af=true) (mE:PySem.W.plainOver K af=true) (mF:PySem.W.findIn K (.ref af) "__setattr__"=some (some (.builtin "object.__setattr__")))
    (uu:PySem.W.makesIn K af=true) (uv:PySem.W.keepIn K (.ref af)=true)
    (gM:PySem.W.findIn K (.ref aE) "series"=some none)
    (ef:PySem.W.findIn K (.ref aE) "shelf"=some none)
    (eX:PySem.W.findIn K (.ref aE) "stands"=some none)
    (fK:PySem.W.findIn K (.ref aE) "store"=some none)
    (ye:PySem.W.plainGet K aE Str.empty=true) (yf:PySem.W.hasDictIn K aE=true) (yg:PySem.W.plainOver K aE=true) (yh:PySem.W.findIn K (.ref aE) "__setattr__"=some (some (.builtin "object.__setattr__")))
    (yi:PySem.W.makesIn K aE=true) (yj:PySem.W.keepIn K (.ref aE)=true)
    (a1:PySem.W.nsIn K mainGlobals "is_number"=some (some (.ref f1))) (l1:K.lookup f1=some ⟨oc1,od1,.func (PySem.W.fnOf "is_number" "is_number" (aF fY) (au fY) (aj fY) .none kV1 dc1 pm1 an1 cd1 ct1),sl1⟩) (c1:PySem.W.codeIn K cd1 "is_number"=true) (k1:PySem.W.keepIn K (.ref f1)=true)
    (a2:PySem.W.nsIn K mainGlobals "is_whole"=some (some (.ref f2))) (l2:K.lookup f2=some ⟨oc2,od2,.func (PySem.W.fnOf "is_whole" "is_whole" (aF gW) (au gW) (aj gW) .none kV2 dc2 pm2 an2 cd2 ct2),LQ⟩) (c2:PySem.W.codeIn K cd2 "is_whole"=true) (k2:PySem.W.keepIn K (.ref f2)=true)
    (a3:PySem.W.nsIn K mainGlobals "is_plan"=some (some (.ref f3))) (l3:K.lookup f3=some ⟨oc3,od3,.func (PySem.W.fnOf "is_plan" "is_plan" (aF iQ) (au iQ) (aj iQ) .none kV3 dc3 pm3 an3 cd3 ct3),sl3⟩) (c3:PySem.W.codeIn K cd3 "is_plan"=true) (k3:PySem.W.keepIn K (.ref f3)=true)
    (a4:PySem.W.nsIn K mainGlobals "is_rule"=some (some (.ref f4))) (l4:K.lookup f4=some ⟨oc4,od4,.func (PySem.W.fnOf "is_rule" "is_rule" (aF iR) (au iR) (aj iR) .none kV4 dc4 pm4 an4 cd4 ct4),sl4⟩) (c4:PySem.W.codeIn K cd4 "is_rule"=true) (k4:PySem.W.keepIn K (.ref f4)=true)
    (i5:PySem.W.findIn K (.ref ak) "__init__"=some (some (.ref f5))) (l5:K.lookup f5=some ⟨oc5,od5,.func (PySem.W.fnOf "__init__" "Leaf.__init__" (aF dc) (au dc) (aj dc) .none kV5 dc5 pm5 an5 cd5 ct5),sl5⟩) (c5:PySem.W.codeIn K cd5 "Leaf.__init__"=true) (k5:PySem.W.keepIn K (.ref f5)=true) (n5:PySem.W.isFn K (.ref f5)=true)
    (i6:PySem.W.findIn K (.ref av) "__init__"=some (some (.ref f6))) (l6:K.lookup f6=some ⟨oc6,od6,.func (PySem.W.fnOf "__init__" "House.__init__" (aF cO) (au cO) (aj cO) .none kV6 dc6 pm6 an6 cd6 ct6),sl6⟩) (c6:PySem.W.codeIn K cd6 "House.__init__"=true) (k6:PySem.W.keepIn K (.ref f6)=true) (n6:PySem.W.isFn K (.ref f6)=true)
    (a7:PySem.W.nsIn K mainGlobals "new_house"=some (some (.ref f7))) (l7:K.lookup f7=some ⟨oc7,od7,.func (PySem.W.fnOf "new_house" "new_house" (aF gg) (au gg) (aj gg) .none kV7 dc7 pm7 an7 cd7 ct7),sl7⟩) (c7:PySem.W.codeIn K cd7 "new_house"=true) (k7:PySem.W.keepIn K (.ref f7)=true)
    (i8:PySem.W.findIn K (.ref aA) "__init__"=some (some (.ref f8))) (l8:K.lookup f8=some ⟨oc8,od8,.func (PySem.W.fnOf "__init__" "Store.__init__" (aF cQ) (au cQ) (aj cQ) .none kV8 dc8 pm8 an8 cd8 ct8),sl8⟩) (c8:PySem.W.codeIn K cd8 "Store.__init__"=true) (k8:PySem.W.keepIn K (.ref f8)=true) (n8:PySem.W.isFn K (.ref f8)=true)
    (a9:PySem.W.nsIn K mainGlobals "signs_of"=some (some (.ref f9))) (l9:K.lookup f9=some ⟨oc9,od9,.func (PySem.W.fnOf "signs_of" "signs_of" (aF gY) (au gY) (aj gY) .none kV9 dc9 pm9 an9 cd9 ct9),sl9⟩) (c9:PySem.W.codeIn K cd9 "signs_of"=true) (k9:PySem.W.keepIn K (.ref f9)=true)
    (YZ:PySem.W.findIn K (.ref af) "__init__"=some (some (.ref NP))) (Y0:K.lookup NP=some ⟨Vj,SE,.func (PySem.W.fnOf "__init__" "Shelf.__init__" (aF cS) (au cS) (aj cS) .none Vk Vl Vm SG N8 Vn),UA⟩) (Y3:PySem.W.codeIn K N8 "Shelf.__init__"=true) (Y4:PySem.W.keepIn K (.ref NP)=true) (Y5:PySem.W.isFn K (.ref NP)=true)
    (Y6:PySem.W.findIn K (.ref af) "carry_out"=some (some (.ref NQ))) (Y7:K.lookup NQ=some ⟨Vo,SH,.func (PySem.W.fnOf "carry_out" "Shelf.carry_out" (aF cy) (au cy) (aj cy) .none Vp Vq Vr SI N9 Vs),UB⟩) (Y8:PySem.W.codeIn K N9 "Shelf.carry_out"=true) (Qz:PySem.W.keepIn K (.ref NQ)=true) (Y9:PySem.W.isFn K (.ref NQ)=true)
    (i12:PySem.W.findIn K (.ref af) "put_down"=some (some (.ref NR))) (Za:K.lookup NR=some ⟨Vt,SJ,.func (PySem.W.fnOf "put_down" "Shelf.put_down" (aF cT) (au cT) (aj cT) .none Vu Vv Vw SK Oa Vx),UC⟩) (Zb:PySem.W.codeIn K Oa "Shelf.put_down"=true) (QA:PySem.W.keepIn K (.ref NR)=true) (PL:PySem.W.isFn K (.ref NR)=true)
    (Zc:PySem.W.findIn K (.ref af) "line"=some (some (.ref NS))) (PJ:K.lookup NS=some ⟨Vy,SN,.func (PySem.W.fnOf "line" "Shelf.line" (aF fh) (au fh) (aj fh) .none Vz VA VB SO Ob VC),UD⟩) (Zd:PySem.W.codeIn K Ob "Shelf.line"=true) (QB:PySem.W.keepIn K (.ref NS)=true) (Aa:PySem.W.isFn K (.ref NS)=true)
    (Ze:PySem.W.findIn K (.ref af) "blot"=some (some (.ref NT))) (Zf:K.lookup NT=some ⟨VD,SQ,.func (PySem.W.fnOf "blot" "Shelf.blot" (aF fj) (au fj) (aj fj) .none VE VF VG SR Oc VH),UE⟩) (Zg:PySem.W.codeIn K Oc "Shelf.blot"=true) (QC:PySem.W.keepIn K (.ref NT)=true) (Zh:PySem.W.isFn K (.ref NT)=true)
    (Zi:PySem.W.findIn K (.ref af) "write"=some (some (.ref NU))) (Zj:K.lookup NU=some ⟨VI,SS,.func (PySem.W.fnOf "write" "Shelf.write" (aF ee) (au ee) (aj ee) .none VJ VL VM SV Od VN),UG⟩) (Zk:PySem.W.codeIn K Od "Shelf.write"=true) (QD:PySem.W.keepIn K (.ref NU)=true) (Zl:PySem.W.isFn K (.ref NU)=true)
    (Zm:PySem.W.findIn K (.ref af) "journal"=some (some (.ref NV))) (Zn:K.lookup NV=some ⟨VO,SW,.func (PySem.W.fnOf "journal" "Shelf.journal" (aF dm) (au dm) (aj dm) .none VP VQ VR SX Oe VS),UH⟩) (Zo:PySem.W.codeIn K Oe "Shelf.journal"=true) (QE:PySem.W.keepIn K (.ref NV)=true) (Zp:PySem.W.isFn K (.ref NV)=true)
    (Zq:PySem.W.findIn K (.ref af) "log"=some (some (.ref NW))) (Zr:K.lookup NW=some ⟨VT,SY,.func (PySem.W.fnOf "log" "Shelf.log" (aF gm) (au gm) (aj gm) .none VU VV VW S1 Of VX),UI⟩) (Zs:PySem.W.codeIn K Of "Shelf.log"=true) (QF:PySem.W.keepIn K (.ref NW)=true) (Zt:PySem.W.isFn K (.ref NW)=true)
    (Zu:PySem.W.findIn K (.ref af) "page"=some (some (.ref NY))) (Zv:K.lookup NY=some ⟨VY,S2,.func (PySem.W.fnOf "page" "Shelf.page" (aF fk) (au fk) (aj fk) .none VZ V0 V1 S3 Og V2),UJ⟩) (Zw:PySem.W.codeIn K Og "Shelf.page"=true) (QG:PySem.W.keepIn K (.ref NY)=true) (Zx:PySem.W.isFn K (.ref NY)=true)
    (Zy:PySem.W.findIn K (.ref af) "places"=some (some (.ref NZ))) (Zz:K.lookup NZ=some ⟨V3,S4,.func (PySem.W.fnOf "places" "Shelf.places" (aF dN) (au dN) (aj dN) .none V4 V5 V6 S5 Oh V7),UK⟩) (ZA:PySem.W.codeIn K Oh "Shelf.places"=true) (QH:PySem.W.keepIn K (.ref NZ)=true) (ZC:PySem.W.isFn K (.ref NZ)=true)
    (ZD:PySem.W.nsIn K mainGlobals "figures_of"=some (some (.ref P8))) (ZE:K.lookup P8=some ⟨V8,S6,.func (PySem.W.fnOf "figures_of" "figures_of" (aF eZ) (au eZ) (aj eZ) .none V9 Wa Wb S7 Oi Wc),UL⟩) (ZF:PySem.W.codeIn K Oi "figures_of"=true) (QI:PySem.W.keepIn K (.ref P8)=true)
    (ZG:PySem.W.nsIn K mainGlobals "list_text"=some (some (.ref P9))) (ZH:K.lookup P9=some ⟨Wd,S8,.func (PySem.W.fnOf "list_text" "list_text" (aF fZ) (au fZ) (aj fZ) .none We Wf Wg S9 Oj Wh),UM⟩) (ZI:PySem.W.codeIn K Oj "list_text"=true) (QJ:PySem.W.keepIn K (.ref P9)=true)
    (ZJ:PySem.W.nsIn K mainGlobals "numbers_text"=some (some (.ref Qa))) (ZK:K.lookup Qa=some ⟨Wi,Tc,.func (PySem.W.fnOf "numbers_text" "numbers_text" (aF dM) (au dM) (aj dM) .none Wj Wk Wm Td Ol Wn),UN⟩) (ZL:PySem.W.codeIn K Ol "numbers_text"=true) (QK:PySem.W.keepIn K (.ref Qa)=true)
    (ZM:PySem.W.nsIn K mainGlobals "rule_text"=some (some (.ref Qc))) (ZN:K.lookup Qc=some ⟨Wo,Te,.func (PySem.W.fnOf "rule_text" "rule_text" (aF gc) (au gc) (aj gc) .none Wq Wr Wt Tf Om Wu),UO⟩) (ZO:PySem.W.codeIn K Om "rule_text"=true) (QL:PySem.W.keepIn K (.ref Qc)=true)
    (ZP:PySem.W.nsIn K mainGlobals "head_text"=some (some (.ref Qd))) (ZQ:K.lookup Qd=some ⟨Wv,Tg,.func (PySem.W.fnOf "head_text" "head_text" (aF gf) (au gf) (aj gf) .none Ww Wx Wy Ti Oo Wz),UP⟩) (ZR:PySem.W.codeIn K Oo "head_text"=true) (QM:PySem.W.keepIn K (.ref Qd)=true)
    (ZS:PySem.W.nsIn K mainGlobals "row_text"=some (some (.ref Qe))) (ZU:K.lookup Qe=some ⟨WA,Tj,.func (PySem.W.fnOf "row_text" "row_text" (aF i0) (au i0) (aj i0) .none WB WC WD Tn Oq WE),UQ⟩) (ZV:PySem.W.codeIn K Oq "row_text"=true) (QN:PySem.W.keepIn K (.ref Qe)=true)
    (ZW:PySem.W.nsIn K mainGlobals "page_of"=some (some (.ref Qf))) (ZX:K.lookup Qf=some ⟨WG,To,.func (PySem.W.fnOf "page_of" "page_of" (aF iS) (au iS) (aj iS) .none WH WI WJ Tp Ot WK),UR⟩) (ZY:PySem.W.codeIn K Ot "page_of"=true) (QO:PySem.W.keepIn K (.ref Qf)=true)
    (ZZ:PySem.W.nsIn K mainGlobals "room_text"=some (some (.ref Qg))) (Z0:K.lookup Qg=some ⟨WL,Tq,.func (PySem.W.fnOf "room_text" "room_text" (aF gb) (au gb) (aj gb) .none WM WN WO Tr Ou WQ),US⟩) (Z2:PySem.W.codeIn K Ou "room_text"=true) (QS:PySem.W.keepIn K (.ref Qg)=true)
    (Z3:PySem.W.findIn K (.ref aA) "marks"=some (some (.ref N1))) (Z4:K.lookup N1=some ⟨WR,Tt,.func (PySem.W.fnOf "marks" "Store.marks" (aF d8) (au d8) (aj d8) .none WS WT WU Tu Ov WV),UT⟩) (Z5:PySem.W.codeIn K Ov "Store.marks"=true) (QT:PySem.W.keepIn K (.ref N1)=true) (Z6:PySem.W.isFn K (.ref N1)=true)
    (Z7:PySem.W.nsIn K mainGlobals "own_rows"=some (some (.ref Qh))) (Z8:K.lookup Qh=some ⟨WW,Tv,.func (PySem.W.fnOf "own_rows" "own_rows" (aF gX) (au gX) (aj gX) .none WX WY WZ Tw Ow W0),UU⟩) (Z9:PySem.W.codeIn K Ow "own_rows"=true) (QU:PySem.W.keepIn K (.ref Qh)=true)
    (a30:PySem.W.nsIn K mainGlobals "room_told"=some (some (.ref Qi))) (l30:K.lookup Qi=some ⟨W2,Tz,.func (PySem.W.fnOf "room_told" "room_told" (aF gj) (au gj) (aj gj) .none W3 W5 W6 TF Ox W7),UW⟩) (c30:PySem.W.codeIn K Ox "room_told"=true) (QV:PySem.W.keepIn K (.ref Qi)=true)
    (a31:PySem.W.nsIn K mainGlobals "all_rooms"=some (some (.ref Qj))) (l31:K.lookup Qj=some ⟨W8,TH,.func (PySem.W.fnOf "all_rooms" "all_rooms" (aF gi) (au gi) (aj gi) .none W9 Xa Xb TJ Oz Xc),UX⟩) (c31:PySem.W.codeIn K Oz "all_rooms"=true) (QW:PySem.W.keepIn K (.ref Qj)=true)
    (a32:PySem.W.nsIn K mainGlobals "roll_of"=some (some (.ref Qk))) (l32:K.lookup Qk=some ⟨Xd,TL,.func (PySem.W.fnOf "roll_of" "roll_of" (aF iT) (au iT) (aj iT) .none Xe Xf Xg TM OA Xh),UY⟩) (c32:PySem.W.codeIn K OA "roll_of"=true) (QX:PySem.W.keepIn K (.ref Qk)=true)
    (i33:PySem.W.findIn K (.ref aA) "image"=some (some (.ref N2))) (l33:K.lookup N2=some ⟨Xi,TN,.func (PySem.W.fnOf "image" "Store.image" (aF d9) (au d9) (aj d9) .none Xj Xk Xl TQ OB Xm),UZ⟩) (c33:PySem.W.codeIn K OB "Store.image"=true) (QY:PySem.W.keepIn K (.ref N2)=true) (n33:PySem.W.isFn K (.ref N2)=true)
    (i34:PySem.W.findIn K (.ref aE) "__init__"=some (some (.ref N3))) (l34:K.lookup N3=some ⟨Xn,TR,.func (PySem.W.fnOf "__init__" "Kept.__init__" (aF dj) (au dj) (aj dj) .none Xo Xp Xq TU OC Xr),U0⟩) (c34:PySem.W.codeIn K OC "Kept.__init__"=true) (k34:PySem.W.keepIn K (.ref N3)=true) (n34:PySem.W.isFn K (.ref N3)=true)
    (a35:PySem.W.nsIn K mainGlobals "children_told"=some (some (.ref Ql))) (l35:K.lookup Ql=some ⟨Xs,TV,.func (PySem.W.fnOf "children_told" "children_told" (aF dg) (au dg) (aj dg) .none Xu Xv Xw TX OD Xx),U1⟩) (c35:PySem.W.codeIn K OD "children_told"=true) (Gr:PySem.W.keepIn K (.ref Ql)=true)
    (i36:PySem.W.findIn K (.ref aE) "standing_place"=some (some (.ref N4))) (l36:K.lookup N4=some ⟨Xy,TY,.func (PySem.W.fnOf "standing_place" "Kept.standing_place" (aF bE) (au bE) (aj bE) .none Xz XA XC TZ OE XD),U3⟩) (c36:PySem.W.codeIn K OE "Kept.standing_place"=true) (QZ:PySem.W.keepIn K (.ref N4)=true) (n36:PySem.W.isFn K (.ref N4)=true)
    (a37:PySem.W.nsIn K mainGlobals "free_place"=some (some (.ref Qm))) (l37:K.lookup Qm=some ⟨XE,T3,.func (PySem.W.fnOf "free_place" "free_place" (aF fc) (au fc) (aj fc) .none XF XG XH T4 OF XI),U4⟩) (c37:PySem.W.codeIn K OF "free_place"=true) (Q0:PySem.W.keepIn K (.ref Qm)=true)
    (i38:PySem.W.findIn K (.ref aE) "write_head"=some (some (.ref N5))) (l38:K.lookup N5=some ⟨XJ,T5,.func (PySem.W.fnOf "write_head" "Kept.write_head" (aF cu) (au cu) (aj cu) .none XM XN XO T6 OG XQ),U5⟩) (c38:PySem.W.codeIn K OG "Kept.write_head"=true) (Q2:PySem.W.keepIn K (.ref N5)=true) (n38:PySem.W.isFn K (.ref N5)=true)
    (a39:PySem.W.nsIn K mainGlobals "_law_cell_at"=some (some (.ref Qn))) (l39:K.lookup Qn=some ⟨XS,T7,.func (PySem.W.fnOf "_law_cell_at" "_law_cell_at" (aF dQ) (au dQ) (aj dQ) .none XU XW XX Ua OH XY),U6⟩) (c39:PySem.W.codeIn K OH "_law_cell_at"=true) (Q3:PySem.W.keepIn K (.ref Qn)=true)
    (a40:PySem.W.nsIn K mainGlobals "_law_digit"=some (some (.ref Qo))) (l40:K.lookup Qo=some ⟨XZ,Ub,.func (PySem.W.fnOf "_law_digit" "_law_digit" (aF fm) (au fm) (aj fm) .none X0 X3 X4 Uc OI X5),U7⟩) (c40:PySem.W.codeIn K OI "_law_digit"=true) (Q4:PySem.W.keepIn K (.ref Qo)=true)
    (a41:PySem.W.nsIn K mainGlobals "_law_rule"=some (some (.ref Qp))) (l41:K.lookup Qp=some ⟨X6,Ud,.func (PySem.W.fnOf "_law_rule" "_law_rule" (aF gq) (au gq) (aj gq) .none X7 X8 Yb Ue OJ Yc),U8⟩) (c41:PySem.W.codeIn K OJ "_law_rule"=true) (Q5:PySem.W.keepIn K (.ref Qp)=true)
    (a42:PySem.W.nsIn K mainGlobals "_law_page"=some (some (.ref Qq))) (l42:K.lookup Qq=some ⟨Yd,Ug,.func (PySem.W.fnOf "_law_page" "_law_page" (aF gr) (au gr) (aj gr) .none Ye Yg Yh Uh OL Yi),U9⟩) (c42:PySem.W.codeIn K OL "_law_page"=true) (Q6:PySem.W.keepIn K (.ref Qq)=true)
    (a43:PySem.W.nsIn K mainGlobals "_law_due"=some (some (.ref Qs))) (l43:K.lookup Qs=some ⟨Yj,Ui,.func (PySem.W.fnOf "_law_due" "_law_due" (aF gZ) (au gZ) (aj gZ) .none Yk Yl Ym Uj OM Yn),Va⟩) (c43:PySem.W.codeIn K OM "_law_due"=true) (Q7:PySem.W.keepIn K (.ref Qs)=true)
    (a44:PySem.W.nsIn K mainGlobals "_law_not_bare"=some (some (.ref Qt))) (l44:K.lookup Qt=some ⟨Yo,Uk,.func (PySem.W.fnOf "_law_not_bare" "_law_not_bare" (aF bP) (au bP) (aj bP) .none Yp Yq Yr Ul ON Ys),Vb⟩) (c44:PySem.W.codeIn K ON "_law_not_bare"=true) (Q8:PySem.W.keepIn K (.ref Qt)=true)
    (Q9:PySem.W.nsIn K mainGlobals "_law_alike"=some (some (.ref Qu))) (l45:K.lookup Qu=some ⟨Yt,Um,.func (PySem.W.fnOf "_law_alike" "_law_alike" (aF dD) (au dD) (aj dD) .none Yu Yv Yw Uo OO Yx),Vc⟩) (c45:PySem.W.codeIn K OO "_law_alike"=true) (OY:PySem.W.keepIn K (.ref Qu)=true)
    (i46:PySem.W.findIn K (.ref aE) "settle"=some (some (.ref N6))) (l46:K.lookup N6=some ⟨Yy,Up,.func (PySem.W.fnOf "settle" "Kept.settle" (aF bM) (au bM) (aj bM) .none Yz YA YB Uq OP YC),Vd⟩) (c46:PySem.W.codeIn K OP "Kept.settle"=true) (Ra:PySem.W.keepIn K (.ref N6)=true) (n46:PySem.W.isFn K (.ref N6)=true)
    (a47:PySem.W.nsIn K mainGlobals "begin"=some (some (.ref Qv))) (l47:K.lookup Qv=some ⟨YD,Ur,.func (PySem.W.fnOf "begin" "begin" (aF mR) (au mR) (aj mR) .none YE YF YG Us OQ YH),Ve⟩) (c47:PySem.W.codeIn K OQ "begin"=true) (Rb:PySem.W.keepIn K (.ref Qv)=true)
    (a48:PySem.W.nsIn K mainGlobals "_law_refused"=some (some (.ref Qw))) (l48:K.lookup Qw=some ⟨YI,Ut,.func (PySem.W.fnOf "_law_refused" "_law_refused" (aF dR) (au dR) (aj dR) .none YJ YK YL Uu OR YM),Vf⟩) (c48:PySem.W.codeIn K OR "_law_refused"=true) (Rc:PySem.W.keepIn K (.ref Qw)=true)
    (a49:PySem.W.nsIn K mainGlobals "_law_no_rules"=some (some (.ref Qx))) (l49:K.lookup Qx=some ⟨YN,Uv,.func (PySem.W.fnOf "_law_no_rules" "_law_no_rules" (aF aR) (au aR) (aj aR) .none YO YQ YR Uw OS YS),Vg⟩) (c49:PySem.W.codeIn K OS "_law_no_rules"=true) (Rf:PySem.W.keepIn K (.ref Qx)=true)
    (a50:PySem.W.nsIn K mainGlobals "_law_begun"=some (some (.ref Qy))) (l50:K.lookup Qy=some ⟨YT,Ux,.func (PySem.W.fnOf "_law_begun" "_law_begun" (aF bN) (au bN) (aj bN) .none YU YV YW Uy OT YX),Vh⟩) (c50:PySem.W.codeIn K OT "_law_begun"=true) (Rg:PySem.W.keepIn K (.ref Qy)=true)
    (a51:PySem.W.nsIn K mainGlobals "law"=some (some (.ref SD))) (l51:K.lookup SD=some ⟨YY,Uz,.func (PySem.W.fnOf "law" "law" (aF ia) (au ia) (aj ia) .none OU OV OW N7 LB OX),Vi⟩) (c51:PySem.W.codeIn K LB "law"=true) (k51:PySem.W.keepIn K (.ref SD)=true)
    (Fj:PySem.W.nsIn K mainGlobals "len"=some none)
    (kN:PySem.W.nsIn K mainGlobals "isinstance"=some none)
    (Fl:PySem.W.nsIn K mainGlobals "int"=some none)
    (Bg:PySem.W.nsIn K mainGlobals "bool"=some none)
    (Fo:PySem.W.nsIn K mainGlobals "str"=some none)
    (yl:PySem.W.nsIn K mainGlobals "tuple"=some none)
    (Bh:PySem.W.nsIn K mainGlobals "list"=some none)
    (ym:PySem.W.nsIn K mainGlobals "range"=some none)
    (Fp:PySem.W.nsIn K mainGlobals "max"=some none)
    (Fq:PySem.W.nsIn K mainGlobals "min"=some none)
    (uw:PySem.W.nsIn K mainGlobals "sorted"=some none)
    (Bj:PySem.W.nsIn K mainGlobals "dict"=some none)
    (Ft:PySem.W.nsIn K mainGlobals "all"=some none)
    (Fv:PySem.W.nsIn K mainGlobals "zip"=some none)
    (oh:PySem.W.nsIn K mainGlobals "reversed"=some none)
    (kO:PySem.W.nsIn K mainGlobals "ValueError"=some none)
    (Fw:PySem.W.nsIn K mainGlobals "END"=some (some (.int 1000000000000 tE)))
    (mG:PySem.W.nsIn K mainGlobals "MOST_TRAY"=some (some (.int 64 t1)))
    (mH:PySem.W.nsIn K mainGlobals "LEAST_FAN"=some (some (.int 3 t2)))
    (oi:PySem.W.nsIn K mainGlobals "MOST_FAN"=some (some (.int 16 t3)))
    (mJ:PySem.W.nsIn K mainGlobals "MOST_ROWS"=some (some (.int 64 t4)))
    (kQ:PySem.W.nsIn K mainGlobals "MOST_PLACE"=some (some (.int 1000000 tP)))
    (jD:PySem.W.nsIn K mainGlobals "FIRST_PLACE"=some (some (.int 2 tQ)))
    (yo:PySem.W.nsIn K mainGlobals "PLANS"=some (some (.ref aP)))
    (mK:PySem.W.nsIn K mainGlobals "FallError"=some (some (.ref cF)))
    (ux:PySem.W.nsIn K mainGlobals "NoRule"=some (some (.ref cR)))
    (qt:PySem.W.nsIn K mainGlobals "NotBare"=some (some (.ref cB)))
    (yp:PySem.W.nsIn K mainGlobals "Leaf"=some (some (.ref ak)))
    (yq:PySem.W.nsIn K mainGlobals "Inner"=some (some (.ref aq)))
    (yr:PySem.W.nsIn K mainGlobals "House"=some (some (.ref av)))
    (yt:PySem.W.nsIn K mainGlobals "Store"=some (some (.ref aA)))
    (Bk:PySem.W.nsIn K mainGlobals "Kept"=some (some (.ref aE)))
    (yu:PySem.W.nsIn K mainGlobals "Shelf"=some (some (.ref af)))
    (LC:K.lookup aP=some ⟨.type "tuple",dP,.seq #[.str "fullest" u1,.str "eldest" u2] nP,slP⟩)
    (LD:PySem.W.kitOne K (.ref ak) (.ref ak)=some true)
    (LF:PySem.W.kitOne K (.ref ak) (.ref aq)=some false)
    (Fx:PySem.W.findIn K (.ref ak) "__class__"=some (some (.builtin "object.__class__")))
    (Fy:PySem.W.specialIn K (.builtin "object.__class__") "__get__"=some (some (.builtin "getset_descriptor.__get__")))
    (Fz:PySem.W.takesIn K (.builtin "object.__class__")=some true)
    (FA:PySem.W.mroIn K ak (.type "object")=some true)
    (LG:PySem.W.excIn K cR [.type "ValueError",.type "Exception",.type "BaseException",.type "object"] "ValueError.__new__"=true)
    (FD:PySem.W.findIn K (.ref cR) "__getattribute__"=some (some (.builtin "BaseException.__getattribute__")))
    (FE:PySem.W.findIn K (.ref cR) "__getattr__"=some none)
    (FF:PySem.W.findIn K (.ref cR) "__class__"=some (some (.builtin "object.__class__")))
    (FG:PySem.W.mroIn K cR (.type "object")=some true)
    (FH:PySem.W.mroIn K cR (.type "BaseException")=some true)
    (FI:K.lookup cR=some ⟨coR,doR,.cls cdR,slR⟩)
    (LH:PySem.W.excIn K cB [.type "ValueError",.type "Exception",.type "BaseException",.type "object"] "ValueError.__new__"=true)
    (FJ:PySem.W.findIn K (.ref cB) "__getattribute__"=some (some (.builtin "BaseException.__getattribute__")))
    (FL:PySem.W.findIn K (.ref cB) "__getattr__"=some none)
    (FN:PySem.W.findIn K (.ref cB) "__class__"=some (some (.builtin "object.__class__")))
    (FO:PySem.W.mroIn K cB (.type "object")=some true)
    (FP:PySem.W.mroIn K cB (.type "BaseException")=some true)
    (FQ:K.lookup cB=some ⟨coB,doB,.cls cdB,slB⟩)
    (LI:PySem.W.exmOne K (.ref cR) (.ref cR)=some true)
    (FT:PySem.W.kitOne K (.ref cR) (.ref cB)=some false)
    (FU:PySem.W.kitOne K (.ref cR) (.type "ValueError")=some true)
    (FW:PySem.W.exmOne K (.ref cB) (.ref cR)=some false)
    (FY:PySem.W.exmOne K (.ref cB) (.ref cF)=some true)
    (FZ:PySem.W.kitOne K (.ref cB) (.ref cB)=some true)
    (Ga:PySem.W.kitOne K (.ref cB) (.type "ValueError")=some true):
    ∃ fd:FuncData,(∀ (s:Shared) (v:Value),BindsTo s fd ⟨[v],[]⟩ [("_law_script",v)])∧∀ base:Heap,K.In base→base.Ns mainGlobals mg→aT l.prog w K mg base eK 9 fa fd ["_law_script"] (B6 K):=by
  have e:=hfa.symm.trans (PySem.W.mg_of X G a51)
  cases e
  have B:=(B.mk (PySem.W.mg_none_of X G Fj) (PySem.W.mg_none_of X G kN) (PySem.W.mg_none_of X G Fl) (PySem.W.mg_none_of X G Bg) (PySem.W.mg_none_of X G Fo) (PySem.W.mg_none_of X G yl) (PySem.W.mg_none_of X G Bh) (PySem.W.mg_none_of X G ym) (PySem.W.mg_none_of X G Fp) (PySem.W.mg_none_of X G Fq) (PySem.W.mg_none_of X G uw) (PySem.W.mg_none_of X G Bj) (PySem.W.mg_none_of X G Ft) (PySem.W.mg_none_of X G Fv) (PySem.W.mg_none_of X G oh) (PySem.W.mg_none_of X G kO) (PySem.W.mg_of X G Fw) (PySem.W.mg_of X G mG) (PySem.W.mg_of X G mH) (PySem.W.mg_of X G oi) (PySem.W.mg_of X G mJ) (PySem.W.mg_of X G kQ) (PySem.W.mg_of X G jD) (PySem.W.mg_of X G yo) (PySem.W.mg_of X G mK) (PySem.W.mg_of X G ux) (PySem.W.mg_of X G qt) (PySem.W.mg_of X G yp) (PySem.W.mg_of X G yq) LD LF ⟨Fx,Fy,Fz,FA⟩ (Hs LC (by simp) rfl) ⟨⟨LG⟩,⟨FD,FE,FF,FG,FH,Fy,Fz,by unfold PySem.W.clsIn;rw [FI];rfl⟩,LI,FT,FU⟩ ⟨⟨LH⟩,⟨FJ,FL,FN,FO,FP,Fy,Fz,by unfold PySem.W.clsIn;rw [FQ];rfl⟩,FW,FY,FZ,Ga⟩:B K mg cF cR cB ak aq aP tE t1 t2 t3 t4 tP tQ)
  have F1:=aQ (st:=fY) l1 c1 k1
  have b1:=F1.binds (ps:=["thing"]) fun _ _ _ _ _ _ us hl=>match us,hl with | [_],_=>rfl
  have F2:=aQ (st:=gW) l2 c2 k2
  have b2:=F2.binds (ps:=["thing","low","high"]) fun _ _ _ _ _ _ us hl=>match us,hl with | [_,_,_],_=>rfl
  have F3:=aQ (st:=iQ) l3 c3 k3
  have b3:=F3.binds (ps:=["thing"]) fun _ _ _ _ _ _ us hl=>match us,hl with | [_],_=>rfl
  have F4:=aQ (st:=iR) l4 c4 k4
  have b4:=F4.binds (ps:=["thing"]) fun _ _ _ _ _ _ us hl=>match us,hl with | [_],_=>rfl
  have F5:=aQ (st:=dc) l5 c5 k5
  have b5:=F5.binds (ps:=["self","number","rows"]) fun _ _ _ _ _ _ us hl=>match us,hl with | [_,_,_],_=>rfl
  have F6:=aQ (st:=cO) l6 c6 k6
  have b6:=F6.binds (ps:=["self","rule","kept","fresh","top"]) fun _ _ _ _ _ _ us hl=>match us,hl with | [_,_,_,_,_],_=>rfl
  have F7:=aQ (st:=gg) l7 c7 k7
  have b7:=F7.binds (ps:=["rule"]) fun _ _ _ _ _ _ us hl=>match us,hl with | [_],_=>rfl
  have F8:=aQ (st:=cQ) l8 c8 k8
  have b8:=F8.binds (ps:=["self","rule"]) fun _ _ _ _ _ _ us hl=>match us,hl with | [_,_],_=>rfl
  have F9:=aQ (st:=gY) l9 c9 k9
  have b9:=F9.binds (ps:=["entry"]) fun _ _ _ _ _ _ us hl=>match us,hl with | [_],_=>rfl
  have F10:=aQ (st:=cS) Y0 Y3 Y4
  have b10:=F10.binds (ps:=["self"]) fun _ _ _ _ _ _ us hl=>match us,hl with | [_],_=>rfl
  have F11:=aQ (st:=cy) Y7 Y8 Qz
  have b11:=F11.binds (ps:=["self","entry","signs"]) fun _ _ _ _ _ _ us hl=>match us,hl with | [_,_,_],_=>rfl
  have F12:=aQ (st:=cT) Za Zb QA
  have b12:=F12.binds (ps:=["self","entry"]) fun _ _ _ _ _ _ us hl=>match us,hl with | [_,_],_=>rfl
  have F13:=aQ (st:=fh) PJ Zd QB
  have b13:=F13.binds (ps:=["self","text"]) fun _ _ _ _ _ _ us hl=>match us,hl with | [_,_],_=>rfl
  have F14:=aQ (st:=fj) Zf Zg QC
  have b14:=F14.binds (ps:=["self"]) fun _ _ _ _ _ _ us hl=>match us,hl with | [_],_=>rfl
  have F15:=aQ (st:=ee) Zj Zk QD
  have b15:=F15.binds (ps:=["self","place","text"]) fun _ _ _ _ _ _ us hl=>match us,hl with | [_,_,_],_=>rfl
  have F16:=aQ (st:=dm) Zn Zo QE
  have b16:=F16.binds (ps:=["self"]) fun _ _ _ _ _ _ us hl=>match us,hl with | [_],_=>rfl
  have F17:=aQ (st:=gm) Zr Zs QF
  have b17:=F17.binds (ps:=["self"]) fun _ _ _ _ _ _ us hl=>match us,hl with | [_],_=>rfl
  have F18:=aQ (st:=fk) Zv Zw QG
  have b18:=F18.binds (ps:=["self","place"]) fun _ _ _ _ _ _ us hl=>match us,hl with | [_,_],_=>rfl
  have F19:=aQ (st:=dN) Zz ZA QH
  have b19:=F19.binds (ps:=["self"]) fun _ _ _ _ _ _ us hl=>match us,hl with | [_],_=>rfl
  have F20:=aQ (st:=eZ) ZE ZF QI
  have b20:=F20.binds (ps:=["number"]) fun _ _ _ _ _ _ us hl=>match us,hl with | [_],_=>rfl
  have F21:=aQ (st:=fZ) ZH ZI QJ
  have b21:=F21.binds (ps:=["texts","sign"]) fun _ _ _ _ _ _ us hl=>match us,hl with | [_,_],_=>rfl
  have F22:=aQ (st:=dM) ZK ZL QK
  have b22:=F22.binds (ps:=["numbers"]) fun _ _ _ _ _ _ us hl=>match us,hl with | [_],_=>rfl
  have F23:=aQ (st:=gc) ZN ZO QL
  have b23:=F23.binds (ps:=["rule"]) fun _ _ _ _ _ _ us hl=>match us,hl with | [_],_=>rfl
  have F24:=aQ (st:=gf) ZQ ZR QM
  have b24:=F24.binds (ps:=["head"]) fun _ _ _ _ _ _ us hl=>match us,hl with | [_],_=>rfl
  have F25:=aQ (st:=i0) ZU ZV QN
  have b25:=F25.binds (ps:=["row"]) fun _ _ _ _ _ _ us hl=>match us,hl with | [_],_=>rfl
  have F26:=aQ (st:=iS) ZX ZY QO
  have b26:=F26.binds (ps:=["body"]) fun _ _ _ _ _ _ us hl=>match us,hl with | [_],_=>rfl
  have F27:=aQ (st:=gb) Z0 Z2 QS
  have b27:=F27.binds (ps:=["room","places"]) fun _ _ _ _ _ _ us hl=>match us,hl with | [_,_],_=>rfl
  have F28:=aQ (st:=d8) Z4 Z5 QT
  have b28:=F28.binds (ps:=["self"]) fun _ _ _ _ _ _ us hl=>match us,hl with | [_],_=>rfl
  have F29:=aQ (st:=gX) Z8 Z9 QU
  have b29:=F29.binds (ps:=["rows"]) fun _ _ _ _ _ _ us hl=>match us,hl with | [_],_=>rfl
  have F30:=aQ (st:=gj) l30 c30 QV
  have b30:=F30.binds (ps:=["room"]) fun _ _ _ _ _ _ us hl=>match us,hl with | [_],_=>rfl
  have F31:=aQ (st:=gi) l31 c31 QW
  have b31:=F31.binds (ps:=["top"]) fun _ _ _ _ _ _ us hl=>match us,hl with | [_],_=>rfl
  have F32:=aQ (st:=iT) l32 c32 QX
  have b32:=F32.binds (ps:=["top"]) fun _ _ _ _ _ _ us hl=>match us,hl with | [_],_=>rfl
  have F33:=aQ (st:=d9) l33 c33 QY
  have b33:=F33.binds (ps:=["self"]) fun _ _ _ _ _ _ us hl=>match us,hl with | [_],_=>rfl
  have F34:=aQ (st:=dj) l34 c34 k34
  have b34:=F34.binds (ps:=["self","store","shelf","series","stands"]) fun _ _ _ _ _ _ us hl=>match us,hl with | [_,_,_,_,_],_=>rfl
  have F35:=aQ (st:=dg) l35 c35 Gr
  have b35:=F35.binds (ps:=["room"]) fun _ _ _ _ _ _ us hl=>match us,hl with | [_],_=>rfl
  have F36:=aQ (st:=bE) l36 c36 QZ
  have b36:=F36.binds (ps:=["self","number","body"]) fun _ _ _ _ _ _ us hl=>match us,hl with | [_,_,_],_=>rfl
  have F37:=aQ (st:=fc) l37 c37 Q0
  have b37:=F37.binds (ps:=["taken"]) fun _ _ _ _ _ _ us hl=>match us,hl with | [_],_=>rfl
  have F38:=aQ (st:=cu) l38 c38 Q2
  have b38:=F38.binds (ps:=["self","head"]) fun _ _ _ _ _ _ us hl=>match us,hl with | [_,_],_=>rfl
  have F39:=aQ (st:=dQ) l39 c39 Q3
  have b39:=F39.binds (ps:=["_law_script","_law_k"]) fun _ _ _ _ _ _ us hl=>match us,hl with | [_,_],_=>rfl
  have F40:=aQ (st:=fm) l40 c40 Q4
  have b40:=F40.binds (ps:=["_law_state","_law_base"]) fun _ _ _ _ _ _ us hl=>match us,hl with | [_,_],_=>rfl
  have F41:=aQ (st:=gq) l41 c41 Q5
  have b41:=F41.binds (ps:=["_law_state"]) fun _ _ _ _ _ _ us hl=>match us,hl with | [_],_=>rfl
  have F42:=aQ (st:=gr) l42 c42 Q6
  have b42:=F42.binds (ps:=["_law_body"]) fun _ _ _ _ _ _ us hl=>match us,hl with | [_],_=>rfl
  have F43:=aQ (st:=gZ) l43 c43 Q7
  have b43:=F43.binds (ps:=["_law_rule_here"]) fun _ _ _ _ _ _ us hl=>match us,hl with | [_],_=>rfl
  have F44:=aQ (st:=bP) l44 c44 Q8
  have b44:=F44.binds (ps:=["_law_state"]) fun _ _ _ _ _ _ us hl=>match us,hl with | [_],_=>rfl
  have F45:=aQ (st:=dD) l45 c45 OY
  have b45:=F45.binds (ps:=["_law_found","_law_due_here"]) fun _ _ _ _ _ _ us hl=>match us,hl with | [_,_],_=>rfl
  have F46:=aQ (st:=bM) l46 c46 Ra
  have b46:=F46.binds (ps:=["self"]) fun _ _ _ _ _ _ us hl=>match us,hl with | [_],_=>rfl
  have F47:=aQ (st:=mR) l47 c47 Rb
  have b47:=F47.binds (ps:=["shelf","rule"]) fun _ _ _ _ _ _ us hl=>match us,hl with | [_,_],_=>rfl
  have F48:=aQ (st:=dR) l48 c48 Rc
  have b48:=F48.binds (ps:=["_law_shelf","_law_rule_here","_law_word"]) fun _ _ _ _ _ _ us hl=>match us,hl with | [_,_,_],_=>rfl
  have F49:=aQ (st:=aR) l49 c49 Rf
  have b49:=F49.binds (ps:=["_law_state","_law_rule_here"]) fun _ _ _ _ _ _ us hl=>match us,hl with | [_,_],_=>rfl
  have F50:=aQ (st:=bN) l50 c50 Rg
  have b50:=F50.binds (ps:=["_law_kept","_law_shelf","_law_rule_here","_law_ahead"]) fun _ _ _ _ _ _ us hl=>match us,hl with | [_,_,_,_],_=>rfl
  have F51:=aQ (st:=ia) l51 c51 k51
  refine ⟨PySem.W.fnOf "law" "law" (aF ia) (au ia) (aj ia) .none OU OV OW N7 LB OX,fun s v=>.of_eq rfl,fun base _ _=>?_⟩
  have fS:iu K ak:=⟨xZ,x8,ya,yb⟩
  have dF:iu K av:=⟨t9,ua,uc,ud⟩
  have bu:iu K aA:=⟨ug,uh,um,uo⟩
  have aB:iu K af:=⟨mz,mC,mE,mF⟩
  have bh:iu K aE:=⟨ye,yf,yg,yh⟩
  have dS:Callee l.prog w K mg base "is_number" 1 ["thing"] (BU K):=⟨f1,_,wM F1 B,b1,k1,PySem.W.mg_of X G a1⟩
  have dH:Callee l.prog w K mg base "is_whole" 2 ["thing","low","high"] (rJ K):=⟨f2,_,zz F2 B (dS:=dS),b2,k2,PySem.W.mg_of X G a2⟩
  have mS:Callee l.prog w K mg base "is_plan" 1 ["thing"] (AU K):=⟨f3,_,AX F3 B,b3,k3,PySem.W.mg_of X G a3⟩
  have mT:Callee l.prog w K mg base "is_rule" 3 ["thing"] (AV K):=⟨f4,_,AY F4 B (dH:=dH) (mS:=mS),b4,k4,PySem.W.mg_of X G a4⟩
  have wQ:Maker l.prog w K mg base "Leaf" 1 ["self","number","rows"] [] ak (nU K ak):=⟨f5,_,[],⟨yc,i5,n5,yd⟩,p6 F5 B  (fS:=fS) (lT:=gJ) (sY:=iJ),b5,.nil,PySem.W.mg_of X G yp⟩
  have rK:Maker l.prog w K mg base "House" 1 ["self","rule","kept","fresh","top"] [] av (lU K av):=⟨f6,_,[],⟨ue,i6,n6,uf⟩,oW F6 B  (dF:=dF) (lV:=jB) (EM:=g8) (BW:=gK) (Je:=iK) (BX:=jb),b6,.nil,PySem.W.mg_of X G yr⟩
  have jk:Callee l.prog w K mg base "new_house" 3 ["rule"] (nV K av ak):=⟨f7,_,wO F7 B (rK:=rK) (wQ:=wQ),b7,k7,PySem.W.mg_of X G a7⟩
  have rN:AM l.prog w K mg base "Store" 4 ["self","rule"] [] aA (lX K aA av ak cR):=⟨f8,_,[],⟨uq,i8,n8,ur⟩,oY F8 B (jk:=jk) (mT:=mT) (bu:=bu) (lV:=fJ) (sZ:=g9) (iD:=eU) (ER:=jC),b8,.nil,PySem.W.mg_of X G yt⟩
  have kB:Callee l.prog w K mg base "signs_of" 1 ["entry"] (wR K):=⟨f9,_,zC F9 B,b9,k9,PySem.W.mg_of X G a9⟩
  have iH:Maker l.prog w K mg base "Shelf" 1 ["self"] [] af (rL af K):=⟨NP,_,[],⟨uu,YZ,Y5,uv⟩,o6 F10 B   (eS:=dB) (iE:=eV) (ic:=d7) (lY:=eB) (nj:=eW)  (c:=⟨mz,mC,mE,mF⟩),b10,.nil,PySem.W.mg_of X G yu⟩
  have dX:bH l.prog w K mg base af "carry_out" 1 ["self","entry","signs"] [] (wU K af):=⟨NQ,_,[],⟨Y6,Y9,Qz⟩,nY F11 B   (eS:=dB) (iE:=eV)  (c:=⟨mz,mC,mE,mF⟩),b11,.nil⟩
  have aS:bH l.prog w K mg base af "put_down" 2 ["self","entry"] [] (jU K af):=⟨NR,_,[],⟨i12,PL,QA⟩,o8 F12 B (kB:=kB) (dX:=dX) (aB:=aB) (ic:=d7),b12,.nil⟩
  have cN:bH l.prog w K mg base af "line" 3 ["self","text"] [] (p8 K af fun vs e=>∃ t,vs=[.str t]∧e=.line t):=⟨NS,_,[],⟨Zc,Aa,QB⟩,uH F13 B (aS:=aS) (aB:=aB),b13,.nil⟩
  have cM:bH l.prog w K mg base af "blot" 3 ["self"] [] (p8 K af fun vs e=>vs=[]∧e=.blot):=⟨NT,_,[],⟨Ze,Zh,QC⟩,uJ F14 B (aS:=aS) (aB:=aB),b14,.nil⟩
  have bg:bH l.prog w K mg base af "write" 3 ["self","place","text"] [] (p8 K af fun vs e=>∃ k t,vs=[.int k,.str t]∧e=.cA k t∧0≤k∧k≤1000000):=⟨NU,_,[],⟨Zi,Zl,QD⟩,tG F15 B (dH:=dH) (aS:=aS) (aB:=aB),b15,.nil⟩
  have bI:bH l.prog w K mg base af "journal" 1 ["self"] [] (mU K af):=⟨NV,_,[],⟨Zm,Zp,QE⟩,qb F16 B  (aB:=aB) (iE:=eV),b16,.nil⟩
  have aZ:bH l.prog w K mg base af "log" 1 ["self"] [] (vG K af):=⟨NW,_,[],⟨Zq,Zt,QF⟩,wW F17 B  (aB:=aB) (ic:=d7),b17,.nil⟩
  have fH:bH l.prog w K mg base af "page" 2 ["self","place"] [] (AZ K af):=⟨NY,_,[],⟨Zu,Zx,QG⟩,uL F18 B (dS:=dS) (aB:=aB) (eS:=dB),b18,.nil⟩
  have bR:bH l.prog w K mg base af "places" 1 ["self"] [] (o9 K af):=⟨NZ,_,[],⟨Zy,ZC,QH⟩,qY F19 B  (aB:=aB) (eS:=dB),b19,.nil⟩
  have aI:Callee l.prog w K mg base "figures_of" 1 ["number"] tH:=⟨P8,_,uN F20 B,b20,QI,PySem.W.mg_of X G ZD⟩
  have dU:Callee l.prog w K mg base "list_text" 1 ["texts","sign"] (HX K):=⟨P9,_,wY F21 B,b21,QJ,PySem.W.mg_of X G ZG⟩
  have gE:Callee l.prog w K mg base "numbers_text" 2 ["numbers"] (Li K):=⟨Qa,_,rj F22 B (dU:=dU) (aI:=aI),b22,QK,PySem.W.mg_of X G ZJ⟩
  have jm:Callee l.prog w K mg base "rule_text" 2 ["rule"] (Lj K):=⟨Qc,_,wZ F23 B (aI:=aI),b23,QL,PySem.W.mg_of X G ZM⟩
  have jq:Callee l.prog w K mg base "head_text" 3 ["head"] (Lk K):=⟨Qd,_,xh F24 B (aI:=aI) (jm:=jm) (gE:=gE),b24,QM,PySem.W.mg_of X G ZP⟩
  have kC:Callee l.prog w K mg base "row_text" 3 ["row"] HY:=⟨Qe,_,zI F25 B,b25,QN,PySem.W.mg_of X G ZS⟩
  have gu:Callee l.prog w K mg base "page_of" 2 ["body"] HZ:=⟨Qf,_,A2 F26 B (aI:=aI),b26,QO,PySem.W.mg_of X G ZW⟩
  have jr:Callee l.prog w K mg base "room_text" 4 ["room","places"] (EU K):=⟨Qg,_,xj F27 B (dU:=dU) (aI:=aI) (kC:=kC),b27,QS,PySem.W.mg_of X G ZZ⟩
  have gF:bH l.prog w K mg base aA "marks" 1 ["self"] [] (xo K aA av ak):=⟨N1,_,[],⟨Z3,Z6,QT⟩,tL F28 B  (dF:=dF) (bu:=bu) (iD:=eU) (EW:=g8),b28,.nil⟩
  have kF:Callee l.prog w K mg base "own_rows" 1 ["rows"] (EX K):=⟨Qh,_,zK F29 B,b29,QU,PySem.W.mg_of X G Z7⟩
  have jn:Callee l.prog w K mg base "room_told" 2 ["room"] (A3 K ak):=⟨Qi,_,xE F30 B (kF:=kF) (fS:=fS) (lT:=gJ) (sY:=iJ),b30,QV,PySem.W.mg_of X G a30⟩
  have jo:Callee l.prog w K mg base "all_rooms" 3 ["top"] (EY K ak):=⟨Qj,_,xO F31 B  (fS:=fS),b31,QW,PySem.W.mg_of X G a31⟩
  have mW:Callee l.prog w K mg base "roll_of" 4 ["top"] (A4 K ak):=⟨Qk,_,A6 F32 B (jn:=jn) (jo:=jo),b32,QX,PySem.W.mg_of X G a32⟩
  have bZ:bH l.prog w K mg base aA "image" 5 ["self"] [] (B0 K aA av ak):=⟨N2,_,[],⟨i33,n33,QY⟩,tR F33 B (mW:=mW) (gF:=gF) (dF:=dF) (bu:=bu) (lV:=fJ) (sZ:=g9) (iD:=eU) (B3:=gK) (Jh:=iK),b33,.nil⟩
  have xS:Maker l.prog w K mg base "Kept" 1 ["self","store","shelf","series","stands"] [] aE (nZ aE):=⟨N3,_,[],⟨yi,i34,n34,yj⟩,qh F34 B  (bh:=bh) (iG:=fK) (fN:=ef) (jW:=gM) (gG:=eX),b34,.nil,PySem.W.mg_of X G Bk⟩
  have fO:Callee l.prog w K mg base "children_told" 1 ["room"] (xP K):=⟨Ql,_,qj F35 B,b35,Gr,PySem.W.mg_of X G a35⟩
  have cI:bH l.prog w K mg base aE "standing_place" 1 ["self","number","body"] [] (xQ K aE):=⟨N4,_,[],⟨i36,n36,QZ⟩,kJ F36 B  (bh:=bh) (gG:=eX),b36,.nil⟩
  have iI:Callee l.prog w K mg base "free_place" 1 ["taken"] A8:=⟨Qm,_,uO F37 B,b37,Q0,PySem.W.mg_of X G a37⟩
  have dY:bH l.prog w K mg base aE "write_head" 4 ["self","head"] [] (Lm K aE af):=⟨N5,_,[],⟨i38,n38,Q2⟩,n9 F38 B (gu:=gu) (jq:=jq) (bg:=bg) (cM:=cM) (aB:=aB) (bh:=bh) (fN:=ef),b38,.nil⟩
  have eT:Callee l.prog w K mg base "_law_cell_at" 1 ["_law_script","_law_k"] (A9 K):=⟨Qn,_,rq F39 B,b39,Q3,PySem.W.mg_of X G a39⟩
  have aO:Callee l.prog w K mg base "_law_digit" 1 ["_law_state","_law_base"] (pq K):=⟨Qo,_,uP F40 B,b40,Q4,PySem.W.mg_of X G a40⟩
  have ir:Callee l.prog w K mg base "_law_rule" 2 ["_law_state"] (xU K):=⟨Qp,_,xV F41 B (aO:=aO),b41,Q5,PySem.W.mg_of X G a41⟩
  have ig:Callee l.prog w K mg base "_law_page" 1 ["_law_body"] E5:=⟨Qq,_,xX F42 B,b42,Q6,PySem.W.mg_of X G a42⟩
  have kK:Callee l.prog w K mg base "_law_due" 2 ["_law_rule_here"] (E6 K):=⟨Qs,_,zO F43 B (ig:=ig),b43,Q7,PySem.W.mg_of X G a43⟩
  have fP:Callee l.prog w K mg base "_law_not_bare" 4 ["_law_state"] (qk K af):=⟨Qt,_,ql F44 B (aO:=aO) (iH:=iH) (bg:=bg) (cN:=cN) (aB:=aB),b44,Q8,PySem.W.mg_of X G a44⟩
  have bO:Callee l.prog w K mg base "_law_alike" 5 ["_law_found","_law_due_here"] (nv K 5):=⟨Qu,_,uR F45 B b45 OY (PySem.W.mg_of X G Q9),b45,OY,PySem.W.mg_of X G Q9⟩
  have gH:bH l.prog w K mg base aE "settle" 6 ["self"] [] (tW K aE af aA av ak):=⟨N6,_,[],⟨i46,n46,Ra⟩,tY F46 B (jr:=jr) (iI:=iI) (gu:=gu) (fO:=fO) (bZ:=bZ) (dY:=dY) (cI:=cI) (bg:=bg) (bu:=bu) (aB:=aB) (bh:=bh) (iG:=fK) (fN:=ef) (jW:=gM) (gG:=eX),b46,.nil⟩
  have pB:oR l.prog w K mg base "begin" 7 ["shelf","rule"] (rM K aE af aA av ak cR cB):=⟨Qv,_,E4 F47 B (rN:=rN) (xS:=xS) (gH:=gH) (bR:=bR) (bI:=bI) (aB:=aB) (bh:=bh),b47,Rb,PySem.W.mg_of X G a47⟩
  have cV:Callee l.prog w K mg base "_law_refused" 8 ["_law_shelf","_law_rule_here","_law_word"] (ja K af):=⟨Qw,_,rC F48 B (pB:=pB) (aZ:=aZ) (aB:=aB),b48,Rc,PySem.W.mg_of X G a48⟩
  have fQ:Callee l.prog w K mg base "_law_no_rules" 2 ["_law_state","_law_rule_here"] (qo K):=⟨Qx,_,qp F49 B (aO:=aO),b49,Rf,PySem.W.mg_of X G a49⟩
  have dZ:Callee l.prog w K mg base "_law_begun" 6 ["_law_kept","_law_shelf","_law_rule_here","_law_ahead"] (mw K aE af aA av ak):=⟨Qy,_,uS F50 B (kK:=kK) (bO:=bO) (fH:=fH) (bI:=bI) (bZ:=bZ) (aZ:=aZ) (bR:=bR) (bu:=bu) (aB:=aB) (bh:=bh) (iG:=fK) (fN:=ef) (Fg:=fJ),b50,Rg,PySem.W.mg_of X G a50⟩
  have pD:=pB.quiet (Ly (K:=K) (aE:=aE) (af:=af) (aA:=aA) (av:=av) (ak:=ak) (cR:=cR) (cB:=cB))
  exact Lz F51 B (ir:=ir) (fP:=fP) (fQ:=fQ) (eT:=eT) (dZ:=dZ) (cV:=cV) (iH:=iH) (cN:=cN) (cM:=cM) (aZ:=aZ) (aB:=aB) (pD:=pD)
theorem walk {l:PySem.W.OpenLaw} {q:Program} {loose:List Str} {XP:(Str→Option Value)→Heap→Prop} {YP:World→Heap→Prop} {d:DefRec} {K:Params→PySem.W.Frag} (hn:l.most=some 63) (ML:d.params.defaults=[])
    (hY:∀ (w:World) (h:Heap),YP w h→(K w.params).In h)
    (F:∀ (w:World) (mg:Str→Option Value) (fa:Addr) (h:Heap),(K w.params).In h→h.Ns mainGlobals mg→mg d.name=some (.ref fa)→
      ∃ fd:FuncData,(∀ (s:Shared) (u:Value),BindsTo s fd ⟨[u],[]⟩ [("_law_script",u)])∧∀ base:Heap,(K w.params).In base→base.Ns mainGlobals mg→aT l.prog w (K w.params) mg base eK 9 fa fd ["_law_script"] (B6 (K w.params))):
    PySem.W.WalkO q loose XP YP l.row.toRowW d [] (fun f vs=>PySem.call f vs):=
  L2.Hj (n:=63) (k:=9) (x:="_law_script") (CX:=fun _=>eK) (sp:=fun w=>B6 (K w.params)) hn (by decide) ML ⟨rfl,by decide,by decide,rfl⟩ hY F (fun _ _ a ns hl ho hS=>⟨a,ns,rfl,hS,hl,ho,fun _=>rfl⟩) fun _ _ _ _ _ z=>z
abbrev kh (P:Params) (x:Str):Int:=PyData.keyHash P x
abbrev oC (a:Str) (b:Tok) (c:Str) (d:Tok) (e:Str) (f:Tok) (g h i j k:Int) (l:Addr) (m:Bool) (n:Int) (o:Addr) (p q r s:Value) (u v:Int) (x:Str) (y:Tok):Obj:=⟨.type "code",none,.fields #[.str a b,.str c d,.str e f,.int g 0,.int h 0,.int i 0,.int j 0,.int k 0,.ref l,.bool m,.int n 0,.ref o,p,q,r,s,.int u 0,.int v 0,.str x y],#[]⟩
abbrev oT (x:Array Value):Obj:=⟨.type "tuple",none,.seq x 0,#[]⟩
abbrev oF (a b:Str) (s:Stmt) (n:Nat) (d k m c:Value):Obj:=⟨.type "function",none,.func ⟨a,b,aF s,.stmts (au s),aj s,n,[],d,k,.none,m,none,c,.none,0⟩,#[]⟩
abbrev oG (a b:Str) (s:Stmt):Obj:=⟨.none,none,.func ⟨a,b,aF s,.stmts (au s),aj s,0,[],.none,.none,.none,.none,none,.none,.none,0⟩,#[]⟩
abbrev oN:Obj:=⟨.none,none,.fields #[],#[]⟩
noncomputable def hK (P:Params):PySem.W.Frag:=(nat_lit 2,⟨.none,none,(.dict (List.toArray ( [])) 0),#[]⟩)::(nat_lit 3,⟨(.type "dict"),none,(.dict (List.toArray (⟨kh P "__name__",(.str "__name__" 165),(.str "law_notefall_k84_begun_on_a_bare_shelf" 1437)⟩::⟨kh P "__doc__",(.str "__doc__" 166),.none⟩::⟨kh P "__package__",(.str "__package__" 167),.none⟩::⟨kh P "__loader__",(.str "__loader__" 168),(.builtin "__main__.__loader__#opaque")⟩::⟨kh P "__spec__",(.str "__spec__" 169),.none⟩::⟨kh P "__annotations__",(.str "__annotations__" 170),(.ref 6)⟩::⟨kh P "__builtins__",(.str "__builtins__" 171),(.ref 4)⟩::⟨kh P "__file__",(.str "__file__" 173),(.str "/claim/cut.py" 172)⟩::⟨kh P "__cached__",(.str "__cached__" 174),.none⟩::⟨kh P "_wall",(.str "_wall" 193),(.ref 21)⟩::⟨kh P "FallError",(.str "FallError" 213),(.ref 31)⟩::⟨kh P "NoKey",(.str "NoKey" 229),(.ref 44)⟩::⟨kh P "NoStretch",(.str "NoStretch" 245),(.ref 56)⟩::⟨kh P "NoRule",(.str "NoRule" 261),(.ref 68)⟩::⟨kh P "NoMark",(.str "NoMark" 277),(.ref 80)⟩::⟨kh P "NoMany",(.str "NoMany" 293),(.ref 92)⟩::⟨kh P "NoPlace",(.str "NoPlace" 309),(.ref 104)⟩::⟨kh P "NotBare",(.str "NotBare" 325),(.ref 116)⟩::⟨kh P "END",(.str "END" 331),(.int 1000000000000 330)⟩::⟨kh P "MOST_TRAY",(.str "MOST_TRAY" 333),(.int 64 332)⟩::⟨kh P "LEAST_FAN",(.str "LEAST_FAN" 335),(.int 3 334)⟩::⟨kh P "MOST_FAN",(.str "MOST_FAN" 337),(.int 16 336)⟩::⟨kh P "MOST_ROWS",(.str "MOST_ROWS" 339),(.int 64 338)⟩::⟨kh P "PLANS",(.str "PLANS" 342),(.ref 119)⟩::⟨kh P "is_number",(.str "is_number" 349),(.ref 126)⟩::⟨kh P "is_whole",(.str "is_whole" 358),(.ref 133)⟩::⟨kh P "is_whole_from",(.str "is_whole_from" 366),(.ref 140)⟩::⟨kh P "is_key",(.str "is_key" 373),(.ref 147)⟩::⟨kh P "is_stretch",(.str "is_stretch" 381),(.ref 154)⟩::⟨kh P "check_key",(.str "check_key" 388),(.ref 161)⟩::⟨kh P "check_stretch",(.str "check_stretch" 396),(.ref 168)⟩::⟨kh P "is_plan",(.str "is_plan" 403),(.ref 175)⟩::⟨kh P "is_rule",(.str "is_rule" 414),(.ref 182)⟩::⟨kh P "GONE",(.str "GONE" 418),(.ref 183)⟩::⟨kh P "half_acts",(.str "half_acts" 428),(.ref 190)⟩::⟨kh P "does",(.str "does" 438),(.ref 197)⟩::⟨kh P "figures_of",(.str "figures_of" 447),(.ref 204)⟩::⟨kh P "has_key",(.str "has_key" 457),(.ref 211)⟩::⟨kh P "reached",(.str "reached" 463),(.ref 216)⟩::⟨kh P "list_text",(.str "list_text" 473),(.ref 223)⟩::⟨kh P "numbers_text",(.str "numbers_text" 479),(.ref 228)⟩::⟨kh P "version_text",(.str "version_text" 488),(.ref 235)⟩::⟨kh P "row_text",(.str "row_text" 494),(.ref 240)⟩::⟨kh P "half_text",(.str "half_text" 503),(.ref 247)⟩::⟨kh P "note_text",(.str "note_text" 515),(.ref 254)⟩::⟨kh P "room_text",(.str "room_text" 521),(.ref 259)⟩::⟨kh P "rule_text",(.str "rule_text" 532),(.ref 266)⟩::⟨kh P "head_text",(.str "head_text" 538),(.ref 271)⟩::⟨kh P "page_of",(.str "page_of" 545),(.ref 278)⟩::⟨kh P "value_of",(.str "value_of" 559),(.ref 286)⟩::⟨kh P "up_to",(.str "up_to" 567),(.ref 291)⟩::⟨kh P "touching",(.str "touching" 573),(.ref 296)⟩::⟨kh P "seen",(.str "seen" 585),(.ref 304)⟩::⟨kh P "Leaf",(.str "Leaf" 618),(.ref 321)⟩::⟨kh P "Inner",(.str "Inner" 653),(.ref 342)⟩::⟨kh P "stretches",(.str "stretches" 663),(.ref 353)⟩::⟨kh P "child_place",(.str "child_place" 669),(.ref 358)⟩::⟨kh P "House",(.str "House" 826),(.ref 466)⟩::⟨kh P "new_house",(.str "new_house" 833),(.ref 477)⟩::⟨kh P "children_of",(.str "children_of" 841),(.ref 482)⟩::⟨kh P "all_rooms",(.str "all_rooms" 853),(.ref 489)⟩::⟨kh P "own_rows",(.str "own_rows" 859),(.ref 494)⟩::⟨kh P "room_told",(.str "room_told" 865),(.ref 499)⟩::⟨kh P "roll_of",(.str "roll_of" 871),(.ref 504)⟩::⟨kh P "check_mark",(.str "check_mark" 881),(.ref 511)⟩::⟨kh P "check_many",(.str "check_many" 888),(.ref 518)⟩::⟨kh P "rooms_to",(.str "rooms_to" 898),(.ref 525)⟩::⟨kh P "versions_in",(.str "versions_in" 908),(.ref 532)⟩::⟨kh P "told_value",(.str "told_value" 921),(.ref 539)⟩::⟨kh P "leaf_table",(.str "leaf_table" 927),(.ref 544)⟩::⟨kh P "do_to",(.str "do_to" 937),(.ref 551)⟩::⟨kh P "room_table",(.str "room_table" 952),(.ref 558)⟩::⟨kh P "pairs",(.str "pairs" 958),(.ref 563)⟩::⟨kh P "read_key",(.str "read_key" 968),(.ref 571)⟩::⟨kh P "read_stretch",(.str "read_stretch" 985),(.ref 580)⟩::⟨kh P "read_many",(.str "read_many" 996),(.ref 588)⟩::⟨kh P "Store",(.str "Store" 1214),(.ref 754)⟩::⟨kh P "FIRST_PLACE",(.str "FIRST_PLACE" 1218),(.int 2 1217)⟩::⟨kh P "free_place",(.str "free_place" 1226),(.ref 765)⟩::⟨kh P "children_told",(.str "children_told" 1233),(.ref 772)⟩::⟨kh P "Kept",(.str "Kept" 1302),(.ref 815)⟩::⟨kh P "begin",(.str "begin" 1312),(.ref 826)⟩::⟨kh P "MOST_PLACE",(.str "MOST_PLACE" 1318),(.int 1000000 1317)⟩::⟨kh P "signs_of",(.str "signs_of" 1325),(.ref 833)⟩::⟨kh P "Shelf",(.str "Shelf" 1436),(.ref 920)⟩::⟨kh P "_law_cell_at",(.str "_law_cell_at" 1446),(.ref 931)⟩::⟨kh P "_law_digit",(.str "_law_digit" 1457),(.ref 938)⟩::⟨kh P "_law_alike",(.str "_law_alike" 1463),(.ref 943)⟩::⟨kh P "_law_rule",(.str "_law_rule" 1471),(.ref 950)⟩::⟨kh P "_law_no_rules",(.str "_law_no_rules" 1484),(.ref 957)⟩::⟨kh P "_law_page",(.str "_law_page" 1491),(.ref 964)⟩::⟨kh P "_law_due",(.str "_law_due" 1497),(.ref 969)⟩::⟨kh P "_law_begun",(.str "_law_begun" 1509),(.ref 976)⟩::⟨kh P "_law_refused",(.str "_law_refused" 1521),(.ref 983)⟩::⟨kh P "_law_not_bare",(.str "_law_not_bare" 1531),(.ref 990)⟩::⟨kh P "law",(.str "law" 1549),(.ref 997)⟩::[])) 96),#[]⟩)::(nat_lit 15,oT #[])::(nat_lit 17,oT #[(.str "k" 190)])::(nat_lit 18,oT #[])::(nat_lit 20,oC "_wall" 187 "_wall" 188 "/claim/cut.py" 189 1 1 0 0 3 15 true 181 16 .none (.ref 17) (.ref 18) (.ref 19) 191 1 "/claim/cut.py" 192)::(nat_lit 21,oF "_wall" "_wall" (top 0) 3 .none .none (.str "__main__" 164) (.ref 20))::(nat_lit 22,oT #[(.type "ValueError")])::(nat_lit 29,oT #[])::(nat_lit 30,⟨(.type "dict"),none,(.dict (List.toArray (⟨kh P "__module__",(.str "__module__" 203),(.str "notefall.errors" 194)⟩::⟨kh P "__firstlineno__",(.str "__firstlineno__" 207),(.int 5 206)⟩::⟨kh P "__static_attributes__",(.str "__static_attributes__" 208),(.ref 29)⟩::⟨kh P "__weakref__",(.str "__weakref__" 210),(.ref 32)⟩::⟨kh P "__doc__",(.str "__doc__" 211),.none⟩::[])) 3),#[]⟩)::(nat_lit 31,⟨(.type "type"),none,(.cls ⟨"FallError",[(.type "ValueError")],[(.ref 31),(.type "ValueError"),(.type "Exception"),(.type "BaseException"),(.type "object")],30,"FallError",true,[],[(.ref 44),(.ref 56),(.ref 68),(.ref 80),(.ref 92),(.ref 104),(.ref 116)],false,none,false⟩),#[(some (.ref 22)),none,(some (.str "FallError" 196)),(some (.str "FallError" 204)),(some (.builtin "ValueError.__new__")),(some (.bool true))]⟩)::(nat_lit 32,⟨(.type "getset_descriptor"),none,(.fields #[(.str "__weakref__" 209),(.ref 31),(.builtin "ExceptionGroup.__weakref__"),.none]),#[]⟩)::(nat_lit 35,oT #[(.ref 31)])::(nat_lit 42,oT #[])::(nat_lit 43,⟨(.type "dict"),none,(.dict (List.toArray (⟨kh P "__module__",(.str "__module__" 221),(.str "notefall.errors" 194)⟩::⟨kh P "__firstlineno__",(.str "__firstlineno__" 225),(.int 7 224)⟩::⟨kh P "__static_attributes__",(.str "__static_attributes__" 226),(.ref 42)⟩::⟨kh P "__doc__",(.str "__doc__" 227),.none⟩::[])) 2),#[]⟩)::(nat_lit 44,⟨(.type "type"),none,(.cls ⟨"NoKey",[(.ref 31)],[(.ref 44),(.ref 31),(.type "ValueError"),(.type "Exception"),(.type "BaseException"),(.type "object")],43,"NoKey",true,[],[],false,none,false⟩),#[(some (.ref 35)),none,(some (.str "NoKey" 214)),(some (.str "NoKey" 222)),(some (.builtin "ValueError.__new__")),(some (.bool true))]⟩)::(nat_lit 47,oT #[(.ref 31)])::(nat_lit 54,oT #[])::(nat_lit 55,⟨(.type "dict"),none,(.dict (List.toArray (⟨kh P "__module__",(.str "__module__" 237),(.str "notefall.errors" 194)⟩::⟨kh P "__firstlineno__",(.str "__firstlineno__" 241),(.int 9 240)⟩::⟨kh P "__static_attributes__",(.str "__static_attributes__" 242),(.ref 54)⟩::⟨kh P "__doc__",(.str "__doc__" 243),.none⟩::[])) 2),#[]⟩)::(nat_lit 56,⟨(.type "type"),none,(.cls ⟨"NoStretch",[(.ref 31)],[(.ref 56),(.ref 31),(.type "ValueError"),(.type "Exception"),(.type "BaseException"),(.type "object")],55,"NoStretch",true,[],[],false,none,false⟩),#[(some (.ref 47)),none,(some (.str "NoStretch" 230)),(some (.str "NoStretch" 238)),(some (.builtin "ValueError.__new__")),(some (.bool true))]⟩)::(nat_lit 59,oT #[(.ref 31)])::(nat_lit 66,oT #[])::(nat_lit 67,⟨(.type "dict"),none,(.dict (List.toArray (⟨kh P "__module__",(.str "__module__" 253),(.str "notefall.errors" 194)⟩::⟨kh P "__firstlineno__",(.str "__firstlineno__" 257),(.int 11 256)⟩::⟨kh P "__static_attributes__",(.str "__static_attributes__" 258),(.ref 66)⟩::⟨kh P "__doc__",(.str "__doc__" 259),.none⟩::[])) 2),#[]⟩)::(nat_lit 68,⟨(.type "type"),none,(.cls ⟨"NoRule",[(.ref 31)],[(.ref 68),(.ref 31),(.type "ValueError"),(.type "Exception"),(.type "BaseException"),(.type "object")],67,"NoRule",true,[],[],false,none,false⟩),#[(some (.ref 59)),none,(some (.str "NoRule" 246)),(some (.str "NoRule" 254)),(some (.builtin "ValueError.__new__")),(some (.bool true))]⟩)::(nat_lit 71,oT #[(.ref 31)])::(nat_lit 78,oT #[])::(nat_lit 79,⟨(.type "dict"),none,(.dict (List.toArray (⟨kh P "__module__",(.str "__module__" 269),(.str "notefall.errors" 194)⟩::⟨kh P "__firstlineno__",(.str "__firstlineno__" 273),(.int 13 272)⟩::⟨kh P "__static_attributes__",(.str "__static_attributes__" 274),(.ref 78)⟩::⟨kh P "__doc__",(.str "__doc__" 275),.none⟩::[])) 2),#[]⟩)::(nat_lit 80,⟨(.type "type"),none,(.cls ⟨"NoMark",[(.ref 31)],[(.ref 80),(.ref 31),(.type "ValueError"),(.type "Exception"),(.type "BaseException"),(.type "object")],79,"NoMark",true,[],[],false,none,false⟩),#[(some (.ref 71)),none,(some (.str "NoMark" 262)),(some (.str "NoMark" 270)),(some (.builtin "ValueError.__new__")),(some (.bool true))]⟩)::(nat_lit 83,oT #[(.ref 31)])::(nat_lit 90,oT #[])::(nat_lit 91,⟨(.type "dict"),none,(.dict (List.toArray (⟨kh P "__module__",(.str "__module__" 285),(.str "notefall.errors" 194)⟩::⟨kh P "__firstlineno__",(.str "__firstlineno__" 289),(.int 15 288)⟩::⟨kh P "__static_attributes__",(.str "__static_attributes__" 290),(.ref 90)⟩::⟨kh P "__doc__",(.str "__doc__" 291),.none⟩::[])) 2),#[]⟩)::(nat_lit 92,⟨(.type "type"),none,(.cls ⟨"NoMany",[(.ref 31)],[(.ref 92),(.ref 31),(.type "ValueError"),(.type "Exception"),(.type "BaseException"),(.type "object")],91,"NoMany",true,[],[],false,none,false⟩),#[(some (.ref 83)),none,(some (.str "NoMany" 278)),(some (.str "NoMany" 286)),(some (.builtin "ValueError.__new__")),(some (.bool true))]⟩)::(nat_lit 95,oT #[(.ref 31)])::(nat_lit 102,oT #[])::(nat_lit 103,⟨(.type "dict"),none,(.dict (List.toArray (⟨kh P "__module__",(.str "__module__" 301),(.str "notefall.errors" 194)⟩::⟨kh P "__firstlineno__",(.str "__firstlineno__" 305),(.int 17 304)⟩::⟨kh P "__static_attributes__",(.str "__static_attributes__" 306),(.ref 102)⟩::⟨kh P "__doc__",(.str "__doc__" 307),.none⟩::[])) 2),#[]⟩)::(nat_lit 104,⟨(.type "type"),none,(.cls ⟨"NoPlace",[(.ref 31)],[(.ref 104),(.ref 31),(.type "ValueError"),(.type "Exception"),(.type "BaseException"),(.type "object")],103,"NoPlace",true,[],[],false,none,false⟩),#[(some (.ref 95)),none,(some (.str "NoPlace" 294)),(some (.str "NoPlace" 302)),(some (.builtin "ValueError.__new__")),(some (.bool true))]⟩)::(nat_lit 107,oT #[(.ref 31)])::(nat_lit 114,oT #[])::(nat_lit 115,⟨(.type "dict"),none,(.dict (List.toArray (⟨kh P "__module__",(.str "__module__" 317),(.str "notefall.errors" 194)⟩::⟨kh P "__firstlineno__",(.str "__firstlineno__" 321),(.int 19 320)⟩::⟨kh P "__static_attributes__",(.str "__static_attributes__" 322),(.ref 114)⟩::⟨kh P "__doc__",(.str "__doc__" 323),.none⟩::[])) 2),#[]⟩)::(nat_lit 116,⟨(.type "type"),none,(.cls ⟨"NotBare",[(.ref 31)],[(.ref 116),(.ref 31),(.type "ValueError"),(.type "Exception"),(.type "BaseException"),(.type "object")],115,"NotBare",true,[],[],false,none,false⟩),#[(some (.ref 107)),none,(some (.str "NotBare" 310)),(some (.str "NotBare" 318)),(some (.builtin "ValueError.__new__")),(some (.bool true))]⟩)::(nat_lit 119,oT #[(.str "fullest" 340),(.str "eldest" 341)])::(nat_lit 120,oT #[])::(nat_lit 122,oT #[(.str "thing" 346)])::(nat_lit 123,oT #[])::(nat_lit 125,oC "is_number" 343 "is_number" 344 "/claim/cut.py" 345 28 1 0 0 3 120 true 181 121 .none (.ref 122) (.ref 123) (.ref 124) 347 28 "/claim/cut.py" 348)::(nat_lit 126,oF "is_number" "is_number" (top 17) 3 .none .none (.str "notefall.wholes" 326) (.ref 125))::(nat_lit 127,oT #[])::(nat_lit 129,oT #[(.str "thing" 353),(.str "low" 354),(.str "high" 355)])::(nat_lit 130,oT #[])::(nat_lit 132,oC "is_whole" 350 "is_whole" 351 "/claim/cut.py" 352 30 3 0 0 3 127 true 181 128 .none (.ref 129) (.ref 130) (.ref 131) 356 30 "/claim/cut.py" 357)::(nat_lit 133,oF "is_whole" "is_whole" (top 18) 3 .none .none (.str "notefall.wholes" 326) (.ref 132))::(nat_lit 134,oT #[])::(nat_lit 136,oT #[(.str "thing" 362),(.str "low" 363)])::(nat_lit 137,oT #[])::(nat_lit 139,oC "is_whole_from" 359 "is_whole_from" 360 "/claim/cut.py" 361 32 2 0 0 3 134 true 181 135 .none (.ref 136) (.ref 137) (.ref 138) 364 32 "/claim/cut.py" 365)::(nat_lit 140,oF "is_whole_from" "is_whole_from" (top 19) 3 .none .none (.str "notefall.wholes" 326) (.ref 139))::(nat_lit 141,oT #[])::(nat_lit 143,oT #[(.str "thing" 370)])::(nat_lit 144,oT #[])::(nat_lit 146,oC "is_key" 367 "is_key" 368 "/claim/cut.py" 369 34 1 0 0 3 141 true 181 142 .none (.ref 143) (.ref 144) (.ref 145) 371 34 "/claim/cut.py" 372)::(nat_lit 147,oF "is_key" "is_key" (top 20) 3 .none .none (.str "notefall.wholes" 326) (.ref 146))::(nat_lit 148,oT #[])::(nat_lit 150,oT #[(.str "low" 377),(.str "high" 378)])::(nat_lit 151,oT #[])::(nat_lit 153,oC "is_stretch" 374 "is_stretch" 375 "/claim/cut.py" 376 36 2 0 0 3 148 true 181 149 .none (.ref 150) (.ref 151) (.ref 152) 379 36 "/claim/cut.py" 380)::(nat_lit 154,oF "is_stretch" "is_stretch" (top 21) 3 .none .none (.str "notefall.wholes" 326) (.ref 153))::(nat_lit 155,oT #[])::(nat_lit 157,oT #[(.str "thing" 385)])::(nat_lit 158,oT #[])::(nat_lit 160,oC "check_key" 382 "check_key" 383 "/claim/cut.py" 384 38 1 0 0 3 155 true 181 156 .none (.ref 157) (.ref 158) (.ref 159) 386 38 "/claim/cut.py" 387)::(nat_lit 161,oF "check_key" "check_key" (top 22) 3 .none .none (.str "notefall.wholes" 326) (.ref 160))::(nat_lit 162,oT #[])::(nat_lit 164,oT #[(.str "low" 392),(.str "high" 393)])::(nat_lit 165,oT #[])::(nat_lit 167,oC "check_stretch" 389 "check_stretch" 390 "/claim/cut.py" 391 41 2 0 0 3 162 true 181 163 .none (.ref 164) (.ref 165) (.ref 166) 394 41 "/claim/cut.py" 395)::(nat_lit 168,oF "check_stretch" "check_stretch" (top 23) 3 .none .none (.str "notefall.wholes" 326) (.ref 167))::(nat_lit 169,oT #[])::(nat_lit 171,oT #[(.str "thing" 400)])::(nat_lit 172,oT #[])::(nat_lit 174,oC "is_plan" 397 "is_plan" 398 "/claim/cut.py" 399 44 1 0 0 3 169 true 181 170 .none (.ref 171) (.ref 172) (.ref 173) 401 44 "/claim/cut.py" 402)::(nat_lit 175,oF "is_plan" "is_plan" (top 24) 3 .none .none (.str "notefall.wholes" 326) (.ref 174))::(nat_lit 176,oT #[])::(nat_lit 178,oT #[(.str "thing" 407),(.str "tray" 408),(.str "fan" 409),(.str "rows" 410),(.str "plan" 411)])::(nat_lit 179,oT #[])::(nat_lit 181,oC "is_rule" 404 "is_rule" 405 "/claim/cut.py" 406 46 1 0 0 3 176 true 181 177 .none (.ref 178) (.ref 179) (.ref 180) 412 46 "/claim/cut.py" 413)::(nat_lit 182,oF "is_rule" "is_rule" (top 25) 3 .none .none (.str "notefall.wholes" 326) (.ref 181))::(nat_lit 183,oT #[(.str "gone" 417)])::(nat_lit 184,oT #[])::(nat_lit 186,oT #[(.str "half" 422),(.str "value" 423),(.str "word" 424),(.str "number" 425)])::(nat_lit 187,oT #[])::(nat_lit 189,oC "half_acts" 419 "half_acts" 420 "/claim/cut.py" 421 55 2 0 0 3 184 true 181 185 .none (.ref 186) (.ref 187) (.ref 188) 426 55 "/claim/cut.py" 427)::(nat_lit 190,oF "half_acts" "half_acts" (top 28) 3 .none .none (.str "notefall.actions" 415) (.ref 189))::(nat_lit 191,oT #[])::(nat_lit 193,oT #[(.str "action" 432),(.str "value" 433),(.str "there" 434),(.str "none" 435)])::(nat_lit 194,oT #[])::(nat_lit 196,oC "does" 429 "does" 430 "/claim/cut.py" 431 60 2 0 0 3 191 true 181 192 .none (.ref 193) (.ref 194) (.ref 195) 436 60 "/claim/cut.py" 437)::(nat_lit 197,oF "does" "does" (top 29) 3 .none .none (.str "notefall.actions" 415) (.ref 196))::(nat_lit 198,oT #[])::(nat_lit 200,oT #[(.str "number" 444)])::(nat_lit 201,oT #[])::(nat_lit 203,oC "figures_of" 441 "figures_of" 442 "/claim/cut.py" 443 64 1 0 0 3 198 true 181 199 .none (.ref 200) (.ref 201) (.ref 202) 445 64 "/claim/cut.py" 446)::(nat_lit 204,oF "figures_of" "figures_of" (top 31) 3 .none .none (.str "notefall.figures" 439) (.ref 203))::(nat_lit 205,oT #[])::(nat_lit 207,oT #[(.str "note" 453),(.str "key" 454)])::(nat_lit 208,oT #[])::(nat_lit 210,oC "has_key" 450 "has_key" 451 "/claim/cut.py" 452 67 2 0 0 3 205 true 181 206 .none (.ref 207) (.ref 208) (.ref 209) 455 67 "/claim/cut.py" 456)::(nat_lit 211,oF "has_key" "has_key" (top 33) 3 .none .none (.str "notefall.notes" 448) (.ref 210))::(nat_lit 212,oT #[])::(nat_lit 215,oC "reached" 458 "reached" 459 "/claim/cut.py" 460 69 2 0 0 3 212 true 181 213 .none .none .none (.ref 214) 461 69 "/claim/cut.py" 462)::(nat_lit 216,oF "reached" "reached" (top 34) 3 .none .none (.str "notefall.notes" 448) (.ref 215))::(nat_lit 217,oT #[])::(nat_lit 219,oT #[(.str "texts" 469),(.str "sign" 470)])::(nat_lit 220,oT #[])::(nat_lit 222,oC "list_text" 466 "list_text" 467 "/claim/cut.py" 468 75 2 0 0 3 217 true 181 218 .none (.ref 219) (.ref 220) (.ref 221) 471 75 "/claim/cut.py" 472)::(nat_lit 223,oF "list_text" "list_text" (top 36) 3 .none .none (.str "notefall.pages" 464) (.ref 222))::(nat_lit 224,oT #[])::(nat_lit 227,oC "numbers_text" 474 "numbers_text" 475 "/claim/cut.py" 476 77 1 0 0 3 224 true 181 225 .none .none .none (.ref 226) 477 77 "/claim/cut.py" 478)::(nat_lit 228,oF "numbers_text" "numbers_text" (top 37) 3 .none .none (.str "notefall.pages" 464) (.ref 227))::(nat_lit 229,oT #[])::(nat_lit 231,oT #[(.str "version" 483),(.str "number" 484),(.str "value" 485)])::(nat_lit 232,oT #[])::(nat_lit 234,oC "version_text" 480 "version_text" 481 "/claim/cut.py" 482 79 1 0 0 3 229 true 181 230 .none (.ref 231) (.ref 232) (.ref 233) 486 79 "/claim/cut.py" 487)::(nat_lit 235,oF "version_text" "version_text" (top 38) 3 .none .none (.str "notefall.pages" 464) (.ref 234))::(nat_lit 236,oT #[])::(nat_lit 239,oC "row_text" 489 "row_text" 490 "/claim/cut.py" 491 82 1 0 0 3 236 true 181 237 .none .none .none (.ref 238) 492 82 "/claim/cut.py" 493)::(nat_lit 240,oF "row_text" "row_text" (top 39) 3 .none .none (.str "notefall.pages" 464) (.ref 239))::(nat_lit 241,oT #[])::(nat_lit 243,oT #[(.str "half" 498),(.str "word" 499),(.str "number" 500)])::(nat_lit 244,oT #[])::(nat_lit 246,oC "half_text" 495 "half_text" 496 "/claim/cut.py" 497 85 1 0 0 3 241 true 181 242 .none (.ref 243) (.ref 244) (.ref 245) 501 85 "/claim/cut.py" 502)::(nat_lit 247,oF "half_text" "half_text" (top 40) 3 .none .none (.str "notefall.pages" 464) (.ref 246))::(nat_lit 248,oT #[])::(nat_lit 250,oT #[(.str "note" 507),(.str "number" 508),(.str "low" 509),(.str "high" 510),(.str "there" 511),(.str "none" 512)])::(nat_lit 251,oT #[])::(nat_lit 253,oC "note_text" 504 "note_text" 505 "/claim/cut.py" 506 90 1 0 0 3 248 true 181 249 .none (.ref 250) (.ref 251) (.ref 252) 513 90 "/claim/cut.py" 514)::(nat_lit 254,oF "note_text" "note_text" (top 41) 3 .none .none (.str "notefall.pages" 464) (.ref 253))::(nat_lit 255,oT #[])::(nat_lit 258,oC "room_text" 516 "room_text" 517 "/claim/cut.py" 518 93 2 0 0 3 255 true 181 256 .none .none .none (.ref 257) 519 93 "/claim/cut.py" 520)::(nat_lit 259,oF "room_text" "room_text" (top 42) 3 .none .none (.str "notefall.pages" 464) (.ref 258))::(nat_lit 260,oT #[])::(nat_lit 262,oT #[(.str "rule" 525),(.str "tray" 526),(.str "fan" 527),(.str "rows" 528),(.str "plan" 529)])::(nat_lit 263,oT #[])::(nat_lit 265,oC "rule_text" 522 "rule_text" 523 "/claim/cut.py" 524 101 1 0 0 3 260 true 181 261 .none (.ref 262) (.ref 263) (.ref 264) 530 101 "/claim/cut.py" 531)::(nat_lit 266,oF "rule_text" "rule_text" (top 43) 3 .none .none (.str "notefall.pages" 464) (.ref 265))::(nat_lit 267,oT #[])::(nat_lit 270,oC "head_text" 533 "head_text" 534 "/claim/cut.py" 535 104 1 0 0 3 267 true 181 268 .none .none .none (.ref 269) 536 104 "/claim/cut.py" 537)::(nat_lit 271,oF "head_text" "head_text" (top 44) 3 .none .none (.str "notefall.pages" 464) (.ref 270))::(nat_lit 272,oT #[])::(nat_lit 274,oT #[(.str "body" 542)])::(nat_lit 275,oT #[])::(nat_lit 277,oC "page_of" 539 "page_of" 540 "/claim/cut.py" 541 108 1 0 0 3 272 true 181 273 .none (.ref 274) (.ref 275) (.ref 276) 543 108 "/claim/cut.py" 544)::(nat_lit 278,oF "page_of" "page_of" (top 45) 3 .none .none (.str "notefall.pages" 464) (.ref 277))::(nat_lit 279,⟨(.type "dict"),none,(.dict (List.toArray (⟨kh P "at",(.str "at" 548),.none⟩::[])) 1),#[]⟩)::(nat_lit 280,oT #[])::(nat_lit 282,oT #[(.str "versions" 552),(.str "at" 553),(.str "value" 554),(.str "number" 555),(.str "other" 556)])::(nat_lit 283,oT #[])::(nat_lit 285,oC "value_of" 549 "value_of" 550 "/claim/cut.py" 551 111 1 0 1 3 280 true 181 281 .none (.ref 282) (.ref 283) (.ref 284) 557 111 "/claim/cut.py" 558)::(nat_lit 286,oF "value_of" "value_of" (top 47) 3 .none (.ref 279) (.str "notefall.leaves" 546) (.ref 285))::(nat_lit 287,oT #[])::(nat_lit 290,oC "up_to" 562 "up_to" 563 "/claim/cut.py" 564 118 2 0 0 3 287 true 181 288 .none .none .none (.ref 289) 565 118 "/claim/cut.py" 566)::(nat_lit 291,oF "up_to" "up_to" (top 49) 3 .none .none (.str "notefall.trays" 560) (.ref 290))::(nat_lit 292,oT #[])::(nat_lit 295,oC "touching" 568 "touching" 569 "/claim/cut.py" 570 120 2 0 0 3 292 true 181 293 .none .none .none (.ref 294) 571 120 "/claim/cut.py" 572)::(nat_lit 296,oF "touching" "touching" (top 50) 3 .none .none (.str "notefall.trays" 560) (.ref 295))::(nat_lit 297,⟨(.type "dict"),none,(.dict (List.toArray (⟨kh P "at",(.str "at" 574),.none⟩::[])) 1),#[]⟩)::(nat_lit 298,oT #[])::(nat_lit 300,oT #[(.str "tray" 578),(.str "key" 579),(.str "value" 580),(.str "at" 581),(.str "note" 582)])::(nat_lit 301,oT #[])::(nat_lit 303,oC "seen" 575 "seen" 576 "/claim/cut.py" 577 122 3 0 1 3 298 true 181 299 .none (.ref 300) (.ref 301) (.ref 302) 583 122 "/claim/cut.py" 584)::(nat_lit 304,oF "seen" "seen" (top 51) 3 .none (.ref 297) (.str "notefall.trays" 560) (.ref 303))::(nat_lit 312,oT #[])::(nat_lit 314,oT #[(.str "self" 603),(.str "number" 604),(.str "rows" 605)])::(nat_lit 315,oT #[])::(nat_lit 317,oC "__init__" 600 "Leaf.__init__" 601 "/claim/cut.py" 602 129 3 0 0 3 312 true 181 313 .none (.ref 314) (.ref 315) (.ref 316) 606 129 "/claim/cut.py" 607)::(nat_lit 318,oF "__init__" "Leaf.__init__" (inClass (top 53) 0) 3 .none .none (.str "notefall.rooms" 586) (.ref 317))::(nat_lit 319,oT #[(.str "number" 609),(.str "rows" 610)])::(nat_lit 320,⟨(.type "dict"),none,(.dict (List.toArray (⟨kh P "__module__",(.str "__module__" 595),(.str "notefall.rooms" 586)⟩::⟨kh P "__firstlineno__",(.str "__firstlineno__" 599),(.int 127 598)⟩::⟨kh P "__init__",(.str "__init__" 608),(.ref 318)⟩::⟨kh P "__static_attributes__",(.str "__static_attributes__" 611),(.ref 319)⟩::⟨kh P "__dict__",(.str "__dict__" 613),(.ref 322)⟩::⟨kh P "__weakref__",(.str "__weakref__" 615),(.ref 323)⟩::⟨kh P "__doc__",(.str "__doc__" 616),.none⟩::[])) 4),#[]⟩)::(nat_lit 321,⟨(.type "type"),none,(.cls ⟨"Leaf",[(.type "object")],[(.ref 321),(.type "object")],320,"Leaf",true,[],[],false,none,false⟩),#[none,none,(some (.str "Leaf" 588)),(some (.str "Leaf" 596)),(some (.builtin "object.__new__")),(some (.bool true))]⟩)::(nat_lit 322,⟨(.type "getset_descriptor"),none,(.fields #[(.str "__dict__" 612),(.ref 321),(.builtin "function.__dict__"),(.builtin "function.__dict__#set")]),#[]⟩)::(nat_lit 323,⟨(.type "getset_descriptor"),none,(.fields #[(.str "__weakref__" 614),(.ref 321),(.builtin "ExceptionGroup.__weakref__"),.none]),#[]⟩)::(nat_lit 333,oT #[])::(nat_lit 335,oT #[(.str "self" 634),(.str "number" 635),(.str "pivots" 636),(.str "children" 637),(.str "tray" 638)])::(nat_lit 336,oT #[])::(nat_lit 338,oC "__init__" 631 "Inner.__init__" 632 "/claim/cut.py" 633 134 5 0 0 3 333 true 181 334 .none (.ref 335) (.ref 336) (.ref 337) 639 134 "/claim/cut.py" 640)::(nat_lit 339,oF "__init__" "Inner.__init__" (inClass (top 54) 0) 3 .none .none (.str "notefall.rooms" 586) (.ref 338))::(nat_lit 340,oT #[(.str "children" 642),(.str "number" 643),(.str "pivots" 644),(.str "tray" 645)])::(nat_lit 341,⟨(.type "dict"),none,(.dict (List.toArray (⟨kh P "__module__",(.str "__module__" 626),(.str "notefall.rooms" 586)⟩::⟨kh P "__firstlineno__",(.str "__firstlineno__" 630),(.int 132 629)⟩::⟨kh P "__init__",(.str "__init__" 641),(.ref 339)⟩::⟨kh P "__static_attributes__",(.str "__static_attributes__" 646),(.ref 340)⟩::⟨kh P "__dict__",(.str "__dict__" 648),(.ref 343)⟩::⟨kh P "__weakref__",(.str "__weakref__" 650),(.ref 344)⟩::⟨kh P "__doc__",(.str "__doc__" 651),.none⟩::[])) 4),#[]⟩)::(nat_lit 342,⟨(.type "type"),none,(.cls ⟨"Inner",[(.type "object")],[(.ref 342),(.type "object")],341,"Inner",true,[],[],false,none,false⟩),#[none,none,(some (.str "Inner" 619)),(some (.str "Inner" 627)),(some (.builtin "object.__new__")),(some (.bool true))]⟩)::(nat_lit 343,⟨(.type "getset_descriptor"),none,(.fields #[(.str "__dict__" 647),(.ref 342),(.builtin "function.__dict__"),(.builtin "function.__dict__#set")]),#[]⟩)::(nat_lit 344,⟨(.type "getset_descriptor"),none,(.fields #[(.str "__weakref__" 649),(.ref 342),(.builtin "ExceptionGroup.__weakref__"),.none]),#[]⟩)::(nat_lit 347,oT #[])::(nat_lit 349,oT #[(.str "room" 657),(.str "low" 658),(.str "high" 659),(.str "edges" 660)])::(nat_lit 350,oT #[])::(nat_lit 352,oC "stretches" 654 "stretches" 655 "/claim/cut.py" 656 139 3 0 0 3 347 true 181 348 .none (.ref 349) (.ref 350) (.ref 351) 661 139 "/claim/cut.py" 662)::(nat_lit 353,oF "stretches" "stretches" (top 55) 3 .none .none (.str "notefall.rooms" 586) (.ref 352))::(nat_lit 354,oT #[])::(nat_lit 357,oC "child_place" 664 "child_place" 665 "/claim/cut.py" 666 142 2 0 0 3 354 true 181 355 .none .none .none (.ref 356) 667 142 "/claim/cut.py" 668)::(nat_lit 358,oF "child_place" "child_place" (top 56) 3 .none .none (.str "notefall.rooms" 586) (.ref 357))::(nat_lit 366,oT #[])::(nat_lit 368,oT #[(.str "self" 685),(.str "rule" 686),(.str "kept" 687),(.str "fresh" 688),(.str "top" 689)])::(nat_lit 369,oT #[])::(nat_lit 371,oC "__init__" 682 "House.__init__" 683 "/claim/cut.py" 684 146 5 0 0 3 366 true 181 367 .none (.ref 368) (.ref 369) (.ref 370) 690 146 "/claim/cut.py" 691)::(nat_lit 372,oF "__init__" "House.__init__" (inClass (top 57) 0) 3 .none .none (.str "notefall.rooms" 586) (.ref 371))::(nat_lit 373,oT #[])::(nat_lit 375,oT #[(.str "self" 696)])::(nat_lit 376,oT #[])::(nat_lit 378,oC "next_number" 693 "House.next_number" 694 "/claim/cut.py" 695 153 1 0 0 3 373 true 181 374 .none (.ref 375) (.ref 376) (.ref 377) 697 153 "/claim/cut.py" 698)::(nat_lit 379,oF "next_number" "House.next_number" (inClass (top 57) 1) 3 .none .none (.str "notefall.rooms" 586) (.ref 378))::(nat_lit 380,oT #[])::(nat_lit 382,oT #[(.str "self" 703),(.str "note" 704)])::(nat_lit 383,oT #[])::(nat_lit 385,oC "lay" 700 "House.lay" 701 "/claim/cut.py" 702 156 2 0 0 3 380 true 181 381 .none (.ref 382) (.ref 383) (.ref 384) 705 156 "/claim/cut.py" 706)::(nat_lit 386,oF "lay" "House.lay" (inClass (top 57) 2) 3 .none .none (.str "notefall.rooms" 586) (.ref 385))::(nat_lit 387,oT #[])::(nat_lit 389,oT #[(.str "self" 711),(.str "room" 712),(.str "low" 713),(.str "high" 714),(.str "notes" 715)])::(nat_lit 390,oT #[])::(nat_lit 392,oC "take_in" 708 "House.take_in" 709 "/claim/cut.py" 710 159 5 0 0 3 387 true 181 388 .none (.ref 389) (.ref 390) (.ref 391) 716 159 "/claim/cut.py" 717)::(nat_lit 393,oF "take_in" "House.take_in" (inClass (top 57) 3) 3 .none .none (.str "notefall.rooms" 586) (.ref 392))::(nat_lit 394,oT #[])::(nat_lit 396,oT #[(.str "self" 722),(.str "room" 723),(.str "low" 724),(.str "high" 725)])::(nat_lit 397,oT #[])::(nat_lit 399,oC "drain" 719 "House.drain" 720 "/claim/cut.py" 721 162 4 0 0 3 394 true 181 395 .none (.ref 396) (.ref 397) (.ref 398) 726 162 "/claim/cut.py" 727)::(nat_lit 400,oF "drain" "House.drain" (inClass (top 57) 4) 3 .none .none (.str "notefall.rooms" 586) (.ref 399))::(nat_lit 401,oT #[])::(nat_lit 403,oT #[(.str "self" 732),(.str "room" 733),(.str "place" 734),(.str "low" 735),(.str "high" 736)])::(nat_lit 404,oT #[])::(nat_lit 406,oC "pour_into" 729 "House.pour_into" 730 "/claim/cut.py" 731 165 5 0 0 3 401 true 181 402 .none (.ref 403) (.ref 404) (.ref 405) 737 165 "/claim/cut.py" 738)::(nat_lit 407,oF "pour_into" "House.pour_into" (inClass (top 57) 5) 3 .none .none (.str "notefall.rooms" 586) (.ref 406))::(nat_lit 408,oT #[])::(nat_lit 410,oT #[(.str "self" 743),(.str "room" 744),(.str "place" 745),(.str "tray" 746)])::(nat_lit 411,oT #[])::(nat_lit 413,oC "clear_out" 740 "House.clear_out" 741 "/claim/cut.py" 742 168 4 0 0 3 408 true 181 409 .none (.ref 410) (.ref 411) (.ref 412) 747 168 "/claim/cut.py" 748)::(nat_lit 414,oF "clear_out" "House.clear_out" (inClass (top 57) 6) 3 .none .none (.str "notefall.rooms" 586) (.ref 413))::(nat_lit 415,oT #[])::(nat_lit 417,oT #[(.str "self" 753),(.str "room" 754)])::(nat_lit 418,oT #[])::(nat_lit 420,oC "is_too_great" 750 "House.is_too_great" 751 "/claim/cut.py" 752 171 2 0 0 3 415 true 181 416 .none (.ref 417) (.ref 418) (.ref 419) 755 171 "/claim/cut.py" 756)::(nat_lit 421,oF "is_too_great" "House.is_too_great" (inClass (top 57) 7) 3 .none .none (.str "notefall.rooms" 586) (.ref 420))::(nat_lit 422,oT #[])::(nat_lit 424,oT #[(.str "self" 761),(.str "room" 762),(.str "place" 763),(.str "low" 764),(.str "high" 765)])::(nat_lit 425,oT #[])::(nat_lit 427,oC "mend" 758 "House.mend" 759 "/claim/cut.py" 760 174 5 0 0 3 422 true 181 423 .none (.ref 424) (.ref 425) (.ref 426) 766 174 "/claim/cut.py" 767)::(nat_lit 428,oF "mend" "House.mend" (inClass (top 57) 8) 3 .none .none (.str "notefall.rooms" 586) (.ref 427))::(nat_lit 429,oT #[])::(nat_lit 431,oT #[(.str "self" 772),(.str "room" 773),(.str "place" 774),(.str "low" 775),(.str "high" 776)])::(nat_lit 432,oT #[])::(nat_lit 434,oC "part_child" 769 "House.part_child" 770 "/claim/cut.py" 771 177 5 0 0 3 429 true 181 430 .none (.ref 431) (.ref 432) (.ref 433) 777 177 "/claim/cut.py" 778)::(nat_lit 435,oF "part_child" "House.part_child" (inClass (top 57) 9) 3 .none .none (.str "notefall.rooms" 586) (.ref 434))::(nat_lit 436,oT #[])::(nat_lit 438,oT #[(.str "self" 783),(.str "leaf" 784)])::(nat_lit 439,oT #[])::(nat_lit 441,oC "leaf_parts" 780 "House.leaf_parts" 781 "/claim/cut.py" 782 180 2 0 0 3 436 true 181 437 .none (.ref 438) (.ref 439) (.ref 440) 785 180 "/claim/cut.py" 786)::(nat_lit 442,oF "leaf_parts" "House.leaf_parts" (inClass (top 57) 10) 3 .none .none (.str "notefall.rooms" 586) (.ref 441))::(nat_lit 443,oT #[])::(nat_lit 445,oT #[(.str "self" 791),(.str "inner" 792),(.str "low" 793),(.str "high" 794)])::(nat_lit 446,oT #[])::(nat_lit 448,oC "inner_parts" 788 "House.inner_parts" 789 "/claim/cut.py" 790 183 4 0 0 3 443 true 181 444 .none (.ref 445) (.ref 446) (.ref 447) 795 183 "/claim/cut.py" 796)::(nat_lit 449,oF "inner_parts" "House.inner_parts" (inClass (top 57) 11) 3 .none .none (.str "notefall.rooms" 586) (.ref 448))::(nat_lit 450,oT #[])::(nat_lit 452,oT #[(.str "self" 801),(.str "room" 802),(.str "many" 803)])::(nat_lit 453,oT #[])::(nat_lit 455,oC "part_numbers" 798 "House.part_numbers" 799 "/claim/cut.py" 800 186 3 0 0 3 450 true 181 451 .none (.ref 452) (.ref 453) (.ref 454) 804 186 "/claim/cut.py" 805)::(nat_lit 456,oF "part_numbers" "House.part_numbers" (inClass (top 57) 12) 3 .none .none (.str "notefall.rooms" 586) (.ref 455))::(nat_lit 457,oT #[])::(nat_lit 459,oT #[(.str "self" 810)])::(nat_lit 460,oT #[])::(nat_lit 462,oC "mend_top" 807 "House.mend_top" 808 "/claim/cut.py" 809 189 1 0 0 3 457 true 181 458 .none (.ref 459) (.ref 460) (.ref 461) 811 189 "/claim/cut.py" 812)::(nat_lit 463,oF "mend_top" "House.mend_top" (inClass (top 57) 13) 3 .none .none (.str "notefall.rooms" 586) (.ref 462))::(nat_lit 464,oT #[(.str "fresh" 814),(.str "kept" 815),(.str "rule" 816),(.str "top" 817),(.str "trail" 818)])::(nat_lit 465,⟨(.type "dict"),none,(.dict (List.toArray (⟨kh P "__module__",(.str "__module__" 677),(.str "notefall.rooms" 586)⟩::⟨kh P "__firstlineno__",(.str "__firstlineno__" 681),(.int 144 680)⟩::⟨kh P "__init__",(.str "__init__" 692),(.ref 372)⟩::⟨kh P "next_number",(.str "next_number" 699),(.ref 379)⟩::⟨kh P "lay",(.str "lay" 707),(.ref 386)⟩::⟨kh P "take_in",(.str "take_in" 718),(.ref 393)⟩::⟨kh P "drain",(.str "drain" 728),(.ref 400)⟩::⟨kh P "pour_into",(.str "pour_into" 739),(.ref 407)⟩::⟨kh P "clear_out",(.str "clear_out" 749),(.ref 414)⟩::⟨kh P "is_too_great",(.str "is_too_great" 757),(.ref 421)⟩::⟨kh P "mend",(.str "mend" 768),(.ref 428)⟩::⟨kh P "part_child",(.str "part_child" 779),(.ref 435)⟩::⟨kh P "leaf_parts",(.str "leaf_parts" 787),(.ref 442)⟩::⟨kh P "inner_parts",(.str "inner_parts" 797),(.ref 449)⟩::⟨kh P "part_numbers",(.str "part_numbers" 806),(.ref 456)⟩::⟨kh P "mend_top",(.str "mend_top" 813),(.ref 463)⟩::⟨kh P "__static_attributes__",(.str "__static_attributes__" 819),(.ref 464)⟩::⟨kh P "__dict__",(.str "__dict__" 821),(.ref 467)⟩::⟨kh P "__weakref__",(.str "__weakref__" 823),(.ref 468)⟩::⟨kh P "__doc__",(.str "__doc__" 824),.none⟩::[])) 4),#[]⟩)::(nat_lit 466,⟨(.type "type"),none,(.cls ⟨"House",[(.type "object")],[(.ref 466),(.type "object")],465,"House",true,[],[],false,none,false⟩),#[none,none,(some (.str "House" 670)),(some (.str "House" 678)),(some (.builtin "object.__new__")),(some (.bool true))]⟩)::(nat_lit 467,⟨(.type "getset_descriptor"),none,(.fields #[(.str "__dict__" 820),(.ref 466),(.builtin "function.__dict__"),(.builtin "function.__dict__#set")]),#[]⟩)::(nat_lit 468,⟨(.type "getset_descriptor"),none,(.fields #[(.str "__weakref__" 822),(.ref 466),(.builtin "ExceptionGroup.__weakref__"),.none]),#[]⟩)::(nat_lit 471,oT #[])::(nat_lit 473,oT #[(.str "rule" 830)])::(nat_lit 474,oT #[])::(nat_lit 476,oC "new_house" 827 "new_house" 828 "/claim/cut.py" 829 191 1 0 0 3 471 true 181 472 .none (.ref 473) (.ref 474) (.ref 475) 831 191 "/claim/cut.py" 832)::(nat_lit 477,oF "new_house" "new_house" (top 58) 3 .none .none (.str "notefall.rooms" 586) (.ref 476))::(nat_lit 478,oT #[])::(nat_lit 481,oC "children_of" 836 "children_of" 837 "/claim/cut.py" 838 194 3 0 0 3 478 true 181 479 .none .none .none (.ref 480) 839 194 "/claim/cut.py" 840)::(nat_lit 482,oF "children_of" "children_of" (top 60) 3 .none .none (.str "notefall.rolls" 834) (.ref 481))::(nat_lit 483,oT #[])::(nat_lit 485,oT #[(.str "top" 845),(.str "told" 846),(.str "waiting" 847),(.str "room" 848),(.str "low" 849),(.str "high" 850)])::(nat_lit 486,oT #[])::(nat_lit 488,oC "all_rooms" 842 "all_rooms" 843 "/claim/cut.py" 844 196 1 0 0 3 483 true 181 484 .none (.ref 485) (.ref 486) (.ref 487) 851 196 "/claim/cut.py" 852)::(nat_lit 489,oF "all_rooms" "all_rooms" (top 61) 3 .none .none (.str "notefall.rolls" 834) (.ref 488))::(nat_lit 490,oT #[])::(nat_lit 493,oC "own_rows" 854 "own_rows" 855 "/claim/cut.py" 856 205 1 0 0 3 490 true 181 491 .none .none .none (.ref 492) 857 205 "/claim/cut.py" 858)::(nat_lit 494,oF "own_rows" "own_rows" (top 62) 3 .none .none (.str "notefall.rolls" 834) (.ref 493))::(nat_lit 495,oT #[])::(nat_lit 498,oC "room_told" 860 "room_told" 861 "/claim/cut.py" 862 207 1 0 0 3 495 true 181 496 .none .none .none (.ref 497) 863 207 "/claim/cut.py" 864)::(nat_lit 499,oF "room_told" "room_told" (top 63) 3 .none .none (.str "notefall.rolls" 834) (.ref 498))::(nat_lit 500,oT #[])::(nat_lit 503,oC "roll_of" 866 "roll_of" 867 "/claim/cut.py" 868 212 1 0 0 3 500 true 181 501 .none .none .none (.ref 502) 869 212 "/claim/cut.py" 870)::(nat_lit 504,oF "roll_of" "roll_of" (top 64) 3 .none .none (.str "notefall.rolls" 834) (.ref 503))::(nat_lit 505,oT #[])::(nat_lit 507,oT #[(.str "house" 877),(.str "at" 878)])::(nat_lit 508,oT #[])::(nat_lit 510,oC "check_mark" 874 "check_mark" 875 "/claim/cut.py" 876 215 2 0 0 3 505 true 181 506 .none (.ref 507) (.ref 508) (.ref 509) 879 215 "/claim/cut.py" 880)::(nat_lit 511,oF "check_mark" "check_mark" (top 66) 3 .none .none (.str "notefall.reads" 872) (.ref 510))::(nat_lit 512,oT #[])::(nat_lit 514,oT #[(.str "most" 885)])::(nat_lit 515,oT #[])::(nat_lit 517,oC "check_many" 882 "check_many" 883 "/claim/cut.py" 884 218 1 0 0 3 512 true 181 513 .none (.ref 514) (.ref 515) (.ref 516) 886 218 "/claim/cut.py" 887)::(nat_lit 518,oF "check_many" "check_many" (top 67) 3 .none .none (.str "notefall.reads" 872) (.ref 517))::(nat_lit 519,oT #[])::(nat_lit 521,oT #[(.str "top" 892),(.str "key" 893),(.str "rooms" 894),(.str "room" 895)])::(nat_lit 522,oT #[])::(nat_lit 524,oC "rooms_to" 889 "rooms_to" 890 "/claim/cut.py" 891 221 2 0 0 3 519 true 181 520 .none (.ref 521) (.ref 522) (.ref 523) 896 221 "/claim/cut.py" 897)::(nat_lit 525,oF "rooms_to" "rooms_to" (top 68) 3 .none .none (.str "notefall.reads" 872) (.ref 524))::(nat_lit 526,oT #[])::(nat_lit 528,oT #[(.str "leaf" 902),(.str "key" 903),(.str "other" 904),(.str "versions" 905)])::(nat_lit 529,oT #[])::(nat_lit 531,oC "versions_in" 899 "versions_in" 900 "/claim/cut.py" 901 227 2 0 0 3 526 true 181 527 .none (.ref 528) (.ref 529) (.ref 530) 906 227 "/claim/cut.py" 907)::(nat_lit 532,oF "versions_in" "versions_in" (top 69) 3 .none .none (.str "notefall.reads" 872) (.ref 531))::(nat_lit 533,oT #[])::(nat_lit 535,oT #[(.str "top" 912),(.str "key" 913),(.str "at" 914),(.str "inners" 915),(.str "leaf" 916),(.str "value" 917),(.str "room" 918)])::(nat_lit 536,oT #[])::(nat_lit 538,oC "told_value" 909 "told_value" 910 "/claim/cut.py" 911 232 3 0 0 3 533 true 181 534 .none (.ref 535) (.ref 536) (.ref 537) 919 232 "/claim/cut.py" 920)::(nat_lit 539,oF "told_value" "told_value" (top 70) 3 .none .none (.str "notefall.reads" 872) (.ref 538))::(nat_lit 540,oT #[])::(nat_lit 543,oC "leaf_table" 922 "leaf_table" 923 "/claim/cut.py" 924 238 2 0 0 3 540 true 181 541 .none .none .none (.ref 542) 925 238 "/claim/cut.py" 926)::(nat_lit 544,oF "leaf_table" "leaf_table" (top 71) 3 .none .none (.str "notefall.reads" 872) (.ref 543))::(nat_lit 545,oT #[])::(nat_lit 547,oT #[(.str "table" 931),(.str "note" 932),(.str "keys" 933),(.str "key" 934)])::(nat_lit 548,oT #[])::(nat_lit 550,oC "do_to" 928 "do_to" 929 "/claim/cut.py" 930 240 2 0 0 3 545 true 181 546 .none (.ref 547) (.ref 548) (.ref 549) 935 240 "/claim/cut.py" 936)::(nat_lit 551,oF "do_to" "do_to" (top 72) 3 .none .none (.str "notefall.reads" 872) (.ref 550))::(nat_lit 552,oT #[])::(nat_lit 554,oT #[(.str "room" 941),(.str "low" 942),(.str "high" 943),(.str "at" 944),(.str "table" 945),(.str "child" 946),(.str "first" 947),(.str "end" 948),(.str "note" 949)])::(nat_lit 555,oT #[])::(nat_lit 557,oC "room_table" 938 "room_table" 939 "/claim/cut.py" 940 244 4 0 0 3 552 true 181 553 .none (.ref 554) (.ref 555) (.ref 556) 950 244 "/claim/cut.py" 951)::(nat_lit 558,oF "room_table" "room_table" (top 73) 3 .none .none (.str "notefall.reads" 872) (.ref 557))::(nat_lit 559,oT #[])::(nat_lit 562,oC "pairs" 953 "pairs" 954 "/claim/cut.py" 955 254 4 0 0 3 559 true 181 560 .none .none .none (.ref 561) 956 254 "/claim/cut.py" 957)::(nat_lit 563,oF "pairs" "pairs" (top 74) 3 .none .none (.str "notefall.reads" 872) (.ref 562))::(nat_lit 564,⟨(.type "dict"),none,(.dict (List.toArray (⟨kh P "at",(.str "at" 959),.none⟩::[])) 1),#[]⟩)::(nat_lit 565,oT #[])::(nat_lit 567,oT #[(.str "house" 963),(.str "key" 964),(.str "at" 965)])::(nat_lit 568,oT #[])::(nat_lit 570,oC "read_key" 960 "read_key" 961 "/claim/cut.py" 962 257 2 0 1 3 565 true 181 566 .none (.ref 567) (.ref 568) (.ref 569) 966 257 "/claim/cut.py" 967)::(nat_lit 571,oF "read_key" "read_key" (top 75) 3 .none (.ref 564) (.str "notefall.reads" 872) (.ref 570))::(nat_lit 572,oT #[(.int 0 969),(.int 1000000000000 330)])::(nat_lit 573,⟨(.type "dict"),none,(.dict (List.toArray (⟨kh P "at",(.str "at" 970),.none⟩::⟨kh P "most",(.str "most" 971),.none⟩::⟨kh P "back",(.str "back" 972),(.bool false)⟩::[])) 3),#[]⟩)::(nat_lit 574,oT #[])::(nat_lit 576,oT #[(.str "house" 976),(.str "low" 977),(.str "high" 978),(.str "at" 979),(.str "most" 980),(.str "back" 981),(.str "told" 982)])::(nat_lit 577,oT #[])::(nat_lit 579,oC "read_stretch" 973 "read_stretch" 974 "/claim/cut.py" 975 261 3 0 3 3 574 true 181 575 .none (.ref 576) (.ref 577) (.ref 578) 983 261 "/claim/cut.py" 984)::(nat_lit 580,oF "read_stretch" "read_stretch" (top 76) 3 (.ref 572) (.ref 573) (.str "notefall.reads" 872) (.ref 579))::(nat_lit 581,⟨(.type "dict"),none,(.dict (List.toArray (⟨kh P "at",(.str "at" 986),.none⟩::[])) 1),#[]⟩)::(nat_lit 582,oT #[])::(nat_lit 584,oT #[(.str "house" 990),(.str "low" 991),(.str "high" 992),(.str "at" 993)])::(nat_lit 585,oT #[])::(nat_lit 587,oC "read_many" 987 "read_many" 988 "/claim/cut.py" 989 269 3 0 1 3 582 true 181 583 .none (.ref 584) (.ref 585) (.ref 586) 994 269 "/claim/cut.py" 995)::(nat_lit 588,oF "read_many" "read_many" (top 77) 3 .none (.ref 581) (.str "notefall.reads" 872) (.ref 587))::(nat_lit 596,oT #[])::(nat_lit 598,oT #[(.str "self" 1014),(.str "rule" 1015)])::(nat_lit 599,oT #[])::(nat_lit 601,oC "__init__" 1011 "Store.__init__" 1012 "/claim/cut.py" 1013 274 2 0 0 3 596 true 181 597 .none (.ref 598) (.ref 599) (.ref 600) 1016 274 "/claim/cut.py" 1017)::(nat_lit 602,oF "__init__" "Store.__init__" (inClass (top 79) 0) 3 .none .none (.str "notefall.store" 997) (.ref 601))::(nat_lit 603,oT #[])::(nat_lit 605,oT #[(.str "self" 1022)])::(nat_lit 606,oT #[])::(nat_lit 608,oC "check_free" 1019 "Store.check_free" 1020 "/claim/cut.py" 1021 282 1 0 0 3 603 true 181 604 .none (.ref 605) (.ref 606) (.ref 607) 1023 282 "/claim/cut.py" 1024)::(nat_lit 609,oF "check_free" "Store.check_free" (inClass (top 79) 1) 3 .none .none (.str "notefall.store" 997) (.ref 608))::(nat_lit 610,oT #[])::(nat_lit 612,oT #[(.str "self" 1029),(.str "told" 1030)])::(nat_lit 613,oT #[])::(nat_lit 615,oC "ready_deed" 1026 "Store.ready_deed" 1027 "/claim/cut.py" 1028 285 2 0 0 3 610 true 181 611 .none (.ref 612) (.ref 613) (.ref 614) 1031 285 "/claim/cut.py" 1032)::(nat_lit 616,oF "ready_deed" "Store.ready_deed" (inClass (top 79) 2) 3 .none .none (.str "notefall.store" 997) (.ref 615))::(nat_lit 617,oT #[])::(nat_lit 619,oT #[(.str "self" 1037),(.str "told" 1038)])::(nat_lit 620,oT #[])::(nat_lit 622,oC "do" 1034 "Store.do" 1035 "/claim/cut.py" 1036 288 2 0 0 3 617 true 181 618 .none (.ref 619) (.ref 620) (.ref 621) 1039 288 "/claim/cut.py" 1040)::(nat_lit 623,oF "do" "Store.do" (inClass (top 79) 3) 3 .none .none (.str "notefall.store" 997) (.ref 622))::(nat_lit 624,oT #[])::(nat_lit 626,oT #[(.str "self" 1045)])::(nat_lit 627,oT #[])::(nat_lit 629,oC "marks" 1042 "Store.marks" 1043 "/claim/cut.py" 1044 291 1 0 0 3 624 true 181 625 .none (.ref 626) (.ref 627) (.ref 628) 1046 291 "/claim/cut.py" 1047)::(nat_lit 630,oF "marks" "Store.marks" (inClass (top 79) 4) 3 .none .none (.str "notefall.store" 997) (.ref 629))::(nat_lit 631,⟨(.type "dict"),none,(.dict (List.toArray (⟨kh P "at",(.str "at" 1049),.none⟩::[])) 1),#[]⟩)::(nat_lit 632,oT #[])::(nat_lit 634,oT #[(.str "self" 1053),(.str "key" 1054),(.str "at" 1055)])::(nat_lit 635,oT #[])::(nat_lit 637,oC "read" 1050 "Store.read" 1051 "/claim/cut.py" 1052 294 2 0 1 3 632 true 181 633 .none (.ref 634) (.ref 635) (.ref 636) 1056 294 "/claim/cut.py" 1057)::(nat_lit 638,oF "read" "Store.read" (inClass (top 79) 5) 3 .none (.ref 631) (.str "notefall.store" 997) (.ref 637))::(nat_lit 639,oT #[(.int 0 1059),(.int 1000000000000 330)])::(nat_lit 640,⟨(.type "dict"),none,(.dict (List.toArray (⟨kh P "at",(.str "at" 1060),.none⟩::⟨kh P "most",(.str "most" 1061),.none⟩::⟨kh P "back",(.str "back" 1062),(.bool false)⟩::[])) 3),#[]⟩)::(nat_lit 641,oT #[])::(nat_lit 643,oT #[(.str "self" 1066),(.str "low" 1067),(.str "high" 1068),(.str "at" 1069),(.str "most" 1070),(.str "back" 1071)])::(nat_lit 644,oT #[])::(nat_lit 646,oC "stretch" 1063 "Store.stretch" 1064 "/claim/cut.py" 1065 297 3 0 3 3 641 true 181 642 .none (.ref 643) (.ref 644) (.ref 645) 1072 297 "/claim/cut.py" 1073)::(nat_lit 647,oF "stretch" "Store.stretch" (inClass (top 79) 6) 3 (.ref 639) (.ref 640) (.str "notefall.store" 997) (.ref 646))::(nat_lit 648,oT #[])::(nat_lit 650,oT #[(.str "self" 1078)])::(nat_lit 651,oT #[])::(nat_lit 653,oC "__len__" 1075 "Store.__len__" 1076 "/claim/cut.py" 1077 300 1 0 0 3 648 true 181 649 .none (.ref 650) (.ref 651) (.ref 652) 1079 300 "/claim/cut.py" 1080)::(nat_lit 654,oF "__len__" "Store.__len__" (inClass (top 79) 7) 3 .none .none (.str "notefall.store" 997) (.ref 653))::(nat_lit 655,⟨(.type "dict"),none,(.dict (List.toArray (⟨kh P "at",(.str "at" 1082),.none⟩::[])) 1),#[]⟩)::(nat_lit 656,oT #[])::(nat_lit 658,oT #[(.str "self" 1086),(.str "key" 1087),(.str "at" 1088)])::(nat_lit 659,oT #[])::(nat_lit 661,oC "above" 1083 "Store.above" 1084 "/claim/cut.py" 1085 303 2 0 1 3 656 true 181 657 .none (.ref 658) (.ref 659) (.ref 660) 1089 303 "/claim/cut.py" 1090)::(nat_lit 662,oF "above" "Store.above" (inClass (top 79) 8) 3 .none (.ref 655) (.str "notefall.store" 997) (.ref 661))::(nat_lit 663,⟨(.type "dict"),none,(.dict (List.toArray (⟨kh P "at",(.str "at" 1092),.none⟩::[])) 1),#[]⟩)::(nat_lit 664,oT #[])::(nat_lit 666,oT #[(.str "self" 1096),(.str "key" 1097),(.str "at" 1098)])::(nat_lit 667,oT #[])::(nat_lit 669,oC "below" 1093 "Store.below" 1094 "/claim/cut.py" 1095 306 2 0 1 3 664 true 181 665 .none (.ref 666) (.ref 667) (.ref 668) 1099 306 "/claim/cut.py" 1100)::(nat_lit 670,oF "below" "Store.below" (inClass (top 79) 9) 3 .none (.ref 663) (.str "notefall.store" 997) (.ref 669))::(nat_lit 671,⟨(.type "dict"),none,(.dict (List.toArray (⟨kh P "at",(.str "at" 1102),.none⟩::[])) 1),#[]⟩)::(nat_lit 672,oT #[])::(nat_lit 674,oT #[(.str "self" 1106),(.str "low" 1107),(.str "high" 1108),(.str "at" 1109)])::(nat_lit 675,oT #[])::(nat_lit 677,oC "many" 1103 "Store.many" 1104 "/claim/cut.py" 1105 309 3 0 1 3 672 true 181 673 .none (.ref 674) (.ref 675) (.ref 676) 1110 309 "/claim/cut.py" 1111)::(nat_lit 678,oF "many" "Store.many" (inClass (top 79) 10) 3 .none (.ref 671) (.str "notefall.store" 997) (.ref 677))::(nat_lit 679,⟨(.type "dict"),none,(.dict (List.toArray (⟨kh P "at",(.str "at" 1113),.none⟩::[])) 1),#[]⟩)::(nat_lit 680,oT #[])::(nat_lit 682,oT #[(.str "self" 1117),(.str "low" 1118),(.str "high" 1119),(.str "at" 1120)])::(nat_lit 683,oT #[])::(nat_lit 685,oC "total" 1114 "Store.total" 1115 "/claim/cut.py" 1116 312 3 0 1 3 680 true 181 681 .none (.ref 682) (.ref 683) (.ref 684) 1121 312 "/claim/cut.py" 1122)::(nat_lit 686,oF "total" "Store.total" (inClass (top 79) 11) 3 .none (.ref 679) (.str "notefall.store" 997) (.ref 685))::(nat_lit 687,oT #[])::(nat_lit 689,oT #[(.str "self" 1127),(.str "one" 1128),(.str "other" 1129)])::(nat_lit 690,oT #[])::(nat_lit 692,oC "unlike" 1124 "Store.unlike" 1125 "/claim/cut.py" 1126 315 3 0 0 3 687 true 181 688 .none (.ref 689) (.ref 690) (.ref 691) 1130 315 "/claim/cut.py" 1131)::(nat_lit 693,oF "unlike" "Store.unlike" (inClass (top 79) 12) 3 .none .none (.str "notefall.store" 997) (.ref 692))::(nat_lit 694,⟨(.type "dict"),none,(.dict (List.toArray (⟨kh P "at",(.str "at" 1133),.none⟩::[])) 1),#[]⟩)::(nat_lit 695,oT #[])::(nat_lit 697,oT #[(.str "self" 1137),(.str "key" 1138),(.str "at" 1139)])::(nat_lit 698,oT #[])::(nat_lit 700,oC "way" 1134 "Store.way" 1135 "/claim/cut.py" 1136 318 2 0 1 3 695 true 181 696 .none (.ref 697) (.ref 698) (.ref 699) 1140 318 "/claim/cut.py" 1141)::(nat_lit 701,oF "way" "Store.way" (inClass (top 79) 13) 3 .none (.ref 694) (.str "notefall.store" 997) (.ref 700))::(nat_lit 702,oT #[])::(nat_lit 704,oT #[(.str "self" 1146),(.str "room" 1147),(.str "child" 1148)])::(nat_lit 705,oT #[])::(nat_lit 707,oC "pour" 1143 "Store.pour" 1144 "/claim/cut.py" 1145 321 3 0 0 3 702 true 181 703 .none (.ref 704) (.ref 705) (.ref 706) 1149 321 "/claim/cut.py" 1150)::(nat_lit 708,oF "pour" "Store.pour" (inClass (top 79) 14) 3 .none .none (.str "notefall.store" 997) (.ref 707))::(nat_lit 709,oT #[])::(nat_lit 711,oT #[(.str "self" 1155),(.str "low" 1156),(.str "high" 1157)])::(nat_lit 712,oT #[])::(nat_lit 714,oC "press" 1152 "Store.press" 1153 "/claim/cut.py" 1154 324 3 0 0 3 709 true 181 710 .none (.ref 711) (.ref 712) (.ref 713) 1158 324 "/claim/cut.py" 1159)::(nat_lit 715,oF "press" "Store.press" (inClass (top 79) 15) 3 .none .none (.str "notefall.store" 997) (.ref 714))::(nat_lit 716,oT #[])::(nat_lit 718,oT #[(.str "self" 1164)])::(nat_lit 719,oT #[])::(nat_lit 721,oC "squeeze" 1161 "Store.squeeze" 1162 "/claim/cut.py" 1163 327 1 0 0 3 716 true 181 717 .none (.ref 718) (.ref 719) (.ref 720) 1165 327 "/claim/cut.py" 1166)::(nat_lit 722,oF "squeeze" "Store.squeeze" (inClass (top 79) 16) 3 .none .none (.str "notefall.store" 997) (.ref 721))::(nat_lit 723,oT #[(.int 0 1168),(.int 1000000000000 330)])::(nat_lit 724,oT #[])::(nat_lit 726,oT #[(.str "self" 1172),(.str "tell" 1173),(.str "low" 1174),(.str "high" 1175),(.str "told" 1176),(.str "key" 1177),(.str "value" 1178)])::(nat_lit 727,oT #[])::(nat_lit 729,oC "each" 1169 "Store.each" 1170 "/claim/cut.py" 1171 330 4 0 0 3 724 true 181 725 .none (.ref 726) (.ref 727) (.ref 728) 1179 330 "/claim/cut.py" 1180)::(nat_lit 730,oF "each" "Store.each" (inClass (top 79) 17) 3 (.ref 723) .none (.str "notefall.store" 997) (.ref 729))::(nat_lit 731,oT #[])::(nat_lit 733,oT #[(.str "self" 1185)])::(nat_lit 734,oT #[])::(nat_lit 736,oC "steps" 1182 "Store.steps" 1183 "/claim/cut.py" 1184 340 1 0 0 3 731 true 181 732 .none (.ref 733) (.ref 734) (.ref 735) 1186 340 "/claim/cut.py" 1187)::(nat_lit 737,oF "steps" "Store.steps" (inClass (top 79) 18) 3 .none .none (.str "notefall.store" 997) (.ref 736))::(nat_lit 738,oT #[])::(nat_lit 740,oT #[(.str "self" 1192)])::(nat_lit 741,oT #[])::(nat_lit 743,oC "twin" 1189 "Store.twin" 1190 "/claim/cut.py" 1191 343 1 0 0 3 738 true 181 739 .none (.ref 740) (.ref 741) (.ref 742) 1193 343 "/claim/cut.py" 1194)::(nat_lit 744,oF "twin" "Store.twin" (inClass (top 79) 19) 3 .none .none (.str "notefall.store" 997) (.ref 743))::(nat_lit 745,oT #[])::(nat_lit 747,oT #[(.str "self" 1199)])::(nat_lit 748,oT #[])::(nat_lit 750,oC "image" 1196 "Store.image" 1197 "/claim/cut.py" 1198 346 1 0 0 3 745 true 181 746 .none (.ref 747) (.ref 748) (.ref 749) 1200 346 "/claim/cut.py" 1201)::(nat_lit 751,oF "image" "Store.image" (inClass (top 79) 20) 3 .none .none (.str "notefall.store" 997) (.ref 750))::(nat_lit 752,oT #[(.str "house" 1203),(.str "last" 1204),(.str "rule" 1205),(.str "runs" 1206)])::(nat_lit 753,⟨(.type "dict"),none,(.dict (List.toArray (⟨kh P "__module__",(.str "__module__" 1006),(.str "notefall.store" 997)⟩::⟨kh P "__firstlineno__",(.str "__firstlineno__" 1010),(.int 272 1009)⟩::⟨kh P "__init__",(.str "__init__" 1018),(.ref 602)⟩::⟨kh P "check_free",(.str "check_free" 1025),(.ref 609)⟩::⟨kh P "ready_deed",(.str "ready_deed" 1033),(.ref 616)⟩::⟨kh P "do",(.str "do" 1041),(.ref 623)⟩::⟨kh P "marks",(.str "marks" 1048),(.ref 630)⟩::⟨kh P "read",(.str "read" 1058),(.ref 638)⟩::⟨kh P "stretch",(.str "stretch" 1074),(.ref 647)⟩::⟨kh P "__len__",(.str "__len__" 1081),(.ref 654)⟩::⟨kh P "above",(.str "above" 1091),(.ref 662)⟩::⟨kh P "below",(.str "below" 1101),(.ref 670)⟩::⟨kh P "many",(.str "many" 1112),(.ref 678)⟩::⟨kh P "total",(.str "total" 1123),(.ref 686)⟩::⟨kh P "unlike",(.str "unlike" 1132),(.ref 693)⟩::⟨kh P "way",(.str "way" 1142),(.ref 701)⟩::⟨kh P "pour",(.str "pour" 1151),(.ref 708)⟩::⟨kh P "press",(.str "press" 1160),(.ref 715)⟩::⟨kh P "squeeze",(.str "squeeze" 1167),(.ref 722)⟩::⟨kh P "each",(.str "each" 1181),(.ref 730)⟩::⟨kh P "steps",(.str "steps" 1188),(.ref 737)⟩::⟨kh P "twin",(.str "twin" 1195),(.ref 744)⟩::⟨kh P "image",(.str "image" 1202),(.ref 751)⟩::⟨kh P "__static_attributes__",(.str "__static_attributes__" 1207),(.ref 752)⟩::⟨kh P "__dict__",(.str "__dict__" 1209),(.ref 755)⟩::⟨kh P "__weakref__",(.str "__weakref__" 1211),(.ref 756)⟩::⟨kh P "__doc__",(.str "__doc__" 1212),.none⟩::[])) 4),#[]⟩)::(nat_lit 754,⟨(.type "type"),none,(.cls ⟨"Store",[(.type "object")],[(.ref 754),(.type "object")],753,"Store",true,[],[],false,none,false⟩),#[none,none,(some (.str "Store" 999)),(some (.str "Store" 1007)),(some (.builtin "object.__new__")),(some (.bool true))]⟩)::(nat_lit 755,⟨(.type "getset_descriptor"),none,(.fields #[(.str "__dict__" 1208),(.ref 754),(.builtin "function.__dict__"),(.builtin "function.__dict__#set")]),#[]⟩)::(nat_lit 756,⟨(.type "getset_descriptor"),none,(.fields #[(.str "__weakref__" 1210),(.ref 754),(.builtin "ExceptionGroup.__weakref__"),.none]),#[]⟩)::(nat_lit 759,oT #[])::(nat_lit 761,oT #[(.str "taken" 1222),(.str "place" 1223)])::(nat_lit 762,oT #[])::(nat_lit 764,oC "free_place" 1219 "free_place" 1220 "/claim/cut.py" 1221 350 1 0 0 3 759 true 181 760 .none (.ref 761) (.ref 762) (.ref 763) 1224 350 "/claim/cut.py" 1225)::(nat_lit 765,oF "free_place" "free_place" (top 82) 3 .none .none (.str "notefall.kept" 1215) (.ref 764))::(nat_lit 766,oT #[])::(nat_lit 768,oT #[(.str "room" 1230)])::(nat_lit 769,oT #[])::(nat_lit 771,oC "children_told" 1227 "children_told" 1228 "/claim/cut.py" 1229 355 1 0 0 3 766 true 181 767 .none (.ref 768) (.ref 769) (.ref 770) 1231 355 "/claim/cut.py" 1232)::(nat_lit 772,oF "children_told" "children_told" (top 83) 3 .none .none (.str "notefall.kept" 1215) (.ref 771))::(nat_lit 780,oT #[])::(nat_lit 782,oT #[(.str "self" 1249),(.str "store" 1250),(.str "shelf" 1251),(.str "series" 1252),(.str "stands" 1253)])::(nat_lit 783,oT #[])::(nat_lit 785,oC "__init__" 1246 "Kept.__init__" 1247 "/claim/cut.py" 1248 359 5 0 0 3 780 true 181 781 .none (.ref 782) (.ref 783) (.ref 784) 1254 359 "/claim/cut.py" 1255)::(nat_lit 786,oF "__init__" "Kept.__init__" (inClass (top 84) 0) 3 .none .none (.str "notefall.kept" 1215) (.ref 785))::(nat_lit 787,oT #[])::(nat_lit 789,oT #[(.str "self" 1260),(.str "told" 1261)])::(nat_lit 790,oT #[])::(nat_lit 792,oC "do" 1257 "Kept.do" 1258 "/claim/cut.py" 1259 365 2 0 0 3 787 true 181 788 .none (.ref 789) (.ref 790) (.ref 791) 1262 365 "/claim/cut.py" 1263)::(nat_lit 793,oF "do" "Kept.do" (inClass (top 84) 1) 3 .none .none (.str "notefall.kept" 1215) (.ref 792))::(nat_lit 794,oT #[])::(nat_lit 797,oC "settle" 1265 "Kept.settle" 1266 "/claim/cut.py" 1267 368 1 0 0 3 794 true 181 795 .none .none .none (.ref 796) 1268 368 "/claim/cut.py" 1269)::(nat_lit 798,oF "settle" "Kept.settle" (inClass (top 84) 2) 3 .none .none (.str "notefall.kept" 1215) (.ref 797))::(nat_lit 799,oT #[])::(nat_lit 801,oT #[(.str "self" 1274),(.str "number" 1275),(.str "body" 1276),(.str "other" 1277),(.str "place" 1278)])::(nat_lit 802,oT #[])::(nat_lit 804,oC "standing_place" 1271 "Kept.standing_place" 1272 "/claim/cut.py" 1273 388 3 0 0 3 799 true 181 800 .none (.ref 801) (.ref 802) (.ref 803) 1279 388 "/claim/cut.py" 1280)::(nat_lit 805,oF "standing_place" "Kept.standing_place" (inClass (top 84) 3) 3 .none .none (.str "notefall.kept" 1215) (.ref 804))::(nat_lit 806,oT #[])::(nat_lit 808,oT #[(.str "self" 1285),(.str "head" 1286),(.str "place" 1287)])::(nat_lit 809,oT #[])::(nat_lit 811,oC "write_head" 1282 "Kept.write_head" 1283 "/claim/cut.py" 1284 394 2 0 0 3 806 true 181 807 .none (.ref 808) (.ref 809) (.ref 810) 1288 394 "/claim/cut.py" 1289)::(nat_lit 812,oF "write_head" "Kept.write_head" (inClass (top 84) 4) 3 .none .none (.str "notefall.kept" 1215) (.ref 811))::(nat_lit 813,oT #[(.str "series" 1291),(.str "shelf" 1292),(.str "stands" 1293),(.str "store" 1294)])::(nat_lit 814,⟨(.type "dict"),none,(.dict (List.toArray (⟨kh P "__module__",(.str "__module__" 1241),(.str "notefall.kept" 1215)⟩::⟨kh P "__firstlineno__",(.str "__firstlineno__" 1245),(.int 357 1244)⟩::⟨kh P "__init__",(.str "__init__" 1256),(.ref 786)⟩::⟨kh P "do",(.str "do" 1264),(.ref 793)⟩::⟨kh P "settle",(.str "settle" 1270),(.ref 798)⟩::⟨kh P "standing_place",(.str "standing_place" 1281),(.ref 805)⟩::⟨kh P "write_head",(.str "write_head" 1290),(.ref 812)⟩::⟨kh P "__static_attributes__",(.str "__static_attributes__" 1295),(.ref 813)⟩::⟨kh P "__dict__",(.str "__dict__" 1297),(.ref 816)⟩::⟨kh P "__weakref__",(.str "__weakref__" 1299),(.ref 817)⟩::⟨kh P "__doc__",(.str "__doc__" 1300),.none⟩::[])) 4),#[]⟩)::(nat_lit 815,⟨(.type "type"),none,(.cls ⟨"Kept",[(.type "object")],[(.ref 815),(.type "object")],814,"Kept",true,[],[],false,none,false⟩),#[none,none,(some (.str "Kept" 1234)),(some (.str "Kept" 1242)),(some (.builtin "object.__new__")),(some (.bool true))]⟩)::(nat_lit 816,⟨(.type "getset_descriptor"),none,(.fields #[(.str "__dict__" 1296),(.ref 815),(.builtin "function.__dict__"),(.builtin "function.__dict__#set")]),#[]⟩)::(nat_lit 817,⟨(.type "getset_descriptor"),none,(.fields #[(.str "__weakref__" 1298),(.ref 815),(.builtin "ExceptionGroup.__weakref__"),.none]),#[]⟩)::(nat_lit 820,oT #[])::(nat_lit 822,oT #[(.str "shelf" 1306),(.str "rule" 1307),(.str "store" 1308),(.str "kept" 1309)])::(nat_lit 823,oT #[])::(nat_lit 825,oC "begin" 1303 "begin" 1304 "/claim/cut.py" 1305 399 2 0 0 3 820 true 181 821 .none (.ref 822) (.ref 823) (.ref 824) 1310 399 "/claim/cut.py" 1311)::(nat_lit 826,oF "begin" "begin" (top 85) 3 .none .none (.str "notefall.kept" 1215) (.ref 825))::(nat_lit 827,oT #[])::(nat_lit 829,oT #[(.str "entry" 1322)])::(nat_lit 830,oT #[])::(nat_lit 832,oC "signs_of" 1319 "signs_of" 1320 "/claim/cut.py" 1321 408 1 0 0 3 827 true 181 828 .none (.ref 829) (.ref 830) (.ref 831) 1323 408 "/claim/cut.py" 1324)::(nat_lit 833,oF "signs_of" "signs_of" (top 88) 3 .none .none (.str "notefall.shelf" 1313) (.ref 832))::(nat_lit 841,oT #[])::(nat_lit 843,oT #[(.str "self" 1341)])::(nat_lit 844,oT #[])::(nat_lit 846,oC "__init__" 1338 "Shelf.__init__" 1339 "/claim/cut.py" 1340 414 1 0 0 3 841 true 181 842 .none (.ref 843) (.ref 844) (.ref 845) 1342 414 "/claim/cut.py" 1343)::(nat_lit 847,oF "__init__" "Shelf.__init__" (inClass (top 89) 0) 3 .none .none (.str "notefall.shelf" 1313) (.ref 846))::(nat_lit 848,oT #[])::(nat_lit 850,oT #[(.str "self" 1348),(.str "place" 1349),(.str "text" 1350)])::(nat_lit 851,oT #[])::(nat_lit 853,oC "write" 1345 "Shelf.write" 1346 "/claim/cut.py" 1347 421 3 0 0 3 848 true 181 849 .none (.ref 850) (.ref 851) (.ref 852) 1351 421 "/claim/cut.py" 1352)::(nat_lit 854,oF "write" "Shelf.write" (inClass (top 89) 1) 3 .none .none (.str "notefall.shelf" 1313) (.ref 853))::(nat_lit 855,oT #[])::(nat_lit 857,oT #[(.str "self" 1357),(.str "text" 1358)])::(nat_lit 858,oT #[])::(nat_lit 860,oC "line" 1354 "Shelf.line" 1355 "/claim/cut.py" 1356 426 2 0 0 3 855 true 181 856 .none (.ref 857) (.ref 858) (.ref 859) 1359 426 "/claim/cut.py" 1360)::(nat_lit 861,oF "line" "Shelf.line" (inClass (top 89) 2) 3 .none .none (.str "notefall.shelf" 1313) (.ref 860))::(nat_lit 862,oT #[])::(nat_lit 864,oT #[(.str "self" 1365)])::(nat_lit 865,oT #[])::(nat_lit 867,oC "blot" 1362 "Shelf.blot" 1363 "/claim/cut.py" 1364 429 1 0 0 3 862 true 181 863 .none (.ref 864) (.ref 865) (.ref 866) 1366 429 "/claim/cut.py" 1367)::(nat_lit 868,oF "blot" "Shelf.blot" (inClass (top 89) 3) 3 .none .none (.str "notefall.shelf" 1313) (.ref 867))::(nat_lit 869,oT #[])::(nat_lit 871,oT #[(.str "self" 1372),(.str "entry" 1373)])::(nat_lit 872,oT #[])::(nat_lit 874,oC "put_down" 1369 "Shelf.put_down" 1370 "/claim/cut.py" 1371 432 2 0 0 3 869 true 181 870 .none (.ref 871) (.ref 872) (.ref 873) 1374 432 "/claim/cut.py" 1375)::(nat_lit 875,oF "put_down" "Shelf.put_down" (inClass (top 89) 4) 3 .none .none (.str "notefall.shelf" 1313) (.ref 874))::(nat_lit 876,oT #[])::(nat_lit 878,oT #[(.str "self" 1380),(.str "entry" 1381),(.str "signs" 1382)])::(nat_lit 879,oT #[])::(nat_lit 881,oC "carry_out" 1377 "Shelf.carry_out" 1378 "/claim/cut.py" 1379 436 3 0 0 3 876 true 181 877 .none (.ref 878) (.ref 879) (.ref 880) 1383 436 "/claim/cut.py" 1384)::(nat_lit 882,oF "carry_out" "Shelf.carry_out" (inClass (top 89) 5) 3 .none .none (.str "notefall.shelf" 1313) (.ref 881))::(nat_lit 883,oT #[])::(nat_lit 885,oT #[(.str "self" 1389),(.str "place" 1390)])::(nat_lit 886,oT #[])::(nat_lit 888,oC "page" 1386 "Shelf.page" 1387 "/claim/cut.py" 1388 444 2 0 0 3 883 true 181 884 .none (.ref 885) (.ref 886) (.ref 887) 1391 444 "/claim/cut.py" 1392)::(nat_lit 889,oF "page" "Shelf.page" (inClass (top 89) 6) 3 .none .none (.str "notefall.shelf" 1313) (.ref 888))::(nat_lit 890,oT #[])::(nat_lit 892,oT #[(.str "self" 1397)])::(nat_lit 893,oT #[])::(nat_lit 895,oC "places" 1394 "Shelf.places" 1395 "/claim/cut.py" 1396 447 1 0 0 3 890 true 181 891 .none (.ref 892) (.ref 893) (.ref 894) 1398 447 "/claim/cut.py" 1399)::(nat_lit 896,oF "places" "Shelf.places" (inClass (top 89) 7) 3 .none .none (.str "notefall.shelf" 1313) (.ref 895))::(nat_lit 897,oT #[])::(nat_lit 899,oT #[(.str "self" 1404)])::(nat_lit 900,oT #[])::(nat_lit 902,oC "journal" 1401 "Shelf.journal" 1402 "/claim/cut.py" 1403 450 1 0 0 3 897 true 181 898 .none (.ref 899) (.ref 900) (.ref 901) 1405 450 "/claim/cut.py" 1406)::(nat_lit 903,oF "journal" "Shelf.journal" (inClass (top 89) 8) 3 .none .none (.str "notefall.shelf" 1313) (.ref 902))::(nat_lit 904,oT #[])::(nat_lit 906,oT #[(.str "self" 1411)])::(nat_lit 907,oT #[])::(nat_lit 909,oC "log" 1408 "Shelf.log" 1409 "/claim/cut.py" 1410 453 1 0 0 3 904 true 181 905 .none (.ref 906) (.ref 907) (.ref 908) 1412 453 "/claim/cut.py" 1413)::(nat_lit 910,oF "log" "Shelf.log" (inClass (top 89) 9) 3 .none .none (.str "notefall.shelf" 1313) (.ref 909))::(nat_lit 911,oT #[])::(nat_lit 913,oT #[(.str "self" 1418),(.str "many" 1419),(.str "signs" 1420)])::(nat_lit 914,oT #[])::(nat_lit 916,oC "after" 1415 "Shelf.after" 1416 "/claim/cut.py" 1417 456 3 0 0 3 911 true 181 912 .none (.ref 913) (.ref 914) (.ref 915) 1421 456 "/claim/cut.py" 1422)::(nat_lit 917,oF "after" "Shelf.after" (inClass (top 89) 10) 3 .none .none (.str "notefall.shelf" 1313) (.ref 916))::(nat_lit 918,oT #[(.str "diary" 1424),(.str "first_diary" 1425),(.str "first_sheets" 1426),(.str "sheets" 1427),(.str "writes" 1428)])::(nat_lit 919,⟨(.type "dict"),none,(.dict (List.toArray (⟨kh P "__module__",(.str "__module__" 1333),(.str "notefall.shelf" 1313)⟩::⟨kh P "__firstlineno__",(.str "__firstlineno__" 1337),(.int 412 1336)⟩::⟨kh P "__init__",(.str "__init__" 1344),(.ref 847)⟩::⟨kh P "write",(.str "write" 1353),(.ref 854)⟩::⟨kh P "line",(.str "line" 1361),(.ref 861)⟩::⟨kh P "blot",(.str "blot" 1368),(.ref 868)⟩::⟨kh P "put_down",(.str "put_down" 1376),(.ref 875)⟩::⟨kh P "carry_out",(.str "carry_out" 1385),(.ref 882)⟩::⟨kh P "page",(.str "page" 1393),(.ref 889)⟩::⟨kh P "places",(.str "places" 1400),(.ref 896)⟩::⟨kh P "journal",(.str "journal" 1407),(.ref 903)⟩::⟨kh P "log",(.str "log" 1414),(.ref 910)⟩::⟨kh P "after",(.str "after" 1423),(.ref 917)⟩::⟨kh P "__static_attributes__",(.str "__static_attributes__" 1429),(.ref 918)⟩::⟨kh P "__dict__",(.str "__dict__" 1431),(.ref 921)⟩::⟨kh P "__weakref__",(.str "__weakref__" 1433),(.ref 922)⟩::⟨kh P "__doc__",(.str "__doc__" 1434),.none⟩::[])) 4),#[]⟩)::(nat_lit 920,⟨(.type "type"),none,(.cls ⟨"Shelf",[(.type "object")],[(.ref 920),(.type "object")],919,"Shelf",true,[],[],false,none,false⟩),#[none,none,(some (.str "Shelf" 1326)),(some (.str "Shelf" 1334)),(some (.builtin "object.__new__")),(some (.bool true))]⟩)::(nat_lit 921,⟨(.type "getset_descriptor"),none,(.fields #[(.str "__dict__" 1430),(.ref 920),(.builtin "function.__dict__"),(.builtin "function.__dict__#set")]),#[]⟩)::(nat_lit 922,⟨(.type "getset_descriptor"),none,(.fields #[(.str "__weakref__" 1432),(.ref 920),(.builtin "ExceptionGroup.__weakref__"),.none]),#[]⟩)::(nat_lit 925,oT #[])::(nat_lit 927,oT #[(.str "_law_script" 1442),(.str "_law_k" 1443)])::(nat_lit 928,oT #[])::(nat_lit 930,oC "_law_cell_at" 1439 "_law_cell_at" 1440 "/claim/cut.py" 1441 459 2 0 0 3 925 true 181 926 .none (.ref 927) (.ref 928) (.ref 929) 1444 459 "/claim/cut.py" 1445)::(nat_lit 931,oF "_law_cell_at" "_law_cell_at" (top 91) 3 .none .none (.str "law_notefall_k84_begun_on_a_bare_shelf" 1437) (.ref 930))::(nat_lit 932,oT #[])::(nat_lit 934,oT #[(.str "_law_state" 1450),(.str "_law_base" 1451),(.str "_law_cell" 1452),(.str "_law_found" 1453),(.str "_law_number" 1454)])::(nat_lit 935,oT #[])::(nat_lit 937,oC "_law_digit" 1447 "_law_digit" 1448 "/claim/cut.py" 1449 463 2 0 0 3 932 true 181 933 .none (.ref 934) (.ref 935) (.ref 936) 1455 463 "/claim/cut.py" 1456)::(nat_lit 938,oF "_law_digit" "_law_digit" (top 92) 3 .none .none (.str "law_notefall_k84_begun_on_a_bare_shelf" 1437) (.ref 937))::(nat_lit 939,oT #[])::(nat_lit 942,oC "_law_alike" 1458 "_law_alike" 1459 "/claim/cut.py" 1460 476 2 0 0 3 939 true 181 940 .none .none .none (.ref 941) 1461 476 "/claim/cut.py" 1462)::(nat_lit 943,oF "_law_alike" "_law_alike" (top 93) 3 .none .none (.str "law_notefall_k84_begun_on_a_bare_shelf" 1437) (.ref 942))::(nat_lit 944,oT #[])::(nat_lit 946,oT #[(.str "_law_state" 1467),(.str "_law_plan" 1468)])::(nat_lit 947,oT #[])::(nat_lit 949,oC "_law_rule" 1464 "_law_rule" 1465 "/claim/cut.py" 1466 488 1 0 0 3 944 true 181 945 .none (.ref 946) (.ref 947) (.ref 948) 1469 488 "/claim/cut.py" 1470)::(nat_lit 950,oF "_law_rule" "_law_rule" (top 94) 3 .none .none (.str "law_notefall_k84_begun_on_a_bare_shelf" 1437) (.ref 949))::(nat_lit 951,oT #[])::(nat_lit 953,oT #[(.str "_law_state" 1475),(.str "_law_rule_here" 1476),(.str "_law_far" 1477),(.str "_law_many" 1478),(.str "_law_k" 1479),(.str "_law_spoilt" 1480),(.str "_law_found" 1481)])::(nat_lit 954,oT #[])::(nat_lit 956,oC "_law_no_rules" 1472 "_law_no_rules" 1473 "/claim/cut.py" 1474 491 2 0 0 3 951 true 181 952 .none (.ref 953) (.ref 954) (.ref 955) 1482 491 "/claim/cut.py" 1483)::(nat_lit 957,oF "_law_no_rules" "_law_no_rules" (top 95) 3 .none .none (.str "law_notefall_k84_begun_on_a_bare_shelf" 1437) (.ref 956))::(nat_lit 958,oT #[])::(nat_lit 960,oT #[(.str "_law_body" 1488)])::(nat_lit 961,oT #[])::(nat_lit 963,oC "_law_page" 1485 "_law_page" 1486 "/claim/cut.py" 1487 504 1 0 0 3 958 true 181 959 .none (.ref 960) (.ref 961) (.ref 962) 1489 504 "/claim/cut.py" 1490)::(nat_lit 964,oF "_law_page" "_law_page" (top 96) 3 .none .none (.str "law_notefall_k84_begun_on_a_bare_shelf" 1437) (.ref 963))::(nat_lit 965,oT #[])::(nat_lit 968,oC "_law_due" 1492 "_law_due" 1493 "/claim/cut.py" 1494 506 1 0 0 3 965 true 181 966 .none .none .none (.ref 967) 1495 506 "/claim/cut.py" 1496)::(nat_lit 969,oF "_law_due" "_law_due" (top 97) 3 .none .none (.str "law_notefall_k84_begun_on_a_bare_shelf" 1437) (.ref 968))::(nat_lit 970,oT #[])::(nat_lit 972,oT #[(.str "_law_kept" 1501),(.str "_law_shelf" 1502),(.str "_law_rule_here" 1503),(.str "_law_ahead" 1504),(.str "_law_due_here" 1505),(.str "_law_texts" 1506)])::(nat_lit 973,oT #[])::(nat_lit 975,oC "_law_begun" 1498 "_law_begun" 1499 "/claim/cut.py" 1500 510 4 0 0 3 970 true 181 971 .none (.ref 972) (.ref 973) (.ref 974) 1507 510 "/claim/cut.py" 1508)::(nat_lit 976,oF "_law_begun" "_law_begun" (top 98) 3 .none .none (.str "law_notefall_k84_begun_on_a_bare_shelf" 1437) (.ref 975))::(nat_lit 977,oT #[])::(nat_lit 979,oT #[(.str "_law_shelf" 1513),(.str "_law_rule_here" 1514),(.str "_law_word" 1515),(.str "_law_log" 1516),(.str "_law_told" 1517),(.str "e" 1518)])::(nat_lit 980,oT #[])::(nat_lit 982,oC "_law_refused" 1510 "_law_refused" 1511 "/claim/cut.py" 1512 520 3 0 0 3 977 true 181 978 .none (.ref 979) (.ref 980) (.ref 981) 1519 520 "/claim/cut.py" 1520)::(nat_lit 983,oF "_law_refused" "_law_refused" (top 99) 3 .none .none (.str "law_notefall_k84_begun_on_a_bare_shelf" 1437) (.ref 982))::(nat_lit 984,oT #[])::(nat_lit 986,oT #[(.str "_law_state" 1525),(.str "_law_shelf" 1526),(.str "_law_way" 1527),(.str "_law_place" 1528)])::(nat_lit 987,oT #[])::(nat_lit 989,oC "_law_not_bare" 1522 "_law_not_bare" 1523 "/claim/cut.py" 1524 530 1 0 0 3 984 true 181 985 .none (.ref 986) (.ref 987) (.ref 988) 1529 530 "/claim/cut.py" 1530)::(nat_lit 990,oF "_law_not_bare" "_law_not_bare" (top 100) 3 .none .none (.str "law_notefall_k84_begun_on_a_bare_shelf" 1437) (.ref 989))::(nat_lit 991,oT #[])::(nat_lit 993,oT #[(.str "_law_script" 1535),(.str "_law_state" 1536),(.str "_law_rule_here" 1537),(.str "_law_other" 1538),(.str "_law_blotted" 1539),(.str "_law_bare" 1540),(.str "_law_shelf" 1541),(.str "_law_bad" 1542),(.str "_law_one" 1543),(.str "_law_ahead" 1544),(.str "_law_first" 1545),(.str "_law_second" 1546)])::(nat_lit 994,oT #[])::(nat_lit 996,oC "law" 1532 "law" 1533 "/claim/cut.py" 1534 539 1 0 0 3 991 true 181 992 .none (.ref 993) (.ref 994) (.ref 995) 1547 539 "/claim/cut.py" 1548)::(nat_lit 997,oF "law" "law" (top 101) 3 .none .none (.str "law_notefall_k84_begun_on_a_bare_shelf" 1437) (.ref 996))::[]
noncomputable def abk (P:Params):PySem.W.Frag:=(nat_lit 0,PySem.W.boot_o_0 P)::(nat_lit 1,PySem.W.boot_o_1 P)::(nat_lit 4,PySem.W.boot_o_4 P)::(nat_lit 5,PySem.W.boot_o_5 P)::(nat_lit 6,PySem.W.boot_o_6 P)::(nat_lit 7,PySem.W.boot_o_7 P)::(nat_lit 8,PySem.W.boot_o_8 P)::(nat_lit 9,PySem.W.boot_o_9 P)::(nat_lit 10,PySem.W.boot_o_10 P)::(nat_lit 11,oT #[])::(nat_lit 12,⟨.none,none,(.fields #[(.int 1 0),(.int 0 0),(.ref 20),(.int 5 0),(.int 0 0),(.ref 27),(.int 7 0),(.int 0 0),(.ref 40),(.int 9 0),(.int 0 0),(.ref 52),(.int 11 0),(.int 0 0),(.ref 64),(.int 13 0),(.int 0 0),(.ref 76),(.int 15 0),(.int 0 0),(.ref 88),(.int 17 0),(.int 0 0),(.ref 100),(.int 19 0),(.int 0 0),(.ref 112),(.int 28 0),(.int 0 0),(.ref 125),(.int 30 0),(.int 0 0),(.ref 132),(.int 32 0),(.int 0 0),(.ref 139),(.int 34 0),(.int 0 0),(.ref 146),(.int 36 0),(.int 0 0),(.ref 153),(.int 38 0),(.int 0 0),(.ref 160),(.int 41 0),(.int 0 0),(.ref 167),(.int 44 0),(.int 0 0),(.ref 174),(.int 46 0),(.int 0 0),(.ref 181),(.int 55 0),(.int 0 0),(.ref 189),(.int 60 0),(.int 0 0),(.ref 196),(.int 64 0),(.int 0 0),(.ref 203),(.int 67 0),(.int 0 0),(.ref 210),(.int 69 0),(.int 0 0),(.ref 215),(.int 75 0),(.int 0 0),(.ref 222),(.int 77 0),(.int 0 0),(.ref 227),(.int 79 0),(.int 0 0),(.ref 234),(.int 82 0),(.int 0 0),(.ref 239),(.int 85 0),(.int 0 0),(.ref 246),(.int 90 0),(.int 0 0),(.ref 253),(.int 93 0),(.int 0 0),(.ref 258),(.int 101 0),(.int 0 0),(.ref 265),(.int 104 0),(.int 0 0),(.ref 270),(.int 108 0),(.int 0 0),(.ref 277),(.int 111 0),(.int 0 0),(.ref 285),(.int 118 0),(.int 0 0),(.ref 290),(.int 120 0),(.int 0 0),(.ref 295),(.int 122 0),(.int 0 0),(.ref 303),(.int 127 0),(.int 0 0),(.ref 310),(.int 132 0),(.int 0 0),(.ref 331),(.int 139 0),(.int 0 0),(.ref 352),(.int 142 0),(.int 0 0),(.ref 357),(.int 144 0),(.int 0 0),(.ref 364),(.int 191 0),(.int 0 0),(.ref 476),(.int 194 0),(.int 0 0),(.ref 481),(.int 196 0),(.int 0 0),(.ref 488),(.int 205 0),(.int 0 0),(.ref 493),(.int 207 0),(.int 0 0),(.ref 498),(.int 212 0),(.int 0 0),(.ref 503),(.int 215 0),(.int 0 0),(.ref 510),(.int 218 0),(.int 0 0),(.ref 517),(.int 221 0),(.int 0 0),(.ref 524),(.int 227 0),(.int 0 0),(.ref 531),(.int 232 0),(.int 0 0),(.ref 538),(.int 238 0),(.int 0 0),(.ref 543),(.int 240 0),(.int 0 0),(.ref 550),(.int 244 0),(.int 0 0),(.ref 557),(.int 254 0),(.int 0 0),(.ref 562),(.int 257 0),(.int 0 0),(.ref 570),(.int 261 0),(.int 0 0),(.ref 579),(.int 269 0),(.int 0 0),(.ref 587),(.int 272 0),(.int 0 0),(.ref 594),(.int 350 0),(.int 0 0),(.ref 764),(.int 355 0),(.int 0 0),(.ref 771),(.int 357 0),(.int 0 0),(.ref 778),(.int 399 0),(.int 0 0),(.ref 825),(.int 408 0),(.int 0 0),(.ref 832),(.int 412 0),(.int 0 0),(.ref 839),(.int 459 0),(.int 0 0),(.ref 930),(.int 463 0),(.int 0 0),(.ref 937),(.int 476 0),(.int 0 0),(.ref 942),(.int 488 0),(.int 0 0),(.ref 949),(.int 491 0),(.int 0 0),(.ref 956),(.int 504 0),(.int 0 0),(.ref 963),(.int 506 0),(.int 0 0),(.ref 968),(.int 510 0),(.int 0 0),(.ref 975),(.int 520 0),(.int 0 0),(.ref 982),(.int 530 0),(.int 0 0),(.ref 989),(.int 539 0),(.int 0 0),(.ref 996)]),#[]⟩)::(nat_lit 13,oC "<module>" 182 "<module>" 183 "/claim/cut.py" 184 1 0 0 0 0 11 false 181 12 .none .none .none .none 185 1 "/claim/cut.py" 186)::(nat_lit 14,⟨(.type "frame"),none,.plain,#[(some (.ref 13)),(some (.ref 3)),(some (.ref 3)),none,(some (.str "__main__" 164)),none,(some (.ref 0))]⟩)::(nat_lit 16,oN)::(nat_lit 19,oG "_wall" "_wall" (top 0))::(nat_lit 23,⟨(.type "builtin_function_or_method"),none,(.fields #[(.builtin "type.__prepare__"),(.type "type")]),#[]⟩)::(nat_lit 24,⟨(.type "dict"),none,(.dict (List.toArray (⟨kh P "__module__",(.str "__module__" 203),(.str "notefall.errors" 194)⟩::⟨kh P "__qualname__",(.str "__qualname__" 205),(.str "FallError" 204)⟩::⟨kh P "__firstlineno__",(.str "__firstlineno__" 207),(.int 5 206)⟩::⟨kh P "__static_attributes__",(.str "__static_attributes__" 208),(.ref 29)⟩::[])) 4),#[]⟩)::(nat_lit 25,oT #[])::(nat_lit 26,oN)::(nat_lit 27,oC "FallError" 198 "FallError" 199 "/claim/cut.py" 200 5 0 0 0 0 25 false 181 26 .none .none .none .none 201 5 "/claim/cut.py" 202)::(nat_lit 28,⟨(.type "frame"),none,.plain,#[(some (.ref 27)),(some (.ref 3)),(some (.ref 24)),none,(some (.str "notefall.errors" 194)),none,(some (.ref 0))]⟩)::(nat_lit 33,⟨(.type "super"),none,(.fields #[(.ref 31),(.ref 31),(.ref 31)]),#[]⟩)::(nat_lit 34,⟨(.type "builtin_function_or_method"),none,(.fields #[(.builtin "object.__init_subclass__"),(.ref 31)]),#[]⟩)::(nat_lit 36,⟨(.type "builtin_function_or_method"),none,(.fields #[(.builtin "type.__prepare__"),(.type "type")]),#[]⟩)::(nat_lit 37,⟨(.type "dict"),none,(.dict (List.toArray (⟨kh P "__module__",(.str "__module__" 221),(.str "notefall.errors" 194)⟩::⟨kh P "__qualname__",(.str "__qualname__" 223),(.str "NoKey" 222)⟩::⟨kh P "__firstlineno__",(.str "__firstlineno__" 225),(.int 7 224)⟩::⟨kh P "__static_attributes__",(.str "__static_attributes__" 226),(.ref 42)⟩::[])) 4),#[]⟩)::(nat_lit 38,oT #[])::(nat_lit 39,oN)::(nat_lit 40,oC "NoKey" 216 "NoKey" 217 "/claim/cut.py" 218 7 0 0 0 0 38 false 181 39 .none .none .none .none 219 7 "/claim/cut.py" 220)::(nat_lit 41,⟨(.type "frame"),none,.plain,#[(some (.ref 40)),(some (.ref 3)),(some (.ref 37)),none,(some (.str "notefall.errors" 194)),none,(some (.ref 0))]⟩)::(nat_lit 45,⟨(.type "super"),none,(.fields #[(.ref 44),(.ref 44),(.ref 44)]),#[]⟩)::(nat_lit 46,⟨(.type "builtin_function_or_method"),none,(.fields #[(.builtin "object.__init_subclass__"),(.ref 44)]),#[]⟩)::(nat_lit 48,⟨(.type "builtin_function_or_method"),none,(.fields #[(.builtin "type.__prepare__"),(.type "type")]),#[]⟩)::(nat_lit 49,⟨(.type "dict"),none,(.dict (List.toArray (⟨kh P "__module__",(.str "__module__" 237),(.str "notefall.errors" 194)⟩::⟨kh P "__qualname__",(.str "__qualname__" 239),(.str "NoStretch" 238)⟩::⟨kh P "__firstlineno__",(.str "__firstlineno__" 241),(.int 9 240)⟩::⟨kh P "__static_attributes__",(.str "__static_attributes__" 242),(.ref 54)⟩::[])) 4),#[]⟩)::(nat_lit 50,oT #[])::(nat_lit 51,oN)::(nat_lit 52,oC "NoStretch" 232 "NoStretch" 233 "/claim/cut.py" 234 9 0 0 0 0 50 false 181 51 .none .none .none .none 235 9 "/claim/cut.py" 236)::(nat_lit 53,⟨(.type "frame"),none,.plain,#[(some (.ref 52)),(some (.ref 3)),(some (.ref 49)),none,(some (.str "notefall.errors" 194)),none,(some (.ref 0))]⟩)::(nat_lit 57,⟨(.type "super"),none,(.fields #[(.ref 56),(.ref 56),(.ref 56)]),#[]⟩)::(nat_lit 58,⟨(.type "builtin_function_or_method"),none,(.fields #[(.builtin "object.__init_subclass__"),(.ref 56)]),#[]⟩)::(nat_lit 60,⟨(.type "builtin_function_or_method"),none,(.fields #[(.builtin "type.__prepare__"),(.type "type")]),#[]⟩)::(nat_lit 61,⟨(.type "dict"),none,(.dict (List.toArray (⟨kh P "__module__",(.str "__module__" 253),(.str "notefall.errors" 194)⟩::⟨kh P "__qualname__",(.str "__qualname__" 255),(.str "NoRule" 254)⟩::⟨kh P "__firstlineno__",(.str "__firstlineno__" 257),(.int 11 256)⟩::⟨kh P "__static_attributes__",(.str "__static_attributes__" 258),(.ref 66)⟩::[])) 4),#[]⟩)::(nat_lit 62,oT #[])::(nat_lit 63,oN)::(nat_lit 64,oC "NoRule" 248 "NoRule" 249 "/claim/cut.py" 250 11 0 0 0 0 62 false 181 63 .none .none .none .none 251 11 "/claim/cut.py" 252)::(nat_lit 65,⟨(.type "frame"),none,.plain,#[(some (.ref 64)),(some (.ref 3)),(some (.ref 61)),none,(some (.str "notefall.errors" 194)),none,(some (.ref 0))]⟩)::(nat_lit 69,⟨(.type "super"),none,(.fields #[(.ref 68),(.ref 68),(.ref 68)]),#[]⟩)::(nat_lit 70,⟨(.type "builtin_function_or_method"),none,(.fields #[(.builtin "object.__init_subclass__"),(.ref 68)]),#[]⟩)::(nat_lit 72,⟨(.type "builtin_function_or_method"),none,(.fields #[(.builtin "type.__prepare__"),(.type "type")]),#[]⟩)::(nat_lit 73,⟨(.type "dict"),none,(.dict (List.toArray (⟨kh P "__module__",(.str "__module__" 269),(.str "notefall.errors" 194)⟩::⟨kh P "__qualname__",(.str "__qualname__" 271),(.str "NoMark" 270)⟩::⟨kh P "__firstlineno__",(.str "__firstlineno__" 273),(.int 13 272)⟩::⟨kh P "__static_attributes__",(.str "__static_attributes__" 274),(.ref 78)⟩::[])) 4),#[]⟩)::(nat_lit 74,oT #[])::(nat_lit 75,oN)::(nat_lit 76,oC "NoMark" 264 "NoMark" 265 "/claim/cut.py" 266 13 0 0 0 0 74 false 181 75 .none .none .none .none 267 13 "/claim/cut.py" 268)::(nat_lit 77,⟨(.type "frame"),none,.plain,#[(some (.ref 76)),(some (.ref 3)),(some (.ref 73)),none,(some (.str "notefall.errors" 194)),none,(some (.ref 0))]⟩)::(nat_lit 81,⟨(.type "super"),none,(.fields #[(.ref 80),(.ref 80),(.ref 80)]),#[]⟩)::(nat_lit 82,⟨(.type "builtin_function_or_method"),none,(.fields #[(.builtin "object.__init_subclass__"),(.ref 80)]),#[]⟩)::(nat_lit 84,⟨(.type "builtin_function_or_method"),none,(.fields #[(.builtin "type.__prepare__"),(.type "type")]),#[]⟩)::(nat_lit 85,⟨(.type "dict"),none,(.dict (List.toArray (⟨kh P "__module__",(.str "__module__" 285),(.str "notefall.errors" 194)⟩::⟨kh P "__qualname__",(.str "__qualname__" 287),(.str "NoMany" 286)⟩::⟨kh P "__firstlineno__",(.str "__firstlineno__" 289),(.int 15 288)⟩::⟨kh P "__static_attributes__",(.str "__static_attributes__" 290),(.ref 90)⟩::[])) 4),#[]⟩)::(nat_lit 86,oT #[])::(nat_lit 87,oN)::(nat_lit 88,oC "NoMany" 280 "NoMany" 281 "/claim/cut.py" 282 15 0 0 0 0 86 false 181 87 .none .none .none .none 283 15 "/claim/cut.py" 284)::(nat_lit 89,⟨(.type "frame"),none,.plain,#[(some (.ref 88)),(some (.ref 3)),(some (.ref 85)),none,(some (.str "notefall.errors" 194)),none,(some (.ref 0))]⟩)::(nat_lit 93,⟨(.type "super"),none,(.fields #[(.ref 92),(.ref 92),(.ref 92)]),#[]⟩)::(nat_lit 94,⟨(.type "builtin_function_or_method"),none,(.fields #[(.builtin "object.__init_subclass__"),(.ref 92)]),#[]⟩)::(nat_lit 96,⟨(.type "builtin_function_or_method"),none,(.fields #[(.builtin "type.__prepare__"),(.type "type")]),#[]⟩)::(nat_lit 97,⟨(.type "dict"),none,(.dict (List.toArray (⟨kh P "__module__",(.str "__module__" 301),(.str "notefall.errors" 194)⟩::⟨kh P "__qualname__",(.str "__qualname__" 303),(.str "NoPlace" 302)⟩::⟨kh P "__firstlineno__",(.str "__firstlineno__" 305),(.int 17 304)⟩::⟨kh P "__static_attributes__",(.str "__static_attributes__" 306),(.ref 102)⟩::[])) 4),#[]⟩)::(nat_lit 98,oT #[])::(nat_lit 99,oN)::(nat_lit 100,oC "NoPlace" 296 "NoPlace" 297 "/claim/cut.py" 298 17 0 0 0 0 98 false 181 99 .none .none .none .none 299 17 "/claim/cut.py" 300)::(nat_lit 101,⟨(.type "frame"),none,.plain,#[(some (.ref 100)),(some (.ref 3)),(some (.ref 97)),none,(some (.str "notefall.errors" 194)),none,(some (.ref 0))]⟩)::(nat_lit 105,⟨(.type "super"),none,(.fields #[(.ref 104),(.ref 104),(.ref 104)]),#[]⟩)::(nat_lit 106,⟨(.type "builtin_function_or_method"),none,(.fields #[(.builtin "object.__init_subclass__"),(.ref 104)]),#[]⟩)::(nat_lit 108,⟨(.type "builtin_function_or_method"),none,(.fields #[(.builtin "type.__prepare__"),(.type "type")]),#[]⟩)::(nat_lit 109,⟨(.type "dict"),none,(.dict (List.toArray (⟨kh P "__module__",(.str "__module__" 317),(.str "notefall.errors" 194)⟩::⟨kh P "__qualname__",(.str "__qualname__" 319),(.str "NotBare" 318)⟩::⟨kh P "__firstlineno__",(.str "__firstlineno__" 321),(.int 19 320)⟩::⟨kh P "__static_attributes__",(.str "__static_attributes__" 322),(.ref 114)⟩::[])) 4),#[]⟩)::(nat_lit 110,oT #[])::(nat_lit 111,oN)::(nat_lit 112,oC "NotBare" 312 "NotBare" 313 "/claim/cut.py" 314 19 0 0 0 0 110 false 181 111 .none .none .none .none 315 19 "/claim/cut.py" 316)::(nat_lit 113,⟨(.type "frame"),none,.plain,#[(some (.ref 112)),(some (.ref 3)),(some (.ref 109)),none,(some (.str "notefall.errors" 194)),none,(some (.ref 0))]⟩)::(nat_lit 117,⟨(.type "super"),none,(.fields #[(.ref 116),(.ref 116),(.ref 116)]),#[]⟩)::(nat_lit 118,⟨(.type "builtin_function_or_method"),none,(.fields #[(.builtin "object.__init_subclass__"),(.ref 116)]),#[]⟩)::(nat_lit 121,oN)::(nat_lit 124,oG "is_number" "is_number" (top 17))::(nat_lit 128,oN)::(nat_lit 131,oG "is_whole" "is_whole" (top 18))::(nat_lit 135,oN)::(nat_lit 138,oG "is_whole_from" "is_whole_from" (top 19))::(nat_lit 142,oN)::(nat_lit 145,oG "is_key" "is_key" (top 20))::(nat_lit 149,oN)::(nat_lit 152,oG "is_stretch" "is_stretch" (top 21))::(nat_lit 156,oN)::(nat_lit 159,oG "check_key" "check_key" (top 22))::(nat_lit 163,oN)::(nat_lit 166,oG "check_stretch" "check_stretch" (top 23))::(nat_lit 170,oN)::(nat_lit 173,oG "is_plan" "is_plan" (top 24))::(nat_lit 177,oN)::(nat_lit 180,oG "is_rule" "is_rule" (top 25))::(nat_lit 185,oN)::(nat_lit 188,oG "half_acts" "half_acts" (top 28))::(nat_lit 192,oN)::(nat_lit 195,oG "does" "does" (top 29))::(nat_lit 199,oN)::(nat_lit 202,oG "figures_of" "figures_of" (top 31))::(nat_lit 206,oN)::(nat_lit 209,oG "has_key" "has_key" (top 33))::(nat_lit 213,oN)::(nat_lit 214,oG "reached" "reached" (top 34))::(nat_lit 218,oN)::(nat_lit 221,oG "list_text" "list_text" (top 36))::(nat_lit 225,oN)::(nat_lit 226,oG "numbers_text" "numbers_text" (top 37))::(nat_lit 230,oN)::(nat_lit 233,oG "version_text" "version_text" (top 38))::(nat_lit 237,oN)::(nat_lit 238,oG "row_text" "row_text" (top 39))::(nat_lit 242,oN)::(nat_lit 245,oG "half_text" "half_text" (top 40))::(nat_lit 249,oN)::(nat_lit 252,oG "note_text" "note_text" (top 41))::(nat_lit 256,oN)::(nat_lit 257,oG "room_text" "room_text" (top 42))::(nat_lit 261,oN)::(nat_lit 264,oG "rule_text" "rule_text" (top 43))::(nat_lit 268,oN)::(nat_lit 269,oG "head_text" "head_text" (top 44))::(nat_lit 273,oN)::(nat_lit 276,oG "page_of" "page_of" (top 45))::(nat_lit 281,oN)::(nat_lit 284,oG "value_of" "value_of" (top 47))::(nat_lit 288,oN)::(nat_lit 289,oG "up_to" "up_to" (top 49))::(nat_lit 293,oN)::(nat_lit 294,oG "touching" "touching" (top 50))::(nat_lit 299,oN)::(nat_lit 302,oG "seen" "seen" (top 51))::(nat_lit 305,oT #[])::(nat_lit 306,⟨(.type "builtin_function_or_method"),none,(.fields #[(.builtin "type.__prepare__"),(.type "type")]),#[]⟩)::(nat_lit 307,⟨(.type "dict"),none,(.dict (List.toArray (⟨kh P "__module__",(.str "__module__" 595),(.str "notefall.rooms" 586)⟩::⟨kh P "__qualname__",(.str "__qualname__" 597),(.str "Leaf" 596)⟩::⟨kh P "__firstlineno__",(.str "__firstlineno__" 599),(.int 127 598)⟩::⟨kh P "__init__",(.str "__init__" 608),(.ref 318)⟩::⟨kh P "__static_attributes__",(.str "__static_attributes__" 611),(.ref 319)⟩::[])) 5),#[]⟩)::(nat_lit 308,oT #[])::(nat_lit 309,⟨.none,none,(.fields #[(.int 129 0),(.int 4 0),(.ref 317)]),#[]⟩)::(nat_lit 310,oC "Leaf" 590 "Leaf" 591 "/claim/cut.py" 592 127 0 0 0 0 308 false 181 309 .none .none .none .none 593 127 "/claim/cut.py" 594)::(nat_lit 311,⟨(.type "frame"),none,.plain,#[(some (.ref 310)),(some (.ref 3)),(some (.ref 307)),none,(some (.str "notefall.rooms" 586)),none,(some (.ref 0))]⟩)::(nat_lit 313,oN)::(nat_lit 316,oG "__init__" "Leaf.__init__" (inClass (top 53) 0))::(nat_lit 324,⟨(.type "super"),none,(.fields #[(.ref 321),(.ref 321),(.ref 321)]),#[]⟩)::(nat_lit 325,⟨(.type "builtin_function_or_method"),none,(.fields #[(.builtin "object.__init_subclass__"),(.ref 321)]),#[]⟩)::(nat_lit 326,oT #[])::(nat_lit 327,⟨(.type "builtin_function_or_method"),none,(.fields #[(.builtin "type.__prepare__"),(.type "type")]),#[]⟩)::(nat_lit 328,⟨(.type "dict"),none,(.dict (List.toArray (⟨kh P "__module__",(.str "__module__" 626),(.str "notefall.rooms" 586)⟩::⟨kh P "__qualname__",(.str "__qualname__" 628),(.str "Inner" 627)⟩::⟨kh P "__firstlineno__",(.str "__firstlineno__" 630),(.int 132 629)⟩::⟨kh P "__init__",(.str "__init__" 641),(.ref 339)⟩::⟨kh P "__static_attributes__",(.str "__static_attributes__" 646),(.ref 340)⟩::[])) 5),#[]⟩)::(nat_lit 329,oT #[])::(nat_lit 330,⟨.none,none,(.fields #[(.int 134 0),(.int 4 0),(.ref 338)]),#[]⟩)::(nat_lit 331,oC "Inner" 621 "Inner" 622 "/claim/cut.py" 623 132 0 0 0 0 329 false 181 330 .none .none .none .none 624 132 "/claim/cut.py" 625)::(nat_lit 332,⟨(.type "frame"),none,.plain,#[(some (.ref 331)),(some (.ref 3)),(some (.ref 328)),none,(some (.str "notefall.rooms" 586)),none,(some (.ref 0))]⟩)::(nat_lit 334,oN)::(nat_lit 337,oG "__init__" "Inner.__init__" (inClass (top 54) 0))::(nat_lit 345,⟨(.type "super"),none,(.fields #[(.ref 342),(.ref 342),(.ref 342)]),#[]⟩)::(nat_lit 346,⟨(.type "builtin_function_or_method"),none,(.fields #[(.builtin "object.__init_subclass__"),(.ref 342)]),#[]⟩)::(nat_lit 348,oN)::(nat_lit 351,oG "stretches" "stretches" (top 55))::(nat_lit 355,oN)::(nat_lit 356,oG "child_place" "child_place" (top 56))::(nat_lit 359,oT #[])::(nat_lit 360,⟨(.type "builtin_function_or_method"),none,(.fields #[(.builtin "type.__prepare__"),(.type "type")]),#[]⟩)::(nat_lit 361,⟨(.type "dict"),none,(.dict (List.toArray (⟨kh P "__module__",(.str "__module__" 677),(.str "notefall.rooms" 586)⟩::⟨kh P "__qualname__",(.str "__qualname__" 679),(.str "House" 678)⟩::⟨kh P "__firstlineno__",(.str "__firstlineno__" 681),(.int 144 680)⟩::⟨kh P "__init__",(.str "__init__" 692),(.ref 372)⟩::⟨kh P "next_number",(.str "next_number" 699),(.ref 379)⟩::⟨kh P "lay",(.str "lay" 707),(.ref 386)⟩::⟨kh P "take_in",(.str "take_in" 718),(.ref 393)⟩::⟨kh P "drain",(.str "drain" 728),(.ref 400)⟩::⟨kh P "pour_into",(.str "pour_into" 739),(.ref 407)⟩::⟨kh P "clear_out",(.str "clear_out" 749),(.ref 414)⟩::⟨kh P "is_too_great",(.str "is_too_great" 757),(.ref 421)⟩::⟨kh P "mend",(.str "mend" 768),(.ref 428)⟩::⟨kh P "part_child",(.str "part_child" 779),(.ref 435)⟩::⟨kh P "leaf_parts",(.str "leaf_parts" 787),(.ref 442)⟩::⟨kh P "inner_parts",(.str "inner_parts" 797),(.ref 449)⟩::⟨kh P "part_numbers",(.str "part_numbers" 806),(.ref 456)⟩::⟨kh P "mend_top",(.str "mend_top" 813),(.ref 463)⟩::⟨kh P "__static_attributes__",(.str "__static_attributes__" 819),(.ref 464)⟩::[])) 18),#[]⟩)::(nat_lit 362,oT #[])::(nat_lit 363,⟨.none,none,(.fields #[(.int 146 0),(.int 4 0),(.ref 371),(.int 153 0),(.int 4 0),(.ref 378),(.int 156 0),(.int 4 0),(.ref 385),(.int 159 0),(.int 4 0),(.ref 392),(.int 162 0),(.int 4 0),(.ref 399),(.int 165 0),(.int 4 0),(.ref 406),(.int 168 0),(.int 4 0),(.ref 413),(.int 171 0),(.int 4 0),(.ref 420),(.int 174 0),(.int 4 0),(.ref 427),(.int 177 0),(.int 4 0),(.ref 434),(.int 180 0),(.int 4 0),(.ref 441),(.int 183 0),(.int 4 0),(.ref 448),(.int 186 0),(.int 4 0),(.ref 455),(.int 189 0),(.int 4 0),(.ref 462)]),#[]⟩)::(nat_lit 364,oC "House" 672 "House" 673 "/claim/cut.py" 674 144 0 0 0 0 362 false 181 363 .none .none .none .none 675 144 "/claim/cut.py" 676)::(nat_lit 365,⟨(.type "frame"),none,.plain,#[(some (.ref 364)),(some (.ref 3)),(some (.ref 361)),none,(some (.str "notefall.rooms" 586)),none,(some (.ref 0))]⟩)::(nat_lit 367,oN)::(nat_lit 370,oG "__init__" "House.__init__" (inClass (top 57) 0))::(nat_lit 374,oN)::(nat_lit 377,oG "next_number" "House.next_number" (inClass (top 57) 1))::(nat_lit 381,oN)::(nat_lit 384,oG "lay" "House.lay" (inClass (top 57) 2))::(nat_lit 388,oN)::(nat_lit 391,oG "take_in" "House.take_in" (inClass (top 57) 3))::(nat_lit 395,oN)::(nat_lit 398,oG "drain" "House.drain" (inClass (top 57) 4))::(nat_lit 402,oN)::(nat_lit 405,oG "pour_into" "House.pour_into" (inClass (top 57) 5))::(nat_lit 409,oN)::(nat_lit 412,oG "clear_out" "House.clear_out" (inClass (top 57) 6))::(nat_lit 416,oN)::(nat_lit 419,oG "is_too_great" "House.is_too_great" (inClass (top 57) 7))::(nat_lit 423,oN)::(nat_lit 426,oG "mend" "House.mend" (inClass (top 57) 8))::(nat_lit 430,oN)::(nat_lit 433,oG "part_child" "House.part_child" (inClass (top 57) 9))::(nat_lit 437,oN)::(nat_lit 440,oG "leaf_parts" "House.leaf_parts" (inClass (top 57) 10))::(nat_lit 444,oN)::(nat_lit 447,oG "inner_parts" "House.inner_parts" (inClass (top 57) 11))::(nat_lit 451,oN)::(nat_lit 454,oG "part_numbers" "House.part_numbers" (inClass (top 57) 12))::(nat_lit 458,oN)::(nat_lit 461,oG "mend_top" "House.mend_top" (inClass (top 57) 13))::(nat_lit 469,⟨(.type "super"),none,(.fields #[(.ref 466),(.ref 466),(.ref 466)]),#[]⟩)::(nat_lit 470,⟨(.type "builtin_function_or_method"),none,(.fields #[(.builtin "object.__init_subclass__"),(.ref 466)]),#[]⟩)::(nat_lit 472,oN)::(nat_lit 475,oG "new_house" "new_house" (top 58))::(nat_lit 479,oN)::(nat_lit 480,oG "children_of" "children_of" (top 60))::(nat_lit 484,oN)::(nat_lit 487,oG "all_rooms" "all_rooms" (top 61))::(nat_lit 491,oN)::(nat_lit 492,oG "own_rows" "own_rows" (top 62))::(nat_lit 496,oN)::(nat_lit 497,oG "room_told" "room_told" (top 63))::(nat_lit 501,oN)::(nat_lit 502,oG "roll_of" "roll_of" (top 64))::(nat_lit 506,oN)::(nat_lit 509,oG "check_mark" "check_mark" (top 66))::(nat_lit 513,oN)::(nat_lit 516,oG "check_many" "check_many" (top 67))::(nat_lit 520,oN)::(nat_lit 523,oG "rooms_to" "rooms_to" (top 68))::(nat_lit 527,oN)::(nat_lit 530,oG "versions_in" "versions_in" (top 69))::(nat_lit 534,oN)::(nat_lit 537,oG "told_value" "told_value" (top 70))::(nat_lit 541,oN)::(nat_lit 542,oG "leaf_table" "leaf_table" (top 71))::(nat_lit 546,oN)::(nat_lit 549,oG "do_to" "do_to" (top 72))::(nat_lit 553,oN)::(nat_lit 556,oG "room_table" "room_table" (top 73))::(nat_lit 560,oN)::(nat_lit 561,oG "pairs" "pairs" (top 74))::(nat_lit 566,oN)::(nat_lit 569,oG "read_key" "read_key" (top 75))::(nat_lit 575,oN)::(nat_lit 578,oG "read_stretch" "read_stretch" (top 76))::(nat_lit 583,oN)::(nat_lit 586,oG "read_many" "read_many" (top 77))::(nat_lit 589,oT #[])::(nat_lit 590,⟨(.type "builtin_function_or_method"),none,(.fields #[(.builtin "type.__prepare__"),(.type "type")]),#[]⟩)::(nat_lit 591,⟨(.type "dict"),none,(.dict (List.toArray (⟨kh P "__module__",(.str "__module__" 1006),(.str "notefall.store" 997)⟩::⟨kh P "__qualname__",(.str "__qualname__" 1008),(.str "Store" 1007)⟩::⟨kh P "__firstlineno__",(.str "__firstlineno__" 1010),(.int 272 1009)⟩::⟨kh P "__init__",(.str "__init__" 1018),(.ref 602)⟩::⟨kh P "check_free",(.str "check_free" 1025),(.ref 609)⟩::⟨kh P "ready_deed",(.str "ready_deed" 1033),(.ref 616)⟩::⟨kh P "do",(.str "do" 1041),(.ref 623)⟩::⟨kh P "marks",(.str "marks" 1048),(.ref 630)⟩::⟨kh P "read",(.str "read" 1058),(.ref 638)⟩::⟨kh P "stretch",(.str "stretch" 1074),(.ref 647)⟩::⟨kh P "__len__",(.str "__len__" 1081),(.ref 654)⟩::⟨kh P "above",(.str "above" 1091),(.ref 662)⟩::⟨kh P "below",(.str "below" 1101),(.ref 670)⟩::⟨kh P "many",(.str "many" 1112),(.ref 678)⟩::⟨kh P "total",(.str "total" 1123),(.ref 686)⟩::⟨kh P "unlike",(.str "unlike" 1132),(.ref 693)⟩::⟨kh P "way",(.str "way" 1142),(.ref 701)⟩::⟨kh P "pour",(.str "pour" 1151),(.ref 708)⟩::⟨kh P "press",(.str "press" 1160),(.ref 715)⟩::⟨kh P "squeeze",(.str "squeeze" 1167),(.ref 722)⟩::⟨kh P "each",(.str "each" 1181),(.ref 730)⟩::⟨kh P "steps",(.str "steps" 1188),(.ref 737)⟩::⟨kh P "twin",(.str "twin" 1195),(.ref 744)⟩::⟨kh P "image",(.str "image" 1202),(.ref 751)⟩::⟨kh P "__static_attributes__",(.str "__static_attributes__" 1207),(.ref 752)⟩::[])) 25),#[]⟩)::(nat_lit 592,oT #[])::(nat_lit 593,⟨.none,none,(.fields #[(.int 274 0),(.int 4 0),(.ref 601),(.int 282 0),(.int 4 0),(.ref 608),(.int 285 0),(.int 4 0),(.ref 615),(.int 288 0),(.int 4 0),(.ref 622),(.int 291 0),(.int 4 0),(.ref 629),(.int 294 0),(.int 4 0),(.ref 637),(.int 297 0),(.int 4 0),(.ref 646),(.int 300 0),(.int 4 0),(.ref 653),(.int 303 0),(.int 4 0),(.ref 661),(.int 306 0),(.int 4 0),(.ref 669),(.int 309 0),(.int 4 0),(.ref 677),(.int 312 0),(.int 4 0),(.ref 685),(.int 315 0),(.int 4 0),(.ref 692),(.int 318 0),(.int 4 0),(.ref 700),(.int 321 0),(.int 4 0),(.ref 707),(.int 324 0),(.int 4 0),(.ref 714),(.int 327 0),(.int 4 0),(.ref 721),(.int 330 0),(.int 4 0),(.ref 729),(.int 340 0),(.int 4 0),(.ref 736),(.int 343 0),(.int 4 0),(.ref 743),(.int 346 0),(.int 4 0),(.ref 750)]),#[]⟩)::(nat_lit 594,oC "Store" 1001 "Store" 1002 "/claim/cut.py" 1003 272 0 0 0 0 592 false 181 593 .none .none .none .none 1004 272 "/claim/cut.py" 1005)::(nat_lit 595,⟨(.type "frame"),none,.plain,#[(some (.ref 594)),(some (.ref 3)),(some (.ref 591)),none,(some (.str "notefall.store" 997)),none,(some (.ref 0))]⟩)::(nat_lit 597,oN)::(nat_lit 600,oG "__init__" "Store.__init__" (inClass (top 79) 0))::(nat_lit 604,oN)::(nat_lit 607,oG "check_free" "Store.check_free" (inClass (top 79) 1))::(nat_lit 611,oN)::(nat_lit 614,oG "ready_deed" "Store.ready_deed" (inClass (top 79) 2))::(nat_lit 618,oN)::(nat_lit 621,oG "do" "Store.do" (inClass (top 79) 3))::(nat_lit 625,oN)::(nat_lit 628,oG "marks" "Store.marks" (inClass (top 79) 4))::(nat_lit 633,oN)::(nat_lit 636,oG "read" "Store.read" (inClass (top 79) 5))::(nat_lit 642,oN)::(nat_lit 645,oG "stretch" "Store.stretch" (inClass (top 79) 6))::(nat_lit 649,oN)::(nat_lit 652,oG "__len__" "Store.__len__" (inClass (top 79) 7))::(nat_lit 657,oN)::(nat_lit 660,oG "above" "Store.above" (inClass (top 79) 8))::(nat_lit 665,oN)::(nat_lit 668,oG "below" "Store.below" (inClass (top 79) 9))::(nat_lit 673,oN)::(nat_lit 676,oG "many" "Store.many" (inClass (top 79) 10))::(nat_lit 681,oN)::(nat_lit 684,oG "total" "Store.total" (inClass (top 79) 11))::(nat_lit 688,oN)::(nat_lit 691,oG "unlike" "Store.unlike" (inClass (top 79) 12))::(nat_lit 696,oN)::(nat_lit 699,oG "way" "Store.way" (inClass (top 79) 13))::(nat_lit 703,oN)::(nat_lit 706,oG "pour" "Store.pour" (inClass (top 79) 14))::(nat_lit 710,oN)::(nat_lit 713,oG "press" "Store.press" (inClass (top 79) 15))::(nat_lit 717,oN)::(nat_lit 720,oG "squeeze" "Store.squeeze" (inClass (top 79) 16))::(nat_lit 725,oN)::(nat_lit 728,oG "each" "Store.each" (inClass (top 79) 17))::(nat_lit 732,oN)::(nat_lit 735,oG "steps" "Store.steps" (inClass (top 79) 18))::(nat_lit 739,oN)::(nat_lit 742,oG "twin" "Store.twin" (inClass (top 79) 19))::(nat_lit 746,oN)::(nat_lit 749,oG "image" "Store.image" (inClass (top 79) 20))::(nat_lit 757,⟨(.type "super"),none,(.fields #[(.ref 754),(.ref 754),(.ref 754)]),#[]⟩)::(nat_lit 758,⟨(.type "builtin_function_or_method"),none,(.fields #[(.builtin "object.__init_subclass__"),(.ref 754)]),#[]⟩)::(nat_lit 760,oN)::(nat_lit 763,oG "free_place" "free_place" (top 82))::(nat_lit 767,oN)::(nat_lit 770,oG "children_told" "children_told" (top 83))::(nat_lit 773,oT #[])::(nat_lit 774,⟨(.type "builtin_function_or_method"),none,(.fields #[(.builtin "type.__prepare__"),(.type "type")]),#[]⟩)::(nat_lit 775,⟨(.type "dict"),none,(.dict (List.toArray (⟨kh P "__module__",(.str "__module__" 1241),(.str "notefall.kept" 1215)⟩::⟨kh P "__qualname__",(.str "__qualname__" 1243),(.str "Kept" 1242)⟩::⟨kh P "__firstlineno__",(.str "__firstlineno__" 1245),(.int 357 1244)⟩::⟨kh P "__init__",(.str "__init__" 1256),(.ref 786)⟩::⟨kh P "do",(.str "do" 1264),(.ref 793)⟩::⟨kh P "settle",(.str "settle" 1270),(.ref 798)⟩::⟨kh P "standing_place",(.str "standing_place" 1281),(.ref 805)⟩::⟨kh P "write_head",(.str "write_head" 1290),(.ref 812)⟩::⟨kh P "__static_attributes__",(.str "__static_attributes__" 1295),(.ref 813)⟩::[])) 9),#[]⟩)::(nat_lit 776,oT #[])::(nat_lit 777,⟨.none,none,(.fields #[(.int 359 0),(.int 4 0),(.ref 785),(.int 365 0),(.int 4 0),(.ref 792),(.int 368 0),(.int 4 0),(.ref 797),(.int 388 0),(.int 4 0),(.ref 804),(.int 394 0),(.int 4 0),(.ref 811)]),#[]⟩)::(nat_lit 778,oC "Kept" 1236 "Kept" 1237 "/claim/cut.py" 1238 357 0 0 0 0 776 false 181 777 .none .none .none .none 1239 357 "/claim/cut.py" 1240)::(nat_lit 779,⟨(.type "frame"),none,.plain,#[(some (.ref 778)),(some (.ref 3)),(some (.ref 775)),none,(some (.str "notefall.kept" 1215)),none,(some (.ref 0))]⟩)::(nat_lit 781,oN)::(nat_lit 784,oG "__init__" "Kept.__init__" (inClass (top 84) 0))::(nat_lit 788,oN)::(nat_lit 791,oG "do" "Kept.do" (inClass (top 84) 1))::(nat_lit 795,oN)::(nat_lit 796,oG "settle" "Kept.settle" (inClass (top 84) 2))::(nat_lit 800,oN)::(nat_lit 803,oG "standing_place" "Kept.standing_place" (inClass (top 84) 3))::(nat_lit 807,oN)::(nat_lit 810,oG "write_head" "Kept.write_head" (inClass (top 84) 4))::(nat_lit 818,⟨(.type "super"),none,(.fields #[(.ref 815),(.ref 815),(.ref 815)]),#[]⟩)::(nat_lit 819,⟨(.type "builtin_function_or_method"),none,(.fields #[(.builtin "object.__init_subclass__"),(.ref 815)]),#[]⟩)::(nat_lit 821,oN)::(nat_lit 824,oG "begin" "begin" (top 85))::(nat_lit 828,oN)::(nat_lit 831,oG "signs_of" "signs_of" (top 88))::(nat_lit 834,oT #[])::(nat_lit 835,⟨(.type "builtin_function_or_method"),none,(.fields #[(.builtin "type.__prepare__"),(.type "type")]),#[]⟩)::(nat_lit 836,⟨(.type "dict"),none,(.dict (List.toArray (⟨kh P "__module__",(.str "__module__" 1333),(.str "notefall.shelf" 1313)⟩::⟨kh P "__qualname__",(.str "__qualname__" 1335),(.str "Shelf" 1334)⟩::⟨kh P "__firstlineno__",(.str "__firstlineno__" 1337),(.int 412 1336)⟩::⟨kh P "__init__",(.str "__init__" 1344),(.ref 847)⟩::⟨kh P "write",(.str "write" 1353),(.ref 854)⟩::⟨kh P "line",(.str "line" 1361),(.ref 861)⟩::⟨kh P "blot",(.str "blot" 1368),(.ref 868)⟩::⟨kh P "put_down",(.str "put_down" 1376),(.ref 875)⟩::⟨kh P "carry_out",(.str "carry_out" 1385),(.ref 882)⟩::⟨kh P "page",(.str "page" 1393),(.ref 889)⟩::⟨kh P "places",(.str "places" 1400),(.ref 896)⟩::⟨kh P "journal",(.str "journal" 1407),(.ref 903)⟩::⟨kh P "log",(.str "log" 1414),(.ref 910)⟩::⟨kh P "after",(.str "after" 1423),(.ref 917)⟩::⟨kh P "__static_attributes__",(.str "__static_attributes__" 1429),(.ref 918)⟩::[])) 15),#[]⟩)::(nat_lit 837,oT #[])::(nat_lit 838,⟨.none,none,(.fields #[(.int 414 0),(.int 4 0),(.ref 846),(.int 421 0),(.int 4 0),(.ref 853),(.int 426 0),(.int 4 0),(.ref 860),(.int 429 0),(.int 4 0),(.ref 867),(.int 432 0),(.int 4 0),(.ref 874),(.int 436 0),(.int 4 0),(.ref 881),(.int 444 0),(.int 4 0),(.ref 888),(.int 447 0),(.int 4 0),(.ref 895),(.int 450 0),(.int 4 0),(.ref 902),(.int 453 0),(.int 4 0),(.ref 909),(.int 456 0),(.int 4 0),(.ref 916)]),#[]⟩)::(nat_lit 839,oC "Shelf" 1328 "Shelf" 1329 "/claim/cut.py" 1330 412 0 0 0 0 837 false 181 838 .none .none .none .none 1331 412 "/claim/cut.py" 1332)::(nat_lit 840,⟨(.type "frame"),none,.plain,#[(some (.ref 839)),(some (.ref 3)),(some (.ref 836)),none,(some (.str "notefall.shelf" 1313)),none,(some (.ref 0))]⟩)::(nat_lit 842,oN)::(nat_lit 845,oG "__init__" "Shelf.__init__" (inClass (top 89) 0))::(nat_lit 849,oN)::(nat_lit 852,oG "write" "Shelf.write" (inClass (top 89) 1))::(nat_lit 856,oN)::(nat_lit 859,oG "line" "Shelf.line" (inClass (top 89) 2))::(nat_lit 863,oN)::(nat_lit 866,oG "blot" "Shelf.blot" (inClass (top 89) 3))::(nat_lit 870,oN)::(nat_lit 873,oG "put_down" "Shelf.put_down" (inClass (top 89) 4))::(nat_lit 877,oN)::(nat_lit 880,oG "carry_out" "Shelf.carry_out" (inClass (top 89) 5))::(nat_lit 884,oN)::(nat_lit 887,oG "page" "Shelf.page" (inClass (top 89) 6))::(nat_lit 891,oN)::(nat_lit 894,oG "places" "Shelf.places" (inClass (top 89) 7))::(nat_lit 898,oN)::(nat_lit 901,oG "journal" "Shelf.journal" (inClass (top 89) 8))::(nat_lit 905,oN)::(nat_lit 908,oG "log" "Shelf.log" (inClass (top 89) 9))::(nat_lit 912,oN)::(nat_lit 915,oG "after" "Shelf.after" (inClass (top 89) 10))::(nat_lit 923,⟨(.type "super"),none,(.fields #[(.ref 920),(.ref 920),(.ref 920)]),#[]⟩)::(nat_lit 924,⟨(.type "builtin_function_or_method"),none,(.fields #[(.builtin "object.__init_subclass__"),(.ref 920)]),#[]⟩)::(nat_lit 926,oN)::(nat_lit 929,oG "_law_cell_at" "_law_cell_at" (top 91))::(nat_lit 933,oN)::(nat_lit 936,oG "_law_digit" "_law_digit" (top 92))::(nat_lit 940,oN)::(nat_lit 941,oG "_law_alike" "_law_alike" (top 93))::(nat_lit 945,oN)::(nat_lit 948,oG "_law_rule" "_law_rule" (top 94))::(nat_lit 952,oN)::(nat_lit 955,oG "_law_no_rules" "_law_no_rules" (top 95))::(nat_lit 959,oN)::(nat_lit 962,oG "_law_page" "_law_page" (top 96))::(nat_lit 966,oN)::(nat_lit 967,oG "_law_due" "_law_due" (top 97))::(nat_lit 971,oN)::(nat_lit 974,oG "_law_begun" "_law_begun" (top 98))::(nat_lit 978,oN)::(nat_lit 981,oG "_law_refused" "_law_refused" (top 99))::(nat_lit 985,oN)::(nat_lit 988,oG "_law_not_bare" "_law_not_bare" (top 100))::(nat_lit 992,oN)::(nat_lit 995,oG "law" "law" (top 101))::[]
def OZ:List Addr:=nat_lit 2::nat_lit 3::nat_lit 15::nat_lit 17::nat_lit 18::nat_lit 20::nat_lit 21::nat_lit 22::nat_lit 29::nat_lit 30::nat_lit 31::nat_lit 32::nat_lit 35::nat_lit 42::nat_lit 43::nat_lit 44::nat_lit 47::nat_lit 54::nat_lit 55::nat_lit 56::nat_lit 59::nat_lit 66::nat_lit 67::nat_lit 68::nat_lit 71::nat_lit 78::nat_lit 79::nat_lit 80::nat_lit 83::nat_lit 90::nat_lit 91::nat_lit 92::nat_lit 95::nat_lit 102::nat_lit 103::nat_lit 104::nat_lit 107::nat_lit 114::nat_lit 115::nat_lit 116::nat_lit 119::nat_lit 120::nat_lit 122::nat_lit 123::nat_lit 125::nat_lit 126::nat_lit 127::nat_lit 129::nat_lit 130::nat_lit 132::nat_lit 133::nat_lit 134::nat_lit 136::nat_lit 137::nat_lit 139::nat_lit 140::nat_lit 141::nat_lit 143::nat_lit 144::nat_lit 146::nat_lit 147::nat_lit 148::nat_lit 150::nat_lit 151::nat_lit 153::nat_lit 154::nat_lit 155::nat_lit 157::nat_lit 158::nat_lit 160::nat_lit 161::nat_lit 162::nat_lit 164::nat_lit 165::nat_lit 167::nat_lit 168::nat_lit 169::nat_lit 171::nat_lit 172::nat_lit 174::nat_lit 175::nat_lit 176::nat_lit 178::nat_lit 179::nat_lit 181::nat_lit 182::nat_lit 183::nat_lit 184::nat_lit 186::nat_lit 187::nat_lit 189::nat_lit 190::nat_lit 191::nat_lit 193::nat_lit 194::nat_lit 196::nat_lit 197::nat_lit 198::nat_lit 200::nat_lit 201::nat_lit 203::nat_lit 204::nat_lit 205::nat_lit 207::nat_lit 208::nat_lit 210::nat_lit 211::nat_lit 212::nat_lit 215::nat_lit 216::nat_lit 217::nat_lit 219::nat_lit 220::nat_lit 222::nat_lit 223::nat_lit 224::nat_lit 227::nat_lit 228::nat_lit 229::nat_lit 231::nat_lit 232::nat_lit 234::nat_lit 235::nat_lit 236::nat_lit 239::nat_lit 240::nat_lit 241::nat_lit 243::nat_lit 244::nat_lit 246::nat_lit 247::nat_lit 248::nat_lit 250::nat_lit 251::nat_lit 253::nat_lit 254::nat_lit 255::nat_lit 258::nat_lit 259::nat_lit 260::nat_lit 262::nat_lit 263::nat_lit 265::nat_lit 266::nat_lit 267::nat_lit 270::nat_lit 271::nat_lit 272::nat_lit 274::nat_lit 275::nat_lit 277::nat_lit 278::nat_lit 279::nat_lit 280::nat_lit 282::nat_lit 283::nat_lit 285::nat_lit 286::nat_lit 287::nat_lit 290::nat_lit 291::nat_lit 292::nat_lit 295::nat_lit 296::nat_lit 297::nat_lit 298::nat_lit 300::nat_lit 301::nat_lit 303::nat_lit 304::nat_lit 312::nat_lit 314::nat_lit 315::nat_lit 317::nat_lit 318::nat_lit 319::nat_lit 320::nat_lit 321::nat_lit 322::nat_lit 323::nat_lit 333::nat_lit 335::nat_lit 336::nat_lit 338::nat_lit 339::nat_lit 340::nat_lit 341::nat_lit 342::nat_lit 343::nat_lit 344::nat_lit 347::nat_lit 349::nat_lit 350::nat_lit 352::nat_lit 353::nat_lit 354::nat_lit 357::nat_lit 358::nat_lit 366::nat_lit 368::nat_lit 369::nat_lit 371::nat_lit 372::nat_lit 373::nat_lit 375::nat_lit 376::nat_lit 378::nat_lit 379::nat_lit 380::nat_lit 382::nat_lit 383::nat_lit 385::nat_lit 386::nat_lit 387::nat_lit 389::nat_lit 390::nat_lit 392::nat_lit 393::nat_lit 394::nat_lit 396::nat_lit 397::nat_lit 399::nat_lit 400::nat_lit 401::nat_lit 403::nat_lit 404::nat_lit 406::nat_lit 407::nat_lit 408::nat_lit 410::nat_lit 411::nat_lit 413::nat_lit 414::nat_lit 415::nat_lit 417::nat_lit 418::nat_lit 420::nat_lit 421::nat_lit 422::nat_lit 424::nat_lit 425::nat_lit 427::nat_lit 428::nat_lit 429::nat_lit 431::nat_lit 432::nat_lit 434::nat_lit 435::nat_lit 436::nat_lit 438::nat_lit 439::nat_lit 441::nat_lit 442::nat_lit 443::nat_lit 445::nat_lit 446::nat_lit 448::nat_lit 449::nat_lit 450::nat_lit 452::nat_lit 453::nat_lit 455::nat_lit 456::nat_lit 457::nat_lit 459::nat_lit 460::nat_lit 462::nat_lit 463::nat_lit 464::nat_lit 465::nat_lit 466::nat_lit 467::nat_lit 468::nat_lit 471::nat_lit 473::nat_lit 474::nat_lit 476::nat_lit 477::nat_lit 478::nat_lit 481::nat_lit 482::nat_lit 483::nat_lit 485::nat_lit 486::nat_lit 488::nat_lit 489::nat_lit 490::nat_lit 493::nat_lit 494::nat_lit 495::nat_lit 498::nat_lit 499::nat_lit 500::nat_lit 503::nat_lit 504::nat_lit 505::nat_lit 507::nat_lit 508::nat_lit 510::nat_lit 511::nat_lit 512::nat_lit 514::nat_lit 515::nat_lit 517::nat_lit 518::nat_lit 519::nat_lit 521::nat_lit 522::nat_lit 524::nat_lit 525::nat_lit 526::nat_lit 528::nat_lit 529::nat_lit 531::nat_lit 532::nat_lit 533::nat_lit 535::nat_lit 536::nat_lit 538::nat_lit 539::nat_lit 540::nat_lit 543::nat_lit 544::nat_lit 545::nat_lit 547::nat_lit 548::nat_lit 550::nat_lit 551::nat_lit 552::nat_lit 554::nat_lit 555::nat_lit 557::nat_lit 558::nat_lit 559::nat_lit 562::nat_lit 563::nat_lit 564::nat_lit 565::nat_lit 567::nat_lit 568::nat_lit 570::nat_lit 571::nat_lit 572::nat_lit 573::nat_lit 574::nat_lit 576::nat_lit 577::nat_lit 579::nat_lit 580::nat_lit 581::nat_lit 582::nat_lit 584::nat_lit 585::nat_lit 587::nat_lit 588::nat_lit 596::nat_lit 598::nat_lit 599::nat_lit 601::nat_lit 602::nat_lit 603::nat_lit 605::nat_lit 606::nat_lit 608::nat_lit 609::nat_lit 610::nat_lit 612::nat_lit 613::nat_lit 615::nat_lit 616::nat_lit 617::nat_lit 619::nat_lit 620::nat_lit 622::nat_lit 623::nat_lit 624::nat_lit 626::nat_lit 627::nat_lit 629::nat_lit 630::nat_lit 631::nat_lit 632::nat_lit 634::nat_lit 635::nat_lit 637::nat_lit 638::nat_lit 639::nat_lit 640::nat_lit 641::nat_lit 643::nat_lit 644::nat_lit 646::nat_lit 647::nat_lit 648::nat_lit 650::nat_lit 651::nat_lit 653::nat_lit 654::nat_lit 655::nat_lit 656::nat_lit 658::nat_lit 659::nat_lit 661::nat_lit 662::nat_lit 663::nat_lit 664::nat_lit 666::nat_lit 667::nat_lit 669::nat_lit 670::nat_lit 671::nat_lit 672::nat_lit 674::nat_lit 675::nat_lit 677::nat_lit 678::nat_lit 679::nat_lit 680::nat_lit 682::nat_lit 683::nat_lit 685::nat_lit 686::nat_lit 687::nat_lit 689::nat_lit 690::nat_lit 692::nat_lit 693::nat_lit 694::nat_lit 695::nat_lit 697::nat_lit 698::nat_lit 700::nat_lit 701::nat_lit 702::nat_lit 704::nat_lit 705::nat_lit 707::nat_lit 708::nat_lit 709::nat_lit 711::nat_lit 712::nat_lit 714::nat_lit 715::nat_lit 716::nat_lit 718::nat_lit 719::nat_lit 721::nat_lit 722::nat_lit 723::nat_lit 724::nat_lit 726::nat_lit 727::nat_lit 729::nat_lit 730::nat_lit 731::nat_lit 733::nat_lit 734::nat_lit 736::nat_lit 737::nat_lit 738::nat_lit 740::nat_lit 741::nat_lit 743::nat_lit 744::nat_lit 745::nat_lit 747::nat_lit 748::nat_lit 750::nat_lit 751::nat_lit 752::nat_lit 753::nat_lit 754::nat_lit 755::nat_lit 756::nat_lit 759::nat_lit 761::nat_lit 762::nat_lit 764::nat_lit 765::nat_lit 766::nat_lit 768::nat_lit 769::nat_lit 771::nat_lit 772::nat_lit 780::nat_lit 782::nat_lit 783::nat_lit 785::nat_lit 786::nat_lit 787::nat_lit 789::nat_lit 790::nat_lit 792::nat_lit 793::nat_lit 794::nat_lit 797::nat_lit 798::nat_lit 799::nat_lit 801::nat_lit 802::nat_lit 804::nat_lit 805::nat_lit 806::nat_lit 808::nat_lit 809::nat_lit 811::nat_lit 812::nat_lit 813::nat_lit 814::nat_lit 815::nat_lit 816::nat_lit 817::nat_lit 820::nat_lit 822::nat_lit 823::nat_lit 825::nat_lit 826::nat_lit 827::nat_lit 829::nat_lit 830::nat_lit 832::nat_lit 833::nat_lit 841::nat_lit 843::nat_lit 844::nat_lit 846::nat_lit 847::nat_lit 848::nat_lit 850::nat_lit 851::nat_lit 853::nat_lit 854::nat_lit 855::nat_lit 857::nat_lit 858::nat_lit 860::nat_lit 861::nat_lit 862::nat_lit 864::nat_lit 865::nat_lit 867::nat_lit 868::nat_lit 869::nat_lit 871::nat_lit 872::nat_lit 874::nat_lit 875::nat_lit 876::nat_lit 878::nat_lit 879::nat_lit 881::nat_lit 882::nat_lit 883::nat_lit 885::nat_lit 886::nat_lit 888::nat_lit 889::nat_lit 890::nat_lit 892::nat_lit 893::nat_lit 895::nat_lit 896::nat_lit 897::nat_lit 899::nat_lit 900::nat_lit 902::nat_lit 903::nat_lit 904::nat_lit 906::nat_lit 907::nat_lit 909::nat_lit 910::nat_lit 911::nat_lit 913::nat_lit 914::nat_lit 916::nat_lit 917::nat_lit 918::nat_lit 919::nat_lit 920::nat_lit 921::nat_lit 922::nat_lit 925::nat_lit 927::nat_lit 928::nat_lit 930::nat_lit 931::nat_lit 932::nat_lit 934::nat_lit 935::nat_lit 937::nat_lit 938::nat_lit 939::nat_lit 942::nat_lit 943::nat_lit 944::nat_lit 946::nat_lit 947::nat_lit 949::nat_lit 950::nat_lit 951::nat_lit 953::nat_lit 954::nat_lit 956::nat_lit 957::nat_lit 958::nat_lit 960::nat_lit 961::nat_lit 963::nat_lit 964::nat_lit 965::nat_lit 968::nat_lit 969::nat_lit 970::nat_lit 972::nat_lit 973::nat_lit 975::nat_lit 976::nat_lit 977::nat_lit 979::nat_lit 980::nat_lit 982::nat_lit 983::nat_lit 984::nat_lit 986::nat_lit 987::nat_lit 989::nat_lit 990::nat_lit 991::nat_lit 993::nat_lit 994::nat_lit 996::nat_lit 997::[]
def hQ:Program:={ PySem.Challenge.pw_notefall_k84_begun_on_a_bare_shelf with main:={ PySem.Challenge.pw_notefall_k84_begun_on_a_bare_shelf.main with body:=top 0::top 2::top 3::top 4::top 5::top 6::top 7::top 8::top 9::top 11::top 12::top 13::top 14::top 15::top 16::top 17::top 18::top 19::top 20::top 21::top 22::top 23::top 24::top 25::top 27::top 28::top 29::top 31::top 33::top 34::top 36::top 37::top 38::top 39::top 40::top 41::top 42::top 43::top 44::top 45::top 49::top 50::top 53::top 54::top 55::top 56::top 57::top 58::top 60::top 61::top 62::top 63::top 64::top 66::top 67::top 68::top 69::top 70::top 71::top 72::top 73::top 74::top 79::top 81::top 82::top 83::top 84::top 85::top 87::top 88::top 89::top 91::top 92::top 93::top 94::top 95::top 96::top 97::top 98::top 99::top 100::top 101::[] } }
def B7:List (Str×PySem.W.WData):=[((Str.ofString "END"),PySem.W.WData.int 1000000000000),((Str.ofString "MOST_PLACE"),PySem.W.WData.int 1000000)]
def z0:List Str:=[(Str.ofString "END"),(Str.ofString "value_of"),(Str.ofString "seen"),(Str.ofString "read_key"),(Str.ofString "read_stretch"),(Str.ofString "read_many"),(Str.ofString "Store"),(Str.ofString "MOST_PLACE")]
def Rh (s:Shared):List (Option Obj):=OZ.map s.heap.get?
def Ri (K:Params→PySem.W.Frag) (w:World):List (Option Obj):=(K w.params).map fun p=>some p.2
theorem hE (P:Params):OZ=(hK P).map (·.1):=by kernel_rfl
abbrev Ds (q:Program) (lv:List (Str×PySem.W.WData)) (s:Shared):Bool:=PySem.W.xlAt q lv s&&PySem.W.recOk (PySem.W.RowW.records (PySem.W.OpenRow.toRowW PySem.Challenge.rw_notefall_k84_begun_on_a_bare_shelf.row)) s
noncomputable def hAo (P:Params):List Obj:=
 (PySem.W.boot_o_0 P)::
 (PySem.W.boot_o_1 P)::
 (PySem.W.boot_o_2 P)::
 (PySem.W.boot_o_3 P)::
 (PySem.W.boot_o_4 P)::
 (PySem.W.boot_o_5 P)::
 (PySem.W.boot_o_6 P)::
 (PySem.W.boot_o_7 P)::
 (PySem.W.boot_o_8 P)::
 (PySem.W.boot_o_9 P)::
 (PySem.W.boot_o_10 P)::
 (⟨(.type "tuple"),none,(.seq #[] 0),#[]⟩)::
 (⟨.none,none,(.fields #[]),#[]⟩)::
 (⟨(.type "code"),none,(.fields #[(.str "<module>" 182),(.str "<module>" 183),(.str "/claim/cut.py" 184),(.int 1 0),(.int 0 0),(.int 0 0),(.int 0 0),(.int 0 0),(.ref 11),(.bool false),(.int 181 0),(.ref 12),.none,.none,.none,.none,(.int 185 0),(.int 1 0),(.str "/claim/cut.py" 186)]),#[]⟩)::
 (⟨(.type "frame"),none,.plain,#[(some (.ref 13)),(some (.ref 3)),(some (.ref 3)),none,(some (.str "__main__" 164)),none,(some (.ref 0))]⟩)::[]
def Gb:Nat→PySem.W.Frag→PySem.W.Frag→List Obj
  | 0,_,_=>[]
  | n + 1,(a,o)::r,(b,p)::s=>match Nat.blt a b with
    | true=>o::Gb n r ((b,p)::s)
    | false=>p::Gb n ((a,o)::r) s
  | n + 1,(_,o)::r,[]=>o::Gb n r []
  | n + 1,[],(_,p)::s=>p::Gb n [] s
  | _ + 1,[],[]=>[]
def LJ:List Obj→Nat→PySem.W.BT→PySem.W.BT
  | [],_,t=>t
  | o::r,n,t=>LJ r (n + 1) (t.ins n o)
noncomputable def hTr (P:Params):PySem.W.BT:=LJ (Gb 998 (hK P) (abk P)) 0 .nil
noncomputable def Iz:Env:={ scope:=PySem.Challenge.pw_notefall_k84_begun_on_a_bare_shelf.main.scope,locals:=mainNs,globals:=mainNs,cells:=[],code:=(.ref 13),frame:=some 14 }
noncomputable abbrev LK:Code:=Code.body (PySem.W.behindTheImports PySem.Challenge.pw_notefall_k84_begun_on_a_bare_shelf) Iz
noncomputable abbrev Rj (P:Params) (os:OsState):PySem.W.SharedT:=⟨LJ (hAo P) 0 .nil,15,{},Array.mk [],⟨0,0,0,0⟩,187,os⟩
noncomputable abbrev hSm (P:Params) (os:OsState):PySem.W.SharedT:=⟨hTr P,998,{},Array.mk [],⟨0,0,0,0⟩,1550,os⟩
set_option maxRecDepth 100000 in
set_option maxHeartbeats 0 in
theorem abl (w:World) (os:OsState):PySem.W.topGo PySem.W.Fast.tw14364793385576792824 PySem.Challenge.pw_notefall_k84_begun_on_a_bare_shelf w 11 (some (.ref 6)) 12 ⟨PySem.W.boot_heap w.params,Array.mk [],PySem.W.boot_drawn,PySem.W.boot_toks,os⟩ (PySem.W.topStub PySem.Challenge.pw_notefall_k84_begun_on_a_bare_shelf)=some ((Rj w.params os).abs,⟨denote PySem.W.Fast.tw14364793385576792824 LK,LK,⟨0,0,0,0⟩,[PySem.W.topFrame ⟨0,0,0,0⟩]⟩):=by kernel_rfl
set_option maxRecDepth 100000 in
set_option maxHeartbeats 0 in
theorem abm (w:World) (os:OsState):PySem.W.segRun PySem.W.Fast.tw14364793385576792824 PySem.Challenge.pw_notefall_k84_begun_on_a_bare_shelf w 11 (some (.ref 6)) 1 1 (Rj w.params os).abs (PySem.W.blockOf (PySem.W.behindTheImports PySem.Challenge.pw_notefall_k84_begun_on_a_bare_shelf) Iz LK ⟨0,0,0,0⟩ [PySem.W.topFrame ⟨0,0,0,0⟩])=some (.next,(Rj w.params os).abs,LK,⟨0,0,0,0⟩):=by kernel_rfl
noncomputable abbrev vN (P:Params):Heap:=PySem.W.absHeap (hTr P) 998 {}
set_option maxRecDepth 100000 in
set_option maxHeartbeats 0 in
theorem O0 (w:World) (os:OsState):PySem.W.Fast.tw10110043849684766642 PySem.W.Fast.tw14364793385576792824 PySem.Challenge.pw_notefall_k84_begun_on_a_bare_shelf w 11 (some (.ref 6)) 1 6833 (Rj w.params os) ⟨(PySem.W.Fast.tw12563942051412417395 (PySem.W.behindTheImports PySem.Challenge.pw_notefall_k84_begun_on_a_bare_shelf) Iz).wrap PySem.W.doneF PySem.W.deadEnd id id,LK,⟨0,0,0,0⟩,[PySem.W.topFrame ⟨0,0,0,0⟩]⟩=some (.next,hSm w.params os,LK,⟨539,0,561,130⟩):=by kernel_rfl
set_option maxRecDepth 100000 in
set_option maxHeartbeats 0 in
theorem abn (w:World) (os:OsState):PySem.W.topRun PySem.W.Fast.tw14364793385576792824 PySem.Challenge.pw_notefall_k84_begun_on_a_bare_shelf w 11 (some (.ref 6)) 2 (hSm w.params os).abs (PySem.W.restOf [] Iz LK ⟨539,0,561,130⟩ [PySem.W.topFrame ⟨0,0,0,0⟩])=some ⟨vN w.params,Array.mk [],⟨0,0,0,0⟩,1550,os⟩:=by kernel_rfl
theorem LL {F F':(String→Option Builtin)→Program→World→Nat→Option Value→Nat→Nat→PySem.W.SharedT→Thread→Option (Flow×PySem.W.SharedT×Code×Pos)} {G G':List Stmt→Env→Sem Flow} {tb:String→Option Builtin} {p:Program} {w:World} {m n:Nat} {ann:Option Value} {S:PySem.W.SharedT} {l:List Stmt} {env:Env} {c:Code} {pos:Pos} {B:List Frame} {r:Option (Flow×PySem.W.SharedT×Code×Pos)}
    (h:F' tb p w m ann 1 n S ⟨(G' l env).wrap PySem.W.doneF PySem.W.deadEnd id id,c,pos,B⟩=r) (eF:F=F') (eG:G=G'):F tb p w m ann 1 n S ⟨(G l env).wrap PySem.W.doneF PySem.W.deadEnd id id,c,pos,B⟩=r:=by
  subst eF eG;exact h
theorem Dt {tb:String→Option Builtin} {p:Program} {w:World} {m n0 n1 n2 n3:Nat} {ann:Option Value} {env:Env} {q:Pos} {b:List Stmt} {S0 Sa R:Shared} {SA SM:PySem.W.SharedT} {O1:Thread} {O2 O3 O4:Pos} (ea:SA.abs=Sa)
    (h1:PySem.W.topGo tb p w m ann n0 S0 O1=some (Sa,⟨denote tb (Code.body b env),Code.body b env,O2,[PySem.W.topFrame q]⟩))
    (h2:PySem.W.segRun tb p w m ann 1 n1 Sa (PySem.W.blockOf b env (Code.body b env) O2 [PySem.W.topFrame q])=some (.next,Sa,Code.body b env,O3))
    (h3:PySem.W.segRunT tb p w m ann 1 n2 SA (PySem.W.piecesOf b env (Code.body b env) O3 [PySem.W.topFrame q])=some (.next,SM,Code.body b env,O4))
    (h4:PySem.W.topRun tb p w m ann n3 SM.abs (PySem.W.restOf [] env (Code.body b env) O4 [PySem.W.topFrame q])=some R):PySem.W.topRun tb p w m ann (n0 + (n1 + (n2 + n3))) S0 O1=some R:=by
  subst ea
  refine PySem.W.go_top h1 (PySem.W.piece_block h2 ?_)
  have h:=PySem.W.piece_app (rest:=[]) (PySem.W.segRun_of h3) h4
  rw [List.append_nil] at h
  exact h
set_option maxRecDepth 100000 in
set_option maxHeartbeats 0 in
theorem abo (w:World) (os:OsState):PySem.W.topRun PySem.W.Fast.tw14364793385576792824 PySem.Challenge.pw_notefall_k84_begun_on_a_bare_shelf w 11 (some (.ref 6)) (12 + (1 + (6833 + 2))) ⟨PySem.W.boot_heap w.params,Array.mk [],PySem.W.boot_drawn,PySem.W.boot_toks,os⟩ (PySem.W.topStub PySem.Challenge.pw_notefall_k84_begun_on_a_bare_shelf)=some ⟨vN w.params,Array.mk [],⟨0,0,0,0⟩,1550,os⟩:=
  Dt rfl (abl w os) (abm w os) (LL (O0 w os) PySem.W.Fast.te10110043849684766642 PySem.W.Fast.te12563942051412417395) (abn w os)
noncomputable abbrev hGa (p:Program) (im:List Stmt→List Str) (w:World) (os:OsState):Bool:=PySem.W.staticsOk (im p.main.body) (PySem.W.boot_heap w.params) (vN w.params)&&PySem.W.namesBound p (vN w.params)&&PySem.W.gensDone ⟨vN w.params,Array.mk [],⟨0,0,0,0⟩,1550,os⟩&&PySem.W.laidKept (PySem.W.boot_heap w.params) (vN w.params)
abbrev hG {t:Type} (p q:Program) (lo:List Str) (lv:List (Str×PySem.W.WData)) (K:Params→PySem.W.Frag) (sn:Program→List Str→List Str→(Shared→Bool)→Bool→Shared→t) (gd:Program→List Str→t) (im:List Stmt→List Str) (w:World):Prop:=
  (fun os:OsState=>(hGa p im w os,sn q lo (im p.main.body) (Ds q lv) true ⟨vN w.params,Array.mk [],⟨0,0,0,0⟩,1550,os⟩,Rh ⟨vN w.params,Array.mk [],⟨0,0,0,0⟩,1550,os⟩))=fun _=>(true,gd q lo,Ri K w)
theorem O5 {t:Type} {p p' q q':Program} {lo lo':List Str} {lv lv':List (Str×PySem.W.WData)} {K K':Params→PySem.W.Frag} {sn sn':Program→List Str→List Str→(Shared→Bool)→Bool→Shared→t} {gd:Program→List Str→t} {im im':List Stmt→List Str} {w:World}
    (h:hG p' q' lo' lv' K' sn' gd im' w) (e2:p=p') (e3:q=q') (e4:lo=lo') (e5:lv=lv') (e6:K=K') (e7:sn=sn') (e8:im=im'):hG p q lo lv K sn gd im w:=by
  subst e2 e3 e4 e5 e6 e7 e8;exact h
set_option maxRecDepth 100000 in
set_option maxHeartbeats 0 in
theorem hLa (w:World) (os:OsState):hGa PySem.Challenge.pw_notefall_k84_begun_on_a_bare_shelf PySem.W.Fast.tw5923862056798008813 w os=true:=by kernel_rfl
set_option maxRecDepth 100000 in
set_option maxHeartbeats 0 in
theorem hB0 (w:World) (os:OsState):(PySem.W.Fast.tw4187177175401517315 hQ z0 (PySem.W.Fast.tw5923862056798008813 PySem.Challenge.pw_notefall_k84_begun_on_a_bare_shelf.main.body) (Ds hQ B7) true ⟨vN w.params,Array.mk [],⟨0,0,0,0⟩,1550,os⟩).1=PyProof.Rows.expectedOf hQ:=by kernel_rfl
set_option maxRecDepth 100000 in
set_option maxHeartbeats 0 in
theorem hB1 (w:World) (os:OsState):(PySem.W.Fast.tw4187177175401517315 hQ z0 (PySem.W.Fast.tw5923862056798008813 PySem.Challenge.pw_notefall_k84_begun_on_a_bare_shelf.main.body) (Ds hQ B7) true ⟨vN w.params,Array.mk [],⟨0,0,0,0⟩,1550,os⟩).2.1=PySem.bltViewBooted:=by kernel_rfl
set_option maxRecDepth 100000 in
set_option maxHeartbeats 0 in
theorem hB2 (w:World) (os:OsState):(PySem.W.Fast.tw4187177175401517315 hQ z0 (PySem.W.Fast.tw5923862056798008813 PySem.Challenge.pw_notefall_k84_begun_on_a_bare_shelf.main.body) (Ds hQ B7) true ⟨vN w.params,Array.mk [],⟨0,0,0,0⟩,1550,os⟩).2.2.1=true:=by kernel_rfl
set_option maxRecDepth 100000 in
set_option maxHeartbeats 0 in
theorem hB3 (w:World) (os:OsState):(PySem.W.Fast.tw4187177175401517315 hQ z0 (PySem.W.Fast.tw5923862056798008813 PySem.Challenge.pw_notefall_k84_begun_on_a_bare_shelf.main.body) (Ds hQ B7) true ⟨vN w.params,Array.mk [],⟨0,0,0,0⟩,1550,os⟩).2.2.2.1=true:=by kernel_rfl
set_option maxRecDepth 100000 in
set_option maxHeartbeats 0 in
theorem hB4 (w:World) (os:OsState):(PySem.W.Fast.tw4187177175401517315 hQ z0 (PySem.W.Fast.tw5923862056798008813 PySem.Challenge.pw_notefall_k84_begun_on_a_bare_shelf.main.body) (Ds hQ B7) true ⟨vN w.params,Array.mk [],⟨0,0,0,0⟩,1550,os⟩).2.2.2.2.1=PySem.pinGoodD (PyProof.Rows.drecsOf hQ):=by kernel_rfl
set_option maxRecDepth 100000 in
set_option maxHeartbeats 0 in
theorem hB5 (w:World) (os:OsState):(PySem.W.Fast.tw4187177175401517315 hQ z0 (PySem.W.Fast.tw5923862056798008813 PySem.Challenge.pw_notefall_k84_begun_on_a_bare_shelf.main.body) (Ds hQ B7) true ⟨vN w.params,Array.mk [],⟨0,0,0,0⟩,1550,os⟩).2.2.2.2.2.1=PyProof.Rows.plainGoodE hQ (PySem.W.looseW hQ z0):=by kernel_rfl
set_option maxRecDepth 100000 in
set_option maxHeartbeats 0 in
theorem hB6 (w:World) (os:OsState):(PySem.W.Fast.tw4187177175401517315 hQ z0 (PySem.W.Fast.tw5923862056798008813 PySem.Challenge.pw_notefall_k84_begun_on_a_bare_shelf.main.body) (Ds hQ B7) true ⟨vN w.params,Array.mk [],⟨0,0,0,0⟩,1550,os⟩).2.2.2.2.2.2.1=PyProof.Rows.plainGoodD hQ z0:=by kernel_rfl
set_option maxRecDepth 100000 in
set_option maxHeartbeats 0 in
theorem hB7 (w:World) (os:OsState):(PySem.W.Fast.tw4187177175401517315 hQ z0 (PySem.W.Fast.tw5923862056798008813 PySem.Challenge.pw_notefall_k84_begun_on_a_bare_shelf.main.body) (Ds hQ B7) true ⟨vN w.params,Array.mk [],⟨0,0,0,0⟩,1550,os⟩).2.2.2.2.2.2.2.1=PySem.W.wideGood hQ:=by kernel_rfl
set_option maxRecDepth 100000 in
set_option maxHeartbeats 0 in
theorem hB8 (w:World) (os:OsState):(PySem.W.Fast.tw4187177175401517315 hQ z0 (PySem.W.Fast.tw5923862056798008813 PySem.Challenge.pw_notefall_k84_begun_on_a_bare_shelf.main.body) (Ds hQ B7) true ⟨vN w.params,Array.mk [],⟨0,0,0,0⟩,1550,os⟩).2.2.2.2.2.2.2.2=PySem.W.clsGoodW hQ z0:=by kernel_rfl
theorem abp {A B C D E F G H I:Type} {x:A×B×C×D×E×F×G×H×I} {a b c d e f g h i} (h0:x.1=a) (h1:x.2.1=b) (h2:x.2.2.1=c) (h3:x.2.2.2.1=d) (h4:x.2.2.2.2.1=e) (h5:x.2.2.2.2.2.1=f) (h6:x.2.2.2.2.2.2.1=g) (h7:x.2.2.2.2.2.2.2.1=h) (h8:x.2.2.2.2.2.2.2.2=i):x=(a,b,c,d,e,f,g,h,i):=by subst h0 h1 h2 h3 h4 h5 h6 h7 h8;rfl
theorem hLb (w:World) (os:OsState):(PySem.W.Fast.tw4187177175401517315 hQ z0 (PySem.W.Fast.tw5923862056798008813 PySem.Challenge.pw_notefall_k84_begun_on_a_bare_shelf.main.body) (Ds hQ B7) true ⟨vN w.params,Array.mk [],⟨0,0,0,0⟩,1550,os⟩)=PySem.W.openGood hQ z0:=abp (hB0 w os) (hB1 w os) (hB2 w os) (hB3 w os) (hB4 w os) (hB5 w os) (hB6 w os) (hB7 w os) (hB8 w os)
set_option maxRecDepth 100000 in
set_option maxHeartbeats 0 in
theorem hLc (w:World) (os:OsState):Rh ⟨vN w.params,Array.mk [],⟨0,0,0,0⟩,1550,os⟩=Ri hK w:=by kernel_rfl
theorem hLk (w:World):hG PySem.Challenge.pw_notefall_k84_begun_on_a_bare_shelf hQ z0 B7 hK PySem.W.Fast.tw4187177175401517315 PySem.W.openGood PySem.W.Fast.tw5923862056798008813 w:=funext fun os=>congr (congrArg Prod.mk (hLa w os)) (congr (congrArg Prod.mk (hLb w os)) (hLc w os))
theorem O6 {tb tb':String→Option Builtin} {p p':Program} {M:Nat} {S R:World→OsState→Shared} (h:∀ w os,PySem.W.topRun tb' p' w 11 (some (.ref 6)) M (S w os) (PySem.W.topStub p')=some (R w os)) (e1:tb=tb') (e2:p=p'):∀ w os,PySem.W.topRun tb p w 11 (some (.ref 6)) M (S w os) (PySem.W.topStub p)=some (R w os):=by
  subst e1 e2;exact h
set_option maxRecDepth 100000 in
set_option maxHeartbeats 0 in
theorem hSz (w:World):((PySem.W.boot_heap w.params).isNs mainGlobals&&(Array.mk []:Array GenState).size==0,(PySem.W.boot_heap w.params).objs.size,(PySem.W.boot_heap w.params).nsMap mainGlobals "__annotations__")=(true,11,(some (.ref 6))):=by kernel_rfl
set_option maxRecDepth 100000 in
set_option maxHeartbeats 0 in
theorem hl:PySem.W.LeftO PySem.Challenge.pw_notefall_k84_begun_on_a_bare_shelf hQ z0 (Ds hQ B7) Rh (Ri hK) 13772:=
  PySem.W.LeftO.of_pieces (H₁:=vN) (gs₁:=Array.mk []) (d₁:=⟨0,0,0,0⟩) (k₁:=1550) (PySem.W.boot_open (by kernel_rfl) (by decide +kernel) (fun s=>by kernel_rfl)) hSz (O6 (M:=(12 + (1 + (6833 + 2)))) abo PySem.W.Fast.te14364793385576792824 rfl) (by decide +kernel)
    (fun w=>O5 (hLk w) rfl rfl rfl rfl rfl PySem.W.Fast.te4187177175401517315 PySem.W.Fast.te5923862056798008813)
end K84
open PySem PySem.W PyProof.Rows
set_option maxRecDepth 100000 in
set_option maxHeartbeats 0 in
theorem PySem.Challenge.cw_notefall_k84_begun_on_a_bare_shelf_holds : PySem.Challenge.rw_notefall_k84_begun_on_a_bare_shelf.Holds := by
  w_on;o_law
  refine holds_open (q:=K84.hQ) (loose:=K84.z0) (Xt:=K84.Ds K84.hQ K84.B7) (XP:=XL K84.hQ K84.B7) (Yf:=K84.Rh) (Ya:=K84.Ri K84.hK) (YP:=Hook.says (PySem.W.kHook K84.hK K84.OZ K84.hE)) (N:=13772) K84.hl (Hook.of (PySem.W.kHook K84.hK K84.OZ K84.hE)) (Hook.keeps (PySem.W.kHook K84.hK K84.OZ K84.hE)) (fun s e=>xl_of s (Bool.and_eq_true_iff.mp e).1) XL.keeps (by rfl) (by rfl) (by rfl) (fun s e=>recFacts_of (Bool.and_eq_true_iff.mp e).2) (by rfl) (by first | assumption | decide +kernel) (by decide +kernel) ⟨rfl,rfl,rfl,rfl,rfl,by decide +kernel⟩ ?hw ?hc
  case hw=>w_witness2
  case hc=>
  k_fill
  refine K84.walk (l:=PySem.Challenge.rw_notefall_k84_begun_on_a_bare_shelf) rfl rfl (fun w h Y=>PySem.W.kIn_of Y) ?F
  case F=>
    intro w mg fa h KX G hmg
    refine' K84.all_mk KX G hmg ?gJ ?iJ ?xZ ?x8 ?ya ?yb ?yc ?yd ?gK ?g8 ?jB ?iK ?jb ?t9 ?ua ?uc ?ud ?ue ?uf ?eU ?g9 ?fJ ?jC ?ug ?uh ?um ?uo ?uq ?ur ?eV ?eW ?eB ?dB ?d7 ?mz ?mC ?mE ?mF ?uu ?uv ?gM ?ef ?eX ?fK ?ye ?yf ?yg ?yh ?yi ?yj ?a1 ?l1 ?c1 ?k1 ?a2 ?l2 ?c2 ?k2 ?a3 ?l3 ?c3 ?k3 ?a4 ?l4 ?c4 ?k4 ?i5 ?l5 ?c5 ?k5 ?n5 ?i6 ?l6 ?c6 ?k6 ?n6 ?a7 ?l7 ?c7 ?k7 ?i8 ?l8 ?c8 ?k8 ?n8 ?a9 ?l9 ?c9 ?k9 ?YZ ?Y0 ?Y3 ?Y4 ?Y5 ?Y6 ?Y7 ?Y8 ?Qz ?Y9 ?i12 ?Za ?Zb ?QA ?PL ?Zc ?PJ ?Zd ?QB ?Aa ?Ze ?Zf ?Zg ?QC ?Zh ?Zi ?Zj ?Zk ?QD ?Zl ?Zm ?Zn ?Zo ?QE ?Zp ?Zq ?Zr ?Zs ?QF ?Zt ?Zu ?Zv ?Zw ?QG ?Zx ?Zy ?Zz ?ZA ?QH ?ZC ?ZD ?ZE ?ZF ?QI ?ZG ?ZH ?ZI ?QJ ?ZJ ?ZK ?ZL ?QK ?ZM ?ZN ?ZO ?QL ?ZP ?ZQ ?ZR ?QM ?ZS ?ZU ?ZV ?QN ?ZW ?ZX ?ZY ?QO ?ZZ ?Z0 ?Z2 ?QS ?Z3 ?Z4 ?Z5 ?QT ?Z6 ?Z7 ?Z8 ?Z9 ?QU ?a30 ?l30 ?c30 ?QV ?a31 ?l31 ?c31 ?QW ?a32 ?l32 ?c32 ?QX ?i33 ?l33 ?c33 ?QY ?n33 ?i34 ?l34 ?c34 ?k34 ?n34 ?a35 ?l35 ?c35 ?Gr ?i36 ?l36 ?c36 ?QZ ?n36 ?a37 ?l37 ?c37 ?Q0 ?i38 ?l38 ?c38 ?Q2 ?n38 ?a39 ?l39 ?c39 ?Q3 ?a40 ?l40 ?c40 ?Q4 ?a41 ?l41 ?c41 ?Q5 ?a42 ?l42 ?c42 ?Q6 ?a43 ?l43 ?c43 ?Q7 ?a44 ?l44 ?c44 ?Q8 ?Q9 ?l45 ?c45 ?OY ?i46 ?l46 ?c46 ?Ra ?n46 ?a47 ?l47 ?c47 ?Rb ?a48 ?l48 ?c48 ?Rc ?a49 ?l49 ?c49 ?Rf ?a50 ?l50 ?c50 ?Rg ?a51 ?l51 ?c51 ?k51 ?Fj ?kN ?Fl ?Bg ?Fo ?yl ?Bh ?ym ?Fp ?Fq ?uw ?Bj ?Ft ?Fv ?oh ?kO ?Fw ?mG ?mH ?oi ?mJ ?kQ ?jD ?yo ?mK ?ux ?qt ?yp ?yq ?yr ?yt ?Bk ?yu ?LC ?LD ?LF ?Fx ?Fy ?Fz ?FA ?LG ?FD ?FE ?FF ?FG ?FH ?FI ?LH ?FJ ?FL ?FN ?FO ?FP ?FQ ?LI ?FT ?FU ?FW ?FY ?FZ ?Ga
    (case Fw=>k_is)
    (case mG=>k_is)
    (case mH=>k_is)
    (case oi=>k_is)
    (case mJ=>k_is)
    (case kQ=>k_is)
    (case jD=>k_is)
    (case yo=>k_is)
    (case mK=>k_is)
    (case ux=>k_is)
    (case qt=>k_is)
    (case yp=>k_is)
    (case yq=>k_is)
    (case yr=>k_is)
    (case yt=>k_is)
    (case Bk=>k_is)
    (case yu=>k_is)
    (case gJ=>k_is)
    (case iJ=>k_is)
    (case xZ=>k_is)
    (case x8=>k_is)
    (case ya=>k_is)
    (case yb=>k_is)
    (case yc=>k_is)
    (case yd=>k_is)
    (case gK=>k_is)
    (case g8=>k_is)
    (case jB=>k_is)
    (case iK=>k_is)
    (case jb=>k_is)
    (case t9=>k_is)
    (case ua=>k_is)
    (case uc=>k_is)
    (case ud=>k_is)
    (case ue=>k_is)
    (case uf=>k_is)
    (case eU=>k_is)
    (case g9=>k_is)
    (case fJ=>k_is)
    (case jC=>k_is)
    (case ug=>k_is)
    (case uh=>k_is)
    (case um=>k_is)
    (case uo=>k_is)
    (case uq=>k_is)
    (case ur=>k_is)
    (case eV=>k_is)
    (case eW=>k_is)
    (case eB=>k_is)
    (case dB=>k_is)
    (case d7=>k_is)
    (case mz=>k_is)
    (case mC=>k_is)
    (case mE=>k_is)
    (case mF=>k_is)
    (case uu=>k_is)
    (case uv=>k_is)
    (case gM=>k_is)
    (case ef=>k_is)
    (case eX=>k_is)
    (case fK=>k_is)
    (case ye=>k_is)
    (case yf=>k_is)
    (case yg=>k_is)
    (case yh=>k_is)
    (case yi=>k_is)
    (case yj=>k_is)
    (case a1=>k_is)
    (case l1=>k_is)
    (case c1=>k_is)
    (case k1=>k_is)
    (case a2=>k_is)
    (case l2=>k_is)
    (case c2=>k_is)
    (case k2=>k_is)
    (case a3=>k_is)
    (case l3=>k_is)
    (case c3=>k_is)
    (case k3=>k_is)
    (case a4=>k_is)
    (case l4=>k_is)
    (case c4=>k_is)
    (case k4=>k_is)
    (case i5=>k_is)
    (case l5=>k_is)
    (case c5=>k_is)
    (case k5=>k_is)
    (case n5=>k_is)
    (case i6=>k_is)
    (case l6=>k_is)
    (case c6=>k_is)
    (case k6=>k_is)
    (case n6=>k_is)
    (case a7=>k_is)
    (case l7=>k_is)
    (case c7=>k_is)
    (case k7=>k_is)
    (case i8=>k_is)
    (case l8=>k_is)
    (case c8=>k_is)
    (case k8=>k_is)
    (case n8=>k_is)
    (case a9=>k_is)
    (case l9=>k_is)
    (case c9=>k_is)
    (case k9=>k_is)
    (case YZ=>k_is)
    (case Y0=>k_is)
    (case Y3=>k_is)
    (case Y4=>k_is)
    (case Y5=>k_is)
    (case Y6=>k_is)
    (case Y7=>k_is)
    (case Y8=>k_is)
    (case Qz=>k_is)
    (case Y9=>k_is)
    (case i12=>k_is)
    (case Za=>k_is)
    (case Zb=>k_is)
    (case QA=>k_is)
    (case PL=>k_is)
    (case Zc=>k_is)
    (case PJ=>k_is)
    (case Zd=>k_is)
    (case QB=>k_is)
    (case Aa=>k_is)
    (case Ze=>k_is)
    (case Zf=>k_is)
    (case Zg=>k_is)
    (case QC=>k_is)
    (case Zh=>k_is)
    (case Zi=>k_is)
    (case Zj=>k_is)
    (case Zk=>k_is)
    (case QD=>k_is)
    (case Zl=>k_is)
    (case Zm=>k_is)
    (case Zn=>k_is)
    (case Zo=>k_is)
    (case QE=>k_is)
    (case Zp=>k_is)
    (case Zq=>k_is)
    (case Zr=>k_is)
    (case Zs=>k_is)
    (case QF=>k_is)
    (case Zt=>k_is)
    (case Zu=>k_is)
    (case Zv=>k_is)
    (case Zw=>k_is)
    (case QG=>k_is)
    (case Zx=>k_is)
    (case Zy=>k_is)
    (case Zz=>k_is)
    (case ZA=>k_is)
    (case QH=>k_is)
    (case ZC=>k_is)
    (case ZD=>k_is)
    (case ZE=>k_is)
    (case ZF=>k_is)
    (case QI=>k_is)
    (case ZG=>k_is)
    (case ZH=>k_is)
    (case ZI=>k_is)
    (case QJ=>k_is)
    (case ZJ=>k_is)
    (case ZK=>k_is)
    (case ZL=>k_is)
    (case QK=>k_is)
    (case ZM=>k_is)
    (case ZN=>k_is)
    (case ZO=>k_is)
    (case QL=>k_is)
    (case ZP=>k_is)
    (case ZQ=>k_is)
    (case ZR=>k_is)
    (case QM=>k_is)
    (case ZS=>k_is)
    (case ZU=>k_is)
    (case ZV=>k_is)
    (case QN=>k_is)
    (case ZW=>k_is)
    (case ZX=>k_is)
    (case ZY=>k_is)
    (case QO=>k_is)
    (case ZZ=>k_is)
    (case Z0=>k_is)
    (case Z2=>k_is)
    (case QS=>k_is)
    (case Z3=>k_is)
    (case Z4=>k_is)
    (case Z5=>k_is)
    (case QT=>k_is)
    (case Z6=>k_is)
    (case Z7=>k_is)
    (case Z8=>k_is)
    (case Z9=>k_is)
    (case QU=>k_is)
    (case a30=>k_is)
    (case l30=>k_is)
    (case c30=>k_is)
    (case QV=>k_is)
    (case a31=>k_is)
    (case l31=>k_is)
    (case c31=>k_is)
    (case QW=>k_is)
    (case a32=>k_is)
    (case l32=>k_is)
    (case c32=>k_is)
    (case QX=>k_is)
    (case i33=>k_is)
    (case l33=>k_is)
    (case c33=>k_is)
    (case QY=>k_is)
    (case n33=>k_is)
    (case i34=>k_is)
    (case l34=>k_is)
    (case c34=>k_is)
    (case k34=>k_is)
    (case n34=>k_is)
    (case a35=>k_is)
    (case l35=>k_is)
    (case c35=>k_is)
    (case Gr=>k_is)
    (case i36=>k_is)
    (case l36=>k_is)
    (case c36=>k_is)
    (case QZ=>k_is)
    (case n36=>k_is)
    (case a37=>k_is)
    (case l37=>k_is)
    (case c37=>k_is)
    (case Q0=>k_is)
    (case i38=>k_is)
    (case l38=>k_is)
    (case c38=>k_is)
    (case Q2=>k_is)
    (case n38=>k_is)
    (case a39=>k_is)
    (case l39=>k_is)
    (case c39=>k_is)
    (case Q3=>k_is)
    (case a40=>k_is)
    (case l40=>k_is)
    (case c40=>k_is)
    (case Q4=>k_is)
    (case a41=>k_is)
    (case l41=>k_is)
    (case c41=>k_is)
    (case Q5=>k_is)
    (case a42=>k_is)
    (case l42=>k_is)
    (case c42=>k_is)
    (case Q6=>k_is)
    (case a43=>k_is)
    (case l43=>k_is)
    (case c43=>k_is)
    (case Q7=>k_is)
    (case a44=>k_is)
    (case l44=>k_is)
    (case c44=>k_is)
    (case Q8=>k_is)
    (case Q9=>k_is)
    (case l45=>k_is)
    (case c45=>k_is)
    (case OY=>k_is)
    (case i46=>k_is)
    (case l46=>k_is)
    (case c46=>k_is)
    (case Ra=>k_is)
    (case n46=>k_is)
    (case a47=>k_is)
    (case l47=>k_is)
    (case c47=>k_is)
    (case Rb=>k_is)
    (case a48=>k_is)
    (case l48=>k_is)
    (case c48=>k_is)
    (case Rc=>k_is)
    (case a49=>k_is)
    (case l49=>k_is)
    (case c49=>k_is)
    (case Rf=>k_is)
    (case a50=>k_is)
    (case l50=>k_is)
    (case c50=>k_is)
    (case Rg=>k_is)
    (case a51=>k_is)
    (case l51=>k_is)
    (case c51=>k_is)
    (case k51=>k_is)
    (case Fj=>k_is)
    (case kN=>k_is)
    (case Fl=>k_is)
    (case Bg=>k_is)
    (case Fo=>k_is)
    (case yl=>k_is)
    (case Bh=>k_is)
    (case ym=>k_is)
    (case Fp=>k_is)
    (case Fq=>k_is)
    (case uw=>k_is)
    (case Bj=>k_is)
    (case Ft=>k_is)
    (case Fv=>k_is)
    (case oh=>k_is)
    (case kO=>k_is)
    (case LC=>k_is)
    (case LD=>kit_is)
    (case LF=>kit_is)
    (case Fx=>k_is)
    (case Fy=>k_is)
    (case Fz=>k_is)
    (case FA=>k_is)
    (case LG=>k_exc)
    (case FD=>k_is)
    (case FE=>k_is)
    (case FF=>k_is)
    (case FG=>k_is)
    (case FH=>k_is)
    (case FI=>k_is)
    (case LH=>k_exc)
    (case FJ=>k_is)
    (case FL=>k_is)
    (case FN=>k_is)
    (case FO=>k_is)
    (case FP=>k_is)
    (case FQ=>k_is)
    (case LI=>kts_exm)
    (case FT=>kit_is)
    (case FU=>kit_is)
    (case FW=>kts_exm)
    (case FY=>kts_exm)
    (case FZ=>kit_is)
    (case Ga=>kit_is)
