import PyProof.Rows.All
import Wide.All
import OpenK.AllK
import Wide.FinOn
import Lean
import PyProof.EqAt
import PyProof.EqKinds
import PyProof.TupleCall
import PySem.Challenge.RW_notefall_k26_whole_leaves_whichever_way
set_option Elab.async false
set_option linter.all false
set_option maxRecDepth 100000
namespace L2
open PySem PySem.Spec PyProof.Rows
abbrev Key := Sum Int Str
def keyIs : Key → Value → Bool
  | .inl k, v => Value.isInt k v
  | .inr x, v => Value.isStrOf x v
def keyH (w : World) : Key → Int
  | .inl k => hashInt k
  | .inr x => hashStr w x
theorem keyIs_shape : ∀ {k : Key} {v : Value}, keyIs k v = true → (∃ i t, k = Sum.inl i ∧ v = Value.int i t) ∨ (∃ x t, k = Sum.inr x ∧ v = Value.str x t)
  | .inl i, v, h => by
    obtain ⟨t, e⟩ := Value.isInt_shape (k := i) (v := v) h
    exact .inl ⟨i, t, rfl, e⟩
  | .inr x, v, h => by
    obtain ⟨t, e⟩ := Value.isStrOf_shape (x := x) (v := v) h
    exact .inr ⟨x, t, rfl, e⟩
theorem keyIs_int (i : Int) (t : Tok) : keyIs (.inl i) (.int i t) = true := by simp [keyIs, Value.isInt]
theorem keyIs_str (x : Str) (t : Tok) : keyIs (.inr x) (.str x t) = true := by simp [keyIs, Value.isStrOf]
theorem key_ll (a b : Int) : decide ((Sum.inl a : Key) = Sum.inl b) = (a == b) := by
  by_cases e : a = b
  · subst e; simp
  · have h : ¬ (Sum.inl a : Key) = Sum.inl b := fun q => e (Sum.inl.inj q)
    rw [decide_eq_false h]
    exact (beq_eq_false_iff_ne.mpr e).symm
theorem key_rr (a b : Str) : decide ((Sum.inr a : Key) = Sum.inr b) = decide (a = b) := by
  by_cases e : a = b
  · subst e; simp
  · have h : ¬ (Sum.inr a : Key) = Sum.inr b := fun q => e (Sum.inr.inj q)
    rw [decide_eq_false h, decide_eq_false e]
theorem key_lr (a : Int) (b : Str) : decide ((Sum.inl a : Key) = Sum.inr b) = false := decide_eq_false (fun q => nomatch q)
theorem key_rl (a : Str) (b : Int) : decide ((Sum.inr a : Key) = Sum.inl b) = false := decide_eq_false (fun q => nomatch q)
def mixKind (prog : Program) (w : World) : PySem.KeyKind prog w Key where
  is := keyIs
  hash := keyH w
  inj := fun v a b ha hb => by
    rcases keyIs_shape ha with ⟨i, t, rfl, rfl⟩ | ⟨x, t, rfl, rfl⟩
    · rcases keyIs_shape hb with ⟨j, u, rfl, e⟩ | ⟨y, u, rfl, e⟩
      · injection e with e1 _; rw [e1]
      · exact nomatch e
    · rcases keyIs_shape hb with ⟨j, u, rfl, e⟩ | ⟨y, u, rfl, e⟩
      · exact nomatch e
      · injection e with e1 _; rw [e1]
  byValue := fun k v h => by
    rcases keyIs_shape h with ⟨i, t, rfl, rfl⟩ | ⟨x, t, rfl, rfl⟩ <;> rfl
  pyHash := fun hv h => by
    rcases keyIs_shape hv with ⟨i, t, rfl, rfl⟩ | ⟨x, t, rfl, rfl⟩
    · exact wpAny_pyHash_int h
    · exact wpAny_pyHash_str h
  eqBool := fun hu hv h => by
    rcases keyIs_shape hu with ⟨i, t, rfl, rfl⟩ | ⟨x, t, rfl, rfl⟩
    · rcases keyIs_shape hv with ⟨j, u, rfl, rfl⟩ | ⟨y, u, rfl, rfl⟩
      · rw [key_ll] at h; exact wpAny_eqBool_int h
      · rw [key_lr] at h; exact SeqAt.EqAt.int_str i t y u _ _ _ _ h
    · rcases keyIs_shape hv with ⟨j, u, rfl, rfl⟩ | ⟨y, u, rfl, rfl⟩
      · rw [key_rl] at h; exact SeqAt.EqAt.str_int x t j u _ _ _ _ h
      · rw [key_rr] at h; exact wpAny_eqBool_str h
  «strs» := fun k x t v h => by
    rcases keyIs_shape h with ⟨i, u, rfl, e⟩ | ⟨y, u, rfl, e⟩
    · exact nomatch e
    · injection e with e1 _
      subst e1
      cases v <;> rfl
theorem mixKind_int (prog : Program) (w : World) (i : Int) (t : Tok) : (mixKind prog w).is (.inl i) (.int i t) = true := keyIs_int i t
theorem mixKind_str (prog : Program) (w : World) (x : Str) (t : Tok) : (mixKind prog w).is (.inr x) (.str x t) = true := keyIs_str x t
end L2
namespace L2
open PySem PySem.Spec PyProof.Rows
inductive V where
  | non | bl (b : Bool) | int (i : Int) | str (x : Str) | byt (b : Array UInt8) | flt (b : UInt64) | ref (a : Addr) | ty (n : String)
  deriving DecidableEq
def RelV : V → Value → Prop
  | .non, u => u = Value.none
  | .bl b, u => u = Value.bool b
  | .int i, u => ∃ t, u = Value.int i t
  | .str x, u => ∃ t, u = Value.str x t
  | .byt b, u => ∃ t, u = Value.bytes b t
  | .flt b, u => ∃ t, u = Value.float b t
  | .ref a, u => u = Value.ref a
  | .ty n, u => u = Value.type n
abbrev Vals : List V → List Value → Prop := Paired RelV
theorem Vals.length {xs : List V} {us : List Value} (r : Vals xs us) : xs.length = us.length := Paired.length r
theorem Vals.get : ∀ {xs : List V} {us : List Value} {i : Nat} {x : V}, Vals xs us → xs[i]? = some x → ∃ u, us[i]? = some u ∧ RelV x u
  | _, _, _, _, .nil, e => by simp at e
  | _, _, 0, _, .cons r _, e => by simp at e; subst e; exact ⟨_, rfl, r⟩
  | _, _, i + 1, x, .cons _ t, e => by
    obtain ⟨u, h1, h2⟩ := Vals.get (i := i) (x := x) t (by simpa using e)
    exact ⟨u, by simpa using h1, h2⟩
theorem Vals.set {x : V} {u : Value} (r : RelV x u) : ∀ {xs : List V} {us : List Value} (i : Nat), Vals xs us → Vals (xs.set i x) (us.set i u)
  | _, _, _, .nil => .nil
  | _, _, 0, .cons _ t => .cons r t
  | _, _, i + 1, .cons q t => .cons q (Vals.set r i t)
theorem Vals.append : ∀ {xs ys : List V} {us ws : List Value}, Vals xs us → Vals ys ws → Vals (xs ++ ys) (us ++ ws)
  | _, _, _, _, .nil, s => s
  | _, _, _, _, .cons r t, s => .cons r (Vals.append t s)
theorem Vals.take : ∀ {xs : List V} {us : List Value} (n : Nat), Vals xs us → Vals (xs.take n) (us.take n)
  | _, _, 0, _ => .nil
  | _, _, _ + 1, .nil => .nil
  | _, _, n + 1, .cons r t => .cons r (Vals.take n t)
theorem Vals.drop : ∀ {xs : List V} {us : List Value} (n : Nat), Vals xs us → Vals (xs.drop n) (us.drop n)
  | _, _, 0, r => r
  | _, _, _ + 1, .nil => .nil
  | _, _, n + 1, .cons _ t => Vals.drop n t
theorem Vals.none_of : ∀ {xs : List V} {us : List Value} {i : Nat}, Vals xs us → xs[i]? = none → us[i]? = none := fun {xs us i} r e => by
  have h1 := r.length
  have h2 : xs.length ≤ i := List.getElem?_eq_none_iff.mp e
  exact List.getElem?_eq_none_iff.mpr (by omega)
def RelO : Option V → Option Value → Prop
  | some v, some u => RelV v u
  | none, none => True
  | _, _ => False
def KV {κ : Type} : List (κ × V) → List (κ × Value) → Prop := Paired fun (p : κ × V) (q : κ × Value) => p.1 = q.1 ∧ RelV p.2 q.2
def kV : Key → V
  | .inl i => .int i
  | .inr x => .str x
inductive HO where
  | lst (xs : List V)
  | tup (xs : List V)
  | dK (kvs : List (Key × V)) | dT (kvs : List (List Key × V))
  | set (S : Int → Bool) (n : Nat)
  | ins (C dx : Addr) (fs : List (Str × V))
  | own (x : Addr)
  | xd (fs : List (Str × V))
  | met (f x : Addr)
  | rng (lo hi : Int)
  | frz (o : Obj) (u : HO)
  | tbl (ps : Array Value)
  | ext (φ : Heap → Prop)
abbrev Hp := Addr → Option HO
def upd (H : Hp) (a : Addr) (o : HO) : Hp := fun b => if b = a then some o else H b
theorem upd_same {H : Hp} {a : Addr} {o : HO} : upd H a o a = some o := by unfold upd; rw [if_pos rfl]
theorem upd_ne {H : Hp} {a b : Addr} {o : HO} (h : b ≠ a) : upd H a o b = H b := by unfold upd; rw [if_neg h]
theorem upd_upd {H : Hp} {a : Addr} {o u : HO} : upd (upd H a o) a u = upd H a u := by
  funext b; unfold upd; split <;> rfl
theorem ne_of {H : Hp} {a b : Addr} {o u : HO} (h : H a = some o) (h' : H b = some u) (d : o ≠ u) : a ≠ b := by
  intro e; subst e; rw [h] at h'; exact d (Option.some.inj h')
theorem ne_of_none {H : Hp} {a b : Addr} {o : HO} (h : H a = some o) (h' : H b = none) : a ≠ b := by
  intro e; subst e; rw [h] at h'; cases h'
section
variable (P : Program) (w : World)
def ObjOk (H : Hp) (h : Heap) (a : Addr) : HO → Prop
  | .lst xs => xs.length ≤ sizeLine ∧ ∃ (its : List Value) (n : Nat), Vals xs its ∧ h.get? a = some { cls := .type "list", data := .seq its.toArray n }
  | .tup xs => xs.length ≤ sizeLine ∧ ∃ its : List Value, Vals xs its ∧ IsTup h a its.toArray
  | .dK kvs => kvs.length ≤ sizeLine ∧ (a == sysModules) = false ∧ ∃ vs, KV kvs vs ∧ h.DictOf (mixKind P w) a vs
  | .dT kvs => kvs.length ≤ sizeLine ∧ (a == sysModules) = false ∧ ∃ xs : List (List Key × Addr × Value),
      Paired (fun (p : List Key × V) (q : List Key × Addr × Value) => p.1 = q.1 ∧ H q.2.1 = some (.tup (p.1.map kV)) ∧ RelV p.2 q.2.2) kvs xs ∧
      ∃ o es ep, h.get? a = some o ∧ o.ExactDict ∧ o.data = .dict es ep ∧ es.toList = xs.map (entryOfKey (tupleKind (mixKind P w))) ∧ (xs.map (·.1)).Nodup
  | .set S n => h.SetOf (intKind P w) a S n
  | .ins C dx fs => H dx = some (.own a) ∧ fs.length ≤ 1000 ∧ dx ≠ a ∧ h.get? a = some (PySem.W.instObj C dx) ∧
      ∃ mA, h.Ns1 dx mA ∧ (∀ f, RelO (fs.lookup f) (mA f)) ∧ PySem.Within mA (fs.map (·.1))
  | .own _ => ∃ o, h.get? a = some o
  | .xd fs => ∃ mA, h.Ns1 a mA ∧ ∀ f, RelO (fs.lookup f) (mA f)
  | .rng lo hi => ∃ t u v, h.get? a = some { cls := .type "range", data := .fields #[.int lo t, .int hi u, .int 1 v] }
  | .frz o u => h.get? a = some o ∧ ObjOk H h a u
  | .tbl ps => h.get? a = some { cls := .none, data := .fields ps }
  | .met f x => h.get? a = some (PySem.W.methodObj (.ref f) (.ref x))
  | .ext φ => φ h ∧ (∃ o, h.get? a = some o) ∧ ∀ h1 h2 : Heap, φ h1 → (∀ o, h1.get? a = some o → h2.get? a = some o) → φ h2
def HOk (H : Hp) (h : Heap) : Prop := ∀ a o, H a = some o → ObjOk P w H h a o
end
section
variable {P : Program} {w : World} {H H' : Hp} {h h' : Heap} {a : Addr} {o : HO}
theorem ObjOk.lt (x : ObjOk P w H h a o) : a < h.objs.size := by
  cases o with
  | lst xs => obtain ⟨_, _, _, _, e⟩ := x; exact Heap.lt_size e
  | tup xs => obtain ⟨_, _, _, p⟩ := x; exact p.lt
  | dK kvs => obtain ⟨_, _, _, _, o, _, _, e, _⟩ := x; exact Heap.lt_size e
  | dT kvs => obtain ⟨_, _, _, _, o, _, _, e, _⟩ := x; exact Heap.lt_size e
  | set S n => obtain ⟨o, _, _, _, e, _⟩ := x; exact Heap.lt_size e
  | ins C dx fs => obtain ⟨_, _, _, e, _⟩ := x; exact Heap.lt_size e
  | own y => obtain ⟨_, e⟩ := x; exact Heap.lt_size e
  | xd fs => obtain ⟨_, ⟨_, _, _, e, _⟩, _⟩ := x; exact Heap.lt_size e
  | rng lo hi => obtain ⟨_, _, _, e⟩ := x; exact Heap.lt_size e
  | frz ob u => obtain ⟨e, _⟩ := x; exact Heap.lt_size e
  | tbl ps => exact Heap.lt_size (show h.get? a = some _ from x)
  | met f y => exact Heap.lt_size (show h.get? a = some _ from x)
  | ext φ => obtain ⟨_, ⟨_, e⟩, _⟩ := x; exact Heap.lt_size e
theorem Paired.mapP {α β : Type} {F G : α → β → Prop} : ∀ {l₁ : List α} {l₂ : List β}, Paired F l₁ l₂ → (∀ a b, F a b → G a b) → Paired G l₁ l₂
  | _, _, .nil, _ => .nil
  | _, _, .cons r t, f => .cons (f _ _ r) (Paired.mapP t f)
theorem ObjOk.stay (x : ObjOk P w H h a o) (k : ∀ b u, (b = a ∨ H b = some (.own a)) → h.get? b = some u → h'.get? b = some u)
    (ho : ∀ b, H b = some (.own a) → H' b = some (.own a)) (ht : ∀ b xs, H b = some (.tup xs) → H' b = some (.tup xs)) : ObjOk P w H' h' a o := by
  induction o with
  | lst xs => obtain ⟨z, its, n, r, e⟩ := x; exact ⟨z, its, n, r, k _ _ (.inl rfl) e⟩
  | tup xs => obtain ⟨z, its, r, ob, e, c⟩ := x; exact ⟨z, its, r, ob, k _ _ (.inl rfl) e, c⟩
  | dK kvs => obtain ⟨z, y, vs, r, ob, es, ep, e, c⟩ := x; exact ⟨z, y, vs, r, ob, es, ep, k _ _ (.inl rfl) e, c⟩
  | dT kvs =>
    obtain ⟨z, y, xs, r, ob, es, ep, e, c⟩ := x
    exact ⟨z, y, xs, Paired.mapP r fun p q z => ⟨z.1, ht _ _ z.2.1, z.2.2⟩, ob, es, ep, k _ _ (.inl rfl) e, c⟩
  | set S n => obtain ⟨ob, es, ep, t, e, c⟩ := x; exact ⟨ob, es, ep, t, k _ _ (.inl rfl) e, c⟩
  | ins C dx fs =>
    obtain ⟨d, z, ne, e, mA, ⟨od, es, ep, e2, c⟩, r⟩ := x
    exact ⟨ho _ d, z, ne, k _ _ (.inl rfl) e, mA, ⟨od, es, ep, k _ _ (.inr d) e2, c⟩, r⟩
  | own y => obtain ⟨ob, e⟩ := x; exact ⟨ob, k _ _ (.inl rfl) e⟩
  | xd fs => obtain ⟨mA, ⟨od, es, ep, e, c⟩, r⟩ := x; exact ⟨mA, ⟨od, es, ep, k _ _ (.inl rfl) e, c⟩, r⟩
  | rng lo hi => obtain ⟨t, u, v, e⟩ := x; exact ⟨t, u, v, k _ _ (.inl rfl) e⟩
  | frz ob u ih => obtain ⟨e, q⟩ := x; exact ⟨k _ _ (.inl rfl) e, ih q⟩
  | tbl ps =>
    have e : h.get? a = some { cls := .none, data := .fields ps } := x
    show h'.get? a = some { cls := .none, data := .fields ps }
    exact k a _ (.inl rfl) e
  | met f y =>
    have e : h.get? a = some (PySem.W.methodObj (.ref f) (.ref y)) := x
    show h'.get? a = some (PySem.W.methodObj (.ref f) (.ref y))
    exact k a _ (.inl rfl) e
  | ext φ => obtain ⟨p, ⟨o, e⟩, st⟩ := x; exact ⟨st _ _ p fun o q => k _ _ (.inl rfl) q, ⟨o, k _ _ (.inl rfl) e⟩, st⟩
theorem HOk.lt (x : HOk P w H h) (e : H a = some o) : a < h.objs.size := (x a o e).lt
theorem HOk.fresh (x : HOk P w H h) (e : h.objs.size ≤ a) : H a = none := by
  cases q : H a with
  | none => rfl
  | some u => exact absurd (Nat.lt_of_lt_of_le (x.lt q) e) (Nat.lt_irrefl _)
theorem HOk.kept (x : HOk P w H h) (k : ∀ b u, h.get? b = some u → h'.get? b = some u) : HOk P w H h' := fun a o e =>
  (x a o e).stay (fun b u _ q => k b u q) (fun _ q => q) fun _ _ q => q
theorem HOk.laid (x : HOk P w H h) (k : ∀ b u, h.get? b = some u → h'.get? b = some u) (hp : h.objs.size ≤ a) (new : ObjOk P w (upd H a o) h' a o) : HOk P w (upd H a o) h' := fun b u e => by
  have hn := x.fresh hp
  by_cases hb : b = a
  · subst hb; rw [upd_same] at e; cases e; exact new
  · rw [upd_ne hb] at e
    exact (x b u e).stay (fun c v _ q => k c v q) (fun c q => by rw [upd_ne (ne_of_none q hn)]; exact q) fun c xs q => by rw [upd_ne (ne_of_none q hn)]; exact q
end
def Rd (H : Hp) (a : Addr) (u : HO) : Prop := H a = some u ∨ ∃ o, H a = some (.frz o u)
theorem Rd.of {H : Hp} {a : Addr} {u : HO} (h : H a = some u) : Rd H a u := .inl h
theorem Rd.ok {P : Program} {w : World} {H : Hp} {h : Heap} {a : Addr} {u : HO} (r : Rd H a u) (x : HOk P w H h) : ObjOk P w H h a u := by
  rcases r with r | ⟨o, r⟩
  · exact x a u r
  · obtain ⟨_, q⟩ := x a _ r
    exact q
def Mut : Option HO → Prop
  | some (.lst _) => True
  | some (.dK _) => True
  | some (.dT _) => True
  | some (.set _ _) => True
  | some (.ins _ _ _) => True
  | some (.ext _) => True
  | _ => False
section
variable {P : Program} {w : World} {H : Hp} {h h' : Heap} {x e : Addr} {o' : HO}
theorem HOk.write (ok : HOk P w H h) (mu : Mut (H x)) (he : e = x ∨ H e = some (.own x)) (k : ∀ b u, b ≠ e → h.get? b = some u → h'.get? b = some u) (heo : ∃ u, h'.get? e = some u)
    (new : ObjOk P w (upd H x o') h' x o') : HOk P w (upd H x o') h' := fun b u q => by
  have nown : ∀ c y, H c = some (.own y) → c ≠ x := fun c y r z => by subst z; rw [r] at mu; exact mu
  have ntup : ∀ c xs, H c = some (.tup xs) → c ≠ x := fun c xs r z => by subst z; rw [r] at mu; exact mu
  by_cases hb : b = x
  · subst hb; rw [upd_same] at q; cases q; exact new
  · rw [upd_ne hb] at q
    by_cases hbe : b = e
    · have q' : H b = some (.own x) := by
        rcases he with z | z
        · exact absurd (hbe.trans z) hb
        · rw [hbe]; exact z
      rw [q] at q'; cases q'
      obtain ⟨v, hv⟩ := heo
      exact ⟨v, by rw [hbe]; exact hv⟩
    · refine (ok b u q).stay (fun c v hc r => k c v ?_ r) (fun c r => by rw [upd_ne (nown c b r)]; exact r) fun c xs r => by rw [upd_ne (ntup c xs r)]; exact r
      rcases hc with rfl | hc
      · exact hbe
      · rintro rfl
        rcases he with z | z
        · exact nown c b hc z
        · rw [hc] at z; cases z; exact hb rfl
end
structure Un (fs ex : List Addr) (H H' : Hp) (h h' : Heap) : Prop where
  keep : ∀ b o, h.get? b = some o → H b = none → b ∉ fs → b ∉ ex → h'.get? b = some o
  slot : ∀ b o, h.get? b = some o → H b = none → b ∈ fs → b ∉ ex → ∃ sl, h'.get? b = some { o with slots := sl }
  free : ∀ b o, h.get? b = some o → H b = none → b ∉ ex → H' b = none
  there : ∀ b o, h.get? b = some o → b ∉ ex → ∃ o', h'.get? b = some o'
  tups : ∀ b xs, H b = some (.tup xs) → H' b = some (.tup xs)
  frzs : ∀ b o u, H b = some (.frz o u) → H' b = some (.frz o u)
  tbls : ∀ b ps, H b = some (.tbl ps) → ∃ more, H' b = some (.tbl (ps ++ more))
section
variable {fs fs' ex ex' : List Addr} {H H1 H2 : Hp} {h h1 h2 h' : Heap} {a x e : Addr} {o : HO}
theorem Un.any (u : Un fs ex H H1 h h1) {b : Addr} {ob : Obj} (q : h.get? b = some ob) (n : H b = none) (hx : b ∉ ex) : ∃ sl, h1.get? b = some { ob with slots := sl } := by
  by_cases hb : b ∈ fs
  · exact u.slot b ob q n hb hx
  · exact ⟨ob.slots, u.keep b ob q n hb hx⟩
theorem Un.trans (a : Un fs ex H H1 h h1) (b : Un fs ex H1 H2 h1 h2) : Un fs ex H H2 h h2 where
  keep := fun c ob q n hc hx => b.keep c ob (a.keep c ob q n hc hx) (a.free c ob q n hx) hc hx
  slot := fun c ob q n hc hx => by
    obtain ⟨sl, e1⟩ := a.slot c ob q n hc hx
    obtain ⟨sl', e2⟩ := b.slot c _ e1 (a.free c ob q n hx) hc hx
    exact ⟨sl', e2⟩
  free := fun c ob q n hx => by
    obtain ⟨o', e1⟩ := a.there c ob q hx
    exact b.free c o' e1 (a.free c ob q n hx) hx
  there := fun c ob q hx => by
    obtain ⟨o', e1⟩ := a.there c ob q hx
    exact b.there c o' e1 hx
  tups := fun c xs q => b.tups c xs (a.tups c xs q)
  frzs := fun c ob xs q => b.frzs c ob xs (a.frzs c ob xs q)
  tbls := fun c ps q => by
    obtain ⟨m1, e1⟩ := a.tbls c ps q
    obtain ⟨m2, e2⟩ := b.tbls c _ e1
    exact ⟨m1 ++ m2, by rw [e2, Array.append_assoc]⟩
theorem Un.kept (k : ∀ b u, h.get? b = some u → h'.get? b = some u) : Un fs ex H H h h' :=
  ⟨fun b ob q _ _ _ => k b ob q, fun b ob q _ _ _ => ⟨ob.slots, k b ob q⟩, fun _ _ _ n _ => n, fun b ob q _ => ⟨ob, k b ob q⟩, fun _ _ q => q, fun _ _ _ q => q, fun _ ps q => ⟨#[], by rw [q]; simp⟩⟩
theorem Un.refl : Un fs ex H H h h := Un.kept fun _ _ q => q
theorem Un.laid (k : ∀ b u, h.get? b = some u → h'.get? b = some u) (hp : h.objs.size ≤ a) (hn : H a = none) : Un fs ex H (upd H a o) h h' where
  keep := fun b u q _ _ _ => k b u q
  slot := fun b u q _ _ _ => ⟨u.slots, k b u q⟩
  free := fun b u q n _ => by rw [upd_ne (Nat.ne_of_lt (Nat.lt_of_lt_of_le (Heap.lt_size q) hp))]; exact n
  there := fun b u q _ => ⟨u, k b u q⟩
  tups := fun b xs q => by rw [upd_ne (ne_of_none q hn)]; exact q
  frzs := fun b u xs q => by rw [upd_ne (ne_of_none q hn)]; exact q
  tbls := fun b ps q => ⟨#[], by rw [upd_ne (ne_of_none q hn), q]; simp⟩
theorem Un.write (mu : Mut (H x)) (he : e = x ∨ H e = some (.own x)) (k : ∀ b u, b ≠ e → h.get? b = some u → h'.get? b = some u) (heo : ∃ u, h'.get? e = some u) : Un fs ex H (upd H x o) h h' := by
  have hx : ∀ b, H b = none → b ≠ x := fun b n z => by subst z; rw [n] at mu; exact mu
  have hb : ∀ b, H b = none → b ≠ e := fun b n z => by
    subst z
    rcases he with r | r
    · exact hx b n r
    · rw [n] at r; cases r
  have hm : ∀ b u, H b = some u → ¬ Mut (some u) → b ≠ x := fun b u q nm z => by subst z; rw [q] at mu; exact nm mu
  refine ⟨fun b u q n _ _ => k b u (hb b n) q, fun b u q n _ _ => ⟨u.slots, k b u (hb b n) q⟩, fun b u q n _ => by rw [upd_ne (hx b n)]; exact n, fun b u q _ => ?_,
    fun b xs q => by rw [upd_ne (hm b _ q fun z => z)]; exact q, fun b u xs q => by rw [upd_ne (hm b _ q fun z => z)]; exact q, fun b ps q => ⟨#[], by rw [upd_ne (hm b _ q fun z => z), q]; simp⟩⟩
  by_cases hbe : b = e
  · subst hbe; exact heo
  · exact ⟨u, k b u hbe q⟩
theorem Un.mono (u : Un fs ex H H1 h h1) (hs : ∀ b ∈ fs, b ∈ fs') (hx : ∀ b ∈ ex, b ∈ ex') : Un fs' ex' H H1 h h1 :=
  ⟨fun b ob q n hb he => u.keep b ob q n (fun z => hb (hs b z)) fun z => he (hx b z), fun _ _ q n _ he => u.any q n fun z => he (hx _ z), fun b ob q n he => u.free b ob q n fun z => he (hx b z), fun b ob q he => u.there b ob q fun z => he (hx b z), u.tups, u.frzs, u.tbls⟩
end
def trk (h : Heap) (H : Hp) : List Addr := (List.range h.objs.size).filter fun a => (H a).isSome
def hidT (h : Heap) (H : Hp) : Heap := PySem.W.hideAll h (trk h H)
theorem hidT_size (h : Heap) (H : Hp) : (hidT h H).objs.size = h.objs.size := PySem.W.hideAll_size _ _
theorem hidT_get {h : Heap} {H : Hp} {b : Addr} {o : Obj} (e : h.get? b = some o) (n : H b = none) : (hidT h H).get? b = some o :=
  PySem.W.hideAll_get _ e fun hm => by
    have q : (H b).isSome = true := (List.mem_filter.mp hm).2
    rw [n] at q; simp at q
theorem of_hidT {h : Heap} {H : Hp} {b : Addr} {o : Obj} (e : (hidT h H).get? b = some o) : h.get? b = some o ∧ H b = none := by
  have e' : h.get? b = some o := PySem.W.of_hideAll (trk h H) e
  refine ⟨e', ?_⟩
  cases q : H b with
  | none => rfl
  | some x =>
    have hm : b ∈ trk h H := List.mem_filter.mpr ⟨List.mem_range.mpr (Heap.lt_size e'), by simp [q]⟩
    have z : (hidT h H).get? b = none := PySem.W.hideAll_none (trk h H) hm
    rw [z] at e; cases e
def allNews (g h : Heap) (L : Addr) : List (Addr × Obj) := (List.range h.objs.size).filterMap fun a => if a = L ∨ (g.get? a).isSome = true then none else (h.get? a).map fun o => (a, o)
def rest (g h : Heap) (L d : Addr) : List (Addr × Obj) := (allNews g h L).filter fun p => decide (p.1 ≠ d)
end L2
namespace L2
open PySem PySem.Spec PyProof.Rows
structure Mod (K : PySem.W.Frag) (mg : Str → Option Value) (base : Heap) : Prop where
  kin : K.In base
  glob : base.Ns mainGlobals mg
  blt : ∃ mb, base.Ns builtinsNs mb ∧ ∀ x : Str, x ≠ "__name__" → mb x = bootBuiltins x
  nolimit : base.NoLimit
structure Cx where
  prog : Program
  w : World
  K : PySem.W.Frag
  mg : Str → Option Value
  base : Heap
  A : Around
  N : List Str
  s₀ : Shared
  H₀ : Hp
  env : Env
  outer : List Env
  stack : List Env
  ex : List Addr
  fn : Str → Bool
  calm : Bool
  pn : List (Addr × Obj)
  xe : Value → Shared → Prop
def frs (l : List Env) : List Addr := l.filterMap (·.frame)
abbrev Cx.fs (X : Cx) : List Addr := frs X.outer
def Vis (sc : Scope) (x : Str) : Prop := sc.names.lookup x = some .local ∨ sc.names.lookup x = some .cell ∨ sc.names.lookup x = some .free
def Loc (sc : Scope) (x : Str) : Prop := sc.names.lookup x = some .local ∨ sc.names.lookup x = some .cell
def Look (env : Env) (h : Heap) (m : Str → Option Value) (x : Str) (u : Value) : Prop :=
  (env.kindOf x = some .local ∧ m x = some u) ∨ ((env.kindOf x = some .cell ∨ env.kindOf x = some .free) ∧ ∃ c, env.cells.lookup x = some c ∧ h.IsCell c (some u))
structure Cx.Ok (X : Cx) : Prop where
  mod : Mod X.K X.mg X.base
  kind : X.env.scope.kind = .function
  glob : X.env.globals = mainGlobals
  blt : X.env.builtins = builtinsNs
  above : X.s₀.heap.objs.size ≤ X.env.locals
  inj : ∀ x y c, X.env.cells.lookup x = some c → X.env.cells.lookup y = some c → x = y
  has : ∀ x, (X.env.kindOf x = some .cell ∨ X.env.kindOf x = some .free) → ∃ c, X.env.cells.lookup x = some c
  cab : ∀ x c, X.fn x = true → X.env.cells.lookup x = some c → X.s₀.heap.objs.size ≤ c
  hd : X.calm = true → X.A.handled = none
  frames : X.A.frames = some X.stack
  stk : X.stack = X.outer ∨ (X.stack = X.env :: X.outer ∧ X.env.frame = some X.env.locals)
  exf : ∀ b ∈ X.ex, b ≠ X.env.locals ∧ ∀ x c, X.env.cells.lookup x = some c → c ≠ b
  bs : ∀ b o, X.base.get? b = some o → X.s₀.heap.get? b = some o ∧ X.H₀ b = none
  bsz : X.base.objs.size ≤ X.s₀.heap.objs.size
  noex : ∀ b o, X.base.get? b = some o → b ∉ X.ex
  exfs : ∀ b ∈ X.ex, b ∉ X.fs
  funs : X.s₀.heap.FunFrames X.base X.outer
  frf : ∀ b ∈ X.fs, X.H₀ b = none
structure Inv (X : Cx) (pins : List (Addr × Obj)) (σ : List (Option V)) (H : Hp) (s : Shared) : Prop where
  ok : X.Ok
  os : s.os = X.s₀.os
  bare : AllBare s.gens
  base : Un X.fs X.ex X.H₀ H X.s₀.heap s.heap
  loc : ∃ m, s.heap.Ns X.env.locals m ∧ ∀ (i : Nat) (x : Str) (v : V), X.N[i]? = some x → σ[i]? = some (some v) → Vis X.env.scope x → ∃ u, RelV v u ∧ Look X.env s.heap m x u
  cell : ∀ x c, X.env.cells.lookup x = some c → ∃ v, s.heap.IsCell c v
  free : H X.env.locals = none
  freeC : ∀ x c, X.env.cells.lookup x = some c → H c = none
  pin : ∀ p ∈ X.pn ++ pins, s.heap.get? p.1 = some p.2 ∧ H p.1 = none ∧ p.1 ≠ X.env.locals ∧ p.1 ∉ X.fs ∧ ∀ v, p.2.data ≠ .cell v
  hok : HOk X.prog X.w H s.heap
  len : σ.length = X.N.length
section
variable {X : Cx} {pins : List (Addr × Obj)} {σ : List (Option V)} {H H' : Hp} {s : Shared} {h' : Heap}
theorem Cx.Ok.nofr (ok : X.Ok) {b : Addr} {o : Obj} (e : X.base.get? b = some o) : b ∉ X.fs := fun hb => by
  have := (ok.funs.mem hb).1
  rw [e] at this; cases this
theorem Inv.bs (I : Inv X pins σ H s) : ∀ b o, X.base.get? b = some o → s.heap.get? b = some o ∧ H b = none := fun b o e =>
  ⟨I.base.keep b o (I.ok.bs b o e).1 (I.ok.bs b o e).2 (I.ok.nofr e) (I.ok.noex b o e), I.base.free b o (I.ok.bs b o e).1 (I.ok.bs b o e).2 (I.ok.noex b o e)⟩
theorem Inv.bk (I : Inv X pins σ H s) : ∀ b o, X.base.get? b = some o → s.heap.get? b = some o := fun b o e => (I.bs b o e).1
theorem Inv.mod (I : Inv X pins σ H s) : Mod X.K X.mg X.base := I.ok.mod
theorem Inv.kIn (I : Inv X pins σ H s) : X.K.In s.heap := I.ok.mod.kin.keeps I.bk
theorem Inv.nolimit (I : Inv X pins σ H s) : s.heap.NoLimit := I.ok.mod.nolimit.keeps I.bk
theorem Inv.fr (I : Inv X pins σ H s) : ∃ m, Fr X.base X.env.locals s.heap m :=
  let ⟨m, hn, _⟩ := I.loc
  ⟨m, hn, I.bk, Nat.le_trans I.ok.bsz I.ok.above⟩
theorem Inv.lt (I : Inv X pins σ H s) : X.env.locals < s.heap.objs.size := let ⟨_, hn, _⟩ := I.loc; hn.lt
theorem Inv.sz (I : Inv X pins σ H s) : X.s₀.heap.objs.size ≤ s.heap.objs.size := Nat.le_trans I.ok.above (Nat.le_of_lt I.lt)
theorem Inv.nofs (I : Inv X pins σ H s) {a : Addr} (h : s.heap.objs.size ≤ a) : a ∉ X.fs := fun hb => by
  obtain ⟨_, o, ho, _⟩ := I.ok.funs.mem hb
  exact absurd (Nat.lt_of_lt_of_le (Heap.lt_size ho) (Nat.le_trans I.sz h)) (Nat.lt_irrefl _)
theorem Inv.cne (I : Inv X pins σ H s) : ∀ x c, X.env.cells.lookup x = some c → c ≠ X.env.locals := fun x c e z => by
  obtain ⟨v, o, ho, hd⟩ := I.cell x c e
  obtain ⟨m, ⟨o', es, ep, ho', hd', _⟩, _⟩ := I.loc
  rw [z, ho'] at ho; cases ho; rw [hd'] at hd; cases hd
theorem Inv.funs (I : Inv X pins σ H s) : s.heap.FunFrames X.base X.outer := by
  have all : ∀ (l : List Env), (∀ b ∈ frs l, b ∈ X.fs) → X.s₀.heap.FunFrames X.base l → s.heap.FunFrames X.base l := by
    intro l
    induction l with
    | nil => intro _ _; trivial
    | cons env r ih =>
      intro hs hl
      obtain ⟨hk, ⟨L, o, hf, hn, ho, hd⟩, hr⟩ := hl
      have hL : L ∈ X.fs := hs L (by unfold frs; rw [List.filterMap_cons, hf]; exact List.mem_cons_self)
      obtain ⟨sl, e⟩ := I.base.slot L o ho (I.ok.frf L hL) hL fun z => I.ok.exfs L z hL
      exact ⟨hk, ⟨L, _, hf, hn, e, hd⟩, ih (fun b hb => hs b (by unfold frs; rw [List.filterMap_cons, hf]; exact List.mem_cons_of_mem _ hb)) hr⟩
  exact all X.outer (fun _ hb => hb) I.ok.funs
theorem Inv.stack (I : Inv X pins σ H s) : s.heap.FunFrames X.base X.stack := by
  rcases I.ok.stk with e | ⟨e, hf⟩
  · rw [e]; exact I.funs
  · rw [e]
    obtain ⟨m, hn, _⟩ := I.loc
    refine .cons (by rw [I.ok.kind]; decide) hf hn ?_ I.funs
    exact Heap.get?_none_of_le (Nat.le_trans I.ok.bsz I.ok.above)
theorem Inv.stkSub (I : Inv X pins σ H s) : ∀ b ∈ frs X.stack, b ∈ X.env.locals :: X.fs := fun b hb => by
  rcases I.ok.stk with e | ⟨e, hf⟩
  · rw [e] at hb; exact List.mem_cons_of_mem _ hb
  · rw [e] at hb
    unfold frs at hb
    rw [List.filterMap_cons, hf] at hb
    exact hb
theorem Inv.stkFree (I : Inv X pins σ H s) : ∀ b ∈ frs X.stack, H b = none := fun b hb => by
  rcases List.mem_cons.mp (I.stkSub b hb) with e | hb
  · rw [e]; exact I.free
  · obtain ⟨_, o, ho, _⟩ := I.ok.funs.mem hb
    exact I.base.free b o ho (I.ok.frf b hb) fun z => I.ok.exfs b z hb
theorem Inv.step {g' : Array GenState} {t' : Nat} {d' : Drawn} {ch : List Addr} (I : Inv X pins σ H s)
    (hch : ∀ b ∈ ch, (b ∈ X.ex ∨ X.s₀.heap.objs.size ≤ b) ∧ b ≠ X.env.locals ∧ (∀ x c, X.env.cells.lookup x = some c → c ≠ b) ∧ ∀ p ∈ X.pn ++ pins, p.1 ≠ b)
    (keep : ∀ b o, b ≠ X.env.locals → b ∉ X.fs → b ∉ ch → s.heap.get? b = some o → H b = none → h'.get? b = some o)
    (slot : ∀ b o, b ≠ X.env.locals → b ∈ X.fs → b ∉ ch → s.heap.get? b = some o → H b = none → ∃ sl, h'.get? b = some { o with slots := sl }) (free : ∀ b o, b ∉ ch → s.heap.get? b = some o → H b = none → H' b = none)
    (there : ∀ b o, b ∉ ch → s.heap.get? b = some o → ∃ o', h'.get? b = some o')
    (tups : ∀ b xs, H b = some (.tup xs) → H' b = some (.tup xs)) (frzs : ∀ b o u, H b = some (.frz o u) → H' b = some (.frz o u)) (tbls : ∀ b ps, H b = some (.tbl ps) → ∃ more, H' b = some (.tbl (ps ++ more)))
    (ns : ∀ m, s.heap.Ns X.env.locals m → h'.Ns X.env.locals m) (hok : HOk X.prog X.w H' h') (hg : AllBare g') :
    Inv X pins σ H' { s with heap := h', gens := g', drawn := d', toks := t' } := by
  have neL : ∀ b o, X.s₀.heap.get? b = some o → b ≠ X.env.locals := fun b o e => Nat.ne_of_lt (Nat.lt_of_lt_of_le (Heap.lt_size e) I.ok.above)
  have neC : ∀ b o, X.s₀.heap.get? b = some o → b ∉ X.ex → b ∉ ch := fun b o e hx hb => by
    rcases (hch b hb).1 with z | z
    · exact hx z
    · exact absurd (Nat.lt_of_lt_of_le (Heap.lt_size e) z) (Nat.lt_irrefl _)
  have cellK : ∀ x c, X.env.cells.lookup x = some c → ∀ v, s.heap.IsCell c v → h'.IsCell c v := fun x c e v ⟨o, ho, hd⟩ => by
    have nch : c ∉ ch := fun z => (hch c z).2.2.1 x c e rfl
    by_cases hc : c ∈ X.fs
    · obtain ⟨sl, q⟩ := slot c o (I.cne x c e) hc nch ho (I.freeC x c e)
      exact ⟨_, q, hd⟩
    · exact ⟨o, keep c o (I.cne x c e) hc nch ho (I.freeC x c e), hd⟩
  refine ⟨I.ok, I.os, hg, ⟨fun b o e n hb hx => ?_, fun b o e n hb hx => ?_, fun b o e n hx => ?_, fun b o e hx => ?_, fun b xs e => tups b xs (I.base.tups b xs e), fun b o xs e => frzs b o xs (I.base.frzs b o xs e), fun b ps e => ?_⟩, ?_, fun x c e => ?_, ?_, fun x c e => ?_, fun p hp => ?_, hok, I.len⟩
  · exact keep b o (neL b o e) hb (neC b o e hx) (I.base.keep b o e n hb hx) (I.base.free b o e n hx)
  · obtain ⟨sl, e1⟩ := I.base.slot b o e n hb hx
    obtain ⟨sl', e2⟩ := slot b _ (neL b o e) hb (neC b o e hx) e1 (I.base.free b o e n hx)
    exact ⟨sl', e2⟩
  · obtain ⟨o', e1⟩ := I.base.there b o e hx
    exact free b o' (neC b o e hx) e1 (I.base.free b o e n hx)
  · obtain ⟨o', e1⟩ := I.base.there b o e hx
    exact there b o' (neC b o e hx) e1
  · obtain ⟨m1, e1⟩ := I.base.tbls b ps e
    obtain ⟨m2, e2⟩ := tbls b _ e1
    exact ⟨m1 ++ m2, by rw [e2, Array.append_assoc]⟩
  · obtain ⟨m, hn, hl⟩ := I.loc
    refine ⟨m, ns m hn, fun i x v e1 e2 e3 => ?_⟩
    obtain ⟨u, r, l⟩ := hl i x v e1 e2 e3
    refine ⟨u, r, ?_⟩
    rcases l with l | ⟨k, c, e, z⟩
    · exact .inl l
    · exact .inr ⟨k, c, e, cellK x c e _ z⟩
  · obtain ⟨v, z⟩ := I.cell x c e
    exact ⟨v, cellK x c e v z⟩
  · obtain ⟨m, ⟨o, _, _, ho, _⟩, _⟩ := I.loc
    exact free _ o (fun z => (hch _ z).2.1 rfl) ho I.free
  · obtain ⟨v, o, ho, hd⟩ := I.cell x c e
    exact free c o (fun z => (hch c z).2.2.1 x c e rfl) ho (I.freeC x c e)
  · obtain ⟨e, n, ne, nf, d⟩ := I.pin p hp
    have nch : p.1 ∉ ch := fun z => (hch p.1 z).2.2.2 p hp rfl
    exact ⟨keep p.1 p.2 ne nf nch e n, free p.1 p.2 nch e n, ne, nf, d⟩
theorem Inv.un {t' : Nat} (I : Inv X pins σ H s) (u : Un X.fs [] H H' s.heap h') (hok : HOk X.prog X.w H' h') : Inv X pins σ H' { s with heap := h', toks := t' } := by
  obtain ⟨m, ⟨o, es, ep, ho, r⟩, _⟩ := id I.loc
  obtain ⟨sl, hL⟩ := u.any ho I.free (by simp)
  exact I.step (g' := s.gens) (d' := s.drawn) (ch := []) (fun _ z => nomatch z) (fun b o _ hb _ e n => u.keep b o e n hb (by simp)) (fun b o _ hb _ e n => u.slot b o e n hb (by simp)) (fun b o _ e n => u.free b o e n (by simp)) (fun b o _ e => u.there b o e (by simp)) u.tups u.frzs u.tbls (fun m' hm => by
    obtain ⟨o', es', ep', ho', r'⟩ := hm
    rw [ho] at ho'; cases ho'
    exact ⟨_, es', ep', hL, r'⟩) hok I.bare
theorem Inv.call {g' : Array GenState} {t' : Nat} {d' : Drawn} {ch : List Addr} (I : Inv X pins σ H s) (u : Un (frs X.stack) ch H H' s.heap h') (hok : HOk X.prog X.w H' h') (hg : AllBare g')
    (hch : ∀ b ∈ ch, (b ∈ X.ex ∨ X.s₀.heap.objs.size ≤ b) ∧ b ≠ X.env.locals ∧ (∀ x c, X.env.cells.lookup x = some c → c ≠ b) ∧ ∀ p ∈ X.pn ++ pins, p.1 ≠ b) :
    Inv X pins σ H' { s with heap := h', gens := g', drawn := d', toks := t' } := by
  obtain ⟨m, ⟨o, es, ep, ho, r⟩, _⟩ := id I.loc
  obtain ⟨sl, hL⟩ := u.any ho I.free fun z => (hch _ z).2.1 rfl
  exact I.step (ch := ch) hch (fun b o hL hb hc e n => u.keep b o e n (fun z => (List.mem_cons.mp (I.stkSub b z)).elim hL hb) hc) (fun b o _ _ hc e n => u.any e n hc) (fun b o hc e n => u.free b o e n hc) (fun b o hc e => u.there b o e hc) u.tups u.frzs u.tbls (fun m' hm => by
    obtain ⟨o', es', ep', ho', r'⟩ := hm
    rw [ho] at ho'; cases ho'
    exact ⟨_, es', ep', hL, r'⟩) hok hg
theorem Inv.turned {t' : Nat} {it : Addr} (I : Inv X pins σ H s) (k : ∀ b o, b ≠ it → s.heap.get? b = some o → h'.get? b = some o) (hn : H it = none) (hL : it ≠ X.env.locals)
    (h1 : it ∈ X.ex ∨ X.s₀.heap.objs.size ≤ it) (h2 : ∀ x c, X.env.cells.lookup x = some c → c ≠ it) (h3 : ∀ p ∈ X.pn ++ pins, p.1 ≠ it) : Inv X pins σ H { s with heap := h', toks := t' } := by
  have nit : ∀ b u, H b = some u → b ≠ it := fun b u e z => by rw [z, hn] at e; cases e
  refine I.step (g' := s.gens) (d' := s.drawn) (ch := [it]) (fun b hb => ?_) (fun b o _ _ hc e _ => k b o (fun z => hc (by simp [z])) e) (fun b o _ _ hc e _ => ⟨o.slots, k b o (fun z => hc (by simp [z])) e⟩) (fun _ _ _ _ n => n)
    (fun b o hc e => ⟨o, k b o (fun z => hc (by simp [z])) e⟩) (fun _ _ e => e) (fun _ _ _ e => e) (fun b ps e => ⟨#[], by rw [e]; simp⟩) (fun m hm => ?_) (fun b u e => ?_) I.bare
  · have e : b = it := by simpa using hb
    subst e
    exact ⟨h1, hL, h2, h3⟩
  · obtain ⟨o, es, ep, ho, r⟩ := hm
    exact ⟨o, es, ep, k _ o (Ne.symm hL) ho, r⟩
  · refine (I.hok b u e).stay (fun c v hc q => k c v ?_ q) (fun _ q => q) fun _ _ q => q
    rcases hc with z | z
    · rw [z]; exact nit b u e
    · exact nit c _ z
theorem Inv.tok (I : Inv X pins σ H s) (t : Nat) : Inv X pins σ H { s with toks := t } := I.un (h' := s.heap) (t' := t) Un.refl I.hok
theorem Inv.kept {t' : Nat} (I : Inv X pins σ H s) (k : ∀ b u, s.heap.get? b = some u → h'.get? b = some u) : Inv X pins σ H { s with heap := h', toks := t' } := I.un (Un.kept k) (I.hok.kept k)
theorem Inv.laid {a : Addr} {o : HO} {t' : Nat} (I : Inv X pins σ H s) (k : ∀ b u, s.heap.get? b = some u → h'.get? b = some u) (hp : s.heap.objs.size ≤ a) (new : ObjOk X.prog X.w (upd H a o) h' a o) :
    Inv X pins σ (upd H a o) { s with heap := h', toks := t' } := I.un (Un.laid k hp (I.hok.fresh hp)) (I.hok.laid k hp new)
theorem Inv.write {x e : Addr} {o : HO} {t' : Nat} (I : Inv X pins σ H s) (mu : Mut (H x)) (he : e = x ∨ H e = some (.own x)) (k : ∀ b u, b ≠ e → s.heap.get? b = some u → h'.get? b = some u) (heo : ∃ u, h'.get? e = some u)
    (new : ObjOk X.prog X.w (upd H x o) h' x o) : Inv X pins σ (upd H x o) { s with heap := h', toks := t' } := I.un (Un.write mu he k heo) (I.hok.write mu he k heo new)
theorem Inv.pins_of {pins' : List (Addr × Obj)} (I : Inv X pins σ H s) (h : ∀ p ∈ pins', s.heap.get? p.1 = some p.2 ∧ H p.1 = none ∧ p.1 ≠ X.env.locals ∧ p.1 ∉ X.fs ∧ ∀ v, p.2.data ≠ .cell v) : Inv X pins' σ H s :=
  ⟨I.ok, I.os, I.bare, I.base, I.loc, I.cell, I.free, I.freeC, fun p hp => (List.mem_append.mp hp).elim (fun z => I.pin p (List.mem_append_left _ z)) (h p), I.hok, I.len⟩
theorem nodup_ix {N : List Str} (hN : N.Nodup) {i j : Nat} {x : Str} (a : N[i]? = some x) (b : N[j]? = some x) : i = j := by
  obtain ⟨h1, e1⟩ := List.getElem?_eq_some_iff.mp a
  obtain ⟨h2, e2⟩ := List.getElem?_eq_some_iff.mp b
  exact (List.getElem_inj hN).mp (e1.trans e2.symm)
theorem store_ok2 {M : Model} {A : Around} {E : Value → Shared → Prop} {i : Nat} {x : Str} {v : V} {u : Value} {Q : Unit → Shared → Prop} (I : Inv X pins σ H s) (hN : X.N.Nodup) (hi : X.N[i]? = some x) (hx : Loc X.env.scope x) (r : RelV v u)
    (h : ∀ s', Inv X pins (σ.set i (some v)) H s' → (∃ a, Heap.SameBut a s.heap s'.heap ∧ (a = X.env.locals ∨ X.env.cells.lookup x = some a)) → Q () s') (hf : X.fn x = true ∨ X.env.scope.names.lookup x = some .local := by first | exact .inl rfl | exact .inr rfl | assumption) : wpAny M A (storeName X.env x u) Q E s := by
  obtain ⟨m, hn, hl⟩ := id I.loc
  have hcls : (X.env.scope.kind == .class || (X.env.scope.kind == .module && X.env.locals != X.env.globals)) = false := by rw [I.ok.kind]; rfl
  have hiσ : i < σ.length := by rw [I.len]; exact (List.getElem?_eq_some_iff.mp hi).1
  have cne := I.cne
  have tracked : ∀ {a : Addr} {h' : Heap}, (∃ o, s.heap.get? a = some o ∧ H a = none) → Heap.SameBut a s.heap h' → HOk X.prog X.w H h' := fun {a h'} ha hs b ob e => by
    obtain ⟨_, _, hfree⟩ := ha
    refine (I.hok b ob e).stay (fun c w' hc q => (hs.2 c ?_).trans q) (fun _ q => q) fun _ _ q => q
    rintro rfl
    rcases hc with rfl | hc
    · rw [hfree] at e; cases e
    · rw [hfree] at hc; cases hc
  rcases hx with hk | hk
  · refine wpAny_storeName_local hk hn (fun h' hn' hs => ?_) hcls
    obtain ⟨oL, _, _, hoL, _⟩ := id hn
    refine h _ ⟨I.ok, I.os, I.bare, ⟨fun b o e n hb hx => ?_, fun b o e n hb hx => ?_, I.base.free, fun b o e hx => ?_, I.base.tups, I.base.frzs, I.base.tbls⟩, ⟨_, hn', fun j y v' e1 e2 e3 => ?_⟩, fun y c e => ?_, I.free, I.freeC, fun p hp => ?_, tracked ⟨oL, hoL, I.free⟩ hs, by simpa using I.len⟩ ⟨_, hs, .inl rfl⟩
    · exact (hs.2 b (Nat.ne_of_lt (Nat.lt_of_lt_of_le (Heap.lt_size e) I.ok.above))).trans (I.base.keep b o e n hb hx)
    · obtain ⟨sl, e1⟩ := I.base.slot b o e n hb hx
      exact ⟨sl, (hs.2 b (Nat.ne_of_lt (Nat.lt_of_lt_of_le (Heap.lt_size e) I.ok.above))).trans e1⟩
    · obtain ⟨o', e1⟩ := I.base.there b o e hx
      exact ⟨o', (hs.2 b (Nat.ne_of_lt (Nat.lt_of_lt_of_le (Heap.lt_size e) I.ok.above))).trans e1⟩
    · by_cases hj : j = i
      · subst hj
        rw [hi] at e1; cases e1
        rw [List.getElem?_set_self hiσ] at e2
        cases e2
        exact ⟨u, r, .inl ⟨hk, by simp⟩⟩
      · rw [List.getElem?_set_ne (Ne.symm hj)] at e2
        obtain ⟨u', r', q⟩ := hl j y v' e1 e2 e3
        refine ⟨u', r', ?_⟩
        rcases q with ⟨k, e⟩ | ⟨k, c, e, z⟩
        · refine .inl ⟨k, ?_⟩
          have : y ≠ x := fun e => hj (nodup_ix hN e1 (e ▸ hi))
          simp [this, e]
        · exact .inr ⟨k, c, e, z.sameBut hs (cne y c e)⟩
    · obtain ⟨w', z⟩ := I.cell y c e
      exact ⟨w', z.sameBut hs (cne y c e)⟩
    · obtain ⟨e, n, ne, nf, d⟩ := I.pin p hp
      exact ⟨(hs.2 p.1 ne).trans e, n, ne, nf, d⟩
  · have hfn : X.fn x = true := by
      rcases hf with z | z
      · exact z
      · rw [z] at hk; cases hk
    obtain ⟨c, hc⟩ := I.ok.has x (.inl hk)
    obtain ⟨w', z⟩ := I.cell x c hc
    refine wpAny_storeName_cell I.ok.kind hk hc z (fun h' hc' hs => ?_)
    obtain ⟨oc, hoc, hocd⟩ := id z
    refine h { s with heap := h' } ⟨I.ok, I.os, I.bare, ⟨fun b o e n hb hx => ?_, fun b o e n hb hx => ?_, I.base.free, fun b o e hx => ?_, I.base.tups, I.base.frzs, I.base.tbls⟩, ⟨m, hn.sameBut hs (Ne.symm (cne x c hc)), fun j y v' e1 e2 e3 => ?_⟩, fun y c' e => ?_, I.free, I.freeC, fun p hp => ?_, tracked ⟨oc, hoc, I.freeC x c hc⟩ hs, by simpa using I.len⟩ ⟨c, hs, .inr hc⟩
    · exact (hs.2 b (Nat.ne_of_lt (Nat.lt_of_lt_of_le (Heap.lt_size e) (I.ok.cab x c hfn hc)))).trans (I.base.keep b o e n hb hx)
    · obtain ⟨sl, e1⟩ := I.base.slot b o e n hb hx
      exact ⟨sl, (hs.2 b (Nat.ne_of_lt (Nat.lt_of_lt_of_le (Heap.lt_size e) (I.ok.cab x c hfn hc)))).trans e1⟩
    · obtain ⟨o', e1⟩ := I.base.there b o e hx
      exact ⟨o', (hs.2 b (Nat.ne_of_lt (Nat.lt_of_lt_of_le (Heap.lt_size e) (I.ok.cab x c hfn hc)))).trans e1⟩
    · by_cases hj : j = i
      · subst hj
        rw [hi] at e1; cases e1
        rw [List.getElem?_set_self hiσ] at e2
        cases e2
        exact ⟨u, r, .inr ⟨.inl hk, c, hc, hc'⟩⟩
      · rw [List.getElem?_set_ne (Ne.symm hj)] at e2
        obtain ⟨u', r', q⟩ := hl j y v' e1 e2 e3
        refine ⟨u', r', ?_⟩
        rcases q with q | ⟨k, c', e, z'⟩
        · exact .inl q
        · refine .inr ⟨k, c', e, z'.sameBut hs ?_⟩
          rintro rfl
          exact hj (nodup_ix hN e1 (I.ok.inj _ _ _ e hc ▸ hi))
    · by_cases hcc : c' = c
      · subst hcc; exact ⟨_, hc'⟩
      · obtain ⟨w2, z2⟩ := I.cell y c' e
        exact ⟨w2, z2.sameBut hs hcc⟩
    · obtain ⟨e, n, ne, nf, d⟩ := I.pin p hp
      refine ⟨(hs.2 p.1 ?_).trans e, n, ne, nf, d⟩
      intro q
      rw [q, hoc] at e
      have q' : oc = p.2 := Option.some.inj e
      exact d w' (by rw [← q']; exact hocd)
theorem store_ok {M : Model} {A : Around} {E : Value → Shared → Prop} {i : Nat} {x : Str} {v : V} {u : Value} {Q : Unit → Shared → Prop} (I : Inv X pins σ H s) (hN : X.N.Nodup) (hi : X.N[i]? = some x) (hx : Loc X.env.scope x) (r : RelV v u)
    (h : ∀ s', Inv X pins (σ.set i (some v)) H s' → Q () s') (hf : X.fn x = true ∨ X.env.scope.names.lookup x = some .local := by first | exact .inl rfl | exact .inr rfl | assumption) : wpAny M A (storeName X.env x u) Q E s :=
  store_ok2 I hN hi hx r (fun s' I' _ => h s' I') hf
theorem Inv.call' {s' : Shared} {ch : List Addr} (I : Inv X pins σ H s) (ho : s'.os = s.os) (u : Un (frs X.stack) ch H H' s.heap s'.heap) (hok : HOk X.prog X.w H' s'.heap) (hg : AllBare s'.gens)
    (hch : ∀ b ∈ ch, (b ∈ X.ex ∨ X.s₀.heap.objs.size ≤ b) ∧ b ≠ X.env.locals ∧ (∀ x c, X.env.cells.lookup x = some c → c ≠ b) ∧ ∀ p ∈ X.pn ++ pins, p.1 ≠ b) : Inv X pins σ H' s' := by
  obtain ⟨h', g', d', t', o'⟩ := s'
  have e : o' = s.os := ho
  subst e
  exact I.call (g' := g') (t' := t') (d' := d') u hok hg hch
end
abbrev XK := Value → Option Addr → Hp → Prop
abbrev St := List (Option V)
abbrev VK := V → Hp → Prop
abbrev TE := St → Hp → VK → Prop
abbrev TT := St → Hp → (Bool → Hp → Prop) → Prop
abbrev TA := St → Hp → (List V → Hp → Prop) → Prop
structure Ends where
  nx : St → Hp → Prop
  rt : VK
  bk : St → Hp → Prop := fun _ _ => False
  ct : St → Hp → Prop := fun _ _ => False
abbrev TS := Ends → St → Hp → Prop
def EP (X : Cx) (pins : List (Addr × Obj)) (σ : St) (Q : VK) (u : Value) (s' : Shared) : Prop := ∃ v H', Inv X pins σ H' s' ∧ RelV v u ∧ Q v H'
def TP (X : Cx) (pins : List (Addr × Obj)) (σ : St) (Q : Bool → Hp → Prop) (b : Bool) (s' : Shared) : Prop := ∃ H', Inv X pins σ H' s' ∧ Q b H'
def AP (X : Cx) (pins : List (Addr × Obj)) (σ : St) (Q : List V → Hp → Prop) (us : List Value) (s' : Shared) : Prop := ∃ vs H', Inv X pins σ H' s' ∧ Vals vs us ∧ Q vs H'
def SP (X : Cx) (pins : List (Addr × Obj)) (D : Ends) (f : Flow) (s' : Shared) : Prop :=
  match f with
  | .next => ∃ σ' H', Inv X pins σ' H' s' ∧ D.nx σ' H'
  | .brk => ∃ σ' H', Inv X pins σ' H' s' ∧ D.bk σ' H'
  | .cont => ∃ σ' H', Inv X pins σ' H' s' ∧ D.ct σ' H'
  | .ret u => ∃ v σ' H', Inv X pins σ' H' s' ∧ RelV v u ∧ D.rt v H'
def PE (X : Cx) (e : Expr) (t : TE) : Prop :=
  ∀ (pins : List (Addr × Obj)) (s : Shared) (σ : St) (H : Hp) (Q : VK), Inv X pins σ H s → t σ H Q → wpAny (model X.prog X.w) X.A (eval e X.env) (EP X pins σ Q) X.xe s
def PT (X : Cx) (e : Expr) (t : TT) : Prop :=
  ∀ (pins : List (Addr × Obj)) (s : Shared) (σ : St) (H : Hp) (Q : Bool → Hp → Prop), Inv X pins σ H s → t σ H Q → wpAny (model X.prog X.w) X.A (isTrue e X.env (eval e X.env)) (TP X pins σ Q) X.xe s
def PW (X : Cx) (e : Expr) (t : TT) : Prop :=
  ∀ (whole : Sem Value) (pins : List (Addr × Obj)) (s : Shared) (σ : St) (H : Hp) (Q : Bool → Hp → Prop), Inv X pins σ H s → t σ H Q → wpAny (model X.prog X.w) X.A (isTrue e X.env whole) (TP X pins σ Q) X.xe s
theorem PW.pt {X : Cx} {e : Expr} {t : TT} (h : PW X e t) : PT X e t := h _
def PA (X : Cx) (es : List Expr) (t : TA) : Prop :=
  ∀ (pos : Pos) (pins : List (Addr × Obj)) (s : Shared) (σ : St) (H : Hp) (Q : List V → Hp → Prop), Inv X pins σ H s → t σ H Q → wpAny (model X.prog X.w) X.A (spliced (backTo pos (starEach es X.env))) (AP X pins σ Q) X.xe s
def PS (X : Cx) (st : Stmt) (t : TS) : Prop :=
  ∀ (pins : List (Addr × Obj)) (s : Shared) (σ : St) (H : Hp) (D : Ends), Inv X pins σ H s → t D σ H → wpAny (model X.prog X.w) X.A (exec st X.env) (SP X pins D) X.xe s
def PSs (X : Cx) (st : List Stmt) (t : TS) : Prop :=
  ∀ (pins : List (Addr × Obj)) (s : Shared) (σ : St) (H : Hp) (D : Ends), Inv X pins σ H s → t D σ H → wpAny (model X.prog X.w) X.A (execs st X.env) (SP X pins D) X.xe s
theorem thn {α : Type} {t : Sem α} {Q Q' : α → Shared → Prop} {M : Model} {A : Around} {E : Value → Shared → Prop} {s : Shared} (h : wpAny M A t Q E s) (hQ : ∀ a s, Q a s → Q' a s) : wpAny M A t Q' E s := wpAny_mono h hQ fun _ _ x => x
end L2
namespace L2
open PySem PySem.Spec PyProof.Rows
section
variable {X : Cx}
def tVar (i : Nat) : TE := fun σ H Q => ∃ v, σ[i]? = some (some v) ∧ Q v H
def tC (v : V) : TE := fun _ H Q => Q v H
theorem pe_var {i : Nat} {x : Str} {pos : Pos} (hN : X.N[i]? = some x) (hv : Vis X.env.scope x) (hd : (x == ("__debug__" : Str)) = false := by decide) (hcd : (x == ("__classdict__" : Str)) = false := by decide) : PE X (.Name x pos) (tVar i) := by
  intro pins s σ H Q I h
  obtain ⟨v, e, h⟩ := h
  obtain ⟨m, hn, hl⟩ := I.loc
  obtain ⟨u, r, l⟩ := hl i x v hN e hv
  have fin : EP X pins σ Q u s := ⟨v, H, I, r, h⟩
  rcases l with ⟨hk, hm⟩ | ⟨hk, c, hc, hcell⟩
  · exact wpAny_Name (wpAny_loadName_local I.ok.kind hk hn hm fin) hd
  · rcases hk with hk | hk
    · exact wpAny_Name (wpAny_loadName_cell I.ok.kind hk hc hcell fin) hd
    · exact wpAny_Name (wpAny_loadName_free I.ok.kind hk hc hcell fin hcd) hd
theorem pe_int {i j pos} : PE X (.Constant (.int i) j pos) (tC (.int i)) := fun _ _ _ H _ I h => wpAny_Constant_int ⟨.int i, H, I.tok _, ⟨_, rfl⟩, h⟩
theorem pe_bl {b j pos} : PE X (.Constant (.bool b) j pos) (tC (.bl b)) := fun _ _ _ H _ I h => Constant_bool ⟨.bl b, H, I, rfl, h⟩
theorem pe_non {j pos} : PE X (.Constant .none j pos) (tC .non) := fun _ _ _ H _ I h => Constant_none ⟨.non, H, I, rfl, h⟩
theorem pe_str {x j pos} : PE X (.Constant (.str x) j pos) (tC (.str x)) := fun _ _ _ H _ I h => Calls.Constant_str ⟨.str x, H, I.tok _, ⟨_, rfl⟩, h⟩
def Gl (X : Cx) (x : Str) : Prop := X.env.kindOf x = some .globalImplicit
theorem ld_glob {E : Value → Shared → Prop} {pins : List (Addr × Obj)} {s : Shared} {σ : St} {H : Hp} {x : Str} {u : Value} {pos : Pos} {Q : Value → Shared → Prop} (I : Inv X pins σ H s) (hg : Gl X x) (hm : X.mg x = some u) (h : Q u s)
    (hd : (x == ("__debug__" : Str)) = false := by decide) : wpAny (model X.prog X.w) X.A (eval (.Name x pos) X.env) Q E s :=
  Calls.Name_function_global I.ok.kind hg (Calls.loadGlobal_global (by rw [I.ok.glob]; exact I.mod.glob.keeps I.bk) hm h) hd
theorem ld_blt {E : Value → Shared → Prop} {pins : List (Addr × Obj)} {s : Shared} {σ : St} {H : Hp} {x : Str} {u : Value} {pos : Pos} {Q : Value → Shared → Prop} (I : Inv X pins σ H s) (hg : Gl X x) (hm : X.mg x = none) (hv : bootBuiltins x = some u) (h : Q u s)
    (hn : x ≠ "__name__" := by decide) (hd : (x == ("__debug__" : Str)) = false := by decide) : wpAny (model X.prog X.w) X.A (eval (.Name x pos) X.env) Q E s := by
  obtain ⟨mb, h1, h2⟩ := I.mod.blt
  exact Calls.Name_function_global I.ok.kind hg (Calls.loadGlobal_builtin (by rw [I.ok.glob]; exact I.mod.glob.keeps I.bk) hm (by rw [I.ok.blt]; exact h1.keeps I.bk) ((h2 x hn).trans hv) h) hd
theorem pe_glob {x : Str} {v : V} {u : Value} {pos : Pos} (hg : Gl X x) (hm : X.mg x = some u) (r : RelV v u) (hd : (x == ("__debug__" : Str)) = false := by decide) : PE X (.Name x pos) (tC v) :=
  fun _ _ _ H _ I h => ld_glob I hg hm ⟨v, H, I, r, h⟩ hd
variable {a b : Expr} {ta tb : TE} {pos : Pos}
def tB (t : TE) : TT := fun σ H Q => t σ H fun x H1 => ∃ c, x = .bl c ∧ Q c H1
theorem pt_val {e : Expr} {t : TE} (h : PE X e t) (he : ∀ whole, isTrue e X.env whole = (do let v ← whole; standAt e.pos; holding [v] (truthy v)) := by intro _; rfl) : PT X e (tB t) := by
  intro pins s σ H Q I hw
  refine isTrue_plain (thn (h pins s σ H _ I hw) fun v s1 ⟨x, H1, I1, r1, q1⟩ => ?_) (he _)
  obtain ⟨d, rfl, q⟩ := q1
  cases r1
  exact wpAny_truthy_bool ⟨H1, I1, q⟩
variable {tA tB' : TT} {rest : List Expr}
def tAnd (t u : TT) : TT := fun σ H Q => t σ H fun c H1 => if c = true then u σ H1 Q else Q false H1
def tOr (t u : TT) : TT := fun σ H Q => t σ H fun c H1 => if c = true then Q true H1 else u σ H1 Q
def tNot (t : TT) : TT := fun σ H Q => t σ H fun c H1 => Q (!c) H1
theorem pw_and1 (ha : PT X a tA) : PW X (.BoolOp .And [a] pos) tA := by
  intro wh pins s σ H Q I h
  refine isTrue_and (thn (ha pins s σ H Q I h) fun c s1 e => ?_)
  cases c with
  | true => exact isTrue_and_nil e
  | false => exact e
theorem pw_or1 (ha : PT X a tA) : PW X (.BoolOp .Or [a] pos) tA := by
  intro wh pins s σ H Q I h
  refine isTrue_or (thn (ha pins s σ H Q I h) fun c s1 e => ?_)
  cases c with
  | false => exact isTrue_or_nil e
  | true => exact e
theorem pw_and (ha : PT X a tA) (hb : PW X (.BoolOp .And (b :: rest) pos) tB') : PW X (.BoolOp .And (a :: b :: rest) pos) (tAnd tA tB') := by
  intro wh pins s σ H Q I h
  refine isTrue_and (thn (ha pins s σ H _ I h) fun c s1 ⟨H1, I1, q1⟩ => ?_)
  cases c with
  | true => exact hb wh pins s1 σ H1 Q I1 q1
  | false => exact ⟨H1, I1, q1⟩
theorem pw_or (ha : PT X a tA) (hb : PW X (.BoolOp .Or (b :: rest) pos) tB') : PW X (.BoolOp .Or (a :: b :: rest) pos) (tOr tA tB') := by
  intro wh pins s σ H Q I h
  refine isTrue_or (thn (ha pins s σ H _ I h) fun c s1 ⟨H1, I1, q1⟩ => ?_)
  cases c with
  | true => exact ⟨H1, I1, q1⟩
  | false => exact hb wh pins s1 σ H1 Q I1 q1
theorem pt_not (ha : PT X a tA) : PT X (.UnaryOp .Not a pos) (tNot tA) := by
  intro pins s σ H Q I h
  exact isTrue_not (ha pins s σ H (fun c H1 => Q (!c) H1) I h)
def tAndV (ta tb : TE) : TE := fun σ H Q => ta σ H fun x H1 => ∃ c, x = .bl c ∧ if c = true then tb σ H1 Q else Q (.bl false) H1
def tOrV (ta tb : TE) : TE := fun σ H Q => ta σ H fun x H1 => ∃ c, x = .bl c ∧ if c = true then Q (.bl true) H1 else tb σ H1 Q
def tNotV (ta : TE) : TE := fun σ H Q => ta σ H fun x H1 => ∃ c, x = .bl c ∧ Q (.bl (!c)) H1
theorem pe_one {op} {t : TE} (h : PE X a t) : PE X (.BoolOp op [a] pos) t := fun pins s σ H Q I hw => BoolOp_one (h pins s σ H Q I hw)
theorem pe_and (ha : PE X a ta) (hb : PE X (.BoolOp .And (b :: rest) pos) tb) : PE X (.BoolOp .And (a :: b :: rest) pos) (tAndV ta tb) := by
  intro pins s σ H Q I h
  refine BoolOp_and (thn (ha pins s σ H _ I h) fun v s1 ⟨x, H1, I1, r1, q1⟩ => ?_)
  obtain ⟨c, rfl, q1⟩ := q1
  cases r1
  refine wpAny_truthy_bool ?_
  cases c with
  | true => exact hb pins s1 σ H1 Q I1 q1
  | false => exact ⟨.bl false, H1, I1, rfl, q1⟩
theorem pe_not (ha : PE X a ta) : PE X (.UnaryOp .Not a pos) (tNotV ta) := by
  intro pins s σ H Q I h
  refine UnaryOp_ (thn (ha pins s σ H _ I h) fun v s1 ⟨x, H1, I1, r1, q1⟩ => ?_)
  obtain ⟨c, rfl, q1⟩ := q1
  cases r1
  exact not_of (wpAny_truthy_bool ⟨.bl (!c), H1, I1, rfl, q1⟩)
def tIf (t : TT) (ta tb : TE) : TE := fun σ H Q => t σ H fun c H1 => if c = true then ta σ H1 Q else tb σ H1 Q
theorem pe_ifExp {c : Expr} (hc : PT X c tA) (ha : PE X a ta) (hb : PE X b tb) : PE X (.IfExp c a b pos) (tIf tA ta tb) := by
  intro pins s σ H Q I h
  refine wpAny_IfExp (thn (hc pins s σ H _ I h) fun d s1 ⟨H1, I1, q1⟩ => ?_)
  cases d with
  | true => exact ha pins s1 σ H1 Q I1 q1
  | false => exact hb pins s1 σ H1 Q I1 q1
end
end L2
namespace L2
open PySem PySem.Spec PyProof.Rows
def SqL (K : PySem.W.Frag) (H : Hp) (a : Addr) (xs : List V) : Prop :=
  Rd H a (.lst xs) ∨
    ∃ (o : Obj) (its : Array Value) (n : Nat), K.lookup a = some o ∧ o.cls = .type "list" ∧ o.dict = none ∧ o.data = .seq its n ∧ its.size ≤ sizeLine ∧ Vals xs its.toList
def SqT (K : PySem.W.Frag) (H : Hp) (a : Addr) (xs : List V) : Prop :=
  Rd H a (.tup xs) ∨
    ∃ (o : Obj) (its : Array Value) (n : Nat), K.lookup a = some o ∧ o.cls = .type "tuple" ∧ o.data = .seq its n ∧ its.size ≤ sizeLine ∧ Vals xs its.toList
def absV : Value → Option V
  | .none => some .non
  | .bool b => some (.bl b)
  | .int i _ => some (.int i)
  | .str x _ => some (.str x)
  | .bytes b _ => some (.byt b)
  | .float b _ => some (.flt b)
  | .ref a => some (.ref a)
  | .type n => some (.ty n)
  | _ => none
theorem RelV.abs {x : V} {u : Value} (r : RelV x u) : absV u = some x := by
  cases x with
  | non => cases r; rfl
  | bl _ => cases r; rfl
  | int _ => obtain ⟨t, rfl⟩ := r; rfl
  | str _ => obtain ⟨t, rfl⟩ := r; rfl
  | byt _ => obtain ⟨t, rfl⟩ := r; rfl
  | flt _ => obtain ⟨t, rfl⟩ := r; rfl
  | ref _ => cases r; rfl
  | ty _ => cases r; rfl
theorem RelV.inj {x y : V} {u : Value} (r : RelV x u) (q : RelV y u) : x = y := Option.some.inj (r.abs.symm.trans q.abs)
theorem Vals.inj : ∀ {xs ys : List V} {us : List Value}, Vals xs us → Vals ys us → xs = ys
  | _, _, _, .nil, .nil => rfl
  | _, _, _, .cons r t, .cons r' t' => by rw [r.inj r', Vals.inj t t']
section
variable {X : Cx} {pins : List (Addr × Obj)} {σ : St} {H : Hp} {s : Shared} {a : Addr} {xs ys : List V}
theorem SqL.of {K : PySem.W.Frag} (h : H a = some (.lst xs)) : SqL K H a xs := .inl (.inl h)
theorem SqT.of {K : PySem.W.Frag} (h : H a = some (.tup xs)) : SqT K H a xs := .inl (.inl h)
theorem Inv.list (I : Inv X pins σ H s) (h : SqL X.K H a xs) : ∃ its : List Value, Vals xs its ∧ PlainL s.heap a its.toArray ∧ xs.length ≤ sizeLine := by
  rcases h with h | ⟨o, its, n, hk, hc, hd, hs, hz, r⟩
  · obtain ⟨z, its, n, r, e⟩ := h.ok I.hok
    exact ⟨its, r, ⟨_, n, e, rfl, rfl, rfl⟩, z⟩
  · refine ⟨its.toList, r, ⟨o, n, I.kIn a o hk, hc, hd, by simpa using hs⟩, ?_⟩
    have e := r.length
    simp only [Array.length_toList] at e
    omega
theorem Inv.tuple (I : Inv X pins σ H s) (h : SqT X.K H a xs) : ∃ its : List Value, Vals xs its ∧ IsTup s.heap a its.toArray ∧ xs.length ≤ sizeLine := by
  rcases h with h | ⟨o, its, n, hk, hc, hs, hz, r⟩
  · obtain ⟨z, its, r, p⟩ := h.ok I.hok
    exact ⟨its, r, p, z⟩
  · refine ⟨its.toList, r, ⟨o, I.kIn a o hk, hc, n, by simpa using hs⟩, ?_⟩
    have e := r.length
    simp only [Array.length_toList] at e
    omega
theorem Inv.list_inj (I : Inv X pins σ H s) (h : SqL X.K H a xs) (h' : SqL X.K H a ys) : xs = ys := by
  obtain ⟨its, r, ⟨o, n, e, _, _, d⟩, _⟩ := I.list h
  obtain ⟨its', r', ⟨o', n', e', _, _, d'⟩, _⟩ := I.list h'
  rw [e] at e'; cases e'
  rw [d] at d'
  injection d' with d1 _
  have : its = its' := by simpa using congrArg Array.toList d1
  subst this
  exact r.inj r'
theorem Inv.tuple_inj (I : Inv X pins σ H s) (h : SqT X.K H a xs) (h' : SqT X.K H a ys) : xs = ys := by
  obtain ⟨its, r, ⟨o, e, _, n, d⟩, _⟩ := I.tuple h
  obtain ⟨its', r', ⟨o', e', _, n', d'⟩, _⟩ := I.tuple h'
  rw [e] at e'; cases e'
  rw [d] at d'
  injection d' with d1 _
  have : its = its' := by simpa using congrArg Array.toList d1
  subst this
  exact r.inj r'
end
abbrev Cx.wish (X : Cx) (E : Value → Shared → Prop) : Cx := { X with xe := E }
abbrev Cx.nox (X : Cx) : Cx := X.wish fun _ _ => False
theorem Cx.Ok.wish {X : Cx} (ok : X.Ok) (E : Value → Shared → Prop) : (X.wish E).Ok :=
  ⟨ok.mod, ok.kind, ok.glob, ok.blt, ok.above, ok.inj, ok.has, ok.cab, ok.hd, ok.frames, ok.stk, ok.exf, ok.bs, ok.bsz, ok.noex, ok.exfs, ok.funs, ok.frf⟩
theorem Cx.Ok.unwish {X : Cx} {E : Value → Shared → Prop} (ok : (X.wish E).Ok) : X.Ok :=
  ⟨ok.mod, ok.kind, ok.glob, ok.blt, ok.above, ok.inj, ok.has, ok.cab, ok.hd, ok.frames, ok.stk, ok.exf, ok.bs, ok.bsz, ok.noex, ok.exfs, ok.funs, ok.frf⟩
section
variable {X : Cx} {pins : List (Addr × Obj)} {σ : St} {H : Hp} {s : Shared} {E : Value → Shared → Prop}
theorem Inv.wish (I : Inv X pins σ H s) (E : Value → Shared → Prop) : Inv (X.wish E) pins σ H s := ⟨I.ok.wish E, I.os, I.bare, I.base, I.loc, I.cell, I.free, I.freeC, I.pin, I.hok, I.len⟩
theorem Inv.unwish (I : Inv (X.wish E) pins σ H s) : Inv X pins σ H s := ⟨I.ok.unwish, I.os, I.bare, I.base, I.loc, I.cell, I.free, I.freeC, I.pin, I.hok, I.len⟩
theorem SP.unwish {D : Ends} {f : Flow} {s' : Shared} (h : SP (X.wish E) pins D f s') : SP X pins D f s' := by
  cases f with
  | next => obtain ⟨σ', H', I, q⟩ := h; exact ⟨σ', H', I.unwish, q⟩
  | brk => obtain ⟨σ', H', I, q⟩ := h; exact ⟨σ', H', I.unwish, q⟩
  | cont => obtain ⟨σ', H', I, q⟩ := h; exact ⟨σ', H', I.unwish, q⟩
  | ret u => obtain ⟨v, σ', H', I, r, q⟩ := h; exact ⟨v, σ', H', I.unwish, r, q⟩
theorem PE.nox {e : Expr} {t : TE} (h : PE X.nox e t) : PE X e t := fun pins s σ H Q I hw =>
  wpAny_mono (h pins s σ H Q (I.wish _) hw) (fun _ _ ⟨v, H', I', r, q⟩ => ⟨v, H', I'.unwish, r, q⟩) fun _ _ z => False.elim z
theorem PT.nox {e : Expr} {t : TT} (h : PT X.nox e t) : PT X e t := fun pins s σ H Q I hw =>
  wpAny_mono (h pins s σ H Q (I.wish _) hw) (fun _ _ ⟨H', I', q⟩ => ⟨H', I'.unwish, q⟩) fun _ _ z => False.elim z
theorem PSs.nox {st : List Stmt} {t : TS} (h : PSs X.nox st t) : PSs X st t := fun pins s σ H D I hw =>
  wpAny_mono (h pins s σ H D (I.wish _) hw) (fun _ _ q => q.unwish) fun _ _ z => False.elim z
end
section
variable {X : Cx} {st : Stmt} {rest : List Stmt} {t u : TS} {e : Expr} {te : TE} {pos : Pos}
def tNext : TS := fun D σ H => D.nx σ H
def tSeq (t u : TS) : TS := fun D σ H => t { D with nx := u D } σ H
theorem pss_nil : PSs X [] tNext := fun _ _ σ H _ I h => wpAny_execs_nil ⟨σ, H, I, h⟩
theorem pss_cons (h1 : PS X st t) (h2 : PSs X rest u) : PSs X (st :: rest) (tSeq t u) := by
  intro pins s σ H D I h
  refine wpAny_execs_cons (thn (h1 pins s σ H { D with nx := u D } I h) fun f s1 q => ?_)
  cases f with
  | next =>
    obtain ⟨σ', H', I', q⟩ := q
    exact h2 pins s1 σ' H' D I' q
  | ret v => exact q
  | brk => exact q
  | cont => exact q
theorem pss_one (h1 : PS X st t) : PSs X [st] t := by
  intro pins s σ H D I h
  refine wpAny_execs_cons (thn (h1 pins s σ H D I h) fun f s1 q => ?_)
  cases f with
  | next => exact wpAny_execs_nil q
  | ret v => exact q
  | brk => exact q
  | cont => exact q
theorem Inv.quiet {pins : List (Addr × Obj)} {σ : St} {H : Hp} {s : Shared} (I : Inv X pins σ H s) : interactive X.env = false := by simp [interactive, I.ok.kind]
def tDrop (te : TE) : TS := fun D σ H => te σ H fun _ H1 => D.nx σ H1
theorem ps_expr (he : PE X e te) (hs : swapsWith e none pos.line X.env = pure false := by rfl) : PS X (.Expr e pos) (tDrop te) := by
  intro pins s σ H D I h
  exact wpAny_Expr_any (thn (he pins s σ H _ I h) fun v s1 ⟨x, H1, I1, r1, q1⟩ => ⟨σ, H1, I1, q1⟩) I.quiet hs
def tRet (te : TE) : TS := fun D σ H => te σ H D.rt
theorem ps_ret (he : PE X e te) : PS X (.Return (some e) pos) (tRet te) := by
  intro pins s σ H D I h
  exact wpAny_Return_some (thn (he pins s σ H _ I h) fun v s1 ⟨x, H1, I1, r1, q1⟩ => ⟨x, σ, H1, I1, r1, q1⟩)
def tRetN : TS := fun D _ H => D.rt .non H
def tIfS (c : TT) (t u : TS) : TS := fun D σ H => c σ H fun b H1 => if b = true then t D σ H1 else u D σ H1
theorem ps_if {c : Expr} {a b : List Stmt} {tc : TT} (hc : PT X c tc) (ha : PSs X a t) (hb : PSs X b u) : PS X (.If c a b pos) (tIfS tc t u) := by
  intro pins s σ H D I h
  refine wpAny_If (thn (hc pins s σ H _ I h) fun d s1 ⟨H1, I1, q1⟩ => ?_)
  cases d with
  | true => exact ha pins s1 σ H1 D I1 q1
  | false => exact hb pins s1 σ H1 D I1 q1
def tNever : TS := fun _ _ _ => False
end
abbrev TG := V → St → Hp → (St → Hp → Prop) → Prop
abbrev TGs := List V → St → Hp → (St → Hp → Prop) → Prop
def PG (X : Cx) (target : Expr) (t : TG) : Prop :=
  ∀ (pins : List (Addr × Obj)) (s : Shared) (σ : St) (H : Hp) (v : V) (u : Value) (Q : St → Hp → Prop), Inv X pins σ H s → RelV v u → t v σ H Q →
    wpAny (model X.prog X.w) X.A (assign target X.env u) (fun _ s' => ∃ σ' H', Inv X pins σ' H' s' ∧ Q σ' H') X.xe s
def PGs (X : Cx) (ts : List Expr) (t : TGs) : Prop :=
  ∀ (pins : List (Addr × Obj)) (s : Shared) (σ : St) (H : Hp) (vs : List V) (us : List Value) (Q : St → Hp → Prop), Inv X pins σ H s → Vals vs us → t vs σ H Q →
    wpAny (model X.prog X.w) X.A (assignInOrder ((assignEach ts X.env).map (·.2)) us) (fun _ s' => ∃ σ' H', Inv X pins σ' H' s' ∧ Q σ' H') X.xe s
abbrev TSet := V → V → V → Hp → (Hp → Prop) → Prop
def PSet (X : Cx) (t : TSet) : Prop :=
  ∀ (pins : List (Addr × Obj)) (s : Shared) (σ : St) (H : Hp) (o i v : V) (ov iv u : Value) (Q : Hp → Prop), Inv X pins σ H s → RelV o ov → RelV i iv → RelV v u → t o i v H Q →
    wpAny (model X.prog X.w) X.A (setItem ov iv u) (fun _ s' => ∃ H', Inv X pins σ H' s' ∧ Q H') X.xe s
abbrev TIp := V → V → Hp → VK → Prop
def PIp (X : Cx) (op : Operator) (t : TIp) : Prop :=
  ∀ (pins : List (Addr × Obj)) (s : Shared) (σ : St) (H : Hp) (x y : V) (v u : Value) (Q : VK), Inv X pins σ H s → RelV x v → RelV y u → t x y H Q →
    wpAny (model X.prog X.w) X.A (inplaceOp op v u) (EP X pins σ Q) X.xe s
section
variable {X : Cx} {pos : Pos}
def gName (i : Nat) : TG := fun v σ H Q => Q (σ.set i (some v)) H
theorem pg_name {i : Nat} {x : Str} (hN : X.N.Nodup) (hi : X.N[i]? = some x) (hx : Loc X.env.scope x) (hf : X.fn x = true ∨ X.env.scope.names.lookup x = some .local := by first | exact .inl rfl | exact .inr rfl | assumption) : PG X (.Name x pos) (gName i) := by
  intro pins s σ H v u Q I r h
  exact wpAny_assign_Name (store_ok I hN hi hx r (fun s' I' => ⟨_, H, I', h⟩) hf)
def gNil : TGs := fun vs σ H Q => vs = [] ∧ Q σ H
def gCons (t : TG) (u : TGs) : TGs := fun vs σ H Q => ∃ v r, vs = v :: r ∧ t v σ H fun σ' H' => u r σ' H' Q
theorem pgs_nil : PGs X [] gNil := by
  intro pins s σ H vs us Q I r h
  obtain ⟨e, h⟩ := h
  subst e
  cases r
  exact assignInOrder_nil ⟨σ, H, I, h⟩
theorem pgs_cons {e : Expr} {es : List Expr} {t : TG} {u : TGs} (h1 : PG X e t) (h2 : PGs X es u)
    (hs : (assignEach (e :: es) X.env).map (·.2) = assign e X.env :: (assignEach es X.env).map (·.2) := by rfl) : PGs X (e :: es) (gCons t u) := by
  intro pins s σ H vs us Q I r h
  obtain ⟨v, vr, e1, h⟩ := h
  subst e1
  cases r with
  | cons r rr =>
    rw [hs]
    refine assignInOrder_cons (thn (h1 pins s σ H _ _ _ I r h) fun _ s1 ⟨σ1, H1, I1, q1⟩ => ?_)
    exact h2 pins s1 σ1 H1 _ _ Q I1 rr q1
def gTup (K : PySem.W.Frag) (n : Nat) (t : TGs) : TG := fun v σ H Q => ∃ a xs, v = .ref a ∧ SqT K H a xs ∧ xs.length = n ∧ t xs σ H Q
theorem pg_tup {es : List Expr} {k : Nat} {t : TGs} {n : Nat} (hc : X.calm = true) (h : PGs X es t)
    (hn : (assignEach es X.env).length = n := by rfl) (hst : (assignEach es X.env).findIdx? (·.1) = none := by rfl) : PG X (.Tuple es k pos) (gTup X.K n t) := by
  intro pins s σ H v u Q I r hw
  obtain ⟨a, xs, e1, hq, hl, hw⟩ := hw
  subst e1
  cases r
  obtain ⟨its, rv, ht, hz⟩ := I.tuple hq
  refine assign_Tuple_tuple (I.ok.hd hc) ht (by simp [hn, ← hl, rv.length]) hst fun h' hx => ?_
  have I1 : Inv X pins σ H { s with heap := h' } := I.kept (t' := s.toks) fun b o e => hx b o (Nat.ne_of_lt (Heap.lt_size e)) e
  exact h pins _ σ H xs _ Q I1 (by simpa using rv) hw
def gSub (to ti : TE) (t : TSet) : TG := fun v σ H Q => to σ H fun o H1 => ti σ H1 fun i H2 => t o i v H2 fun H3 => Q σ H3
theorem pg_sub {o i : Expr} {to ti : TE} {t : TSet} (ho : PE X o to) (hi : PE X i ti) (hs : PSet X t)
    (ha : ∀ v, assign (.Subscript o i pos) X.env v = (do
      let ov ← holding [v] (eval o X.env)
      let iv ← holding [v, ov] (eval i X.env)
      standAt pos
      holding [v, ov, iv] (setItem ov iv v)
      release [v, ov, iv] []) := by intro _; rfl) : PG X (.Subscript o i pos) (gSub to ti t) := by
  intro pins s σ H v u Q I r h
  rw [ha]
  refine wpAny_bind (wpAny_holding (thn (ho pins s σ H _ I h) fun ov s1 ⟨x, H1, I1, r1, q1⟩ => ?_))
  refine wpAny_bind (wpAny_holding (thn (hi pins s1 σ H1 _ I1 q1) fun iv s2 ⟨y, H2, I2, r2, q2⟩ => ?_))
  refine wpAny_bind (wpAny_standAt (wpAny_bind (wpAny_holding (thn (hs pins s2 σ H2 x y v ov iv u _ I2 r1 r2 r q2) fun _ s3 ⟨H3, I3, q3⟩ => ?_))))
  exact wpAny_release ⟨σ, H3, I3, q3⟩
def tAsg (te : TE) (g : TG) : TS := fun D σ H => te σ H fun x H1 => g x σ H1 D.nx
theorem ps_asg {tg e : Expr} {te : TE} {g : TG} (he : PE X e te) (hg : PG X tg g) (hs : swapsWithSole [tg] e pos.line X.env = pure false := by rfl) (hw : swappedStores [tg] e X.env = pure none := by rfl)
    (h1 : (assignEach [tg] X.env).map (·.2) = [assign tg X.env] := by rfl) : PS X (.Assign [tg] e pos) (tAsg te g) := by
  intro pins s σ H D I h
  refine wpAny_Assign_stores (thn (he pins s σ H _ I h) fun v s1 ⟨x, H1, I1, r1, q1⟩ => ?_) hs hw
  rw [h1]
  exact thn (hg pins s1 σ H1 x v _ I1 r1 q1) fun _ s2 q => q
theorem ps_set {i : Nat} {x : Str} {e : Expr} {te : TE} {pos' : Pos} (hN : X.N.Nodup) (hi : X.N[i]? = some x) (hx : Loc X.env.scope x) (he : PE X e te) (hs : swapsWith e (some (.Name x pos')) pos.line X.env = pure false := by rfl) (hf : X.fn x = true ∨ X.env.scope.names.lookup x = some .local := by first | exact .inl rfl | exact .inr rfl | assumption) :
    PS X (.Assign [.Name x pos'] e pos) (tAsg te (gName i)) := by
  intro pins s σ H D I h
  refine wpAny_Assign_Name (thn (he pins s σ H _ I h) fun v s1 ⟨y, H1, I1, r1, q1⟩ => ?_) hs
  exact store_ok I1 hN hi hx r1 (fun s2 I2 => ⟨_, H1, I2, q1⟩) hf
def tAug (i : Nat) (te : TE) (ti : TIp) : TS := fun D σ H => ∃ x, σ[i]? = some (some x) ∧ te σ H fun y H1 => ti x y H1 fun z H2 => D.nx (σ.set i (some z)) H2
theorem ps_aug {i : Nat} {x : Str} {e : Expr} {te : TE} {op : Operator} {ti : TIp} {pos' : Pos} (hN : X.N.Nodup) (hi : X.N[i]? = some x) (hx : Loc X.env.scope x) (he : PE X e te) (ho : PIp X op ti) (hf : X.fn x = true ∨ X.env.scope.names.lookup x = some .local := by first | exact .inl rfl | exact .inr rfl | assumption) :
    PS X (.AugAssign (.Name x pos') op e pos) (tAug i te ti) := by
  intro pins s σ H D I h
  obtain ⟨v, e1, h⟩ := h
  obtain ⟨m, hn, hl⟩ := I.loc
  have vis : Vis X.env.scope x := by rcases hx with k | k; exact .inl k; exact .inr (.inl k)
  obtain ⟨u, r, l⟩ := hl i x v hi e1 vis
  refine wpAny_AugAssign_Name ?_
  have go : wpAny (model X.prog X.w) X.A (eval e X.env) (fun w s₂ => wpAny (model X.prog X.w) X.A (inplaceOp op u w) (fun r s₃ => wpAny (model X.prog X.w) X.A (storeName X.env x r) (fun _ => SP X pins D .next) X.xe s₃) X.xe s₂) X.xe s := by
    refine thn (he pins s σ H _ I h) fun w s1 ⟨y, H1, I1, r1, q1⟩ => ?_
    refine thn (ho pins s1 σ H1 v y u w _ I1 r r1 q1) fun z s2 ⟨zv, H2, I2, r2, q2⟩ => ?_
    exact store_ok I2 hN hi hx r2 (fun s3 I3 => ⟨_, H2, I3, q2⟩) hf
  rcases l with ⟨hk, hm⟩ | ⟨hk, c, hc, hcell⟩
  · exact wpAny_loadName_local I.ok.kind hk hn hm go
  · rcases hk with hk | hk
    · exact wpAny_loadName_cell I.ok.kind hk hc hcell go
    · rcases hx with k | k
      · have : X.env.scope.names.lookup x = some .free := hk
        rw [k] at this; cases this
      · have : X.env.scope.names.lookup x = some .free := hk
        rw [k] at this; cases this
def ipI (f : Int → Int → Int) : TIp := fun x y H Q => ∃ i j, x = .int i ∧ y = .int j ∧ Q (.int (f i j)) H
theorem ip_add : PIp X .Add (ipI fun i j => i + j) := by
  intro pins s σ H x y v u Q I r1 r2 h
  obtain ⟨i, j, e1, e2, q⟩ := h
  subst e1; subst e2
  obtain ⟨t, rfl⟩ := r1
  obtain ⟨t', rfl⟩ := r2
  exact iadd_int ⟨.int _, H, I.tok _, ⟨_, rfl⟩, q⟩
end
section
variable {X : Cx} {pos : Pos}
def tWhile (c : TT) (tb : TS) : TS := fun D σ H => ∃ W : Nat → St → Hp → Prop, (∃ m, W m σ H) ∧ ∀ m σ H, W m σ H →
  c σ H fun b H1 => if b = true then ∃ N : St → Hp → Prop, (∀ σ' H', N σ' H' → ∃ m', m' < m ∧ W m' σ' H') ∧ tb { D with nx := N, ct := N, bk := D.nx } σ H1 else D.nx σ H1
theorem ps_while {c : Expr} {body : List Stmt} {tc : TT} {tb : TS} (hp : PassesOwn (model X.prog X.w) X.A X.env X.xe) (hc : PT X c tc) (hb : PSs X body tb) : PS X (.While c body [] pos) (tWhile tc tb) := by
  intro pins s σ H D I h
  obtain ⟨W, ⟨m0, w0⟩, turn⟩ := h
  refine wpAny_While (codeAny_whileLoop (fun n s' => ∃ σ' H', Inv X pins σ' H' s' ∧ W n σ' H') ?_ m0 ⟨σ, H, I, w0⟩)
  rintro n s1 ⟨σ1, H1, I1, w1⟩
  refine wpAny_passesOwn hp (thn (hc pins s1 σ1 H1 _ I1 (turn n σ1 H1 w1)) fun b s2 ⟨H2, I2, q2⟩ => ?_)
  cases b with
  | true =>
    obtain ⟨N, hN, q2⟩ := q2
    rw [if_pos rfl]
    refine wpAny_passesOwn hp (thn (hb pins s2 σ1 H2 _ I2 q2) fun f s3 q3 => ?_)
    cases f with
    | next =>
      obtain ⟨σ3, H3, I3, n3⟩ := q3
      obtain ⟨m', hm, w3⟩ := hN σ3 H3 n3
      exact ⟨m', hm, σ3, H3, I3, w3⟩
    | cont =>
      obtain ⟨σ3, H3, I3, n3⟩ := q3
      obtain ⟨m', hm, w3⟩ := hN σ3 H3 n3
      exact ⟨m', hm, σ3, H3, I3, w3⟩
    | brk => exact q3
    | ret v => exact q3
  | false =>
    rw [if_neg Bool.false_ne_true]
    exact wpAny_execs_nil ⟨σ1, H2, I2, q2⟩
end
structure It where
  go : Nat → Hp → Prop
  yld : Nat → Hp → V → Hp → Prop
  stop : Nat → Hp → Prop
def FpOk (X : Cx) (pins : List (Addr × Obj)) (H : Hp) (b : Addr) : Prop :=
  H b = none ∧ b ≠ X.env.locals ∧ b ∉ X.fs ∧ (b ∈ X.ex ∨ X.s₀.heap.objs.size ≤ b) ∧ (∀ x c, X.env.cells.lookup x = some c → c ≠ b) ∧ ∀ p ∈ X.pn ++ pins, p.1 ≠ b
theorem Inv.fpOk {X : Cx} {pins : List (Addr × Obj)} {σ : St} {H H' : Hp} {s : Shared} {b : Addr} (I : Inv X pins σ H s) (hb : s.heap.objs.size ≤ b) (hn : H' b = none) : FpOk X pins H' b := by
  refine ⟨hn, Nat.ne_of_gt (Nat.lt_of_lt_of_le I.lt hb), I.nofs hb, .inr (Nat.le_trans I.sz hb), fun x c e z => ?_, fun p hp z => ?_⟩
  · obtain ⟨v, q⟩ := I.cell x c e
    exact absurd (Nat.lt_of_lt_of_le q.lt (by rw [z]; exact hb)) (Nat.lt_irrefl _)
  · exact absurd (Nat.lt_of_lt_of_le (Heap.lt_size (I.pin p hp).1) (by rw [z]; exact hb)) (Nat.lt_irrefl _)
structure Turn (P : Program) (w : World) (K : PySem.W.Frag) (tg : Expr) (J : It) (fp : List Addr) (it : Addr) (tn : Nat → Heap → Prop) : Prop where
  mem : it ∈ fp
  obj : ∀ i h, tn i h → ∀ b ∈ fp, ∃ o, h.get? b = some o ∧ ∀ v, o.data ≠ .cell v
  keep : ∀ i h h', tn i h → (∀ b ∈ fp, ∀ o, h.get? b = some o → h'.get? b = some o) → tn i h'
  item : ∀ (X : Cx), X.prog = P → X.w = w → X.K = K → X.calm = true → ∀ (i : Nat) (pins : List (Addr × Obj)) (s : Shared) (σ : St) (H : Hp) (E : Value → Shared → Prop), Inv X pins σ H s → (∀ b ∈ fp, FpOk X pins H b) → tn i s.heap → J.go i H →
    wpAny (model P w) X.A (pyNext (.ref it)) (fun r s1 => ∃ u, r = some u ∧
      wpAny (model P w) X.A (letOwnedTupleGo tg (.ref it) u) (fun _ s2 => ∃ x H', Inv X pins σ H' s2 ∧ RelV x u ∧ J.yld i H x H' ∧ tn (i + 1) s2.heap ∧ ∀ b ∈ fp, H' b = none) E s1) E s
  done : ∀ (X : Cx), X.prog = P → X.w = w → X.K = K → X.calm = true → ∀ (i : Nat) (pins : List (Addr × Obj)) (s : Shared) (σ : St) (H : Hp) (E : Value → Shared → Prop), Inv X pins σ H s → (∀ b ∈ fp, FpOk X pins H b) → tn i s.heap → J.stop i H →
    wpAny (model P w) X.A (pyNext (.ref it)) (fun r s1 => r = none ∧ Inv X pins σ H s1) E s
  self : ∀ (A : Around) (i : Nat) (s : Shared) (Q : Value → Shared → Prop) (E : Value → Shared → Prop), tn i s.heap → Q (.ref it) s → wpAny (model P w) A (pyIter (.ref it)) Q E s
abbrev TI := St → Hp → (It → Hp → Prop) → Prop
def PIE (X : Cx) (pins : List (Addr × Obj)) (σ : St) (tg : Expr) (R : It → Hp → Prop) (itv : Value) (s2 : Shared) : Prop :=
  ∃ (it : Addr) (fp : List Addr) (tn : Nat → Heap → Prop) (J : It) (H' : Hp), itv = .ref it ∧ Inv X pins σ H' s2 ∧ Turn X.prog X.w X.K tg J fp it tn ∧ tn 0 s2.heap ∧ (∀ b ∈ fp, FpOk X pins H' b) ∧ R J H'
def PI (X : Cx) (tg iter : Expr) (wi : TI) : Prop :=
  ∀ (pins : List (Addr × Obj)) (s : Shared) (σ : St) (H : Hp) (R : It → Hp → Prop), Inv X pins σ H s → wi σ H R →
    wpAny (model X.prog X.w) X.A (eval iter X.env) (fun v s1 => wpAny (model X.prog X.w) X.A (pyIter v) (PIE X pins σ tg R) X.xe s1) X.xe s
theorem go_of {M : Model} {A : Around} {E : Value → Shared → Prop} {s : Shared} {tg : Expr} {it : Addr} {u : Value} {o : Obj} {n : String} {vs : Array Value} {Q : Unit → Shared → Prop} (ho : s.heap.get? it = some o) (hc : o.cls = .type n) (hd : o.data = .fields vs)
    (hn : ["enumerate", "zip", "dict_itemiterator", "dict_reverseitemiterator", "odict_iterator", "itertools.zip_longest", "itertools.pairwise"].contains n = false) (hQ : Q () s) : wpAny M A (letOwnedTupleGo tg (.ref it) u) Q E s := by
  unfold letOwnedTupleGo
  cases tg <;> first
    | exact wpAny_pure hQ
    | (cases u <;> first
        | exact wpAny_pure hQ
        | (refine wpAny_bind (wpAny_load ho ?_)
           rw [hc, hd]
           show wpAny M A (if (["enumerate", "zip", "dict_itemiterator", "dict_reverseitemiterator", "odict_iterator", "itertools.zip_longest", "itertools.pairwise"].contains n && vs[0]? == some (rawInt _)) = true then _ else _) Q E s
           rw [if_neg (by intro h; rw [hn, Bool.false_and] at h; cases h)]
           exact wpAny_pure hQ))
def Itl (K : PySem.W.Frag) (a : Addr) : It :=
  ⟨fun i H => ∃ xs x, SqL K H a xs ∧ xs[i]? = some x, fun i H x H' => H' = H ∧ ∀ xs, SqL K H a xs → xs[i]? = some x, fun i H => ∃ xs, SqL K H a xs ∧ xs.length ≤ i⟩
def Itt (K : PySem.W.Frag) (a : Addr) : It :=
  ⟨fun i H => ∃ xs x, SqT K H a xs ∧ xs[i]? = some x, fun i H x H' => H' = H ∧ ∀ xs, SqT K H a xs → xs[i]? = some x, fun i H => ∃ xs, SqT K H a xs ∧ xs.length ≤ i⟩
def Itr (lo : Int) (n : Nat) : It := ⟨fun i _ => i < n, fun i H x H' => H' = H ∧ x = .int (lo + i), fun i _ => n ≤ i⟩
theorem turn_list {P : Program} {w : World} {K : PySem.W.Frag} {tg : Expr} (a it : Addr) : Turn P w K tg (Itl K a) [it] it (fun i h => h.IsListIter it a i) where
  mem := by simp
  obj := fun i h st b hb => by
    have e : b = it := by simpa using hb
    subst e
    obtain ⟨o, e, c, d⟩ := st
    exact ⟨o, e, fun v z => by rw [d] at z; cases z⟩
  keep := fun i h h' st k => st.at fun o e => k it (by simp) o e
  item := by
    intro X hP hw hK hc i pins s σ H E I hf st hg
    subst hP hw hK
    obtain ⟨xs, x, hq, hx⟩ := hg
    obtain ⟨its, rv, p, hz⟩ := I.list hq
    obtain ⟨u, hu, ru⟩ := rv.get hx
    obtain ⟨f0, f1, f2, f3, f4, f5⟩ := hf it (by simp)
    refine wpAny_pyNext_list_item st p.isList (x := u) (by simpa using hu) fun h' st' sb => ?_
    have I1 : Inv X pins σ H { s with heap := h' } := I.turned (t' := s.toks) (fun b o hb e => (sb.2 b hb).trans e) f0 f1 f3 f4 f5
    obtain ⟨o, e, c, d⟩ := id st'
    exact ⟨u, rfl, go_of (s := { s with heap := h' }) e c d (by decide) ⟨x, H, I1, ru, ⟨rfl, fun ys hy => by rw [I.list_inj hy hq]; exact hx⟩, st', fun b hb => (hf b hb).1⟩⟩
  done := by
    intro X hP hw hK hc i pins s σ H E I hf st hg
    subst hP hw hK
    obtain ⟨xs, hq, hx⟩ := hg
    obtain ⟨its, rv, p, hz⟩ := I.list hq
    obtain ⟨f0, f1, f2, f3, f4, f5⟩ := hf it (by simp)
    have hl := rv.length
    exact wpAny_pyNext_list_end (I.ok.hd hc) st p.isList (by simp; omega) fun h' eb => ⟨rfl, I.turned (t' := s.toks) (fun b o hb e => eb b o hb e) f0 f1 f3 f4 f5⟩
  self := fun _ _ _ _ _ st h => wpAny_pyIter_listiter st h
theorem turn_tuple {P : Program} {w : World} {K : PySem.W.Frag} {tg : Expr} (a it : Addr) : Turn P w K tg (Itt K a) [it] it (fun i h => h.IsTupleIter it a i) where
  mem := by simp
  obj := fun i h st b hb => by
    have e : b = it := by simpa using hb
    subst e
    obtain ⟨o, e, c, d⟩ := st
    exact ⟨o, e, fun v z => by rw [d] at z; cases z⟩
  keep := fun i h h' st k => st.at fun o e => k it (by simp) o e
  item := by
    intro X hP hw hK hc i pins s σ H E I hf st hg
    subst hP hw hK
    obtain ⟨xs, x, hq, hx⟩ := hg
    obtain ⟨its, rv, p, hz⟩ := I.tuple hq
    obtain ⟨u, hu, ru⟩ := rv.get hx
    obtain ⟨f0, f1, f2, f3, f4, f5⟩ := hf it (by simp)
    refine wpAny_pyNext_tuple_item st (show s.heap.IsTuple a its.toArray from p) (x := u) (by simpa using hu) fun h' st' sb => ?_
    have I1 : Inv X pins σ H { s with heap := h' } := I.turned (t' := s.toks) (fun b o hb e => (sb.2 b hb).trans e) f0 f1 f3 f4 f5
    obtain ⟨o, e, c, d⟩ := id st'
    exact ⟨u, rfl, go_of (s := { s with heap := h' }) e c d (by decide) ⟨x, H, I1, ru, ⟨rfl, fun ys hy => by rw [I.tuple_inj hy hq]; exact hx⟩, st', fun b hb => (hf b hb).1⟩⟩
  done := by
    intro X hP hw hK hc i pins s σ H E I hf st hg
    subst hP hw hK
    obtain ⟨xs, hq, hx⟩ := hg
    obtain ⟨its, rv, p, hz⟩ := I.tuple hq
    obtain ⟨f0, f1, f2, f3, f4, f5⟩ := hf it (by simp)
    have hl := rv.length
    exact wpAny_pyNext_tuple_end (I.ok.hd hc) st (show s.heap.IsTuple a its.toArray from p) (by simp; omega) fun h' eb => ⟨rfl, I.turned (t' := s.toks) (fun b o hb e => eb b o hb e) f0 f1 f3 f4 f5⟩
  self := fun _ _ _ _ _ st h => wpAny_pyIter_tupleiter st h
theorem turn_range {P : Program} {w : World} {K : PySem.W.Frag} {tg : Expr} (it : Addr) (lo : Int) (n : Nat) : Turn P w K tg (Itr lo n) [it] it (fun i h => IsRangeIter h it (lo + (i : Nat) * 1) ((n : Int) - (i : Nat)) 1) where
  mem := by simp
  obj := fun i h st b hb => by
    have e : b = it := by simpa using hb
    subst e
    exact ⟨_, st, fun v z => by
      have z' : Data.fields _ = Data.cell v := z
      cases z'⟩
  keep := fun i h h' st k => k it (by simp) _ st
  item := by
    intro X hP hw hK hc i pins s σ H E I hf st hg
    subst hP hw hK
    obtain ⟨f0, f1, f2, f3, f4, f5⟩ := hf it (by simp)
    have W := Walks.range (prog := X.prog) (w := X.w) (I.ok.hd hc) it lo 1 n
    refine W.item i s _ _ hg st fun v h' tk hv st' kk => ?_
    obtain ⟨t, rfl⟩ := hv
    have I1 : Inv X pins σ H { s with heap := h', toks := tk } := I.turned (fun b o hb e => kk b o (by simpa using hb) e) f0 f1 f3 f4 f5
    refine ⟨_, rfl, go_of (s := { s with heap := h', toks := tk }) (n := "range_iterator") st' rfl rfl (by decide) ⟨.int (lo + i), H, I1, ⟨t, ?_⟩, ⟨rfl, rfl⟩, st', fun b hb => (hf b hb).1⟩⟩
    rw [Int.mul_one]
  done := by
    intro X hP hw hK hc i pins s σ H E I hf st hg
    subst hP hw hK
    obtain ⟨f0, f1, f2, f3, f4, f5⟩ := hf it (by simp)
    exact wpAny_pyNext_range_end (I.ok.hd hc) st (by have : n ≤ i := hg; omega) fun h' eb => ⟨rfl, I.turned (t' := s.toks) (fun b o hb e => eb b o hb e) f0 f1 f3 f4 f5⟩
  self := fun _ _ _ _ _ st h => wpAny_pyIter_rangeiter st h
end L2
namespace L2
open PySem PySem.Spec PyProof.Rows
section
variable {X : Cx} {tg : Expr}
def iList (K : PySem.W.Frag) (tl : TE) : TI := fun σ H R => tl σ H fun x H1 => ∃ a, x = .ref a ∧ (∃ xs, SqL K H1 a xs) ∧ R (Itl K a) H1
def iTup (K : PySem.W.Frag) (tl : TE) : TI := fun σ H R => tl σ H fun x H1 => ∃ a, x = .ref a ∧ (∃ xs, SqT K H1 a xs) ∧ R (Itt K a) H1
theorem pi_list {l : Expr} {tl : TE} (hl : PE X l tl) : PI X tg l (iList X.K tl) := by
  intro pins s σ H R I h
  refine thn (hl pins s σ H _ I h) fun v s1 ⟨x, H1, I1, r1, q1⟩ => ?_
  obtain ⟨a, e, ⟨xs, hq⟩, q⟩ := q1
  subst e
  cases r1
  obtain ⟨its, rv, p, hz⟩ := I1.list hq
  refine wpAny_pyIter_list p.isList ?_
  refine ⟨s1.heap.objs.size, [s1.heap.objs.size], _, _, H1, rfl, I1.kept (t' := s1.toks) fun b o e => Heap.get?_push_of_some _ e, turn_list a _, ⟨_, Heap.get?_push_size _ rfl, rfl, rfl⟩, fun b hb => ?_, q⟩
  have e : b = s1.heap.objs.size := by simpa using hb
  subst e
  exact I1.fpOk (Nat.le_refl _) (I1.hok.fresh (Nat.le_refl _))
theorem pi_tup {l : Expr} {tl : TE} (hl : PE X l tl) : PI X tg l (iTup X.K tl) := by
  intro pins s σ H R I h
  refine thn (hl pins s σ H _ I h) fun v s1 ⟨x, H1, I1, r1, q1⟩ => ?_
  obtain ⟨a, e, ⟨xs, hq⟩, q⟩ := q1
  subst e
  cases r1
  obtain ⟨its, rv, p, hz⟩ := I1.tuple hq
  refine wpAny_pyIter_tuple (show s1.heap.IsTuple a its.toArray from p) ?_
  refine ⟨s1.heap.objs.size, [s1.heap.objs.size], _, _, H1, rfl, I1.kept (t' := s1.toks) fun b o e => Heap.get?_push_of_some _ e, turn_tuple a _, ⟨_, Heap.get?_push_size _ rfl, rfl, rfl⟩, fun b hb => ?_, q⟩
  have e : b = s1.heap.objs.size := by simpa using hb
  subst e
  exact I1.fpOk (Nat.le_refl _) (I1.hok.fresh (Nat.le_refl _))
theorem range_it {pins : List (Addr × Obj)} {σ : St} {H : Hp} {s : Shared} {R : It → Hp → Prop} {E : Value → Shared → Prop} {lo hi : Int} {t u v : Tok} {tk : Nat} (I : Inv X pins σ H s) (h1 : -(2 ^ 62) ≤ lo) (h2 : lo < 2 ^ 62) (h3 : -(2 ^ 62) ≤ hi) (h4 : hi < 2 ^ 62)
    (q : R (Itr lo (hi - lo).toNat) H) : wpAny (model X.prog X.w) X.A (pyIter (.ref s.heap.objs.size)) (PIE X pins σ tg R) E { s with heap := s.heap.push { cls := .type "range", data := .fields #[.int lo t, .int hi u, .int 1 v] }, toks := tk } := by
  refine wpAny_pyIter_range (IsRange.new ..) (small_one h1 h2 h3 h4) ?_
  have I1 : Inv X pins σ H { s with heap := s.heap.push { cls := .type "range", data := .fields #[.int lo t, .int hi u, .int 1 v] }, toks := tk } := I.kept fun b o e => Heap.get?_push_of_some _ e
  refine ⟨(s.heap.push { cls := .type "range", data := .fields #[.int lo t, .int hi u, .int 1 v] }).objs.size, [(s.heap.push { cls := .type "range", data := .fields #[.int lo t, .int hi u, .int 1 v] }).objs.size], _, _, H, rfl,
    I1.kept (t' := tk) fun b o e => Heap.get?_push_of_some _ e, turn_range _ lo (hi - lo).toNat, ?_, fun b hb => ?_, q⟩
  · have e1 : lo + ((0 : Nat) : Int) * 1 = lo := by simp
    have e2 : (((hi - lo).toNat : Nat) : Int) - ((0 : Nat) : Int) = Builtin.Range.rangeSize lo hi 1 := by rw [rangeSize_one]; split <;> omega
    show IsRangeIter _ _ (lo + ((0 : Nat) : Int) * 1) ((((hi - lo).toNat : Nat) : Int) - ((0 : Nat) : Int)) 1
    rw [e1, e2]
    exact Heap.get?_push_size _ rfl
  · have e : b = (s.heap.push { cls := .type "range", data := .fields #[.int lo t, .int hi u, .int 1 v] }).objs.size := by simpa using hb
    subst e
    exact I1.fpOk (Nat.le_refl _) (I1.hok.fresh (Nat.le_refl _))
def iRng1 (ta : TA) : TI := fun σ H R => ta σ H fun vs H1 => ∃ j : Int, vs = [.int j] ∧ -(2 ^ 62) ≤ j ∧ j < 2 ^ 62 ∧ R (Itr 0 j.toNat) H1
def iRng2 (ta : TA) : TI := fun σ H R => ta σ H fun vs H1 => ∃ i j : Int, vs = [.int i, .int j] ∧ (-(2 ^ 62) ≤ i ∧ i < 2 ^ 62 ∧ -(2 ^ 62) ≤ j ∧ j < 2 ^ 62) ∧ R (Itr i (j - i).toNat) H1
theorem pi_range1 {a : Expr} {ta : TA} {p pos : Pos} (hg : Gl X "range") (hm : X.mg "range" = none) (ha : PA X [a] ta) (hs : starEach [a] X.env = [(false, eval a X.env)] := by rfl) : PI X tg (.Call (.Name "range" p) [a] [] pos) (iRng1 ta) := by
  intro pins s σ H R I h
  refine Call_ (ld_blt I hg hm boot_range (PyProof.Rows.callWith_type1 (thn (ha pos pins s σ H _ I h) fun us s1 ⟨vs, H1, I1, r1, q1⟩ => ?_) hs rfl))
  obtain ⟨j, e, q1, q2, q⟩ := q1
  subst e
  cases r1 with
  | cons r rr =>
    cases rr
    obtain ⟨t, rfl⟩ := r
    exact call_range_1 (range_it I1 (by omega) (by omega) q1 q2 (by simpa using q))
theorem pi_range2 {a b : Expr} {ta : TA} {p pos : Pos} (hg : Gl X "range") (hm : X.mg "range" = none) (ha : PA X [a, b] ta) (hs : starEach [a, b] X.env = [(false, eval a X.env), (false, eval b X.env)] := by rfl) (hs2 : starEach [b] X.env = [(false, eval b X.env)] := by rfl) :
    PI X tg (.Call (.Name "range" p) [a, b] [] pos) (iRng2 ta) := by
  intro pins s σ H R I h
  refine Call_ (ld_blt I hg hm boot_range (PyProof.Rows.callWith_type1 (thn (ha pos pins s σ H _ I h) fun us s1 ⟨vs, H1, I1, r1, q1⟩ => ?_) (by rw [hs, hs2]) (by rw [hs2]; rfl)))
  obtain ⟨i, j, e, ⟨q1, q2, q3, q4⟩, q⟩ := q1
  subst e
  cases r1 with
  | cons r rr =>
    cases rr with
    | cons r' rr =>
      cases rr
      obtain ⟨t, rfl⟩ := r
      obtain ⟨t', rfl⟩ := r'
      exact call_range_2 (range_it I1 q1 q2 q3 q4 q)
def tFor (wi : TI) (g : TG) (tb : TS) : TS := fun D σ H => wi σ H fun J H1 => ∃ W : Nat → Nat → St → Hp → Prop, (∃ m, W 0 m σ H1) ∧ ∀ i m σ H, W i m σ H →
  (J.stop i H ∧ D.nx σ H) ∨ (J.go i H ∧ ∃ N : St → Hp → Prop, (∀ σ' H', N σ' H' → ∃ m', m' < m ∧ W (i + 1) m' σ' H') ∧ ∀ x H', J.yld i H x H' → g x σ H' fun σ2 H2 => tb { D with nx := N, ct := N, bk := D.nx } σ2 H2)
def pinsAt (fp : List Addr) (h : Heap) : List (Addr × Obj) := fp.filterMap fun b => (h.get? b).map fun o => (b, o)
theorem mem_pinsAt {fp : List Addr} {h : Heap} {b : Addr} {o : Obj} (hb : b ∈ fp) (e : h.get? b = some o) : (b, o) ∈ pinsAt fp h := List.mem_filterMap.mpr ⟨b, hb, by rw [e]; rfl⟩
theorem of_pinsAt {fp : List Addr} {h : Heap} {p : Addr × Obj} (hp : p ∈ pinsAt fp h) : p.1 ∈ fp ∧ h.get? p.1 = some p.2 := by
  obtain ⟨b, hb, e⟩ := List.mem_filterMap.mp hp
  cases q : h.get? b with
  | none => rw [q] at e; cases e
  | some o =>
    rw [q] at e
    have e' : (b, o) = p := Option.some.inj e
    subst e'
    exact ⟨hb, q⟩
theorem Inv.pinned {pins : List (Addr × Obj)} {σ : St} {H : Hp} {s : Shared} {fp : List Addr} (I : Inv X pins σ H s) (hf : ∀ b ∈ fp, FpOk X pins H b) (ho : ∀ b ∈ fp, ∃ o, s.heap.get? b = some o ∧ ∀ v, o.data ≠ .cell v) : Inv X (pins ++ pinsAt fp s.heap) σ H s :=
  I.pins_of fun p hp => (List.mem_append.mp hp).elim (fun z => I.pin p (List.mem_append_right _ z)) fun z => by
    obtain ⟨hb, e⟩ := of_pinsAt z
    obtain ⟨f0, f1, f2, _⟩ := hf p.1 hb
    obtain ⟨o, e', d⟩ := ho p.1 hb
    rw [e] at e'; cases e'
    exact ⟨e, f0, f1, f2, d⟩
theorem Inv.unpinned {pins pl : List (Addr × Obj)} {σ : St} {H : Hp} {s : Shared} (I : Inv X (pins ++ pl) σ H s) : Inv X pins σ H s := I.pins_of fun p hp => I.pin p (List.mem_append_right _ (List.mem_append_left _ hp))
theorem ps_for {iter : Expr} {body : List Stmt} {wi : TI} {g : TG} {tb : TS} {pos : Pos} (hp : PassesOwn (model X.prog X.w) X.A X.env X.xe) (hc : X.calm = true) (hi : PI X tg iter wi) (hg : PG X tg g) (hb : PSs X body tb)
    (hs : ∀ x, foldedSetIterable iter X.env x = pure x := by intro _; rfl) : PS X (.For tg iter body [] pos) (tFor wi g tb) := by
  intro pins s σ H D I h
  refine wpAny_For (thn (hi pins s σ H _ I h) fun v s1 h1 => thn h1 fun itv s2 h2 => ?_) hs
  obtain ⟨it, fp, tn, J, H2, e, I2, T, st2, f2, W, ⟨m0, w0⟩, turn⟩ := h2
  subst e
  have stat : ∀ {H' : Hp}, (∀ b ∈ fp, H' b = none) → ∀ b ∈ fp, FpOk X pins H' b := fun hn b hb => ⟨hn b hb, (f2 b hb).2⟩
  refine codeAny_forLoop_any (fun n s' => ∃ i σ' H', Inv X pins σ' H' s' ∧ tn i s'.heap ∧ (∀ b ∈ fp, H' b = none) ∧ W i n σ' H') ?_ m0 ⟨0, σ, H2, I2, st2, fun b hb => (f2 b hb).1, w0⟩
  rintro n s3 ⟨i, σ3, H3, I3, st3, fr3, w3⟩
  rcases turn i n σ3 H3 w3 with ⟨stop, qn⟩ | ⟨go, N, hN, step⟩
  · refine wpAny_passesOwn hp (thn (T.done X rfl rfl rfl hc i pins s3 σ3 H3 X.xe I3 (stat fr3) st3 stop) fun r s4 ⟨hr, I4⟩ => ?_)
    subst hr
    exact wpAny_execs_nil ⟨σ3, H3, I4, qn⟩
  · refine wpAny_passesOwn hp (thn (T.item X rfl rfl rfl hc i pins s3 σ3 H3 X.xe I3 (stat fr3) st3 go) fun r s4 ⟨u, hr, h4⟩ => ?_)
    subst hr
    refine wpAny_passesOwn hp (thn h4 fun _ s5 ⟨x, H5, I5, r5, y5, st5, fr5⟩ => ?_)
    have I5' := I5.pinned (stat fr5) (T.obj _ _ st5)
    refine wpAny_passesOwn hp (thn (hg _ s5 σ3 H5 x u _ I5' r5 (step x H5 y5)) fun _ s6 ⟨σ6, H6, I6, q6⟩ => ?_)
    refine wpAny_passesOwn hp (thn (hb _ s6 σ6 H6 _ I6 q6) fun f s7 q7 => ?_)
    have again : ∀ {σ7 : St} {H7 : Hp}, Inv X (pins ++ pinsAt fp s5.heap) σ7 H7 s7 → N σ7 H7 → ∃ m, m < n ∧ ∃ i σ' H', Inv X pins σ' H' s7 ∧ tn i s7.heap ∧ (∀ b ∈ fp, H' b = none) ∧ W i m σ' H' := fun {σ7 H7} I7 n7 => by
      obtain ⟨m', hm, w7⟩ := hN σ7 H7 n7
      refine ⟨m', hm, i + 1, σ7, H7, I7.unpinned, T.keep _ _ _ st5 fun b hb o e => (I7.pin (b, o) (List.mem_append_right _ (List.mem_append_right _ (mem_pinsAt hb e)))).1, fun b hb => ?_, w7⟩
      obtain ⟨o, e, d⟩ := T.obj _ _ st5 b hb
      exact (I7.pin (b, o) (List.mem_append_right _ (List.mem_append_right _ (mem_pinsAt hb e)))).2.1
    cases f with
    | next => obtain ⟨σ7, H7, I7, n7⟩ := q7; exact again I7 n7
    | cont => obtain ⟨σ7, H7, I7, n7⟩ := q7; exact again I7 n7
    | brk => obtain ⟨σ7, H7, I7, q7⟩ := q7; exact ⟨σ7, H7, I7.unpinned, q7⟩
    | ret v => obtain ⟨x7, σ7, H7, I7, r7, q7⟩ := q7; exact ⟨x7, σ7, H7, I7.unpinned, r7, q7⟩
end
theorem for_list {K : PySem.W.Frag} {a : Addr} {xs : List V} {g : TG} {tb : TS} {D : Ends} {σ : St} {H : Hp} (Pv : Nat → St → Hp → Prop) (h0 : Pv 0 σ H) (hl : ∀ i σ H, i ≤ xs.length → Pv i σ H → SqL K H a xs)
    (hs : ∀ i x σ H, xs[i]? = some x → Pv i σ H → g x σ H fun σ2 H2 => tb { D with nx := Pv (i + 1), ct := Pv (i + 1), bk := D.nx } σ2 H2) (hd : ∀ σ H, Pv xs.length σ H → D.nx σ H) :
    ∃ W : Nat → Nat → St → Hp → Prop, (∃ m, W 0 m σ H) ∧ ∀ i m σ H, W i m σ H →
      ((Itl K a).stop i H ∧ D.nx σ H) ∨ ((Itl K a).go i H ∧ ∃ N : St → Hp → Prop, (∀ σ' H', N σ' H' → ∃ m', m' < m ∧ W (i + 1) m' σ' H') ∧ ∀ x H', (Itl K a).yld i H x H' → g x σ H' fun σ2 H2 => tb { D with nx := N, ct := N, bk := D.nx } σ2 H2) := by
  refine ⟨fun i m σ H => m = xs.length - i ∧ i ≤ xs.length ∧ Pv i σ H, ⟨xs.length, by simp, Nat.zero_le _, h0⟩, ?_⟩
  rintro i m σ H ⟨rfl, hi, p⟩
  have q := hl i σ H hi p
  by_cases hlt : i < xs.length
  · refine .inr ⟨⟨xs, xs[i], q, by simp [hlt]⟩, Pv (i + 1), fun σ' H' p' => ⟨xs.length - (i + 1), by omega, rfl, hlt, p'⟩, fun x H' y => ?_⟩
    obtain ⟨e, y⟩ := y
    subst e
    exact hs i x σ _ (y xs q) p
  · have e : i = xs.length := by omega
    subst e
    exact .inl ⟨⟨xs, q, Nat.le_refl _⟩, hd σ H p⟩
theorem for_range {lo : Int} {n : Nat} {g : TG} {tb : TS} {D : Ends} {σ : St} {H : Hp} (Pv : Nat → St → Hp → Prop) (h0 : Pv 0 σ H)
    (hs : ∀ i σ H, i < n → Pv i σ H → g (.int (lo + i)) σ H fun σ2 H2 => tb { D with nx := Pv (i + 1), ct := Pv (i + 1), bk := D.nx } σ2 H2) (hd : ∀ σ H, Pv n σ H → D.nx σ H) :
    ∃ W : Nat → Nat → St → Hp → Prop, (∃ m, W 0 m σ H) ∧ ∀ i m σ H, W i m σ H →
      ((Itr lo n).stop i H ∧ D.nx σ H) ∨ ((Itr lo n).go i H ∧ ∃ N : St → Hp → Prop, (∀ σ' H', N σ' H' → ∃ m', m' < m ∧ W (i + 1) m' σ' H') ∧ ∀ x H', (Itr lo n).yld i H x H' → g x σ H' fun σ2 H2 => tb { D with nx := N, ct := N, bk := D.nx } σ2 H2) := by
  refine ⟨fun i m σ H => m = n - i ∧ i ≤ n ∧ Pv i σ H, ⟨n, by simp, Nat.zero_le _, h0⟩, ?_⟩
  rintro i m σ H ⟨rfl, hi, p⟩
  by_cases hlt : i < n
  · refine .inr ⟨hlt, Pv (i + 1), fun σ' H' p' => ⟨n - (i + 1), by omega, rfl, hlt, p'⟩, fun x H' y => ?_⟩
    obtain ⟨e, y⟩ := y
    subst e y
    exact hs i σ _ hlt p
  · have e : i = n := by omega
    subst e
    exact .inl ⟨Nat.le_refl _, hd σ H p⟩
end L2
namespace L2
open PySem PySem.Spec PyProof.Rows
abbrev R2 := V → V → Hp → VK → Prop
def OpR (X : Cx) (f : Value → Value → Sem Value) (r : R2) : Prop :=
  ∀ (pins : List (Addr × Obj)) (s : Shared) (σ : St) (H : Hp) (x y : V) (v u : Value) (Q : VK), Inv X pins σ H s → RelV x v → RelV y u → r x y H Q →
    wpAny (model X.prog X.w) X.A (f v u) (EP X pins σ Q) X.xe s
def UnR (X : Cx) (f : Value → Sem Value) (r : V → Hp → VK → Prop) : Prop :=
  ∀ (pins : List (Addr × Obj)) (s : Shared) (σ : St) (H : Hp) (x : V) (v : Value) (Q : VK), Inv X pins σ H s → RelV x v → r x H Q →
    wpAny (model X.prog X.w) X.A (f v) (EP X pins σ Q) X.xe s
def CallR (X : Cx) (f : Value) (r : List V → Hp → VK → Prop) : Prop :=
  ∀ (pins : List (Addr × Obj)) (s : Shared) (σ : St) (H : Hp) (xs : List V) (us : List Value) (Q : VK), Inv X pins σ H s → Vals xs us → r xs H Q →
    wpAny (model X.prog X.w) X.A (call f us) (EP X pins σ Q) X.xe s
def TruR (X : Cx) (r : V → Hp → (Bool → Hp → Prop) → Prop) : Prop :=
  ∀ (pins : List (Addr × Obj)) (s : Shared) (σ : St) (H : Hp) (x : V) (v : Value) (Q : Bool → Hp → Prop), Inv X pins σ H s → RelV x v → r x H Q →
    wpAny (model X.prog X.w) X.A (truthy v) (TP X pins σ Q) X.xe s
def tOp (r : R2) (ta tb : TE) : TE := fun σ H Q => ta σ H fun x H1 => tb σ H1 fun y H2 => r x y H2 Q
def tUn (r : V → Hp → VK → Prop) (ta : TE) : TE := fun σ H Q => ta σ H fun x H1 => r x H1 Q
def rI (C : Int → Int → Prop) (g : Int → Int → V) : R2 := fun x y H Q => ∃ i j, x = .int i ∧ y = .int j ∧ C i j ∧ Q (g i j) H
def rI0 (g : Int → Int → V) : R2 := fun x y H Q => ∃ i j, x = .int i ∧ y = .int j ∧ Q (g i j) H
def rU (g : Int → V) : V → Hp → VK → Prop := fun x H Q => ∃ i, x = .int i ∧ Q (g i) H
section
variable {X : Cx} {a b c : Expr} {ta tb tc : TE} {pos : Pos}
theorem binT (ha : PE X a ta) (hb : PE X b tb) {pins : List (Addr × Obj)} {s : Shared} {σ : St} {H : Hp} {R : V → V → Hp → Prop} (I : Inv X pins σ H s)
    (h : ta σ H fun x H1 => tb σ H1 fun y H2 => R x y H2) {Q : Value → Shared → Prop} {f : Value → Value → Sem Value}
    (hf : ∀ v u s2 x y H2, Inv X pins σ H2 s2 → RelV x v → RelV y u → R x y H2 → wpAny (model X.prog X.w) X.A (f v u) Q X.xe s2) :
    wpAny (model X.prog X.w) X.A (eval a X.env) (fun v s₁ => wpAny (model X.prog X.w) X.A (eval b X.env) (fun u s₂ => wpAny (model X.prog X.w) X.A (f v u) Q X.xe s₂) X.xe s₁) X.xe s := by
  refine thn (ha pins s σ H _ I h) fun v s1 ⟨x, H1, I1, r1, q1⟩ => ?_
  refine thn (hb pins s1 σ H1 _ I1 q1) fun u s2 ⟨y, H2, I2, r2, q2⟩ => ?_
  exact hf v u s2 x y H2 I2 r1 r2 q2
theorem pe_op {op : Operator} {r : R2} (ho : OpR X (binaryOp op) r) (ha : PE X a ta) (hb : PE X b tb) : PE X (.BinOp a op b pos) (tOp r ta tb) := by
  intro pins s σ H Q I h
  exact wpAny_BinOp (binT ha hb I h fun v u s2 x y H2 I2 rx ry q => ho pins s2 σ H2 x y v u Q I2 rx ry q)
theorem pe_un {op : UnaryOp} {r : V → Hp → VK → Prop} (ho : UnR X (unaryOp op) r) (ha : PE X a ta) : PE X (.UnaryOp op a pos) (tUn r ta) := by
  intro pins s σ H Q I h
  exact UnaryOp_ (thn (ha pins s σ H _ I h) fun v s1 ⟨x, H1, I1, r1, q1⟩ => ho pins s1 σ H1 x v Q I1 r1 q1)
theorem opI {f : Value → Value → Sem Value} {C : Int → Int → Prop} {g : Int → Int → Int}
    (rule : ∀ (i j : Int) (t u : Tok) (s : Shared) (Q : Value → Shared → Prop) (E : Value → Shared → Prop), C i j → Q (.int (g i j) s.toks) { s with toks := s.toks + 1 } → wpAny (model X.prog X.w) X.A (f (.int i t) (.int j u)) Q E s) :
    OpR X f (rI C fun i j => .int (g i j)) := by
  intro pins s σ H x y v u Q I rx ry h
  obtain ⟨i, j, rfl, rfl, hc, q⟩ := h
  obtain ⟨t, rfl⟩ := rx
  obtain ⟨t', rfl⟩ := ry
  exact rule i j t t' s _ _ hc ⟨.int (g i j), H, I.tok _, ⟨_, rfl⟩, q⟩
theorem opI0 {f : Value → Value → Sem Value} {g : Int → Int → Int}
    (rule : ∀ (i j : Int) (t u : Tok) (s : Shared) (Q : Value → Shared → Prop) (E : Value → Shared → Prop), Q (.int (g i j) s.toks) { s with toks := s.toks + 1 } → wpAny (model X.prog X.w) X.A (f (.int i t) (.int j u)) Q E s) :
    OpR X f (rI0 fun i j => .int (g i j)) := by
  intro pins s σ H x y v u Q I rx ry h
  obtain ⟨i, j, rfl, rfl, q⟩ := h
  obtain ⟨t, rfl⟩ := rx
  obtain ⟨t', rfl⟩ := ry
  exact rule i j t t' s _ _ ⟨.int (g i j), H, I.tok _, ⟨_, rfl⟩, q⟩
theorem opB0 {f : Value → Value → Sem Value} {g : Int → Int → Bool}
    (rule : ∀ (i j : Int) (t u : Tok) (s : Shared) (Q : Value → Shared → Prop) (E : Value → Shared → Prop), Q (.bool (g i j)) s → wpAny (model X.prog X.w) X.A (f (.int i t) (.int j u)) Q E s) :
    OpR X f (rI0 fun i j => .bl (g i j)) := by
  intro pins s σ H x y v u Q I rx ry h
  obtain ⟨i, j, rfl, rfl, q⟩ := h
  obtain ⟨t, rfl⟩ := rx
  obtain ⟨t', rfl⟩ := ry
  exact rule i j t t' s _ _ ⟨.bl (g i j), H, I, rfl, q⟩
def CPow (i j : Int) : Prop := 0 ≤ j ∧ j ≤ 1000000 ∧ i.natAbs < 2 ^ 64
def CMul (i j : Int) : Prop := (-(2 ^ 64) < i ∧ i < 2 ^ 64) ∨ (-(2 ^ 64) < j ∧ j < 2 ^ 64)
theorem CMul.ok {i j : Int} (h : CMul i j) : IntMulOk i j := by
  rcases h with ⟨h1, h2⟩ | ⟨h1, h2⟩
  · exact .of_left (intBits_le_64 h1 h2)
  · exact .of_right (intBits_le_64 h1 h2)
theorem op_add : OpR X (binaryOp .Add) (rI0 fun i j => .int (i + j)) := opI0 fun _ _ _ _ _ _ _ q => add_int q
theorem op_sub : OpR X (binaryOp .Sub) (rI0 fun i j => .int (i - j)) := opI0 fun _ _ _ _ _ _ _ q => sub_int q
theorem op_mul : OpR X (binaryOp .Mult) (rI CMul fun i j => .int (i * j)) := opI fun _ _ _ _ _ _ _ hc q => mul_int q hc.ok
theorem op_mod : OpR X (binaryOp .Mod) (rI (fun _ j => 0 < j) fun i j => .int (i % j)) := opI fun i j _ _ _ _ _ hc q => by
  have h1 : (0 : Int) < j := hc
  exact mod_int' (by omega) (by rw [Int.fmod_eq_emod_of_nonneg i (by omega)]; exact q)
theorem op_pow : OpR X (binaryOp .Pow) (rI CPow fun i j => .int (i ^ j.toNat)) := opI fun _ _ _ _ _ _ _ hc q => pow_int_small hc.1 hc.2.1 hc.2.2 q
theorem unI {f : Value → Sem Value} {g : Int → Int}
    (rule : ∀ (i : Int) (t : Tok) (s : Shared) (Q : Value → Shared → Prop) (E : Value → Shared → Prop), Q (.int (g i) s.toks) { s with toks := s.toks + 1 } → wpAny (model X.prog X.w) X.A (f (.int i t)) Q E s) :
    UnR X f (rU fun i => .int (g i)) := by
  intro pins s σ H x v Q I rx h
  obtain ⟨i, rfl, q⟩ := h
  obtain ⟨t, rfl⟩ := rx
  exact rule i t s _ _ ⟨.int (g i), H, I.tok _, ⟨_, rfl⟩, q⟩
theorem un_neg : UnR X (unaryOp .USub) (rU fun i => .int (-i)) := unI fun _ _ _ _ _ q => neg_int q
end
def scal : V → V → Bool
  | .non, .non => true | .non, .int _ => true | .int _, .non => true | .non, .bl _ => true | .bl _, .non => true | .non, .str _ => true | .str _, .non => true
  | .int _, .int _ => true | .bl _, .bl _ => true | .str _, .str _ => true | .byt _, .byt _ => true
  | .int _, .str _ => true | .str _, .int _ => true | .bl _, .str _ => true | .str _, .bl _ => true
  | _, _ => false
def rEq : R2 := fun x y H Q => scal x y = true ∧ Q (.bl (decide (x = y))) H
def rNe : R2 := fun x y H Q => scal x y = true ∧ Q (.bl (!decide (x = y))) H
theorem dec_int {i j : Int} : decide (V.int i = V.int j) = (i == j) := by
  rw [Bool.eq_iff_iff]
  simp
theorem dec_bl {i j : Bool} : decide (V.bl i = V.bl j) = (i == j) := by
  rw [Bool.eq_iff_iff]
  simp
theorem dec_str {i j : Str} : decide (V.str i = V.str j) = (i == j) := by
  rw [Bool.eq_iff_iff]
  simp
theorem dec_byt {i j : Array UInt8} : decide (V.byt i = V.byt j) = (i.toList == j.toList) := by
  rw [Bool.eq_iff_iff]
  cases i
  cases j
  simp
section
variable {X : Cx} {a b c : Expr} {ta tb tc : TE} {pos : Pos}
theorem fin_bl {pins : List (Addr × Obj)} {σ : St} {H : Hp} {s : Shared} {Q : VK} {k k' : Bool} (I : Inv X pins σ H s) (q : Q (.bl k) H) (e : k = k') : EP X pins σ Q (.bool k') s := by
  subst e
  exact ⟨.bl k, H, I, rfl, q⟩
theorem op_eq : OpR X (compareOp .Eq) rEq := by
  intro pins s σ H x y v u Q I rx ry h
  obtain ⟨hs, q⟩ := h
  cases x with
  | non =>
    cases rx
    cases y with
    | non => cases ry; exact PySem.EqNone.eq_none_none (fin_bl I q (by simp))
    | bl j => cases ry; exact PySem.EqNone.eq_none_bool (fin_bl I q (by simp))
    | int j => obtain ⟨t', rfl⟩ := ry; exact PySem.EqNone.eq_none_int (fin_bl I q (by simp))
    | str j => obtain ⟨t', rfl⟩ := ry; exact PySem.EqNone.eq_none_str (fin_bl I q (by simp))
    | _ => exact absurd (show false = true from hs) Bool.false_ne_true
  | bl i =>
    cases rx
    cases y with
    | non => cases ry; exact PySem.EqNone.eq_bool_none (fin_bl I q (by simp))
    | bl j => cases ry; exact eq_bool (fin_bl I q dec_bl)
    | str j => obtain ⟨t', rfl⟩ := ry; exact PySem.EqMixed.eq_bool_str (fin_bl I q (by simp))
    | _ => exact absurd (show false = true from hs) Bool.false_ne_true
  | int i =>
    obtain ⟨t, rfl⟩ := rx
    cases y with
    | non => cases ry; exact PySem.EqNone.eq_int_none (fin_bl I q (by simp))
    | int j => obtain ⟨t', rfl⟩ := ry; exact eq_int (fin_bl I q dec_int)
    | str j => obtain ⟨t', rfl⟩ := ry; exact PySem.EqMixed.eq_int_str (fin_bl I q (by simp))
    | _ => exact absurd (show false = true from hs) Bool.false_ne_true
  | str i =>
    obtain ⟨t, rfl⟩ := rx
    cases y with
    | non => cases ry; exact PySem.EqNone.eq_str_none (fin_bl I q (by simp))
    | bl j => cases ry; exact PySem.EqMixed.eq_str_bool (fin_bl I q (by simp))
    | int j => obtain ⟨t', rfl⟩ := ry; exact PySem.EqMixed.eq_str_int (fin_bl I q (by simp))
    | str j => obtain ⟨t', rfl⟩ := ry; exact eq_str (fin_bl I q dec_str)
    | _ => exact absurd (show false = true from hs) Bool.false_ne_true
  | byt i =>
    obtain ⟨t, rfl⟩ := rx
    cases y with
    | byt j => obtain ⟨t', rfl⟩ := ry; exact PySem.W.eq_bytes (fin_bl I q dec_byt)
    | _ => exact absurd (show false = true from hs) Bool.false_ne_true
  | _ => cases y <;> exact absurd (show false = true from hs) Bool.false_ne_true
theorem op_ne : OpR X (compareOp .NotEq) rNe := by
  intro pins s σ H x y v u Q I rx ry h
  obtain ⟨hs, q⟩ := h
  cases x with
  | non =>
    cases rx
    cases y with
    | non => cases ry; exact PySem.EqNone.ne_none_none (fin_bl I q (by simp))
    | bl j => cases ry; exact PySem.EqNone.ne_none_bool (fin_bl I q (by simp))
    | int j => obtain ⟨t', rfl⟩ := ry; exact PySem.EqNone.ne_none_int (fin_bl I q (by simp))
    | str j => obtain ⟨t', rfl⟩ := ry; exact PySem.EqNone.ne_none_str (fin_bl I q (by simp))
    | _ => exact absurd (show false = true from hs) Bool.false_ne_true
  | bl i =>
    cases rx
    cases y with
    | non => cases ry; exact PySem.EqNone.ne_bool_none (fin_bl I q (by simp))
    | bl j => cases ry; exact ne_bool (fin_bl I q (congrArg not dec_bl))
    | str j => obtain ⟨t', rfl⟩ := ry; exact PySem.EqMixed.ne_bool_str (fin_bl I q (by simp))
    | _ => exact absurd (show false = true from hs) Bool.false_ne_true
  | int i =>
    obtain ⟨t, rfl⟩ := rx
    cases y with
    | non => cases ry; exact PySem.EqNone.ne_int_none (fin_bl I q (by simp))
    | int j => obtain ⟨t', rfl⟩ := ry; exact ne_int (fin_bl I q (congrArg not dec_int))
    | str j => obtain ⟨t', rfl⟩ := ry; exact PySem.EqMixed.ne_int_str (fin_bl I q (by simp))
    | _ => exact absurd (show false = true from hs) Bool.false_ne_true
  | str i =>
    obtain ⟨t, rfl⟩ := rx
    cases y with
    | non => cases ry; exact PySem.EqNone.ne_str_none (fin_bl I q (by simp))
    | bl j => cases ry; exact PySem.EqMixed.ne_str_bool (fin_bl I q (by simp))
    | int j => obtain ⟨t', rfl⟩ := ry; exact PySem.EqMixed.ne_str_int (fin_bl I q (by simp))
    | str j => obtain ⟨t', rfl⟩ := ry; exact ne_str (fin_bl I q (congrArg not dec_str))
    | _ => exact absurd (show false = true from hs) Bool.false_ne_true
  | byt i =>
    obtain ⟨t, rfl⟩ := rx
    cases y with
    | byt j => obtain ⟨t', rfl⟩ := ry; exact PySem.W.ne_bytes (fin_bl I q (congrArg not dec_byt))
    | _ => exact absurd (show false = true from hs) Bool.false_ne_true
  | _ => cases y <;> exact absurd (show false = true from hs) Bool.false_ne_true
theorem op_lt : OpR X (compareOp .Lt) (rI0 fun i j => .bl (decide (i < j))) := opB0 fun _ _ _ _ _ _ _ q => lt_int q
theorem op_le : OpR X (compareOp .LtE) (rI0 fun i j => .bl (decide (i ≤ j))) := opB0 fun _ _ _ _ _ _ _ q => le_int q
theorem op_gt : OpR X (compareOp .Gt) (rI0 fun i j => .bl (decide (j < i))) := opB0 fun _ _ _ _ _ _ _ q => gt_int q
theorem op_ge : OpR X (compareOp .GtE) (rI0 fun i j => .bl (decide (j ≤ i))) := opB0 fun _ _ _ _ _ _ _ q => ge_int q
theorem op_isN : OpR X (compareOp .Is) (fun x y H Q => y = .non ∧ Q (.bl (decide (x = .non))) H) := by
  intro pins s σ H x y v u Q I rx ry h
  obtain ⟨rfl, q⟩ := h
  cases ry
  refine is_none_gen (fin_bl I q ?_)
  cases x <;> first
    | (cases rx; rfl)
    | (obtain ⟨t, rfl⟩ := rx; rfl)
theorem op_notN : OpR X (compareOp .IsNot) (fun x y H Q => y = .non ∧ Q (.bl (!decide (x = .non))) H) := by
  intro pins s σ H x y v u Q I rx ry h
  obtain ⟨rfl, q⟩ := h
  cases ry
  refine isnot_none_gen (fin_bl I q ?_)
  cases x <;> first
    | (cases rx; rfl)
    | (obtain ⟨t, rfl⟩ := rx; rfl)
theorem OpR.or {f : Value → Value → Sem Value} {r r' : R2} (h : OpR X f r) (h' : OpR X f r') : OpR X f (fun x y H Q => r x y H Q ∨ r' x y H Q) := by
  intro pins s σ H x y v u Q I rx ry q
  rcases q with q | q
  · exact h pins s σ H x y v u Q I rx ry q
  · exact h' pins s σ H x y v u Q I rx ry q
theorem nomark (b : Expr) {op : CmpOp} (h : op ≠ .In := by decide) (h2 : op ≠ .NotIn := by decide) : behindInMarks op b = false := by
  have e1 : (op == CmpOp.In) = false := by cases op <;> first | rfl | exact absurd rfl h
  have e2 : (op == CmpOp.NotIn) = false := by cases op <;> first | rfl | exact absurd rfl h2
  cases b <;> simp [behindInMarks, e1, e2]
theorem pe_cmpR {op : CmpOp} {r : R2} (ho : OpR X (compareOp op) r) (ha : PE X a ta) (hb : PE X b tb) (hm : behindInMarks op b = false) : PE X (.Compare a [op] [b] pos) (tOp r ta tb) := by
  intro pins s σ H Q I h
  exact wpAny_Compare1 (binT ha hb I h fun v u s2 x y H2 I2 rx ry q => ho pins s2 σ H2 x y v u Q I2 rx ry q) hm
def tTest (t : TE) : TT := fun σ H Q => t σ H fun x H' => ∃ k, x = .bl k ∧ Q k H'
theorem pt_cmpR {op : CmpOp} {r : R2} (ho : OpR X (compareOp op) r) (ha : PE X a ta) (hb : PE X b tb) (hm : behindInMarks op b = false) : PT X (.Compare a [op] [b] pos) (tTest (tOp r ta tb)) := by
  intro pins s σ H Q I h
  refine wpAny_isTrue_Compare1 (thn (ha pins s σ H _ I h) fun v s1 ⟨x, H1, I1, r1, q1⟩ => thn (hb pins s1 σ H1 _ I1 q1) fun u s2 ⟨y, H2, I2, r2, q2⟩ =>
    thn (ho pins s2 σ H2 x y v u _ I2 r1 r2 q2) fun c s3 ⟨z, H3, I3, r3, k, e, q3⟩ => ?_) hm
  subst e
  cases r3
  exact wpAny_truthy_bool ⟨H3, I3, q3⟩
def tChain (r r' : R2) (ta tb tc : TE) : TE := fun σ H Q => ta σ H fun x H1 => tb σ H1 fun y H2 => r x y H2 fun z H3 => ∃ k, z = .bl k ∧
  (if k = true then tc σ H3 fun w' H4 => r' y w' H4 Q else Q (.bl false) H3)
theorem pe_chain {op op' : CmpOp} {r r' : R2} (ho : OpR X (compareOp op) r) (ho' : OpR X (compareOp op') r') (ha : PE X a ta) (hb : PE X b tb) (hc : PE X c tc)
    (hm : lastMarks [op, op'] [b, c] = false := by with_unfolding_all rfl) : PE X (.Compare a [op, op'] [b, c] pos) (tChain r r' ta tb tc) := by
  intro pins s σ H Q I h
  refine Compare_chain (thn (ha pins s σ H _ I h) fun v s1 ⟨x, H1, I1, r1, q1⟩ => chain_link (thn (hb pins s1 σ H1 _ I1 q1) fun u s2 ⟨y, H2, I2, r2, q2⟩ =>
    thn (ho pins s2 σ H2 x y v u _ I2 r1 r2 q2) fun d s3 ⟨z, H3, I3, r3, k, e, q3⟩ => ?_)) hm
  subst e
  cases r3
  refine wpAny_truthy_bool ?_
  cases k with
  | false => exact ite_ff ⟨.bl false, H3, I3, rfl, q3⟩
  | true => exact ite_tt (chain_last (thn (hc pins s3 σ H3 _ I3 q3) fun w' s4 ⟨z', H4, I4, r4, q4⟩ => ho' pins s4 σ H4 y z' u w' Q I4 r2 r4 q4))
theorem pt_chain {op op' : CmpOp} {r r' : R2} (ho : OpR X (compareOp op) r) (ho' : OpR X (compareOp op') r') (ha : PE X a ta) (hb : PE X b tb) (hc : PE X c tc)
    (hm : lastMarks [op, op'] [b, c] = false := by with_unfolding_all rfl) : PT X (.Compare a [op, op'] [b, c] pos) (tTest (tChain r r' ta tb tc)) := by
  intro pins s σ H Q I h
  refine isTrue_chain (thn (ha pins s σ H _ I h) fun v s1 ⟨x, H1, I1, r1, q1⟩ => test_link (thn (hb pins s1 σ H1 _ I1 q1) fun u s2 ⟨y, H2, I2, r2, q2⟩ =>
    thn (ho pins s2 σ H2 x y v u _ I2 r1 r2 q2) fun d s3 ⟨z, H3, I3, r3, k, e, q3⟩ => ?_)) hm
  subst e
  cases r3
  refine wpAny_truthy_bool ?_
  cases k with
  | false =>
    obtain ⟨k', e', q'⟩ := q3
    cases e'
    exact ite_ff ⟨H3, I3, q'⟩
  | true =>
    refine ite_tt (test_last (thn (hc pins s3 σ H3 _ I3 q3) fun w' s4 ⟨z', H4, I4, r4, q4⟩ => thn (ho' pins s4 σ H4 y z' u w' _ I4 r2 r4 q4) fun d' s5 ⟨z2, H5, I5, r5, k2, e2, q5⟩ => ?_))
    subst e2
    cases r5
    exact wpAny_truthy_bool ⟨H5, I5, q5⟩
def TruV (K : PySem.W.Frag) (x : V) (H : Hp) (k : Bool) : Prop :=
  match x with
  | .non => k = false
  | .bl b => k = b
  | .int i => k = (i != 0)
  | .str y => y.length ≤ sizeLine ∧ k = ((y.length : Int) != 0)
  | .byt y => y.size ≤ sizeLine ∧ k = ((y.size : Int) != 0)
  | .ref p => (∃ xs, SqL K H p xs ∧ k = !xs.isEmpty) ∨ (∃ xs, SqT K H p xs ∧ k = !xs.isEmpty) ∨ ∃ kvs, H p = some (.dK kvs) ∧ k = !kvs.isEmpty
  | _ => False
theorem isEmpty_kv {κ : Type} {kvs : List (κ × V)} {vs : List (κ × Value)} (r : KV kvs vs) : (!vs.isEmpty) = !kvs.isEmpty := by
  cases r <;> rfl
theorem isEmpty_of {xs : List V} {its : List Value} (r : Vals xs its) : (!its.toArray.isEmpty) = !xs.isEmpty := by
  cases r <;> simp
theorem line63 : (sizeLine : Nat) < 2 ^ 63 := by rw [sizeLine_eq]; decide
theorem tru_ok : TruR X (fun x H Q => ∃ k, TruV X.K x H k ∧ Q k H) := by
  intro pins s σ H x v Q I rx h
  obtain ⟨k, e, q⟩ := h
  have hl := line63
  have hs : sizeLine = 16777216 := sizeLine_eq
  cases x with
  | non =>
    cases rx
    have e' : k = false := e
    subst e'
    exact truthy_none ⟨H, I, q⟩
  | bl b =>
    cases rx
    have e' : k = b := e
    subst e'
    exact wpAny_truthy_bool ⟨H, I, q⟩
  | int i =>
    obtain ⟨t, rfl⟩ := rx
    have e' : k = (i != 0) := e
    subst e'
    exact PySem.P.truthy_int ⟨H, I, q⟩
  | str y =>
    obtain ⟨t, rfl⟩ := rx
    obtain ⟨hy, e'⟩ : y.length ≤ sizeLine ∧ k = ((y.length : Int) != 0) := e
    subst e'
    exact PySem.P.truthy_str (by omega) ⟨H, I.tok _, q⟩
  | byt y =>
    obtain ⟨t, rfl⟩ := rx
    obtain ⟨hy, e'⟩ : y.size ≤ sizeLine ∧ k = ((y.size : Int) != 0) := e
    subst e'
    exact PySem.W.truthy_bytes (by omega) ⟨H, I.tok _, q⟩
  | ref p =>
    cases rx
    have e' : (∃ xs, SqL X.K H p xs ∧ k = !xs.isEmpty) ∨ (∃ xs, SqT X.K H p xs ∧ k = !xs.isEmpty) ∨ ∃ kvs, H p = some (.dK kvs) ∧ k = !kvs.isEmpty := e
    rcases e' with ⟨xs, hx, e'⟩ | ⟨xs, hx, e'⟩ | ⟨kvs, hx, e'⟩
    · subst e'
      obtain ⟨its, r, pl, hz⟩ := I.list hx
      have hlen := r.length
      exact wpAny_truthy_list pl.isList (by simp only [List.size_toArray]; omega) ⟨H, I.tok _, by rw [isEmpty_of r]; exact q⟩
    · subst e'
      obtain ⟨its, r, pl, hz⟩ := I.tuple hx
      have hlen := r.length
      exact truthy_tuple pl (by simp only [List.size_toArray]; omega) ⟨H, I.tok _, by rw [isEmpty_of r]; exact q⟩
    · subst e'
      obtain ⟨hz, hS, vs, r, m⟩ : kvs.length ≤ sizeLine ∧ (p == sysModules) = false ∧ ∃ vs, KV kvs vs ∧ s.heap.DictOf (mixKind X.prog X.w) p vs := I.hok p _ hx
      have hlen : kvs.length = vs.length := Paired.length r
      exact wpAny_truthy_dict hS m (by omega) ⟨H, I.tok _, by rw [isEmpty_kv r]; exact q⟩
  | _ => exact (show False from e).elim
theorem pt_truth (ha : PE X a ta) (he : ∀ whole, isTrue a X.env whole = (do let v ← whole; standAt a.pos; holding [v] (truthy v))) :
    PT X a (fun σ H Q => ta σ H fun x H' => ∃ k, TruV X.K x H' k ∧ Q k H') := by
  intro pins s σ H Q I h
  exact isTrue_plain (thn (ha pins s σ H _ I h) fun v s1 ⟨x, H1, I1, r1, q1⟩ => tru_ok pins s1 σ H1 x v Q I1 r1 q1) (he _)
theorem vals1 {x : V} {us : List Value} (r : Vals [x] us) : ∃ u, us = [u] ∧ RelV x u := by
  cases r with
  | cons r1 r2 => cases r2; exact ⟨_, rfl, r1⟩
theorem vals2 {x y : V} {us : List Value} (r : Vals [x, y] us) : ∃ u w', us = [u, w'] ∧ RelV x u ∧ RelV y w' := by
  cases r with
  | cons r1 r2 =>
    cases r2 with
    | cons r3 r4 => cases r4; exact ⟨_, _, rfl, r1, r3⟩
theorem call_max2 (hc : X.calm = true) : CallR X (.builtin "max") (fun xs H Q => ∃ i j, xs = [.int i, .int j] ∧ Q (.int (if j > i then j else i)) H) := by
  intro pins s σ H xs us Q I r h
  obtain ⟨i, j, rfl, q⟩ := h
  obtain ⟨u, w', rfl, ⟨t, rfl⟩, ⟨t', rfl⟩⟩ := vals2 r
  refine max_two_ints (I.ok.hd hc) fun h' tk k => ⟨_, H, I.kept k, ?_, q⟩
  by_cases hj : j > i
  · rw [if_pos hj, if_pos hj]; exact ⟨_, rfl⟩
  · rw [if_neg hj, if_neg hj]; exact ⟨_, rfl⟩
theorem call_min2 (hc : X.calm = true) : CallR X (.builtin "min") (fun xs H Q => ∃ i j, xs = [.int i, .int j] ∧ Q (.int (if j < i then j else i)) H) := by
  intro pins s σ H xs us Q I r h
  obtain ⟨i, j, rfl, q⟩ := h
  obtain ⟨u, w', rfl, ⟨t, rfl⟩, ⟨t', rfl⟩⟩ := vals2 r
  refine min_two_ints (I.ok.hd hc) fun h' tk k => ⟨_, H, I.kept k, ?_, q⟩
  by_cases hj : j < i
  · rw [if_pos hj, if_pos hj]; exact ⟨_, rfl⟩
  · rw [if_neg hj, if_neg hj]; exact ⟨_, rfl⟩
theorem call_int1 : CallR X (.type "int") (fun xs H Q => (∃ i, xs = [.int i] ∧ Q (.int i) H) ∨ ∃ k, xs = [.bl k] ∧ Q (.int (if k then 1 else 0)) H) := by
  intro pins s σ H xs us Q I r h
  rcases h with ⟨i, rfl, q⟩ | ⟨k, rfl, q⟩
  · obtain ⟨u, rfl, t, rfl⟩ := vals1 r
    exact call_int_int ⟨.int i, H, I, ⟨_, rfl⟩, q⟩
  · obtain ⟨u, rfl, r1⟩ := vals1 r
    cases r1
    exact call_int_bool ⟨.int (if k then 1 else 0), H, I.tok _, ⟨_, rfl⟩, q⟩
end
end L2
namespace L2
open PySem PySem.Spec PyProof.Rows
structure ObjM (h : Heap) (x dx C : Addr) (mA : Str → Option Value) : Prop where
  obj : h.get? x = some (PySem.W.instObj C dx)
  ns : h.Ns1 dx mA
  ne : dx ≠ x
section
variable {prog : Program} {w : World} {A : Around} {E : Value → Shared → Prop} {s : Shared} {K : PySem.W.Frag} {x dx C f : Addr} {mA : Str → Option Value} {name : Str} {v : Value}
end
theorem RelO.some_of {v : V} {o : Option Value} (r : RelO (some v) o) : ∃ u, o = some u ∧ RelV v u := by
  cases o with
  | none => exact (show False from r).elim
  | some u => exact ⟨u, rfl, r⟩
theorem RelO.none_of {o : Option Value} (r : RelO none o) : o = none := by
  cases o with
  | none => rfl
  | some u => exact (show False from r).elim
section
variable {P : Program} {w : World} {H H' : Hp} {h h' : Heap} {a C dx : Addr} {fs fs' : List (Str × V)}
end
structure Cls (K : PySem.W.Frag) (C : Addr) : Prop where
  pg : PySem.W.plainGet K C Str.empty = true
  hd : PySem.W.hasDictIn K C = true
  po : PySem.W.plainOver K C = true
  sa : PySem.W.findIn K (.ref C) "__setattr__" = some (some (.builtin "object.__setattr__"))
theorem Cls.get {K : PySem.W.Frag} {C : Addr} (c : Cls K C) (f : Str) : PySem.W.plainGet K C f = true := c.pg
structure Con (K : PySem.W.Frag) (C : Addr) (f : Str) (v : V) (u : Value) : Prop where
  at_ : PySem.W.findIn K (.ref C) f = some (some u)
  rel : RelV v u
  get : PySem.W.specialIn K u "__get__" = some none
  cp : PySem.W.copiedNames.contains f = false
structure Meth (K : PySem.W.Frag) (C : Addr) (m : Str) (f : Addr) : Prop where
  at_ : PySem.W.findIn K (.ref C) m = some (some (.ref f))
  fn : PySem.W.isFn K (.ref f) = true
  kp : PySem.W.keepIn K (.ref f) = true
section
variable {X : Cx} {pins : List (Addr × Obj)} {σ : St} {H : Hp} {s : Shared} {a C dx : Addr} {fs : List (Str × V)} {f : Str} {v : V} {A : Around} {E : Value → Shared → Prop}
theorem Inv.made (I : Inv X pins σ H s) : Inv X pins σ (upd (upd H s.heap.objs.size (.own (s.heap.objs.size + 1))) (s.heap.objs.size + 1) (.ins C s.heap.objs.size []))
    { s with heap := (s.heap.push PySem.W.emptyDict).push (PySem.W.instObj C s.heap.objs.size) } := by
  have e1 : (s.heap.push PySem.W.emptyDict).get? s.heap.objs.size = some PySem.W.emptyDict := Heap.get?_push_size s.heap rfl
  have e2 : ((s.heap.push PySem.W.emptyDict).push (PySem.W.instObj C s.heap.objs.size)).get? (s.heap.objs.size + 1) = some (PySem.W.instObj C s.heap.objs.size) := by
    have := Heap.get?_push_size (s.heap.push PySem.W.emptyDict) (o := PySem.W.instObj C s.heap.objs.size) rfl
    rwa [Heap.size_push] at this
  have e3 : (s.heap.push PySem.W.emptyDict).Ns s.heap.objs.size (fun _ => none) := ⟨PySem.W.emptyDict, #[], _, e1, rfl, (fun e he => absurd he (by simp)), fun _ => rfl⟩
  have I1 := I.laid (a := s.heap.objs.size) (o := .own (s.heap.objs.size + 1)) (h' := s.heap.push PySem.W.emptyDict) (t' := s.toks) (fun b u q => Heap.get?_push_of_some _ q) (Nat.le_refl _) ⟨_, e1⟩
  refine I1.laid (a := s.heap.objs.size + 1) (o := .ins C s.heap.objs.size []) (t' := s.toks) (fun b u q => Heap.get?_push_of_some _ q) (Nat.le_of_eq (Heap.size_push _ _)) ?_
  have ne : s.heap.objs.size ≠ s.heap.objs.size + 1 := Nat.ne_of_lt (Nat.lt_succ_self _)
  refine ⟨by rw [upd_ne ne, upd_same], Nat.zero_le _, ne, e2, fun _ => none, (Heap.Ns1.of_empty e3).at fun o q => Heap.get?_push_of_some _ q, fun _ => True.intro, fun y hy => absurd rfl hy⟩
end
section
variable {X : Cx} {o e value : Expr} {f : Str} {pos pos' tpos : Pos} {ta tv : TE}
end
section
variable {X : Cx} {pins : List (Addr × Obj)} {σ : St} {H : Hp} {s : Shared} {A : Around} {E : Value → Shared → Prop} {Q : Value → Shared → Prop} {c : Value} {b : Bool}
inductive TyOf (K : PySem.W.Frag) (H : Hp) : V → Value → Prop where
  | non : TyOf K H .non (.type "NoneType")
  | bl (x : Bool) : TyOf K H (.bl x) (.type "bool")
  | int (i : Int) : TyOf K H (.int i) (.type "int")
  | str (x : Str) : TyOf K H (.str x) (.type "str")
  | flt (x : UInt64) : TyOf K H (.flt x) (.type "float")
  | lst {a : Addr} {xs : List V} (e : H a = some (.lst xs)) : TyOf K H (.ref a) (.type "list")
  | frz {a : Addr} {o : Obj} {xs : List V} (e : H a = some (.frz o (.lst xs))) : TyOf K H (.ref a) (.type "list")
  | tup {a : Addr} {xs : List V} (e : H a = some (.tup xs)) : TyOf K H (.ref a) (.type "tuple")
  | dK {a : Addr} {kvs : List (Key × V)} (e : H a = some (.dK kvs)) : TyOf K H (.ref a) (.type "dict")
  | dT {a : Addr} {kvs : List (List Key × V)} (e : H a = some (.dT kvs)) : TyOf K H (.ref a) (.type "dict")
  | ins {a C dx : Addr} {fs : List (Str × V)} (e : H a = some (.ins C dx fs)) (cl : Cls K C) (ha : PySem.W.findIn K (.ref C) "__class__" = some (some (.builtin "object.__class__")))
      (hn : PySem.W.specialIn K (.builtin "object.__class__") "__get__" = some (some (.builtin "getset_descriptor.__get__"))) (htk : PySem.W.takesIn K (.builtin "object.__class__") = some true)
      (hm : PySem.W.mroIn K C (.type "object") = some true) : TyOf K H (.ref a) (.ref C)
end
end L2
namespace L2
open PySem PySem.Spec PyProof.Rows
structure Room (k : Nat) (A : Around) : Prop where
  hd : A.handled = none
  dp : A.depth + 3 * k + 5 < recursionLimit
  un : A.units + 16 * k + 200 < cLine
  gd : A.guards = some []
theorem Room.mono {j k : Nat} {A : Around} (r : Room k A) (h : j ≤ k) : Room j A := ⟨r.hd, by have := r.dp; omega, by have := r.un; omega, r.gd⟩
theorem Room.deeper {k : Nat} {A : Around} (r : Room (k + 1) A) (env : Env) : Room k (A.deeper env) :=
  ⟨r.hd, by have := r.dp; show A.depth + 1 + 3 * k + 5 < _; omega, by have := r.un; show A.units + 3 + 16 * k + 200 < _; omega, r.gd⟩
theorem Room.in1 {k : Nat} {A : Around} (r : Room (k + 1) A) : Room k A.in1 :=
  ⟨r.hd, by have := r.dp; show A.depth + 3 * k + 5 < _; omega, by have := r.un; show A.units + 1 + 16 * k + 200 < _; omega, r.gd⟩
theorem make_depth {A : Around} {C : Addr} {us : List Value} {kw : List (Str × Value)} : (A.under (.builtin "type.__call__" ⟨.ref C :: us, kw⟩)).depth = A.depth + 1 := by
  first | rfl | simp [Around.under, Code.weight, Code.isCreation, Code.isGuard, Code.isCaller, Code.frames, Code.isFrame, guardIds]
theorem make_units {A : Around} {C : Addr} {us : List Value} {kw : List (Str × Value)} : (A.under (.builtin "type.__call__" ⟨.ref C :: us, kw⟩)).units = A.units + 1 := by
  first | rfl | simp [Around.under, Code.cUnits, Code.frames, Code.isFrame]
theorem Room.make {k : Nat} {A : Around} (r : Room (k + 1) A) (C : Addr) (us : List Value) (kw : List (Str × Value)) : Room k (A.under (.builtin "type.__call__" ⟨.ref C :: us, kw⟩)) :=
  ⟨r.hd, by have := r.dp; rw [make_depth]; omega, by have := r.un; rw [make_units]; omega, by have := r.gd; first | exact this | simpa [Around.under, Code.guards, Code.isGuard, pushGuards, guardIds] using this⟩
theorem Room.depth {k : Nat} {A : Around} (r : Room k A) : A.depth < recursionLimit := by have := r.dp; omega
theorem Room.units {k : Nat} {A : Around} (r : Room k A) : A.units + 64 < cLine := by have := r.un; omega
def tNil : TA := fun _ H Q => Q [] H
def tCons (ta : TE) (tr : TA) : TA := fun σ H Q => ta σ H fun x H1 => tr σ H1 fun xs H2 => Q (x :: xs) H2
section
variable {X : Cx} {e : Expr} {es : List Expr} {te : TE} {t : TA} {pos : Pos}
theorem pa_nil : PA X [] tNil := fun _ _ _ _ H Q I h => Calls.spliced_nil ⟨[], H, I, .nil, h⟩
theorem pa_cons (ha : PE X e te) (hr : PA X es t) (hs : starEach (e :: es) X.env = (false, eval e X.env) :: starEach es X.env := by rfl) : PA X (e :: es) (tCons te t) := by
  intro pos pins s σ H Q I h
  rw [hs]
  show wpAny _ _ (spliced ((false, eval e X.env) :: backTo pos (starEach es X.env))) _ _ s
  refine Calls.spliced_cons (thn (ha pins s σ H _ I h) fun u s1 ⟨x, H1, I1, r1, q1⟩ => ?_)
  exact thn (hr pos pins s1 σ H1 _ I1 q1) fun us s2 ⟨xs, H2, I2, r2, q2⟩ => ⟨x :: xs, H2, I2, .cons r1 r2, q2⟩
def tTup (t : TA) : TE := fun σ H Q => t σ H fun xs H1 => xs.length ≤ sizeLine ∧ ∀ p, H1 p = none → Q (.ref p) (upd H1 p (.tup xs))
def tLst (t : TA) : TE := fun σ H Q => t σ H fun xs H1 => xs.length ≤ sizeLine ∧ ∀ p, H1 p = none → Q (.ref p) (upd H1 p (.lst xs))
end
abbrev Sp := List V → Hp → VK → XK → Prop
abbrev CXT := List Env → Hp → Shared → XK → Value → Shared → Prop
structure Env0 (P : Program) (w : World) (K : PySem.W.Frag) (mg : Str → Option Value) (base : Heap) (A : Around) (outer : List Env) (s : Shared) (H : Hp) : Prop where
  frames : A.frames = some outer
  mod : Mod K mg base
  bs : ∀ b o, base.get? b = some o → s.heap.get? b = some o ∧ H b = none
  bsz : base.objs.size ≤ s.heap.objs.size
  funs : s.heap.FunFrames base outer
  frf : ∀ b ∈ frs outer, H b = none
  hok : HOk P w H s.heap
  bare : AllBare s.gens
def CE (outer : List Env) (P : Program) (w : World) (H : Hp) (s : Shared) (Q : VK) (u : Value) (s' : Shared) : Prop :=
  ∃ v H', s'.os = s.os ∧ AllBare s'.gens ∧ Un (frs outer) [] H H' s.heap s'.heap ∧ HOk P w H' s'.heap ∧ RelV v u ∧ Q v H'
def CR (CX : CXT) (outer : List Env) (P : Program) (w : World) (H : Hp) (s : Shared) (Q : VK) (E : XK) (r : Result) (s' : Shared) : Prop :=
  match r with
  | .ok (.ret u) => CE outer P w H s Q u s'
  | .ok _ => False
  | .error e => CX outer H s E e s'
structure FnOk (P : Program) (w : World) (K : PySem.W.Frag) (mg : Str → Option Value) (base : Heap) (CX : CXT) (k : Nat) (f : Addr) (fd : FuncData) (ps : List Str) (sp : Sp) : Prop where
  len : ∀ vs H Q E, sp vs H Q E → vs.length = ps.length
  run : ∀ (A : Around) (outer : List Env) (s : Shared) (H : Hp) (args : Args) (us : List Value) (vs : List V) (Q : VK) (E : XK), Room k A → Env0 P w K mg base A outer s H → BindsTo s fd args (ps.zip us) → Vals vs us → sp vs H Q E →
    codeAny (model P w) A (.call (.ref f) args) (CR CX outer P w H s Q E) s
theorem FnOk.mono {P : Program} {w : World} {K : PySem.W.Frag} {mg : Str → Option Value} {base : Heap} {CX : CXT} {j k : Nat} {f : Addr} {fd : FuncData} {ps : List Str} {sp : Sp} (F : FnOk P w K mg base CX j f fd ps sp) (h : j ≤ k) :
    FnOk P w K mg base CX k f fd ps sp := ⟨F.len, fun A outer s H args us vs Q E hr => F.run A outer s H args us vs Q E (hr.mono h)⟩
theorem FnOk.imp {P : Program} {w : World} {K : PySem.W.Frag} {mg : Str → Option Value} {base : Heap} {CX : CXT} {k : Nat} {f : Addr} {fd : FuncData} {ps : List Str} {sp sp' : Sp} (F : FnOk P w K mg base CX k f fd ps sp)
    (h : ∀ vs H Q E, sp' vs H Q E → sp vs H Q E) : FnOk P w K mg base CX k f fd ps sp' :=
  ⟨fun vs H Q E q => F.len vs H Q E (h _ _ _ _ q), fun A outer s H args us vs Q E hr he hb hv hs => F.run A outer s H args us vs Q E hr he hb hv (h _ _ _ _ hs)⟩
theorem Env0.make {P : Program} {w : World} {K : PySem.W.Frag} {mg : Str → Option Value} {base : Heap} {A : Around} {outer : List Env} {s : Shared} {H : Hp} (e : Env0 P w K mg base A outer s H) (C : Addr) (us : List Value) (kw : List (Str × Value)) :
    Env0 P w K mg base (A.under (.builtin "type.__call__" ⟨.ref C :: us, kw⟩)) outer s H := ⟨by first | exact e.frames | (simpa [Around.under, Code.envs, Code.isFrame, pushEnvs] using e.frames), e.mod, e.bs, e.bsz, e.funs, e.frf, e.hok, e.bare⟩
theorem Env0.in1 {P : Program} {w : World} {K : PySem.W.Frag} {mg : Str → Option Value} {base : Heap} {A : Around} {outer : List Env} {s : Shared} {H : Hp} (e : Env0 P w K mg base A outer s H) :
    Env0 P w K mg base A.in1 outer s H := ⟨e.frames, e.mod, e.bs, e.bsz, e.funs, e.frf, e.hok, e.bare⟩
section
variable {X : Cx} {pins : List (Addr × Obj)} {σ : St} {H : Hp} {s s' : Shared}
theorem Inv.env0 (I : Inv X pins σ H s) : Env0 X.prog X.w X.K X.mg X.base X.A X.stack s H :=
  ⟨I.ok.frames, I.ok.mod, I.bs, Nat.le_trans I.ok.bsz I.sz, I.stack, I.stkFree, I.hok, I.bare⟩
theorem Inv.after {Q : VK} {u : Value} (I : Inv X pins σ H s) (h : CE X.stack X.prog X.w H s Q u s') : EP X pins σ Q u s' := by
  obtain ⟨v, H', os, bare, un, hok, r, q⟩ := h
  obtain ⟨hh, g, d, t, os'⟩ := s'
  obtain rfl : os' = s.os := os
  exact ⟨v, H', I.call (h' := hh) (g' := g) (d' := d) (t' := t) (ch := []) un hok bare (fun b z => absurd z (by simp)), r, q⟩
end
def tCall (sp : Sp) (dvs : List V) (E : XK) (t : TA) : TE := fun σ H Q => t σ H fun vs H1 => sp (vs ++ dvs) H1 Q E
def Binds (K : PySem.W.Frag) (fd : FuncData) (ps : List Str) (ds : List Value) : Prop :=
  ∀ (s : Shared) (us : List Value), K.In s.heap → (us ++ ds).length = ps.length → BindsTo s fd ⟨us, []⟩ (ps.zip (us ++ ds))
theorem Binds.all {K : PySem.W.Frag} {fd : FuncData} {ps : List Str} (h : ∀ us : List Value, us.length = ps.length → bindArgs fd ⟨us, []⟩ = pure (ps.zip us)) : Binds K fd ps [] := fun s us _ hl => by
  rw [List.append_nil] at hl ⊢
  exact .of_eq (h us hl)
def Passes (CX : CXT) (X : Cx) (E : XK) : Prop := ∀ (pins : List (Addr × Obj)) (σ : St) (H : Hp) (s : Shared) (e : Value) (s' : Shared), Inv X pins σ H s → CX X.stack H s E e s' → X.xe e s'
section
variable {X : Cx} {CX : CXT} {k : Nat} {f C : Addr} {fd : FuncData} {ps : List Str} {sp : Sp} {dvs : List V} {ds : List Value} {E : XK} {x m : Str} {p pos apos : Pos} {e o : Expr} {es : List Expr} {ta : TE} {t : TA}
theorem run_fn {pins : List (Addr × Obj)} {σ : St} {H : Hp} {s : Shared} {Q : VK} {us : List Value} {vs : List V} (F : FnOk X.prog X.w X.K X.mg X.base CX k f fd ps sp) (hr : Room k X.A) (hb : Binds X.K fd ps ds) (hd : Vals dvs ds) (hx : Passes CX X E)
    (I : Inv X pins σ H s) (r : Vals vs us) (h : sp (vs ++ dvs) H Q E) : wpAny (model X.prog X.w) X.A (call (.ref f) us) (EP X pins σ Q) X.xe s := by
  have r2 : Vals (vs ++ dvs) (us ++ ds) := r.append hd
  have hl : (us ++ ds).length = ps.length := by rw [← r2.length]; exact F.len _ _ _ _ h
  refine wpAny_call (codeAny_mono (F.run X.A X.stack s H ⟨us, []⟩ (us ++ ds) (vs ++ dvs) Q E hr I.env0 (hb s us I.kIn hl) r2 h) fun r s' hq => ?_)
  cases r with
  | error e => exact hx pins σ H s e s' I hq
  | ok fl =>
    cases fl with
    | ret u => exact I.after hq
    | next => exact False.elim hq
    | brk => exact False.elim hq
    | cont => exact False.elim hq
theorem pe_call (F : FnOk X.prog X.w X.K X.mg X.base CX k f fd ps sp) (hr : Room k X.A) (hg : Gl X x) (hm : X.mg x = some (.ref f)) (hk : PySem.W.keepIn X.K (.ref f) = true) (hb : Binds X.K fd ps ds) (hd : Vals dvs ds) (hx : Passes CX X E)
    (ha : PA X (e :: es) t) (hdb : (x == ("__debug__" : Str)) = false := by decide) (he : starEach (e :: es) X.env = (false, eval e X.env) :: starEach es X.env := by rfl) (hpl : (backTo pos (starEach es X.env)).any (·.1) = false := by rfl) :
    PE X (.Call (.Name x p) (e :: es) [] pos) (tCall sp dvs E t) := by
  intro pins s σ H Q I h
  refine wpAny_Call_Name_kw (ld_glob I hg hm ?_ hdb)
  refine PySem.W.callWith_K (h₀ := X.base) I.ok.mod.kin hk (thn (ha pos pins s σ H _ I h) fun us s1 ⟨vs, H1, I1, r, q⟩ => ⟨I1.kIn, ?_⟩) he hpl
  exact run_fn F hr hb hd hx I1 r q
structure Mk (K : PySem.W.Frag) (C f : Addr) : Prop where
  makes : PySem.W.makesIn K C = true
  init : PySem.W.findIn K (.ref C) "__init__" = some (some (.ref f))
  fn : PySem.W.isFn K (.ref f) = true
  kp : PySem.W.keepIn K (.ref C) = true
end
def PK (X : Cx) (kws : List Keyword) (t : TA) : Prop :=
  ∀ (pos : Pos) (pins : List (Addr × Obj)) (s : Shared) (σ : St) (H : Hp) (Q : List V → Hp → Prop), Inv X pins σ H s → t σ H Q → wpAny (model X.prog X.w) X.A (evalAll ((backToKw pos (keywordEach kws X.env)).map (·.2))) (AP X pins σ Q) X.xe s
section
variable {X : Cx} {CX : CXT} {k : Nat} {f C : Addr} {fd : FuncData} {ps ks : List Str} {sp : Sp} {E : XK} {x m : Str} {p pos apos kpos : Pos} {e o : Expr} {es : List Expr} {kws : List Keyword} {te ta : TE} {t tk : TA} {nm : Option Str}
structure KBinds (K : PySem.W.Frag) (fd : FuncData) (ps ks : List Str) (g : List Value → List Value → List Value) (gV : List V → List V → List V) : Prop where
  to : ∀ (s : Shared) (us ws : List Value), K.In s.heap → (g us ws).length = ps.length → BindsTo s fd ⟨us, ks.zip ws⟩ (ps.zip (g us ws))
  rel : ∀ {vs : List V} {us : List Value} {zs : List V} {ws : List Value}, Vals vs us → Vals zs ws → Vals (gV vs zs) (g us ws)
def tCallK (sp : Sp) (gV : List V → List V → List V) (E : XK) (t tk : TA) : TE := fun σ H Q => t σ H fun vs H1 => tk σ H1 fun zs H2 => sp (gV vs zs) H2 Q E
variable {g : List Value → List Value → List Value} {gV : List V → List V → List V}
end
structure FnScope (N P : List Str) (sc : Scope) : Prop where
  kind : sc.kind = .function
  co : sc.isCoroutine = false
  gen : sc.isGenerator = false
  nd : N.Nodup
  pre : N.take P.length = P
  par : ∀ x ∈ P, sc.names.lookup x = some .local ∨ sc.names.lookup x = some .cell
  nofree : ∀ y ∈ sc.names, y.2 ≠ .free
theorem bindL_out {kindOf : Str → Option NameKind} {x : Str} : ∀ {binds : List (Str × Value)} {m : Str → Option Value}, (∀ v, (x, v) ∉ binds) → bindL kindOf binds m x = m x
  | [], _, _ => rfl
  | (n, v) :: r, m, h => by
    unfold bindL
    rw [bindL_out fun w hw => h w (List.mem_cons_of_mem _ hw)]
    split
    · have : x ≠ n := by rintro rfl; exact h v List.mem_cons_self
      simp [this]
    · rfl
theorem bindC_out {kindOf : Str → Option NameKind} {x : Str} : ∀ {binds : List (Str × Value)} {m : Str → Option Value}, (∀ v, (x, v) ∉ binds) → bindC kindOf binds m x = m x
  | [], _, _ => rfl
  | (n, v) :: r, m, h => by
    unfold bindC
    rw [bindC_out fun w hw => h w (List.mem_cons_of_mem _ hw)]
    split
    · rfl
    · have : x ≠ n := by rintro rfl; exact h v List.mem_cons_self
      simp [this]
theorem bindL_get {kindOf : Str → Option NameKind} {x : Str} {v : Value} : ∀ {P : List Str} {vs : List Value} {i : Nat} {m : Str → Option Value}, P.Nodup → P[i]? = some x → vs[i]? = some v → kindOf x = some .local →
    bindL kindOf (P.zip vs) m x = some v
  | [], _, _, _, _, h, _, _ => by simp at h
  | _ :: _, [], _, _, _, _, h, _ => by simp at h
  | p :: P, w :: vs, 0, m, nd, h1, h2, hk => by
    simp at h1 h2; subst h1; subst h2
    show bindL kindOf ((p, w) :: P.zip vs) m p = _
    unfold bindL
    rw [bindL_out fun v hv => (List.nodup_cons.mp nd).1 (List.of_mem_zip hv).1, if_pos hk]
    simp
  | p :: P, w :: vs, i + 1, m, nd, h1, h2, hk => by
    show bindL kindOf ((p, w) :: P.zip vs) m x = _
    unfold bindL
    exact bindL_get (i := i) (List.nodup_cons.mp nd).2 (by simpa using h1) (by simpa using h2) hk
theorem bindC_get {kindOf : Str → Option NameKind} {x : Str} {v : Value} : ∀ {P : List Str} {vs : List Value} {i : Nat} {m : Str → Option Value}, P.Nodup → P[i]? = some x → vs[i]? = some v → kindOf x ≠ some .local →
    bindC kindOf (P.zip vs) m x = some v
  | [], _, _, _, _, h, _, _ => by simp at h
  | _ :: _, [], _, _, _, _, h, _ => by simp at h
  | p :: P, w :: vs, 0, m, nd, h1, h2, hk => by
    simp at h1 h2; subst h1; subst h2
    show bindC kindOf ((p, w) :: P.zip vs) m p = _
    unfold bindC
    rw [bindC_out fun v hv => (List.nodup_cons.mp nd).1 (List.of_mem_zip hv).1, if_neg hk]
    simp
  | p :: P, w :: vs, i + 1, m, nd, h1, h2, hk => by
    show bindC kindOf ((p, w) :: P.zip vs) m x = _
    unfold bindC
    exact bindC_get (i := i) (List.nodup_cons.mp nd).2 (by simpa using h1) (by simpa using h2) hk
def start (N : List Str) (vs : List V) : St := vs.map some ++ List.replicate (N.length - vs.length) none
def cxOf (CX : CXT) (P : Program) (w : World) (K : PySem.W.Frag) (mg : Str → Option Value) (base : Heap) (N : List Str) (qual : Str) (scope : Scope) (f : Addr) (cd : Value) (A : Around) (outer : List Env) (s : Shared) (H : Hp) (E : XK) : Cx where
  prog := P
  w := w
  K := K
  mg := mg
  base := base
  A := A.deeper (envOfC qual scope s.heap.objs.size f cd)
  N := N
  s₀ := s
  H₀ := H
  env := envOfC qual scope s.heap.objs.size f cd
  outer := outer
  stack := envOfC qual scope s.heap.objs.size f cd :: outer
  ex := []
  calm := true
  fn := fun _ => true
  pn := []
  xe := fun e s' => wpAny (model P w) (A.deeper (envOfC qual scope s.heap.objs.size f cd)) (leaving (envOfC qual scope s.heap.objs.size f cd) e) (fun _ s'' => CX outer H s E e s'') (fun e' s'' => CX outer H s E e' s'') s'
theorem cell_has {sc : Scope} {n : Nat} {x : Str} (h : sc.names.lookup x = some .cell) : ∃ c, (cellsFrom n sc.names []).lookup x = some c := by
  have q := PySem.W.cellsFrom_some sc.names n [] (.inl h)
  exact Option.isSome_iff_exists.mp q
theorem inv_start {CX : CXT} {P : Program} {w : World} {K : PySem.W.Frag} {mg : Str → Option Value} {base : Heap} {N ps : List Str} {qual : Str} {scope : Scope} {f : Addr} {cd : Value} {A : Around} {outer : List Env} {s s1 : Shared} {H : Hp} {E : XK} {us : List Value} {vs : List V}
    (S : FnScope N ps scope) (hd : A.handled = none) (e0 : Env0 P w K mg base A outer s H) (hl : vs.length = ps.length) (r : Vals vs us)
    (x : InCallC s s.heap.objs.size (bindL (envOfC qual scope s.heap.objs.size f cd).kindOf (ps.zip us) fun _ => none) (cellsFrom (s.heap.objs.size + 1) scope.names []) (bindC (envOfC qual scope s.heap.objs.size f cd).kindOf (ps.zip us) fun _ => none) s1) :
    Inv (cxOf CX P w K mg base N qual scope f cd A outer s H E) [] (start N vs) H s1 := by
  have hpl : ps.length ≤ N.length := by have := congrArg List.length S.pre; rw [List.length_take] at this; omega
  obtain ⟨h1, tk, rfl, hk⟩ := x.done
  have noA : ∀ b : Addr, b ∉ (cxOf CX P w K mg base N qual scope f cd A outer s H E).ex := fun b z => absurd (show b ∈ ([] : List Addr) from z) (by simp)
  refine ⟨⟨e0.mod, S.kind, rfl, rfl, Nat.le_refl _, fun y z c h1 h2 => ?_, fun y hy => ?_, fun y c _ h => ?_, fun _ => hd, Around.frames_deeper e0.frames, .inr ⟨rfl, rfl⟩, fun b z => absurd z (noA b), e0.bs, e0.bsz, fun b _ _ => noA b, fun b z => absurd z (noA b), e0.funs, e0.frf⟩,
    rfl, e0.bare, Un.kept hk, ⟨_, x.toInCall.ns, fun i y v h1 h2 h3 => ?_⟩, fun y c h => ⟨_, x.cell y c h⟩, e0.hok.fresh (Nat.le_refl _), fun y c h => ?_, fun p hp => absurd (show p ∈ ([] : List (Addr × Obj)) from hp) (by simp), e0.hok.kept hk, ?_⟩
  · exact name_of_addr x.apart (PySem.mem_of_lookup h1) (PySem.mem_of_lookup h2)
  · have hy : scope.names.lookup y = some .cell ∨ scope.names.lookup y = some .free := hy
    rcases hy with hy | hy
    · exact cell_has hy
    · exact absurd rfl (S.nofree _ (PySem.mem_of_lookup hy))
  · exact Nat.le_of_lt (x.above y c (PySem.mem_of_lookup h))
  · have hi : i < vs.length := by
      unfold start at h2
      by_cases hi : i < vs.length
      · exact hi
      · rw [List.getElem?_append_right (by simpa using hi)] at h2
        rw [List.getElem?_replicate] at h2
        split at h2 <;> cases h2
    have ha : vs[i]? = some v := by
      unfold start at h2
      rw [List.getElem?_append_left (by simpa using hi), List.getElem?_map] at h2
      cases e : vs[i]? with
      | none => rw [e] at h2; cases h2
      | some a => rw [e] at h2; cases h2; rfl
    obtain ⟨u, hu, rv⟩ := r.get ha
    have hp : ps[i]? = some y := by
      rw [← S.pre, List.getElem?_take_of_lt (by omega)]; exact h1
    have ndP : ps.Nodup := by rw [← S.pre]; exact S.nd.sublist (List.take_sublist _ _)
    refine ⟨u, rv, ?_⟩
    rcases S.par y (List.mem_of_getElem? hp) with k | k
    · exact .inl ⟨k, bindL_get ndP hp hu k⟩
    · obtain ⟨c, e⟩ := cell_has (n := s.heap.objs.size + 1) k
      refine .inr ⟨.inl k, c, e, ?_⟩
      have q := x.cell y c e
      rw [bindC_get ndP hp hu (by show scope.names.lookup y ≠ _; rw [k]; decide)] at q
      exact q
  · exact e0.hok.fresh (Nat.le_of_lt (x.above y c (PySem.mem_of_lookup h)))
  · unfold start
    show _ = N.length
    rw [List.length_append, List.length_map, List.length_replicate]
    omega
theorem fn_of {CX : CXT} {P : Program} {w : World} {K : PySem.W.Frag} {mg : Str → Option Value} {base : Heap} {k : Nat} {f : Addr} {name qual : Str} {params : Arguments} {body : List Stmt} {scope : Scope} {dV kV doc pm cdv ct oc : Value} {an od : Option Addr}
    {osl : Array (Option Value)} {N ps : List Str} {sp : Sp} (lk : K.lookup f = some ⟨oc, od, .func (PySem.W.fnOf name qual params body scope dV kV doc pm an cdv ct), osl⟩) (hcd : PySem.W.codeIn K cdv qual = true) (S : FnScope N ps scope)
    (len : ∀ vs H Q E, sp vs H Q E → vs.length = ps.length)
    (hbody : ∀ (A : Around) (outer : List Env) (s : Shared) (H : Hp) (vs : List V) (Q : VK) (E : XK), Room k (A.deeper (envOfC qual scope s.heap.objs.size f cdv)) → sp vs H Q E →
      ∃ t, PSs (cxOf CX P w K mg base N qual scope f cdv A outer s H E) body t ∧ t { nx := fun _ H' => Q .non H', rt := Q } (start N vs) H) :
    FnOk P w K mg base CX (k + 1) f (PySem.W.fnOf name qual params body scope dV kV doc pm an cdv ct) ps sp := by
  refine ⟨len, fun A outer s H args us vs Q E hr e0 hb r hsp => ?_⟩
  have hl := len _ _ _ _ hsp
  have KX : K.In s.heap := e0.mod.kin.keeps fun b o e => (e0.bs b o e).1
  have lim : s.heap.NoLimit := e0.mod.nolimit.keeps fun b o e => (e0.bs b o e).1
  have hkind : ∀ y ∈ ps.zip us, scope.names.lookup y.1 = some .local ∨ (scope.names.lookup y.1 = some .cell ∧ ((cellsFrom (s.heap.objs.size + 1) scope.names []).lookup y.1).isSome = true) := fun ⟨n, v⟩ hy => by
    rcases S.par n (List.of_mem_zip hy).1 with q | q
    · exact .inl q
    · exact .inr ⟨q, PySem.W.cellsFrom_some _ _ _ (.inl q)⟩
  refine codeAny_call_function hr.depth (KX _ _ lk) rfl S.co S.gen rfl (PySem.W.codeRec_of KX hcd) (hb _ _ _ _ ?_)
  refine wpAny_newFunctionEnv_cells S.kind hkind fun env he s1 x => ?_
  subst he
  refine ⟨lim.keeps x.toInCall.keep, codeAny_func ?_⟩
  obtain ⟨t, ht, hq⟩ := hbody A outer s H vs Q E (hr.deeper _) hsp
  have I : Inv (cxOf CX P w K mg base N qual scope f cdv A outer s H E) [] (start N vs) H s1 := inv_start S hr.hd e0 hl r x
  refine wpAny_mono (ht [] s1 (start N vs) H _ I hq) (fun fl s' hs => ?_) fun e s' hs => hs
  have fin : ∀ {σ' : St} {H' : Hp} {v : V} {u : Value}, Inv (cxOf CX P w K mg base N qual scope f cdv A outer s H E) [] σ' H' s' → RelV v u → Q v H' → CE outer P w H s Q u s' :=
    fun {σ' H' v u} J rv q => ⟨v, H', J.os, J.bare, J.base, J.hok, rv, q⟩
  cases fl with
  | ret u =>
    obtain ⟨v, σ', H', J, rv, q⟩ := hs
    exact fin J rv q
  | next =>
    obtain ⟨σ', H', J, q⟩ := hs
    exact fin (v := V.non) (u := Value.none) J rfl q
  | brk =>
    obtain ⟨_, _, _, q⟩ := hs
    exact False.elim q
  | cont =>
    obtain ⟨_, _, _, q⟩ := hs
    exact False.elim q
end L2
namespace L2
open PySem PySem.Spec PyProof.Rows
section
variable {X : Cx} {x : Str} {p pos : Pos} {e : Expr} {es : List Expr} {t : TA} {id T : String} {r : List V → Hp → VK → Prop}
def tCB (r : List V → Hp → VK → Prop) (t : TA) : TE := fun σ H Q => t σ H fun vs H1 => r vs H1 Q
theorem pe_callB (hc : CallR X (.builtin id) r) (hg : Gl X x) (hm : X.mg x = none) (hv : bootBuiltins x = some (.builtin id)) (ha : PA X (e :: es) t) (hn : x ≠ "__name__" := by decide) (hdb : (x == ("__debug__" : Str)) = false := by decide)
    (he : starEach (e :: es) X.env = (false, eval e X.env) :: starEach es X.env := by rfl) (hpl : (backTo pos (starEach es X.env)).any (·.1) = false := by rfl) : PE X (.Call (.Name x p) (e :: es) [] pos) (tCB r t) := by
  intro pins s σ H Q I h
  refine wpAny_Call_Name_kw (ld_blt I hg hm hv ?_ hn hdb)
  exact PyProof.Rows.callWith_builtin1 (thn (ha pos pins s σ H _ I h) fun us s1 ⟨vs, H1, I1, r1, q1⟩ => hc pins s1 σ H1 vs us Q I1 r1 q1) he hpl
theorem pe_callTy (hc : CallR X (.type T) r) (hg : Gl X x) (hm : X.mg x = none) (hv : bootBuiltins x = some (.type T)) (ha : PA X (e :: es) t) (hn : x ≠ "__name__" := by decide) (hdb : (x == ("__debug__" : Str)) = false := by decide)
    (he : starEach (e :: es) X.env = (false, eval e X.env) :: starEach es X.env := by rfl) (hpl : (backTo pos (starEach es X.env)).any (·.1) = false := by rfl) : PE X (.Call (.Name x p) (e :: es) [] pos) (tCB r t) := by
  intro pins s σ H Q I h
  refine wpAny_Call_Name_kw (ld_blt I hg hm hv ?_ hn hdb)
  exact PyProof.Rows.callWith_type1 (thn (ha pos pins s σ H _ I h) fun us s1 ⟨vs, H1, I1, r1, q1⟩ => hc pins s1 σ H1 vs us Q I1 r1 q1) he hpl
end
end L2
namespace HT
open PySem PyProof.Rows
section
open PySem.SeqAt
open PySem.AutoSeq1 (wpAny_loadPart')
open PySem.MeetsSeq PySem.MeetsSeq2 PySem.MeetsSeq3
end
section
variable {prog : Program} {w : World} {A : Around} {E : Value → Shared → Prop} {s : Shared}
def sIx (n d : Nat) : Option Int → Nat
  | none => d
  | some v => if v < 0 then (v + (n : Int)).toNat else min v.toNat n
theorem sIx_none (n d : Nat) : sIx n d none = d := rfl
theorem sIx_nat (n d k : Nat) : sIx n d (some (k : Int)) = min k n := by
  show (if (k : Int) < 0 then ((k : Int) + (n : Int)).toNat else min (k : Int).toNat n) = min k n
  rw [if_neg (by omega), Int.toNat_natCast]
end
end HT
namespace L2
open PySem PySem.Spec PyProof.Rows
abbrev TO := St → Hp → (Option Int → Hp → Prop) → Prop
def PO (X : Cx) (e : Option Expr) (t : TO) : Prop :=
  ∀ (pins : List (Addr × Obj)) (s : Shared) (σ : St) (H : Hp) (Q : Option Int → Hp → Prop), Inv X pins σ H s → t σ H Q →
    wpAny (model X.prog X.w) X.A (evalPart e X.env) (fun u s' => ∃ o H', Inv X pins σ H' s' ∧ IsPart u o ∧ Q o H') X.xe s
def tNoPart : TO := fun _ H Q => Q none H
def tPart (t : TE) : TO := fun σ H Q => t σ H fun x H1 => ∃ i, x = .int i ∧ Q (some i) H1
section
variable {X : Cx} {e : Expr} {te : TE} {lo hi : Option Expr} {tl th : TO} {pos p2 : Pos}
theorem po_none : PO X none tNoPart := by
  intro pins s σ H Q I h
  rw [evalPart_none]
  exact wpAny_pure ⟨none, H, I, .none, h⟩
theorem po_some (h : PE X e te) : PO X (some e) (tPart te) := by
  intro pins s σ H Q I hw
  rw [evalPart_some]
  refine thn (h pins s σ H _ I hw) fun u s1 ⟨x, H1, I1, r1, q1⟩ => ?_
  obtain ⟨i, rfl, q⟩ := q1
  obtain ⟨t, rfl⟩ := r1
  exact ⟨some i, H1, I1, .int i t, q⟩
def SlR (X : Cx) (r : V → Option Int → Option Int → Hp → VK → Prop) : Prop :=
  ∀ (pins : List (Addr × Obj)) (s : Shared) (σ : St) (H : Hp) (x : V) (v vl vu : Value) (lo hi : Option Int) (sl : Addr) (Q : VK), Inv X pins σ H s → RelV x v → s.heap.IsSliceOf sl vl vu .none → IsPart vl lo → IsPart vu hi → r x lo hi H Q →
    ∃ T id, typeLookup (.type T) "__getitem__" = pure (some (.builtin id)) ∧ s.TypeIs v T ∧ wpAny (model X.prog X.w) X.A (getItem v (.ref sl)) (EP X pins σ Q) X.xe s
theorem SlR.or {r r' : V → Option Int → Option Int → Hp → VK → Prop} (h : SlR X r) (h' : SlR X r') : SlR X (fun x lo hi H Q => r x lo hi H Q ∨ r' x lo hi H Q) := by
  intro pins s σ H x v vl vu lo hi sl Q I rx hs pl pu q
  rcases q with q | q
  · exact h pins s σ H x v vl vu lo hi sl Q I rx hs pl pu q
  · exact h' pins s σ H x v vl vu lo hi sl Q I rx hs pl pu q
def tSl (r : V → Option Int → Option Int → Hp → VK → Prop) (te : TE) (tl th : TO) : TE := fun σ H Q => te σ H fun x H1 => tl σ H1 fun l H2 => th σ H2 fun u H3 => r x l u H3 Q
theorem pe_slice {r : V → Option Int → Option Int → Hp → VK → Prop} (hr : SlR X r) (he : PE X e te) (hl : PO X lo tl) (hu : PO X hi th) : PE X (.Subscript e (.Slice lo hi none p2) pos) (tSl r te tl th) := by
  intro pins s σ H Q I h
  refine Subscript_ (thn (he pins s σ H _ I h) fun v s1 ⟨x, H1, I1, r1, q1⟩ => ?_)
  refine wpAny_Slice (thn (hl pins s1 σ H1 _ I1 q1) fun vl s2 ⟨l, H2, I2, pl, q2⟩ => thn (hu pins s2 σ H2 _ I2 q2) fun vu s3 ⟨u, H3, I3, pu, q3⟩ => ?_)
  rw [evalPart_none]
  refine wpAny_pure ?_
  have I4 : Inv X pins σ H3 { s3 with heap := s3.heap.push { cls := .type "slice", data := .fields #[vl, vu, .none] } } := I3.kept (t' := s3.toks) fun b ob q => Heap.get?_push_of_some _ q
  obtain ⟨T, id, hT, ht, hg⟩ := hr pins { s3 with heap := s3.heap.push { cls := .type "slice", data := .fields #[vl, vu, .none] } } σ H3 x v vl vu l u s3.heap.objs.size Q I4 r1 (Heap.IsSliceOf.new ..) pl pu q3
  show wpAny (model X.prog X.w) X.A (subscriptTail e (.Slice lo hi none p2) v (.ref s3.heap.objs.size)) (EP X pins σ Q) X.xe { s3 with heap := s3.heap.push { cls := .type "slice", data := .fields #[vl, vu, .none] } }
  exact tail_any (ops := [.ref s3.heap.objs.size, v]) ht hT hg (by with_unfolding_all rfl)
def cutV (xs : List V) (lo hi : Option Int) : List V := (xs.drop (HT.sIx xs.length 0 lo)).take (HT.sIx xs.length xs.length hi - HT.sIx xs.length 0 lo)
theorem cutV_length (xs : List V) (lo hi : Option Int) : (cutV xs lo hi).length ≤ xs.length := by
  unfold cutV
  rw [List.length_take, List.length_drop]
  omega
end
end L2
namespace L2
open PySem PySem.Spec PyProof.Rows
def ixN (n : Nat) (i : Int) : Option Nat := if 0 ≤ i then (if i < n then some i.toNat else none) else if -(n : Int) ≤ i then some (i + n).toNat else none
def atI {α : Type} (xs : List α) (i : Int) : Option α := (ixN xs.length i).bind fun j => xs[j]?
theorem ixN_seq {n : Nat} {i : Int} {j : Nat} (h : ixN n i = some j) : seqIndex? i n = some j ∧ j < n ∧ -(n : Int) ≤ i ∧ i < n := by
  unfold ixN at h
  by_cases h0 : 0 ≤ i
  · rw [if_pos h0] at h
    by_cases h1 : i < n
    · rw [if_pos h1] at h
      have e : i.toNat = j := Option.some.inj h
      exact ⟨by rw [seqIndex_of h0 h1, e], by omega, by omega, h1⟩
    · rw [if_neg h1] at h; cases h
  · rw [if_neg h0] at h
    by_cases h1 : -(n : Int) ≤ i
    · rw [if_pos h1] at h
      have e : (i + n).toNat = j := Option.some.inj h
      exact ⟨by rw [seqIndex_neg (by omega) h1, e], by omega, h1, by omega⟩
    · rw [if_neg h1] at h; cases h
theorem atI_get {α : Type} {xs : List α} {i : Int} {v : α} (h : atI xs i = some v) : ∃ j, seqIndex? i xs.length = some j ∧ xs[j]? = some v ∧ j < xs.length ∧ -(xs.length : Int) ≤ i ∧ i < xs.length := by
  unfold atI at h
  cases e : ixN xs.length i with
  | none => rw [e] at h; cases h
  | some j =>
    rw [e] at h
    obtain ⟨h1, h2, h3, h4⟩ := ixN_seq e
    exact ⟨j, h1, h, h2, h3, h4⟩
theorem atI_nat {α : Type} {xs : List α} {j : Nat} {v : α} (h : xs[j]? = some v) : atI xs (j : Int) = some v := by
  have hj : j < xs.length := (List.getElem?_eq_some_iff.mp h).1
  have e : ixN xs.length (j : Int) = some j := by
    unfold ixN
    rw [if_pos (by omega), if_pos (by omega)]; simp
  unfold atI; rw [e]; exact h
def PlainIx (b : Expr) : Prop := ∀ o i, subscripted b false o i = operate [o, i] (getItem o i)
def IxR (X : Cx) (r : R2) : Prop :=
  ∀ (value slice : Expr) (pins : List (Addr × Obj)) (s : Shared) (σ : St) (H : Hp) (x y : V) (v u : Value) (Q : VK), Inv X pins σ H s → RelV x v → RelV y u → r x y H Q →
    subscripted slice false v u = operate [v, u] (getItem v u) → wpAny (model X.prog X.w) X.A (subscriptTail value slice v u) (EP X pins σ Q) X.xe s
def MtR (X : Cx) (id : String) (r : V → List V → Hp → VK → Prop) : Prop :=
  ∀ (pins : List (Addr × Obj)) (s : Shared) (σ : St) (H : Hp) (x : V) (xs : List V) (v : Value) (us : List Value) (Q : VK), Inv X pins σ H s → RelV x v → Vals xs us → r x xs H Q →
    wpAny (model X.prog X.w) X.A (call (.builtin id) (v :: us)) (EP X pins σ Q) X.xe s
section
variable {X : Cx} {a b : Expr} {ta tb : TE} {pos : Pos}
theorem IxR.or {r r' : R2} (h : IxR X r) (h' : IxR X r') : IxR X (fun x y H Q => r x y H Q ∨ r' x y H Q) := by
  intro value slice pins s σ H x y v u Q I rx ry q hs
  rcases q with q | q
  · exact h value slice pins s σ H x y v u Q I rx ry q hs
  · exact h' value slice pins s σ H x y v u Q I rx ry q hs
theorem MtR.or {id : String} {r r' : V → List V → Hp → VK → Prop} (h : MtR X id r) (h' : MtR X id r') : MtR X id (fun x xs H Q => r x xs H Q ∨ r' x xs H Q) := by
  intro pins s σ H x xs v us Q I rx rs q
  rcases q with q | q
  · exact h pins s σ H x xs v us Q I rx rs q
  · exact h' pins s σ H x xs v us Q I rx rs q
theorem pe_ix {r : R2} (hr : IxR X r) (ha : PE X a ta) (hb : PE X b tb) (hs : PlainIx b) : PE X (.Subscript a b pos) (tOp r ta tb) := by
  intro pins s σ H Q I h
  exact Subscript_ (binT ha hb I h fun v u s2 x y H2 I2 rx ry q => hr a b pins s2 σ H2 x y v u Q I2 rx ry q (hs _ _))
def rIxL (K : PySem.W.Frag) : R2 := fun x y H Q => ∃ p xs i v, x = .ref p ∧ y = .int i ∧ SqL K H p xs ∧ atI xs i = some v ∧ Q v H
def rIxT (K : PySem.W.Frag) : R2 := fun x y H Q => ∃ p xs i v, x = .ref p ∧ y = .int i ∧ SqT K H p xs ∧ atI xs i = some v ∧ Q v H
theorem ix_list : IxR X (rIxL X.K) := by
  intro value slice pins s σ H x y v u Q I rx ry h hs
  obtain ⟨p, xs, i, z, rfl, rfl, hq, he, q⟩ := h
  cases rx
  obtain ⟨t, rfl⟩ := ry
  obtain ⟨its, r, pl, hz⟩ := I.list hq
  obtain ⟨j, h1, h2, h3, h4, h5⟩ := atI_get he
  obtain ⟨w, ew, rw'⟩ := r.get h2
  have hl := r.length
  have hn := line63
  have fin : EP X pins σ Q w s := ⟨z, H, I, rw', q⟩
  by_cases h0 : 0 ≤ i
  · have hj : i.toNat = j := by
      rw [seqIndex_of h0 h5] at h1
      exact Option.some.inj h1
    exact item_listR pl.isList h0 (by omega) (by rw [hj]; simpa using ew) fin hs
  · have hj : (i + (its.toArray.size : Int)).toNat = j := by
      rw [seqIndex_neg (by omega) h4] at h1
      rw [List.size_toArray, ← hl]
      exact Option.some.inj h1
    exact subscriptTail_builtinR (x := w) pl.isList.typeIs slot_list_getitem.lookup
      (wpAny_getItem_list_neg (Q := fun r s' => r = w ∧ EP X pins σ Q r s') pl.isList (by omega) (by rw [List.size_toArray] <;> omega) (by omega) (by rw [hj]; simpa using ew) ⟨rfl, fin⟩) hs
theorem ix_tup : IxR X (rIxT X.K) := by
  intro value slice pins s σ H x y v u Q I rx ry h hs
  obtain ⟨p, xs, i, z, rfl, rfl, hq, he, q⟩ := h
  cases rx
  obtain ⟨t, rfl⟩ := ry
  obtain ⟨its, r, pl, hz⟩ := I.tuple hq
  obtain ⟨j, h1, h2, h3, h4, h5⟩ := atI_get he
  obtain ⟨w, ew, rw'⟩ := r.get h2
  have hl := r.length
  have hn := line63
  have fin : EP X pins σ Q w s := ⟨z, H, I, rw', q⟩
  exact subscriptTail_builtinR (x := w) pl.typeIs slot_tuple_getitem.lookup
    (getItem_tuple (j := j) (Q := fun r s' => r = w ∧ EP X pins σ Q r s') pl (by omega) (by omega) (by rw [List.size_toArray, ← hl]; exact h1) (by simpa using ew) ⟨rfl, fin⟩) hs
theorem mapSeq_set (its : List Value) (n j : Nat) (u : Value) : Obj.mapSeq (·.setIfInBounds j u) { cls := .type "list", data := .seq its.toArray n } = { cls := .type "list", data := .seq (its.set j u).toArray n } := by
  simp [Obj.mapSeq]
theorem Inv.lst {pins : List (Addr × Obj)} {σ : St} {H : Hp} {s : Shared} {p : Addr} {xs : List V} (I : Inv X pins σ H s) (h : H p = some (.lst xs)) :
    ∃ (its : List Value) (n : Nat), Vals xs its ∧ s.heap.get? p = some { cls := .type "list", data := .seq its.toArray n } ∧ xs.length ≤ sizeLine := by
  obtain ⟨z, its, n, r, e⟩ := I.hok p _ h
  exact ⟨its, n, r, e, z⟩
theorem Inv.lstUpd {pins : List (Addr × Obj)} {σ : St} {H : Hp} {s : Shared} {p : Addr} {xs ys : List V} {its its' : List Value} {n n' : Nat} {f : Obj → Obj} (I : Inv X pins σ H s) (h : H p = some (.lst xs))
    (ho : s.heap.get? p = some { cls := .type "list", data := .seq its.toArray n }) (hf : f { cls := .type "list", data := .seq its.toArray n } = { cls := .type "list", data := .seq its'.toArray n' }) (r : Vals ys its') (hz : ys.length ≤ sizeLine) (t : Nat) :
    Inv X pins σ (upd H p (.lst ys)) { s with heap := s.heap.update p f, toks := t } := by
  have e : (s.heap.update p f).get? p = some { cls := .type "list", data := .seq its'.toArray n' } := by
    rw [Heap.get?_update_self f ho (by rw [hf] <;> rfl), hf]
  refine I.write (x := p) (e := p) (by rw [h]; trivial) (.inl rfl) (fun b u hb q => (Heap.get?_update_other _ _ (Ne.symm hb)).trans q) ⟨_, e⟩ ?_
  exact ⟨hz, its', n', r, e⟩
def rSetL : V → V → V → Hp → (Hp → Prop) → Prop := fun o i v H Q => ∃ p xs k j, o = .ref p ∧ i = .int k ∧ H p = some (.lst xs) ∧ ixN xs.length k = some j ∧ Q (upd H p (.lst (xs.set j v)))
theorem set_list : PSet X rSetL := by
  intro pins s σ H o i v ov iv u Q I ro ri rv h
  obtain ⟨p, xs, k, j, rfl, rfl, hp, hj, q⟩ := h
  cases ro
  obtain ⟨t, rfl⟩ := ri
  obtain ⟨its, n, r, ho, hz⟩ := I.lst hp
  obtain ⟨h1, h2, h3, h4⟩ := ixN_seq hj
  have hl := r.length
  have hn := line63
  have I' : Inv X pins σ (upd H p (.lst (xs.set j v))) { s with heap := s.heap.update p (Obj.mapSeq (·.setIfInBounds j u)) } :=
    I.lstUpd hp ho (mapSeq_set its n j u) (r.set rv j) (by rw [List.length_set]; exact hz) s.toks
  by_cases h0 : 0 ≤ k
  · have hk : k.toNat = j := by
      rw [seqIndex_of h0 h4] at h1
      exact Option.some.inj h1
    exact PySem.W.ki_setAt ho h0 (by omega) (by rw [List.size_toArray, ← hl]; exact h4) (by rw [hk]; exact ⟨_, I', q⟩)
  · have hk : (k + (its.toArray.size : Int)).toNat = j := by
      rw [seqIndex_neg (by omega) h3] at h1
      rw [List.size_toArray, ← hl]
      exact Option.some.inj h1
    exact PySem.W.ki_setBack ho (by omega) (by rw [List.size_toArray, ← hl]; exact h3) (by omega) (by rw [hk]; exact ⟨_, I', q⟩)
theorem slice_bounds (lo hi : Option Int) (n : Nat) : (sliceBounds lo hi none n).1 = ((HT.sIx n 0 lo : Nat) : Int) ∧ (sliceBounds lo hi none n).2.1 = ((HT.sIx n n hi : Nat) : Int) ∧ (sliceBounds lo hi none n).2.2 = 1 := by
  refine ⟨?_, ?_, rfl⟩
  · cases lo with
    | none => simp [sliceBounds, HT.sIx]
    | some i =>
      simp only [sliceBounds, HT.sIx, Option.getD_none, show (1 : Int) > 0 by decide, if_true]
      by_cases h : i < 0
      · simp only [h, if_true] <;> omega
      · simp only [h, if_false] <;> omega
  · cases hi with
    | none => simp [sliceBounds, HT.sIx]
    | some i =>
      simp only [sliceBounds, HT.sIx, Option.getD_none, show (1 : Int) > 0 by decide, if_true]
      by_cases h : i < 0
      · simp only [h, if_true] <;> omega
      · simp only [h, if_false] <;> omega
theorem slicePick_cut (its : List Value) (lo hi : Option Int) : slicePick its.toArray lo hi none = ((its.drop (HT.sIx its.length 0 lo)).take (HT.sIx its.length its.length hi - HT.sIx its.length 0 lo)).toArray := by
  obtain ⟨h1, h2, h3⟩ := slice_bounds lo hi its.toArray.size
  unfold slicePick
  rw [h1, h2, h3]
  simp only [sliceRange_one, pick_run, List.size_toArray] <;> rfl
def flatV : V → Bool
  | .non => true
  | .bl _ => true
  | .int _ => true
  | .str _ => true
  | _ => false
def eqV : V → V → Bool
  | .non, .non => true
  | .bl a, .bl b => a == b
  | .bl a, .int b => (if a then 1 else 0) == b
  | .int a, .bl b => a == (if b then 1 else 0)
  | .int a, .int b => a == b
  | .str a, .str b => a == b
  | _, _ => false
def inV (x : V) (xs : List V) : Bool := xs.any fun y => eqV y x
theorem call_len_seq : CallR X (.builtin "len") (fun xs H Q => ∃ p ys, xs = [.ref p] ∧ (SqL X.K H p ys ∨ SqT X.K H p ys) ∧ Q (.int ys.length) H) := by
  intro pins s σ H xs us Q I r h
  obtain ⟨p, ys, rfl, hq, q⟩ := h
  obtain ⟨u, rfl, rx⟩ := vals1 r
  cases rx
  have hn := line63
  rcases hq with hq | hq
  · obtain ⟨its, r', pl, hz⟩ := I.list hq
    have hlen := r'.length
    exact Calls.call_len_list pl.isList (by simp only [List.size_toArray] <;> omega) ⟨.int ys.length, H, I.tok _, ⟨s.toks + 1, by rw [List.size_toArray, hlen]⟩, q⟩
  · obtain ⟨its, r', pl, hz⟩ := I.tuple hq
    have hlen := r'.length
    exact len_tuple pl (by simp only [List.size_toArray] <;> omega) ⟨.int ys.length, H, I.tok _, ⟨s.toks + 1, by rw [List.size_toArray, hlen]⟩, q⟩
theorem CallR.or {f : Value} {r r' : List V → Hp → VK → Prop} (h : CallR X f r) (h' : CallR X f r') : CallR X f (fun xs H Q => r xs H Q ∨ r' xs H Q) := by
  intro pins s σ H xs us Q I rs q
  rcases q with q | q
  · exact h pins s σ H xs us Q I rs q
  · exact h' pins s σ H xs us Q I rs q
theorem call_list_of : CallR X (.type "list") (fun xs H Q => ∃ p ys, xs = [.ref p] ∧ (SqL X.K H p ys ∨ SqT X.K H p ys) ∧ ∀ l, H l = none → Q (.ref l) (upd H l (.lst ys))) := by
  intro pins s σ H xs us Q I r h
  obtain ⟨p, ys, rfl, hq, q⟩ := h
  obtain ⟨u, rfl, rx⟩ := vals1 r
  cases rx
  have fin : ∀ (its : List Value), Vals ys its → ys.length ≤ sizeLine → ∀ (h' : Heap) (c' : Nat), (∀ b o', s.heap.get? b = some o' → h'.get? b = some o') →
      h'.get? s.heap.objs.size = some { cls := .type "list", dict := none, data := .seq its.toArray c', slots := #[] } → EP X pins σ Q (.ref s.heap.objs.size) { s with heap := h' } := fun its r' hz h' c' kp e =>
    ⟨.ref s.heap.objs.size, _, I.laid (t' := s.toks) kp (Nat.le_refl _) (show ObjOk X.prog X.w _ h' _ (.lst ys) from ⟨hz, its, c', r', e⟩), rfl, q _ (I.hok.fresh (Nat.le_refl _))⟩
  rcases hq with hq | hq
  · obtain ⟨its, r', pl, hz⟩ := I.list hq
    have hlen := r'.length
    obtain ⟨o, ho, hc, n, hd⟩ := pl.isList
    exact call_list_seq p (.inl rfl) ho hc hd (fun h' c' kp e => fin its r' hz h' c' kp e) (by simp only [List.size_toArray] <;> omega)
  · obtain ⟨its, r', pl, hz⟩ := I.tuple hq
    have hlen := r'.length
    obtain ⟨o, ho, hc, n, hd⟩ := pl
    exact call_list_seq p (.inr rfl) ho hc hd (fun h' c' kp e => fin its r' hz h' c' kp e) (by simp only [List.size_toArray] <;> omega)
def tyV (K : PySem.W.Frag) (T : String) (x : V) (H : Hp) : Prop := match x with
  | .str _ => T = "str"
  | .int _ => T = "int"
  | .ref p => (T = "list" ∧ ∃ xs, SqL K H p xs) ∨ (T = "tuple" ∧ ∃ o, K.lookup p = some o ∧ o.cls = .type "tuple" ∧ o.dict = none) ∨
      (T = "dict" ∧ ((∃ kvs, H p = some (.dK kvs)) ∨ ∃ kvs, H p = some (.dT kvs))) ∨ (T = "set" ∧ ∃ S n, H p = some (.set S n))
  | _ => False
theorem tyV_is {pins : List (Addr × Obj)} {σ : St} {H : Hp} {s : Shared} {T : String} {x : V} {v : Value} (I : Inv X pins σ H s) (r : RelV x v) (ty : tyV X.K T x H) :
    s.TypeIs v T ∧ ∀ a, v = .ref a → ∃ ob, s.heap.get? a = some ob ∧ ob.dict = none := by
  cases x with
  | str z =>
    obtain ⟨t, rfl⟩ := r
    cases (show T = "str" from ty)
    exact ⟨typeIs_str s z t, fun _ e => nomatch e⟩
  | int i =>
    obtain ⟨t, rfl⟩ := r
    cases (show T = "int" from ty)
    exact ⟨typeIs_int s i t, fun _ e => nomatch e⟩
  | ref p =>
    cases r
    rcases ty with ⟨rfl, xs, hq⟩ | ⟨rfl, o, hk, hc, hd⟩ | ⟨rfl, hk⟩ | ⟨rfl, S, n, hk⟩
    · obtain ⟨its, _, pl, _⟩ := I.list hq
      refine ⟨pl.isList.typeIs, fun a e => ?_⟩
      cases e
      obtain ⟨o, n, e, c, hd, _⟩ := pl
      exact ⟨o, e, hd⟩
    · refine ⟨⟨o, I.kIn p o hk, hc⟩, fun a e => ?_⟩
      cases e
      exact ⟨o, I.kIn _ o hk, hd⟩
    · have z : ∃ o, s.heap.get? p = some o ∧ o.ExactDict := by
        rcases hk with ⟨kvs, hk⟩ | ⟨kvs, hk⟩
        · obtain ⟨_, _, _, _, o, _, _, e, ex, _⟩ := I.hok p _ hk
          exact ⟨o, e, ex⟩
        · obtain ⟨_, _, _, _, o, _, _, e, ex, _⟩ := I.hok p _ hk
          exact ⟨o, e, ex⟩
      obtain ⟨o, e, ex⟩ := z
      refine ⟨⟨o, e, ex.1⟩, fun a e2 => ?_⟩
      cases e2
      exact ⟨o, e, ex.2.1⟩
    · obtain ⟨o, _, _, _, e, ex, _⟩ := I.hok p _ hk
      refine ⟨⟨o, e, ex.1⟩, fun a e2 => ?_⟩
      cases e2
      exact ⟨o, e, ex.2.1⟩
  | _ => exact False.elim ty
def tBM (K : PySem.W.Frag) (T : String) (r : V → List V → Hp → VK → Prop) (to : TE) (t : TA) : TE := fun σ H Q => to σ H fun x H1 => tyV K T x H1 ∧ t σ H1 fun xs H2 => r x xs H2 Q
variable {o e : Expr} {es : List Expr} {to : TE} {t : TA} {name : Str} {apos cpos : Pos} {T id : String} {r : V → List V → Hp → VK → Prop}
theorem pe_bm (pa : PlainAttrs T) (slot : Slot T name id) (hty : typeOf (.builtin id) = pure (.type "method_descriptor")) (hm : MtR X id r) (ho : PE X o to) (ha : PA X (e :: es) t)
    (hbase : attributeBase o name X.env (eval o X.env) = eval o X.env := by rfl)
    (hfew : ((backTo cpos (starEach (e :: es) X.env)).all (fun x => !x.1) && (backToKw cpos (keywordEach [] X.env)).all (fun x => x.1.isSome)
      && decide ((e :: es).length + ([] : List Keyword).length + (if ([] : List Keyword).isEmpty then 0 else 1) < 30)) = true := by rfl)
    (hline : (apos.endLine == cpos.line) = true := by rfl) (hs : starEach (e :: es) X.env = (false, eval e X.env) :: starEach es X.env := by rfl) (hplain : (backTo cpos (starEach es X.env)).any (·.1) = false := by rfl) :
    PE X (.Call (.Attribute o name apos) (e :: es) [] cpos) (tBM X.K T r to t) := by
  intro pins s σ H Q I h
  refine wpAny_Call_method_late hbase hfew hline rfl (thn (ho pins s σ H _ I h) fun v s1 ⟨x, H1, I1, r1, ty, q1⟩ => ?_)
  obtain ⟨h1, h2⟩ := tyV_is I1 r1 ty
  refine ⟨T, id, pa, slot, hty, h1, h2, ?_⟩
  have hA := ha cpos pins s1 σ H1 _ I1 q1
  rw [hs] at hA ⊢
  refine Calls.callWith_builtin (by show (false || (backTo cpos (starEach es X.env)).any (·.1)) = false; rw [hplain] <;> rfl) (Calls.evalArgs_plain ?_)
  exact thn hA fun us s2 ⟨vs, H2, I2, r2, q2⟩ => hm pins s2 σ H2 x vs v us Q I2 r1 r2 q2
end
end L2
namespace L2
open PySem PySem.Spec PyProof.Rows
def MtM (X : Cx) (id : String) (r : V → List V → Hp → VK → Prop) : Prop :=
  ∀ (pins : List (Addr × Obj)) (s : Shared) (σ : St) (H : Hp) (x : V) (xs : List V) (v : Value) (us : List Value) (Q : VK), Inv X pins σ H s → RelV x v → Vals xs us → r x xs H Q →
    wpAny (model X.prog X.w) X.A (call (.builtin id) (v :: us)) (EP X pins σ Q) X.xe s
theorem Vals.one : ∀ {x : V} {us : List Value}, Vals [x] us → ∃ u, us = [u] ∧ RelV x u
  | _, _, .cons r .nil => ⟨_, rfl, r⟩
theorem Vals.zero : ∀ {us : List Value}, Vals [] us → us = []
  | _, .nil => rfl
theorem Vals.eraseIdx : ∀ {xs : List V} {us : List Value} (i : Nat), Vals xs us → Vals (xs.eraseIdx i) (us.eraseIdx i)
  | _, _, _, .nil => .nil
  | _, _, 0, .cons _ t => t
  | _, _, i + 1, .cons r t => .cons r (Vals.eraseIdx i t)
section
variable {X : Cx} {pins : List (Addr × Obj)} {σ : St} {H : Hp} {s : Shared} {l b : Addr} {xs ys zs : List V}
theorem Inv.lset {its its' : List Value} {n : Nat} {f : Array Value → Array Value} {t' : Nat} (I : Inv X pins σ H s) (hH : H l = some (.lst xs))
    (e : s.heap.get? l = some { cls := .type "list", data := .seq its.toArray n }) (hf : f its.toArray = its'.toArray) (hv : Vals ys its') (hz : ys.length ≤ sizeLine) :
    Inv X pins σ (upd H l (.lst ys)) { s with heap := s.heap.update l (Obj.mapSeq f), toks := t' } := by
  have q := PySem.IsL.update e f
  rw [hf] at q
  refine I.write (x := l) (e := l) (by rw [hH]; exact trivial) (.inl rfl) (fun b' u hb hu => (Heap.get?_update_other s.heap (Obj.mapSeq f) (Ne.symm hb)).trans hu) ⟨_, q⟩ ?_
  exact ⟨hz, its', _, hv, q⟩
theorem Inv.lnew {its : List Value} {t' : Nat} (I : Inv X pins σ H s) (hv : Vals ys its) (hz : ys.length ≤ sizeLine) :
    Inv X pins σ (upd H s.heap.objs.size (.lst ys)) { s with heap := s.heap.push { cls := .type "list", data := .seq its.toArray }, toks := t' } :=
  I.laid (fun _ _ q => Heap.get?_push_of_some _ q) (Nat.le_refl _) ⟨hz, its, 0, hv, Heap.get?_push_size _ rfl⟩
theorem Inv.fresh (I : Inv X pins σ H s) : H s.heap.objs.size = none := I.hok.fresh (Nat.le_refl _)
theorem Inv.lstM (I : Inv X pins σ H s) (hH : H l = some (.lst xs)) : xs.length ≤ sizeLine ∧ ∃ (its : List Value) (n : Nat), Vals xs its ∧ xs.length = its.length ∧ s.heap.get? l = some { cls := .type "list", data := .seq its.toArray n } := by
  obtain ⟨z, its, n, r, e⟩ := I.hok l _ hH
  exact ⟨z, its, n, r, r.length, e⟩
end
section
variable {X : Cx}
def rAppend : V → List V → Hp → VK → Prop := fun x vs H Q => ∃ l xs y, x = .ref l ∧ vs = [y] ∧ H l = some (.lst xs) ∧ xs.length < sizeLine ∧ Q .non (upd H l (.lst (xs ++ [y])))
theorem mt_append : MtM X "list.append" rAppend := by
  intro pins s σ H x vs v us Q I rx rv h
  obtain ⟨l, xs, y, rfl, rfl, hH, hz, q⟩ := h
  cases rx
  obtain ⟨u, rfl, ru⟩ := rv.one
  obtain ⟨z, its, n, r, hl, e⟩ := I.lstM hH
  refine call_meets F.slot_list_append ⟨_, e, rfl⟩ F.entry_list_append (F.args_list_append_2 _ _) (PySem.list_append l its.toArray n u (by rw [List.size_toArray]; omega)) ⟨e, ?_⟩
  refine ⟨.non, _, I.lset (its' := its ++ [u]) hH e (by simp) (r.append (.cons ru .nil)) ?_, rfl, q⟩
  rw [List.length_append, List.length_singleton]
  omega
end
section
variable {prog : Program} {w : World} {A : Around} {E : Value → Shared → Prop} {s : Shared}
end
section
variable {X : Cx}
end
end L2
namespace L2
open PySem PySem.Spec PyProof.Rows
section
variable {κ : Type} [DecidableEq κ]
def valV (kvs : List (κ × V)) (k : κ) : Option V := (kvs.find? fun kv => decide (kv.1 = k)).map (·.2)
def putK (kvs : List (κ × V)) (k : κ) (v : V) : List (κ × V) :=
  if (kvs.any fun kv => decide (kv.1 = k)) = true then kvs.map (fun kv => if kv.1 = k then (kv.1, v) else kv) else kvs ++ [(k, v)]
def dropK (kvs : List (κ × V)) (k : κ) : List (κ × V) := kvs.filter fun kv => decide (kv.1 ≠ k)
theorem valV_pos {p : κ × V} {r : List (κ × V)} {k : κ} (e : p.1 = k) : valV (p :: r) k = some p.2 := by simp [valV, List.find?_cons, e]
theorem valV_neg {p : κ × V} {r : List (κ × V)} {k : κ} (e : ¬ p.1 = k) : valV (p :: r) k = valV r k := by simp [valV, List.find?_cons, e]
theorem valV_any (k : κ) : ∀ kvs : List (κ × V), (kvs.any fun kv => decide (kv.1 = k)) = (valV kvs k).isSome
  | [] => rfl
  | p :: r => by
    rw [List.any_cons]
    by_cases e : p.1 = k
    · simp only [valV_pos e, decide_eq_true e, Bool.true_or, Option.isSome_some]
    · rw [valV_neg e, decide_eq_false e, Bool.false_or]; exact valV_any k r
theorem length_putK (kvs : List (κ × V)) (k : κ) (v : V) : (putK kvs k v).length ≤ kvs.length + 1 := by
  unfold putK
  split
  · rw [List.length_map]; omega
  · rw [List.length_append, List.length_cons, List.length_nil]; omega
theorem putK_new {kvs : List (κ × V)} {k : κ} (v : V) (h : valV kvs k = none) : putK kvs k v = kvs ++ [(k, v)] := by
  unfold putK
  rw [valV_any, h]
  exact if_neg (by decide)
theorem RelO.isSome_eq {o : Option V} {u : Option Value} (r : RelO o u) : o.isSome = u.isSome := by
  cases o with
  | none => cases u with
    | none => rfl
    | some _ => exact (show False from r).elim
  | some _ => cases u with
    | none => exact (show False from r).elim
    | some _ => rfl
theorem RelO.getD {o : Option V} {u : Option Value} {d : V} {d' : Value} (r : RelO o u) (rd : RelV d d') : RelV (o.getD d) (u.getD d') := by
  cases o with
  | none => cases u with
    | none => exact rd
    | some _ => exact (show False from r).elim
  | some _ => cases u with
    | none => exact (show False from r).elim
    | some _ => exact r
theorem KV.val {kvs : List (κ × V)} {vs : List (κ × Value)} (r : KV kvs vs) (k : κ) : RelO (valV kvs k) (valueAt vs k) := by
  unfold KV at r
  induction r with
  | nil => exact True.intro
  | @cons p q ps qs h t ih =>
    obtain ⟨h1, h2⟩ := h
    by_cases e : p.1 = k
    · have e' : q.1 = k := h1.symm.trans e
      have b : valueAt (q :: qs) k = some q.2 := by simp [valueAt, List.find?_cons, e']
      rw [valV_pos e, b]; exact h2
    · have e' : ¬ q.1 = k := fun z => e (h1.trans z)
      have b : valueAt (q :: qs) k = valueAt qs k := by simp [valueAt, List.find?_cons, e']
      rw [valV_neg e, b]; exact ih
theorem KV.any {kvs : List (κ × V)} {vs : List (κ × Value)} (r : KV kvs vs) (k : κ) : (kvs.any fun kv => decide (kv.1 = k)) = vs.any fun kv => decide (kv.1 = k) := by
  unfold KV at r
  induction r with
  | nil => rfl
  | cons h t ih => rw [List.any_cons, List.any_cons, ih, h.1]
theorem KV.repl {kvs : List (κ × V)} {vs : List (κ × Value)} (r : KV kvs vs) (k : κ) {y : V} {u : Value} (ry : RelV y u) :
    KV (kvs.map fun kv => if kv.1 = k then (kv.1, y) else kv) (vs.map fun kv => if kv.1 = k then (kv.1, u) else kv) := by
  unfold KV at r ⊢
  induction r with
  | nil => exact .nil
  | @cons p q ps qs h t ih =>
    rw [List.map_cons, List.map_cons]
    refine .cons ?_ ih
    obtain ⟨h1, h2⟩ := h
    by_cases e : p.1 = k
    · rw [if_pos e, if_pos (h1.symm.trans e)]; exact ⟨h1, ry⟩
    · rw [if_neg e, if_neg (fun z => e (h1.trans z))]; exact ⟨h1, h2⟩
theorem KV.put {kvs : List (κ × V)} {vs : List (κ × Value)} (r : KV kvs vs) (k : κ) {y : V} {u : Value} (ry : RelV y u) : KV (putK kvs k y) (stored vs k u) := by
  unfold putK stored
  rw [r.any k]
  by_cases e : (vs.any fun kv => decide (kv.1 = k)) = true
  · rw [if_pos e, if_pos e]; exact r.repl k ry
  · rw [if_neg e, if_neg e]; exact Paired.snoc r ⟨rfl, ry⟩
theorem KV.drop {kvs : List (κ × V)} {vs : List (κ × Value)} (r : KV kvs vs) (k : κ) : KV (dropK kvs k) (without vs k) := by
  unfold KV at r ⊢
  unfold dropK without
  induction r with
  | nil => exact .nil
  | @cons p q ps qs h t ih =>
    obtain ⟨h1, h2⟩ := h
    rw [List.filter_cons, List.filter_cons]
    by_cases e : p.1 = k
    · have a : ¬ decide (p.1 ≠ k) = true := by simp [e]
      have b : ¬ decide (q.1 ≠ k) = true := by simp [h1.symm.trans e]
      rw [if_neg a, if_neg b]; exact ih
    · have e' : ¬ q.1 = k := fun z => e (h1.trans z)
      have a : decide (p.1 ≠ k) = true := by simp [e]
      have b : decide (q.1 ≠ k) = true := by simp [e']
      rw [if_pos a, if_pos b]; exact .cons ⟨h1, h2⟩ ih
theorem KV.keys {kvs : List (κ × V)} {vs : List (κ × Value)} (r : KV kvs vs) : kvs.map (·.1) = vs.map (·.1) := by
  unfold KV at r
  induction r with
  | nil => rfl
  | cons h t ih => rw [List.map_cons, List.map_cons, ih, h.1]
theorem KV.length {kvs : List (κ × V)} {vs : List (κ × Value)} (r : KV kvs vs) : kvs.length = vs.length := Paired.length r
end
theorem kV_is {P : Program} {w : World} {k : Key} {u : Value} (r : RelV (kV k) u) : (mixKind P w).is k u = true := by
  cases k with
  | inl i => obtain ⟨t, e⟩ := (show ∃ t, u = Value.int i t from r); subst e; exact mixKind_int P w i t
  | inr x => obtain ⟨t, e⟩ := (show ∃ t, u = Value.str x t from r); subst e; exact mixKind_str P w x t
theorem items_are {P : Program} {w : World} : ∀ {ks : List Key} {us : List Value}, Vals (ks.map kV) us → ItemsAre (mixKind P w) ks us
  | [], _, r => by rw [List.map_nil] at r; cases r; exact .nil
  | k :: ks, _, r => by
    rw [List.map_cons] at r
    cases r with
    | cons h t => exact .cons (kV_is h) (items_are t)
abbrev KT (H : Hp) : List (List Key × V) → List (List Key × Addr × Value) → Prop := Paired fun p q => p.1 = q.1 ∧ H q.2.1 = some (.tup (p.1.map kV)) ∧ RelV p.2 q.2.2
theorem KT.val {H : Hp} {kvs : List (List Key × V)} {xs : List (List Key × Addr × Value)} (r : KT H kvs xs) (k : List Key) : RelO (valV kvs k) ((atKey xs k).map (·.2)) := by
  induction r with
  | nil => exact True.intro
  | @cons p q ps qs h t ih =>
    obtain ⟨h1, _, h2⟩ := h
    by_cases e : p.1 = k
    · have e' : q.1 = k := h1.symm.trans e
      have b : atKey (q :: qs) k = some q.2 := by simp [atKey, List.find?_cons, e']
      rw [valV_pos e, b]; exact h2
    · have e' : ¬ q.1 = k := fun z => e (h1.trans z)
      have b : atKey (q :: qs) k = atKey qs k := by simp [atKey, List.find?_cons, e']
      rw [valV_neg e, b]; exact ih
theorem KT.repl {H : Hp} {kvs : List (List Key × V)} {xs : List (List Key × Addr × Value)} (r : KT H kvs xs) (k : List Key) {y : V} {u : Value} (ry : RelV y u) :
    KT H (kvs.map fun kv => if kv.1 = k then (kv.1, y) else kv) (xs.map (putAt k u)) := by
  induction r with
  | nil => exact .nil
  | @cons p q ps qs h t ih =>
    rw [List.map_cons, List.map_cons]
    refine .cons ?_ ih
    obtain ⟨h1, h2, h3⟩ := h
    unfold putAt
    by_cases e : p.1 = k
    · rw [if_pos e, if_pos (h1.symm.trans e)]; exact ⟨h1, h2, ry⟩
    · rw [if_neg e, if_neg (fun z => e (h1.trans z))]; exact ⟨h1, h2, h3⟩
theorem KT.put {H : Hp} {kvs : List (List Key × V)} {xs : List (List Key × Addr × Value)} (r : KT H kvs xs) (k : List Key) {b : Addr} {y : V} {u : Value} (hb : H b = some (.tup (k.map kV))) (ry : RelV y u) :
    KT H (putK kvs k y) (storedH xs k b u) := by
  have e : (kvs.any fun kv => decide (kv.1 = k)) = (atKey xs k).isSome := by
    rw [valV_any, (r.val k).isSome_eq, Option.isSome_map]
  unfold putK storedH
  rw [e]
  by_cases q : (atKey xs k).isSome = true
  · rw [if_pos q, if_pos q]; exact r.repl k ry
  · rw [if_neg q, if_neg q]; exact Paired.snoc r ⟨rfl, hb, ry⟩
theorem KT.keeps {H H' : Hp} {kvs : List (List Key × V)} {xs : List (List Key × Addr × Value)} (r : KT H kvs xs) (ht : ∀ b ys, H b = some (.tup ys) → H' b = some (.tup ys)) : KT H' kvs xs :=
  Paired.mapP r fun _ _ z => ⟨z.1, ht _ _ z.2.1, z.2.2⟩
section
variable {P : Program} {w : World} {H : Hp} {h : Heap} {a : Addr}
theorem rd_of {u : HO} (ok : HOk P w H h) (e : Rd H a u) : ObjOk P w H h a u := e.ok ok
theorem dk_rd {kvs : List (Key × V)} (ok : HOk P w H h) (e : Rd H a (.dK kvs)) : kvs.length ≤ sizeLine ∧ (a == sysModules) = false ∧ ∃ vs, KV kvs vs ∧ h.DictOf (mixKind P w) a vs :=
  show ObjOk P w H h a (.dK kvs) from rd_of ok e
theorem dk_of {kvs : List (Key × V)} (ok : HOk P w H h) (e : H a = some (.dK kvs)) : kvs.length ≤ sizeLine ∧ (a == sysModules) = false ∧ ∃ vs, KV kvs vs ∧ h.DictOf (mixKind P w) a vs := dk_rd ok (.inl e)
theorem key_of {ks : List Key} (ok : HOk P w H h) (e : H a = some (.tup (ks.map kV))) : (tupleKind (mixKind P w)).is h ks a := by
  obtain ⟨_, its, r, o, h1, h2, n, h3⟩ := (show ObjOk P w H h a (.tup (ks.map kV)) from ok a _ e)
  exact ⟨o, its.toArray, n, h1, h2, h3, by simpa using items_are r⟩
theorem dt_rd {kvs : List (List Key × V)} (ok : HOk P w H h) (e : Rd H a (.dT kvs)) : kvs.length ≤ sizeLine ∧ (a == sysModules) = false ∧
    ∃ xs, KT H kvs xs ∧ h.DictOfH (tupleKind (mixKind P w)) a xs := by
  obtain ⟨z, y, xs, r, o, es, ep, h1, h2, h3, h4, h5⟩ := (show ObjOk P w H h a (.dT kvs) from rd_of ok e)
  refine ⟨z, y, xs, r, o, es, ep, h1, h2, h3, h4, fun x hx => ?_, h5⟩
  have all : ∀ {l : List (List Key × V)} {m : List (List Key × Addr × Value)}, KT H l m → ∀ x ∈ m, (tupleKind (mixKind P w)).is h x.1 x.2.1 := by
    intro l m q
    induction q with
    | nil => intro x hx; exact nomatch hx
    | @cons p q ps qs hq t ih =>
      intro x hx
      rcases List.mem_cons.mp hx with e | hx
      · subst e
        exact key_of ok (by rw [← hq.1]; exact hq.2.1)
      · exact ih x hx
  exact all r x hx
theorem dt_of {kvs : List (List Key × V)} (ok : HOk P w H h) (e : H a = some (.dT kvs)) : kvs.length ≤ sizeLine ∧ (a == sysModules) = false ∧
    ∃ xs, KT H kvs xs ∧ h.DictOfH (tupleKind (mixKind P w)) a xs := dt_rd ok (.inl e)
end
def DGet (H : Hp) (a : Addr) (y : V) (r : Option V) : Prop :=
  (∃ kvs k, Rd H a (.dK kvs) ∧ y = kV k ∧ r = valV kvs k) ∨ ∃ kvs k b, Rd H a (.dT kvs) ∧ y = .ref b ∧ H b = some (.tup (k.map kV)) ∧ r = valV kvs k
def DPut (H : Hp) (a : Addr) (y v : V) (H' : Hp) : Prop :=
  (∃ kvs k, H a = some (.dK kvs) ∧ y = kV k ∧ kvs.length < sizeLine ∧ H' = upd H a (.dK (putK kvs k v))) ∨
  ∃ kvs k b, H a = some (.dT kvs) ∧ y = .ref b ∧ H b = some (.tup (k.map kV)) ∧ kvs.length < sizeLine ∧ H' = upd H a (.dT (putK kvs k v))
theorem DGet.k {H : Hp} {a : Addr} {kvs : List (Key × V)} {k : Key} (e : H a = some (.dK kvs)) : DGet H a (kV k) (valV kvs k) := .inl ⟨kvs, k, .inl e, rfl, rfl⟩
theorem DGet.t {H : Hp} {a b : Addr} {kvs : List (List Key × V)} {k : List Key} (e : H a = some (.dT kvs)) (eb : H b = some (.tup (k.map kV))) : DGet H a (.ref b) (valV kvs k) := .inr ⟨kvs, k, b, .inl e, rfl, eb, rfl⟩
theorem DPut.k {H : Hp} {a : Addr} {kvs : List (Key × V)} {k : Key} {v : V} (e : H a = some (.dK kvs)) (hl : kvs.length < sizeLine) : DPut H a (kV k) v (upd H a (.dK (putK kvs k v))) := .inl ⟨kvs, k, e, rfl, hl, rfl⟩
theorem DPut.t {H : Hp} {a b : Addr} {kvs : List (List Key × V)} {k : List Key} {v : V} (e : H a = some (.dT kvs)) (eb : H b = some (.tup (k.map kV))) (hl : kvs.length < sizeLine) :
    DPut H a (.ref b) v (upd H a (.dT (putK kvs k v))) := .inr ⟨kvs, k, b, e, rfl, eb, hl, rfl⟩
section
variable {X : Cx} {pins : List (Addr × Obj)} {σ : St} {H : Hp} {s : Shared} {a : Addr} {y v : V} {u r : Value} {o : Option V} {A : Around} {E : Value → Shared → Prop}
theorem Inv.big (I : Inv X pins σ H s) : sysModules < s.heap.objs.size := by
  have h : mainGlobals < s.heap.objs.size := (I.mod.glob.keeps I.bk).lt
  exact Nat.lt_trans (by decide) h
theorem d_getItem {Q : Value → Shared → Prop} (hu : A.units + 1 < cLine) (I : Inv X pins σ H s) (g : DGet H a y (some v)) (ry : RelV y u) (h : ∀ w' s', Inv X pins σ H s' → RelV v w' → Q w' s') :
    wpAny (model X.prog X.w) A (getItem (.ref a) u) Q E s := by
  rcases g with ⟨kvs, k, e, ey, l⟩ | ⟨kvs, k, b, e, ey, eb, l⟩
  · subst ey
    obtain ⟨z, hd, vs, rel, dd⟩ := dk_rd I.hok e
    obtain ⟨w', hw, rw'⟩ := RelO.some_of (v := v) (o := valueAt vs k) (by rw [l]; exact rel.val k)
    exact wpAny_getItem_of (kV_is ry) dd.mapOf hw (h w' _ (I.tok _) rw')
  · subst ey
    cases (show u = Value.ref b from ry)
    obtain ⟨z, hd, xs, rel, dd⟩ := dt_rd I.hok e
    obtain ⟨w', hw, rw'⟩ := RelO.some_of (v := v) (o := (atKey xs k).map (·.2)) (by rw [l]; exact rel.val k)
    obtain ⟨p, hp, hp2⟩ := Option.map_eq_some_iff.mp hw
    refine wpAny_getItem_heap (tupleKind_room_in1 hu) (key_of I.hok eb) dd hp ?_
    rw [hp2]
    exact h w' _ (I.tok _) rw'
theorem d_write {h' : Heap} {t' : Nat} {ob : HO} (I : Inv X pins σ H s) (mu : Mut (H a)) (hs : Heap.SameBut a s.heap h') (he : ∃ q, h'.get? a = some q) (new : ObjOk X.prog X.w (upd H a ob) h' a ob) :
    Inv X pins σ (upd H a ob) { s with heap := h', toks := t' } :=
  I.write (x := a) (e := a) mu (.inl rfl) (fun b q hb z => (hs.2 b hb).trans z) he new
theorem dk_new {P : Program} {w : World} {H' : Hp} {h' : Heap} {kvs : List (Key × V)} {vs : List (Key × Value)} (z : kvs.length ≤ sizeLine) (hd : (a == sysModules) = false) (rel : KV kvs vs) (dd : h'.DictOf (mixKind P w) a vs) :
    ObjOk P w H' h' a (.dK kvs) := ⟨z, hd, vs, rel, dd⟩
theorem d_setItem {H' : Hp} {Q : Unit → Shared → Prop} (hu : A.units + 1 < cLine) (I : Inv X pins σ H s) (g : DPut H a y v H') (ry : RelV y u) (rv : RelV v r) (h : ∀ s', Inv X pins σ H' s' → Q () s') :
    wpAny (model X.prog X.w) A (setItem (.ref a) u r) Q E s := by
  rcases g with ⟨kvs, k, e, ey, l, eH⟩ | ⟨kvs, k, b, e, ey, eb, l, eH⟩
  · subst ey eH
    obtain ⟨z, hd, vs, rel, dd⟩ := dk_of I.hok e
    have hz : vs.length ≤ sizeLine := by rw [← rel.length]; exact z
    have hl : (putK kvs k v).length ≤ sizeLine := by have := length_putK kvs k v; omega
    refine wpAny_setItem_pairs (hsz := hz) (kV_is ry) dd fun h' dd' hs => h _ ?_
    have he : ∃ q, h'.get? a = some q := let ⟨q, _, _, hq, _⟩ := dd'; ⟨q, hq⟩
    exact d_write I (by rw [e]; exact True.intro) hs he (dk_new hl hd (rel.put k rv) dd')
  · subst ey eH
    cases (show u = Value.ref b from ry)
    obtain ⟨z, hd, xs, rel, dd⟩ := dt_of I.hok e
    have hz : xs.length ≤ sizeLine := by rw [← Paired.length rel]; exact z
    have hl : (putK kvs k v).length ≤ sizeLine := by have := length_putK kvs k v; omega
    refine wpAny_setItem_heap (hsz := hz) (tupleKind_room_in1 hu) (key_of I.hok eb) dd fun h' dd' hs => h _ ?_
    obtain ⟨q, es, ep, hq, h2, h3, h4, _, h5⟩ := dd'
    refine d_write I (by rw [e]; exact True.intro) hs ⟨q, hq⟩ ⟨hl, hd, _, (rel.put k eb rv).keeps fun c ys ec => ?_, q, es, ep, hq, h2, h3, h4, h5⟩
    rw [upd_ne (ne_of ec e (fun z => nomatch z))]
    exact ec
end
section
variable {X : Cx} {pins : List (Addr × Obj)} {σ : St} {H : Hp} {s : Shared} {a : Addr} {kvs : List (Key × V)} {k : Key} {u : Value} {A : Around} {E : Value → Shared → Prop}
end
def NoSl (i : Expr) : Prop := ∀ ov iv, subscripted i false ov iv = operate [ov, iv] (getItem ov iv)
theorem subD_of {prog : Program} {w : World} {A : Around} {E : Value → Shared → Prop} {s : Shared} {env : Env} {value slice : Expr} {pos : Pos} {T id : String} {Q : Value → Shared → Prop}
    (hl : typeLookup (.type T) "__getitem__" = pure (some (.builtin id))) (hs : NoSl slice)
    (h : wpAny (model prog w) A (eval value env) (fun o s₁ => wpAny (model prog w) A (eval slice env) (fun i s₂ => s₂.TypeIs o T ∧ wpAny (model prog w) A (getItem o i) Q E s₂) E s₁) E s) :
    wpAny (model prog w) A (eval (.Subscript value slice pos) env) Q E s := by
  refine Subscript_ (wpAny_mono h (fun o s₁ h₁ => wpAny_mono h₁ (fun i s₂ h₂ => ?_) fun _ _ x => x) fun _ _ x => x)
  obtain ⟨hT, h₂⟩ := h₂
  unfold subscriptTail
  refine wpAny_bind ?_
  rw [getitemInPython_of_ne hT.not_modules]
  refine wpAny_bind (wpAny_specialOf hT hl ?_)
  have fin : wpAny (model prog w) A (subscripted slice false o i) (fun r s₃ => wpAny (model prog w) A (letTemporaryGo value o r >>= fun _ => pure r) Q E s₃) E s₂ := by
    rw [hs o i]
    exact wpAny_operating (wpAny_mono h₂ (fun r s₃ h₃ => wpAny_bind (wpAny_letTemporaryGo (wpAny_pure h₃))) fun _ _ x => x)
  first
    | exact wpAny_pure (wpAny_bind fin)
    | exact wpAny_bind (wpAny_pure (wpAny_bind fin))
    | exact wpAny_bind fin
theorem dict_typeIs {X : Cx} {pins : List (Addr × Obj)} {σ : St} {H : Hp} {s : Shared} {a : Addr} {y : V} {o : Option V} (I : Inv X pins σ H s) (g : DGet H a y o) : s.TypeIs (.ref a) "dict" := by
  rcases g with ⟨kvs, k, e, _, _⟩ | ⟨kvs, k, b, e, _, _, _⟩
  · obtain ⟨_, _, vs, _, dd⟩ := dk_rd I.hok e
    exact dd.typeIs
  · obtain ⟨_, _, xs, _, dd⟩ := dt_rd I.hok e
    exact dd.typeIs
def tDGet (td ty : TE) : TE := fun σ H Q => td σ H fun x H1 => ty σ H1 fun y H2 => ∃ a v, x = .ref a ∧ DGet H2 a y (some v) ∧ Q v H2
def sDPut (td ty tv : TE) : TS := fun D σ H => tv σ H fun v H1 => td σ H1 fun x H2 => ty σ H2 fun y H3 => ∃ a H4, x = .ref a ∧ DPut H3 a y v H4 ∧ D.nx σ H4
section
variable {X : Cx} {o i e value : Expr} {pos pos' tpos : Pos} {td ty tv : TE}
theorem pe_dget (hu : X.A.units + 1 < cLine) (ho : PE X o td) (hi : PE X i ty) (hs : NoSl i) : PE X (.Subscript o i pos) (tDGet td ty) := by
  intro pins s σ H Q I h
  refine subD_of PySem.F.slot_dict_getitem.lookup hs (thn (ho pins s σ H _ I h) fun u s1 ⟨x, H1, I1, rx, q1⟩ => thn (hi pins s1 σ H1 _ I1 q1) fun iv s2 ⟨y, H2, I2, ry, a, v, ex, g, q2⟩ => ?_)
  subst ex
  obtain rfl : u = Value.ref a := rx
  exact ⟨dict_typeIs I2 g, d_getItem hu I2 g ry fun w' s3 I3 rw' => ⟨v, H2, I3, rw', q2⟩⟩
theorem ps_dput (hu : X.A.units + 1 < cLine) (ho : PE X o td) (hi : PE X i ty) (hv : PE X value tv) (hs : swapsWith value (some (.Subscript o i pos')) pos.line X.env = pure false) :
    PS X (.Assign [.Subscript o i pos'] value pos) (sDPut td ty tv) := by
  intro pins s σ H D I h
  refine wpAny_Assign_Subscript (thn (hv pins s σ H _ I h) fun r s1 ⟨v, H1, I1, rv, q1⟩ => thn (ho pins s1 σ H1 _ I1 q1) fun u s2 ⟨x, H2, I2, rx, q2⟩ => thn (hi pins s2 σ H2 _ I2 q2) fun iv s3 ⟨y, H3, I3, ry, a, H4, ex, g, q3⟩ => ?_) hs
  subst ex
  obtain rfl : u = Value.ref a := rx
  exact d_setItem hu I3 g ry rv fun s4 I4 => ⟨σ, H4, I4, q3⟩
end
section
variable {X : Cx} {pos : Pos}
end
structure M1 (X : Cx) (o : Expr) (m : Str) (apos : Pos) (e : Expr) (cpos : Pos) : Prop where
  base : attributeBase o m X.env (eval o X.env) = eval o X.env
  few : ((backTo cpos (starEach [e] X.env)).all (fun x => !x.1) && (backToKw cpos (keywordEach [] X.env)).all (fun x => x.1.isSome)
    && decide (([e] : List Expr).length + ([] : List Keyword).length + (if ([] : List Keyword).isEmpty then 0 else 1) < 30)) = true
  line : (apos.endLine == cpos.line) = true
  trees : backTo cpos (starEach [e] X.env) = [(false, eval e X.env)]
structure M2 (X : Cx) (o : Expr) (m : Str) (apos : Pos) (e f : Expr) (cpos : Pos) : Prop where
  base : attributeBase o m X.env (eval o X.env) = eval o X.env
  few : ((backTo cpos (starEach [e, f] X.env)).all (fun x => !x.1) && (backToKw cpos (keywordEach [] X.env)).all (fun x => x.1.isSome)
    && decide (([e, f] : List Expr).length + ([] : List Keyword).length + (if ([] : List Keyword).isEmpty then 0 else 1) < 30)) = true
  line : (apos.endLine == cpos.line) = true
  trees : backTo cpos (starEach [e, f] X.env) = [(false, eval e X.env), (false, eval f X.env)]
def IsD (H : Hp) (a : Addr) : Prop := (∃ kvs, Rd H a (.dK kvs)) ∨ ∃ kvs, Rd H a (.dT kvs)
theorem isD_at {X : Cx} {pins : List (Addr × Obj)} {σ : St} {H : Hp} {s : Shared} {a : Addr} (I : Inv X pins σ H s) (d : IsD H a) :
    s.TypeIs (.ref a) "dict" ∧ (∀ b, Value.ref a = .ref b → ∃ ob, s.heap.get? b = some ob ∧ ob.dict = none) ∧ (a == sysModules) = false := by
  rcases d with ⟨kvs, e⟩ | ⟨kvs, e⟩
  · obtain ⟨_, hd, vs, _, dd⟩ := dk_rd I.hok e
    refine ⟨dd.typeIs, fun b q => ?_, hd⟩
    cases q
    obtain ⟨ob, _, _, h1, h2, _⟩ := dd
    exact ⟨ob, h1, h2.2.1⟩
  · obtain ⟨_, hd, xs, _, dd⟩ := dt_rd I.hok e
    refine ⟨dd.typeIs, fun b q => ?_, hd⟩
    cases q
    obtain ⟨ob, _, _, h1, h2, _⟩ := dd
    exact ⟨ob, h1, h2.2.1⟩
section
variable {X : Cx} {pins : List (Addr × Obj)} {σ : St} {H : Hp} {s : Shared} {a : Addr} {y d : V} {u r : Value} {o : Option V} {A : Around} {E : Value → Shared → Prop}
theorem d_get2 {Q : Value → Shared → Prop} (hu : A.units + 1 < cLine) (I : Inv X pins σ H s) (g : DGet H a y o) (ry : RelV y u) (rd : RelV d r) (h : ∀ w' s', Inv X pins σ H s' → RelV (o.getD d) w' → Q w' s') :
    wpAny (model X.prog X.w) A (call (.builtin "dict.get") [.ref a, u, r]) Q E s := by
  rcases g with ⟨kvs, k, e, ey, l⟩ | ⟨kvs, k, b, e, ey, eb, l⟩
  · subst ey
    obtain ⟨z, hd, vs, rel, dd⟩ := dk_rd I.hok e
    refine call_meetsIn PySem.F.slot_dict_get dd.typeIs PySem.F.entry_dict_get (PySem.F.args_dict_get_3 _ _ _) (meets_dict_get_default (mixKind X.prog X.w) a (kV_is ry) hd r) ⟨_, dd.mapOf, h _ _ (I.tok _) ?_⟩
    rw [l]
    exact (rel.val k).getD rd
  · subst ey
    cases (show u = Value.ref b from ry)
    obtain ⟨z, hd, xs, rel, dd⟩ := dt_rd I.hok e
    refine call_meetsIn PySem.F.slot_dict_get dd.typeIs PySem.F.entry_dict_get (PySem.F.args_dict_get_3 _ _ _) (meetsH_dict_get_default (tupleKind (mixKind X.prog X.w)) a b hd r) ⟨tupleKind_room_in1 hu, k, xs, key_of I.hok eb, dd, h _ _ (I.tok _) ?_⟩
    rw [l]
    exact (rel.val k).getD rd
end
def tDGet2 (td ty tx : TE) : TE := fun σ H Q => td σ H fun x H1 => ∃ a, x = .ref a ∧ IsD H1 a ∧ ty σ H1 fun y H2 => tx σ H2 fun z H3 => ∃ o, DGet H3 a y o ∧ Q (o.getD z) H3
section
variable {X : Cx} {o e f : Expr} {apos cpos : Pos} {td ty tx : TE}
theorem pe_dget2 (hu : X.A.units + 1 < cLine) (ho : PE X o td) (he : PE X e ty) (hf : PE X f tx) (m : M2 X o "get" apos e f cpos) : PE X (.Call (.Attribute o "get" apos) [e, f] [] cpos) (tDGet2 td ty tx) := by
  intro pins s σ H Q I h
  refine wpAny_Call_method m.base m.few m.line PySem.F.plainAttrs_dict PySem.F.slot_dict_get PySem.F.type_dict_get (thn (ho pins s σ H _ I h) fun u s1 ⟨x, H1, I1, rx, a, ex, d, q1⟩ => ?_)
  subst ex
  obtain rfl : u = Value.ref a := rx
  obtain ⟨t1, t2, _⟩ := isD_at I1 d
  refine ⟨t1, t2, ?_⟩
  rw [m.trees]
  refine Calls.callWith_builtin rfl (Calls.evalArgs_plain (Calls.spliced_cons (thn (he pins s1 σ H1 _ I1 q1) fun iv s2 ⟨y, H2, I2, ry, q2⟩ =>
    Calls.spliced_cons (thn (hf pins s2 σ H2 _ I2 q2) fun fv s3 ⟨z, H3, I3, rz, ov, g, q3⟩ => Calls.spliced_nil ?_))))
  exact d_get2 hu I3 g ry rz fun w' s4 I4 rw' => ⟨_, H3, I4, rw', q3⟩
end
section
variable {X : Cx} {pins : List (Addr × Obj)} {σ : St} {H : Hp} {s : Shared} {a : Addr} {kvs : List (Key × V)} {A : Around} {E : Value → Shared → Prop}
end
section
variable {X : Cx} {pins : List (Addr × Obj)} {σ : St} {H : Hp} {s : Shared} {a : Addr} {y : V} {u : Value} {A : Around} {E : Value → Shared → Prop}
end
end L2
namespace Att
open PySem PySem.W PySem.Calls PyProof.Rows
theorem ints_of_wellAll {P : Params} {h : Heap} : ∀ (ns : List Int) (vs : List Value), WellAll P h vs (ns.map WData.int) → IntsAre vs ns := by
  intro ns
  induction ns with
  | nil =>
    intro vs w
    rw [List.map_nil] at w
    cases w
    exact .nil
  | cons n ns ih =>
    intro vs w
    rw [List.map_cons] at w
    cases w with
    | cons a b =>
      cases a
      exact .cons _ _ (ih _ b)
theorem script_of {l : OpenLaw} {n : Nat} (hn : l.most = some n) {P : Params} {h : Heap} {args : List WData} {vals : List Value}
    (hpre : l.row.toRowW.claim.pre args = true) (hwl : WellAll P h vals args) :
    ∃ a vs ns, vals = [Value.ref a] ∧ args = [WData.list (ns.map WData.int)] ∧ h.get? a = some { cls := .type "list", data := .seq vs.toArray } ∧ IntsAre vs ns ∧ ns.length ≤ n := by
  have hsh : WShape.hasAll [] args [.list .int] = true := (pre_splitW hpre).1
  have hc : l.pre.holds [] { args := args } = true := (pre_splitW hpre).2
  obtain ⟨d, r, rfl, h1, h2⟩ := hasAllW_cons hsh
  obtain rfl := hasAllW_nil h2
  obtain ⟨xs, rfl, h3⟩ := hasW_list h1
  obtain ⟨ns, rfl⟩ := items_int h3
  have hlen : ns.length ≤ n := by
    unfold OpenLaw.pre at hc
    have h4 : (WTm.not (.lt (.lit (.int (n : Int))) (.len (.arg 0)))).holds [] { args := [.list (ns.map .int)] } = true := by
      have h4 := (holds_andW hc).1
      rw [hn] at h4
      exact h4
    have h5 := condW_of h4 (w_not (w_lt w_lit (w_len_list (w_arg rfl))))
    rw [List.length_map] at h5
    refine Nat.le_of_not_lt fun q => ?_
    have q' : (n : Int) < ((ns.length : Nat) : Int) := by omega
    first
      | (rw [decide_eq_true q'] at h5; exact absurd h5 (by decide))
      | (simp at h5; omega)
  cases hwl with
  | cons w1 w2 =>
    cases w2
    cases w1 with
    | list ho hall => exact ⟨_, _, ns, rfl, rfl, ho, ints_of_wellAll ns _ hall, hlen⟩
theorem post_true (l : OpenLaw) (args : List WData) : l.row.toRowW.claim.post args (.bool true) args = true :=
  postW_of (r := l.row.toRowW) (X := (true == true))
    (show WShape.has [] (.bool true) .bool = true by first | rfl | decide | simp [WShape.has, WShape.arms, WShape.armsAll])
    (show (WTm.eq .res (.lit (.bool true))).value [] { args := args, res := some (.bool true), after := args } = some (.bool (true == true)) from w_eq_bool (w_res rfl) w_lit) rfl
theorem attach_call {l : OpenLaw} {n : Nat} {q : Program} {loose : List Str} {XP : (Str → Option Value) → Heap → Prop} {YP : World → Heap → Prop} {d : DefRec}
    (hn : l.most = some n) (hdf : d.params.defaults = [])
    (call : ∀ (w : World) (s₀ s₁ : Shared) (mg mb : Str → Option Value) (fa : Addr) (o : Obj) (pm cd doc : Value) (a : Addr) (vs : List Value) (ns : List Int),
      Ground q loose [] XP w s₀ mg mb s₁.heap → YP w s₁.heap →
      s₁.heap.get? fa = some o → o.data = .func (docDef d.name d.params d.body d.scope pm cd doc) → s₁.heap.CodeRec cd d.name → mg d.name = some (.ref fa) →
      s₁.heap.get? a = some { cls := .type "list", data := .seq vs.toArray } → IntsAre vs ns → ns.length ≤ n → s₁.gens = #[] →
      codeAny (model l.prog w) callerA (.call (.ref fa) ⟨[.ref a], []⟩) (fun r s' => r = .ok (.ret (.bool true)) ∧ OldK s₁.heap s'.heap ∧ s'.os = s₁.os ∧ AllBare s'.gens) s₁) :
    WalkO q loose XP YP l.row.toRowW d [] (fun f vs => PySem.call f vs) := by
  intro w s₀ s₁ mg mb G Y fa o pm cd doc dV kV ho hd hcd hD hmg hg args vals as hpre hlay hrd hwl hlo
  obtain rfl : dV = .none := Dflts.none hD hdf
  obtain rfl : kV = .none := Dflts.noKw hD
  obtain ⟨a, vs, ns, rfl, rfl, hobj, hints, hlen⟩ := script_of hn hpre hwl
  refine enter_call (codeAny_mono (call w s₀ s₁ mg mb fa o pm cd doc a vs ns G Y ho (fd_plain hd) hcd hmg hobj hints hlen hg) fun r s' hq => ?_)
  obtain ⟨rfl, h2, h3, h4⟩ := hq
  exact ⟨.inl ⟨.bool true, .bool true, [], rfl, fun _ => rfl, .bool true, post_true l _, fun _ => ⟨List.Pairwise.nil, fun _ hm => (nomatch hm)⟩⟩, h2, h3, h4⟩
section
variable {prog : Program} {w : World} {A : Around} {E : Value → Shared → Prop} {s : Shared} {K : Frag}
end
end Att
namespace L2
open PySem PySem.Spec PyProof.Rows
theorem vals_ints : ∀ {vs : List Value} {ns : List Int}, IntsAre vs ns → Vals (ns.map V.int) vs
  | _, _, .nil => .nil
  | _, _, .cons n t h => .cons ⟨t, rfl⟩ (vals_ints h)
def Only (H : Hp) : Prop := ∀ b, H b = none ∨ ∃ o xs, H b = some (.frz o (.lst xs))
theorem law_call {P : Program} {w : World} {K : PySem.W.Frag} {mg mb : Str → Option Value} {CX : CXT} {k : Nat} {fa a : Addr} {fd : FuncData} {x : Str} {sp : Sp} {s₁ : Shared} {vs : List Value} {ns : List Int}
    (KX : K.In s₁.heap) (hns : s₁.heap.Ns mainGlobals mg) (hb : s₁.heap.Ns builtinsNs mb) (hbb : ∀ x : Str, x ≠ "__name__" → mb x = bootBuiltins x) (hlim : s₁.heap.NoLimit) (hg : s₁.gens = #[])
    (ha : s₁.heap.get? a = some { cls := .type "list", data := .seq vs.toArray }) (hi : IntsAre vs ns) (hl : ns.length ≤ sizeLine) (hr : Room k callerA)
    (F : ∀ base : Heap, K.In base → base.Ns mainGlobals mg → FnOk P w K mg base CX k fa fd [x] sp) (hbind : ∀ (s : Shared) (u : Value), BindsTo s fd ⟨[u], []⟩ [(x, u)])
    (hsp : ∀ H : Hp, Only H → SqL K H a (ns.map V.int) → sp [.ref a] H (fun v _ => v = .bl true) fun _ _ _ => False)
    (hCX : ∀ H e s', CX [] H s₁ (fun _ _ _ => False) e s' → False) :
    codeAny (model P w) callerA (.call (.ref fa) ⟨[.ref a], []⟩) (fun r s' => r = .ok (.ret (.bool true)) ∧ OldK s₁.heap s'.heap ∧ s'.os = s₁.os ∧ AllBare s'.gens) s₁ := by
  have rv := vals_ints hi
  have lenV := hi.length
  have core : ∀ H : Hp, Only H → SqL K H a (ns.map V.int) → HOk P w H s₁.heap → (∀ b, H b ≠ none → b = a) → (H a ≠ none → K.lookup a = none) →
      codeAny (model P w) callerA (.call (.ref fa) ⟨[.ref a], []⟩) (fun r s' => r = .ok (.ret (.bool true)) ∧ OldK s₁.heap s'.heap ∧ s'.os = s₁.os ∧ AllBare s'.gens) s₁ := by
    intro H hO hS hok hA hK
    have base_of : ∀ {b : Addr} {o : Obj}, s₁.heap.get? b = some o → H b = none → (hidT s₁.heap H).get? b = some o := fun e n => hidT_get e n
    have noA : ∀ {b : Addr} {o : Obj} {es : Array DictEntry} {ep : Nat}, s₁.heap.get? b = some o → o.data = .dict es ep → H b = none := fun {b o es ep} e d => by
      cases q : H b with
      | none => rfl
      | some u =>
        have e' : b = a := hA b (by rw [q]; simp)
        subst e'
        rw [ha] at e; cases e
        have d' : Data.seq vs.toArray _ = Data.dict es ep := d
        cases d'
    have nsK : ∀ {b : Addr} {m : Str → Option Value}, s₁.heap.Ns b m → (hidT s₁.heap H).Ns b m := fun {b m} ⟨o, es, ep, e, d, r⟩ => ⟨o, es, ep, base_of e (noA e d), d, r⟩
    have hKb : K.In (hidT s₁.heap H) := fun b o e => base_of (KX b o e) (by
      cases q : H b with
      | none => rfl
      | some u =>
        have e' : b = a := hA b (by rw [q]; simp)
        subst e'
        rw [hK (by rw [q]; simp)] at e; cases e)
    have hM : Mod K mg (hidT s₁.heap H) := ⟨hKb, nsK hns, ⟨mb, nsK hb, hbb⟩, let ⟨mc, h1, h2⟩ := hlim; ⟨mc, nsK h1, h2⟩⟩
    have e0 : Env0 P w K mg (hidT s₁.heap H) callerA [] s₁ H := ⟨rfl, hM, fun b o e => of_hidT e, Nat.le_of_eq (hidT_size _ _), trivial, fun b hb => absurd (show b ∈ ([] : List Addr) from hb) (by simp), hok, .of_eq hg⟩
    refine codeAny_mono ((F _ hKb (nsK hns)).run callerA [] s₁ H ⟨[.ref a], []⟩ [.ref a] [.ref a] _ _ hr e0 (hbind s₁ (.ref a)) (.cons rfl .nil) (hsp H hO hS)) fun r s' h => ?_
    cases r with
    | error e => exact (hCX H e s' h).elim
    | ok fl =>
      cases fl with
      | next => exact False.elim h
      | brk => exact False.elim h
      | cont => exact False.elim h
      | ret u =>
        obtain ⟨v, H', os, bare, un, hok', r', q⟩ := h
        have q' : v = .bl true := q
        subst q'
        obtain rfl : u = Value.bool true := r'
        refine ⟨rfl, OldK.of_keep fun b o e => ?_, os, bare⟩
        cases q : H b with
        | none => exact un.keep b o e q (by intro z; exact absurd (show b ∈ ([] : List Addr) from z) (by simp)) (by simp)
        | some u =>
          rcases hO b with z | ⟨ob, xs, z⟩
          · rw [q] at z; cases z
          · have z2 := un.frzs b ob _ z
            obtain ⟨e1, _⟩ := hok b _ z
            obtain ⟨e2, _⟩ := hok' b _ z2
            rw [e] at e1; cases e1
            exact e2
  cases hk : K.lookup a with
  | some o =>
    have e := KX a o hk
    rw [ha] at e
    cases e
    refine core (fun _ => none) (fun _ => .inl rfl) (.inr ⟨_, vs.toArray, _, hk, rfl, rfl, rfl, by rw [List.size_toArray, lenV]; exact hl, by simpa using rv⟩) (fun b u z => by have z' : (none : Option HO) = some u := z; cases z') (fun b z => absurd rfl z) fun z => absurd rfl z
  | none =>
    refine core (fun b => if b = a then some (.frz { cls := .type "list", data := .seq vs.toArray } (.lst (ns.map V.int))) else none) (fun b => ?_) (.inl (.inr ⟨{ cls := .type "list", data := .seq vs.toArray }, if_pos rfl⟩)) (fun b u z => ?_) (fun b z => ?_) fun _ => hk
    · by_cases hb : b = a
      · exact .inr ⟨_, _, if_pos hb⟩
      · exact .inl (if_neg hb)
    · by_cases hb : b = a
      · have z' := (if_pos hb).symm.trans z
        cases z'
        subst hb
        exact ⟨ha, by rw [List.length_map]; exact hl, vs, _, rv, ha⟩
      · have z' := (if_neg hb).symm.trans z
        cases z'
    · by_cases hb : b = a
      · exact hb
      · exact absurd (if_neg hb) z
end L2
namespace L2
open PySem PySem.Spec PyProof.Rows
theorem walk_of {l : PySem.W.OpenLaw} {n k : Nat} {q : Program} {loose : List Str} {XP : (Str → Option Value) → Heap → Prop} {YP : World → Heap → Prop} {d : DefRec} {K : Params → PySem.W.Frag} {CX : World → CXT} {sp : World → Sp} {x : Str}
    (hn : l.most = some n) (hn2 : n ≤ sizeLine) (hdf : d.params.defaults = []) (hr : Room k callerA)
    (hY : ∀ (w : World) (h : Heap), YP w h → (K w.params).In h)
    (F : ∀ (w : World) (mg : Str → Option Value) (fa : Addr) (h : Heap), (K w.params).In h → h.Ns mainGlobals mg → mg d.name = some (.ref fa) →
      ∃ fd : FuncData, (∀ (s : Shared) (u : Value), BindsTo s fd ⟨[u], []⟩ [(x, u)]) ∧
        ∀ base : Heap, (K w.params).In base → base.Ns mainGlobals mg → FnOk l.prog w (K w.params) mg base (CX w) k fa fd [x] (sp w))
    (hsp : ∀ (w : World) (H : Hp) (a : Addr) (ns : List Int), ns.length ≤ n → Only H → SqL (K w.params) H a (ns.map V.int) → sp w [.ref a] H (fun v _ => v = .bl true) fun _ _ _ => False)
    (hCX : ∀ (w : World) (H : Hp) (s : Shared) (e : Value) (s' : Shared), CX w [] H s (fun _ _ _ => False) e s' → False) :
    PySem.W.WalkO q loose XP YP l.row.toRowW d [] (fun f vs => PySem.call f vs) := by
  refine Att.attach_call hn hdf fun w s₀ s₁ mg mb fa o pm cd doc a vs ns G Y ho hd hcd hmg hobj hints hlen hg => ?_
  have KX := hY w _ Y
  obtain ⟨fd, hb, hF⟩ := F w mg fa _ KX G.T.g hmg
  exact law_call KX G.T.g G.T.b G.T.builtins G.T.nolimit hg hobj hints (Nat.le_trans hlen hn2) hr hF hb (fun H hO hS => hsp w H a ns hlen hO hS) fun H e s' => hCX w H s₁ e s'
end L2
namespace L2
open PySem PySem.Spec PyProof.Rows
def defArgs (s : Stmt) : Arguments := match s with
  | .FunctionDef _ a _ _ _ _ _ _ _ _ => a
  | _ => { posonlyargs := [], args := [], vararg := none, kwonlyargs := [], kw_defaults := [], kwarg := none, defaults := [] }
def defBody (s : Stmt) : List Stmt := match s with
  | .FunctionDef _ _ b _ _ _ _ _ _ _ => b
  | _ => []
def defScope (s : Stmt) : Scope := match s with
  | .FunctionDef _ _ _ _ _ _ sc _ _ _ => sc
  | _ => { kind := .function, names := [], isGenerator := false, isCoroutine := false }
abbrev CX0 : CXT := fun _ _ _ _ _ _ => False
abbrev E0 : XK := fun _ _ _ => False
theorem pass0 {X : Cx} : Passes CX0 X E0 := fun _ _ _ _ _ _ _ h => h.elim
structure Fun (K : PySem.W.Frag) (x qual : Str) (st : Stmt) (f : Addr) (fd : FuncData) : Prop where
  ex : ∃ (oc : Value) (od : Option Addr) (kV doc pm : Value) (an : Option Addr) (cdv ct : Value) (osl : Array (Option Value)),
    fd = PySem.W.fnOf x qual (defArgs st) (defBody st) (defScope st) .none kV doc pm an cdv ct ∧ K.lookup f = some ⟨oc, od, .func fd, osl⟩ ∧ PySem.W.codeIn K cdv qual = true
  kp : PySem.W.keepIn K (.ref f) = true
section
variable {P : Program} {w : World} {K : PySem.W.Frag} {mg : Str → Option Value} {base : Heap}
theorem Fun.ok {x qual : Str} {st : Stmt} {f : Addr} {fd : FuncData} {N ps : List Str} {k : Nat} {sp : Sp} (F : Fun K x qual st f fd) (S : FnScope N ps (defScope st)) (len : ∀ vs H Q E, sp vs H Q E → vs.length = ps.length)
    (hbody : ∀ (cdv : Value) (A : Around) (outer : List Env) (s : Shared) (H : Hp) (vs : List V) (Q : VK) (E : XK), Room k (A.deeper (envOfC qual (defScope st) s.heap.objs.size f cdv)) → sp vs H Q E →
      ∃ t, PSs (cxOf CX0 P w K mg base N qual (defScope st) f cdv A outer s H E).nox (defBody st) t ∧ t { nx := fun _ H' => Q .non H', rt := Q } (start N vs) H) : FnOk P w K mg base CX0 (k + 1) f fd ps sp := by
  obtain ⟨oc, od, kV, doc, pm, an, cdv, ct, osl, rfl, lk, hcd⟩ := F.ex
  refine fn_of lk hcd S len fun A outer s H vs Q E hr hsp => ?_
  obtain ⟨t, h, q⟩ := hbody cdv A outer s H vs Q E hr hsp
  exact ⟨t, h.nox, q⟩
theorem Fun.binds {x qual : Str} {st : Stmt} {f : Addr} {fd : FuncData} {ps : List Str} (F : Fun K x qual st f fd)
    (h : ∀ (kV doc pm : Value) (an : Option Addr) (cdv ct : Value) (us : List Value), us.length = ps.length → bindArgs (PySem.W.fnOf x qual (defArgs st) (defBody st) (defScope st) .none kV doc pm an cdv ct) ⟨us, []⟩ = pure (ps.zip us)) : Binds K fd ps [] := by
  obtain ⟨oc, od, kV, doc, pm, an, cdv, ct, osl, rfl, lk, hcd⟩ := F.ex
  exact .all (h kV doc pm an cdv ct)
theorem fun_mk {x qual : Str} {st : Stmt} {f : Addr} {oc : Value} {od an : Option Addr} {osl : Array (Option Value)} {kV doc pm cdv ct : Value} (l : K.lookup f = some ⟨oc, od, .func (PySem.W.fnOf x qual (defArgs st) (defBody st) (defScope st) .none kV doc pm an cdv ct), osl⟩)
    (c : PySem.W.codeIn K cdv qual = true) (k : PySem.W.keepIn K (.ref f) = true) : Fun K x qual st f (PySem.W.fnOf x qual (defArgs st) (defBody st) (defScope st) .none kV doc pm an cdv ct) := ⟨⟨oc, od, kV, doc, pm, an, cdv, ct, osl, rfl, l, c⟩, k⟩
end
theorem small1000 {n : Nat} (h : n ≤ 1000) : n < sizeLine := Nat.lt_of_le_of_lt h (by decide)
section
variable {X : Cx}
theorem pv (i : Nat) {x : Str} {pos : Pos} (hN : X.N[i]? = some x := by rfl) (hv : Vis X.env.scope x := by first | exact Or.inl rfl | exact Or.inr (Or.inl rfl) | exact Or.inr (Or.inr rfl)) (hd : (x == ("__debug__" : Str)) = false := by decide)
    (hcd : (x == ("__classdict__" : Str)) = false := by decide) : PE X (.Name x pos) (tVar i) := pe_var hN hv hd hcd
end
theorem iteF {A B : Prop} (h : B) : if false = true then A else B := by
  rw [if_neg Bool.false_ne_true]
  exact h
theorem iteT {A B : Prop} (h : A) : if true = true then A else B := by
  rw [if_pos rfl]
  exact h
theorem ite2 {c A B : Prop} [Decidable c] (h1 : c → A) (h2 : ¬ c → B) : if c then A else B := by
  by_cases h : c
  · rw [if_pos h]
    exact h1 h
  · rw [if_neg h]
    exact h2 h
def Same (H H' : Hp) : Prop := ∀ b o, H b = some o → H' b = some o
theorem Same.refl (H : Hp) : Same H H := fun _ _ h => h
theorem Same.trans {H H1 H2 : Hp} (a : Same H H1) (b : Same H1 H2) : Same H H2 := fun c o h => b c o (a c o h)
theorem Same.free {H H' : Hp} (e : Same H H') {l : Addr} (h : H' l = Option.none) : H l = Option.none := by
  cases q : H l with
  | none => rfl
  | some o =>
    rw [e l o q] at h
    cases h
theorem Same.seq {K : PySem.W.Frag} {H H' : Hp} {a : Addr} {xs : List V} (e : Same H H') (h : SqL K H a xs) : SqL K H' a xs := by
  rcases h with (h | ⟨o, h⟩) | h
  · exact .inl (.inl (e _ _ h))
  · exact .inl (.inr ⟨o, e _ _ h⟩)
  · exact .inr h
section
variable {X : Cx}
end
section
variable {κ : Type} [DecidableEq κ]
end
end L2
set_option Elab.async false
set_option linter.all false
set_option maxRecDepth 100000
namespace L2
open PySem PySem.Spec PyProof.Rows
section
variable {X : Cx}
def CDv (_ j : Int) : Prop := 0 < j ∧ j < 10 ^ 100
theorem op_fdivP : OpR X (binaryOp .FloorDiv) (rI CDv fun i j => .int (i / j)) := opI fun i j _ _ _ _ _ hc q => by
  have h0 : 0 < j := hc.1
  have h1 : j < 10 ^ 100 := hc.2
  refine floordiv_int (by omega) ?_ (.inl (PyProof.noPylong_of_log2 ?_))
  · rw [Int.fdiv_eq_ediv_of_nonneg _ (by omega)]
    exact q
  · have h2 : j.natAbs < 10 ^ 100 := by omega
    have h3 : (10 : Nat) ^ 100 ≤ 2 ^ 9000 := by decide +kernel
    exact (Nat.log2_lt (by omega)).mpr (Nat.lt_of_lt_of_le h2 h3)
end
structure Callee (P : Program) (w : World) (K : PySem.W.Frag) (mg : Str → Option Value) (base : Heap) (x : Str) (k : Nat) (ps : List Str) (sp : Sp) : Prop where
  ex : ∃ (f : Addr) (fd : FuncData), FnOk P w K mg base CX0 k f fd ps sp ∧ Binds K fd ps [] ∧ PySem.W.keepIn K (.ref f) = true ∧ mg x = some (.ref f)
section
variable {X : Cx} {x : Str} {k : Nat} {ps : List Str} {sp : Sp} {e : Expr} {es : List Expr} {t : TA} {p pos : Pos}
theorem pe_callF (C : Callee X.prog X.w X.K X.mg X.base x k ps sp) (hr : Room k X.A) (hg : Gl X x) (ha : PA X (e :: es) t)
    (hdb : (x == ("__debug__" : Str)) = false := by decide) (he : starEach (e :: es) X.env = (false, eval e X.env) :: starEach es X.env := by rfl) (hpl : (backTo pos (starEach es X.env)).any (·.1) = false := by rfl) :
    PE X (.Call (.Name x p) (e :: es) [] pos) (tCall sp [] E0 t) := by
  intro pins s σ H Q I h
  obtain ⟨f, fd, F, b, kp, m⟩ := C.ex
  have G : FnOk X.prog X.w X.K X.mg X.base (fun _ _ _ _ _ _ => False) k f fd ps sp := F
  exact pe_call F hr hg m kp b .nil pass0 ha hdb he hpl pins s σ H Q I h
end
end L2
namespace L2
open PySem PySem.Spec PyProof.Rows
def tCut (t u : TS) : TS := fun D σ H => ∃ J : St → Hp → Prop, t { D with nx := J } σ H ∧ ∀ σ1 H1, J σ1 H1 → u D σ1 H1
section
variable {X : Cx} {st : Stmt} {rest : List Stmt} {t u : TS}
theorem pss_cut (h1 : PS X st t) (h2 : PSs X rest u) : PSs X (st :: rest) (tCut t u) := by
  intro pins s σ H D I h
  obtain ⟨J, h, hJ⟩ := h
  refine wpAny_execs_cons (thn (h1 pins s σ H { D with nx := J } I h) fun f s1 q => ?_)
  cases f with
  | next =>
    obtain ⟨σ', H', I', q⟩ := q
    exact h2 pins s1 σ' H' D I' (hJ _ _ q)
  | ret v => exact q
  | brk => exact q
  | cont => exact q
end
section
variable {α : Type} {a b c d : α} {r : List α}
theorem atI_0 : atI (a :: r) 0 = some a := atI_nat (j := 0) rfl
theorem atI_1 : atI (a :: b :: r) 1 = some b := atI_nat (j := 1) rfl
theorem atI_2 : atI (a :: b :: c :: r) 2 = some c := atI_nat (j := 2) rfl
theorem atI_3 : atI (a :: b :: c :: d :: r) 3 = some d := atI_nat (j := 3) rfl
end
def seqAt (H : Hp) (p : Addr) : Option (List V) := match H p with
  | some (.lst xs) => some xs
  | some (.tup xs) => some xs
  | some (.frz _ (.lst xs)) => some xs
  | _ => none
theorem seqAt_lst {H : Hp} {p : Addr} {xs : List V} (h : H p = some (.lst xs)) : seqAt H p = some xs := by unfold seqAt; rw [h]
theorem seqAt_tup {H : Hp} {p : Addr} {xs : List V} (h : H p = some (.tup xs)) : seqAt H p = some xs := by unfold seqAt; rw [h]
section
variable {X : Cx}
def rIxF : R2 := fun x y H Q => ∃ p i xs v, x = .ref p ∧ y = .int i ∧ seqAt H p = some xs ∧ atI xs i = some v ∧ Q v H
theorem call_intB : CallR X (.type "int") (fun xs H Q => ∃ k, xs = [.bl k] ∧ Q (.int (if k = true then 1 else 0)) H) := by
  intro pins s σ H xs us Q I r h
  obtain ⟨k, rfl, q⟩ := h
  exact call_int1 pins s σ H _ us Q I r (.inr ⟨k, rfl, q⟩)
end
end L2
namespace L2
open PySem PySem.Spec PyProof.Rows
theorem bt_len : bootBuiltins "len" = some (.builtin "len") := by decide +kernel
theorem bt_max : bootBuiltins "max" = some (.builtin "max") := by decide +kernel
theorem bt_min : bootBuiltins "min" = some (.builtin "min") := by decide +kernel
theorem bt_sorted : bootBuiltins "sorted" = some (.builtin "sorted") := by decide +kernel
theorem bt_any : bootBuiltins "any" = some (.builtin "any") := by decide +kernel
theorem bt_repr : bootBuiltins "repr" = some (.builtin "repr") := by decide +kernel
theorem bt_int : bootBuiltins "int" = some (.type "int") := by decide +kernel
theorem bt_list : bootBuiltins "list" = some (.type "list") := by decide +kernel
theorem bt_enumerate : bootBuiltins "enumerate" = some (.type "enumerate") := by decide +kernel
theorem bt_zip : bootBuiltins "zip" = some (.type "zip") := by decide +kernel
theorem bt_set : bootBuiltins "set" = some (.type "set") := by decide +kernel
end L2
namespace L2
open PySem PySem.Spec PyProof.Rows
theorem cxK {CX : CXT} {P : Program} {w : World} {K : PySem.W.Frag} {mg : Str → Option Value} {base : Heap} {N : List Str} {qual : Str} {scope : Scope} {f : Addr} {cd : Value} {A : Around} {outer : List Env} {s : Shared} {H : Hp} {E : XK} :
    (cxOf CX P w K mg base N qual scope f cd A outer s H E).K = K := rfl
end L2
namespace L2
open PySem PySem.Spec PyProof.Rows
theorem ixN_10 : ixN 1 0 = some 0 := rfl
theorem ixN_20 : ixN 2 0 = some 0 := rfl
theorem ixN_21 : ixN 2 1 = some 1 := rfl
theorem ixN_30 : ixN 3 0 = some 0 := rfl
theorem ixN_31 : ixN 3 1 = some 1 := rfl
theorem ixN_32 : ixN 3 2 = some 2 := rfl
theorem seqAt_updL {H : Hp} {p : Addr} {xs : List V} : seqAt (upd H p (.lst xs)) p = some xs := seqAt_lst upd_same
theorem seqAt_updT {H : Hp} {p : Addr} {xs : List V} : seqAt (upd H p (.tup xs)) p = some xs := seqAt_tup upd_same
theorem atI_in {α : Type} {xs : List α} {k : Int} (h0 : 0 ≤ k) (h1 : k < (xs.length : Int)) : ∃ v, atI xs k = some v ∧ v ∈ xs := by
  have hk : k.toNat < xs.length := by omega
  have e : k = ((k.toNat : Nat) : Int) := by omega
  have q : atI xs ((k.toNat : Nat) : Int) = some xs[k.toNat] := atI_nat (List.getElem?_eq_getElem hk)
  rw [← e] at q
  exact ⟨_, q, List.getElem_mem hk⟩
theorem small_le {n : Nat} (h : n ≤ 1000) : n ≤ sizeLine := Nat.le_of_lt (small1000 h)
end L2
namespace L2
open PySem PySem.Spec PyProof.Rows
structure Shut (Q : VK) : Type where
  n : Nat
def Cal (sp : Sp) (vs : List V) (H : Hp) (Q : VK) (_ : Shut Q) (E : XK) : Prop := sp vs H Q E
theorem tCallC {sp : Sp} {dvs : List V} {E : XK} {t : TA} {σ : St} {H : Hp} {Q : VK} : tCall sp dvs E t σ H Q = t σ H (fun vs H1 => Cal sp (vs ++ dvs) H1 Q ⟨0⟩ E) := rfl
section
variable {X : Cx} {pos p1 p2 : Pos} {j1 j2 : Nat}
theorem pe_powc {a b : Int} (v : Int) (h : decide (0 ≤ b ∧ b ≤ 1000000 ∧ a.natAbs < 2 ^ 64 ∧ a ^ b.toNat = v) = true := by decide +kernel) : PE X (.BinOp (.Constant (.int a) j1 p1) .Pow (.Constant (.int b) j2 p2) pos) (tC (.int v)) := by
  intro pins s σ H Q I q
  obtain ⟨h1, h2, h3, h4⟩ := of_decide_eq_true h
  refine pe_op op_pow pe_int pe_int pins s σ H Q I ⟨a, b, rfl, rfl, ⟨h1, h2, h3⟩, ?_⟩
  show Q (V.int (a ^ b.toNat)) H
  rw [h4]
  exact q
end
end L2
namespace L2
open PySem PySem.Spec PyProof.Rows
theorem upd_none {H : Hp} {a b : Addr} {o : HO} : upd H a o b = none ↔ b ≠ a ∧ H b = none := by
  unfold upd
  by_cases h : b = a
  · simp [h]
  · simp [h]
end L2
namespace L2
open PySem PySem.Spec PyProof.Rows
def Loop (J : It) (g : TG) (tb : TS) (D : Ends) (σ : St) (H : Hp) : Prop := ∃ W : Nat → Nat → St → Hp → Prop, (∃ m, W 0 m σ H) ∧ ∀ i m σ H, W i m σ H →
  (J.stop i H ∧ D.nx σ H) ∨ (J.go i H ∧ ∃ N : St → Hp → Prop, (∀ σ' H', N σ' H' → ∃ m', m' < m ∧ W (i + 1) m' σ' H') ∧ ∀ x H', J.yld i H x H' → g x σ H' fun σ2 H2 => tb { D with nx := N, ct := N, bk := D.nx } σ2 H2)
section
variable {K : PySem.W.Frag} {ta : TA} {tl : TE} {g : TG} {tb : TS} {D : Ends} {σ : St} {H : Hp} {a : Addr} {xs : List V} {lo : Int} {n : Nat}
theorem tFor_rng1 : tFor (iRng1 ta) g tb D σ H = ta σ H (fun vs H1 => ∃ j : Int, vs = [.int j] ∧ -(2 ^ 62) ≤ j ∧ j < 2 ^ 62 ∧ Loop (Itr 0 j.toNat) g tb D σ H1) := rfl
theorem tFor_rng2 : tFor (iRng2 ta) g tb D σ H = ta σ H (fun vs H1 => ∃ i j : Int, vs = [.int i, .int j] ∧ (-(2 ^ 62) ≤ i ∧ i < 2 ^ 62 ∧ -(2 ^ 62) ≤ j ∧ j < 2 ^ 62) ∧ Loop (Itr i (j - i).toNat) g tb D σ H1) := rfl
theorem tFor_list : tFor (iList K tl) g tb D σ H = tl σ H (fun x H1 => ∃ a, x = .ref a ∧ (∃ xs, SqL K H1 a xs) ∧ Loop (Itl K a) g tb D σ H1) := rfl
theorem tFor_tup : tFor (iTup K tl) g tb D σ H = tl σ H (fun x H1 => ∃ a, x = .ref a ∧ (∃ xs, SqT K H1 a xs) ∧ Loop (Itt K a) g tb D σ H1) := rfl
theorem loop_range (Pv : Nat → St → Hp → Prop) (h0 : Pv 0 σ H)
    (hs : ∀ i σ H, i < n → Pv i σ H → g (.int (lo + i)) σ H fun σ2 H2 => tb { D with nx := Pv (i + 1), ct := Pv (i + 1), bk := D.nx } σ2 H2) (hd : ∀ σ H, Pv n σ H → D.nx σ H) : Loop (Itr lo n) g tb D σ H := for_range Pv h0 hs hd
theorem loop_list (Pv : Nat → St → Hp → Prop) (h0 : Pv 0 σ H) (hl : ∀ i σ H, i ≤ xs.length → Pv i σ H → SqL K H a xs)
    (hs : ∀ i x σ H, xs[i]? = some x → Pv i σ H → g x σ H fun σ2 H2 => tb { D with nx := Pv (i + 1), ct := Pv (i + 1), bk := D.nx } σ2 H2) (hd : ∀ σ H, Pv xs.length σ H → D.nx σ H) : Loop (Itl K a) g tb D σ H := for_list Pv h0 hl hs hd
end
end L2
set_option Elab.async false
set_option linter.all false
set_option maxRecDepth 100000
namespace L2
open PySem PySem.Spec PyProof.Rows
structure JE (X : Cx) (e : Expr) (t : TE) : Prop where h : PE X e t
structure JT (X : Cx) (e : Expr) (t : TT) : Prop where h : PT X e t
structure JW (X : Cx) (e : Expr) (t : TT) : Prop where h : PW X e t
structure JA (X : Cx) (es : List Expr) (t : TA) : Prop where h : PA X es t
structure JS (X : Cx) (st : Stmt) (t : TS) : Prop where h : PS X st t
structure JB (X : Cx) (st : List Stmt) (t : TS) : Prop where h : PSs X st t
structure JG (X : Cx) (e : Expr) (t : TG) : Prop where h : PG X e t
structure JGs (X : Cx) (es : List Expr) (t : TGs) : Prop where h : PGs X es t
structure JI (X : Cx) (tg e : Expr) (t : TI) : Prop where h : PI X tg e t
structure JO (X : Cx) (e : Option Expr) (t : TO) : Prop where h : PO X e t
section
variable {X : Cx} {a b c e o : Expr} {es rest : List Expr} {ta tb tc te to : TE} {t tl : TA} {tA tB' : TT} {pos p p' : Pos} {st : Stmt} {sts sts' : List Stmt} {u v : TS}
theorem ev (i : Nat) {x : Str} (hN : X.N[i]? = some x := by rfl) (hv : Vis X.env.scope x := by first | exact Or.inl rfl | exact Or.inr (Or.inl rfl) | exact Or.inr (Or.inr rfl)) (hd : (x == ("__debug__" : Str)) = false := by decide)
    (hcd : (x == ("__classdict__" : Str)) = false := by decide) : JE X (.Name x pos) (tVar i) := ⟨pe_var hN hv hd hcd⟩
theorem ei {i j} : JE X (.Constant (.int i) j pos) (tC (.int i)) := ⟨pe_int⟩
theorem ebl {b j} : JE X (.Constant (.bool b) j pos) (tC (.bl b)) := ⟨pe_bl⟩
theorem enon {j} : JE X (.Constant .none j pos) (tC .non) := ⟨pe_non⟩
theorem estr {x j} : JE X (.Constant (.str x) j pos) (tC (.str x)) := ⟨pe_str⟩
theorem eglob {x : Str} {v : V} {u : Value} (hg : Gl X x) (hm : X.mg x = some u) (r : RelV v u) (hd : (x == ("__debug__" : Str)) = false := by decide) : JE X (.Name x pos) (tC v) := ⟨pe_glob hg hm r hd⟩
theorem eop {op : Operator} {r : R2} (ho : OpR X (binaryOp op) r) (ha : JE X a ta) (hb : JE X b tb) : JE X (.BinOp a op b pos) (tOp r ta tb) := ⟨pe_op ho ha.h hb.h⟩
theorem epowc {a b : Int} {j1 j2 : Nat} {p1 p2 : Pos} (v : Int) (h : decide (0 ≤ b ∧ b ≤ 1000000 ∧ a.natAbs < 2 ^ 64 ∧ a ^ b.toNat = v) = true := by decide +kernel) : JE X (.BinOp (.Constant (.int a) j1 p1) .Pow (.Constant (.int b) j2 p2) pos) (tC (.int v)) := ⟨pe_powc v h⟩
theorem eun {op : UnaryOp} {r : V → Hp → VK → Prop} (ho : UnR X (unaryOp op) r) (ha : JE X a ta) : JE X (.UnaryOp op a pos) (tUn r ta) := ⟨pe_un ho ha.h⟩
theorem enot (ha : JE X a ta) : JE X (.UnaryOp .Not a pos) (tNotV ta) := ⟨pe_not ha.h⟩
theorem eone {op} (h : JE X a ta) : JE X (.BoolOp op [a] pos) ta := ⟨pe_one h.h⟩
theorem eand (ha : JE X a ta) (hb : JE X (.BoolOp .And (b :: rest) pos) tb) : JE X (.BoolOp .And (a :: b :: rest) pos) (tAndV ta tb) := ⟨pe_and ha.h hb.h⟩
theorem eif (hc : JT X c tA) (ha : JE X a ta) (hb : JE X b tb) : JE X (.IfExp c a b pos) (tIf tA ta tb) := ⟨pe_ifExp hc.h ha.h hb.h⟩
theorem ecmp {op : CmpOp} {r : R2} (ho : OpR X (compareOp op) r) (ha : JE X a ta) (hb : JE X b tb) (hm : behindInMarks op b = false) : JE X (.Compare a [op] [b] pos) (tOp r ta tb) := ⟨pe_cmpR ho ha.h hb.h hm⟩
theorem echain {op op' : CmpOp} {r r' : R2} (ho : OpR X (compareOp op) r) (ho' : OpR X (compareOp op') r') (ha : JE X a ta) (hb : JE X b tb) (hc : JE X c tc)
    (hm : lastMarks [op, op'] [b, c] = false := by with_unfolding_all rfl) : JE X (.Compare a [op, op'] [b, c] pos) (tChain r r' ta tb tc) := ⟨pe_chain ho ho' ha.h hb.h hc.h hm⟩
theorem eix {r : R2} (hr : IxR X r) (ha : JE X a ta) (hb : JE X b tb) (hs : PlainIx b) : JE X (.Subscript a b pos) (tOp r ta tb) := ⟨pe_ix hr ha.h hb.h hs⟩
theorem eslice {r : V → Option Int → Option Int → Hp → VK → Prop} {lo hi : Option Expr} {tl th : TO} (hr : SlR X r) (he : JE X e te) (hl : JO X lo tl) (hu : JO X hi th) : JE X (.Subscript e (.Slice lo hi none p) pos) (tSl r te tl th) := ⟨pe_slice hr he.h hl.h hu.h⟩
theorem ecall {x : Str} {k : Nat} {ps : List Str} {sp : Sp} (C : Callee X.prog X.w X.K X.mg X.base x k ps sp) (hr : Room k X.A) (hg : Gl X x) (ha : JA X (e :: es) t)
    (hdb : (x == ("__debug__" : Str)) = false := by decide) (he : starEach (e :: es) X.env = (false, eval e X.env) :: starEach es X.env := by rfl) (hpl : (backTo pos (starEach es X.env)).any (·.1) = false := by rfl) :
    JE X (.Call (.Name x p) (e :: es) [] pos) (tCall sp [] E0 t) := ⟨pe_callF C hr hg ha.h hdb he hpl⟩
theorem ecallB {x : Str} {id : String} {r : List V → Hp → VK → Prop} (hc : CallR X (.builtin id) r) (hg : Gl X x) (hm : X.mg x = none) (hv : bootBuiltins x = some (.builtin id)) (ha : JA X (e :: es) t) (hn : x ≠ "__name__" := by decide) (hdb : (x == ("__debug__" : Str)) = false := by decide)
    (he : starEach (e :: es) X.env = (false, eval e X.env) :: starEach es X.env := by rfl) (hpl : (backTo pos (starEach es X.env)).any (·.1) = false := by rfl) : JE X (.Call (.Name x p) (e :: es) [] pos) (tCB r t) := ⟨pe_callB hc hg hm hv ha.h hn hdb he hpl⟩
theorem ecallTy {x : Str} {T : String} {r : List V → Hp → VK → Prop} (hc : CallR X (.type T) r) (hg : Gl X x) (hm : X.mg x = none) (hv : bootBuiltins x = some (.type T)) (ha : JA X (e :: es) t) (hn : x ≠ "__name__" := by decide) (hdb : (x == ("__debug__" : Str)) = false := by decide)
    (he : starEach (e :: es) X.env = (false, eval e X.env) :: starEach es X.env := by rfl) (hpl : (backTo pos (starEach es X.env)).any (·.1) = false := by rfl) : JE X (.Call (.Name x p) (e :: es) [] pos) (tCB r t) := ⟨pe_callTy hc hg hm hv ha.h hn hdb he hpl⟩
theorem ebm {T id : String} {name : Str} {r : V → List V → Hp → VK → Prop} {apos cpos : Pos} (pa : PlainAttrs T) (slot : Slot T name id) (hty : typeOf (.builtin id) = pure (.type "method_descriptor")) (hm : MtR X id r) (ho : JE X o to) (ha : JA X (e :: es) t)
    (hbase : attributeBase o name X.env (eval o X.env) = eval o X.env := by rfl)
    (hfew : ((backTo cpos (starEach (e :: es) X.env)).all (fun x => !x.1) && (backToKw cpos (keywordEach [] X.env)).all (fun x => x.1.isSome)
      && decide ((e :: es).length + ([] : List Keyword).length + (if ([] : List Keyword).isEmpty then 0 else 1) < 30)) = true := by rfl)
    (hline : (apos.endLine == cpos.line) = true := by rfl) (hs : starEach (e :: es) X.env = (false, eval e X.env) :: starEach es X.env := by rfl) (hplain : (backTo cpos (starEach es X.env)).any (·.1) = false := by rfl) :
    JE X (.Call (.Attribute o name apos) (e :: es) [] cpos) (tBM X.K T r to t) := ⟨pe_bm pa slot hty hm ho.h ha.h hbase hfew hline hs hplain⟩
theorem anil : JA X [] tNil := ⟨pa_nil⟩
theorem acons (ha : JE X e te) (hr : JA X es t) (hs : starEach (e :: es) X.env = (false, eval e X.env) :: starEach es X.env := by rfl) : JA X (e :: es) (tCons te t) := ⟨pa_cons ha.h hr.h hs⟩
theorem tcmp {op : CmpOp} {r : R2} (ho : OpR X (compareOp op) r) (ha : JE X a ta) (hb : JE X b tb) (hm : behindInMarks op b = false) : JT X (.Compare a [op] [b] pos) (tTest (tOp r ta tb)) := ⟨pt_cmpR ho ha.h hb.h hm⟩
theorem tchain {op op' : CmpOp} {r r' : R2} (ho : OpR X (compareOp op) r) (ho' : OpR X (compareOp op') r') (ha : JE X a ta) (hb : JE X b tb) (hc : JE X c tc)
    (hm : lastMarks [op, op'] [b, c] = false := by with_unfolding_all rfl) : JT X (.Compare a [op, op'] [b, c] pos) (tTest (tChain r r' ta tb tc)) := ⟨pt_chain ho ho' ha.h hb.h hc.h hm⟩
theorem tval (h : JE X e te) (he : ∀ whole, isTrue e X.env whole = (do let v ← whole; standAt e.pos; holding [v] (truthy v)) := by intro _; rfl) : JT X e (tB te) := ⟨pt_val h.h he⟩
theorem ttruth (ha : JE X a ta) (he : ∀ whole, isTrue a X.env whole = (do let v ← whole; standAt a.pos; holding [v] (truthy v))) :
    JT X a (fun σ H Q => ta σ H fun x H' => ∃ k, TruV X.K x H' k ∧ Q k H') := ⟨pt_truth ha.h he⟩
theorem tnot (ha : JT X a tA) : JT X (.UnaryOp .Not a pos) (tNot tA) := ⟨pt_not ha.h⟩
theorem tw (h : JW X e tA) : JT X e tA := ⟨PW.pt h.h⟩
theorem wand1 (ha : JT X a tA) : JW X (.BoolOp .And [a] pos) tA := ⟨pw_and1 ha.h⟩
theorem wor1 (ha : JT X a tA) : JW X (.BoolOp .Or [a] pos) tA := ⟨pw_or1 ha.h⟩
theorem wand (ha : JT X a tA) (hb : JW X (.BoolOp .And (b :: rest) pos) tB') : JW X (.BoolOp .And (a :: b :: rest) pos) (tAnd tA tB') := ⟨pw_and ha.h hb.h⟩
theorem wor (ha : JT X a tA) (hb : JW X (.BoolOp .Or (b :: rest) pos) tB') : JW X (.BoolOp .Or (a :: b :: rest) pos) (tOr tA tB') := ⟨pw_or ha.h hb.h⟩
theorem bnil : JB X [] tNext := ⟨pss_nil⟩
theorem bcons (h1 : JS X st u) (h2 : JB X sts v) : JB X (st :: sts) (tSeq u v) := ⟨pss_cons h1.h h2.h⟩
theorem bone (h1 : JS X st u) : JB X [st] u := ⟨pss_one h1.h⟩
theorem bcut (h1 : JS X st u) (h2 : JB X sts v) : JB X (st :: sts) (tCut u v) := ⟨pss_cut h1.h h2.h⟩
theorem sexpr (he : JE X e te) (hs : swapsWith e none pos.line X.env = pure false := by rfl) : JS X (.Expr e pos) (tDrop te) := ⟨ps_expr he.h hs⟩
theorem sret (he : JE X e te) : JS X (.Return (some e) pos) (tRet te) := ⟨ps_ret he.h⟩
theorem sif (hc : JT X c tA) (ha : JB X sts u) (hb : JB X sts' v) : JS X (.If c sts sts' pos) (tIfS tA u v) := ⟨ps_if hc.h ha.h hb.h⟩
theorem sset {i : Nat} {x : Str} (hN : X.N.Nodup) (hi : X.N[i]? = some x) (hx : Loc X.env.scope x) (he : JE X e te) (hs : swapsWith e (some (.Name x p)) pos.line X.env = pure false := by rfl) (hf : X.fn x = true ∨ X.env.scope.names.lookup x = some .local := by first | exact .inl rfl | exact .inr rfl | assumption) :
    JS X (.Assign [.Name x p] e pos) (tAsg te (gName i)) := ⟨ps_set hN hi hx he.h hs hf⟩
theorem sasg {tg : Expr} {g : TG} (he : JE X e te) (hg : JG X tg g) (hs : swapsWithSole [tg] e pos.line X.env = pure false := by rfl) (hw : swappedStores [tg] e X.env = pure none := by rfl)
    (h1 : (assignEach [tg] X.env).map (·.2) = [assign tg X.env] := by rfl) : JS X (.Assign [tg] e pos) (tAsg te g) := ⟨ps_asg he.h hg.h hs hw h1⟩
theorem sfor {tg iter : Expr} {wi : TI} {g : TG} (hp : PassesOwn (model X.prog X.w) X.A X.env X.xe) (hc : X.calm = true) (hi : JI X tg iter wi) (hg : JG X tg g) (hb : JB X sts u)
    (hs : ∀ x, foldedSetIterable iter X.env x = pure x := by intro _; rfl) : JS X (.For tg iter sts [] pos) (tFor wi g u) := ⟨ps_for hp hc hi.h hg.h hb.h hs⟩
theorem swhile (hp : PassesOwn (model X.prog X.w) X.A X.env X.xe) (hc : JT X c tA) (hb : JB X sts u) : JS X (.While c sts [] pos) (tWhile tA u) := ⟨ps_while hp hc.h hb.h⟩
theorem gname {i : Nat} {x : Str} (hN : X.N.Nodup) (hi : X.N[i]? = some x) (hx : Loc X.env.scope x) (hf : X.fn x = true ∨ X.env.scope.names.lookup x = some .local := by first | exact .inl rfl | exact .inr rfl | assumption) : JG X (.Name x pos) (gName i) := ⟨pg_name hN hi hx hf⟩
theorem gsub {i : Expr} {ti : TE} {t : TSet} (ho : JE X o to) (hi : JE X i ti) (hs : PSet X t)
    (ha : ∀ v, assign (.Subscript o i pos) X.env v = (do
      let ov ← holding [v] (eval o X.env)
      let iv ← holding [v, ov] (eval i X.env)
      standAt pos
      holding [v, ov, iv] (setItem ov iv v)
      release [v, ov, iv] []) := by intro _; rfl) : JG X (.Subscript o i pos) (gSub to ti t) := ⟨pg_sub ho.h hi.h hs ha⟩
theorem gnil : JGs X [] gNil := ⟨pgs_nil⟩
theorem gcons {t : TG} {u : TGs} (h1 : JG X e t) (h2 : JGs X es u) (hs : (assignEach (e :: es) X.env).map (·.2) = assign e X.env :: (assignEach es X.env).map (·.2) := by rfl) : JGs X (e :: es) (gCons t u) := ⟨pgs_cons h1.h h2.h hs⟩
theorem irange1 {tg : Expr} (hg : Gl X "range") (hm : X.mg "range" = none) (ha : JA X [a] t) (hs : starEach [a] X.env = [(false, eval a X.env)] := by rfl) : JI X tg (.Call (.Name "range" p) [a] [] pos) (iRng1 t) := ⟨pi_range1 hg hm ha.h hs⟩
theorem irange2 {tg : Expr} (hg : Gl X "range") (hm : X.mg "range" = none) (ha : JA X [a, b] t) (hs : starEach [a, b] X.env = [(false, eval a X.env), (false, eval b X.env)] := by rfl) (hs2 : starEach [b] X.env = [(false, eval b X.env)] := by rfl) :
    JI X tg (.Call (.Name "range" p) [a, b] [] pos) (iRng2 t) := ⟨pi_range2 hg hm ha.h hs hs2⟩
theorem ilist {tg l : Expr} (hl : JE X l te) : JI X tg l (iList X.K te) := ⟨pi_list hl.h⟩
theorem itup {tg l : Expr} (hl : JE X l te) : JI X tg l (iTup X.K te) := ⟨pi_tup hl.h⟩
theorem onone : JO X none tNoPart := ⟨po_none⟩
theorem osome (h : JE X e te) : JO X (some e) (tPart te) := ⟨po_some h.h⟩
end
section
variable {P : Program} {w : World} {K : PySem.W.Frag} {mg : Str → Option Value} {base : Heap}
theorem Fun.okJ {x qual : Str} {st : Stmt} {f : Addr} {fd : FuncData} {N ps : List Str} {k : Nat} {sp : Sp} (F : Fun K x qual st f fd) (S : FnScope N ps (defScope st)) (len : ∀ vs H Q E, sp vs H Q E → vs.length = ps.length)
    (hbody : ∀ (cdv : Value) (A : Around) (outer : List Env) (s : Shared) (H : Hp) (vs : List V) (Q : VK) (E : XK), Room k (A.deeper (envOfC qual (defScope st) s.heap.objs.size f cdv)) → sp vs H Q E →
      ∃ t, JB (cxOf CX0 P w K mg base N qual (defScope st) f cdv A outer s H E).nox (defBody st) t ∧ t { nx := fun _ H' => Q .non H', rt := Q } (start N vs) H) : FnOk P w K mg base CX0 (k + 1) f fd ps sp :=
  F.ok S len fun cdv A outer s H vs Q E hr h => let ⟨t, a, b⟩ := hbody cdv A outer s H vs Q E hr h; ⟨t, a.h, b⟩
end
end L2
set_option Elab.async false
set_option linter.all false
set_option maxRecDepth 100000
namespace L2
open PySem PySem.Spec PyProof.Rows
mutual
def Is (K : PySem.W.Frag) (H : Hp) : PyData → V → Prop
  | .none, v => v = .non
  | .bool b, v => v = .bl b
  | .int i, v => v = .int i
  | .str x, v => v = .str x
  | .list ds, v => ∃ a vs, v = .ref a ∧ SqL K H a vs ∧ IsAll K H ds vs
  | .tuple ds, v => ∃ a vs, v = .ref a ∧ SqT K H a vs ∧ IsAll K H ds vs
  | .dict _, _ => False
def IsAll (K : PySem.W.Frag) (H : Hp) : List PyData → List V → Prop
  | [], vs => vs = []
  | d :: ds, vs => ∃ v r, vs = v :: r ∧ Is K H d v ∧ IsAll K H ds r
end
section
variable {X : Cx} {pins : List (Addr × Obj)} {σ : St} {H : Hp} {s : Shared}
mutual
theorem Is.reads (I : Inv X pins σ H s) : ∀ {d : PyData} {v : V} {u : Value}, Is X.K H d v → RelV v u → ∃ as, Reads s.heap u d as
  | .none, v, u, h, r => by unfold Is at h; subst h; cases r; exact ⟨_, .none⟩
  | .bool b, v, u, h, r => by unfold Is at h; subst h; cases r; exact ⟨_, .bool b⟩
  | .int i, v, u, h, r => by unfold Is at h; subst h; obtain ⟨t, rfl⟩ := r; exact ⟨_, .int i t⟩
  | .str x, v, u, h, r => by unfold Is at h; subst h; obtain ⟨t, rfl⟩ := r; exact ⟨_, .str x t⟩
  | .list ds, v, u, h, r => by
    unfold Is at h
    obtain ⟨a, vs, rfl, hs, ha⟩ := h
    cases r
    obtain ⟨its, rv, ⟨o, n, e, hc, _, hd⟩, _⟩ := I.list hs
    obtain ⟨as, q⟩ := IsAll.reads I ha rv
    exact ⟨_, .list e hc hd (by simpa using q)⟩
  | .tuple ds, v, u, h, r => by
    unfold Is at h
    obtain ⟨a, vs, rfl, hs, ha⟩ := h
    cases r
    obtain ⟨its, rv, ⟨o, e, hc, n, hd⟩, _⟩ := I.tuple hs
    obtain ⟨as, q⟩ := IsAll.reads I ha rv
    exact ⟨_, .tuple e hc hd (by simpa using q)⟩
  | .dict _, v, u, h, r => by unfold Is at h; exact h.elim
theorem IsAll.reads (I : Inv X pins σ H s) : ∀ {ds : List PyData} {vs : List V} {us : List Value}, IsAll X.K H ds vs → Vals vs us → ∃ as, ReadsAll s.heap us ds as
  | [], vs, us, h, r => by unfold IsAll at h; subst h; cases r; exact ⟨_, .nil⟩
  | d :: ds, vs, us, h, r => by
    unfold IsAll at h
    obtain ⟨v, rs, rfl, h1, h2⟩ := h
    cases r with
    | cons r1 r2 =>
      obtain ⟨as, q1⟩ := Is.reads I h1 r1
      obtain ⟨bs, q2⟩ := IsAll.reads I h2 r2
      exact ⟨_, .cons q1 q2⟩
end
end
section
variable {X : Cx}
def rEqD (K : PySem.W.Frag) (neg : Bool) : R2 := fun x y H Q => ∃ d e, Is K H d x ∧ Is K H e y ∧ SeqAt.shaped d = true ∧ SeqAt.shaped e = true ∧ Q (.bl (if neg = true then !PyData.eqv d e else PyData.eqv d e)) H
theorem op_eqD (hu : X.A.units + 64 < cLine) : OpR X (compareOp .Eq) (rEqD X.K false) := by
  intro pins s σ H x y v u Q I rx ry h
  obtain ⟨d, e, hd, he, sd, se, q⟩ := h
  obtain ⟨as, ra⟩ := hd.reads I rx
  obtain ⟨bs, rb⟩ := he.reads I ry
  exact SeqAt.compareEq_shaped ra rb sd se hu ⟨.bl _, H, I, rfl, q⟩
end
mutual
def nob : PyData → Bool
  | .none => true
  | .bool _ => false
  | .int _ => true
  | .str _ => true
  | .list ds => nobAll ds
  | .tuple ds => nobAll ds
  | .dict _ => false
def nobAll : List PyData → Bool
  | [] => true
  | d :: ds => nob d && nobAll ds
end
mutual
theorem eqv_iff : ∀ {d e : PyData}, nob d = true → nob e = true → (PyData.eqv d e = true ↔ d = e)
  | .none, e, hd, he => by cases e <;> simp [PyData.eqv]
  | .bool _, e, hd, he => by simp [nob] at hd
  | .int i, e, hd, he => by cases e <;> simp [PyData.eqv, nob] at *
  | .str x, e, hd, he => by cases e <;> simp [PyData.eqv, nob] at *
  | .list ds, e, hd, he => by
    cases e with
    | list es =>
      simp only [nob] at hd he
      simp only [PyData.eqv, PyData.list.injEq]
      exact eqvAll_iff hd he
    | _ => simp [PyData.eqv]
  | .tuple ds, e, hd, he => by
    cases e with
    | tuple es =>
      simp only [nob] at hd he
      simp only [PyData.eqv, PyData.tuple.injEq]
      exact eqvAll_iff hd he
    | _ => simp [PyData.eqv]
  | .dict _, e, hd, he => by simp [nob] at hd
theorem eqvAll_iff : ∀ {ds es : List PyData}, nobAll ds = true → nobAll es = true → (PyData.eqvAll ds es = true ↔ ds = es)
  | [], es, _, _ => by cases es <;> simp [PyData.eqvAll]
  | d :: ds, es, hd, he => by
    cases es with
    | nil => simp [PyData.eqvAll]
    | cons e es =>
      simp only [nobAll, Bool.and_eq_true] at hd he
      simp only [PyData.eqvAll, Bool.and_eq_true, List.cons.injEq]
      rw [eqv_iff hd.1 he.1, eqvAll_iff hd.2 he.2]
end
mutual
theorem Is.same {K : PySem.W.Frag} {H H' : Hp} (h : Same H H') : ∀ {d : PyData} {v : V}, Is K H d v → Is K H' d v
  | .none, v, q => by unfold Is at q ⊢; exact q
  | .bool b, v, q => by unfold Is at q ⊢; exact q
  | .int i, v, q => by unfold Is at q ⊢; exact q
  | .str x, v, q => by unfold Is at q ⊢; exact q
  | .list ds, v, q => by
    unfold Is at q ⊢
    obtain ⟨a, vs, e, hs, ha⟩ := q
    exact ⟨a, vs, e, h.seq hs, IsAll.same h ha⟩
  | .tuple ds, v, q => by
    unfold Is at q ⊢
    obtain ⟨a, vs, e, hs, ha⟩ := q
    refine ⟨a, vs, e, ?_, IsAll.same h ha⟩
    rcases hs with (hs | ⟨o, hs⟩) | hs
    · exact .inl (.inl (h _ _ hs))
    · exact .inl (.inr ⟨o, h _ _ hs⟩)
    · exact .inr hs
  | .dict _, v, q => by unfold Is at q; exact q.elim
theorem IsAll.same {K : PySem.W.Frag} {H H' : Hp} (h : Same H H') : ∀ {ds : List PyData} {vs : List V}, IsAll K H ds vs → IsAll K H' ds vs
  | [], vs, q => by unfold IsAll at q ⊢; exact q
  | d :: ds, vs, q => by
    unfold IsAll at q ⊢
    obtain ⟨v, r, e, h1, h2⟩ := q
    exact ⟨v, r, e, Is.same h h1, IsAll.same h h2⟩
end
end L2
set_option Elab.async false
set_option linter.all false
set_option maxRecDepth 100000
namespace L2
open PySem PySem.Spec PyProof.Rows
theorem absV_rel : ∀ {u : Value} {x : V}, absV u = some x → RelV x u := by
  intro u x h
  cases u <;> simp only [absV, Option.some.injEq] at h <;> first | (subst h; first | rfl | exact ⟨_, rfl⟩) | cases h
theorem absV_all : ∀ {us : List Value} {xs : List V}, us.mapM absV = some xs → Vals xs us := by
  intro us
  induction us with
  | nil => intro xs h; simp at h; subst h; exact .nil
  | cons u us ih =>
    intro xs h
    rw [List.mapM_cons] at h
    cases e1 : absV u with
    | none => rw [e1] at h; simp at h
    | some x =>
      cases e2 : us.mapM absV with
      | none => rw [e1, e2] at h; simp at h
      | some ys =>
        rw [e1, e2] at h
        simp at h
        subst h
        exact .cons (absV_rel e1) (ih e2)
def kTup (K : PySem.W.Frag) (a : Addr) : Option (List V) := match K.lookup a with
  | some ⟨.type n, _, .seq its _, _⟩ => if n = "tuple" then (if its.size ≤ sizeLine then its.toList.mapM absV else none) else none
  | _ => none
theorem kTup_sq {K : PySem.W.Frag} {H : Hp} {a : Addr} {xs : List V} (h : kTup K a = some xs) : SqT K H a xs := by
  unfold kTup at h
  split at h
  · next n dd its k sl e =>
    by_cases h1 : n = "tuple"
    · rw [if_pos h1] at h
      by_cases h2 : its.size ≤ sizeLine
      · rw [if_pos h2] at h
        subst h1
        exact .inr ⟨_, its, k, e, rfl, rfl, h2, absV_all h⟩
      · rw [if_neg h2] at h; cases h
    · rw [if_neg h1] at h; cases h
  · cases h
def tupQ (K : PySem.W.Frag) (H : Hp) (a : Addr) : Option (List V) := match H a with
  | some (.tup xs) => some xs
  | some _ => none
  | none => kTup K a
def seqQ (K : PySem.W.Frag) (H : Hp) (a : Addr) : Option (List V) := match H a with
  | some (.lst xs) => some xs
  | some (.tup xs) => some xs
  | some (.frz _ (.lst xs)) => some xs
  | some _ => none
  | none => kTup K a
section
variable {K : PySem.W.Frag} {H H' : Hp} {a b : Addr} {xs : List V} {o : HO}
theorem tupQ_sq (h : tupQ K H a = some xs) : SqT K H a xs := by
  unfold tupQ at h
  split at h
  · next e => cases h; exact .inl (.inl e)
  · cases h
  · exact kTup_sq h
theorem seqQ_sq (h : seqQ K H a = some xs) : SqL K H a xs ∨ SqT K H a xs := by
  unfold seqQ at h
  split at h
  · next e => cases h; exact .inl (.inl (.inl e))
  · next e => cases h; exact .inr (.inl (.inl e))
  · next e => cases h; exact .inl (.inl (.inr ⟨_, e⟩))
  · cases h
  · exact .inr (kTup_sq h)
theorem seqQ_T (h : tupQ K H a = some xs) : seqQ K H a = some xs := by
  unfold tupQ at h
  unfold seqQ
  split at h
  · next e => rw [e]; exact h
  · cases h
  · next e => rw [e]; exact h
theorem seqQ_lst (h : H a = some (.lst xs)) : seqQ K H a = some xs := by unfold seqQ; rw [h]
theorem seqQ_tup (h : H a = some (.tup xs)) : seqQ K H a = some xs := by unfold seqQ; rw [h]
theorem tupQ_tup (h : H a = some (.tup xs)) : tupQ K H a = some xs := by unfold tupQ; rw [h]
theorem seqQ_updL : seqQ K (upd H a (.lst xs)) a = some xs := seqQ_lst upd_same
theorem seqQ_updT : seqQ K (upd H a (.tup xs)) a = some xs := seqQ_tup upd_same
theorem tupQ_updT : tupQ K (upd H a (.tup xs)) a = some xs := tupQ_tup upd_same
structure Ext (K : PySem.W.Frag) (H H' : Hp) : Prop where
  same : Same H H'
  mod : ∀ a xs, H a = none → kTup K a = some xs → H' a = none
theorem Ext.refl : Ext K H H := ⟨Same.refl H, fun _ _ h _ => h⟩
theorem Ext.trans {H1 H2 : Hp} (x : Ext K H H1) (y : Ext K H1 H2) : Ext K H H2 := ⟨x.same.trans y.same, fun a xs h k => y.mod a xs (x.mod a xs h k) k⟩
theorem Ext.tup (x : Ext K H H') (h : tupQ K H a = some xs) : tupQ K H' a = some xs := by
  unfold tupQ at h ⊢
  split at h
  · next e => rw [x.same _ _ e]; exact h
  · cases h
  · next e => rw [x.mod a xs e h]; exact h
end
section
variable {X : Cx}
def rIxQ (K : PySem.W.Frag) : R2 := fun x y H Q => ∃ p i xs v, x = .ref p ∧ y = .int i ∧ seqQ K H p = some xs ∧ atI xs i = some v ∧ Q v H
theorem ix_Q : IxR X (rIxQ X.K) := by
  intro value slice pins s σ H x y v u Q I rx ry h hs
  obtain ⟨p, i, xs, z, rfl, rfl, hq, he, q⟩ := h
  rcases seqQ_sq (K := X.K) hq with h1 | h1
  · exact ix_list value slice pins s σ H _ _ v u Q I rx ry ⟨p, xs, i, z, rfl, rfl, h1, he, q⟩ hs
  · exact ix_tup value slice pins s σ H _ _ v u Q I rx ry ⟨p, xs, i, z, rfl, rfl, h1, he, q⟩ hs
theorem call_lenQ : CallR X (.builtin "len") (fun xs H Q => ∃ p ys, xs = [.ref p] ∧ seqQ X.K H p = some ys ∧ Q (.int ys.length) H) := by
  intro pins s σ H xs us Q I r h
  obtain ⟨p, ys, rfl, hq, q⟩ := h
  exact call_len_seq pins s σ H _ us Q I r ⟨p, ys, rfl, seqQ_sq hq, q⟩
end
end L2
namespace L2
open PySem PySem.Spec PyProof.Rows
def new (K : PySem.W.Frag) (H : Hp) (p : Addr) : Prop := H p = none ∧ kTup K p = none
theorem new_upd {K : PySem.W.Frag} {H : Hp} {a p : Addr} {o : HO} : new K (upd H a o) p ↔ p ≠ a ∧ new K H p := by
  unfold new
  rw [upd_none, and_assoc]
theorem kTup_none {K : PySem.W.Frag} {a : Addr} (h : K.lookup a = none) : kTup K a = none := by unfold kTup; rw [h]
section
variable {X : Cx} {es : List Expr} {t : TA} {pos : Pos} {pins : List (Addr × Obj)} {σ : St} {H : Hp} {s : Shared}
theorem Inv.new (I : Inv X pins σ H s) : L2.new X.K H s.heap.objs.size := by
  refine ⟨I.hok.fresh (Nat.le_refl _), kTup_none ?_⟩
  cases e : X.K.lookup s.heap.objs.size with
  | none => rfl
  | some o => exact absurd (Heap.lt_size (I.kIn _ o e)) (Nat.lt_irrefl _)
def tTupQ (K : PySem.W.Frag) (t : TA) : TE := fun σ H Q => t σ H fun xs H1 => xs.length ≤ sizeLine ∧ ∀ p, L2.new K H1 p → Q (.ref p) (upd H1 p (.tup xs))
def tLstQ (K : PySem.W.Frag) (t : TA) : TE := fun σ H Q => t σ H fun xs H1 => xs.length ≤ sizeLine ∧ ∀ p, L2.new K H1 p → Q (.ref p) (upd H1 p (.lst xs))
theorem etupQ {k} (h : JA X es t) : JE X (.Tuple es k pos) (tTupQ X.K t) := ⟨by
  intro pins s σ H Q I hq
  refine wpAny_Tuple_spliced (thn (h.h pos pins s σ H _ I hq) fun us s1 ⟨xs, H1, I1, r, z, q⟩ => ⟨by rw [← r.length]; exact z, ?_⟩)
  refine ⟨.ref s1.heap.objs.size, upd H1 s1.heap.objs.size (.tup xs), I1.laid (t' := s1.toks) (fun b u e => Heap.get?_push_of_some _ e) (Nat.le_refl _) ?_, rfl, q _ I1.new⟩
  exact ⟨z, us, r, ⟨_, Heap.get?_push_size _ rfl, rfl, _, rfl⟩⟩⟩
theorem elstQ (h : JA X es t) : JE X (.List es pos) (tLstQ X.K t) := ⟨by
  intro pins s σ H Q I hq
  refine wpAny_List_spliced (thn (h.h pos pins s σ H _ I hq) fun us s1 ⟨xs, H1, I1, r, z, q⟩ => ⟨by rw [← r.length]; exact z, ?_⟩)
  refine ⟨.ref s1.heap.objs.size, upd H1 s1.heap.objs.size (.lst xs), I1.laid (t' := s1.toks) (fun b u e => Heap.get?_push_of_some _ e) (Nat.le_refl _) ?_, rfl, q _ I1.new⟩
  exact ⟨z, us, 0, r, Heap.get?_push_size _ rfl⟩⟩
def rCatQ (K : PySem.W.Frag) : R2 := fun x y H Q => ∃ l b xs zs, x = .ref l ∧ y = .ref b ∧ H l = some (.lst xs) ∧ H b = some (.lst zs) ∧ xs.length + zs.length ≤ sizeLine ∧ ∀ p, L2.new K H p → Q (.ref p) (upd H p (.lst (xs ++ zs)))
theorem op_catQ : OpR X (binaryOp .Add) (rCatQ X.K) := by
  intro pins s σ H x y v u Q I rx ry h
  obtain ⟨l, b, xs, zs, rfl, rfl, hH, hB, hz, q⟩ := h
  cases rx
  cases ry
  obtain ⟨z, its, n, r, hl, e⟩ := I.lstM hH
  obtain ⟨z2, its2, n2, r2, hl2, e2⟩ := I.lstM hB
  refine PySem.P.add_list e e2 ?_ (by rw [List.size_toArray, List.size_toArray]; omega)
  have ea : its.toArray ++ its2.toArray = (its ++ its2).toArray := by simp
  rw [ea]
  exact ⟨.ref _, _, I.lnew (t' := s.toks) (r.append r2) (by rw [List.length_append]; omega), rfl, q _ I.new⟩
end
structure Kp (K : PySem.W.Frag) (p : Addr) (H H' : Hp) : Prop where
  keep : ∀ q o, H q = some o → q ≠ p → H' q = some o
  mod : ∀ a xs, H a = none → kTup K a = some xs → H' a = none
section
variable {K : PySem.W.Frag} {p a : Addr} {H H' H1 H2 : Hp} {xs ys : List V} {o : HO}
theorem Kp.refl : Kp K p H H := ⟨fun _ _ h _ => h, fun _ _ h _ => h⟩
theorem Kp.trans (x : Kp K p H H1) (y : Kp K p H1 H2) : Kp K p H H2 := ⟨fun q o h n => y.keep q o (x.keep q o h n) n, fun a xs h k => y.mod a xs (x.mod a xs h k) k⟩
theorem Kp.upd (h : H p = some (.lst xs)) : Kp K p H (upd H p o) := ⟨fun q u e n => by rw [upd_ne n]; exact e, fun b ys e _ => by rw [upd_ne (fun z => by rw [z, h] at e; cases e)]; exact e⟩
theorem Kp.new {q : Addr} (h : L2.new K H q) : Kp K p H (L2.upd H q o) := ⟨fun r u e _ => by rw [upd_ne (ne_of_none e h.1)]; exact e, fun b ys e k => by rw [upd_ne (fun z => by rw [z, h.2] at k; cases k)]; exact e⟩
theorem Kp.tup (x : Kp K p H H') (hp : H p = some (.lst ys)) (h : tupQ K H a = some xs) : tupQ K H' a = some xs := by
  unfold tupQ at h ⊢
  split at h
  · next e => rw [x.keep _ _ e (ne_of e hp (by intro z; cases z))]; exact h
  · cases h
  · next e => rw [x.mod a xs e h]; exact h
theorem Ext.new {q : Addr} (h : L2.new K H q) : Ext K H (L2.upd H q o) := ⟨fun b u e => by rw [upd_ne (ne_of_none e h.1)]; exact e, fun b ys e k => by rw [upd_ne (fun z => by rw [z, h.2] at k; cases k)]; exact e⟩
theorem Kp.ext (x : Kp K p (L2.upd H p o) H') (h : L2.new K H p) : Ext K H H' := by
  refine ⟨fun b u e => ?_, fun b ys e k => ?_⟩
  · have n : b ≠ p := ne_of_none e h.1
    exact x.keep b u (by rw [upd_ne n]; exact e) n
  · exact x.mod b ys (by rw [upd_ne (fun z => by rw [z, h.2] at k; cases k)]; exact e) k
theorem Ext.kp (x : Ext K H H') : Kp K p H H' := ⟨fun q o e _ => x.same q o e, x.mod⟩
end
end L2
namespace L2
open PySem PySem.Spec PyProof.Rows
section
variable {K : PySem.W.Frag} {p a : Addr} {H H' : Hp} {xs : List V}
end
end L2
namespace L2
open PySem PySem.Spec PyProof.Rows
def TyQ (K : PySem.W.Frag) (H : Hp) (x : V) (t : Value) : Prop := TyOf K H x t ∨ ∃ a xs, x = .ref a ∧ tupQ K H a = some xs ∧ t = .type "tuple"
theorem TyQ.tup {K : PySem.W.Frag} {H : Hp} {a : Addr} {xs : List V} (h : tupQ K H a = some xs) : TyQ K H (.ref a) (.type "tuple") := .inr ⟨a, xs, rfl, h, rfl⟩
section
variable {X : Cx}
end
end L2
namespace L2
open PySem PySem.Spec PyProof.Rows
section
variable {X : Cx}
def rInQ (K : PySem.W.Frag) (neg : Bool) : R2 := fun x y H Q => ∃ p xs, y = .ref p ∧ seqQ K H p = some xs ∧ flatV x = true ∧ xs.all flatV = true ∧ Q (.bl (if neg = true then !inV x xs else inV x xs)) H
end
end L2
namespace L2
open PySem PySem.Spec PyProof.Rows
def ModFree (K : PySem.W.Frag) (H : Hp) : Prop := ∀ b xs, kTup K b = some xs → H b = none
theorem kTup_look {K : PySem.W.Frag} {a : Addr} {xs : List V} (h : kTup K a = some xs) : ∃ o, K.lookup a = some o := by
  cases e : K.lookup a with
  | none => rw [kTup_none e] at h; cases h
  | some o => exact ⟨o, rfl⟩
theorem FnOk.mod {P : Program} {w : World} {K : PySem.W.Frag} {mg : Str → Option Value} {base : Heap} {CX : CXT} {k : Nat} {f : Addr} {fd : FuncData} {ps : List Str} {sp : Sp} (len : ∀ vs H Q E, sp vs H Q E → vs.length = ps.length)
    (F : FnOk P w K mg base CX k f fd ps (fun vs H Q E => sp vs H Q E ∧ ModFree K H)) : FnOk P w K mg base CX k f fd ps sp :=
  ⟨len, fun A outer s H args us vs Q E hr e0 hb r h => F.run A outer s H args us vs Q E hr e0 hb r ⟨h, fun b xs hk => by
    obtain ⟨o, e⟩ := kTup_look hk
    exact (e0.bs b o (e0.mod.kin b o e)).2⟩⟩
section
variable {P : Program} {w : World} {K : PySem.W.Frag} {mg : Str → Option Value} {base : Heap}
theorem Fun.okM {x qual : Str} {st : Stmt} {f : Addr} {fd : FuncData} {N ps : List Str} {k : Nat} {sp : Sp} (F : Fun K x qual st f fd) (S : FnScope N ps (defScope st)) (len : ∀ vs H Q E, sp vs H Q E → vs.length = ps.length)
    (hbody : ∀ (cdv : Value) (A : Around) (outer : List Env) (s : Shared) (H : Hp) (vs : List V) (Q : VK) (E : XK), Room k (A.deeper (envOfC qual (defScope st) s.heap.objs.size f cdv)) → ModFree K H → sp vs H Q E →
      ∃ t, JB (cxOf CX0 P w K mg base N qual (defScope st) f cdv A outer s H E).nox (defBody st) t ∧ t { nx := fun _ H' => Q .non H', rt := Q } (start N vs) H) : FnOk P w K mg base CX0 (k + 1) f fd ps sp :=
  FnOk.mod len (F.okJ S (fun vs H Q E h => len vs H Q E h.1) fun cdv A outer s H vs Q E hr h => hbody cdv A outer s H vs Q E hr h.2 h.1)
end
theorem ModFree.tup {K : PySem.W.Frag} {H : Hp} {a : Addr} {xs : List V} (m : ModFree K H) (h : kTup K a = some xs) : tupQ K H a = some xs := by
  unfold tupQ
  rw [m a xs h]
  exact h
theorem ModFree.ext {K : PySem.W.Frag} {H H' : Hp} (m : ModFree K H) (x : Ext K H H') : ModFree K H' := fun b xs h => x.mod b xs (m b xs h) h
end L2
namespace L2
open PySem PySem.Spec PyProof.Rows
def Itr3 (lo st : Int) (n : Nat) : It := ⟨fun i _ => i < n, fun i H x H' => H' = H ∧ x = .int (lo + i * st), fun i _ => n ≤ i⟩
section
variable {X : Cx} {tg : Expr}
def iRng3 (ta : TA) : TI := fun σ H R => ta σ H fun vs H1 => ∃ (i j c : Int) (n : Nat), vs = [.int i, .int j, .int c] ∧ c ≠ 0 ∧ c.natAbs < 1073741824 ∧ Builtin.Range.small i j c = true ∧ Builtin.Range.rangeSize i j c = (n : Int) ∧ R (Itr3 i c n) H1
end
section
variable {K : PySem.W.Frag} {ta : TA} {g : TG} {tb : TS} {D : Ends} {σ : St} {H : Hp} {lo stp : Int} {n : Nat}
theorem tFor_rng3 : tFor (iRng3 ta) g tb D σ H = ta σ H (fun vs H1 => ∃ (i j c : Int) (n : Nat), vs = [.int i, .int j, .int c] ∧ c ≠ 0 ∧ c.natAbs < 1073741824 ∧ Builtin.Range.small i j c = true ∧ Builtin.Range.rangeSize i j c = (n : Int) ∧ Loop (Itr3 i c n) g tb D σ H1) := rfl
end
end L2
namespace L2
open PySem PySem.Spec PyProof.Rows
section
variable {X : Cx}
def rSlQ (K : PySem.W.Frag) : V → Option Int → Option Int → Hp → VK → Prop := fun x lo hi H Q => ∃ a xs, x = .ref a ∧ SqL K H a xs ∧ ∀ p, L2.new K H p → Q (.ref p) (upd H p (.lst (cutV xs lo hi)))
theorem sl_listQ : SlR X (rSlQ X.K) := by
  intro pins s σ H x v vl vu lo hi sl Q I rx hs pl pu h
  obtain ⟨a, xs, rfl, hx, q⟩ := h
  cases rx
  obtain ⟨its, r, ht, hz⟩ := I.list hx
  have hlen := r.length
  refine ⟨"list", _, slot_list_getitem.lookup, ht.isList.typeIs, ?_⟩
  refine wpAny_getItem_list_slice ht.isList hs pl pu .none (by simp) ?_ (by rw [List.size_toArray] <;> omega)
  rw [slicePick_cut, ← hlen]
  refine ⟨.ref s.heap.objs.size, _, I.laid (t' := s.toks) (o := .lst (cutV xs lo hi)) (fun b ob q => Heap.get?_push_of_some _ q) (Nat.le_refl _) ?_, rfl, q _ I.new⟩
  exact ⟨Nat.le_trans (cutV_length xs lo hi) hz, _, 0, (r.drop (HT.sIx xs.length 0 lo)).take (HT.sIx xs.length xs.length hi - HT.sIx xs.length 0 lo), Heap.get?_push_size _ rfl⟩
end
end L2
set_option Elab.async false
set_option linter.all false
set_option maxRecDepth 100000
namespace L2
open PySem PySem.Spec PyProof.Rows
section
variable {X : Cx} {es : List Expr} {pos : Pos}
def gTupQ (K : PySem.W.Frag) (n : Nat) (t : TGs) : TG := fun v σ H Q => ∃ a xs, v = .ref a ∧ tupQ K H a = some xs ∧ xs.length = n ∧ t xs σ H Q
theorem gtupQ {k : Nat} {t : TGs} {n : Nat} (hc : X.calm = true) (h : JGs X es t) (hn : (assignEach es X.env).length = n := by rfl) (hst : (assignEach es X.env).findIdx? (·.1) = none := by rfl) : JG X (.Tuple es k pos) (gTupQ X.K n t) :=
  ⟨fun pins s σ H v u Q I r ⟨a, xs, e, h1, h2, h3⟩ => pg_tup hc h.h hn hst pins s σ H v u Q I r ⟨a, xs, e, tupQ_sq h1, h2, h3⟩⟩
end
theorem iteT' {c : Prop} [Decidable c] {a b : Prop} (h : c) (x : a) : if c then a else b := by rw [if_pos h]; exact x
theorem iteF' {c : Prop} [Decidable c] {a b : Prop} (h : ¬ c) (x : b) : if c then a else b := by rw [if_neg h]; exact x
theorem kTup_of {K : PySem.W.Frag} {a : Addr} {d : Option Addr} {its : Array Value} {k : Nat} {sl : Array (Option Value)} {xs : List V} (h : K.lookup a = some ⟨.type "tuple", d, .seq its k, sl⟩) (hz : its.size ≤ 1000) (e : its.toList.mapM absV = some xs) : kTup K a = some xs := by
  unfold kTup
  rw [h]
  simp only [if_true]
  rw [if_pos (small_le hz)]
  exact e
end L2
namespace L2
open PySem PySem.Spec PyProof.Rows
theorem cutV_to (xs : List V) (k : Nat) : cutV xs none (some (k : Int)) = xs.take k := by
  unfold cutV
  rw [HT.sIx_none, HT.sIx_nat, List.drop_zero, Nat.sub_zero]
  by_cases h : k ≤ xs.length
  · rw [Nat.min_eq_left h]
  · rw [Nat.min_eq_right (by omega), List.take_of_length_le (Nat.le_refl _), List.take_of_length_le (by omega)]
theorem cutV_from (xs : List V) (k : Nat) : cutV xs (some (k : Int)) none = xs.drop k := by
  unfold cutV
  rw [HT.sIx_none, HT.sIx_nat]
  by_cases h : k ≤ xs.length
  · rw [Nat.min_eq_left h, List.take_of_length_le (by rw [List.length_drop]; exact Nat.le_refl _)]
  · rw [Nat.min_eq_right (by omega), List.drop_of_length_le (Nat.le_refl _), List.drop_of_length_le (by omega)]; simp
end L2
namespace L2
open PySem PySem.Spec PyProof.Rows
theorem Ext.at {K : PySem.W.Frag} {H H' : Hp} {a : Addr} {o : HO} (x : Ext K H H') (h : H a = some o) : H' a = some o := x.same _ _ h
theorem Ext.seqQ {K : PySem.W.Frag} {H H' : Hp} {a : Addr} {xs : List V} (x : Ext K H H') (h : seqQ K H a = some xs) : seqQ K H' a = some xs := by
  unfold L2.seqQ at h ⊢
  split at h
  · next e => rw [x.same _ _ e]; exact h
  · next e => rw [x.same _ _ e]; exact h
  · next e => rw [x.same _ _ e]; exact h
  · cases h
  · next e => rw [x.mod a xs e h]; exact h
end L2
namespace L2
open PySem PySem.Spec PyProof.Rows
structure Kp2 (K : PySem.W.Frag) (p q : Addr) (H H' : Hp) : Prop where
  keep : ∀ r o, H r = some o → r ≠ p → r ≠ q → H' r = some o
  mod : ∀ a xs, H a = none → kTup K a = some xs → H' a = none
section
variable {K : PySem.W.Frag} {p q : Addr} {H H' H1 H2 : Hp} {o o' : HO}
theorem Kp.l (x : Kp K p H H') : Kp2 K p q H H' := ⟨fun r o h n _ => x.keep r o h n, x.mod⟩
theorem Kp.r (x : Kp K q H H') : Kp2 K p q H H' := ⟨fun r o h _ n => x.keep r o h n, x.mod⟩
theorem Ext.kp2 (x : Ext K H H') : Kp2 K p q H H' := ⟨fun r o h _ _ => x.same r o h, x.mod⟩
theorem Kp2.trans (x : Kp2 K p q H H1) (y : Kp2 K p q H1 H2) : Kp2 K p q H H2 := ⟨fun r o h n m => y.keep r o (x.keep r o h n m) n m, fun a xs h k => y.mod a xs (x.mod a xs h k) k⟩
theorem Kp2.ext (x : Kp2 K p q (L2.upd (L2.upd H p o) q o') H') (hp : L2.new K H p) (hq : L2.new K (L2.upd H p o) q) : Ext K H H' := by
  have y : Ext K H (L2.upd (L2.upd H p o) q o') := (Ext.new hp).trans (Ext.new hq)
  refine ⟨fun b u e => ?_, fun b ys e k => x.mod b ys (y.mod b ys e k) k⟩
  have n : b ≠ p := ne_of_none e hp.1
  have m : b ≠ q := ne_of_none ((Ext.new hp).at e) hq.1
  exact x.keep b u (y.at e) n m
end
end L2
set_option Elab.async false
set_option linter.all false
set_option maxRecDepth 100000
namespace L2
open PySem PySem.Spec PyProof.Rows
def closL (env : Env) : List (Str × NameKind) → List (Str × Addr) → List (Str × Addr)
  | [], cs => cs
  | (n, k) :: r, cs => closL env r (if (k == NameKind.free) = true then (match env.cells.lookup n with | some a => (n, a) :: cs | none => cs) else cs)
theorem closureFor_eq {scope : Scope} {env : Env} (h : ∀ x ∈ scope.names, x.2 = .free → ∃ c, env.cells.lookup x.1 = some c) : closureFor scope env = pure (closL env scope.names []) := by
  unfold closureFor
  generalize scope.names = names at h ⊢
  generalize ([] : List (Str × Addr)) = cs
  induction names generalizing cs with
  | nil => rfl
  | cons x r ih =>
    obtain ⟨n, k⟩ := x
    have ih' := fun cs => ih (cs := cs) fun x hx => h x (List.mem_cons_of_mem _ hx)
    simp only [List.forIn_cons]
    cases hk : (k == NameKind.free) with
    | false =>
      simp only [closL, hk]
      exact ih' cs
    | true =>
      obtain ⟨c, hc⟩ := h (n, k) (List.mem_cons_self) (by simpa using hk)
      simp only [closL, hk, hc, cellOf]
      exact ih' _
theorem closL_mem {env : Env} : ∀ {names : List (Str × NameKind)} {cs : List (Str × Addr)} {n : Str} {c : Addr}, (n, c) ∈ closL env names cs → (n, c) ∈ cs ∨ env.cells.lookup n = some c
  | [], cs, n, c, h => .inl h
  | (m, k) :: r, cs, n, c, h => by
    rw [closL] at h
    rcases closL_mem h with h | h
    · split at h
      · split at h
        · next a e =>
          rcases List.mem_cons.mp h with z | z
          · cases z; exact .inr e
          · exact .inl z
        · exact .inl h
      · exact .inl h
    · exact .inr h
theorem closL_sub {env : Env} : ∀ {names : List (Str × NameKind)} {cs : List (Str × Addr)} {p : Str × Addr}, p ∈ cs → p ∈ closL env names cs
  | [], cs, p, h => h
  | (m, k) :: r, cs, p, h => by
    rw [closL]
    refine closL_sub ?_
    split
    · split
      · exact List.mem_cons_of_mem _ h
      · exact h
    · exact h
theorem closL_has {env : Env} : ∀ {names : List (Str × NameKind)} {cs : List (Str × Addr)} {n : Str} {c : Addr}, (n, NameKind.free) ∈ names → env.cells.lookup n = some c → (n, c) ∈ closL env names cs
  | (m, k) :: r, cs, n, c, h, e => by
    rw [closL]
    rcases List.mem_cons.mp h with z | z
    · cases z
      rw [if_pos (by decide), e]
      exact closL_sub List.mem_cons_self
    · exact closL_has z e
theorem lookup_mem {α : Type} : ∀ {l : List (Str × α)} {n : Str} {c : α}, l.lookup n = some c → (n, c) ∈ l
  | (m, d) :: r, n, c, h => by
    rw [List.lookup_cons] at h
    cases e : n == m with
    | true =>
      rw [e] at h
      cases h
      rw [eq_of_beq e]
      exact List.mem_cons_self
    | false =>
      rw [e] at h
      exact List.mem_cons_of_mem _ (lookup_mem h)
theorem mem_lookup {α : Type} : ∀ {l : List (Str × α)} {n : Str} {c : α}, (n, c) ∈ l → ∃ d, l.lookup n = some d
  | (m, d) :: r, n, c, h => by
    rw [List.lookup_cons]
    cases e : n == m with
    | true => exact ⟨d, rfl⟩
    | false =>
      rcases List.mem_cons.mp h with z | z
      · cases z
        rw [beq_self_eq_true] at e; cases e
      · exact mem_lookup z
theorem clos_look {env : Env} {names : List (Str × NameKind)} {n : Str} {c : Addr} (h : (closL env names []).lookup n = some c) : env.cells.lookup n = some c := by
  rcases closL_mem (lookup_mem h) with z | z
  · cases z
  · exact z
theorem clos_has {env : Env} {names : List (Str × NameKind)} {n : Str} {c : Addr} (h : (n, NameKind.free) ∈ names) (e : env.cells.lookup n = some c) : (closL env names []).lookup n = some c := by
  obtain ⟨d, hd⟩ := mem_lookup (closL_has (cs := []) h e)
  rw [hd]
  exact (clos_look hd).symm.trans e ▸ rfl
theorem relabel_free {env : Env} : ∀ {names : List (Str × NameKind)} {x : Str}, names.lookup x = some .free →
    (names.map fun (n, k) => if (k == NameKind.free && env.scope.kind == .function && env.kindOf n == some .cell) then (n, NameKind.cell) else (n, k)).lookup x = some .cell ∨
    (names.map fun (n, k) => if (k == NameKind.free && env.scope.kind == .function && env.kindOf n == some .cell) then (n, NameKind.cell) else (n, k)).lookup x = some .free
  | [], _, h => by simp at h
  | (n, k) :: r, x, h => by
    have ih := @relabel_free env r x
    show List.lookup x ((if (k == NameKind.free && env.scope.kind == .function && env.kindOf n == some .cell) = true then (n, NameKind.cell) else (n, k)) :: _) = _ ∨ List.lookup x ((if (k == NameKind.free && env.scope.kind == .function && env.kindOf n == some .cell) = true then (n, NameKind.cell) else (n, k)) :: _) = _
    cases hx : x == n with
    | true =>
      simp only [List.lookup_cons, hx] at h
      cases h
      split
      · simp [List.lookup_cons, hx]
      · simp [List.lookup_cons, hx]
    | false =>
      simp only [List.lookup_cons, hx] at h
      split
      · simp only [List.lookup_cons, hx]; exact ih h
      · simp only [List.lookup_cons, hx]; exact ih h
theorem relabel_mem {env : Env} : ∀ {names : List (Str × NameKind)} {x : Str} {kk : NameKind}, (∀ y ∈ names, y.2 ≠ .cell) →
    (names.map fun (n, k) => if (k == NameKind.free && env.scope.kind == .function && env.kindOf n == some .cell) then (n, NameKind.cell) else (n, k)).lookup x = some kk → kk = .cell ∨ kk = .free → (x, NameKind.free) ∈ names
  | [], _, _, _, h, _ => by simp at h
  | (n, k) :: r, x, kk, hc, h, hk => by
    have ih := @relabel_mem env r x kk fun y hy => hc y (List.mem_cons_of_mem _ hy)
    change List.lookup x ((if (k == NameKind.free && env.scope.kind == .function && env.kindOf n == some .cell) = true then (n, NameKind.cell) else (n, k)) :: _) = _ at h
    cases hx : x == n with
    | true =>
      have e := eq_of_beq hx
      subst e
      split at h
      · next q =>
        simp only [Bool.and_eq_true, beq_iff_eq] at q
        rw [q.1.1]
        exact List.mem_cons_self
      · simp only [List.lookup_cons, hx] at h
        cases h
        rcases hk with z | z
        · exact absurd z (hc _ List.mem_cons_self)
        · rw [z]; exact List.mem_cons_self
    | false =>
      refine List.mem_cons_of_mem _ (ih ?_ hk)
      split at h
      · simp only [List.lookup_cons, hx] at h; exact h
      · simp only [List.lookup_cons, hx] at h; exact h
def Cx.comp (X : Cx) (N : List Str) (scope : Scope) (C : Addr) (s : Shared) (H : Hp) (fp : List Addr) : Cx :=
  { X with N := N, s₀ := s, H₀ := H, env := compEnvC scope (closL X.env scope.names []) C X.env, outer := X.stack, ex := fp, fn := fun _ => false, pn := [], xe := fun _ _ => False }
def pick (σ : St) (src : List (Option Nat)) : St := src.map fun o => match o with | none => none | some j => (σ[j]?).join
def capOk (NX : List Str) (scX sc : Scope) (N : List Str) (src : List (Option Nat)) : Bool :=
  sc.names.all (fun x => x.2 != .cell) && sc.names.all (fun x => x.2 != .local || sc.names.lookup x.1 == some .local) &&
  sc.names.all (fun x => x.2 != .free || (scX.names.lookup x.1 == some .cell || scX.names.lookup x.1 == some .free)) && N.length == src.length &&
  (N.zip src).all (fun p => match p.2 with | none => true | some j => NX[j]? == some p.1 && (scX.names.lookup p.1 == some .cell || scX.names.lookup p.1 == some .free) && sc.names.lookup p.1 == some .free)
structure Cap (X : Cx) (sc : Scope) (N : List Str) (src : List (Option Nat)) : Prop where
  kind : sc.kind = .function
  ok : capOk X.N X.env.scope sc N src = true
section
variable {X : Cx} {sc : Scope} {N : List Str} {src : List (Option Nat)}
theorem Cap.cell (c : Cap X sc N src) : ∀ y ∈ sc.names, y.2 ≠ .cell := fun y hy => by
  have h := c.ok
  simp only [capOk, Bool.and_eq_true, List.all_eq_true] at h
  simpa using h.1.1.1.1 y hy
theorem Cap.names (c : Cap X sc N src) : ∀ y ∈ sc.names, y.2 = .local → sc.names.lookup y.1 = some .local := fun y hy e => by
  have h := c.ok
  simp only [capOk, Bool.and_eq_true, List.all_eq_true] at h
  have q := h.1.1.1.2 y hy
  rw [e] at q
  simpa using q
theorem Cap.free (c : Cap X sc N src) {x : Str} (hx : (x, NameKind.free) ∈ sc.names) : X.env.kindOf x = some .cell ∨ X.env.kindOf x = some .free := by
  have h := c.ok
  simp only [capOk, Bool.and_eq_true, List.all_eq_true] at h
  have q := h.1.1.2 _ hx
  simpa [Env.kindOf] using q
theorem Cap.len (c : Cap X sc N src) : N.length = src.length := by
  have h := c.ok
  simp only [capOk, Bool.and_eq_true, List.all_eq_true] at h
  simpa using h.1.2
theorem Cap.at_ (c : Cap X sc N src) {i j : Nat} {x : Str} (h1 : N[i]? = some x) (h2 : src[i]? = some (some j)) : X.N[j]? = some x ∧ (X.env.kindOf x = some .cell ∨ X.env.kindOf x = some .free) ∧ sc.names.lookup x = some .free := by
  have h := c.ok
  simp only [capOk, Bool.and_eq_true, List.all_eq_true] at h
  have m : (x, some j) ∈ N.zip src := by
    refine List.mem_of_getElem? (i := i) ?_
    rw [List.getElem?_zip_eq_some]
    exact ⟨h1, h2⟩
  have q := h.2 _ m
  simp only [Bool.and_eq_true, Bool.or_eq_true, beq_iff_eq] at q
  exact ⟨q.1.1, q.1.2, q.2⟩
theorem pick_some {σ : St} {i : Nat} {v : V} (h : (pick σ src)[i]? = some (some v)) : ∃ j, src[i]? = some (some j) ∧ σ[j]? = some (some v) := by
  unfold pick at h
  rw [List.getElem?_map] at h
  cases e : src[i]? with
  | none => rw [e] at h; cases h
  | some o =>
    rw [e] at h
    cases o with
    | none => simp at h
    | some j =>
      refine ⟨j, rfl, ?_⟩
      simp only [Option.map_some, Option.some.injEq] at h
      cases e2 : σ[j]? with
      | none => rw [e2] at h; cases h
      | some w =>
        rw [e2] at h
        simp only [Option.join] at h
        exact congrArg some h
theorem Cx.Ok.comp {pins : List (Addr × Obj)} {σ : St} {H : Hp} {s : Shared} {fp : List Addr} {C : Addr} (I : Inv X pins σ H s) (c : Cap X sc N src) (hf : ∀ b ∈ fp, FpOk X pins H b) (ho : ∀ b ∈ fp, ∃ o, s.heap.get? b = some o) (hC : s.heap.objs.size ≤ C) : (X.comp N sc C s H fp).Ok where
  mod := I.ok.mod
  kind := c.kind
  glob := I.ok.glob
  blt := I.ok.blt
  above := hC
  inj := fun x y a h h' => I.ok.inj x y a (clos_look h) (clos_look h')
  has := fun x h => by
    have m : (x, NameKind.free) ∈ sc.names := by
      rcases h with h | h
      · exact relabel_mem c.cell h (.inl rfl)
      · exact relabel_mem c.cell h (.inr rfl)
    obtain ⟨a, ha⟩ := I.ok.has x (c.free m)
    exact ⟨a, clos_has m ha⟩
  cab := fun _ _ h => nomatch h
  hd := I.ok.hd
  frames := I.ok.frames
  stk := .inl rfl
  exf := fun b hb => by
    obtain ⟨o, e⟩ := ho b hb
    exact ⟨Nat.ne_of_lt (Nat.lt_of_lt_of_le (Heap.lt_size e) hC), fun x a h => (hf b hb).2.2.2.2.1 x a (clos_look h)⟩
  bs := I.bs
  bsz := Nat.le_trans I.ok.bsz I.sz
  noex := fun b o e hb => by
    rcases (hf b hb).2.2.2.1 with z | z
    · exact I.ok.noex b o e z
    · exact absurd (Nat.lt_of_lt_of_le (Heap.lt_size e) (Nat.le_trans I.ok.bsz z)) (Nat.lt_irrefl _)
  exfs := fun b hb z => by
    rcases List.mem_cons.mp (I.stkSub b z) with q | q
    · exact (hf b hb).2.1 q
    · exact (hf b hb).2.2.1 q
  funs := I.stack
  frf := I.stkFree
theorem Inv.block {pins : List (Addr × Obj)} {σ : St} {H : Hp} {s : Shared} {fp : List Addr} {C D : Addr} {h1 : Heap} {t' : Nat} (I : Inv X pins σ H s) (c : Cap X sc N src) (hf : ∀ b ∈ fp, FpOk X pins H b) (ho : ∀ b ∈ fp, ∃ o, s.heap.get? b = some o)
    (hD : s.heap.objs.size ≤ D) (hC : s.heap.objs.size ≤ C) (hDC : D ≠ C) (k : ∀ b u, s.heap.get? b = some u → h1.get? b = some u) (hn : h1.Ns C fun _ => none) (new : ObjOk X.prog X.w (upd H D (.lst [])) h1 D (.lst [])) :
    Inv (X.comp N sc C s H fp) [] (pick σ src) (upd H D (.lst [])) { s with heap := h1, toks := t' } where
  ok := Cx.Ok.comp I c hf ho hC
  os := rfl
  bare := I.bare
  base := Un.laid k hD (I.hok.fresh hD)
  loc := by
    refine ⟨_, hn, fun i x v e1 e2 e3 => ?_⟩
    obtain ⟨j, ej, es⟩ := pick_some e2
    obtain ⟨n1, n2, n3⟩ := c.at_ e1 ej
    obtain ⟨m, _, hl⟩ := I.loc
    have vis : Vis X.env.scope x := n2.elim (fun z => .inr (.inl z)) fun z => .inr (.inr z)
    obtain ⟨u, r, q⟩ := hl j x v n1 es vis
    refine ⟨u, r, .inr ⟨relabel_free n3, ?_⟩⟩
    rcases q with ⟨z, _⟩ | ⟨_, a, ha, z⟩
    · rcases n2 with n2 | n2 <;> rw [n2] at z <;> cases z
    · obtain ⟨o, e, d⟩ := z
      exact ⟨a, clos_has (lookup_mem n3) ha, o, k _ _ e, d⟩
  cell := fun x a e => by
    obtain ⟨v, o, e, d⟩ := I.cell x a (clos_look e)
    exact ⟨v, o, k _ _ e, d⟩
  free := by
    show upd H D (.lst []) C = none
    rw [upd_ne hDC.symm]
    exact I.hok.fresh hC
  freeC := fun x a e => by
    obtain ⟨v, o, e', d⟩ := I.cell x a (clos_look e)
    rw [upd_ne (Nat.ne_of_lt (Nat.lt_of_lt_of_le (Heap.lt_size e') hD))]
    exact I.freeC x a (clos_look e)
  pin := fun p hp => nomatch hp
  hok := I.hok.laid k hD new
  len := by
    show (pick σ src).length = N.length
    rw [c.len, pick, List.length_map]
theorem Inv.unblock {pins : List (Addr × Obj)} {σ σ' : St} {H H' : Hp} {s s' : Shared} {fp : List Addr} {C : Addr} {h' : Heap} (I : Inv X pins σ H s) (hf : ∀ b ∈ fp, FpOk X pins H b) (hC : s.heap.objs.size ≤ C)
    (J : Inv (X.comp N sc C s H fp) [] σ' H' s') (hs : ∀ b, b ≠ C → h'.get? b = s'.heap.get? b) : Inv X pins σ H' { s' with heap := h' } := by
  have ne : ∀ b o, s.heap.get? b = some o → b ≠ C := fun b o e => Nat.ne_of_lt (Nat.lt_of_lt_of_le (Heap.lt_size e) hC)
  have u : Un (frs X.stack) fp H H' s.heap s'.heap := J.base
  have u' : Un (frs X.stack) fp H H' s.heap h' := ⟨fun b o e n a x => (hs b (ne b o e)).trans (u.keep b o e n a x), fun b o e n a x => by
      obtain ⟨sl, q⟩ := u.slot b o e n a x
      exact ⟨sl, (hs b (ne b o e)).trans q⟩, u.free, fun b o e x => by
      obtain ⟨o', q⟩ := u.there b o e x
      exact ⟨o', (hs b (ne b o e)).trans q⟩, u.tups, u.frzs, u.tbls⟩
  refine I.call' (s' := { s' with heap := h' }) J.os u' (fun b ob e => ?_) J.bare fun b hb => ⟨(hf b hb).2.2.2.1, (hf b hb).2.1, (hf b hb).2.2.2.2.1, (hf b hb).2.2.2.2.2⟩
  have fr : H' C = none := J.free
  refine (J.hok b ob e).stay (fun a w' ha q => (hs a ?_).trans q) (fun _ q => q) fun _ _ q => q
  rintro rfl
  rcases ha with rfl | ha
  · rw [fr] at e; cases e
  · rw [fr] at ha; cases ha
end
abbrev F0 : Value → Shared → Prop := fun _ _ => False
section
variable {prog : Program} {w : World} {A : Around} {R : Result → Shared → Prop} {s : Shared}
theorem compLoop_any {elt target iter : Expr} {ifs : List Expr} {scope : Scope} {pos : Pos} {it acc : Value} {env : Env} (I : Nat → Shared → Prop)
    (turn : ∀ n s, I n s → wpAny (model prog w) A (pyNext it) (fun r s₁ => match r with
      | none => R (.ok .next) s₁
      | some v => wpAny (model prog w) A (letOwnedTupleGo target it v) (fun _ s₁' => wpAny (model prog w) A (assign target env v) (fun _ s₂ =>
          wpAny (model prog w) A (forIn ifs true fun c r => if r = true then do let ok ← isTrue c env (eval c env); pure (ForInStep.yield ok) else pure (ForInStep.yield r)) (fun ok s₃ =>
            if ok = true then wpAny (model prog w) A (eval elt env) (fun x s₄ =>
              wpAny (model prog w) A (call (.builtin "list.append") [acc, x]) (fun _ s₅ => ∃ m, m < n ∧ I m s₅) F0 s₄) F0 s₃
            else ∃ m, m < n ∧ I m s₃) F0 s₂) F0 s₁') F0 s₁) F0 s)
    (n : Nat) (h : I n s) :
    codeAny (model prog w) A (.compLoop (.ListComp elt [⟨target, iter, ifs, 0⟩] scope pos) 0 it acc env) R s := by
  refine codeAny_loop rfl I (fun n s hI => ?_) n h
  show wpAny _ A ((compTurn (.ListComp elt [⟨target, iter, ifs, 0⟩] scope pos) 0 it acc env).onRaise (fun x => do noteFrame x env; theTreesLotGoes x)) _ _ s
  refine wpAny_noted ?_
  rw [compTurn_list]
  refine wpAny_bind (wpAny_standAt (wpAny_bind (wpAny_mono (turn n s hI) (fun r s₁ h₁ => ?_) fun _ _ h' => h'.elim)))
  cases r with
  | none => exact wpAny_pure h₁
  | some v =>
    refine wpAny_bind (wpAny_mono h₁ (fun _ s₁' h₁' => ?_) fun _ _ h' => h'.elim)
    refine wpAny_bind (wpAny_mono h₁' (fun _ s₂ h₂ => wpAny_bind (wpAny_mono h₂ (fun ok s₃ h₃ => ?_) fun _ _ h' => h'.elim)) fun _ _ h' => h'.elim)
    cases ok with
    | false => exact wpAny_pure ⟨rfl, h₃⟩
    | true =>
      exact wpAny_bind (wpAny_bind (wpAny_mono h₃ (fun x s₄ h₄ => wpAny_bind (wpAny_mono h₄ (fun _ s₅ h₅ => wpAny_pure (wpAny_pure ⟨rfl, h₅⟩)) fun _ _ h' => h'.elim)) fun _ _ h' => h'.elim))
end
def PF (X : Cx) (ifs : List Expr) (t : TT) : Prop :=
  ∀ (pins : List (Addr × Obj)) (s : Shared) (σ : St) (H : Hp) (Q : Bool → Hp → Prop), Inv X pins σ H s → t σ H Q →
    wpAny (model X.prog X.w) X.A (forIn ifs true fun c r => if r = true then do let ok ← isTrue c X.env (eval c X.env); pure (ForInStep.yield ok) else pure (ForInStep.yield r)) (TP X pins σ Q) X.xe s
structure JF (X : Cx) (ifs : List Expr) (t : TT) : Prop where h : PF X ifs t
def tYes : TT := fun _ H Q => Q true H
theorem fnone {X : Cx} : JF X [] tYes := ⟨fun _ _ _ H _ I h => wpAny_tests_nil ⟨H, I, h⟩⟩
theorem fone {X : Cx} {c : Expr} {t : TT} (h : JT X c t) : JF X [c] t := ⟨fun pins s σ H Q I q => wpAny_tests_one (h.h pins s σ H Q I q)⟩
def LcLoop (J : It) (g : TG) (tt : TT) (te : TE) (D : Addr) (Q : Hp → Prop) (σ : St) (H : Hp) : Prop := ∃ W : Nat → Nat → List V → St → Hp → Prop, (∃ m, W 0 m [] σ H) ∧ ∀ i m acc σ H, W i m acc σ H →
  (J.stop i H ∧ Q H) ∨ (J.go i H ∧ ∃ N : List V → St → Hp → Prop, (∀ acc' σ' H', N acc' σ' H' → ∃ m', m' < m ∧ W (i + 1) m' acc' σ' H') ∧ ∀ x H', J.yld i H x H' → g x σ H' fun σ2 H2 => tt σ2 H2 fun b H3 =>
    if b = true then te σ2 H3 fun v H4 => H4 D = some (.lst acc) ∧ acc.length < sizeLine ∧ N (acc ++ [v]) σ2 (upd H4 D (.lst (acc ++ [v])))
    else N acc σ2 H3)
def tLc (K : PySem.W.Frag) (wi : TI) (src : List (Option Nat)) (g : TG) (tt : TT) (te : TE) : TE := fun σ H Q => wi σ H fun J H1 => ∀ D, L2.new K H1 D → LcLoop J g tt te D (fun H' => Q (.ref D) H') (pick σ src) (upd H1 D (.lst []))
section
variable {X : Cx} {sc : Scope} {N : List Str} {src : List (Option Nat)} {tg iter elt : Expr} {ifs : List Expr} {wi : TI} {g : TG} {tt : TT} {te : TE} {pos : Pos}
theorem comp_run {R : Value → Addr → Result → Shared → Prop} {E : Value → Shared → Prop} (c : Cap X sc N src) (hc : X.calm = true)
    (hg : ∀ C s H fp, JG (X.comp N sc C s H fp) tg g) (ht : ∀ C s H fp, JF (X.comp N sc C s H fp) ifs tt) (he : ∀ C s H fp, JE (X.comp N sc C s H fp) elt te)
    {pins : List (Addr × Obj)} {σ : St} {H : Hp} {s : Shared} {it : Addr} {fp : List Addr} {tn : Nat → Heap → Prop} {J : It} {Q : V → Hp → Prop} (I : Inv X pins σ H s) (T : Turn X.prog X.w X.K tg J fp it tn) (st : tn 0 s.heap) (hf : ∀ b ∈ fp, FpOk X pins H b)
    (h : ∀ D, L2.new X.K H D → LcLoop J g tt te D (fun H' => Q (.ref D) H') (pick σ src) (upd H D (.lst [])))
    (hR : ∀ D C s' σ' H', s.heap.objs.size ≤ C → Inv (X.comp N sc C s H fp) [] σ' H' s' → Q (.ref D) H' → R (.ref D) C (.ok .next) s') :
    wpAny (model X.prog X.w) X.A (newList []) (fun acc s₃ => wpAny (model X.prog X.w) X.A (newFunctionEnv sc X.env.globals (closL X.env sc.names []) [] X.env.qual none .none (some X.env)) (fun cenv s₄ =>
      codeAny (model X.prog X.w) X.A (.compStart (.ListComp elt [⟨tg, iter, ifs, 0⟩] sc pos) 0 (.ref it) acc { cenv with scope := relabel sc X.env }) (R acc cenv.locals) s₄) E s₃) E s := by
  refine wpAny_newObj_type (wpAny_newFunctionEnv c.cell (by intro y hy; simp at hy) (fun h₁ hns₁ hsb₁ => ?_) c.kind)
  dsimp only at hns₁ hsb₁ ⊢
  generalize hH2 : s.heap.push { cls := .type "list", dict := none, data := .seq ([] : List Value).toArray } = H2 at hns₁ hsb₁ ⊢
  have hC : H2.objs.size = s.heap.objs.size + 1 := by rw [← hH2, Heap.size_push]
  have hDC : s.heap.objs.size ≠ H2.objs.size := by rw [hC]; exact Nat.ne_of_lt (Nat.lt_succ_self _)
  have hCle : s.heap.objs.size ≤ H2.objs.size := by rw [hC]; exact Nat.le_succ _
  have below : ∀ b, b < s.heap.objs.size → b ≠ H2.objs.size := fun b hb => by rw [hC]; exact Nat.ne_of_lt (Nat.lt_succ_of_lt hb)
  have old : ∀ b o, s.heap.get? b = some o → h₁.get? b = some o := fun b o e => hsb₁.extBut b o (below b (Heap.lt_size e)) (Heap.get?_push_of_some _ (hH2 ▸ Heap.get?_push_of_some _ e))
  have hacc : h₁.get? s.heap.objs.size = some { cls := .type "list", dict := none, data := .seq ([] : List Value).toArray } := hsb₁.extBut _ _ hDC (Heap.get?_push_of_some _ (hH2 ▸ Heap.get?_push_size _ rfl))
  have ho : ∀ b ∈ fp, ∃ o, s.heap.get? b = some o := fun b hb => let ⟨o, e, _⟩ := T.obj _ _ st b hb; ⟨o, e⟩
  have I0 := I.block (t' := s.toks + ([] : List (Str × Value)).length) c hf ho (Nat.le_refl _) hCle hDC old hns₁ ⟨Nat.zero_le _, [], 0, .nil, hacc⟩
  have st0 : tn 0 h₁ := T.keep _ _ _ st fun b hb o e => old b o e
  obtain ⟨W, ⟨m0, w0⟩, turn⟩ := h _ I.new
  have stat : ∀ {H' : Hp}, (∀ b ∈ fp, H' b = none) → ∀ b ∈ fp, FpOk (X.comp N sc H2.objs.size s H fp) [] H' b := fun hn b hb => by
    obtain ⟨f0, f1, f2, f3, f4, f5⟩ := hf b hb
    obtain ⟨o, e⟩ := ho b hb
    refine ⟨hn b hb, below b (Heap.lt_size e), fun z => ?_, .inl hb, fun x a q => f4 x a (clos_look q), fun p hp => nomatch hp⟩
    rcases List.mem_cons.mp (I.stkSub b z) with q | q
    · exact f1 q
    · exact f2 q
  have fr0 : ∀ b ∈ fp, (upd H s.heap.objs.size (.lst [])) b = none := fun b hb => by
    obtain ⟨o, e⟩ := ho b hb
    rw [upd_ne (Nat.ne_of_lt (Heap.lt_size e))]
    exact (hf b hb).1
  have loop : ∀ s₃ : Shared, s₃ = { s with heap := h₁, toks := s.toks + ([] : List (Str × Value)).length } →
      codeAny (model X.prog X.w) X.A (.compLoop (.ListComp elt [⟨tg, iter, ifs, 0⟩] sc pos) 0 (.ref it) (.ref s.heap.objs.size) (compEnvC sc (closL X.env sc.names []) H2.objs.size X.env)) (R (.ref s.heap.objs.size) H2.objs.size) s₃ := by
    rintro s₃ rfl
    refine compLoop_any (fun n s' => ∃ i acc σ' H', Inv (X.comp N sc H2.objs.size s H fp) [] σ' H' s' ∧ tn i s'.heap ∧ (∀ b ∈ fp, H' b = none) ∧ W i n acc σ' H') ?_ m0 ⟨0, _, _, _, I0, st0, fr0, w0⟩
    rintro n s3 ⟨i, acc, σ3, H3, I3, st3, fr3, w3⟩
    rcases turn i n acc σ3 H3 w3 with ⟨stop, qn⟩ | ⟨go, NN, hNN, step⟩
    · refine thn (T.done (X.comp N sc H2.objs.size s H fp) rfl rfl rfl hc i [] s3 σ3 H3 F0 I3 (stat fr3) st3 stop) fun r s4 ⟨hr, I4⟩ => ?_
      subst hr
      exact hR _ _ _ _ _ hCle I4 qn
    · refine thn (T.item (X.comp N sc H2.objs.size s H fp) rfl rfl rfl hc i [] s3 σ3 H3 F0 I3 (stat fr3) st3 go) fun r s4 ⟨u, hr, h4⟩ => ?_
      subst hr
      refine thn h4 fun _ s5 ⟨x, H5, I5, r5, y5, st5, fr5⟩ => ?_
      have I5' := I5.pinned (stat fr5) (T.obj _ _ st5)
      refine thn ((hg _ _ _ _).h _ s5 σ3 H5 x u _ I5' r5 (step x H5 y5)) fun _ s6 ⟨σ6, H6, I6, q6⟩ => ?_
      refine thn ((ht _ _ _ _).h _ s6 σ6 H6 _ I6 q6) fun b s7 ⟨H7, I7, q7⟩ => ?_
      have again : ∀ {acc8 : List V} {s8 : Shared} {H8 : Hp}, Inv (X.comp N sc H2.objs.size s H fp) ([] ++ pinsAt fp s5.heap) σ6 H8 s8 → NN acc8 σ6 H8 → ∃ m, m < n ∧ ∃ i acc σ' H', Inv (X.comp N sc H2.objs.size s H fp) [] σ' H' s8 ∧ tn i s8.heap ∧ (∀ b ∈ fp, H' b = none) ∧ W i m acc σ' H' := fun {acc8 s8 H8} I8 w => by
        obtain ⟨m', hm, w8⟩ := hNN _ _ _ w
        refine ⟨m', hm, i + 1, acc8, σ6, H8, I8.unpinned, T.keep _ _ _ st5 fun b hb o e => (I8.pin (b, o) (List.mem_append_right _ (List.mem_append_right _ (mem_pinsAt hb e)))).1, fun b hb => ?_, w8⟩
        obtain ⟨o, e, d⟩ := T.obj _ _ st5 b hb
        exact (I8.pin (b, o) (List.mem_append_right _ (List.mem_append_right _ (mem_pinsAt hb e)))).2.1
      cases b with
      | false => exact again I7 q7
      | true =>
        refine thn ((he _ _ _ _).h _ s7 σ6 H7 _ I7 q7) fun y s8 ⟨v, H8, I8, r8, q8⟩ => ?_
        obtain ⟨hx, hz, w8⟩ := q8
        refine thn (mt_append (X := X.comp N sc H2.objs.size s H fp) _ s8 σ6 H8 (.ref s.heap.objs.size) [v] (.ref s.heap.objs.size) [y] (fun _ H9 => H9 = upd H8 s.heap.objs.size (.lst (acc ++ [v]))) I8 rfl (.cons r8 .nil) ⟨_, acc, v, rfl, rfl, hx, hz, rfl⟩) fun _ s9 ⟨_, H9, I9, _, q9⟩ => ?_
        subst q9
        exact again I9 w8
  exact codeAny_compStart_list (loop _ rfl) (T.self _ 0 _ _ _ st0 (loop _ rfl))
theorem elc (c : Cap X sc N src) (hc : X.calm = true) (hi : JI X tg iter wi)
    (hg : ∀ C s H fp, JG (X.comp N sc C s H fp) tg g) (ht : ∀ C s H fp, JF (X.comp N sc C s H fp) ifs tt) (he : ∀ C s H fp, JE (X.comp N sc C s H fp) elt te)
    (hs : ∀ x, foldedSetIterable iter X.env x = pure x := by intro _; rfl) : JE X (.ListComp elt [⟨tg, iter, ifs, 0⟩] sc pos) (tLc X.K wi src g tt te) := ⟨by
  intro pins s σ H Q I h
  rw [eval_ListComp]
  refine wpAny_comprehension_free (use := none) rfl hs (closureFor_eq fun x hx hk => ?_) c.kind c.names ?_
  · obtain ⟨n, k⟩ := x
    cases hk
    exact I.ok.has _ (c.free hx)
  refine thn (hi.h pins s σ H _ I h) fun v s1 h1 => thn h1 fun itv s2 h2 => ?_
  obtain ⟨it, fp, tn, J, H2, e, I2, T, st2, f2, h2⟩ := h2
  subst e
  refine comp_run (R := fun acc C => compPost (model X.prog X.w) X.A X.xe none (EP X pins σ Q) acc C) (Q := Q) c hc hg ht he I2 T st2 f2 h2 fun D C s' σ' H' hC I' q => ?_
  obtain ⟨m, hn, _⟩ := id I'.loc
  refine ⟨m, hn, fun h' sb => ?_⟩
  exact ⟨.ref D, H', I2.unblock f2 hC I' fun b hb => sb.2 b hb, rfl, q⟩⟩
theorem slc {i : Nat} {y : Str} {py spos : Pos} (hN : X.N.Nodup) (hy : X.N[i]? = some y) (hx : Loc X.env.scope y) (c : Cap X sc N src) (hc : X.calm = true) (hi : JI X tg iter wi)
    (hg : ∀ C s H fp, JG (X.comp N sc C s H fp) tg g) (ht : ∀ C s H fp, JF (X.comp N sc C s H fp) ifs tt) (he : ∀ C s H fp, JE (X.comp N sc C s H fp) elt te)
    (hsw : swapsWith (.ListComp elt [⟨tg, iter, ifs, 0⟩] sc pos) (some (.Name y py)) spos.line X.env = pure true := by rfl)
    (hf : X.fn y = true ∨ X.env.scope.names.lookup y = some .local := by first | exact .inl rfl | exact .inr rfl | assumption)
    (hs : ∀ x, foldedSetIterable iter X.env x = pure x := by intro _; rfl) : JS X (.Assign [.Name y py] (.ListComp elt [⟨tg, iter, ifs, 0⟩] sc pos) spos) (tAsg (tLc X.K wi src g tt te) (gName i)) := ⟨by
  intro pins s σ H D I h
  rw [exec_Assign_Name_used _ _ _ _ hsw]
  refine wpAny_bind (wpAny_standAt (wpAny_bind ?_))
  show wpAny _ X.A (do let _ ← comprehension (.ListComp elt [⟨tg, iter, ifs, 0⟩] sc pos) sc X.env _ (newList []) false (eval iter X.env) (some (assign (.Name y py) X.env))) _ _ s
  refine wpAny_bind (wpAny_mono (wpAny_comprehension_free (use := some (assign (.Name y py) X.env)) (Q := fun _ s' => SP X pins D .next s') rfl hs (closureFor_eq fun x hx hk => ?_) c.kind c.names ?_) (fun _ s' hq => wpAny_pure (wpAny_pure hq)) fun _ _ e => e)
  · obtain ⟨n, k⟩ := x
    cases hk
    exact I.ok.has _ (c.free hx)
  refine thn (hi.h pins s σ H _ I h) fun v s1 h1 => thn h1 fun itv s2 h2 => ?_
  obtain ⟨it, fp, tn, J, H2, e, I2, T, st2, f2, h2⟩ := h2
  subst e
  refine comp_run (R := fun acc C => compPost (model X.prog X.w) X.A X.xe (some (assign (.Name y py) X.env)) (fun _ s' => SP X pins D .next s') acc C) (Q := fun v H' => D.nx (σ.set i (some v)) H') c hc hg ht he I2 T st2 f2 h2 fun L C s' σ' H' hC I' q => ?_
  obtain ⟨m, hn, _⟩ := id I'.loc
  obtain ⟨o, es, ep, ho, r⟩ := id hn
  have I3 : Inv X pins σ H' s' := I2.unblock (h' := s'.heap) f2 hC I' fun _ _ => rfl
  have cL : C ≠ X.env.locals := Nat.ne_of_gt (Nat.lt_of_lt_of_le I2.lt hC)
  have cC : ∀ x a, X.env.cells.lookup x = some a → a ≠ C := fun x a e => by
    obtain ⟨v, o, e', _⟩ := I2.cell x a e
    exact Nat.ne_of_lt (Nat.lt_of_lt_of_le (Heap.lt_size e') hC)
  have cP : ∀ p ∈ X.pn ++ pins, p.1 ≠ C := fun p hp => Nat.ne_of_lt (Nat.lt_of_lt_of_le (Heap.lt_size (I2.pin p hp).1) hC)
  have fr : H' C = none := I'.free
  have I4 : Inv X (pins ++ [(C, o)]) σ H' s' := I3.pins_of fun p hp => (List.mem_append.mp hp).elim (fun z => I3.pin p (List.mem_append_right _ z)) fun z => by
    have e : p = (C, o) := by simpa using z
    subst e
    exact ⟨ho, fr, cL, I2.nofs hC, fun v z => by
      have r1 := r
      simp_all⟩
  show wpAny (model X.prog X.w) X.A (assign (.Name y py) X.env (.ref L)) _ _ s'
  refine thn (pg_name (pos := py) hN hy hx hf _ s' σ H' (.ref L) (.ref L) (fun σ1 H1 => D.nx σ1 H1 ∧ H1 = H') I4 rfl ⟨q, rfl⟩) fun _ s5 ⟨σ5, H5, I5, q5, e5⟩ => ?_
  subst e5
  have pC := (I5.pin (C, o) (List.mem_append_right _ (List.mem_append_right _ (by simp)))).1
  refine ⟨m, ⟨o, es, ep, pC, r⟩, fun h' sb => ?_⟩
  exact ⟨σ5, H5, I5.unpinned.turned (t' := s5.toks) (fun b u hb e => (sb.2 b hb).trans e) fr cL (.inr (Nat.le_trans I2.sz hC)) cC cP, q5⟩⟩
end
end L2
namespace L2
open PySem PySem.Spec PyProof.Rows
theorem pick_nil {σ : St} : pick σ [] = [] := rfl
theorem pick_own {σ : St} {r : List (Option Nat)} : pick σ (none :: r) = none :: pick σ r := rfl
theorem pick_cap {σ : St} {j : Nat} {r : List (Option Nat)} : pick σ (some j :: r) = (σ[j]?).join :: pick σ r := rfl
theorem join_some {α : Type} {o : Option α} : (some o).join = o := rfl
section
variable {K : PySem.W.Frag} {g : TG} {tt : TT} {te : TE} {D a : Addr} {Q : Hp → Prop} {σ : St} {H : Hp} {xs : List V} {lo : Int} {n : Nat}
theorem lc_run {J : It} (Pv : Nat → List V → St → Hp → Prop) (h0 : Pv 0 [] σ H) (hgo : ∀ i acc σ H, i < n → Pv i acc σ H → J.go i H) (hst : ∀ acc σ H, Pv n acc σ H → J.stop n H)
    (hs : ∀ i acc σ H x H', i < n → Pv i acc σ H → J.yld i H x H' → g x σ H' fun σ2 H2 => tt σ2 H2 fun b H3 => if b = true then te σ2 H3 fun v H4 => H4 D = some (.lst acc) ∧ acc.length < sizeLine ∧ Pv (i + 1) (acc ++ [v]) σ2 (upd H4 D (.lst (acc ++ [v]))) else Pv (i + 1) acc σ2 H3)
    (hd : ∀ acc σ H, Pv n acc σ H → Q H) : LcLoop J g tt te D Q σ H := by
  refine ⟨fun i m acc σ H => Pv i acc σ H ∧ i ≤ n ∧ m = n - i, ⟨n, h0, Nat.zero_le _, by omega⟩, fun i m acc σ H ⟨h, hi, hm⟩ => ?_⟩
  by_cases c : i < n
  · right
    exact ⟨hgo i acc σ H c h, Pv (i + 1), fun acc' σ' H' q => ⟨n - (i + 1), by omega, q, by omega, rfl⟩, fun x H' hy => hs i acc σ H x H' c h hy⟩
  · left
    have e : i = n := by omega
    subst e
    exact ⟨hst acc σ H h, hd acc σ H h⟩
theorem lc_range (Pv : Nat → List V → St → Hp → Prop) (h0 : Pv 0 [] σ H)
    (hs : ∀ i acc σ H, i < n → Pv i acc σ H → g (.int (lo + i)) σ H fun σ2 H2 => tt σ2 H2 fun b H3 => if b = true then te σ2 H3 fun v H4 => H4 D = some (.lst acc) ∧ acc.length < sizeLine ∧ Pv (i + 1) (acc ++ [v]) σ2 (upd H4 D (.lst (acc ++ [v]))) else Pv (i + 1) acc σ2 H3)
    (hd : ∀ acc σ H, Pv n acc σ H → Q H) : LcLoop (Itr lo n) g tt te D Q σ H := by
  refine lc_run (n := n) Pv h0 (fun i _ _ _ h _ => h) (fun _ _ _ _ => Nat.le_refl _) (fun i acc σ H x H' hi h hy => ?_) hd
  obtain ⟨rfl, rfl⟩ := hy
  exact hs i acc σ _ hi h
theorem lc_list (Pv : Nat → List V → St → Hp → Prop) (h0 : Pv 0 [] σ H) (hl : ∀ i acc σ H, i ≤ xs.length → Pv i acc σ H → SqL K H a xs)
    (hs : ∀ i x acc σ H, xs[i]? = some x → Pv i acc σ H → g x σ H fun σ2 H2 => tt σ2 H2 fun b H3 => if b = true then te σ2 H3 fun v H4 => H4 D = some (.lst acc) ∧ acc.length < sizeLine ∧ Pv (i + 1) (acc ++ [v]) σ2 (upd H4 D (.lst (acc ++ [v]))) else Pv (i + 1) acc σ2 H3)
    (hd : ∀ acc σ H, Pv xs.length acc σ H → Q H) : LcLoop (Itl K a) g tt te D Q σ H := by
  refine lc_run (n := xs.length) Pv h0 (fun i acc σ H hi h => ⟨xs, _, hl i acc σ H (Nat.le_of_lt hi) h, List.getElem?_eq_getElem hi⟩) (fun acc σ H h => ⟨xs, hl _ acc σ H (Nat.le_refl _) h, Nat.le_refl _⟩) (fun i acc σ H x H' hi h hy => ?_) hd
  obtain ⟨rfl, hy⟩ := hy
  exact hs i x acc σ _ (hy xs (hl i acc σ _ (Nat.le_of_lt hi) h)) h
theorem tLc_rng1 {ta : TA} {src : List (Option Nat)} {Q : VK} : tLc K (iRng1 ta) src g tt te σ H Q = ta σ H (fun vs H1 => ∃ j : Int, vs = [.int j] ∧ -(2 ^ 62) ≤ j ∧ j < 2 ^ 62 ∧ ∀ D, L2.new K H1 D → LcLoop (Itr 0 j.toNat) g tt te D (fun H' => Q (.ref D) H') (pick σ src) (upd H1 D (.lst []))) := rfl
theorem tLc_rng2 {ta : TA} {src : List (Option Nat)} {Q : VK} : tLc K (iRng2 ta) src g tt te σ H Q = ta σ H (fun vs H1 => ∃ i j : Int, vs = [.int i, .int j] ∧ (-(2 ^ 62) ≤ i ∧ i < 2 ^ 62 ∧ -(2 ^ 62) ≤ j ∧ j < 2 ^ 62) ∧ ∀ D, L2.new K H1 D → LcLoop (Itr i (j - i).toNat) g tt te D (fun H' => Q (.ref D) H') (pick σ src) (upd H1 D (.lst []))) := rfl
theorem tLc_list {tl : TE} {src : List (Option Nat)} {Q : VK} : tLc K (iList K tl) src g tt te σ H Q = tl σ H (fun x H1 => ∃ a, x = .ref a ∧ (∃ xs, SqL K H1 a xs) ∧ ∀ D, L2.new K H1 D → LcLoop (Itl K a) g tt te D (fun H' => Q (.ref D) H') (pick σ src) (upd H1 D (.lst []))) := rfl
theorem tLc_tup {tl : TE} {src : List (Option Nat)} {Q : VK} : tLc K (iTup K tl) src g tt te σ H Q = tl σ H (fun x H1 => ∃ a, x = .ref a ∧ (∃ xs, SqT K H1 a xs) ∧ ∀ D, L2.new K H1 D → LcLoop (Itt K a) g tt te D (fun H' => Q (.ref D) H') (pick σ src) (upd H1 D (.lst []))) := rfl
end
end L2
namespace L2
open PySem PySem.Spec PyProof.Rows
section
variable {X : Cx} {es : List Expr} {t : TA} {pos : Pos} (K : PySem.W.Frag)
theorem ix_QK (hk : X.K = K := by rfl) : IxR X (rIxQ K) := by subst hk; exact ix_Q
theorem etupQK {k} (h : JA X es t) (hk : X.K = K := by rfl) : JE X (.Tuple es k pos) (tTupQ K t) := by subst hk; exact etupQ h
theorem gtupQK {k : Nat} {t : TGs} {n : Nat} (hc : X.calm = true) (h : JGs X es t) (hn : (assignEach es X.env).length = n := by rfl) (hst : (assignEach es X.env).findIdx? (·.1) = none := by rfl) (hk : X.K = K := by rfl) : JG X (.Tuple es k pos) (gTupQ K n t) := by subst hk; exact gtupQ hc h hn hst
theorem itupK {tg l : Expr} {te : TE} (hl : JE X l te) (hk : X.K = K := by rfl) : JI X tg l (iTup K te) := by subst hk; exact itup hl
theorem ttruthK {a : Expr} {ta : TE} (ha : JE X a ta) (he : ∀ whole, isTrue a X.env whole = (do let v ← whole; standAt a.pos; holding [v] (truthy v))) (hk : X.K = K := by rfl) :
    JT X a (fun σ H Q => ta σ H fun x H' => ∃ k, TruV K x H' k ∧ Q k H') := by subst hk; exact ttruth ha he
end
end L2
namespace L2
open PySem PySem.Spec PyProof.Rows
section
variable {X : Cx} {pins : List (Addr × Obj)} {σ : St} {H : Hp} {s : Shared}
theorem Inv.notMod (I : Inv X pins σ H s) {a : Addr} {o : HO} (h : H a = some o) : kTup X.K a = none := by
  cases e : kTup X.K a with
  | none => rfl
  | some xs =>
    obtain ⟨ob, q⟩ := kTup_look e
    rw [(I.bs a ob (I.ok.mod.kin a ob q)).2] at h
    cases h
theorem call_list_ofQ : CallR X (.type "list") (fun xs H Q => ∃ p ys, xs = [.ref p] ∧ seqQ X.K H p = some ys ∧ ∀ l, L2.new X.K H l → Q (.ref l) (upd H l (.lst ys))) := by
  intro pins s σ H xs us Q I r h
  obtain ⟨p, ys, e, hq, q⟩ := h
  refine thn (call_list_of pins s σ H xs us (fun v H' => ∃ l, H l = none ∧ v = .ref l ∧ H' = upd H l (.lst ys)) I r ⟨p, ys, e, seqQ_sq hq, fun l hl => ⟨l, hl, rfl, rfl⟩⟩) fun u s' ⟨v, H', I', rv, l, hl, e1, e2⟩ => ?_
  subst e1 e2
  exact ⟨_, _, I', rv, q l ⟨hl, I'.notMod upd_same⟩⟩
theorem call_list_ofQK (K : PySem.W.Frag) (hk : X.K = K := by rfl) : CallR X (.type "list") (fun xs H Q => ∃ p ys, xs = [.ref p] ∧ seqQ K H p = some ys ∧ ∀ l, L2.new K H l → Q (.ref l) (upd H l (.lst ys))) := by subst hk; exact call_list_ofQ
end
theorem Kp2.kp {K : PySem.W.Frag} {p D : Addr} {H H' : Hp} {o : HO} (k : Kp2 K p D (upd H D o) H') (n : L2.new K H D) : Kp K p H H' := by
  refine ⟨fun q u e m => ?_, fun b ys e m => k.mod b ys ((Ext.new n).mod b ys e m) m⟩
  have d : q ≠ D := ne_of_none e n.1
  exact k.keep q u (by rw [upd_ne d]; exact e) m d
theorem Kp2.refl {K : PySem.W.Frag} {p D : Addr} {H : Hp} : Kp2 K p D H H := ⟨fun _ _ h _ _ => h, fun _ _ h _ => h⟩
end L2
set_option Elab.async false
set_option linter.all false
set_option maxRecDepth 100000
namespace L2
open PySem PySem.Spec PyProof.Rows
def strKeysB (es : Array DictEntry) : Bool := es.toList.all fun e => match e.key with | .str _ _ => true | _ => false
theorem strKeys_of {es : Array DictEntry} (h : strKeysB es = true) : StrKeys es := fun e he => by
  have q := List.all_eq_true.mp h e (by simpa using he)
  cases k : e.key <;> rw [k] at q <;> first | exact ⟨_, _, rfl⟩ | cases q
theorem binds_kw {K : PySem.W.Frag} {s : Shared} {fd : FuncData} {args : Args} {binds : List (Str × Value)} {d : Addr} {name : Str} {v cls : Value} {es : Array DictEntry} {ep : Nat} {od : Option Addr} {sl : Array (Option Value)} {k : Option Value → Sem (List (Str × Value))}
    (hK : K.In s.heap) (l : K.lookup d = some ⟨cls, od, .dict es ep, sl⟩) (hs : strKeysB es = true) (hf : nsFind es name = some v) (h₁ : bindArgs fd args = nsGet d name >>= k) (h₂ : k (some v) = pure binds) : BindsTo s fd args binds :=
  fun M A E Q hq => by
    rw [h₁]
    have hn : s.heap.Ns d (fun n => nsFind es n) := ⟨_, es, ep, hK d _ l, rfl, strKeys_of hs, fun _ => rfl⟩
    refine wpAny_bind (wpAny_nsGet hn ?_)
    rw [hf, h₂]
    exact wpAny_pure hq
def gk {α : Type} (n m : Nat) (us ws : List α) : List α := if us.length = n ∧ ws.length = m then us ++ ws else []
theorem gk_rel {n m : Nat} {vs : List V} {us : List Value} {zs : List V} {ws : List Value} (r : Vals vs us) (r' : Vals zs ws) : Vals (gk n m vs zs) (gk n m us ws) := by
  unfold gk
  rw [r.length, r'.length]
  split
  · exact r.append r'
  · exact .nil
theorem gk_11 {α : Type} {a b : α} : gk 1 1 [a] [b] = [a, b] := rfl
theorem gk_31 {α : Type} {a b c d : α} : gk 3 1 [a, b, c] [d] = [a, b, c, d] := rfl
theorem kbinds {K : PySem.W.Frag} {fd : FuncData} {ps ks : List Str} {n m : Nat} (hn : ps.length = n + m) (hp : 0 < n + m) (h : ∀ (s : Shared) (us ws : List Value), us.length = n → ws.length = m → BindsTo s fd ⟨us, ks.zip ws⟩ (ps.zip (us ++ ws))) : KBinds K fd ps ks (gk n m) (gk n m) where
  to := fun s us ws _ hl => by
    unfold gk at hl ⊢
    split
    · next c => exact h s us ws c.1 c.2
    · next c => rw [if_neg c] at hl; simp only [List.length_nil] at hl; omega
  rel := gk_rel
structure JK (X : Cx) (kws : List Keyword) (t : TA) : Prop where h : PK X kws t
structure CalleeK (P : Program) (w : World) (K : PySem.W.Frag) (mg : Str → Option Value) (base : Heap) (x : Str) (k : Nat) (ps : List Str) (ks : List Str) (n m : Nat) (sp : Sp) : Prop where
  ex : ∃ (f : Addr) (fd : FuncData), FnOk P w K mg base CX0 k f fd ps sp ∧ KBinds K fd ps ks (gk n m) (gk n m) ∧ PySem.W.keepIn K (.ref f) = true ∧ mg x = some (.ref f)
structure CalleeD (P : Program) (w : World) (K : PySem.W.Frag) (mg : Str → Option Value) (base : Heap) (x : Str) (k : Nat) (ps : List Str) (dvs : List V) (sp : Sp) : Prop where
  ex : ∃ (f : Addr) (fd : FuncData) (ds : List Value), FnOk P w K mg base CX0 k f fd ps sp ∧ Binds K fd ps ds ∧ Vals dvs ds ∧ PySem.W.keepIn K (.ref f) = true ∧ mg x = some (.ref f)
section
variable {X : Cx} {x : Str} {k n m : Nat} {ps ks : List Str} {dvs : List V} {sp : Sp} {e : Expr} {es : List Expr} {kws : List Keyword} {t tk : TA} {te : TE} {p pos kpos : Pos} {nm : Option Str}
theorem ecallD (C : CalleeD X.prog X.w X.K X.mg X.base x k ps dvs sp) (hr : Room k X.A) (hg : Gl X x) (ha : JA X (e :: es) t)
    (hdb : (x == ("__debug__" : Str)) = false := by decide) (he : starEach (e :: es) X.env = (false, eval e X.env) :: starEach es X.env := by rfl) (hpl : (backTo pos (starEach es X.env)).any (·.1) = false := by rfl) :
    JE X (.Call (.Name x p) (e :: es) [] pos) (tCall sp dvs E0 t) := ⟨by
  intro pins s σ H Q I h
  obtain ⟨f, fd, ds, F, b, vd, kp, mm⟩ := C.ex
  exact pe_call F hr hg mm kp b vd pass0 ha.h hdb he hpl pins s σ H Q I h⟩
theorem tCallKC {gV : List V → List V → List V} {E : XK} {σ : St} {H : Hp} {Q : VK} : tCallK sp gV E t tk σ H Q = t σ H (fun vs H1 => tk σ H1 fun zs H2 => Cal sp (gV vs zs) H2 Q ⟨0⟩ E) := rfl
end
end L2
namespace L2
open PySem PySem.Spec PyProof.Rows
theorem atI_lastE {α : Type} {xs : List α} (h : xs.length - 1 < xs.length) : atI xs (-1) = some xs[xs.length - 1] := by
  unfold atI ixN
  rw [if_neg (by decide), if_pos (by omega)]
  have e : ((-1 : Int) + (xs.length : Int)).toNat = xs.length - 1 := by omega
  rw [e]
  exact List.getElem?_eq_getElem h
end L2
namespace L2
open PySem PySem.Spec PyProof.Rows
section
variable {K : PySem.W.Frag} {s : Shared} {fd : FuncData} {args : Args} {binds : List (Str × Value)} {d : Addr} {name : Str} {v cls : Value} {es : Array DictEntry} {ep : Nat} {od : Option Addr} {sl : Array (Option Value)} {α β : Type}
theorem binds_kw2 {f : Option Value → Sem α} {g : α → Sem (List (Str × Value))}
    (hK : K.In s.heap) (l : K.lookup d = some ⟨cls, od, .dict es ep, sl⟩) (hs : strKeysB es = true) (hf : nsFind es name = some v) (h₁ : bindArgs fd args = (nsGet d name >>= f) >>= g) (h₂ : (f (some v) >>= g) = pure binds) : BindsTo s fd args binds :=
  binds_kw (k := fun x => f x >>= g) hK l hs hf (by rw [h₁, bind_assoc]) h₂
theorem binds_kw3 {f : Option Value → Sem α} {g : α → Sem β} {k : β → Sem (List (Str × Value))}
    (hK : K.In s.heap) (l : K.lookup d = some ⟨cls, od, .dict es ep, sl⟩) (hs : strKeysB es = true) (hf : nsFind es name = some v) (h₁ : bindArgs fd args = ((nsGet d name >>= f) >>= g) >>= k) (h₂ : ((f (some v) >>= g) >>= k) = pure binds) : BindsTo s fd args binds :=
  binds_kw2 (f := f) (g := fun x => g x >>= k) hK l hs hf (by rw [h₁, bind_assoc]) (by rw [← h₂, bind_assoc])
end
end L2
set_option Elab.async false
set_option linter.all false
set_option maxRecDepth 100000
namespace L2
open PySem PySem.Spec PyProof.Rows
section
variable {X : Cx} {o lo hi e : Expr} {to tl th te : TE} {p pos : Pos}
def gSlice (to tl th : TE) : TG := fun v σ H Q => to σ H fun x H1 => tl σ H1 fun i H2 => th σ H2 fun j H3 => ∃ l b xs ys a c, x = .ref l ∧ v = .ref b ∧ i = .int a ∧ j = .int c ∧ H3 l = some (.lst xs) ∧ H3 b = some (.lst ys) ∧ l ≠ b ∧ 0 ≤ a ∧ a ≤ c ∧ c ≤ xs.length ∧ xs.length + ys.length ≤ sizeLine ∧
  Q σ (upd H3 l (.lst (xs.take a.toNat ++ ys ++ xs.drop c.toNat)))
end
end L2
namespace L2
open PySem PySem.Spec PyProof.Rows
section
variable {X : Cx}
def rSlTQ (K : PySem.W.Frag) : V → Option Int → Option Int → Hp → VK → Prop := fun x lo hi H Q => ∃ a xs, x = .ref a ∧ tupQ K H a = some xs ∧
  ¬ (HT.sIx xs.length 0 lo = 0 ∧ HT.sIx xs.length xs.length hi = xs.length) ∧ ∀ p, L2.new K H p → Q (.ref p) (upd H p (.tup (cutV xs lo hi)))
end
end L2
set_option Elab.async false
set_option linter.all false
set_option maxRecDepth 100000
namespace L2
open PySem PySem.Spec PyProof.Rows
abbrev TBd := List V → St → Hp → (List V → St → Hp → Prop) → Prop
def LcLoopA (J : It) (g : TG) (tt : TT) (body : TBd) (acc0 : List V) (F : List V → St → Hp → Prop) (σ : St) (H : Hp) : Prop := ∃ W : Nat → Nat → List V → St → Hp → Prop, (∃ m, W 0 m acc0 σ H) ∧ ∀ i m acc σ H, W i m acc σ H →
  (J.stop i H ∧ F acc σ H) ∨ (J.go i H ∧ ∃ N : List V → St → Hp → Prop, (∀ acc' σ' H', N acc' σ' H' → ∃ m', m' < m ∧ W (i + 1) m' acc' σ' H') ∧ ∀ x H', J.yld i H x H' → g x σ H' fun σ2 H2 => tt σ2 H2 fun b H3 =>
    if b = true then body acc σ2 H3 N else N acc σ2 H3)
def bodyE (te : TE) (D : Addr) : TBd := fun acc σ H N => te σ H fun v H4 => H4 D = some (.lst acc) ∧ acc.length < sizeLine ∧ N (acc ++ [v]) σ (upd H4 D (.lst (acc ++ [v])))
def bodyL (wi : TI) (g : TG) (tt : TT) (te : TE) (D : Addr) : TBd := fun acc σ H N => wi σ H fun J H1 => LcLoopA J g tt (bodyE te D) acc N σ H1
def tLc2 (K : PySem.W.Frag) (wi : TI) (src : List (Option Nat)) (g : TG) (tt : TT) (wi1 : TI) (g1 : TG) (tt1 : TT) (te : TE) : TE := fun σ H Q => wi σ H fun J H1 => ∀ D, L2.new K H1 D → LcLoopA J g tt (bodyL wi1 g1 tt1 te D) [] (fun _ _ H' => Q (.ref D) H') (pick σ src) (upd H1 D (.lst []))
section
variable {elt tg iter tg1 iter1 : Expr} {ifs ifs1 : List Expr} {scope : Scope} {pos : Pos} {it acc : Value} {env : Env}
theorem compTurn_0 : compTurn (.ListComp elt [⟨tg, iter, ifs, 0⟩, ⟨tg1, iter1, ifs1, 0⟩] scope pos) 0 it acc env = (do
      standAt iter.pos
      match ← pyNext it with
      | none => pure (.done .next)
      | some v =>
        letOwnedTupleGo tg it v
        assign tg env v
        let mut ok := true
        for c in ifs do
          if ok then ok ← isTrue c env (eval c env)
        if ok then
          let x ← eval iter1 env
          standAt iter1.pos
          let x ← foldedSetIterable iter1 env x
          let _ ← runOwn (.compStart (.ListComp elt [⟨tg, iter, ifs, 0⟩, ⟨tg1, iter1, ifs1, 0⟩] scope pos) 1 (← holding [x] (pyIter x)) acc env) env
        again (.compLoop (.ListComp elt [⟨tg, iter, ifs, 0⟩, ⟨tg1, iter1, ifs1, 0⟩] scope pos) 0 it acc env)) := by rfl
theorem compTurn_1 : compTurn (.ListComp elt [⟨tg, iter, ifs, 0⟩, ⟨tg1, iter1, ifs1, 0⟩] scope pos) 1 it acc env = (do
      standAt iter1.pos
      match ← pyNext it with
      | none => pure (.done .next)
      | some v =>
        letOwnedTupleGo tg1 it v
        assign tg1 env v
        let mut ok := true
        for c in ifs1 do
          if ok then ok ← isTrue c env (eval c env)
        if ok then
          (do let _ ← call (.builtin "list.append") [acc, ← eval elt env])
        again (.compLoop (.ListComp elt [⟨tg, iter, ifs, 0⟩, ⟨tg1, iter1, ifs1, 0⟩] scope pos) 1 it acc env)) := by rfl
variable {prog : Program} {w : World} {A : Around} {R : Result → Shared → Prop} {s : Shared}
theorem compLoop_1 (I : Nat → Shared → Prop)
    (turn : ∀ n s, I n s → wpAny (model prog w) A (pyNext it) (fun r s₁ => match r with
      | none => R (.ok .next) s₁
      | some v => wpAny (model prog w) A (letOwnedTupleGo tg1 it v) (fun _ s₁' => wpAny (model prog w) A (assign tg1 env v) (fun _ s₂ =>
          wpAny (model prog w) A (forIn ifs1 true fun c r => if r = true then do let ok ← isTrue c env (eval c env); pure (ForInStep.yield ok) else pure (ForInStep.yield r)) (fun ok s₃ =>
            if ok = true then wpAny (model prog w) A (eval elt env) (fun x s₄ =>
              wpAny (model prog w) A (call (.builtin "list.append") [acc, x]) (fun _ s₅ => ∃ m, m < n ∧ I m s₅) F0 s₄) F0 s₃
            else ∃ m, m < n ∧ I m s₃) F0 s₂) F0 s₁') F0 s₁) F0 s)
    (n : Nat) (h : I n s) :
    codeAny (model prog w) A (.compLoop (.ListComp elt [⟨tg, iter, ifs, 0⟩, ⟨tg1, iter1, ifs1, 0⟩] scope pos) 1 it acc env) R s := by
  refine codeAny_loop rfl I (fun n s hI => ?_) n h
  show wpAny _ A ((compTurn (.ListComp elt [⟨tg, iter, ifs, 0⟩, ⟨tg1, iter1, ifs1, 0⟩] scope pos) 1 it acc env).onRaise (fun x => do noteFrame x env; theTreesLotGoes x)) _ _ s
  refine wpAny_noted ?_
  rw [compTurn_1]
  refine wpAny_bind (wpAny_standAt (wpAny_bind (wpAny_mono (turn n s hI) (fun r s₁ h₁ => ?_) fun _ _ h' => h'.elim)))
  cases r with
  | none => exact wpAny_pure h₁
  | some v =>
    refine wpAny_bind (wpAny_mono h₁ (fun _ s₁' h₁' => ?_) fun _ _ h' => h'.elim)
    refine wpAny_bind (wpAny_mono h₁' (fun _ s₂ h₂ => wpAny_bind (wpAny_mono h₂ (fun ok s₃ h₃ => ?_) fun _ _ h' => h'.elim)) fun _ _ h' => h'.elim)
    cases ok with
    | false => exact wpAny_pure ⟨rfl, h₃⟩
    | true =>
      exact wpAny_bind (wpAny_bind (wpAny_mono h₃ (fun x s₄ h₄ => wpAny_bind (wpAny_mono h₄ (fun _ s₅ h₅ => wpAny_pure (wpAny_pure ⟨rfl, h₅⟩)) fun _ _ h' => h'.elim)) fun _ _ h' => h'.elim))
theorem compLoop_0 (I : Nat → Shared → Prop) (hs : ∀ x, foldedSetIterable iter1 env x = pure x)
    (turn : ∀ n s, I n s → wpAny (model prog w) A (pyNext it) (fun r s₁ => match r with
      | none => R (.ok .next) s₁
      | some v => wpAny (model prog w) A (letOwnedTupleGo tg it v) (fun _ s₁' => wpAny (model prog w) A (assign tg env v) (fun _ s₂ =>
          wpAny (model prog w) A (forIn ifs true fun c r => if r = true then do let ok ← isTrue c env (eval c env); pure (ForInStep.yield ok) else pure (ForInStep.yield r)) (fun ok s₃ =>
            if ok = true then wpAny (model prog w) A (eval iter1 env) (fun x s₄ => wpAny (model prog w) A (pyIter x) (fun it' s₅ =>
              codeAny (model prog w) A (.compStart (.ListComp elt [⟨tg, iter, ifs, 0⟩, ⟨tg1, iter1, ifs1, 0⟩] scope pos) 1 it' acc env) (fun r s₆ => match r with | .ok _ => ∃ m, m < n ∧ I m s₆ | .error _ => False) s₅) F0 s₄) F0 s₃
            else ∃ m, m < n ∧ I m s₃) F0 s₂) F0 s₁') F0 s₁) F0 s)
    (n : Nat) (h : I n s) :
    codeAny (model prog w) A (.compLoop (.ListComp elt [⟨tg, iter, ifs, 0⟩, ⟨tg1, iter1, ifs1, 0⟩] scope pos) 0 it acc env) R s := by
  refine codeAny_loop rfl I (fun n s hI => ?_) n h
  show wpAny _ A ((compTurn (.ListComp elt [⟨tg, iter, ifs, 0⟩, ⟨tg1, iter1, ifs1, 0⟩] scope pos) 0 it acc env).onRaise (fun x => do noteFrame x env; theTreesLotGoes x)) _ _ s
  refine wpAny_noted ?_
  rw [compTurn_0]
  refine wpAny_bind (wpAny_standAt (wpAny_bind (wpAny_mono (turn n s hI) (fun r s₁ h₁ => ?_) fun _ _ h' => h'.elim)))
  cases r with
  | none => exact wpAny_pure h₁
  | some v =>
    refine wpAny_bind (wpAny_mono h₁ (fun _ s₁' h₁' => ?_) fun _ _ h' => h'.elim)
    refine wpAny_bind (wpAny_mono h₁' (fun _ s₂ h₂ => wpAny_bind (wpAny_mono h₂ (fun ok s₃ h₃ => ?_) fun _ _ h' => h'.elim)) fun _ _ h' => h'.elim)
    cases ok with
    | false => exact wpAny_pure ⟨rfl, h₃⟩
    | true =>
      refine wpAny_bind (wpAny_mono h₃ (fun x s₄ h₄ => ?_) fun _ _ h' => h'.elim)
      refine wpAny_bind (wpAny_standAt (wpAny_bind (wpAny_of_eq (hs x) (wpAny_bind (wpAny_holding (wpAny_mono h₄ (fun it' s₅ h₅ => ?_) fun _ _ h' => h'.elim))))))
      refine wpAny_bind (wpAny_runOwn (codeAny_mono h₅ fun r s₆ h₆ => ?_))
      cases r with
      | ok f => exact wpAny_pure ⟨rfl, h₆⟩
      | error x => exact h₆.elim
theorem compStart_1
    (h0 : codeAny (model prog w) A (.compLoop (.ListComp elt [⟨tg, iter, ifs, 0⟩, ⟨tg1, iter1, ifs1, 0⟩] scope pos) 1 it acc env) R s)
    (h : wpAny (model prog w) A (pyIter it) (fun it' s' => codeAny (model prog w) A (.compLoop (.ListComp elt [⟨tg, iter, ifs, 0⟩, ⟨tg1, iter1, ifs1, 0⟩] scope pos) 1 it' acc env) R s')
      (notedBy (model prog w) A env fun x s' => R (.error x) s') s) :
    codeAny (model prog w) A (.compStart (.ListComp elt [⟨tg, iter, ifs, 0⟩, ⟨tg1, iter1, ifs1, 0⟩] scope pos) 1 it acc env) R s := by
  refine codeAny_of_tree ?_
  show wpAny _ _ ((compStart (.ListComp elt [⟨tg, iter, ifs, 0⟩, ⟨tg1, iter1, ifs1, 0⟩] scope pos) 1 it acc env).onRaise (fun x => do noteFrame x env; standAt theWindowsPlace)) _ _ s
  refine wpAny_notedAt ?_
  unfold compStart
  show wpAny _ _ (ask >>= _) _ _ s
  refine wpAny_bind (wpAny_askSetting (wpAny_ite ?_))
  split
  · first
      | exact wpAny_bind (wpAny_pure (wpAny_pure (And.intro rfl h0)))
      | exact wpAny_pure (And.intro rfl h0)
  · first
      | exact wpAny_bind (wpAny_rule (wpAny_bind (wpAny_standAt (wpAny_bind (wpAny_mono h (fun it' s' h' => wpAny_pure (And.intro rfl h')) fun _ _ x => x)))))
      | (refine wpAny_bind (wpAny_rule ?_); show wpAny _ _ (standAt iter1.pos >>= _) _ _ s; exact wpAny_bind (wpAny_standAt (wpAny_bind (wpAny_mono h (fun it' s' h' => wpAny_pure (And.intro rfl h')) fun _ _ x => x))))
end
section
variable {Y : Cx} {elt tg iter tg1 iter1 : Expr} {ifs ifs1 : List Expr} {scope : Scope} {pos : Pos} {g : TG} {tt : TT} {te : TE}
theorem inner_run (hc : Y.calm = true) (hg : JG Y tg1 g) (ht : JF Y ifs1 tt) (he : JE Y elt te) (hxe : Y.xe = F0) {R : Result → Shared → Prop}
    {pins : List (Addr × Obj)} {σ : St} {H : Hp} {s : Shared} {it D : Addr} {fp : List Addr} {tn : Nat → Heap → Prop} {J : It} {acc0 : List V} {F : List V → St → Hp → Prop} (I : Inv Y pins σ H s) (T : Turn Y.prog Y.w Y.K tg1 J fp it tn) (st : tn 0 s.heap) (hf : ∀ b ∈ fp, FpOk Y pins H b)
    (h : LcLoopA J g tt (bodyE te D) acc0 F σ H)
    (hR : ∀ acc σ' H' s', Inv Y pins σ' H' s' → F acc σ' H' → R (.ok .next) s') :
    codeAny (model Y.prog Y.w) Y.A (.compStart (.ListComp elt [⟨tg, iter, ifs, 0⟩, ⟨tg1, iter1, ifs1, 0⟩] scope pos) 1 (.ref it) (.ref D) Y.env) R s := by
  obtain ⟨W, ⟨m0, w0⟩, turn⟩ := h
  have stat : ∀ {H' : Hp}, (∀ b ∈ fp, H' b = none) → ∀ b ∈ fp, FpOk Y pins H' b := fun hn b hb => by
    obtain ⟨f0, f1, f2, f3, f4, f5⟩ := hf b hb
    exact ⟨hn b hb, f1, f2, f3, f4, f5⟩
  have loop : codeAny (model Y.prog Y.w) Y.A (.compLoop (.ListComp elt [⟨tg, iter, ifs, 0⟩, ⟨tg1, iter1, ifs1, 0⟩] scope pos) 1 (.ref it) (.ref D) Y.env) R s := by
    refine compLoop_1 (fun n s' => ∃ i acc σ' H', Inv Y pins σ' H' s' ∧ tn i s'.heap ∧ (∀ b ∈ fp, H' b = none) ∧ W i n acc σ' H') ?_ m0 ⟨0, _, _, _, I, st, fun b hb => (hf b hb).1, w0⟩
    rintro n s3 ⟨i, acc, σ3, H3, I3, st3, fr3, w3⟩
    rcases turn i n acc σ3 H3 w3 with ⟨stop, qn⟩ | ⟨go, NN, hNN, step⟩
    · refine thn (T.done Y rfl rfl rfl hc i pins s3 σ3 H3 F0 I3 (stat fr3) st3 stop) fun r s4 ⟨hr, I4⟩ => ?_
      subst hr
      exact hR _ _ _ _ I4 qn
    · refine thn (T.item Y rfl rfl rfl hc i pins s3 σ3 H3 F0 I3 (stat fr3) st3 go) fun r s4 ⟨u, hr, h4⟩ => ?_
      subst hr
      refine thn h4 fun _ s5 ⟨x, H5, I5, r5, y5, st5, fr5⟩ => ?_
      have I5' := I5.pinned (stat fr5) (T.obj _ _ st5)
      have hgh := hg.h _ s5 σ3 H5 x u _ I5' r5 (step x H5 y5)
      rw [hxe] at hgh
      refine thn hgh fun _ s6 ⟨σ6, H6, I6, q6⟩ => ?_
      have hth := ht.h _ s6 σ6 H6 _ I6 q6
      rw [hxe] at hth
      refine thn hth fun b s7 ⟨H7, I7, q7⟩ => ?_
      have again : ∀ {acc8 : List V} {s8 : Shared} {H8 : Hp}, Inv Y (pins ++ pinsAt fp s5.heap) σ6 H8 s8 → NN acc8 σ6 H8 → ∃ m, m < n ∧ ∃ i acc σ' H', Inv Y pins σ' H' s8 ∧ tn i s8.heap ∧ (∀ b ∈ fp, H' b = none) ∧ W i m acc σ' H' := fun {acc8 s8 H8} I8 w => by
        obtain ⟨m', hm, w8⟩ := hNN _ _ _ w
        refine ⟨m', hm, i + 1, acc8, σ6, H8, I8.unpinned, T.keep _ _ _ st5 fun b hb o e => (I8.pin (b, o) (List.mem_append_right _ (List.mem_append_right _ (mem_pinsAt hb e)))).1, fun b hb => ?_, w8⟩
        obtain ⟨o, e, d⟩ := T.obj _ _ st5 b hb
        exact (I8.pin (b, o) (List.mem_append_right _ (List.mem_append_right _ (mem_pinsAt hb e)))).2.1
      cases b with
      | false => exact again I7 q7
      | true =>
        have heh := he.h _ s7 σ6 H7 _ I7 q7
        rw [hxe] at heh
        refine thn heh fun y s8 ⟨v, H8, I8, r8, q8⟩ => ?_
        obtain ⟨hx, hz, w8⟩ := q8
        have hmt := mt_append (X := Y) _ s8 σ6 H8 (.ref D) [v] (.ref D) [y] (fun _ H9 => H9 = upd H8 D (.lst (acc ++ [v]))) I8 rfl (.cons r8 .nil) ⟨_, acc, v, rfl, rfl, hx, hz, rfl⟩
        rw [hxe] at hmt
        refine thn hmt fun _ s9 ⟨_, H9, I9, _, q9⟩ => ?_
        subst q9
        exact again I9 w8
  exact compStart_1 loop (T.self _ 0 _ _ _ st loop)
end
section
variable {X : Cx} {sc : Scope} {N : List Str} {src : List (Option Nat)} {tg iter tg1 iter1 elt : Expr} {ifs ifs1 : List Expr} {wi wi1 : TI} {g g1 : TG} {tt tt1 : TT} {te : TE} {pos : Pos}
theorem comp_run2 {R : Value → Addr → Result → Shared → Prop} {E : Value → Shared → Prop} (c : Cap X sc N src) (hc : X.calm = true)
    (hg : ∀ C s H fp, JG (X.comp N sc C s H fp) tg g) (ht : ∀ C s H fp, JF (X.comp N sc C s H fp) ifs tt)
    (hi1 : ∀ C s H fp, JI (X.comp N sc C s H fp) tg1 iter1 wi1) (hg1 : ∀ C s H fp, JG (X.comp N sc C s H fp) tg1 g1) (ht1 : ∀ C s H fp, JF (X.comp N sc C s H fp) ifs1 tt1) (he : ∀ C s H fp, JE (X.comp N sc C s H fp) elt te)
    (hs1 : ∀ C s H fp x, foldedSetIterable iter1 (X.comp N sc C s H fp).env x = pure x)
    {pins : List (Addr × Obj)} {σ : St} {H : Hp} {s : Shared} {it : Addr} {fp : List Addr} {tn : Nat → Heap → Prop} {J : It} {Q : V → Hp → Prop} (I : Inv X pins σ H s) (T : Turn X.prog X.w X.K tg J fp it tn) (st : tn 0 s.heap) (hf : ∀ b ∈ fp, FpOk X pins H b)
    (h : ∀ D, L2.new X.K H D → LcLoopA J g tt (bodyL wi1 g1 tt1 te D) [] (fun _ _ H' => Q (.ref D) H') (pick σ src) (upd H D (.lst [])))
    (hR : ∀ D C s' σ' H', s.heap.objs.size ≤ C → Inv (X.comp N sc C s H fp) [] σ' H' s' → Q (.ref D) H' → R (.ref D) C (.ok .next) s') :
    wpAny (model X.prog X.w) X.A (newList []) (fun acc s₃ => wpAny (model X.prog X.w) X.A (newFunctionEnv sc X.env.globals (closL X.env sc.names []) [] X.env.qual none .none (some X.env)) (fun cenv s₄ =>
      codeAny (model X.prog X.w) X.A (.compStart (.ListComp elt [⟨tg, iter, ifs, 0⟩, ⟨tg1, iter1, ifs1, 0⟩] sc pos) 0 (.ref it) acc { cenv with scope := relabel sc X.env }) (R acc cenv.locals) s₄) E s₃) E s := by
  refine wpAny_newObj_type (wpAny_newFunctionEnv c.cell (by intro y hy; simp at hy) (fun h₁ hns₁ hsb₁ => ?_) c.kind)
  dsimp only at hns₁ hsb₁ ⊢
  generalize hH2 : s.heap.push { cls := .type "list", dict := none, data := .seq ([] : List Value).toArray } = H2 at hns₁ hsb₁ ⊢
  have hC : H2.objs.size = s.heap.objs.size + 1 := by rw [← hH2, Heap.size_push]
  have hDC : s.heap.objs.size ≠ H2.objs.size := by rw [hC]; exact Nat.ne_of_lt (Nat.lt_succ_self _)
  have hCle : s.heap.objs.size ≤ H2.objs.size := by rw [hC]; exact Nat.le_succ _
  have below : ∀ b, b < s.heap.objs.size → b ≠ H2.objs.size := fun b hb => by rw [hC]; exact Nat.ne_of_lt (Nat.lt_succ_of_lt hb)
  have old : ∀ b o, s.heap.get? b = some o → h₁.get? b = some o := fun b o e => hsb₁.extBut b o (below b (Heap.lt_size e)) (Heap.get?_push_of_some _ (hH2 ▸ Heap.get?_push_of_some _ e))
  have hacc : h₁.get? s.heap.objs.size = some { cls := .type "list", dict := none, data := .seq ([] : List Value).toArray } := hsb₁.extBut _ _ hDC (Heap.get?_push_of_some _ (hH2 ▸ Heap.get?_push_size _ rfl))
  have ho : ∀ b ∈ fp, ∃ o, s.heap.get? b = some o := fun b hb => let ⟨o, e, _⟩ := T.obj _ _ st b hb; ⟨o, e⟩
  have I0 := I.block (t' := s.toks + ([] : List (Str × Value)).length) c hf ho (Nat.le_refl _) hCle hDC old hns₁ ⟨Nat.zero_le _, [], 0, .nil, hacc⟩
  have st0 : tn 0 h₁ := T.keep _ _ _ st fun b hb o e => old b o e
  obtain ⟨W, ⟨m0, w0⟩, turn⟩ := h _ I.new
  have stat : ∀ {H' : Hp}, (∀ b ∈ fp, H' b = none) → ∀ b ∈ fp, FpOk (X.comp N sc H2.objs.size s H fp) [] H' b := fun hn b hb => by
    obtain ⟨f0, f1, f2, f3, f4, f5⟩ := hf b hb
    obtain ⟨o, e⟩ := ho b hb
    refine ⟨hn b hb, below b (Heap.lt_size e), fun z => ?_, .inl hb, fun x a q => f4 x a (clos_look q), fun p hp => nomatch hp⟩
    rcases List.mem_cons.mp (I.stkSub b z) with q | q
    · exact f1 q
    · exact f2 q
  have fr0 : ∀ b ∈ fp, (upd H s.heap.objs.size (.lst [])) b = none := fun b hb => by
    obtain ⟨o, e⟩ := ho b hb
    rw [upd_ne (Nat.ne_of_lt (Heap.lt_size e))]
    exact (hf b hb).1
  have loop : ∀ s₃ : Shared, s₃ = { s with heap := h₁, toks := s.toks + ([] : List (Str × Value)).length } →
      codeAny (model X.prog X.w) X.A (.compLoop (.ListComp elt [⟨tg, iter, ifs, 0⟩, ⟨tg1, iter1, ifs1, 0⟩] sc pos) 0 (.ref it) (.ref s.heap.objs.size) (compEnvC sc (closL X.env sc.names []) H2.objs.size X.env)) (R (.ref s.heap.objs.size) H2.objs.size) s₃ := by
    rintro s₃ rfl
    refine compLoop_0 (fun n s' => ∃ i acc σ' H', Inv (X.comp N sc H2.objs.size s H fp) [] σ' H' s' ∧ tn i s'.heap ∧ (∀ b ∈ fp, H' b = none) ∧ W i n acc σ' H') (hs1 H2.objs.size s H fp) ?_ m0 ⟨0, _, _, _, I0, st0, fr0, w0⟩
    rintro n s3 ⟨i, acc, σ3, H3, I3, st3, fr3, w3⟩
    rcases turn i n acc σ3 H3 w3 with ⟨stop, qn⟩ | ⟨go, NN, hNN, step⟩
    · refine thn (T.done (X.comp N sc H2.objs.size s H fp) rfl rfl rfl hc i [] s3 σ3 H3 F0 I3 (stat fr3) st3 stop) fun r s4 ⟨hr, I4⟩ => ?_
      subst hr
      exact hR _ _ _ _ _ hCle I4 qn
    · refine thn (T.item (X.comp N sc H2.objs.size s H fp) rfl rfl rfl hc i [] s3 σ3 H3 F0 I3 (stat fr3) st3 go) fun r s4 ⟨u, hr, h4⟩ => ?_
      subst hr
      refine thn h4 fun _ s5 ⟨x, H5, I5, r5, y5, st5, fr5⟩ => ?_
      have I5' := I5.pinned (stat fr5) (T.obj _ _ st5)
      refine thn ((hg _ _ _ _).h _ s5 σ3 H5 x u _ I5' r5 (step x H5 y5)) fun _ s6 ⟨σ6, H6, I6, q6⟩ => ?_
      refine thn ((ht _ _ _ _).h _ s6 σ6 H6 _ I6 q6) fun b s7 ⟨H7, I7, q7⟩ => ?_
      have again : ∀ {acc8 : List V} {s8 : Shared} {σ8 : St} {H8 : Hp}, Inv (X.comp N sc H2.objs.size s H fp) ([] ++ pinsAt fp s5.heap) σ8 H8 s8 → NN acc8 σ8 H8 → ∃ m, m < n ∧ ∃ i acc σ' H', Inv (X.comp N sc H2.objs.size s H fp) [] σ' H' s8 ∧ tn i s8.heap ∧ (∀ b ∈ fp, H' b = none) ∧ W i m acc σ' H' := fun {acc8 s8 σ8 H8} I8 w => by
        obtain ⟨m', hm, w8⟩ := hNN _ _ _ w
        refine ⟨m', hm, i + 1, acc8, σ8, H8, I8.unpinned, T.keep _ _ _ st5 fun b hb o e => (I8.pin (b, o) (List.mem_append_right _ (List.mem_append_right _ (mem_pinsAt hb e)))).1, fun b hb => ?_, w8⟩
        obtain ⟨o, e, d⟩ := T.obj _ _ st5 b hb
        exact (I8.pin (b, o) (List.mem_append_right _ (List.mem_append_right _ (mem_pinsAt hb e)))).2.1
      cases b with
      | false => exact again I7 q7
      | true =>
        refine thn ((hi1 H2.objs.size s H fp).h ([] ++ pinsAt fp s5.heap) s7 σ6 H7 _ I7 q7) fun v s8 h8 => thn h8 fun itv s9 h9 => ?_
        obtain ⟨it9, fp9, tn9, J9, H9, e9, I9, T9, st9, f9, q9⟩ := h9
        subst e9
        exact inner_run (Y := X.comp N sc H2.objs.size s H fp) hc (hg1 _ _ _ _) (ht1 _ _ _ _) (he _ _ _ _) rfl I9 T9 st9 f9 q9 fun acc σ' H' s' I' w' => again I' w'
  exact codeAny_compStart_list (loop _ rfl) (T.self _ 0 _ _ _ st0 (loop _ rfl))
theorem slc2 {i : Nat} {y : Str} {py spos : Pos} (hN : X.N.Nodup) (hy : X.N[i]? = some y) (hx : Loc X.env.scope y) (c : Cap X sc N src) (hc : X.calm = true) (hi : JI X tg iter wi)
    (hg : ∀ C s H fp, JG (X.comp N sc C s H fp) tg g) (ht : ∀ C s H fp, JF (X.comp N sc C s H fp) ifs tt)
    (hi1 : ∀ C s H fp, JI (X.comp N sc C s H fp) tg1 iter1 wi1) (hg1 : ∀ C s H fp, JG (X.comp N sc C s H fp) tg1 g1) (ht1 : ∀ C s H fp, JF (X.comp N sc C s H fp) ifs1 tt1) (he : ∀ C s H fp, JE (X.comp N sc C s H fp) elt te)
    (hsw : swapsWith (.ListComp elt [⟨tg, iter, ifs, 0⟩, ⟨tg1, iter1, ifs1, 0⟩] sc pos) (some (.Name y py)) spos.line X.env = pure true := by rfl)
    (hf : X.fn y = true ∨ X.env.scope.names.lookup y = some .local := by first | exact .inl rfl | exact .inr rfl | assumption)
    (hs : ∀ x, foldedSetIterable iter X.env x = pure x := by intro _; rfl) (hs1 : ∀ C s H fp x, foldedSetIterable iter1 (X.comp N sc C s H fp).env x = pure x := by intros; rfl) : JS X (.Assign [.Name y py] (.ListComp elt [⟨tg, iter, ifs, 0⟩, ⟨tg1, iter1, ifs1, 0⟩] sc pos) spos) (tAsg (tLc2 X.K wi src g tt wi1 g1 tt1 te) (gName i)) := ⟨by
  intro pins s σ H D I h
  rw [exec_Assign_Name_used _ _ _ _ hsw]
  refine wpAny_bind (wpAny_standAt (wpAny_bind ?_))
  show wpAny _ X.A (do let _ ← comprehension (.ListComp elt [⟨tg, iter, ifs, 0⟩, ⟨tg1, iter1, ifs1, 0⟩] sc pos) sc X.env _ (newList []) false (eval iter X.env) (some (assign (.Name y py) X.env))) _ _ s
  refine wpAny_bind (wpAny_mono (wpAny_comprehension_free (use := some (assign (.Name y py) X.env)) (Q := fun _ s' => SP X pins D .next s') rfl hs (closureFor_eq fun x hx hk => ?_) c.kind c.names ?_) (fun _ s' hq => wpAny_pure (wpAny_pure hq)) fun _ _ e => e)
  · obtain ⟨n, k⟩ := x
    cases hk
    exact I.ok.has _ (c.free hx)
  refine thn (hi.h pins s σ H _ I h) fun v s1 h1 => thn h1 fun itv s2 h2 => ?_
  obtain ⟨it, fp, tn, J, H2, e, I2, T, st2, f2, h2⟩ := h2
  subst e
  refine comp_run2 (R := fun acc C => compPost (model X.prog X.w) X.A X.xe (some (assign (.Name y py) X.env)) (fun _ s' => SP X pins D .next s') acc C) (Q := fun v H' => D.nx (σ.set i (some v)) H') c hc hg ht hi1 hg1 ht1 he hs1 I2 T st2 f2 h2 fun L C s' σ' H' hC I' q => ?_
  obtain ⟨m, hn, _⟩ := id I'.loc
  obtain ⟨o, es, ep, ho, r⟩ := id hn
  have I3 : Inv X pins σ H' s' := I2.unblock (h' := s'.heap) f2 hC I' fun _ _ => rfl
  have cL : C ≠ X.env.locals := Nat.ne_of_gt (Nat.lt_of_lt_of_le I2.lt hC)
  have cC : ∀ x a, X.env.cells.lookup x = some a → a ≠ C := fun x a e => by
    obtain ⟨v, o, e', _⟩ := I2.cell x a e
    exact Nat.ne_of_lt (Nat.lt_of_lt_of_le (Heap.lt_size e') hC)
  have cP : ∀ p ∈ X.pn ++ pins, p.1 ≠ C := fun p hp => Nat.ne_of_lt (Nat.lt_of_lt_of_le (Heap.lt_size (I2.pin p hp).1) hC)
  have fr : H' C = none := I'.free
  have I4 : Inv X (pins ++ [(C, o)]) σ H' s' := I3.pins_of fun p hp => (List.mem_append.mp hp).elim (fun z => I3.pin p (List.mem_append_right _ z)) fun z => by
    have e : p = (C, o) := by simpa using z
    subst e
    exact ⟨ho, fr, cL, I2.nofs hC, fun v z => by
      have r1 := r
      simp_all⟩
  show wpAny (model X.prog X.w) X.A (assign (.Name y py) X.env (.ref L)) _ _ s'
  refine thn (pg_name (pos := py) hN hy hx hf _ s' σ H' (.ref L) (.ref L) (fun σ1 H1 => D.nx σ1 H1 ∧ H1 = H') I4 rfl ⟨q, rfl⟩) fun _ s5 ⟨σ5, H5, I5, q5, e5⟩ => ?_
  subst e5
  have pC := (I5.pin (C, o) (List.mem_append_right _ (List.mem_append_right _ (by simp)))).1
  refine ⟨m, ⟨o, es, ep, pC, r⟩, fun h' sb => ?_⟩
  exact ⟨σ5, H5, I5.unpinned.turned (t' := s5.toks) (fun b u hb e => (sb.2 b hb).trans e) fr cL (.inr (Nat.le_trans I2.sz hC)) cC cP, q5⟩⟩
end
section
variable {K : PySem.W.Frag} {g : TG} {tt : TT} {body : TBd} {a : Addr} {acc0 : List V} {F : List V → St → Hp → Prop} {σ : St} {H : Hp} {xs : List V} {n : Nat}
theorem la_run {J : It} (Pv : Nat → List V → St → Hp → Prop) (h0 : Pv 0 acc0 σ H) (hgo : ∀ i acc σ H, i < n → Pv i acc σ H → J.go i H) (hst : ∀ acc σ H, Pv n acc σ H → J.stop n H)
    (hs : ∀ i acc σ H x H', i < n → Pv i acc σ H → J.yld i H x H' → g x σ H' fun σ2 H2 => tt σ2 H2 fun b H3 => if b = true then body acc σ2 H3 (Pv (i + 1)) else Pv (i + 1) acc σ2 H3)
    (hd : ∀ acc σ H, Pv n acc σ H → F acc σ H) : LcLoopA J g tt body acc0 F σ H := by
  refine ⟨fun i m acc σ H => Pv i acc σ H ∧ i ≤ n ∧ m = n - i, ⟨n, h0, Nat.zero_le _, by omega⟩, fun i m acc σ H ⟨h, hi, hm⟩ => ?_⟩
  by_cases c : i < n
  · right
    exact ⟨hgo i acc σ H c h, Pv (i + 1), fun acc' σ' H' q => ⟨n - (i + 1), by omega, q, by omega, rfl⟩, fun x H' hy => hs i acc σ H x H' c h hy⟩
  · left
    have e : i = n := by omega
    subst e
    exact ⟨hst acc σ H h, hd acc σ H h⟩
theorem la_list (Pv : Nat → List V → St → Hp → Prop) (h0 : Pv 0 acc0 σ H) (hl : ∀ i acc σ H, i ≤ xs.length → Pv i acc σ H → SqL K H a xs)
    (hs : ∀ i x acc σ H, xs[i]? = some x → Pv i acc σ H → g x σ H fun σ2 H2 => tt σ2 H2 fun b H3 => if b = true then body acc σ2 H3 (Pv (i + 1)) else Pv (i + 1) acc σ2 H3)
    (hd : ∀ acc σ H, Pv xs.length acc σ H → F acc σ H) : LcLoopA (Itl K a) g tt body acc0 F σ H := by
  refine la_run (n := xs.length) Pv h0 (fun i acc σ H hi h => ⟨xs, _, hl i acc σ H (Nat.le_of_lt hi) h, List.getElem?_eq_getElem hi⟩) (fun acc σ H h => ⟨xs, hl _ acc σ H (Nat.le_refl _) h, Nat.le_refl _⟩) (fun i acc σ H x H' hi h hy => ?_) hd
  obtain ⟨rfl, hy⟩ := hy
  exact hs i x acc σ _ (hy xs (hl i acc σ _ (Nat.le_of_lt hi) h)) h
theorem la_tup (Pv : Nat → List V → St → Hp → Prop) (h0 : Pv 0 acc0 σ H) (hl : ∀ i acc σ H, i ≤ xs.length → Pv i acc σ H → SqT K H a xs)
    (hs : ∀ i x acc σ H, xs[i]? = some x → Pv i acc σ H → g x σ H fun σ2 H2 => tt σ2 H2 fun b H3 => if b = true then body acc σ2 H3 (Pv (i + 1)) else Pv (i + 1) acc σ2 H3)
    (hd : ∀ acc σ H, Pv xs.length acc σ H → F acc σ H) : LcLoopA (Itt K a) g tt body acc0 F σ H := by
  refine la_run (n := xs.length) Pv h0 (fun i acc σ H hi h => ⟨xs, _, hl i acc σ H (Nat.le_of_lt hi) h, List.getElem?_eq_getElem hi⟩) (fun acc σ H h => ⟨xs, hl _ acc σ H (Nat.le_refl _) h, Nat.le_refl _⟩) (fun i acc σ H x H' hi h hy => ?_) hd
  obtain ⟨rfl, hy⟩ := hy
  exact hs i x acc σ _ (hy xs (hl i acc σ _ (Nat.le_of_lt hi) h)) h
theorem tLc2_list {tl : TE} {src : List (Option Nat)} {wi1 : TI} {g1 : TG} {tt1 : TT} {te : TE} {Q : VK} : tLc2 K (iList K tl) src g tt wi1 g1 tt1 te σ H Q = tl σ H (fun x H1 => ∃ a, x = .ref a ∧ (∃ xs, SqL K H1 a xs) ∧ ∀ D, L2.new K H1 D → LcLoopA (Itl K a) g tt (bodyL wi1 g1 tt1 te D) [] (fun _ _ H' => Q (.ref D) H') (pick σ src) (upd H1 D (.lst []))) := rfl
theorem bodyL_tup {tl : TE} {te : TE} {D : Addr} {acc : List V} {N : List V → St → Hp → Prop} : bodyL (iTup K tl) g tt te D acc σ H N = tl σ H (fun x H1 => ∃ a, x = .ref a ∧ (∃ xs, SqT K H1 a xs) ∧ LcLoopA (Itt K a) g tt (bodyE te D) acc N σ H1) := rfl
theorem bodyL_list {tl : TE} {te : TE} {D : Addr} {acc : List V} {N : List V → St → Hp → Prop} : bodyL (iList K tl) g tt te D acc σ H N = tl σ H (fun x H1 => ∃ a, x = .ref a ∧ (∃ xs, SqL K H1 a xs) ∧ LcLoopA (Itl K a) g tt (bodyE te D) acc N σ H1) := rfl
theorem bodyE_eq {te : TE} {D : Addr} {acc : List V} {N : List V → St → Hp → Prop} : bodyE te D acc σ H N = te σ H (fun v H4 => H4 D = some (.lst acc) ∧ acc.length < sizeLine ∧ N (acc ++ [v]) σ (upd H4 D (.lst (acc ++ [v])))) := rfl
end
end L2
set_option Elab.async false
set_option linter.all false
set_option maxRecDepth 100000
namespace L2
open PySem PySem.Spec PyProof.Rows
theorem vals_intsA : ∀ {ns : List Int} {us : List Value}, Vals (ns.map V.int) us → IntsAre us ns
  | [], us, h => by cases h; exact .nil
  | n :: ns, us, h => by
    cases h with
    | cons r rr =>
      obtain ⟨t, rfl⟩ := r
      exact .cons n t (vals_intsA rr)
theorem ints_vals : ∀ {us : List Value} {ns : List Int}, IntsAre us ns → Vals (ns.map V.int) us
  | _, _, .nil => .nil
  | _, _, .cons n t h => .cons ⟨t, rfl⟩ (ints_vals h)
theorem vals_at {xs : List V} {us : List Value} (h : Vals xs us) : ∀ {i : Nat} {u : Value}, us[i]? = some u → ∃ x, xs[i]? = some x ∧ RelV x u := by
  induction h with
  | nil => intro i u e; simp at e
  | cons r rr ih =>
    intro i u e
    cases i with
    | zero => simp only [List.getElem?_cons_zero, Option.some.injEq] at e ⊢; exact ⟨_, rfl, e ▸ r⟩
    | succ i => simp only [List.getElem?_cons_succ] at e ⊢; exact ih e
section
variable {X : Cx}
theorem range_any {bs : List Bool} : (List.range bs.length).any (fun i => bs.getD i true) = bs.any id := by
  induction bs with
  | nil => rfl
  | cons b bs ih =>
    rw [List.length_cons, List.range_succ_eq_map, List.any_cons, List.any_map, List.any_cons]
    have e : ((fun i => (b :: bs).getD i true) ∘ Nat.succ) = fun i => bs.getD i true := by funext i; simp
    rw [e, ih]
    rfl
theorem bools_truth {P : Program} {w : World} {A : Around} {bs : List Bool} {us : List Value} (r : Vals (bs.map V.bl) us) : TruthOf P w A (fun i v => us.toArray[i]? = some v) (fun i => bs.getD i true) := by
  intro i v s Q E hv hQ
  rw [List.getElem?_toArray] at hv
  obtain ⟨x, hx, rx⟩ := vals_at r hv
  rw [List.getElem?_map] at hx
  obtain ⟨b, hb, rfl⟩ := Option.map_eq_some_iff.mp hx
  cases rx
  have e : bs.getD i true = b := by rw [List.getD_eq_getElem?_getD, hb]; rfl
  dsimp only at hQ
  rw [e] at hQ
  exact wpAny_truthy_bool hQ
theorem kept_iter {s : Shared} {l : Addr} {h' : Heap} (hk : ∀ b o, b ∉ [s.heap.objs.size] → (s.heap.push { cls := .type "list_iterator", data := .fields #[.ref l, .int 0 0] }).get? b = some o → h'.get? b = some o) : ∀ b o, s.heap.get? b = some o → h'.get? b = some o := fun b o e => by
  refine hk b o (fun m => ?_) (Heap.get?_push_of_some _ e)
  have q : b = s.heap.objs.size := by simpa using m
  exact Nat.lt_irrefl _ (q ▸ Heap.lt_size e)
theorem call_anyL (hc : X.calm = true) : CallR X (.builtin "any") (fun xs H Q => ∃ (p : Addr) (bs : List Bool), xs = [.ref p] ∧ SqL X.K H p (bs.map V.bl) ∧ Q (.bl (bs.any id)) H) := by
  intro pins s σ H xs us Q I r h
  obtain ⟨p, bs, rfl, hx, q⟩ := h
  obtain ⟨u, rfl, ru⟩ := vals1 r
  cases ru
  obtain ⟨its, rv, ht, hz⟩ := I.list hx
  have hl : s.heap.IsList p its.toArray := ht.isList
  have hlt : p < s.heap.objs.size := by obtain ⟨_, e, _⟩ := hl; exact Heap.lt_size e
  refine call_any_walk (wpAny_pyIter_list hl ?_)
  refine ⟨_, _, _, _, _, _, fun i => bs.getD i true, rfl, Walks.list (A := X.A.in1) (I.ok.hd hc) _ p (Nat.ne_of_lt hlt) its.toArray, ⟨⟨_, Heap.get?_push_size _ rfl, rfl, rfl⟩, hl.push _⟩, bools_truth rv, fun h' tk hk => ?_⟩
  have el : its.toArray.size = bs.length := by rw [List.size_toArray, ← rv.length, List.length_map]
  rw [el, range_any]
  exact ⟨.bl _, H, I.kept (kept_iter hk), rfl, q⟩
end
section
variable {P : Program} {w : World} {A : Around} {E : Value → Shared → Prop} {s : Shared} {b0 : Array Keyed}
end
section
variable {X : Cx}
end
end L2
set_option Elab.async false
set_option linter.all false
set_option maxRecDepth 100000
namespace L2
open PySem PySem.Spec PyProof.Rows
def Rise (xs : Array Nat) : Prop := xs.toList.Pairwise (· < ·)
structure TabOk (t : SetTable) : Prop where
  bare : t.dummies = #[]
  rise : Rise t.place
section
variable {xs : Array Nat} {j : Nat}
theorem Rise.lt (h : Rise xs) {i k : Nat} (ik : i < k) (hk : k < xs.size) : xs.getD i j < xs.getD k j := by
  have hi : i < xs.size := Nat.lt_trans ik hk
  rw [Array.getD_eq_getD_getElem?, Array.getD_eq_getD_getElem?, Array.getElem?_eq_getElem hi, Array.getElem?_eq_getElem hk]
  have q := List.pairwise_iff_getElem.mp h i k (by simpa using hi) (by simpa using hk) ik
  simpa using q
theorem low_lt (h : Rise xs) {m : Nat} (hm : xs.getD m j < j) {i : Nat} (hi : i ≤ m) : xs.getD i j < j := by
  by_cases c : m < xs.size
  · by_cases e : i = m
    · rw [e]; exact hm
    · have := h.lt (j := j) (show i < m by omega) c
      omega
  · rw [Array.getD_eq_getD_getElem?, Array.getElem?_eq_none (by omega)] at hm
    exact absurd hm (Nat.lt_irrefl _)
theorem high_ge (h : Rise xs) {m : Nat} (hm : ¬ xs.getD m j < j) {i : Nat} (hi : m ≤ i) : ¬ xs.getD i j < j := fun c => hm (low_lt h c hi)
theorem below_go (h : Rise xs) : ∀ fuel lo hi, lo ≤ hi → hi ≤ xs.size → hi - lo ≤ fuel → (∀ i, i < lo → xs.getD i j < j) → (∀ i, hi ≤ i → ¬ xs.getD i j < j) →
    SetTable.below.go xs j fuel lo hi ≤ xs.size ∧ (∀ i, i < SetTable.below.go xs j fuel lo hi → xs.getD i j < j) ∧ ∀ i, SetTable.below.go xs j fuel lo hi ≤ i → ¬ xs.getD i j < j
  | 0, lo, hi, h1, h2, h3, h4, h5 => by
    have e : lo = hi := by omega
    unfold SetTable.below.go
    exact ⟨by omega, h4, fun i hi' => h5 i (by omega)⟩
  | fuel + 1, lo, hi, h1, h2, h3, h4, h5 => by
    unfold SetTable.below.go
    by_cases c : lo < hi
    · rw [if_pos c]
      dsimp only
      by_cases d : xs.getD ((lo + hi) / 2) j < j
      · rw [if_pos d]
        exact below_go h fuel _ _ (by omega) h2 (by omega) (fun i hi' => low_lt h d (by omega)) h5
      · rw [if_neg d]
        exact below_go h fuel _ _ (by omega) (by omega) (by omega) h4 (fun i hi' => high_ge h d hi')
    · rw [if_neg c]
      exact ⟨by omega, h4, fun i hi' => h5 i (by omega)⟩
theorem below_spec (h : Rise xs) (j : Nat) : SetTable.below xs j ≤ xs.size ∧ (∀ i, i < SetTable.below xs j → xs.getD i j < j) ∧ ∀ i, SetTable.below xs j ≤ i → ¬ xs.getD i j < j := by
  unfold SetTable.below
  refine below_go h _ _ _ (Nat.zero_le _) (Nat.le_refl _) (by omega) (fun i hi => absurd hi (Nat.not_lt_zero _)) (fun i hi => ?_)
  rw [Array.getD_eq_getD_getElem?, Array.getElem?_eq_none hi]
  exact Nat.lt_irrefl _
theorem Rise.insert (h : Rise xs) {j : Nat} (free : xs[SetTable.below xs j]? ≠ some j) : Rise (SetTable.insertAt xs (SetTable.below xs j) j) := by
  obtain ⟨b1, b2, b3⟩ := below_spec h j
  generalize SetTable.below xs j = p at *
  have at_ : ∀ i (hi : i < xs.size), xs.getD i j = xs.toList[i]'(by simpa using hi) := fun i hi => by
    rw [Array.getD_eq_getD_getElem?, Array.getElem?_eq_getElem hi]; simp
  unfold Rise SetTable.insertAt
  rw [Array.toList_append, Array.toList_push, Array.toList_extract, Array.toList_extract]
  simp only [List.extract_eq_drop_take, Nat.sub_zero, List.drop_zero]
  have e1 : List.take (xs.size - p) (List.drop p xs.toList) = xs.toList.drop p := List.take_of_length_le (by rw [List.length_drop]; simp)
  rw [e1, List.append_assoc]
  refine List.pairwise_append.mpr ⟨h.sublist (List.take_sublist _ _), ?_, ?_⟩
  · refine List.pairwise_append.mpr ⟨List.pairwise_singleton _ _, h.sublist (List.drop_sublist _ _), fun a ha c hc => ?_⟩
    have ea : a = j := by simpa using ha
    subst ea
    obtain ⟨i, hi, rfl⟩ := List.mem_iff_getElem.mp hc
    rw [List.length_drop] at hi
    rw [List.getElem_drop]
    have hlt : p + i < xs.size := by simp at hi; omega
    have q := b3 (p + i) (by omega)
    rw [at_ _ hlt] at q
    by_cases z : i = 0
    · subst z
      have ne : xs.toList[p + 0]'(by simpa using hlt) ≠ a := fun e => free (by
        rw [Array.getElem?_eq_getElem (by simpa using hlt)]
        simpa using e)
      omega
    · have hp : p < xs.size := by omega
      have q0 := b3 p (Nat.le_refl _)
      have q1 := h.lt (j := a) (show p < p + i by omega) hlt
      rw [at_ _ hlt] at q1
      omega
  · intro a ha c hc
    obtain ⟨i, hi, rfl⟩ := List.mem_iff_getElem.mp ha
    rw [List.length_take] at hi
    rw [List.getElem_take]
    have hlt : i < xs.size := by simp at hi; omega
    have qa := b2 i (by omega)
    rw [at_ _ hlt] at qa
    rcases List.mem_append.mp hc with z | z
    · have e : c = j := by simpa using z
      rw [e]; exact qa
    · obtain ⟨k, hk, rfl⟩ := List.mem_iff_getElem.mp z
      rw [List.length_drop] at hk
      rw [List.getElem_drop]
      exact List.pairwise_iff_getElem.mp h i (p + k) _ _ (by omega)
end
theorem has_none (j : Nat) : SetTable.has #[] j = false := by simp [SetTable.has]
theorem TabOk.slot {t : SetTable} (h : TabOk t) {j : Nat} (e : t.slot j = .empty) : t.place[SetTable.below t.place j]? ≠ some j := by
  intro c
  unfold SetTable.slot at e
  simp only [c, beq_self_eq_true, if_true] at e
  cases e
theorem probe_free {t : SetTable} (h : TabOk t) {f : Nat → Int} {x : Int} : ∀ (fuel : Nat) (p : SetTable.Probe) {j : Nat} {d : Option Nat}, p.dummy = none → SetTable.probe.go t f x fuel p = some (.empty j d) → d = none ∧ t.slot j = .empty
  | 0, p, j, d, hp, e => by unfold SetTable.probe.go at e; cases e
  | fuel + 1, p, j, d, hp, e => by
    unfold SetTable.probe.go at e
    have adv : (t.advance p).dummy = none := by unfold SetTable.advance; split <;> exact hp
    cases c : t.slot p.j with
    | empty =>
      rw [c] at e
      dsimp only at e
      cases e
      exact ⟨hp, c⟩
    | dummy =>
      exfalso
      unfold SetTable.slot at c
      dsimp only at c
      split at c
      · cases c
      · rw [h.bare, has_none] at c
        simp at c
    | live i =>
      rw [c] at e
      dsimp only at e
      split at e
      · cases e
      · exact probe_free h fuel _ adv e
theorem TabOk.standIn {t : SetTable} (n : Nat) : TabOk (t.standIn n) := ⟨rfl, by
  show (Array.range n).toList.Pairwise (· < ·)
  rw [Array.toList_range]
  exact List.pairwise_lt_range⟩
theorem TabOk.orStandIn {t : SetTable} (h : TabOk t) (n : Nat) : TabOk (t.orStandIn n) := by
  unfold SetTable.orStandIn
  split
  · exact h
  · exact .standIn n
theorem TabOk.put {t : SetTable} (h : TabOk t) {j : Nat} (e : t.slot j = .empty) : TabOk (t.put j).1 := ⟨by
  show (if SetTable.has t.dummies j then _ else t.dummies) = #[]
  rw [h.bare, has_none]
  rfl, h.rise.insert (h.slot e)⟩
theorem layNew_tab {t : SetTable} (h : TabOk t) (es : Array (Int × Value)) (hv : Int) (x : Value) : TabOk (layNew t es hv x).2.1 ∧ (layNew t es hv x).2.1.led = t.led := by
  unfold layNew
  cases c : t.freeSlot hv with
  | none => exact ⟨.standIn _, rfl⟩
  | some q =>
    obtain ⟨sl, wd⟩ := q
    have free : t.slot sl = .empty := by
      unfold SetTable.freeSlot at c
      split at c
      · next j d e =>
        unfold SetTable.probe at e
        obtain ⟨rfl, z⟩ := probe_free h _ _ rfl e
        simp only [Option.getD_none, Option.isSome_none, Option.some.injEq, Prod.mk.injEq] at c
        rw [← c.1]; exact z
      · cases c
    dsimp only
    refine ⟨(h.put free).orStandIn _, ?_⟩
    unfold SetTable.orStandIn
    split
    · rfl
    · rfl
theorem laid_rise (f : Nat → Option Nat) : ∀ l : List Nat, l.Pairwise (· < ·) → ((l.filterMap fun j => (f j).map (j, ·)).map (·.1)).Pairwise (· < ·) ∧ ∀ a ∈ (l.filterMap fun j => (f j).map (j, ·)).map (·.1), a ∈ l
  | [], _ => ⟨List.Pairwise.nil, fun a h => nomatch h⟩
  | j :: l, h => by
    obtain ⟨i1, i2⟩ := laid_rise f l (List.pairwise_cons.mp h).2
    cases c : f j with
    | none =>
      rw [List.filterMap_cons_none (by rw [c]; rfl)]
      exact ⟨i1, fun a ha => List.mem_cons_of_mem _ (i2 a ha)⟩
    | some k =>
      rw [List.filterMap_cons_some (b := (j, k)) (by rw [c]; rfl)]
      refine ⟨List.pairwise_cons.mpr ⟨fun a ha => (List.pairwise_cons.mp h).1 a (i2 a ha), i1⟩, fun a ha => ?_⟩
      rcases List.mem_cons.mp ha with z | z
      · exact z ▸ List.mem_cons_self
      · exact List.mem_cons_of_mem _ (i2 a z)
theorem relayAll_tab {t : SetTable} (es : Array (Int × Value)) (n : Nat) : TabOk (relayAll t es n).2.1 ∧ (relayAll t es n).2.1.led = t.led := by
  unfold relayAll
  cases c : t.relaid (es.map (·.1)) n with
  | none => exact ⟨.standIn _, rfl⟩
  | some q =>
    obtain ⟨t', order⟩ := q
    dsimp only
    split
    · unfold SetTable.relaid SetTable.laid at c
      cases d : SetTable.layClean (SetTable.sizeAbove n - 1) (es.map (·.1)) with
      | none => rw [d] at c; cases c
      | some owner =>
        rw [d] at c
        simp only [Option.bind_eq_bind, Option.bind_some, Option.pure_def, Option.some.injEq, Prod.mk.injEq] at c
        rw [← c.1]
        refine ⟨⟨rfl, ?_⟩, rfl⟩
        exact (laid_rise (fun j => owner.getD j none) _ List.pairwise_lt_range).1
    · exact ⟨.standIn _, rfl⟩
def ksOf (es : Array (Int × Value)) : List Int := es.toList.map fun e => numOf e.2
structure SetAt (P : Program) (w : World) (h : Heap) (a : Addr) (L : Bool) (M : Int → Prop) (n : Nat) (es : Array (Int × Value)) (ep : Nat) (t : SetTable) : Prop where
  at_ : ∃ o, h.get? a = some o ∧ o.ExactSet ∧ o.data = .set es ep t
  elems : ElemsOf (intKind P w) es.toList
  nd : (ksOf es).Nodup
  mem : ∀ k, k ∈ ksOf es ↔ M k
  len : es.size ≤ n
  fits : t.fits es.size = true
  tab : TabOk t
  led : t.led = L
def SetI (P : Program) (w : World) (h : Heap) (a : Addr) (L : Bool) (M : Int → Prop) (n : Nat) : Prop := ∃ es ep t, SetAt P w h a L M n es ep t
section
variable {P : Program} {w : World} {A : Around} {E : Value → Shared → Prop} {s : Shared}
theorem SetI.keep {h h' : Heap} {a : Addr} {L : Bool} {M : Int → Prop} {n : Nat} (q : SetI P w h a L M n) (k : ∀ o, h.get? a = some o → h'.get? a = some o) : SetI P w h' a L M n := by
  obtain ⟨es, ep, t, x⟩ := q
  obtain ⟨o, h1, h2⟩ := x.at_
  exact ⟨es, ep, t, ⟨⟨o, k o h1, h2⟩, x.elems, x.nd, x.mem, x.len, x.fits, x.tab, x.led⟩⟩
theorem is_num {k : Int} {v : Value} (h : (intKind P w).is k v = true) : numOf v = k ∧ ∃ t, v = .int k t := by
  obtain ⟨t, rfl⟩ := Value.isInt_shape h
  exact ⟨rfl, t, rfl⟩
theorem set_stored {h : Heap} {a : Addr} {o : Obj} {es0 es : Array (Int × Value)} {ep : Nat} {t0 t : SetTable} (ho : h.get? a = some o) (hx : o.ExactSet) (hd : o.data = .set es0 ep t0) :
    ∃ o', (h.update a (Obj.putSet es t)).get? a = some o' ∧ o'.ExactSet ∧ o'.data = .set es (ep + 1) t := by
  refine ⟨{ o with data := .set es (ep + 1) t }, ?_, hx, rfl⟩
  have g := Heap.get?_update_self (Obj.putSet es t) ho (by rw [putSet_of es t hd]; rfl)
  rwa [putSet_of es t hd] at g
theorem add_end {g : Bool → Sem Unit} (hg : ∀ (b : Bool) (s1 : Shared) (R : Unit → Shared → Prop), R () s1 → wpAny (model P w) A (g b) R E s1) {a : Addr} {o : Obj} {es0 es : Array (Int × Value)} {ep : Nat} {t0 t : SetTable} {L : Bool} {M : Int → Prop} {n : Nat} {wd : Bool} {R : Option Bool → Shared → Prop}
    (ho : s.heap.get? a = some o) (hx : o.ExactSet) (hd : o.data = .set es0 ep t0) (h1 : ElemsOf (intKind P w) es.toList) (h2 : (ksOf es).Nodup) (h3 : ∀ k, k ∈ ksOf es ↔ M k) (h4 : es.size ≤ n) (h5 : t.fits es.size = true) (h6 : TabOk t) (h7 : t.led = L) (hn : n < scanBound)
    (q : ∀ h', Heap.SameBut a s.heap h' → SetI P w h' a L M n → R (some true) { s with heap := h' }) :
    wpAny (model P w) A (do
      storeSet a es t
      if (!wd && t.tooFull) = true then do
        g (relayAll t es (SetTable.grown es.size)).2.2
        storeSet a (relayAll t es (SetTable.grown es.size)).1 (relayAll t es (SetTable.grown es.size)).2.1
        pure (some true)
      else pure (some true)) R E s := by
  refine wpAny_bind (wpAny_storeSet_of ho hd ?_ (fits_of_scanBound (Nat.lt_of_le_of_lt h4 hn)))
  obtain ⟨o1, g1, x1, d1⟩ := set_stored (es := es) (t := t) ho hx hd
  have sb := Heap.SameBut.update s.heap a (Obj.putSet es t)
  split
  · have pm := relayAll_perm t es (SetTable.grown es.size)
    have ft := relayAll_fits t es (SetTable.grown es.size)
    obtain ⟨tb, ld⟩ := relayAll_tab (t := t) es (SetTable.grown es.size)
    generalize relayAll t es (SetTable.grown es.size) = W at pm ft tb ld ⊢
    have kp : (ksOf W.1).Perm (ksOf es) := pm.map _
    have sz : W.1.size = es.size := by rw [← Array.length_toList, pm.length_eq, Array.length_toList]
    refine wpAny_bind (hg _ _ _ ?_)
    refine wpAny_bind (wpAny_storeSet_of g1 d1 ?_ (fits_of_scanBound (by omega)))
    obtain ⟨o2, g2, x2, d2⟩ := set_stored (es := W.1) (t := W.2.1) g1 x1 d1
    exact wpAny_pure (q _ (sb.trans (Heap.SameBut.update _ a _)) ⟨W.1, _, W.2.1, ⟨⟨o2, g2, x2, d2⟩, h1.perm pm, kp.nodup_iff.mpr h2, fun k => kp.mem_iff.trans (h3 k), by omega, ft, tb, ld.trans h7⟩⟩)
  · exact wpAny_pure (q _ sb ⟨es, _, t, ⟨⟨o1, g1, x1, d1⟩, h1, h2, h3, h4, h5, h6, h7⟩⟩)
theorem add_int {a : Addr} {L : Bool} {M : Int → Prop} {n : Nat} {k : Int} {tk : Tok} {R : Bool → Shared → Prop} (h : SetI P w s.heap a L M n) (hn : n + 1 < scanBound)
    (q : ∀ h' b, Heap.SameBut a s.heap h' → SetI P w h' a L (fun j => M j ∨ j = k) (n + 1) → R b { s with heap := h' }) : wpAny (model P w) A (setAddHashed a (.int k tk) (hashInt k)) R E s := by
  obtain ⟨es, ep, t, x⟩ := h
  obtain ⟨o, ho, hx, hd⟩ := x.at_
  have lt : es.size < scanBound := Nat.lt_of_le_of_lt x.len (by omega)
  unfold setAddHashed setAddHashedIn
  refine wpAny_holding (wpAny_bind (wpAny_setState_of ho hd x.fits ?_))
  dsimp only
  rw [byScan_of (knd := intKind P w) (x := .int k tk) rfl lt x.elems]
  simp only [↓reduceIte]
  unfold setAddByScan
  refine wpAny_bind (wpAny_bind (wpAny_rule (wpAny_bind (wpAny_setScan_of (intKind_is P w k tk) ho hd x.fits x.elems ?_))))
  cases c : es.toList.findIdx? (fun e => (intKind P w).is k e.2) with
  | some i =>
    obtain ⟨hi, p, _⟩ := List.findIdx?_eq_some_iff_getElem.mp c
    have there : M k := (x.mem k).mp (List.mem_map.mpr ⟨_, List.getElem_mem hi, (is_num p).1⟩)
    exact wpAny_pure (wpAny_pure (q s.heap false (Heap.SameBut.refl a s.heap) ⟨es, ep, t, ⟨⟨o, ho, hx, hd⟩, x.elems, x.nd, fun j => (x.mem j).trans ⟨.inl, fun z => z.elim id fun e => e ▸ there⟩, Nat.le_succ_of_le x.len, x.fits, x.tab, x.led⟩⟩))
  | none =>
    have fresh : k ∉ ksOf es := fun m => by
      obtain ⟨e, he, ek⟩ := List.mem_map.mp m
      have no := List.findIdx?_eq_none_iff.mp c e he
      obtain ⟨⟨k', hk', _⟩, _⟩ := x.elems e he
      rw [(is_num hk').1] at ek
      subst ek
      rw [hk'] at no
      cases no
    have giving : ∀ (b : Bool) {s1 : Shared} {R' : Unit → Shared → Prop}, R' () s1 → wpAny (model P w) A (match b with | true => rule "set.scan.the-table-gave-way" | false => pure ()) R' E s1 := fun b {s1 R'} z => by
      cases b with
      | true => exact wpAny_rule z
      | false => exact wpAny_pure z
    have pm := layNew_perm t es (hashInt k) (.int k tk)
    have ft := layNew_fits t es (hashInt k) (.int k tk)
    obtain ⟨tb, ld⟩ := layNew_tab x.tab es (hashInt k) (.int k tk)
    dsimp only
    generalize layNew t es (hashInt k) (.int k tk) = W at pm ft tb ld ⊢
    obtain ⟨es1, t1, wd, gv⟩ := W
    dsimp only at pm ft tb ld ⊢
    rw [Array.toList_push] at pm
    have e1 : ElemsOf (intKind P w) es1.toList := (x.elems.push (intKind_is P w k tk) rfl).perm pm
    have kp : (ksOf es1).Perm (ksOf es ++ [k]) := by
      have z := pm.map fun e => numOf e.2
      rwa [List.map_append] at z
    have n1 : (ksOf es1).Nodup := kp.nodup_iff.mpr (List.nodup_append.mpr ⟨x.nd, by simp, fun a ha b hb => by
      have e : b = k := by simpa using hb
      subst e
      exact fun z => fresh (z ▸ ha)⟩)
    have m1 : ∀ j, j ∈ ksOf es1 ↔ (M j ∨ j = k) := fun j => by
      rw [kp.mem_iff, List.mem_append, x.mem j]
      simp
    have s1 : es1.size ≤ n + 1 := by
      rw [← Array.length_toList, pm.length_eq, List.length_append, Array.length_toList]
      exact Nat.succ_le_succ x.len
    refine wpAny_bind (giving _ ?_)
    have led1 : t1.led = L := ld.trans x.led
    split
    · refine wpAny_bind ?_
      rw [hashByValue_scannable 8 (x := .int k tk) rfl]
      refine wpAny_pure ?_
      refine add_end ?_ ho hx hd e1 n1 m1 s1 ft tb led1 hn fun h' z1 z2 => ?_
      · intro b s2 R' z
        exact giving b z
      · exact wpAny_pure (q h' true z1 z2)
    · refine wpAny_bind (wpAny_pure ?_)
      refine add_end ?_ ho hx hd e1 n1 m1 s1 ft tb led1 hn fun h' z1 z2 => ?_
      · intro b s2 R' z
        exact giving b z
      · exact wpAny_pure (q h' true z1 z2)
end
theorem SetI.to {P : Program} {w : World} {h : Heap} {a : Addr} {L : Bool} {M M' : Int → Prop} {n n' : Nat} (q : SetI P w h a L M n) (e : ∀ k, M k ↔ M' k) (le : n ≤ n') : SetI P w h a L M' n' := by
  obtain ⟨es, ep, t, x⟩ := q
  exact ⟨es, ep, t, ⟨x.at_, x.elems, x.nd, fun k => (x.mem k).trans (e k), Nat.le_trans x.len le, x.fits, x.tab, x.led⟩⟩
section
variable {P : Program} {w : World} {A : Around} {R : Result → Shared → Prop} {I S : Addr} {fp wr : List Addr} {G : Array GenState → Array GenState → Prop} {n : Nat} {Pv : Nat → Value → Prop} {St : Nat → Shared → Prop} {L : Bool}
theorem set_loop (W : WalksS P w A.in1 I fp wr G n Pv St) (out : S ∉ fp) (val : Nat → Int) (nums : ∀ i v, Pv i v → ∃ t, v = .int (val i) t) (few : n + 1 < scanBound) :
    ∀ (d i : Nat) (s : Shared), n - i = d → i ≤ n → St i s → SetI P w s.heap S L (fun j => ∃ m, m < i ∧ j = val m) i →
      (∀ s', Moved (S :: wr) G s s' → SetI P w s'.heap S L (fun j => ∃ m, m < n ∧ j = val m) n → R (.ok (.ret .none)) s') →
      codeAny (model P w) A (.builtin "set.update.loop" ⟨[.ref S, .ref I], []⟩) R s
  | 0, i, s, hd, hi, st, hS, hR => by
    have e : i = n := by omega
    subst e
    refine codeAny_builtin PyProof.Rows.F.entry_set_update_loop ?_
    rw [Around.under_plainId PyProof.Rows.F.plain_set_update_loop _]
    show wpAny _ A.in1 (pyNext (.ref I) >>= _) _ _ s
    refine wpAny_bind (W.done s _ _ st fun s1 mv => wpAny_pure (hR s1 (mv.mono fun b hb => List.mem_cons_of_mem _ hb) (hS.keep fun o => mv.heap S o fun z => out (W.sub _ z))))
  | d + 1, i, s, hd, hi, st, hS, hR => by
    have lt : i < n := by omega
    refine codeAny_builtin PyProof.Rows.F.entry_set_update_loop ?_
    rw [Around.under_plainId PyProof.Rows.F.plain_set_update_loop _]
    show wpAny _ A.in1 (pyNext (.ref I) >>= _) _ _ s
    refine wpAny_bind (W.item i s _ _ lt st fun v s1 pv st1 mv => ?_)
    obtain ⟨t, rfl⟩ := nums i v pv
    have hS1 := hS.keep fun o => mv.heap S o fun z => out (W.sub _ z)
    show wpAny _ A.in1 (holding [Value.int (val i) t] (setAdd S (.int (val i) t)) >>= _) _ _ s1
    refine wpAny_bind (wpAny_holding ?_)
    unfold setAdd
    refine wpAny_holding (wpAny_bind ((intKind P w).pyHash (k := val i) (intKind_is _ _ _ _) ?_))
    refine add_int (s := { s1 with toks := s1.toks + 1 }) hS1 (by omega) fun h2 b sb hS2 => ?_
    have same : ∀ b o, b ≠ S → s1.heap.get? b = some o → h2.get? b = some o := fun b o z e => (sb.2 b z).trans e
    refine wpAny_pure ⟨plainId_quiet PyProof.Rows.F.plain_set_update_loop _, set_loop W out val nums few d (i + 1) _ (by omega) lt (W.frame _ s1 _ _ st1 (Nat.le_succ _) fun b hb o e => same b o (fun z => out (z ▸ hb)) e) (hS2.to (fun k => ?_) (Nat.le_refl _)) fun s2 mv2 hS3 => hR s2 ?_ hS3⟩
    · constructor
      · rintro (⟨m, hm, e⟩ | e)
        · exact ⟨m, by omega, e⟩
        · exact ⟨i, by omega, e⟩
      · rintro ⟨m, hm, e⟩
        by_cases c : m = i
        · exact .inr (c ▸ e)
        · exact .inl ⟨m, by omega, e⟩
    · refine Moved.trans W.gtrans ((mv.mono fun b hb => List.mem_cons_of_mem _ hb).then_heap (Nat.le_succ _) fun b o hb e => same b o (fun z => hb (z ▸ List.mem_cons_self)) e) mv2
end
section
variable {P : Program} {w : World} {A : Around} {E : Value → Shared → Prop} {s : Shared}
abbrev ledOf (w : World) : Bool := !w.params.followText "set-order"
theorem set_new1 (v : Value) {R : Value → Shared → Prop} (h : R (.ref s.heap.objs.size) { s with heap := s.heap.push { cls := .type "set", dict := none, data := .set #[] 0 (.fresh 0 0 (ledOf w)) } }) :
    codeAny (model P w) A (.call (.builtin "set.__new__") ⟨[.type "set", v], []⟩) (wants R E) s := by
  refine codeAny_of_tree ?_
  show wpAny _ A.in1 (do checkBuiltinCall "set.__new__" ⟨[.type "set", v], []⟩; again (.builtin "set.__new__" ⟨[.type "set", v], []⟩)) _ _ s
  refine wpAny_bind (wpAny_of_eq (PySem.F.newCall_set_1 v) (wpAny_pure ⟨plainId_quiet PySem.F.plain_set_new _, codeAny_builtin PySem.F.entry_set_new ?_⟩))
  rw [Around.under_plainId PySem.F.plain_set_new _]
  unfold Builtin.«set.__new__» Builtin.Frozenset.newClass
  have sub := PySem.sub_set_self
  obtain ⟨hp, g, d, tk, os⟩ := s
  dsimp only
  wp_walk
  refine wpAny_askSetting (wpAny_pure ?_)
  dsimp only
  simp only [newObj]
  exact wpAny_bind (wpAny_alloc (wpAny_pure (wpAny_pure h)))
theorem empty_set {h : Heap} {a : Addr} (g : h.get? a = some { cls := .type "set", dict := none, data := .set #[] 0 (.fresh 0 0 (ledOf w)) }) : SetI P w h a (ledOf w) (fun _ => False) 0 :=
  ⟨#[], 0, _, ⟨⟨_, g, ⟨rfl, rfl, rfl⟩, rfl⟩, fun e he => by simp at he, List.Pairwise.nil, fun k => ⟨fun z => by simp [ksOf] at z, False.elim⟩, Nat.le_refl _, by simp [SetTable.fits, SetTable.fresh, SetTable.fill], ⟨rfl, List.Pairwise.nil⟩, rfl⟩⟩
theorem getD_iff {ns : List Int} {j : Int} : (∃ m, m < ns.length ∧ j = ns.getD m 0) ↔ j ∈ ns := by
  constructor
  · rintro ⟨m, hm, rfl⟩
    rw [List.getD_eq_getElem?_getD, List.getElem?_eq_getElem hm]
    exact List.getElem_mem hm
  · intro z
    obtain ⟨m, hm, rfl⟩ := List.mem_iff_getElem.mp z
    exact ⟨m, hm, by rw [List.getD_eq_getElem?_getD, List.getElem?_eq_getElem hm]; rfl⟩
set_option maxHeartbeats 3200000 in
theorem call_setI {l : Addr} {items : Array Value} {ns : List Int} {R : Value → Shared → Prop} (calm : A.handled = none) (hl : s.heap.IsList l items) (hi : IntsAre items.toList ns) (few : items.size + 1 < scanBound)
    (q : ∀ (h' : Heap) (tk : Nat), SetI P w h' s.heap.objs.size (ledOf w) (· ∈ ns) ns.length → (∀ b o, s.heap.get? b = some o → h'.get? b = some o) → R (.ref s.heap.objs.size) { s with heap := h', toks := tk }) :
    wpAny (model P w) A (call (.type "set") [.ref l]) R E s := by
  have len : items.size = ns.length := by rw [← hi.nums, List.length_map, Array.length_toList]
  obtain ⟨c0, c1, mro⟩ := PySem.F.called_set.mro
  have made := PySem.F.called_set.made
  have subs := PySem.F.called_set.sub
  refine wpAny_call (codeAny_of_tree ?_)
  show wpAny _ _ (callAny (.type "set") _) _ _ _
  refine wpAny_pure ⟨Code.quiet_builtin _ (by decide +kernel), codeAny_builtin PySem.F.entry_type_call ?_⟩
  rw [Around.under_plain (weight_type_call_type "set" [.ref l] []) rfl]
  have k1 := PySem.F.called_set.notType
  have k2 := PySem.F.called_set.canCreate
  have k3 := PySem.F.typeCall_set_1 (.ref l)
  repeat (any_goals (first | assumption | wp_step))
  refine codeAny_mono (set_new1 (P := P) (.ref l) (E := E) (R := fun u s1 => u = .ref s.heap.objs.size ∧ s1 = { s with heap := s.heap.push { cls := .type "set", dict := none, data := .set #[] 0 (.fresh 0 0 (ledOf w)) } }) ⟨rfl, rfl⟩) fun r s1 hr => ?_
  cases r with
  | error e => exact hr
  | ok fl =>
    cases fl with
    | ret u =>
      obtain ⟨rfl, rfl⟩ := hr
      have gS : (s.heap.push { cls := .type "set", dict := none, data := .set #[] 0 (.fresh 0 0 (ledOf w)) }).get? s.heap.objs.size = some { cls := .type "set", dict := none, data := .set #[] 0 (.fresh 0 0 (ledOf w)) } := Heap.get?_push_size _ rfl
      have tS : Shared.TypeIs { s with heap := s.heap.push { cls := .type "set", dict := none, data := .set #[] 0 (.fresh 0 0 (ledOf w)) } } (.ref s.heap.objs.size) "set" := ⟨_, gS, rfl⟩
      have i1 := PySem.F.called_set.init.lookup
      have i2 := PySem.F.called_set.init.bind (.ref s.heap.objs.size)
      repeat (any_goals (first | assumption | wp_step))
      refine codeAny_mono (codeAny_call_builtin (R := wants (fun r s2 => r = .none ∧ ∃ h' tk, s2 = { s with heap := h', toks := tk } ∧ SetI P w h' s.heap.objs.size (ledOf w) (· ∈ ns) ns.length ∧ ∀ b o, s.heap.get? b = some o → h'.get? b = some o) E) PySem.F.called_set.init.plain PySem.F.entry_set_init (check_set_init_1 tS ?_)) fun r2 s2 hr2 => ?_
      · obtain ⟨ol, gl, cl, nl, dl⟩ := hl
        obtain ⟨ocls, odict, odata, oslots⟩ := ol
        simp only at cl dl
        subst cl; subst dl
        have gl' : (s.heap.push { cls := .type "set", dict := none, data := .set #[] 0 (.fresh 0 0 (ledOf w)) }).get? l = some { cls := .type "list", dict := odict, data := .seq items nl, slots := oslots } := Heap.get?_push_of_some _ gl
        have n1 := PySem.F.sub_list_set
        have n2 := PySem.F.sub_list_frozenset
        have n3 : (Value.type "list" == Value.type "dict") = false := by decide
        have hl1 : (s.heap.push { cls := .type "set", dict := none, data := .set #[] 0 (.fresh 0 0 (ledOf w)) }).IsList l items := ⟨_, gl', rfl, nl, rfl⟩
        unfold Builtin.«set.__init__» noKeywords Builtin.Frozenset.updateFrom
        generalize hP : pyIter = PI
        wp_walk
        subst hP
        refine wpAny_pyIter_list hl1 (wpAny_bind (wpAny_runValue ?_))
        have lS : l < s.heap.objs.size := Heap.lt_size gl
        have calm3 : A.in1.in1.in1.handled = none := by simp [calm]
        have szI : (s.heap.push { cls := .type "set", dict := none, data := .set #[] 0 (.fresh 0 0 (ledOf w)) }).objs.size = s.heap.objs.size + 1 := Heap.size_push ..
        have lI : l ≠ (s.heap.push { cls := .type "set", dict := none, data := .set #[] 0 (.fresh 0 0 (ledOf w)) }).objs.size := by rw [szI]; exact Nat.ne_of_lt (Nat.lt_succ_of_lt lS)
        have nS : s.heap.objs.size ∉ [(s.heap.push { cls := .type "set", dict := none, data := .set #[] 0 (.fresh 0 0 (ledOf w)) }).objs.size, l] := by
          rw [szI]
          simp only [List.mem_cons, List.not_mem_nil, or_false, not_or]
          exact ⟨Nat.ne_of_lt (Nat.lt_succ_self _), Nat.ne_of_gt lS⟩
        refine set_loop (L := ledOf w) ((Walks.list calm3 _ l lI items).toS) nS (fun i => ns.getD i 0) (fun i v hv => IntsAre.int_at hi i v (by rw [Array.getElem?_toList]; exact hv)) few (items.size - 0) 0 _ (by omega) (Nat.zero_le _) ⟨⟨_, Heap.get?_push_size _ rfl, rfl, rfl⟩, hl1.push _⟩ ?_ ?_
        · refine (empty_set (P := P) (Heap.get?_push_of_some _ gS)).to (fun k => ⟨False.elim, ?_⟩) (Nat.le_refl _)
          rintro ⟨m, hm, _⟩
          exact absurd hm (Nat.not_lt_zero _)
        · intro s3 mv hS
          obtain ⟨h3, g3, d3, tk3, os3⟩ := s3
          have e1 : g3 = s.gens := mv.gens
          have e2 : d3 = s.drawn := mv.drawn
          have e3 : os3 = s.os := mv.os
          subst e1; subst e2; subst e3
          refine wpAny_pure (wpAny_pure ⟨rfl, h3, tk3, rfl, hS.to (fun k => by rw [len]; exact getD_iff) (Nat.le_of_eq len), fun b o e => ?_⟩)
          have lt : b < s.heap.objs.size := Heap.lt_size e
          refine mv.heap b o ?_ (Heap.get?_push_of_some _ (Heap.get?_push_of_some _ e))
          rw [szI]
          simp only [List.mem_cons, List.not_mem_nil, or_false, not_or]
          exact ⟨Nat.ne_of_lt lt, Nat.ne_of_lt (Nat.lt_succ_of_lt lt)⟩
      · cases r2 with
        | error e => exact hr2
        | ok fl2 =>
          cases fl2 with
          | ret r =>
            obtain ⟨rfl, h', tk, rfl, hS, hk⟩ := hr2
            repeat (any_goals (first | assumption | wp_step))
            exact q _ _ hS hk
          | next => exact hr2.elim
          | brk => exact hr2.elim
          | cont => exact hr2.elim
    | next => exact hr.elim
    | brk => exact hr.elim
    | cont => exact hr.elim
end
end L2
set_option Elab.async false
set_option linter.all false
set_option maxRecDepth 100000
namespace L2
open PySem PySem.Spec PyProof.Rows
theorem slot_si_next : Slot "set_iterator" "__next__" "set_iterator.__next__" :=
  .of (owner := "set_iterator") (n := "__next__") (by rw [typeLookup_type, builtinLookup_eq_fast]; kernel_rfl) (by decide +kernel) (by decide +kernel) (by decide +kernel) (by first | exact .inl (by decide +kernel) | exact .inr (by decide +kernel)) (by rw [isSubtype_type]; kernel_rfl)
theorem slot_si_iter : Slot "set_iterator" "__iter__" "set_iterator.__iter__" :=
  .of (owner := "set_iterator") (n := "__iter__") (by rw [typeLookup_type, builtinLookup_eq_fast]; kernel_rfl) (by decide +kernel) (by decide +kernel) (by decide +kernel) (by first | exact .inl (by decide +kernel) | exact .inr (by decide +kernel)) (by rw [isSubtype_type]; kernel_rfl)
theorem entry_si_next : entryFor table "set_iterator.__next__" = some Builtin.«set_iterator.__next__» := entryFor_of_tree (by kernel_rfl)
theorem args_si_next (a : Value) : argsOk "set_iterator.__next__" ⟨[a], []⟩ := by unfold argsOk; kernel_rfl
theorem entry_s_iter : entryFor table "set.__iter__" = some Builtin.«frozenset.__iter__» := entryFor_alias (id' := "frozenset.__iter__") (by kernel_rfl) rfl (by decide +kernel) (by kernel_rfl)
theorem entry_si_iter : entryFor table "set_iterator.__iter__" = some Builtin.«dict_keyiterator.__iter__» := entryFor_alias (id' := "dict_keyiterator.__iter__") (by kernel_rfl) rfl (by decide +kernel) (by kernel_rfl)
theorem args_si_iter (a : Value) : argsOk "set_iterator.__iter__" ⟨[a], []⟩ := by unfold argsOk; kernel_rfl
def SIter (h : Heap) (it S : Addr) (f : Value) (i n ep : Nat) : Prop := h.get? it = some { cls := .type "set_iterator", dict := none, data := .fields #[f, .int i 0, .ref S, .int n 0, .int ep 0], slots := #[] }
def SObj (h : Heap) (S : Addr) (es : Array (Int × Value)) (ep : Nat) (t : SetTable) : Prop := ∃ o, h.get? S = some o ∧ o.data = .set es ep t
section
variable {P : Program} {w : World} {A : Around} {E : Value → Shared → Prop} {s : Shared} {it S : Addr} {es : Array (Int × Value)} {ep i n : Nat} {t : SetTable} {R : Option Value → Shared → Prop}
theorem entries_of (hS : SObj s.heap S es ep t) (ft : t.fits es.size = true) {Q : Array (Int × Value) → Shared → Prop} (q : Q es s) : wpAny (model P w) A (setEntries S) Q E s := by
  obtain ⟨o, h1, h2⟩ := hS
  unfold setEntries
  exact wpAny_bind (wpAny_setState_of h1 h2 ft (wpAny_pure q))
theorem fields_of {vs : Array Value} {o : Obj} (h : s.heap.get? it = some o) (d : o.data = .fields vs) {Q : Array Value → Shared → Prop} (q : Q vs s) : wpAny (model P w) A (fieldsOf (.ref it)) Q E s := by
  unfold fieldsOf
  refine wpAny_bind (wpAny_load h ?_)
  rw [d]
  exact wpAny_pure q
theorem stop_raised {s1 : Shared} {F : Fin → Shared → Prop} (calm : A.handled = none) (q : ∀ h', (∀ b o, s1.heap.get? b = some o → h'.get? b = some o) → R none { s1 with heap := h' }) :
    wpAny (model P w) A.in1 (newExc (.type "StopIteration") [] >>= fun x => raiseNew x) F (fun e s' => wpAny (model P w) A (do let __do_lift ← isInstance e (.type "StopIteration"); if __do_lift = true then pure none else throw e) R E s') s1 := by
  refine wpAny_bind ?_
  simp only [newExc, newTuple]
  refine wpAny_bind (wpAny_newObj_type (wpAny_bind (m := firstArgMember _ _) (wpAny_of_eq (a := Value.none) (by first | rfl | (simp only [firstArgMember]; rfl)) (wpAny_newObj_type ?_ (by size_fits)))) (by size_fits))
  refine wpAny_raiseNew_none (show A.in1.handled = none from calm) ?_
  refine wpAny_bind (wpAny_isInstance (T := "StopIteration") (b := true) ⟨_, Heap.get?_push_size _ rfl, rfl⟩ isSubtype_stop ?_)
  exact wpAny_pure (q _ fun b o e => Heap.get?_push_of_some _ (Heap.get?_push_of_some _ e))
theorem next_some {sl nx : Nat} {x : Value} (hit : SIter s.heap it S (.int sl 0) i n ep) (hS : SObj s.heap S es ep t) (ft : t.fits es.size = true) (hn : es.size = n)
    (step : ∀ (Q : Option (Value × Nat) → Shared → Prop) (E : Value → Shared → Prop), Q (some (x, nx)) s → wpAny (model P w) A.in1 (setNext S sl i ep) Q E s)
    (q : ∀ h', SIter h' it S (.int nx 0) (i + 1) n ep → Heap.SameBut it s.heap h' → R (some x) { s with heap := h' }) : wpAny (model P w) A (pyNext (.ref it)) R E s := by
  have ty : s.TypeIs (.ref it) "set_iterator" := ⟨_, hit, rfl⟩
  unfold pyNext
  refine wpAny_bind (wpAny_attempt (wpAny_callSpecial?_slot (name := Str.ofString "__next__") ty slot_si_next (wpAny_call_entry slot_si_next ty entry_si_next ?_ (args_si_next _))))
  unfold Builtin.«set_iterator.__next__»
  refine wpAny_bind (m := slotArgs "__next__" 0 _) (wpAny_pure ?_)
  refine wpAny_bind (fields_of hit rfl ?_)
  dsimp only
  refine wpAny_bind (entries_of hS ft ?_)
  rw [hn, if_neg (by simp)]
  simp only [Int.toNat_natCast]
  refine wpAny_bind (step _ _ ?_)
  refine wpAny_bind (wpAny_setField_rec hit (by simp) fun h1 g1 b1 => ?_)
  refine wpAny_bind (wpAny_setField_rec (s := { s with heap := h1 }) g1 (by simp) fun h2 g2 b2 => ?_)
  exact wpAny_pure ⟨x, rfl, wpAny_pure (q h2 g2 (b1.trans b2))⟩
theorem next_none {sl : Nat} (calm : A.handled = none) (hit : SIter s.heap it S (.int sl 0) i n ep) (hS : SObj s.heap S es ep t) (ft : t.fits es.size = true) (hn : es.size = n)
    (step : ∀ (Q : Option (Value × Nat) → Shared → Prop) (E : Value → Shared → Prop), Q none s → wpAny (model P w) A.in1 (setNext S sl i ep) Q E s)
    (q : ∀ h', Heap.ExtBut it s.heap h' → R none { s with heap := h' }) : wpAny (model P w) A (pyNext (.ref it)) R E s := by
  have ty : s.TypeIs (.ref it) "set_iterator" := ⟨_, hit, rfl⟩
  unfold pyNext
  refine wpAny_bind (wpAny_attempt (wpAny_callSpecial?_slot (name := Str.ofString "__next__") ty slot_si_next (wpAny_call_entry slot_si_next ty entry_si_next ?_ (args_si_next _))))
  unfold Builtin.«set_iterator.__next__»
  refine wpAny_bind (m := slotArgs "__next__" 0 _) (wpAny_pure ?_)
  refine wpAny_bind (fields_of hit rfl ?_)
  dsimp only
  refine wpAny_bind (entries_of hS ft ?_)
  rw [hn, if_neg (by simp)]
  simp only [Int.toNat_natCast]
  refine wpAny_bind (step _ _ ?_)
  refine wpAny_bind (wpAny_setField_rec hit (by simp) fun h1 g1 b1 => ?_)
  exact stop_raised (s1 := { s with heap := h1 }) calm fun h2 k => q h2 fun b o ne e => k b o (b1.extBut b o ne e)
theorem draw_some {T : Addr} {ps : Array Value} {k : Nat} {hv : Int} {x : Value} (hit : SIter s.heap it S (.ref T) i n ep) (hS : SObj s.heap S es ep t) (ft : t.fits es.size = true) (hn : es.size = n)
    (hT : ∃ o m, s.heap.get? T = some o ∧ o.data = .seq ps m) (hp : ps[i]? = some (.int k 0)) (hx : es[k]? = some (hv, x))
    (q : ∀ h', SIter h' it S (.ref T) (i + 1) n ep → Heap.SameBut it s.heap h' → R (some x) { s with heap := h' }) : wpAny (model P w) A (pyNext (.ref it)) R E s := by
  have ty : s.TypeIs (.ref it) "set_iterator" := ⟨_, hit, rfl⟩
  obtain ⟨oT, mT, gT, dT⟩ := hT
  unfold pyNext
  refine wpAny_bind (wpAny_attempt (wpAny_callSpecial?_slot (name := Str.ofString "__next__") ty slot_si_next (wpAny_call_entry slot_si_next ty entry_si_next ?_ (args_si_next _))))
  unfold Builtin.«set_iterator.__next__»
  refine wpAny_bind (m := slotArgs "__next__" 0 _) (wpAny_pure ?_)
  refine wpAny_bind (fields_of hit rfl ?_)
  dsimp only
  refine wpAny_bind (entries_of hS ft ?_)
  rw [hn, if_neg (by simp)]
  simp only [Int.toNat_natCast]
  refine wpAny_bind (wpAny_seqItems gT dT ?_)
  dsimp only
  rw [hp]
  dsimp only
  obtain ⟨oS, gS, dS⟩ := hS
  unfold setNextDrawn
  refine wpAny_bind (wpAny_bind (wpAny_setState_of gS dS ft ?_))
  dsimp only
  rw [if_neg (by simp), Int.toNat_natCast, hx]
  refine wpAny_pure (wpAny_bind (wpAny_setField_rec hit (by simp) fun h1 g1 b1 => ?_))
  exact wpAny_pure ⟨x, rfl, wpAny_pure (q h1 g1 b1)⟩
theorem draw_none {T : Addr} {ps : Array Value} (calm : A.handled = none) (hit : SIter s.heap it S (.ref T) i n ep) (hS : SObj s.heap S es ep t) (ft : t.fits es.size = true) (hn : es.size = n)
    (hT : ∃ o m, s.heap.get? T = some o ∧ o.data = .seq ps m) (hp : ps[i]? = none)
    (q : ∀ h', Heap.ExtBut it s.heap h' → R none { s with heap := h' }) : wpAny (model P w) A (pyNext (.ref it)) R E s := by
  have ty : s.TypeIs (.ref it) "set_iterator" := ⟨_, hit, rfl⟩
  obtain ⟨oT, mT, gT, dT⟩ := hT
  unfold pyNext
  refine wpAny_bind (wpAny_attempt (wpAny_callSpecial?_slot (name := Str.ofString "__next__") ty slot_si_next (wpAny_call_entry slot_si_next ty entry_si_next ?_ (args_si_next _))))
  unfold Builtin.«set_iterator.__next__»
  refine wpAny_bind (m := slotArgs "__next__" 0 _) (wpAny_pure ?_)
  refine wpAny_bind (fields_of hit rfl ?_)
  dsimp only
  refine wpAny_bind (entries_of hS ft ?_)
  rw [hn, if_neg (by simp)]
  simp only [Int.toNat_natCast]
  refine wpAny_bind (wpAny_seqItems gT dT ?_)
  dsimp only
  rw [hp]
  dsimp only
  refine wpAny_bind (wpAny_setField_rec hit (by simp) fun h1 g1 b1 => ?_)
  refine wpAny_bind (wpAny_setField_rec (s := { s with heap := h1 }) g1 (by simp) fun h2 g2 b2 => ?_)
  exact stop_raised (s1 := { s with heap := h2 }) calm fun h3 k => q h3 fun b o ne e => k b o ((b1.trans b2).extBut b o ne e)
theorem next_text {sl : Nat} (tx : w.params.followText "set-order" = true) (hS : SObj s.heap S es ep t) (ft : t.fits es.size = true) (Q : Option (Value × Nat) → Shared → Prop)
    (q : Q (((pickOrder (w.params.setOrder S ep) es)[i]?).map fun e => (e.2, sl)) s) : wpAny (model P w) A (setNext S sl i ep) Q E s := by
  obtain ⟨o, g, d⟩ := hS
  unfold setNext
  refine wpAny_bind (wpAny_setState_of g d ft ?_)
  dsimp only
  refine wpAny_bind (m := setsByText) (wpAny_bind (wpAny_askSetting (wpAny_pure ?_)))
  rw [if_pos (show (model P w).w.params.followText "set-order" = true from tx), if_neg (by simp)]
  unfold setWalk
  refine wpAny_bind (wpAny_bind (wpAny_setState_of g d ft ?_))
  dsimp only
  refine wpAny_bind (m := setsByText) (wpAny_bind (wpAny_askSetting (wpAny_pure ?_)))
  rw [if_pos (show (model P w).w.params.followText "set-order" = true from tx)]
  exact wpAny_bind (wpAny_askSetting (wpAny_pure (wpAny_pure q)))
theorem next_led {sl : Nat} (tx : w.params.followText "set-order" = false) (pl : (!t.plain && decide (es.size > 1)) = false) (led : t.led = true) (hS : SObj s.heap S es ep t) (ft : t.fits es.size = true) (Q : Option (Value × Nat) → Shared → Prop)
    (q : Q (match es[SetTable.below t.place sl]?, t.place[SetTable.below t.place sl]? with | some (_, x), some j => some (x, j + 1) | _, _ => none) s) : wpAny (model P w) A (setNext S sl i ep) Q E s := by
  obtain ⟨o, g, d⟩ := hS
  unfold setNext
  refine wpAny_bind (wpAny_setState_of g d ft ?_)
  dsimp only
  refine wpAny_bind (m := setsByText) (wpAny_bind (wpAny_askSetting (wpAny_pure ?_)))
  rw [if_neg (show ¬ (model P w).w.params.followText "set-order" = true by rw [show (model P w).w.params.followText "set-order" = false from tx]; decide)]
  split
  · next c => exact absurd (show (!t.plain && decide (es.size > 1)) = true from c) (by rw [pl]; decide)
  refine wpAny_bind ?_
  show wpAny _ _ (if (!t.led && !es.isEmpty) = true then unsupported _ else pure ()) _ _ _
  rw [led, if_neg (by simp)]
  exact wpAny_pure (wpAny_pure q)
end
section
variable {P : Program} {w : World} {A : Around} {it S T : Addr} {es : Array (Int × Value)} {ep : Nat} {t : SetTable}
theorem SObj.keep {h h' : Heap} (x : SObj h S es ep t) (k : ∀ o, h.get? S = some o → h'.get? S = some o) : SObj h' S es ep t := by
  obtain ⟨o, g, d⟩ := x
  exact ⟨o, k o g, d⟩
theorem si_self {s : Shared} {f : Value} {i n : Nat} {Q : Value → Shared → Prop} {E : Value → Shared → Prop} (hit : SIter s.heap it S f i n ep) (q : Q (.ref it) s) : wpAny (model P w) A (pyIter (.ref it)) Q E s := by
  have ty : s.TypeIs (.ref it) "set_iterator" := ⟨_, hit, rfl⟩
  refine wpAny_pyIter_slot ty slot_si_iter (wpAny_call_entry slot_si_iter ty entry_si_iter ?_ (args_si_iter _))
  show wpAny _ _ (ret (.ref it)) _ _ s
  exact wpAny_pure ⟨_, rfl, "set_iterator", _, ty, slot_si_next.lookup, q⟩
theorem walk_int (calm : A.handled = none) (ne : it ≠ S) (ft : t.fits es.size = true) (vals : Array Value) (len : vals.size = es.size) (sl : Nat → Nat)
    (step : ∀ (i : Nat) (x : Value) (s : Shared) (Q : Option (Value × Nat) → Shared → Prop) (E : Value → Shared → Prop), vals[i]? = some x → SObj s.heap S es ep t → Q (some (x, sl (i + 1))) s → wpAny (model P w) A.in1 (setNext S (sl i) i ep) Q E s)
    (last : ∀ (s : Shared) (Q : Option (Value × Nat) → Shared → Prop) (E : Value → Shared → Prop), SObj s.heap S es ep t → Q none s → wpAny (model P w) A.in1 (setNext S (sl vals.size) vals.size ep) Q E s) :
    Walks P w A it [it, S] [it] vals.size (fun i v => vals[i]? = some v) (fun i h => SIter h it S (.int (sl i) 0) i es.size ep ∧ SObj h S es ep t) where
  sub := fun b hb => by simp at hb; simp [hb]
  frame := fun i h h' st k => ⟨k it (by simp) _ st.1, st.2.keep fun o => k S (by simp) o⟩
  item := fun i s Q E hi st q => by
    have e : vals[i]? = some vals[i] := Array.getElem?_eq_getElem hi
    refine next_some st.1 st.2 ft rfl (fun Q' E' q' => step i _ s Q' E' e st.2 q') fun h' g b => ?_
    exact q _ h' s.toks e ⟨g, st.2.keep fun o => b.extBut S o (Ne.symm ne)⟩ fun c o hc => b.extBut c o (by simpa using hc)
  done := fun s Q E st q => by
    refine next_none calm st.1 st.2 ft rfl (fun Q' E' q' => last s Q' E' st.2 q') fun h' b => ?_
    exact q h' s.toks fun c o hc => b c o (by simpa using hc)
  self := fun i s Q E st q => si_self st.1 q
theorem walk_draw (calm : A.handled = none) (ne : it ≠ S) (neT : it ≠ T) (ft : t.fits es.size = true) (ps : List Nat) (len : ps.length = es.size) (lt : ∀ k ∈ ps, k < es.size) :
    Walks P w A it [it, S, T] [it] ps.length (fun i v => ((ps.map fun k => (es.getD k (0, .none)).2).toArray)[i]? = some v) (fun i h => SIter h it S (.ref T) i es.size ep ∧ SObj h S es ep t ∧ ∃ o m, h.get? T = some o ∧ o.data = .seq ((ps.map fun k => Value.int (k : Nat) 0).toArray) m) where
  sub := fun b hb => by simp at hb; simp [hb]
  frame := fun i h h' st k => ⟨k it (by simp) _ st.1, st.2.1.keep fun o => k S (by simp) o, let ⟨o, m, g, d⟩ := st.2.2; ⟨o, m, k T (by simp) _ g, d⟩⟩
  item := fun i s Q E hi st q => by
    have e : ps[i]? = some ps[i] := List.getElem?_eq_getElem hi
    have lk := lt _ (List.getElem_mem hi)
    have ee : es[ps[i]]? = some (es[ps[i]].1, es[ps[i]].2) := Array.getElem?_eq_getElem lk
    refine draw_some (k := ps[i]) st.1 st.2.1 ft rfl st.2.2 (by rw [List.getElem?_toArray, List.getElem?_map, e]; rfl) ee fun h' g b => ?_
    refine q _ h' s.toks ?_ ⟨g, st.2.1.keep fun o => b.extBut S o (Ne.symm ne), let ⟨o, m, g, d⟩ := st.2.2; ⟨o, m, b.extBut T o (Ne.symm neT) g, d⟩⟩ fun c o hc => b.extBut c o (by simpa using hc)
    rw [List.getElem?_toArray, List.getElem?_map, e, Option.map_some, Array.getD_eq_getD_getElem?, Array.getElem?_eq_getElem lk]
    rfl
  done := fun s Q E st q => by
    refine draw_none calm st.1 st.2.1 ft rfl st.2.2 (by rw [List.getElem?_toArray, List.getElem?_map, List.getElem?_eq_none (Nat.le_refl _)]; rfl) fun h' b => ?_
    exact q h' s.toks fun c o hc => b c o (by simpa using hc)
  self := fun i s Q E st q => si_self st.1 q
end
theorem erase_perm {α : Type} : ∀ (l : List α) (i : Nat) (h : i < l.length), (l[i] :: l.eraseIdx i).Perm l
  | a :: l, 0, _ => List.Perm.refl _
  | a :: l, i + 1, h => by
    have hi : i < l.length := by simpa using h
    have ih := erase_perm l i hi
    show (l[i] :: a :: l.eraseIdx i).Perm (a :: l)
    exact (List.Perm.swap _ _ _).trans (List.Perm.cons a ih)
theorem pick_perm {α : Type} (nx : Nat → Nat) : ∀ (fuel k : Nat) (left : List α) (out : Array α), fuel = left.length → (pickOrder.go nx fuel k left out).toList.Perm (out.toList ++ left)
  | 0, k, left, out, h => by
    have e : left = [] := List.length_eq_zero_iff.mp h.symm
    subst e
    unfold pickOrder.go
    simp
  | fuel + 1, k, left, out, h => by
    have lt : nx k % left.length < left.length := Nat.mod_lt _ (by omega)
    unfold pickOrder.go
    rw [List.getElem?_eq_getElem lt]
    dsimp only
    refine (pick_perm nx fuel (k + 1) _ _ (by rw [List.length_eraseIdx_of_lt lt]; omega)).trans ?_
    rw [Array.toList_push, List.append_assoc]
    exact List.Perm.append_left _ (erase_perm _ _ lt)
theorem pickOrder_perm {α : Type} (nx : Nat → Nat) (xs : Array α) : (pickOrder nx xs).toList.Perm xs.toList := by
  have h := pick_perm nx xs.size 0 xs.toList #[] (by simp)
  simpa [pickOrder] using h
theorem draw_perm {P : Program} {w : World} {A : Around} {E : Value → Shared → Prop} {α : Type} : ∀ (n : Nat) (xs : List α) (s : Shared) (Q : List α → Shared → Prop), n = xs.length → (∀ ys d, ys.Perm xs → Q ys { s with drawn := d }) → wpAny (model P w) A (drawOrder n xs) Q E s
  | 0, xs, s, Q, h, q => by
    have e : xs = [] := List.length_eq_zero_iff.mp h.symm
    subst e
    exact wpAny_pure (q [] s.drawn (List.Perm.refl _))
  | n + 1, [], s, Q, h, q => by simp at h
  | n + 1, x :: xs, s, Q, h, q => by
    unfold drawOrder
    refine wpAny_bind ?_
    have ch : ∀ (R : Nat → Shared → Prop), (∀ i d, i < (x :: xs).length → R i { s with drawn := d }) → wpAny (model P w) A (choose .order (x :: xs).length) R E s := fun R hR Γ p hΓ => by
      refine ⟨by simp, ?_⟩
      exact hR _ _ (Nat.mod_lt _ (by simp))
    refine ch _ fun i d hi => ?_
    rw [List.getElem?_eq_getElem hi]
    dsimp only
    refine wpAny_bind (draw_perm n _ _ _ (by rw [List.length_eraseIdx_of_lt hi]; simp at h ⊢; omega) fun ys d2 p => wpAny_pure (q _ _ ?_))
    exact (List.Perm.cons _ p).trans (erase_perm _ _ hi)
structure SetWalk (P : Program) (w : World) (A : Around) (s s' : Shared) (S it : Addr) (fp : List Addr) (vals : Array Value) (St : Nat → Heap → Prop) : Prop where
  walk : Walks P w A it fp [it] vals.size (fun i v => vals[i]? = some v) St
  st : St 0 s'.heap
  below : ∀ b ∈ fp, b < s'.heap.objs.size
  new : ∀ b ∈ fp, b = S ∨ s.heap.objs.size ≤ b
  old : s.heap.objs.size ≤ it
  gens : s'.gens = s.gens
  os : s'.os = s.os
  keep : ∀ b o, s.heap.get? b = some o → s'.heap.get? b = some o
section
variable {P : Program} {w : World} {A : Around} {E : Value → Shared → Prop} {s : Shared} {S : Addr} {L : Bool} {M : Int → Prop} {n : Nat} {es : Array (Int × Value)} {ep : Nat} {t : SetTable}
theorem led_walk (x : SetAt P w s.heap S L M n es ep t) : ∀ i, i ≤ es.size → SetTable.below t.place (if i = 0 then 0 else t.place.getD (i - 1) 0 + 1) = i := fun i hi => by
  have sz : t.place.size = es.size := by
    have := x.fits
    simp only [SetTable.fits, Bool.and_eq_true, beq_iff_eq] at this
    exact this.1
  obtain ⟨b1, b2, b3⟩ := below_spec x.tab.rise (if i = 0 then 0 else t.place.getD (i - 1) 0 + 1)
  generalize hj : (if i = 0 then 0 else t.place.getD (i - 1) 0 + 1) = j at *
  generalize SetTable.below t.place j = p at *
  have dflt : ∀ k a b, k < t.place.size → t.place.getD k a = t.place.getD k b := fun k a b hk => by
    rw [Array.getD_eq_getD_getElem?, Array.getD_eq_getD_getElem?, Array.getElem?_eq_getElem hk]
    rfl
  by_cases c : p < i
  · exfalso
    have h1 := b3 p (Nat.le_refl _)
    rw [if_neg (by omega)] at hj
    have h2 : t.place.getD p j ≤ t.place.getD (i - 1) j := by
      by_cases e : p = i - 1
      · rw [e]; exact Nat.le_refl _
      · exact Nat.le_of_lt (x.tab.rise.lt (by omega) (by omega))
    rw [dflt (i - 1) j 0 (by omega)] at h2
    omega
  · by_cases d : i < p
    · exfalso
      have h1 := b2 i d
      by_cases z : i = 0
      · rw [if_pos z] at hj
        omega
      · rw [if_neg z] at hj
        have lt : i < t.place.size := by omega
        have h2 := x.tab.rise.lt (j := j) (show i - 1 < i by omega) lt
        rw [dflt (i - 1) j 0 (by omega)] at h2
        omega
    · omega
theorem iter_set (calm : A.handled = none) (x : SetAt P w s.heap S (ledOf w) M n es ep t) (few : es.size ≤ sizeLine) {R : Value → Shared → Prop}
    (q : ∀ it fp (vals : Array Value) St s', SetWalk P w A s s' S it fp vals St → vals.toList.Perm (es.toList.map (·.2)) → it ∈ fp → R (.ref it) s') : wpAny (model P w) A (pyIter (.ref S)) R E s := by
  obtain ⟨o, g, ex, d⟩ := x.at_
  have ty : s.TypeIs (.ref S) "set" := ⟨o, g, ex.1⟩
  have ltS : S < s.heap.objs.size := Heap.lt_size g
  have hS : SObj s.heap S es ep t := ⟨o, g, d⟩
  refine wpAny_pyIter_slot ty PySem.F.slot_set_iter (wpAny_call_entry PySem.F.slot_set_iter ty entry_s_iter ?_ (PySem.F.args_set_iter_1 _))
  unfold Builtin.«frozenset.__iter__» Builtin.Frozenset.slot0 Builtin.Frozenset.sizeOf
  refine wpAny_bind (wpAny_bind (m := slotArgs "__iter__" 0 _) (wpAny_pure ?_))
  refine wpAny_pure (wpAny_bind (wpAny_bind (entries_of hS x.fits (wpAny_pure ?_))))
  have made : ∀ (f : Value) (s1 : Shared) (F : Fin → Shared → Prop), SObj s1.heap S es ep t → (∀ it s2, s2 = { s1 with heap := s1.heap.push { cls := .type "set_iterator", dict := none, data := .fields #[f, .int 0 0, .ref S, .int es.size 0, .int ep 0], slots := #[] } } → it = s1.heap.objs.size → SIter s2.heap it S f 0 es.size ep → F (.done (.ret (.ref it))) s2) →
      wpAny (model P w) A.in1 (do let e ← setEpoch S; let v ← newFields "set_iterator" [f, rawInt 0, .ref S, rawInt es.size, rawInt e]; ret v) F E s1 := fun f s1 F h1 h2 => by
    obtain ⟨o1, g1, d1⟩ := h1
    refine wpAny_bind (wpAny_setEpoch_of g1 d1 x.fits (wpAny_bind (wpAny_newObj_type ?_ (by size_fits))))
    exact wpAny_pure (h2 _ _ rfl rfl (Heap.get?_push_size _ rfl))
  have sz : t.place.size = es.size := by
    have := x.fits
    simp only [SetTable.fits, Bool.and_eq_true, beq_iff_eq] at this
    exact this.1
  have plainEnd : ∀ (vals : Array Value) (sl : Nat → Nat), vals.size = es.size → sl 0 = 0 → vals.toList.Perm (es.toList.map (·.2)) →
      (∀ (i : Nat) (x : Value) (s : Shared) (Q : Option (Value × Nat) → Shared → Prop) (E : Value → Shared → Prop), vals[i]? = some x → SObj s.heap S es ep t → Q (some (x, sl (i + 1))) s → wpAny (model P w) A.in1 (setNext S (sl i) i ep) Q E s) →
      (∀ (s : Shared) (Q : Option (Value × Nat) → Shared → Prop) (E : Value → Shared → Prop), SObj s.heap S es ep t → Q none s → wpAny (model P w) A.in1 (setNext S (sl vals.size) vals.size ep) Q E s) →
      wpAny (model P w) A.in1 (do let f ← pure (rawInt 0); let e ← setEpoch S; let v ← newFields "set_iterator" [f, rawInt 0, .ref S, rawInt es.size, rawInt e]; ret v)
        (fun fin s' => ∃ v, fin = .done (.ret v) ∧ ∃ T' r, s'.TypeIs v T' ∧ typeLookup (.type T') (Str.ofString "__next__") = pure (some r) ∧ R v s') E s := fun vals sl len h0 pm step last => by
    refine wpAny_bind (wpAny_pure (made _ s _ hS fun it s2 e2 e1 si => ?_))
    subst e2 e1
    refine ⟨_, rfl, "set_iterator", _, ⟨_, si, rfl⟩, slot_si_next.lookup, q _ [s.heap.objs.size, S] vals _ _ ⟨walk_int calm (Nat.ne_of_gt ltS) x.fits vals len sl step last, ⟨by rw [h0]; exact si, hS.keep fun o => Heap.get?_push_of_some _⟩, fun b hb => ?_, fun b hb => ?_, Nat.le_refl _, rfl, rfl, fun b o => Heap.get?_push_of_some _⟩ pm (by simp)⟩
    rotate_left
    · simp only [List.mem_cons, List.not_mem_nil, or_false] at hb
      rcases hb with rfl | rfl
      · exact .inr (Nat.le_refl _)
      · exact .inl rfl
    show b < (s.heap.push _).objs.size
    rw [Heap.size_push]
    simp only [List.mem_cons, List.not_mem_nil, or_false] at hb
    rcases hb with rfl | rfl
    · exact Nat.lt_succ_self _
    · exact Nat.lt_succ_of_lt ltS
  unfold setDrawn
  refine wpAny_bind (wpAny_bind (wpAny_setState_of g d x.fits ?_))
  dsimp only
  refine wpAny_bind (m := setsByText) (wpAny_bind (wpAny_askSetting (wpAny_pure (wpAny_pure ?_))))
  cases tx : w.params.followText "set-order" with
  | true =>
    rw [if_neg (by rw [show (model P w).w.params.followText "set-order" = true from tx]; simp)]
    refine plainEnd ((pickOrder (w.params.setOrder S ep) es).map (·.2)) (fun _ => 0) ?_ rfl ?_ ?_ ?_
    · rw [Array.size_map, ← Array.length_toList, (pickOrder_perm _ es).length_eq, Array.length_toList]
    · rw [Array.toList_map]
      exact (pickOrder_perm _ es).map _
    · intro i v s1 Q' E' hv h1 q'
      refine next_text tx h1 x.fits Q' ?_
      rw [Array.getElem?_map] at hv
      obtain ⟨e, he, rfl⟩ := Option.map_eq_some_iff.mp hv
      rw [he]
      exact q'
    · intro s1 Q' E' h1 q'
      refine next_text tx h1 x.fits Q' ?_
      rw [Array.getElem?_eq_none (by rw [Array.size_map]; exact Nat.le_refl _)]
      exact q'
  | false =>
    have led : t.led = true := by rw [x.led, ledOf, tx]; rfl
    by_cases pl : (!t.plain && decide (es.size > 1)) = true
    · rw [if_pos (by rw [show (model P w).w.params.followText "set-order" = false from tx]; exact pl)]
      refine wpAny_bind (draw_perm es.size (List.range es.size) s _ (by simp) fun ys dd pm => ?_)
      have lY : ys.length = es.size := by rw [pm.length_eq, List.length_range]
      have ltY : ∀ k ∈ ys, k < es.size := fun k hk => List.mem_range.mp (pm.mem_iff.mp hk)
      refine wpAny_bind (wpAny_newTuple ?_ (by rw [List.length_map, lY]; exact few))
      refine made _ _ _ (hS.keep fun o => Heap.get?_push_of_some _) fun it s2 e2 e1 si => ?_
      subst e2 e1
      have szT : (s.heap.push { cls := .type "tuple", data := .seq ((ys.map fun k => rawInt (k : Nat)).toArray) }).objs.size = s.heap.objs.size + 1 := Heap.size_push ..
      have it1 : (s.heap.push { cls := .type "tuple", data := .seq ((ys.map fun k => rawInt (k : Nat)).toArray) }).objs.size ≠ S := by rw [szT]; exact Nat.ne_of_gt (Nat.lt_succ_of_lt ltS)
      have it2 : (s.heap.push { cls := .type "tuple", data := .seq ((ys.map fun k => rawInt (k : Nat)).toArray) }).objs.size ≠ s.heap.objs.size := by rw [szT]; exact Nat.ne_of_gt (Nat.lt_succ_self _)
      have W := walk_draw (P := P) (w := w) (A := A) (ep := ep) calm it1 it2 x.fits ys lY ltY
      have len : ((ys.map fun k => (es.getD k (0, .none)).2).toArray).size = ys.length := by simp
      rw [← len] at W
      refine ⟨_, rfl, "set_iterator", _, ⟨_, si, rfl⟩, slot_si_next.lookup, q _ _ _ _ _ ⟨W, ⟨si, hS.keep fun o z => Heap.get?_push_of_some _ (Heap.get?_push_of_some _ z), _, _, Heap.get?_push_of_some _ (Heap.get?_push_size _ rfl), rfl⟩, fun b hb => ?_, fun b hb => ?_, by rw [szT]; exact Nat.le_succ _, rfl, rfl, fun b o z => Heap.get?_push_of_some _ (Heap.get?_push_of_some _ z)⟩ ?_ (by simp)⟩
      · show b < ((s.heap.push _).push _).objs.size
        rw [Heap.size_push]
        simp only [List.mem_cons, List.not_mem_nil, or_false] at hb
        rcases hb with rfl | rfl | rfl
        · exact Nat.lt_succ_self _
        · rw [szT]; exact Nat.lt_succ_of_lt (Nat.lt_succ_of_lt ltS)
        · rw [szT]; exact Nat.lt_succ_of_lt (Nat.lt_succ_self _)
      · simp only [List.mem_cons, List.not_mem_nil, or_false] at hb
        rcases hb with rfl | rfl | rfl
        · exact .inr (by rw [szT]; exact Nat.le_succ _)
        · exact .inl rfl
        · exact .inr (Nat.le_refl _)
      · have e : (List.range es.size).map (fun k => (es.getD k (0, .none)).2) = es.toList.map (·.2) := by
          apply List.ext_getElem
          · simp
          · intro i h1 h2
            simp only [List.length_map, List.length_range] at h1
            simp [Array.getD, h1]
        show (ys.map fun k => (es.getD k (0, .none)).2).Perm _
        rw [← e]
        exact pm.map _
    · rw [if_neg (by rw [show (model P w).w.params.followText "set-order" = false from tx]; exact pl)]
      have pl' : (!t.plain && decide (es.size > 1)) = false := by simpa using pl
      refine plainEnd (es.map (·.2)) (fun i => if i = 0 then 0 else t.place.getD (i - 1) 0 + 1) (by simp) rfl (by rw [Array.toList_map]) ?_ ?_
      · intro i v s1 Q' E' hv h1 q'
        refine next_led tx pl' led h1 x.fits Q' ?_
        rw [Array.getElem?_map] at hv
        obtain ⟨e, he, rfl⟩ := Option.map_eq_some_iff.mp hv
        have lt : i < es.size := (Array.getElem?_eq_some_iff.mp he).1
        rw [led_walk x i (by omega), he, Array.getElem?_eq_getElem (by omega)]
        have e1 : t.place.getD (i + 1 - 1) 0 = t.place[i]'(by omega) := by
          rw [Nat.add_sub_cancel, Array.getD_eq_getD_getElem?, Array.getElem?_eq_getElem (by omega)]
          rfl
        dsimp only at q' ⊢
        rw [if_neg (Nat.succ_ne_zero i), e1] at q'
        exact q'
      · intro s1 Q' E' h1 q'
        refine next_led tx pl' led h1 x.fits Q' ?_
        rw [Array.size_map, led_walk x es.size (Nat.le_refl _), Array.getElem?_eq_none (Nat.le_refl _)]
        exact q'
end
end L2
set_option Elab.async false
set_option linter.all false
set_option maxRecDepth 100000
namespace L2
open PySem PySem.Spec PyProof.Rows
theorem set_has_len : typeLookup (.type "set") "__len__" = pure (some (.builtin "set.__len__")) := by rw [typeLookup_type, builtinLookup_eq_fast]; kernel_rfl
section
variable {P : Program} {w : World} {A : Around} {E : Value → Shared → Prop} {s : Shared} {S : Addr} {M : Int → Prop} {n : Nat}
theorem ks_ints {es : Array (Int × Value)} (h : ElemsOf (intKind P w) es.toList) {us : List Value} (pm : us.Perm (es.toList.map (·.2))) : IntsAre us (us.map numOf) ∧ (us.map numOf).Perm (ksOf es) := by
  refine ⟨intsAre_map us fun v hv => ?_, ?_⟩
  · obtain ⟨e, he, rfl⟩ := List.mem_map.mp (pm.mem_iff.mp hv)
    obtain ⟨⟨k, hk, _⟩, _⟩ := h e he
    obtain ⟨_, t, z⟩ := is_num hk
    exact ⟨k, t, z⟩
  · have z := pm.map numOf
    rwa [List.map_map] at z
theorem collect_set (calm : A.handled = none) (h : SetI P w s.heap S (ledOf w) M n) (few : n ≤ 1000) {Q : List Value → Shared → Prop}
    (q : ∀ (us : List Value) (ks : List Int) (s' : Shared), IntsAre us ks → ks.Nodup → (∀ k, k ∈ ks ↔ M k) → ks.length ≤ n → s'.gens = s.gens → s'.os = s.os → (∀ b o, s.heap.get? b = some o → s'.heap.get? b = some o) → s.heap.objs.size ≤ s'.heap.objs.size → Q us s') :
    wpAny (model P w) A (collect (.ref S)) Q E s := by
  obtain ⟨es, ep, t, x⟩ := h
  obtain ⟨o, g, ex, d⟩ := x.at_
  have ltS : S < s.heap.objs.size := Heap.lt_size g
  have line : n ≤ sizeLine := Nat.le_trans few (by decide)
  unfold collect
  refine wpAny_bind (wpAny_runValue (codeAny_builtin PySem.F.entry_proto_collect ?_))
  rw [Around.under_plainId PySem.F.plain_proto_collect _]
  show wpAny _ A.in1 (newList [] >>= fun l => again (.builtin "list.__iadd__" ⟨[l, .ref S], []⟩)) _ _ s
  refine wpAny_bind (wpAny_newObj_type (wpAny_pure ⟨plainId_quiet PySem.F.plain_list_iadd _, codeAny_builtin PySem.F.entry_list_iadd ?_⟩))
  rw [Around.under_plainId PySem.F.plain_list_iadd _]
  have gD : (s.heap.push { cls := .type "list", data := .seq ([] : List Value).toArray }).get? s.heap.objs.size = some { cls := .type "list", data := .seq ([] : List Value).toArray } := Heap.get?_push_size _ rfl
  have x1 : SetAt P w (s.heap.push { cls := .type "list", data := .seq ([] : List Value).toArray }) S (ledOf w) M n es ep t := ⟨⟨o, Heap.get?_push_of_some _ g, ex, d⟩, x.elems, x.nd, x.mem, x.len, x.fits, x.tab, x.led⟩
  have szD : (s.heap.push { cls := .type "list", data := .seq ([] : List Value).toArray }).objs.size = s.heap.objs.size + 1 := Heap.size_push ..
  show wpAny _ A.in1 (Builtin.List.listExtendWith (.ref s.heap.objs.size) (.ref S) (.ref s.heap.objs.size)) _ _ { s with heap := s.heap.push { cls := .type "list", data := .seq ([] : List Value).toArray } }
  have ty1 : Shared.TypeIs { s with heap := s.heap.push { cls := .type "list", data := .seq ([] : List Value).toArray } } (.ref S) "set" := ⟨o, Heap.get?_push_of_some _ g, ex.1⟩
  have apart : Builtin.List.listSameRef (.ref s.heap.objs.size) (.ref S) = false := by
    simp only [Builtin.List.listSameRef, beq_eq_false_iff_ne]
    exact Nat.ne_of_gt ltS
  unfold Builtin.List.listExtendWith
  refine wpAny_bind (wpAny_typeOf ty1 ?_)
  rw [if_neg (by rw [apart]; decide)]
  refine wpAny_bind (iter_set (A := A.in1) (by simpa using calm) x1 (Nat.le_trans x.len line) fun it fp vals St s2 W pm hit => ?_)
  have ty2 : s2.TypeIs (.ref S) "set" := ⟨o, W.keep S o (Heap.get?_push_of_some _ g), ex.1⟩
  refine wpAny_bind (wpAny_holding ?_)
  unfold Builtin.List.listLengthHint
  refine wpAny_bind (wpAny_specialOf ty2 set_has_len ?_)
  wp_delta
  refine wpAny_bind (wpAny_isInstance (T := "set") (b := true) ty2 (by rw [isSubtype_type]; kernel_rfl) ?_)
  show wpAny _ _ (typeOf (Value.ref S) >>= _) _ _ _
  refine wpAny_bind (wpAny_typeOf ty2 ?_)
  refine wpAny_pure ?_
  rw [if_pos (by decide)]
  refine wpAny_bind (wpAny_rule ?_)
  have gD2 := W.keep _ _ gD
  have nD : s.heap.objs.size ∉ fp := fun z => by
    rcases W.new _ z with e | e
    · exact Nat.ne_of_gt ltS e
    · have e' : (s.heap.push { cls := .type "list", data := .seq ([] : List Value).toArray }).objs.size ≤ s.heap.objs.size := e
      rw [szD] at e'
      exact Nat.not_succ_le_self _ e'
  refine wpAny_bind ?_
  show wpAny _ A.in1 (updateSeq s.heap.objs.size (·.push .none) >>= fun _ => updateSeq s.heap.objs.size (·.pop)) _ _ s2
  refine wpAny_bind (wpAny_updateSeq gD2 rfl ?_)
  have gD3 := Heap.get?_update_self (Obj.mapSeq (·.push Value.none)) gD2 rfl
  refine wpAny_updateSeq gD3 rfl ?_
  have gD4 := Heap.get?_update_self (Obj.mapSeq (·.pop)) gD3 rfl
  have other : ∀ b o, b ≠ s.heap.objs.size → s2.heap.get? b = some o → ((s2.heap.update s.heap.objs.size (Obj.mapSeq (·.push Value.none))).update s.heap.objs.size (Obj.mapSeq (·.pop))).get? b = some o :=
    fun b o hb e => (Heap.get?_update_other _ _ (Ne.symm hb)).trans ((Heap.get?_update_other _ _ (Ne.symm hb)).trans e)
  have vl : vals.size = es.size := by rw [← Array.length_toList, pm.length_eq, List.length_map, Array.length_toList]
  refine wpAny_pure ⟨plainId_quiet PySem.F.plain_extend_loop _, codeAny_extend_loopS W.walk.toS (by rw [vl]; exact Nat.le_trans x.len line) _ nD _ vals.size 0 _ _ _ rfl (Nat.zero_le _) (W.walk.frame 0 _ _ W.st fun b hb o => other b o fun z => nD (z ▸ hb)) gD4 (ItemsOf.nil _) fun s3 acc c mv gD5 its => ?_⟩
  show wpAny _ A (load s.heap.objs.size >>= _) _ _ s3
  refine wpAny_bind (wpAny_load gD5 ?_)
  have same : acc = vals := by
    apply Array.ext_getElem?
    intro i
    by_cases c : i < acc.size
    · have e := Array.getElem?_eq_getElem c
      rw [e]
      exact (its.2 i _ e).symm
    · rw [Array.getElem?_eq_none (by omega), Array.getElem?_eq_none (by rw [← its.1]; omega)]
  subst same
  obtain ⟨i1, i2⟩ := ks_ints x.elems pm
  refine wpAny_pure (q _ _ _ i1 (i2.nodup_iff.mpr x.nd) (fun k => i2.mem_iff.trans (x.mem k)) ?_ (show s3.gens = s.gens from (show s3.gens = s2.gens from mv.gens).trans W.gens) (mv.os.trans W.os) (fun b ob e => ?_) (Nat.le_of_lt (Heap.lt_size gD5)))
  · rw [i2.length_eq, ksOf, List.length_map, Array.length_toList]
    exact x.len
  · have lt : b < s.heap.objs.size := Heap.lt_size e
    refine mv.heap b ob (fun z => ?_) (other b ob (Nat.ne_of_lt lt) (W.keep b ob (Heap.get?_push_of_some _ e)))
    rcases List.mem_cons.mp z with z | z
    · exact Nat.ne_of_lt lt z
    · have zi : b = it := by simpa using z
      subst zi
      have e' : (s.heap.push { cls := .type "list", data := .seq ([] : List Value).toArray }).objs.size ≤ b := W.old
      rw [szD] at e'
      exact Nat.lt_irrefl _ (Nat.lt_of_lt_of_le (Nat.lt_succ_of_lt lt) e')
theorem sorted_set (calm : A.handled = none) (h : SetI P w s.heap S (ledOf w) M n) (few : n < 64) {R : Value → Shared → Prop}
    (q : ∀ (D : Addr) (out : List Value) (ks : List Int) (m : Nat) (s' : Shared), IntsAre out ks → ks.Pairwise (· < ·) → (∀ k, k ∈ ks ↔ M k) → ks.length ≤ n → s'.gens = s.gens → s'.os = s.os → (∀ b o, s.heap.get? b = some o → s'.heap.get? b = some o) → s.heap.objs.size ≤ D → s'.heap.get? D = some (seqObj "list" out.toArray m) → R (.ref D) s') :
    wpAny (model P w) A (call (.builtin "sorted") [.ref S]) R E s := by
  refine Calls.call_function_entry kind_sorted plain_sorted entry_sorted (args_sorted1 _) ?_
  unfold Builtin.«sorted»
  refine wpAny_bind (m := checkCount "sorted" 1 1 _) (wpAny_pure ?_)
  refine wpAny_bind (collect_set (A := A.in1) (by simpa using calm) h (by omega) fun us ks s2 i1 nd mem len e1 e2 kp big => ?_)
  have lU : us.length = ks.length := by rw [← i1.nums, List.length_map]
  have fU : us.length ≤ sizeLine := by rw [lU]; exact Nat.le_trans len (Nat.le_trans (Nat.le_of_lt few) (by decide))
  refine wpAny_bind (wpAny_newList ?_ fU)
  have g2 : (s2.heap.push (seqObj "list" us.toArray 0)).get? s2.heap.objs.size = some (seqObj "list" us.toArray 0) := Heap.get?_push_size _ rfl
  show wpAny _ _ _ _ _ { s2 with heap := s2.heap.push (seqObj "list" us.toArray 0) }
  refine wpAny_bind (wpAny_holding (wpAny_call_entry slot_list_sort ⟨_, g2, rfl⟩ entry_list_sort (list_sort_tree g2 i1 (by omega) fun out ks' a1 a2 a3 => ⟨_, rfl, ?_⟩) (args_list_sort _)))
  obtain ⟨m, g3⟩ := sortedHeap_at (out := out) g2
  refine wpAny_pure ⟨_, rfl, q s2.heap.objs.size out.toList ks' m _ a1 ?_ (fun k => a2.mem_iff.trans (mem k)) (by rw [a2.length_eq]; exact len) e1 e2 (fun b o z => ?_) big (by simpa using g3)⟩
  · have nd' : ks'.Nodup := a2.nodup_iff.mpr nd
    have both := List.Pairwise.and a3 nd'
    exact both.imp fun z => by omega
  · have lt : b < s2.heap.objs.size := Heap.lt_size (kp b o z)
    have lt' : b < (s2.heap.push (seqObj "list" us.toArray 0)).objs.size := by rw [Heap.size_push]; exact Nat.lt_succ_of_lt lt
    exact (sortedHeap_old (Nat.ne_of_lt lt) lt').trans (Heap.get?_push_of_some _ (kp b o z))
end
section
variable {X : Cx} {pins : List (Addr × Obj)} {σ : St} {H : Hp} {s : Shared}
theorem Inv.like (I : Inv X pins σ H s) {s' : Shared} (e1 : s'.gens = s.gens) (e2 : s'.os = s.os) (e3 : s'.heap = s.heap) : Inv X pins σ H s' := by
  obtain ⟨hp, g, d, tk, os⟩ := s
  obtain ⟨hp', g', d', tk', os'⟩ := s'
  dsimp only at e1 e2 e3
  subst e1 e2 e3
  exact ⟨I.ok, I.os, I.bare, I.base, I.loc, I.cell, I.free, I.freeC, I.pin, I.hok, I.len⟩
def tSortSet (K : PySem.W.Frag) (t : TA) : TE := fun σ H Q => t σ H fun vs H1 => ∃ (p : Addr) (ns : List Int), vs = [.ref p] ∧ SqL K H1 p (ns.map V.int) ∧ ns.length < 64 ∧ ∀ (D : Addr) (ks : List Int), L2.new K H1 D → ks.Pairwise (· < ·) → (∀ k, k ∈ ks ↔ k ∈ ns) → ks.length ≤ ns.length → Q (.ref D) (upd H1 D (.lst (ks.map V.int)))
theorem esortedSet {e : Expr} {t : TA} {p p2 pos pos2 : Pos} (hc : X.calm = true) (hg : Gl X "sorted") (hm : X.mg "sorted" = none) (hg2 : Gl X "set") (hm2 : X.mg "set" = none) (ha : JA X [e] t)
    (he : starEach [.Call (.Name "set" p2) [e] [] pos2] X.env = (false, eval (.Call (.Name "set" p2) [e] [] pos2) X.env) :: starEach [] X.env := by rfl)
    (he2 : starEach [e] X.env = (false, eval e X.env) :: starEach [] X.env := by rfl) :
    JE X (.Call (.Name "sorted" p) [.Call (.Name "set" p2) [e] [] pos2] [] pos) (tSortSet X.K t) := ⟨by
  intro pins s σ H Q I h
  refine wpAny_Call_Name_kw (ld_blt I hg hm bt_sorted (PyProof.Rows.callWith_builtin1 ?_ he rfl))
  rw [he]
  show wpAny _ _ (spliced ((false, eval (.Call (.Name "set" p2) [e] [] pos2) X.env) :: backTo pos (starEach [] X.env))) _ _ s
  refine Calls.spliced_cons ?_
  refine wpAny_Call_Name_kw (ld_blt I hg2 hm2 bt_set (PyProof.Rows.callWith_type1 (thn (ha.h pos2 pins s σ H _ I h) fun us s1 ⟨vs, H1, I1, r1, q1⟩ => ?_) he2 rfl))
  obtain ⟨a, ns, rfl, hx, few, q⟩ := q1
  obtain ⟨u, rfl, ru⟩ := vals1 r1
  cases ru
  obtain ⟨its, rv, ht, hz⟩ := I1.list hx
  have li : its.length = ns.length := by rw [← rv.length, List.length_map]
  have calm := I1.ok.hd hc
  refine call_setI calm ht.isList (by simpa using vals_intsA rv) (by rw [List.size_toArray, li]; exact Nat.lt_of_lt_of_le (Nat.succ_lt_succ few) (by decide)) fun h2 tk hS kp => ?_
  refine Calls.spliced_nil ?_
  refine sorted_set (s := { s1 with heap := h2, toks := tk }) calm hS few fun D out ks m s3 i1 up mem len e1 e2 kp3 big g => ?_
  have szS : s1.heap.objs.size ≤ D := by
    obtain ⟨es, ep, tb, x⟩ := hS
    obtain ⟨o, go, _⟩ := x.at_
    exact Nat.le_trans (Nat.le_of_lt (Heap.lt_size go)) big
  have lk : ks.length ≤ sizeLine := Nat.le_trans len (Nat.le_trans (Nat.le_of_lt few) (by decide))
  have I3 : Inv X pins σ (upd H1 D (.lst (ks.map V.int))) { s1 with heap := s3.heap, toks := s3.toks } := I1.laid (t' := s3.toks) (o := .lst (ks.map V.int)) (fun b o z => kp3 b o (kp b o z)) szS ⟨by rw [List.length_map]; exact lk, out, m, ints_vals i1, by simpa [seqObj] using g⟩
  have I4 := I3.like (s' := s3) e1 e2 rfl
  exact ⟨.ref D, _, I4, rfl, q D ks ⟨I1.hok.fresh szS, I4.notMod upd_same⟩ up mem len⟩⟩
end
end L2
set_option Elab.async false
set_option linter.all false
set_option maxRecDepth 100000
namespace L2
open PySem PySem.Spec PyProof.Rows
theorem Inv.turnLay {X : Cx} {pins : List (Addr × Obj)} {σ : St} {H : Hp} {s : Shared} {h' : Heap} {ch : List Addr} {T : Addr} {o : HO} {t' : Nat} (I : Inv X pins σ H s) (k : ∀ b u, b ∉ ch → s.heap.get? b = some u → h'.get? b = some u) (hf : ∀ b ∈ ch, FpOk X pins H b)
    (hp : s.heap.objs.size ≤ T) (new : ObjOk X.prog X.w (upd H T o) h' T o) : Inv X pins σ (upd H T o) { s with heap := h', toks := t' } := by
  have fr := I.hok.fresh hp
  have out : ∀ b u, H b = some u → b ∉ ch := fun b u e z => by rw [(hf b z).1] at e; cases e
  refine I.step (g' := s.gens) (d' := s.drawn) (ch := ch) (fun b hb => ⟨(hf b hb).2.2.2.1, (hf b hb).2.1, (hf b hb).2.2.2.2.1, (hf b hb).2.2.2.2.2⟩) (fun b u _ _ hc e _ => k b u hc e) (fun b u _ _ hc e _ => ⟨u.slots, k b u hc e⟩)
    (fun b u _ e z => by rw [upd_ne (Nat.ne_of_lt (Nat.lt_of_lt_of_le (Heap.lt_size e) hp))]; exact z) (fun b u hc e => ⟨u, k b u hc e⟩) (fun b xs e => by rw [upd_ne (ne_of_none e fr)]; exact e) (fun b u v e => by rw [upd_ne (ne_of_none e fr)]; exact e)
    (fun b ps e => ⟨#[], by rw [upd_ne (ne_of_none e fr), e]; simp⟩) (fun m hm => ?_) (fun b u e => ?_) I.bare
  · obtain ⟨ob, es, ep, ho, r⟩ := hm
    exact ⟨ob, es, ep, k _ ob (fun z => (hf _ z).2.1 rfl) ho, r⟩
  · by_cases hb : b = T
    · subst hb
      rw [upd_same] at e
      cases e
      exact new
    · rw [upd_ne hb] at e
      refine (I.hok b u e).stay (fun c v hc q => k c v ?_ q) (fun c q => by rw [upd_ne (ne_of_none q fr)]; exact q) fun c xs q => by rw [upd_ne (ne_of_none q fr)]; exact q
      rcases hc with z | z
      · rw [z]; exact out b u e
      · exact out c _ z
def Ite (K : PySem.W.Frag) (a : Addr) : It := ⟨fun i H => ∃ xs x, SqL K H a xs ∧ xs[i]? = some x, fun i H x H' => ∃ T v, L2.new K H T ∧ (∀ xs, SqL K H a xs → xs[i]? = some v) ∧ x = .ref T ∧ H' = upd H T (.tup [.int i, v]), fun i H => ∃ xs, SqL K H a xs ∧ xs.length ≤ i⟩
theorem turn_enum {P : Program} {w : World} {K : PySem.W.Frag} {es : List Expr} {k : Nat} {tp : Pos} (a e it : Addr) (ne : e ≠ it) : Turn P w K (.Tuple es k tp) (Ite K a) [e, it] e (fun i h => (∃ old, IsEnum h e it ((i : Nat) : Int) old) ∧ h.IsListIter it a i) where
  mem := by simp
  obj := fun i h st b hb => by
    simp only [List.mem_cons, List.not_mem_nil, or_false] at hb
    rcases hb with rfl | rfl
    · obtain ⟨⟨old, g⟩, _⟩ := st
      exact ⟨_, g, fun v z => by cases z⟩
    · obtain ⟨_, o, g, c, d⟩ := st
      exact ⟨o, g, fun v z => by rw [d] at z; cases z⟩
  keep := fun i h h' st kk => ⟨let ⟨old, g⟩ := st.1; ⟨old, kk e (by simp) _ g⟩, st.2.at fun o g => kk it (by simp) o g⟩
  item := by
    intro X hP hw hK hc i pins s σ H E I hf st hg
    subst hP hw hK
    obtain ⟨xs, x, hq, hx⟩ := hg
    obtain ⟨its, rv, p, hz⟩ := I.list hq
    obtain ⟨u, hu, ru⟩ := rv.get hx
    obtain ⟨⟨old, he⟩, hit⟩ := st
    refine wpAny_pyNext_enum_item he hit p.isList (x := u) (by simpa using hu) ne fun h1 he1 hit1 gT sz kp => ?_
    refine ⟨_, rfl, wpAny_letOwnedTupleGo_enum he1 fun h2 he2 sb => ?_⟩
    have ltE : e < s.heap.objs.size := Heap.lt_size he
    have gT2 : h2.get? s.heap.objs.size = some { cls := .type "tuple", data := .seq #[.int i s.toks, u] } := (sb.2 _ (Nat.ne_of_gt ltE)).trans gT
    have I1 : Inv X pins σ (upd H s.heap.objs.size (.tup [.int i, x])) { s with heap := h2, toks := s.toks + 1 } := by
      refine I.turnLay (ch := [e, it]) (fun b o hb g => ?_) hf (Nat.le_refl _) ⟨(show 2 ≤ sizeLine by decide), [.int i s.toks, u], .cons ⟨_, rfl⟩ (.cons ru .nil), _, gT2, rfl, _, rfl⟩
      simp only [List.mem_cons, List.not_mem_nil, or_false, not_or] at hb
      exact (sb.2 b hb.1).trans (kp b o hb.1 hb.2 g)
    refine ⟨.ref s.heap.objs.size, _, I1, rfl, ⟨_, x, ⟨I.hok.fresh (Nat.le_refl _), I1.notMod upd_same⟩, fun ys hy => by rw [I.list_inj hy hq]; exact hx, rfl, rfl⟩, ⟨⟨_, by simpa using he2⟩, hit1.at fun o g => (sb.2 it (Ne.symm ne)).trans g⟩, fun b hb => ?_⟩
    have ltb : b < s.heap.objs.size := by
      simp only [List.mem_cons, List.not_mem_nil, or_false] at hb
      rcases hb with rfl | rfl
      · exact ltE
      · obtain ⟨o, g, _⟩ := hit
        exact Heap.lt_size g
    rw [upd_ne (Nat.ne_of_lt ltb)]
    exact (hf b hb).1
  done := by
    intro X hP hw hK hc i pins s σ H E I hf st hg
    subst hP hw hK
    obtain ⟨xs, hq, hx⟩ := hg
    obtain ⟨its, rv, p, hz⟩ := I.list hq
    obtain ⟨⟨old, he⟩, hit⟩ := st
    obtain ⟨f0, f1, f2, f3, f4, f5⟩ := hf it (by simp)
    have hl := rv.length
    exact wpAny_pyNext_enum_end (I.ok.hd hc) he hit p.isList (by simp; omega) fun h' eb => ⟨rfl, I.turned (t' := s.toks) (fun b o hb g => eb b o hb g) f0 f1 f3 f4 f5⟩
  self := fun _ _ _ _ _ st h => let ⟨_, g⟩ := st.1; wpAny_pyIter_enum g h
section
variable {X : Cx}
def iEnum (K : PySem.W.Frag) (tl : TA) : TI := fun σ H R => tl σ H fun vs H1 => ∃ a, vs = [.ref a] ∧ (∃ xs, SqL K H1 a xs) ∧ R (Ite K a) H1
theorem ienum {l : Expr} {t : TA} {es : List Expr} {k : Nat} {p pos tp : Pos} (hg : Gl X "enumerate") (hm : X.mg "enumerate" = none) (ha : JA X [l] t) (hs : starEach [l] X.env = (false, eval l X.env) :: starEach [] X.env := by rfl) :
    JI X (.Tuple es k tp) (.Call (.Name "enumerate" p) [l] [] pos) (iEnum X.K t) := ⟨by
  intro pins s σ H R I h
  refine Call_ (ld_blt I hg hm bt_enumerate (PyProof.Rows.callWith_type1 (thn (ha.h pos pins s σ H _ I h) fun us s1 ⟨vs, H1, I1, r1, q1⟩ => ?_) hs rfl))
  obtain ⟨a, rfl, ⟨xs, hx⟩, q⟩ := q1
  obtain ⟨u, rfl, ru⟩ := vals1 r1
  cases ru
  obtain ⟨its, rv, ht, hz⟩ := I1.list hx
  refine call_enumerate_list ht.isList fun h2 he hit sz kp => ?_
  have I2 : Inv X pins σ H1 { s1 with heap := h2 } := I1.kept (t' := s1.toks) kp
  refine wpAny_pyIter_enum he ⟨_, [s1.heap.objs.size + 1, s1.heap.objs.size], _, Ite X.K a, H1, rfl, I2, turn_enum a _ _ (Nat.succ_ne_self _), ⟨⟨_, he⟩, hit⟩, fun b hb => ?_, q⟩
  simp only [List.mem_cons, List.not_mem_nil, or_false] at hb
  have le : s1.heap.objs.size ≤ b := by
    rcases hb with rfl | rfl
    · exact Nat.le_succ _
    · exact Nat.le_refl _
  exact I1.fpOk le (I1.hok.fresh le)⟩
end
section
variable {K : PySem.W.Frag} {g : TG} {tt : TT} {te : TE} {D a : Addr} {Q : Hp → Prop} {σ : St} {H : Hp} {xs : List V}
theorem tLc_enum {ta : TA} {src : List (Option Nat)} {Q : VK} : tLc K (iEnum K ta) src g tt te σ H Q = ta σ H (fun vs H1 => ∃ a, vs = [.ref a] ∧ (∃ xs, SqL K H1 a xs) ∧ ∀ D, L2.new K H1 D → LcLoop (Ite K a) g tt te D (fun H' => Q (.ref D) H') (pick σ src) (upd H1 D (.lst []))) := rfl
theorem lc_enum (Pv : Nat → List V → St → Hp → Prop) (h0 : Pv 0 [] σ H) (hl : ∀ i acc σ H, i ≤ xs.length → Pv i acc σ H → SqL K H a xs)
    (hs : ∀ i x acc σ H T, xs[i]? = some x → Pv i acc σ H → L2.new K H T → g (.ref T) σ (upd H T (.tup [.int i, x])) fun σ2 H2 => tt σ2 H2 fun b H3 => if b = true then te σ2 H3 fun v H4 => H4 D = some (.lst acc) ∧ acc.length < sizeLine ∧ Pv (i + 1) (acc ++ [v]) σ2 (upd H4 D (.lst (acc ++ [v]))) else Pv (i + 1) acc σ2 H3)
    (hd : ∀ acc σ H, Pv xs.length acc σ H → Q H) : LcLoop (Ite K a) g tt te D Q σ H := by
  refine lc_run (n := xs.length) Pv h0 (fun i acc σ H hi h => ⟨xs, _, hl i acc σ H (Nat.le_of_lt hi) h, List.getElem?_eq_getElem hi⟩) (fun acc σ H h => ⟨xs, hl _ acc σ H (Nat.le_refl _) h, Nat.le_refl _⟩) (fun i acc σ H x H' hi h hy => ?_) hd
  obtain ⟨T, v, nT, hv, rfl, rfl⟩ := hy
  exact hs i v acc σ _ T (hv xs (hl i acc σ _ (Nat.le_of_lt hi) h)) h nT
end
section
variable {X : Cx}
end
end L2
set_option Elab.async false
set_option linter.all false
set_option maxRecDepth 100000
namespace L2
open PySem PySem.Spec PyProof.Rows
theorem Inv.turnAll {X : Cx} {pins : List (Addr × Obj)} {σ : St} {H : Hp} {s : Shared} {h' : Heap} {ch : List Addr} {t' : Nat} (I : Inv X pins σ H s) (k : ∀ b u, b ∉ ch → s.heap.get? b = some u → h'.get? b = some u) (hf : ∀ b ∈ ch, FpOk X pins H b) :
    Inv X pins σ H { s with heap := h', toks := t' } := by
  have out : ∀ b u, H b = some u → b ∉ ch := fun b u e z => by rw [(hf b z).1] at e; cases e
  refine I.step (g' := s.gens) (d' := s.drawn) (ch := ch) (fun b hb => ⟨(hf b hb).2.2.2.1, (hf b hb).2.1, (hf b hb).2.2.2.2.1, (hf b hb).2.2.2.2.2⟩) (fun b u _ _ hc e _ => k b u hc e) (fun b u _ _ hc e _ => ⟨u.slots, k b u hc e⟩)
    (fun _ _ _ _ z => z) (fun b u hc e => ⟨u, k b u hc e⟩) (fun _ _ e => e) (fun _ _ _ e => e)
    (fun b ps e => ⟨#[], by rw [e]; simp⟩) (fun m hm => ?_) (fun b u e => ?_) I.bare
  · obtain ⟨ob, es, ep, ho, r⟩ := hm
    exact ⟨ob, es, ep, k _ ob (fun z => (hf _ z).2.1 rfl) ho, r⟩
  · refine (I.hok b u e).stay (fun c v hc q => k c v ?_ q) (fun _ q => q) fun _ _ q => q
    rcases hc with z | z
    · rw [z]; exact out b u e
    · exact out c _ z
def Itz (K : PySem.W.Frag) (a b : Addr) : It := ⟨fun i H => ∃ xs ys x y, SqL K H a xs ∧ SqL K H b ys ∧ xs[i]? = some x ∧ ys[i]? = some y, fun i H x H' => ∃ T v u, L2.new K H T ∧ (∀ xs, SqL K H a xs → xs[i]? = some v) ∧ (∀ ys, SqL K H b ys → ys[i]? = some u) ∧ x = .ref T ∧ H' = upd H T (.tup [v, u]), fun i H => ∃ xs ys, SqL K H a xs ∧ SqL K H b ys ∧ (xs.length ≤ i ∨ ys.length ≤ i)⟩
theorem turn_zip {P : Program} {w : World} {K : PySem.W.Frag} {es : List Expr} {k : Nat} {tp : Pos} (a b z TI TO i1 i2 : Addr) (D : ZipApart z TI TO i1 i2 a b) : Turn P w K (.Tuple es k tp) (Itz K a b) [z, TI, TO, i1, i2] z
    (fun i h => IsZip h z TI TO .none ∧ IsPair h TI (.ref i1) (.ref i2) ∧ (∃ p q, IsPair h TO p q) ∧ h.IsListIter i1 a i ∧ h.IsListIter i2 b i) where
  mem := by simp
  obj := fun i h st c hc => by
    obtain ⟨g1, g2, ⟨p, q, g3⟩, ⟨o4, g4, c4, d4⟩, ⟨o5, g5, c5, d5⟩⟩ := st
    simp only [List.mem_cons, List.not_mem_nil, or_false] at hc
    rcases hc with rfl | rfl | rfl | rfl | rfl
    · exact ⟨_, g1, fun v z => by cases z⟩
    · exact ⟨_, g2, fun v z => by cases z⟩
    · exact ⟨_, g3, fun v z => by cases z⟩
    · exact ⟨o4, g4, fun v z => by rw [d4] at z; cases z⟩
    · exact ⟨o5, g5, fun v z => by rw [d5] at z; cases z⟩
  keep := fun i h h' st kk => by
    obtain ⟨g1, g2, ⟨p, q, g3⟩, g4, g5⟩ := st
    exact ⟨kk z (by simp) _ g1, kk TI (by simp) _ g2, ⟨p, q, kk TO (by simp) _ g3⟩, g4.at fun o g => kk i1 (by simp) o g, g5.at fun o g => kk i2 (by simp) o g⟩
  item := by
    intro X hP hw hK hc i pins s σ H E I hf st hg
    subst hP hw hK
    obtain ⟨xs, ys, x, y, hq, hq', hx, hy⟩ := hg
    obtain ⟨its, rv, p, hz⟩ := I.list hq
    obtain ⟨its', rv', p', hz'⟩ := I.list hq'
    obtain ⟨u, hu, ru⟩ := rv.get hx
    obtain ⟨u', hu', ru'⟩ := rv'.get hy
    obtain ⟨g1, g2, ⟨a', b', g3⟩, g4, g5⟩ := st
    refine wpAny_pyNext_zip_item D g1 g2 g3 g4 g5 p.isList p'.isList (x := u) (y := u') (by simpa using hu) (by simpa using hu') fun h1 hz1 hTO1 hi1 hi2 gT sz kp => ?_
    refine ⟨_, rfl, wpAny_letOwnedTupleGo_zip hz1 fun h2 hz2 sb => ?_⟩
    have ltZ : z < s.heap.objs.size := Heap.lt_size g1
    have gT2 : h2.get? s.heap.objs.size = some { cls := .type "tuple", data := .seq #[u, u'] } := (sb.2 _ (Nat.ne_of_gt ltZ)).trans gT
    have I1 : Inv X pins σ (upd H s.heap.objs.size (.tup [x, y])) { s with heap := h2, toks := s.toks } := by
      refine I.turnLay (ch := [z, TI, TO, i1, i2]) (fun b o hb g => ?_) hf (Nat.le_refl _) ⟨(show 2 ≤ sizeLine by decide), [u, u'], .cons ru (.cons ru' .nil), _, gT2, rfl, _, rfl⟩
      simp only [List.mem_cons, List.not_mem_nil, or_false, not_or] at hb
      exact (sb.2 b hb.1).trans (kp b o hb.1 hb.2.2.1 hb.2.2.2.1 hb.2.2.2.2 g)
    have kT : ∀ c o, c ≠ z → h1.get? c = some o → h2.get? c = some o := fun c o n g => (sb.2 c n).trans g
    refine ⟨.ref s.heap.objs.size, _, I1, rfl, ⟨_, x, y, ⟨I.hok.fresh (Nat.le_refl _), I1.notMod upd_same⟩, fun ys hy => by rw [I.list_inj hy hq]; exact hx, fun zs hy' => by rw [I.list_inj hy' hq']; exact hy, rfl, rfl⟩,
      ⟨hz2, kT _ _ D.TIz (kp _ _ D.TIz D.TITO D.TIi1 D.TIi2 g2), ⟨_, _, kT _ _ D.TOz hTO1⟩, hi1.at fun o g => kT _ o D.i1z g, hi2.at fun o g => kT _ o D.i2z g⟩, fun c hc => ?_⟩
    have ltc : c < s.heap.objs.size := by
      obtain ⟨o4, e4, _⟩ := g4
      obtain ⟨o5, e5, _⟩ := g5
      simp only [List.mem_cons, List.not_mem_nil, or_false] at hc
      rcases hc with rfl | rfl | rfl | rfl | rfl
      · exact ltZ
      · exact Heap.lt_size g2
      · exact Heap.lt_size g3
      · exact Heap.lt_size e4
      · exact Heap.lt_size e5
    rw [upd_ne (Nat.ne_of_lt ltc)]
    exact (hf c hc).1
  done := by
    intro X hP hw hK hc i pins s σ H E I hf st hg
    subst hP hw hK
    obtain ⟨xs, ys, hq, hq', hx⟩ := hg
    obtain ⟨its, rv, p, hz⟩ := I.list hq
    obtain ⟨its', rv', p', hz'⟩ := I.list hq'
    obtain ⟨g1, g2, ⟨a', b', g3⟩, g4, g5⟩ := st
    have hl := rv.length
    have hl' := rv'.length
    refine wpAny_pyNext_zip_end (I.ok.hd hc) D g1 g2 g3 g4 g5 p.isList p'.isList ?_ fun h' kp => ⟨rfl, I.turnAll (t' := s.toks) (ch := [z, TI, TO, i1, i2]) (fun b o hb g => ?_) hf⟩
    · rcases hx with e | e
      · exact .inl (by simp; omega)
      · exact .inr (by simp; omega)
    · simp only [List.mem_cons, List.not_mem_nil, or_false, not_or] at hb
      exact kp b o hb.1 hb.2.2.1 hb.2.2.2.1 hb.2.2.2.2 g
  self := fun _ _ _ _ _ st h => wpAny_pyIter_zip st.1 h
section
variable {X : Cx}
def iZip (K : PySem.W.Frag) (tl : TA) : TI := fun σ H R => tl σ H fun vs H1 => ∃ a b, vs = [.ref a, .ref b] ∧ (∃ xs, SqL K H1 a xs) ∧ (∃ ys, SqL K H1 b ys) ∧ R (Itz K a b) H1
theorem izip {l l' : Expr} {t : TA} {es : List Expr} {k : Nat} {p pos tp : Pos} (hg : Gl X "zip") (hm : X.mg "zip" = none) (ha : JA X [l, l'] t) (hs : starEach [l, l'] X.env = (false, eval l X.env) :: starEach [l'] X.env := by rfl) (hs2 : (backTo pos (starEach [l'] X.env)).any (·.1) = false := by rfl) :
    JI X (.Tuple es k tp) (.Call (.Name "zip" p) [l, l'] [] pos) (iZip X.K t) := ⟨by
  intro pins s σ H R I h
  refine Call_ (ld_blt I hg hm bt_zip (PyProof.Rows.callWith_type1 (thn (ha.h pos pins s σ H _ I h) fun us s1 ⟨vs, H1, I1, r1, q1⟩ => ?_) hs hs2))
  obtain ⟨a, b, rfl, ⟨xs, hx⟩, ⟨ys, hy⟩, q⟩ := q1
  obtain ⟨u, u', rfl, ru, ru'⟩ := vals2 r1
  cases ru
  cases ru'
  obtain ⟨its, rv, ht, hz⟩ := I1.list hx
  obtain ⟨its', rv', ht', hz'⟩ := I1.list hy
  have la : a < s1.heap.objs.size := by obtain ⟨_, e, _⟩ := ht.isList; exact Heap.lt_size e
  have lb : b < s1.heap.objs.size := by obtain ⟨_, e, _⟩ := ht'.isList; exact Heap.lt_size e
  refine call_zip_2 ht.isList ht'.isList fun h2 g1 g2 g3 g4 g5 sz kp => ?_
  have I2 : Inv X pins σ H1 { s1 with heap := h2 } := I1.kept (t' := s1.toks) kp
  refine wpAny_pyIter_zip g1 ⟨_, [s1.heap.objs.size + 4, s1.heap.objs.size + 2, s1.heap.objs.size + 3, s1.heap.objs.size, s1.heap.objs.size + 1], _, Itz X.K a b, H1, rfl, I2, turn_zip a b _ _ _ _ _ (zipApart_new la lb), ⟨g1, g2, ⟨_, _, g3⟩, g4, g5⟩, fun b hb => ?_, q⟩
  simp only [List.mem_cons, List.not_mem_nil, or_false] at hb
  have le : s1.heap.objs.size ≤ b := by
    rcases hb with rfl | rfl | rfl | rfl | rfl
    · exact Nat.le_add_right _ _
    · exact Nat.le_add_right _ _
    · exact Nat.le_add_right _ _
    · exact Nat.le_refl _
    · exact Nat.le_add_right _ _
  exact I1.fpOk le (I1.hok.fresh le)⟩
end
section
variable {K : PySem.W.Frag} {ta : TA} {g : TG} {tb : TS} {D : Ends} {σ : St} {H : Hp} {a b : Addr} {xs ys : List V}
theorem tFor_zip : tFor (iZip K ta) g tb D σ H = ta σ H (fun vs H1 => ∃ a b, vs = [.ref a, .ref b] ∧ (∃ xs, SqL K H1 a xs) ∧ (∃ ys, SqL K H1 b ys) ∧ Loop (Itz K a b) g tb D σ H1) := rfl
theorem loop_zip (Pv : Nat → St → Hp → Prop) (el : xs.length = ys.length) (h0 : Pv 0 σ H) (hl : ∀ i σ H, i ≤ xs.length → Pv i σ H → SqL K H a xs ∧ SqL K H b ys)
    (hs : ∀ i x y σ H T, xs[i]? = some x → ys[i]? = some y → Pv i σ H → L2.new K H T → g (.ref T) σ (upd H T (.tup [x, y])) fun σ2 H2 => tb { D with nx := Pv (i + 1), ct := Pv (i + 1), bk := D.nx } σ2 H2) (hd : ∀ σ H, Pv xs.length σ H → D.nx σ H) : Loop (Itz K a b) g tb D σ H := by
  refine ⟨fun i m σ H => m = xs.length - i ∧ i ≤ xs.length ∧ Pv i σ H, ⟨xs.length, by simp, Nat.zero_le _, h0⟩, ?_⟩
  rintro i m σ H ⟨rfl, hi, p⟩
  obtain ⟨q1, q2⟩ := hl i σ H hi p
  by_cases hlt : i < xs.length
  · refine .inr ⟨⟨xs, ys, xs[i], ys[i]'(by omega), q1, q2, by simp [hlt], by simp [← el, hlt]⟩, Pv (i + 1), fun σ' H' p' => ⟨xs.length - (i + 1), by omega, rfl, hlt, p'⟩, fun x H' y => ?_⟩
    obtain ⟨T, v, u, nT, hv, hu, rfl, rfl⟩ := y
    exact hs i v u σ _ T (hv xs q1) (hu ys q2) p nT
  · have e : i = xs.length := by omega
    subst e
    exact .inl ⟨⟨xs, ys, q1, q2, .inl (Nat.le_refl _)⟩, hd σ H p⟩
theorem wloop {c : TT} (Pv : Nat → St → Hp → Prop) (h0 : ∃ m, Pv m σ H)
    (hs : ∀ m σ H, Pv m σ H → c σ H fun b H1 => if b = true then ∃ N : St → Hp → Prop, (∀ σ' H', N σ' H' → ∃ m', m' < m ∧ Pv m' σ' H') ∧ tb { D with nx := N, ct := N, bk := D.nx } σ H1 else D.nx σ H1) : tWhile c tb D σ H := ⟨Pv, h0, hs⟩
end
section
variable {X : Cx}
theorem saug {i : Nat} {x : Str} {e : Expr} {te : TE} {op : Operator} {ti : TIp} {p pos : Pos} (hN : X.N.Nodup) (hi : X.N[i]? = some x) (hx : Loc X.env.scope x) (he : JE X e te) (ho : PIp X op ti) (hf : X.fn x = true ∨ X.env.scope.names.lookup x = some .local := by first | exact .inl rfl | exact .inr rfl | assumption) :
    JS X (.AugAssign (.Name x p) op e pos) (tAug i te ti) := ⟨ps_aug hN hi hx he.h ho hf⟩
theorem call_reprD (hg : X.A.guards = some []) (hu : X.A.units + 64 < cLine) : CallR X (.builtin "repr") (fun xs H Q => ∃ (p : Addr) (d : PyData), xs = [.ref p] ∧ Is X.K H d (.ref p) ∧ d.showable = true ∧ d.hasDict = false ∧ d.depth ≤ 60 ∧ d.shown.length ≤ sizeLine ∧ Q (.str d.shown) H) := by
  intro pins s σ H xs us Q I r h
  obtain ⟨p, d, rfl, hd, hs, hnd, hdp, hl, q⟩ := h
  obtain ⟨u, rfl, ru⟩ := vals1 r
  cases ru
  obtain ⟨as, rd⟩ := hd.reads I (u := .ref p) rfl
  refine repr_of_reads' rd hs (PyData.noDict_hsm hnd) hg (by omega) (fun _ _ e => e) (fun h' u tk hk => ?_) hl
  exact ⟨.str d.shown, H, I.kept (t' := tk) hk, ⟨u, rfl⟩, q⟩
end
mutual
def wt : PyData → Nat
  | .none => 1
  | .bool _ => 1
  | .int _ => 1
  | .str _ => 1
  | .list ds => wtAll ds + 1
  | .tuple ds => wtAll ds + 1
  | .dict _ => 1
def wtAll : List PyData → Nat
  | [] => 0
  | d :: ds => wt d + wtAll ds
end
mutual
def bare : PyData → Bool
  | .none => true
  | .int i => decide (i.natAbs.log2 < 1920)
  | .list ds => bareAll ds
  | .tuple ds => bareAll ds
  | _ => false
def bareAll : List PyData → Bool
  | [] => true
  | d :: ds => bare d && bareAll ds
end
theorem listText_le (ts : List Str) : (listText ts).length ≤ piled ts + 2 := by
  cases ts with
  | nil => exact Nat.le_of_eq rfl
  | cons t r =>
    have h := textFrom_length_pos r 1 (("[" : Str) ++ (if (0 : Nat) > 0 then ", " else "" : String) ++ t) (Nat.succ_pos 0)
    have e : ((("[" : Str) ++ (if (0 : Nat) > 0 then ", " else "" : String) ++ t)).length = 1 + t.length := by
      rw [strLen_append, strLen_append]; rfl
    have hX : (listText (t :: r)).length = (textFrom 0 "[" (t :: r)).length + 1 := by
      show (textFrom 0 "[" (t :: r) ++ "]").length = _
      rw [strLen_append]; rfl
    have hY : (textFrom 0 "[" (t :: r)).length = (textFrom 1 (("[" : Str) ++ (if (0 : Nat) > 0 then ", " else "" : String) ++ t) r).length := rfl
    rw [hX, hY, h, e, piled_cons]; omega
theorem tupleText_le (ts : List Str) : (tupleText ts).length ≤ piled ts + 3 := by
  unfold tupleText
  rw [strLen_append, strLen_append]
  have e1 : ((("(" : String) : Str)).length = 1 := rfl
  have e3 : (((if ts.length == 1 then ",)" else ")" : String) : Str)).length ≤ 2 := by split <;> decide
  rw [e1]
  by_cases h : ts = []
  · subst h
    have : (Str.join ", " []).length = 0 := rfl
    omega
  · have := join_length_add ts h
    omega
mutual
theorem shown_le : ∀ {d : PyData}, bare d = true → d.shown.length + 4 ≤ 1930 * wt d
  | .none, _ => by simp only [PyData.shown, wt]; decide
  | .int i, h => by
    simp only [bare, decide_eq_true_eq] at h
    have := int_text_len_1921 h
    simp only [PyData.shown, wt]
    omega
  | .list ds, h => by
    simp only [bare] at h
    have := shownAll_le h
    have l := listText_le (PyData.shownAll ds)
    simp only [PyData.shown, wt]
    omega
  | .tuple ds, h => by
    simp only [bare] at h
    have := shownAll_le h
    have l := tupleText_le (PyData.shownAll ds)
    simp only [PyData.shown, wt]
    omega
  | .bool _, h => by simp [bare] at h
  | .str _, h => by simp [bare] at h
  | .dict _, h => by simp [bare] at h
theorem shownAll_le : ∀ {ds : List PyData}, bareAll ds = true → piled (PyData.shownAll ds) ≤ 1930 * wtAll ds
  | [], _ => by simp [PyData.shownAll, piled, wtAll]
  | d :: ds, h => by
    simp only [bareAll, Bool.and_eq_true] at h
    have h1 := shown_le h.1
    have h2 := shownAll_le h.2
    simp only [PyData.shownAll, piled_cons, wtAll]
    omega
end
mutual
theorem bare_show : ∀ {d : PyData}, bare d = true → d.showable = true ∧ d.hasDict = false
  | .none, _ => by simp only [PyData.showable, PyData.hasDict]; exact ⟨trivial, trivial⟩
  | .int i, h => by
    simp only [bare] at h
    simp only [PyData.showable, PyData.hasDict]
    exact ⟨h, trivial⟩
  | .list ds, h => by
    simp only [bare] at h
    simp only [PyData.showable, PyData.hasDict]
    exact bareAll_show h
  | .tuple ds, h => by
    simp only [bare] at h
    simp only [PyData.showable, PyData.hasDict]
    exact bareAll_show h
  | .bool _, h => by simp [bare] at h
  | .str _, h => by simp [bare] at h
  | .dict _, h => by simp [bare] at h
theorem bareAll_show : ∀ {ds : List PyData}, bareAll ds = true → PyData.showableAll ds = true ∧ PyData.hasDictAll ds = false
  | [], _ => by simp [PyData.showableAll, PyData.hasDictAll]
  | d :: ds, h => by
    simp only [bareAll, Bool.and_eq_true] at h
    have h1 := bare_show h.1
    have h2 := bareAll_show h.2
    simp only [PyData.showableAll, PyData.hasDictAll, h1.1, h1.2, h2.1, h2.2, Bool.and_self, Bool.or_self]
    exact ⟨trivial, trivial⟩
end
theorem bare_int {i : Int} (h : i.natAbs < 10 ^ 60) : bare (.int i) = true := by
  simp only [bare, decide_eq_true_eq]
  by_cases z : i.natAbs = 0
  · rw [z]; decide
  · exact (Nat.log2_lt z).mpr (Nat.lt_trans h (by decide +kernel))
section
variable {X : Cx}
theorem call_reprB (hg : X.A.guards = some []) (hu : X.A.units + 64 < cLine) : CallR X (.builtin "repr") (fun xs H Q => ∃ (p : Addr) (d : PyData), xs = [.ref p] ∧ Is X.K H d (.ref p) ∧ bare d = true ∧ d.depth ≤ 60 ∧ wt d ≤ 8000 ∧ Q (.str d.shown) H) := by
  intro pins s σ H xs us Q I r h
  obtain ⟨p, d, e, hd, hb, hdp, hw, q⟩ := h
  have hl := shown_le hb
  have hs := bare_show hb
  exact call_reprD hg hu pins s σ H xs us Q I r ⟨p, d, e, hd, hs.1, hs.2, hdp, by rw [sizeLine_eq]; omega, q⟩
end
end L2
set_option Elab.async false
set_option linter.all false
set_option maxRecDepth 100000
namespace PySem
open Sem (wp)
end PySem
namespace PySem
namespace F
end F
section
variable {prog : Program} {w : World} {A : Around} {E : Value → Shared → Prop} {s : Shared}
end
section
variable {prog : Program} {w : World} {A : Around} {R : Result → Shared → Prop} {I : Addr} {fp wr : List Addr} {G : Array GenState → Array GenState → Prop} {n : Nat} {P : Nat → Value → Prop} {St : Nat → Shared → Prop} {K : Type} [DecidableEq K] {knd : KeyKind prog w K}
end
end PySem
namespace PySem
section
variable {prog : Program} {w : World} {K : Type} [DecidableEq K] {knd : KeyKind prog w K} {A : Around} {E : Value → Shared → Prop} {s : Shared}
end
end PySem
namespace L2
open PySem PySem.Spec PyProof.Rows
section
variable {X : Cx}
theorem edget {o i : Expr} {td ty : TE} {pos : Pos} (hu : X.A.units + 64 < cLine) (ho : JE X o td) (hi : JE X i ty) (hs : NoSl i) : JE X (.Subscript o i pos) (tDGet td ty) := ⟨pe_dget (by omega) ho.h hi.h hs⟩
end
end L2
set_option Elab.async false
set_option linter.all false
set_option maxRecDepth 100000
namespace L2
open PySem PySem.Spec PyProof.Rows
theorem is_kV {P : Program} {w : World} {k : Key} {u : Value} (h : (mixKind P w).is k u = true) : RelV (kV k) u := by
  rcases keyIs_shape h with ⟨i, t, rfl, rfl⟩ | ⟨x, t, rfl, rfl⟩
  · exact ⟨t, rfl⟩
  · exact ⟨t, rfl⟩
section
variable {X : Cx} {pins : List (Addr × Obj)} {σ : St} {H : Hp} {s : Shared}
theorem Inv.swap {d : Addr} {u0 u1 : HO} (I : Inv X pins σ H s) (e : H d = some u0) (m0 : ∀ xs, u0 ≠ .tup xs) (m1 : ∀ o u, X.H₀ d ≠ some (.frz o u)) (m2 : ∀ ps, u0 ≠ .tbl ps) (m3 : ∀ x, u0 ≠ .own x) (new : ObjOk X.prog X.w (upd H d u1) s.heap d u1) : Inv X pins σ (upd H d u1) s where
  ok := I.ok
  os := I.os
  bare := I.bare
  base := ⟨I.base.keep, I.base.slot, fun b o g n x => by
      have z := I.base.free b o g n x
      rw [upd_ne (fun q => by rw [q, e] at z; cases z)]
      exact z, I.base.there, fun b xs g => by
      have z := I.base.tups b xs g
      rw [upd_ne (fun q => by rw [q, e] at z; exact m0 xs (Option.some.inj z))]
      exact z, fun b o u g => by
      have z := I.base.frzs b o u g
      rw [upd_ne (fun q => by rw [q] at g; exact m1 o u g)]
      exact z, fun b ps g => by
      obtain ⟨more, z⟩ := I.base.tbls b ps g
      refine ⟨more, ?_⟩
      rw [upd_ne (fun q => by rw [q, e] at z; exact m2 _ (Option.some.inj z))]
      exact z⟩
  loc := I.loc
  cell := I.cell
  free := by
    have z := I.free
    rw [upd_ne (fun q => by rw [q, e] at z; cases z)]
    exact z
  freeC := fun x c g => by
    have z := I.freeC x c g
    rw [upd_ne (fun q => by rw [q, e] at z; cases z)]
    exact z
  pin := fun p hp => by
    obtain ⟨a1, a2, a3⟩ := I.pin p hp
    refine ⟨a1, ?_, a3⟩
    rw [upd_ne (fun q => by rw [q, e] at a2; cases a2)]
    exact a2
  hok := fun a o g => by
    by_cases q : a = d
    · subst q
      rw [upd_same] at g
      cases g
      exact new
    · rw [upd_ne q] at g
      refine (I.hok a o g).stay (fun _ _ _ z => z) (fun b z => ?_) fun b xs z => ?_
      · rw [upd_ne (fun q => by rw [q, e] at z; exact m3 _ (Option.some.inj z))]
        exact z
      · rw [upd_ne (fun q => by rw [q, e] at z; exact m0 _ (Option.some.inj z))]
        exact z
  len := I.len
theorem Inv.notFrz {d : Addr} {kvs : List (Key × V)} (I : Inv X pins σ H s) (e : H d = some (.dK kvs)) : ∀ o u, X.H₀ d ≠ some (.frz o u) := fun o u z => by
  have q := I.base.frzs d o u z
  rw [e] at q
  cases q
theorem Inv.freeze {d : Addr} {kvs : List (Key × V)} {od : Obj} (I : Inv X pins σ H s) (e : H d = some (.dK kvs)) (g : s.heap.get? d = some od) : Inv X pins σ (upd H d (.frz od (.dK kvs))) s :=
  I.swap e (fun _ => nofun) (I.notFrz e) (fun _ => nofun) (fun _ => nofun) ⟨g, I.hok d _ e⟩
theorem Inv.thaw {d : Addr} {kvs : List (Key × V)} {od : Obj} (I : Inv X pins σ H s) (e : H d = some (.frz od (.dK kvs))) (m : ∀ o u, X.H₀ d ≠ some (.frz o u)) : Inv X pins σ (upd H d (.dK kvs)) s :=
  I.swap e (fun _ => nofun) m (fun _ => nofun) (fun _ => nofun) (I.hok d _ e).2
end
def Itd (d : Addr) (od : Obj) (kvs : List (Key × V)) : It :=
  ⟨fun i H => H d = some (.frz od (.dK kvs)) ∧ i < kvs.length, fun i H x H' => H' = H ∧ ∃ p, kvs[i]? = some p ∧ x = kV p.1, fun i H => H d = some (.frz od (.dK kvs)) ∧ kvs.length ≤ i⟩
theorem kv_at {kvs : List (Key × V)} {vs : List (Key × Value)} (r : KV kvs vs) : ∀ {i : Nat} {p : Key × V}, kvs[i]? = some p → ∃ v, vs[i]? = some (p.1, v) := by
  unfold KV at r
  induction r with
  | nil => intro i p h; simp at h
  | @cons a b as bs h t ih =>
    intro i p e
    cases i with
    | zero =>
      simp only [List.getElem?_cons_zero, Option.some.injEq] at e ⊢
      subst e
      exact ⟨b.2, by rw [h.1]⟩
    | succ i =>
      simp only [List.getElem?_cons_succ] at e ⊢
      exact ih e
theorem frz_at {P : Program} {w : World} {H : Hp} {h : Heap} {d : Addr} {od : Obj} {kvs : List (Key × V)} {es : Array DictEntry} {ep : Nat} (hdat : od.data = .dict es ep) (x : ObjOk P w H h d (.frz od (.dK kvs))) : ∃ vs, KV kvs vs ∧ h.DictAt (mixKind P w) d vs ep := by
  obtain ⟨g, z, hd, vs, rel, o, es', ep', g', r1, r2, r3⟩ := x
  rw [g] at g'
  cases g'
  rw [hdat] at r2
  cases r2
  exact ⟨vs, rel, od, es, g, r1, hdat, r3⟩
theorem turn_dict {P : Program} {w : World} {K : PySem.W.Frag} {tg : Expr} {d it : Addr} {od : Obj} {kvs : List (Key × V)} {es : Array DictEntry} {ep : Nat} (hdat : od.data = .dict es ep) : Turn P w K tg (Itd d od kvs) [it] it (fun i h => h.IsKeyIter it d i kvs.length ep) where
  mem := by simp
  obj := fun i h st b hb => by
    have e : b = it := by simpa using hb
    subst e
    obtain ⟨o, e, c, d⟩ := st
    exact ⟨o, e, fun v z => by rw [d] at z; cases z⟩
  keep := fun i h h' st k => st.at fun o e => k it (by simp) o e
  item := by
    intro X hP hw hK hc i pins s σ H E I hf st hg
    subst hP hw hK
    obtain ⟨e, lt⟩ := hg
    obtain ⟨vs, rel, da⟩ := frz_at hdat (I.hok d _ e)
    obtain ⟨p, ep⟩ : ∃ p, kvs[i]? = some p := ⟨_, List.getElem?_eq_getElem lt⟩
    obtain ⟨v, ev⟩ := kv_at rel ep
    obtain ⟨f0, f1, f2, f3, f4, f5⟩ := hf it (by simp)
    refine wpAny_pyNext_dict_item (kvs := vs) (by rw [← rel.length]; exact st) da ev fun key h' hk st' sb => ?_
    have I1 : Inv X pins σ H { s with heap := h' } := I.turned (t' := s.toks) (fun b o hb e => (sb.2 b hb).trans e) f0 f1 f3 f4 f5
    rw [← rel.length] at st'
    obtain ⟨o, e, c, d⟩ := id st'
    exact ⟨key, rfl, go_of (s := { s with heap := h' }) e c d (by decide) ⟨kV p.1, H, I1, is_kV hk, ⟨rfl, p, ep, rfl⟩, st', fun b hb => (hf b hb).1⟩⟩
  done := by
    intro X hP hw hK hc i pins s σ H E I hf st hg
    subst hP hw hK
    obtain ⟨e, le⟩ := hg
    obtain ⟨vs, rel, da⟩ := frz_at hdat (I.hok d _ e)
    obtain ⟨f0, f1, f2, f3, f4, f5⟩ := hf it (by simp)
    exact wpAny_pyNext_dict_end (kvs := vs) (I.ok.hd hc) (by rw [← rel.length]; exact st) da (List.getElem?_eq_none (by rw [← rel.length]; exact le)) fun h' eb => ⟨rfl, I.turned (t' := s.toks) (fun b o hb e => eb b o hb e) f0 f1 f3 f4 f5⟩
  self := fun _ _ _ _ _ st h => wpAny_pyIter_keyiter st h
def tLcD (K : PySem.W.Frag) (td : TE) (src : List (Option Nat)) (g : TG) (tt : TT) (te : TE) : TE := fun σ H Q => td σ H fun x H1 => ∃ a kvs, x = .ref a ∧ H1 a = some (.dK kvs) ∧ ∀ od D, L2.new K (upd H1 a (.frz od (.dK kvs))) D →
  LcLoop (Itd a od kvs) g tt te D (fun H' => H' a = some (.frz od (.dK kvs)) ∧ Q (.ref D) (upd H' a (.dK kvs))) (pick σ src) (upd (upd H1 a (.frz od (.dK kvs))) D (.lst []))
section
variable {X : Cx} {sc : Scope} {N : List Str} {src : List (Option Nat)} {tg iter elt : Expr} {ifs : List Expr} {td : TE} {g : TG} {tt : TT} {te : TE} {pos : Pos}
theorem elcD (c : Cap X sc N src) (hc : X.calm = true) (hi : JE X iter td)
    (hg : ∀ C s H fp, JG (X.comp N sc C s H fp) tg g) (ht : ∀ C s H fp, JF (X.comp N sc C s H fp) ifs tt) (he : ∀ C s H fp, JE (X.comp N sc C s H fp) elt te)
    (hs : ∀ x, foldedSetIterable iter X.env x = pure x := by intro _; rfl) : JE X (.ListComp elt [⟨tg, iter, ifs, 0⟩] sc pos) (tLcD X.K td src g tt te) := ⟨by
  intro pins s σ H Q I h
  rw [eval_ListComp]
  refine wpAny_comprehension_free (use := none) rfl hs (closureFor_eq fun x hx hk => ?_) c.kind c.names ?_
  · obtain ⟨n, k⟩ := x
    cases hk
    exact I.ok.has _ (c.free hx)
  refine thn (hi.h pins s σ H _ I h) fun v s1 ⟨x, H1, I1, r1, q1⟩ => ?_
  obtain ⟨a, kvs, rfl, e, q⟩ := q1
  cases r1
  obtain ⟨z, hsys, vs, rel, dd⟩ := dk_of I1.hok e
  obtain ⟨ep, da⟩ := dd.dictAt
  obtain ⟨od, es, god, r1, hdat, r⟩ := id da
  refine wpAny_pyIter_dict hsys da ?_
  have If := I1.freeze e god
  have lt : a < s1.heap.objs.size := Heap.lt_size god
  have I2 : Inv X pins σ (upd H1 a (.frz od (.dK kvs))) { s1 with heap := s1.heap.push { cls := .type "dict_keyiterator", data := .fields #[.ref a, .int 0 0, .int vs.length 0, .int ep 0] } } := If.kept (t' := s1.toks) fun b o e => Heap.get?_push_of_some _ e
  have f2 : ∀ b ∈ [s1.heap.objs.size], FpOk X pins (upd H1 a (.frz od (.dK kvs))) b := fun b hb => by
    have e : b = s1.heap.objs.size := by simpa using hb
    subst e
    exact If.fpOk (Nat.le_refl _) (If.hok.fresh (Nat.le_refl _))
  refine comp_run (R := fun acc C => compPost (model X.prog X.w) X.A X.xe none (EP X pins σ Q) acc C) (Q := fun v H' => H' a = some (.frz od (.dK kvs)) ∧ Q v (upd H' a (.dK kvs))) c hc hg ht he I2 (turn_dict hdat) ⟨_, Heap.get?_push_size _ rfl, rfl, by rw [rel.length]; rfl⟩ f2 (fun D nD => q od D nD) fun D C s' σ' H' hC I' q => ?_
  obtain ⟨m, hn, _⟩ := id I'.loc
  refine ⟨m, hn, fun h' sb => ?_⟩
  have I3 := I2.unblock f2 hC I' fun b hb => sb.2 b hb
  exact ⟨.ref D, _, I3.thaw q.1 (I1.notFrz e), rfl, q.2⟩⟩
end
section
variable {prog : Program} {w : World} {A : Around} {R : Result → Shared → Prop} {s : Shared}
theorem compLoop_anyD {kx vx target iter : Expr} {ifs : List Expr} {scope : Scope} {pos : Pos} {it : Value} {D : Addr} {env : Env} (I : Nat → Shared → Prop)
    (turn : ∀ n s, I n s → wpAny (model prog w) A (pyNext it) (fun r s₁ => match r with
      | none => R (.ok .next) s₁
      | some v => wpAny (model prog w) A (letOwnedTupleGo target it v) (fun _ s₁' => wpAny (model prog w) A (assign target env v) (fun _ s₂ =>
          wpAny (model prog w) A (forIn ifs true fun c r => if r = true then do let ok ← isTrue c env (eval c env); pure (ForInStep.yield ok) else pure (ForInStep.yield r)) (fun ok s₃ =>
            if ok = true then wpAny (model prog w) A (eval kx env) (fun kv s₄ => wpAny (model prog w) A (eval vx env) (fun vv s₅ =>
              wpAny (model prog w) A (dictSet D kv vv) (fun _ s₆ => ∃ m, m < n ∧ I m s₆) F0 s₅) F0 s₄) F0 s₃
            else ∃ m, m < n ∧ I m s₃) F0 s₂) F0 s₁') F0 s₁) F0 s)
    (n : Nat) (h : I n s) :
    codeAny (model prog w) A (.compLoop (.DictComp kx vx [⟨target, iter, ifs, 0⟩] scope pos) 0 it (.ref D) env) R s := by
  refine codeAny_loop rfl I (fun n s hI => ?_) n h
  show wpAny _ A ((compTurn (.DictComp kx vx [⟨target, iter, ifs, 0⟩] scope pos) 0 it (.ref D) env).onRaise (fun x => do noteFrame x env; theTreesLotGoes x)) _ _ s
  refine wpAny_noted ?_
  rw [compTurn_dict]
  refine wpAny_bind (wpAny_standAt (wpAny_bind (wpAny_mono (turn n s hI) (fun r s₁ h₁ => ?_) fun _ _ h' => h'.elim)))
  cases r with
  | none => exact wpAny_pure h₁
  | some v =>
    refine wpAny_bind (wpAny_mono h₁ (fun _ s₁' h₁' => ?_) fun _ _ h' => h'.elim)
    refine wpAny_bind (wpAny_mono h₁' (fun _ s₂ h₂ => wpAny_bind (wpAny_mono h₂ (fun ok s₃ h₃ => ?_) fun _ _ h' => h'.elim)) fun _ _ h' => h'.elim)
    cases ok with
    | false => exact wpAny_pure ⟨rfl, h₃⟩
    | true =>
      exact wpAny_bind (wpAny_bind (wpAny_mono h₃ (fun kv s₄ h₄ => wpAny_bind (wpAny_holding (wpAny_mono h₄ (fun vv s₅ h₅ => wpAny_bind (wpAny_standAt (wpAny_holding (wpAny_mono h₅ (fun _ s₆ h₆ => wpAny_pure ⟨rfl, h₆⟩) fun _ _ h' => h'.elim)))) fun _ _ h' => h'.elim))) fun _ _ h' => h'.elim))
end
def DcLoop (J : It) (g : TG) (tt : TT) (tk tv : TE) (D : Addr) (Q : Hp → Prop) (σ : St) (H : Hp) : Prop := ∃ W : Nat → Nat → List (Key × V) → St → Hp → Prop, (∃ m, W 0 m [] σ H) ∧ ∀ i m acc σ H, W i m acc σ H →
  (J.stop i H ∧ Q H) ∨ (J.go i H ∧ ∃ N : List (Key × V) → St → Hp → Prop, (∀ acc' σ' H', N acc' σ' H' → ∃ m', m' < m ∧ W (i + 1) m' acc' σ' H') ∧ ∀ x H', J.yld i H x H' → g x σ H' fun σ2 H2 => tt σ2 H2 fun b H3 =>
    if b = true then tk σ2 H3 fun y H4 => tv σ2 H4 fun v H5 => ∃ k : Key, y = kV k ∧ H5 D = some (.dK acc) ∧ acc.length < sizeLine ∧ N (putK acc k v) σ2 (upd H5 D (.dK (putK acc k v)))
    else N acc σ2 H3)
def tDc (K : PySem.W.Frag) (wi : TI) (src : List (Option Nat)) (g : TG) (tt : TT) (tk tv : TE) : TE := fun σ H Q => wi σ H fun J H1 => ∀ D, L2.new K H1 D → DcLoop J g tt tk tv D (fun H' => Q (.ref D) H') (pick σ src) (upd H1 D (.dK []))
section
variable {X : Cx} {sc : Scope} {N : List Str} {src : List (Option Nat)} {tg iter kx vx : Expr} {ifs : List Expr} {wi : TI} {g : TG} {tt : TT} {tk tv : TE} {pos : Pos}
theorem Inv.blockO {ob : HO} {pins : List (Addr × Obj)} {σ : St} {H : Hp} {s : Shared} {fp : List Addr} {C D : Addr} {h1 : Heap} {t' : Nat} (I : Inv X pins σ H s) (c : Cap X sc N src) (hf : ∀ b ∈ fp, FpOk X pins H b) (ho : ∀ b ∈ fp, ∃ o, s.heap.get? b = some o)
    (hD : s.heap.objs.size ≤ D) (hC : s.heap.objs.size ≤ C) (hDC : D ≠ C) (k : ∀ b u, s.heap.get? b = some u → h1.get? b = some u) (hn : h1.Ns C fun _ => none) (new : ObjOk X.prog X.w (upd H D ob) h1 D ob) :
    Inv (X.comp N sc C s H fp) [] (pick σ src) (upd H D ob) { s with heap := h1, toks := t' } where
  ok := Cx.Ok.comp I c hf ho hC
  os := rfl
  bare := I.bare
  base := Un.laid k hD (I.hok.fresh hD)
  loc := by
    refine ⟨_, hn, fun i x v e1 e2 e3 => ?_⟩
    obtain ⟨j, ej, es⟩ := pick_some e2
    obtain ⟨n1, n2, n3⟩ := c.at_ e1 ej
    obtain ⟨m, _, hl⟩ := I.loc
    have vis : Vis X.env.scope x := n2.elim (fun z => .inr (.inl z)) fun z => .inr (.inr z)
    obtain ⟨u, r, q⟩ := hl j x v n1 es vis
    refine ⟨u, r, .inr ⟨relabel_free n3, ?_⟩⟩
    rcases q with ⟨z, _⟩ | ⟨_, a, ha, z⟩
    · rcases n2 with n2 | n2 <;> rw [n2] at z <;> cases z
    · obtain ⟨o, e, d⟩ := z
      exact ⟨a, clos_has (lookup_mem n3) ha, o, k _ _ e, d⟩
  cell := fun x a e => by
    obtain ⟨v, o, e, d⟩ := I.cell x a (clos_look e)
    exact ⟨v, o, k _ _ e, d⟩
  free := by
    show upd H D ob C = none
    rw [upd_ne hDC.symm]
    exact I.hok.fresh hC
  freeC := fun x a e => by
    obtain ⟨v, o, e', d⟩ := I.cell x a (clos_look e)
    rw [upd_ne (Nat.ne_of_lt (Nat.lt_of_lt_of_le (Heap.lt_size e') hD))]
    exact I.freeC x a (clos_look e)
  pin := fun p hp => nomatch hp
  hok := I.hok.laid k hD new
  len := by
    show (pick σ src).length = N.length
    rw [c.len, pick, List.length_map]
theorem d_dictSet {pins : List (Addr × Obj)} {σ : St} {H : Hp} {s : Shared} {a : Addr} {v : V} {u r : Value} {kvs : List (Key × V)} {k : Key} {A : Around} {E : Value → Shared → Prop} {Q : Unit → Shared → Prop} (I : Inv X pins σ H s) (e : H a = some (.dK kvs)) (l : kvs.length < sizeLine) (ry : RelV (kV k) u) (rv : RelV v r) (h : ∀ s', Inv X pins σ (upd H a (.dK (putK kvs k v))) s' → Q () s') :
    wpAny (model X.prog X.w) A (dictSet a u r) Q E s := by
  obtain ⟨z, hd, vs, rel, dd⟩ := dk_of I.hok e
  have hz : vs.length ≤ sizeLine := by rw [← rel.length]; exact z
  have hl : (putK kvs k v).length ≤ sizeLine := by have := length_putK kvs k v; omega
  refine wpAny_dictSet_pairs (kV_is ry) dd (fun h' dd' hs => h _ ?_) hz
  have he : ∃ q, h'.get? a = some q := let ⟨q, _, _, hq, _⟩ := dd'; ⟨q, hq⟩
  exact d_write I (by rw [e]; exact True.intro) hs he (dk_new hl hd (rel.put k rv) dd')
theorem dcomp_run {R : Value → Addr → Result → Shared → Prop} {E : Value → Shared → Prop} (c : Cap X sc N src) (hc : X.calm = true)
    (hg : ∀ C s H fp, JG (X.comp N sc C s H fp) tg g) (ht : ∀ C s H fp, JF (X.comp N sc C s H fp) ifs tt) (hk : ∀ C s H fp, JE (X.comp N sc C s H fp) kx tk) (hv : ∀ C s H fp, JE (X.comp N sc C s H fp) vx tv)
    {pins : List (Addr × Obj)} {σ : St} {H : Hp} {s : Shared} {it : Addr} {fp : List Addr} {tn : Nat → Heap → Prop} {J : It} {Q : V → Hp → Prop} (I : Inv X pins σ H s) (T : Turn X.prog X.w X.K tg J fp it tn) (st : tn 0 s.heap) (hf : ∀ b ∈ fp, FpOk X pins H b)
    (h : ∀ D, L2.new X.K H D → DcLoop J g tt tk tv D (fun H' => Q (.ref D) H') (pick σ src) (upd H D (.dK [])))
    (hR : ∀ D C s' σ' H', s.heap.objs.size ≤ C → Inv (X.comp N sc C s H fp) [] σ' H' s' → Q (.ref D) H' → R (.ref D) C (.ok .next) s') :
    wpAny (model X.prog X.w) X.A newDict (fun acc s₃ => wpAny (model X.prog X.w) X.A (newFunctionEnv sc X.env.globals (closL X.env sc.names []) [] X.env.qual none .none (some X.env)) (fun cenv s₄ =>
      codeAny (model X.prog X.w) X.A (.compStart (.DictComp kx vx [⟨tg, iter, ifs, 0⟩] sc pos) 0 (.ref it) acc { cenv with scope := relabel sc X.env }) (R acc cenv.locals) s₄) E s₃) E s := by
  refine wpAny_newObj_type (wpAny_newFunctionEnv c.cell (by intro y hy; simp at hy) (fun h₁ hns₁ hsb₁ => ?_) c.kind)
  dsimp only at hns₁ hsb₁ ⊢
  have hD0 : (s.heap.push { cls := .type "dict", dict := none, data := .dict #[] }).DictOf (mixKind X.prog X.w) s.heap.objs.size [] := Heap.DictOf.new s.heap
  generalize hH2 : s.heap.push { cls := .type "dict", dict := none, data := .dict #[] } = H2 at hns₁ hsb₁ hD0 ⊢
  have hC : H2.objs.size = s.heap.objs.size + 1 := by rw [← hH2, Heap.size_push]
  have hDC : s.heap.objs.size ≠ H2.objs.size := by rw [hC]; exact Nat.ne_of_lt (Nat.lt_succ_self _)
  have hCle : s.heap.objs.size ≤ H2.objs.size := by rw [hC]; exact Nat.le_succ _
  have below : ∀ b, b < s.heap.objs.size → b ≠ H2.objs.size := fun b hb => by rw [hC]; exact Nat.ne_of_lt (Nat.lt_succ_of_lt hb)
  have old : ∀ b o, s.heap.get? b = some o → h₁.get? b = some o := fun b o e => hsb₁.extBut b o (below b (Heap.lt_size e)) (Heap.get?_push_of_some _ (hH2 ▸ Heap.get?_push_of_some _ e))
  have hacc : h₁.DictOf (mixKind X.prog X.w) s.heap.objs.size [] := hD0.at fun o e => hsb₁.extBut _ _ hDC (Heap.get?_push_of_some _ e)
  have ho : ∀ b ∈ fp, ∃ o, s.heap.get? b = some o := fun b hb => let ⟨o, e, _⟩ := T.obj _ _ st b hb; ⟨o, e⟩
  have I0 := I.blockO (ob := .dK []) (t' := s.toks + ([] : List (Str × Value)).length) c hf ho (Nat.le_refl _) hCle hDC old hns₁ (dk_new (Nat.zero_le _) (beq_eq_false_iff_ne.mpr (Ne.symm (Nat.ne_of_lt I.big))) (show KV [] [] from .nil) hacc)
  have st0 : tn 0 h₁ := T.keep _ _ _ st fun b hb o e => old b o e
  have nD : L2.new X.K H s.heap.objs.size := I.new
  obtain ⟨W, ⟨m0, w0⟩, turn⟩ := h _ nD
  have stat : ∀ {H' : Hp}, (∀ b ∈ fp, H' b = none) → ∀ b ∈ fp, FpOk (X.comp N sc H2.objs.size s H fp) [] H' b := fun hn b hb => by
    obtain ⟨f0, f1, f2, f3, f4, f5⟩ := hf b hb
    obtain ⟨o, e⟩ := ho b hb
    refine ⟨hn b hb, below b (Heap.lt_size e), fun z => ?_, .inl hb, fun x a q => f4 x a (clos_look q), fun p hp => nomatch hp⟩
    rcases List.mem_cons.mp (I.stkSub b z) with q | q
    · exact f1 q
    · exact f2 q
  have fr0 : ∀ b ∈ fp, (upd H s.heap.objs.size (.dK [])) b = none := fun b hb => by
    obtain ⟨o, e⟩ := ho b hb
    rw [upd_ne (Nat.ne_of_lt (Heap.lt_size e))]
    exact (hf b hb).1
  have loop : ∀ s₃ : Shared, s₃ = { s with heap := h₁, toks := s.toks + ([] : List (Str × Value)).length } →
      codeAny (model X.prog X.w) X.A (.compLoop (.DictComp kx vx [⟨tg, iter, ifs, 0⟩] sc pos) 0 (.ref it) (.ref s.heap.objs.size) (compEnvC sc (closL X.env sc.names []) H2.objs.size X.env)) (R (.ref s.heap.objs.size) H2.objs.size) s₃ := by
    rintro s₃ rfl
    refine compLoop_anyD (fun n s' => ∃ i acc σ' H', Inv (X.comp N sc H2.objs.size s H fp) [] σ' H' s' ∧ tn i s'.heap ∧ (∀ b ∈ fp, H' b = none) ∧ W i n acc σ' H') ?_ m0 ⟨0, _, _, _, I0, st0, fr0, w0⟩
    rintro n s3 ⟨i, acc, σ3, H3, I3, st3, fr3, w3⟩
    rcases turn i n acc σ3 H3 w3 with ⟨stop, qn⟩ | ⟨go, NN, hNN, step⟩
    · refine thn (T.done (X.comp N sc H2.objs.size s H fp) rfl rfl rfl hc i [] s3 σ3 H3 F0 I3 (stat fr3) st3 stop) fun r s4 ⟨hr, I4⟩ => ?_
      subst hr
      exact hR _ _ _ _ _ hCle I4 qn
    · refine thn (T.item (X.comp N sc H2.objs.size s H fp) rfl rfl rfl hc i [] s3 σ3 H3 F0 I3 (stat fr3) st3 go) fun r s4 ⟨u, hr, h4⟩ => ?_
      subst hr
      refine thn h4 fun _ s5 ⟨x, H5, I5, r5, y5, st5, fr5⟩ => ?_
      have I5' := I5.pinned (stat fr5) (T.obj _ _ st5)
      refine thn ((hg _ _ _ _).h _ s5 σ3 H5 x u _ I5' r5 (step x H5 y5)) fun _ s6 ⟨σ6, H6, I6, q6⟩ => ?_
      refine thn ((ht _ _ _ _).h _ s6 σ6 H6 _ I6 q6) fun b s7 ⟨H7, I7, q7⟩ => ?_
      have again : ∀ {acc8 : List (Key × V)} {s8 : Shared} {H8 : Hp}, Inv (X.comp N sc H2.objs.size s H fp) ([] ++ pinsAt fp s5.heap) σ6 H8 s8 → NN acc8 σ6 H8 → ∃ m, m < n ∧ ∃ i acc σ' H', Inv (X.comp N sc H2.objs.size s H fp) [] σ' H' s8 ∧ tn i s8.heap ∧ (∀ b ∈ fp, H' b = none) ∧ W i m acc σ' H' := fun {acc8 s8 H8} I8 w => by
        obtain ⟨m', hm, w8⟩ := hNN _ _ _ w
        refine ⟨m', hm, i + 1, acc8, σ6, H8, I8.unpinned, T.keep _ _ _ st5 fun b hb o e => (I8.pin (b, o) (List.mem_append_right _ (List.mem_append_right _ (mem_pinsAt hb e)))).1, fun b hb => ?_, w8⟩
        obtain ⟨o, e, d⟩ := T.obj _ _ st5 b hb
        exact (I8.pin (b, o) (List.mem_append_right _ (List.mem_append_right _ (mem_pinsAt hb e)))).2.1
      cases b with
      | false => exact again I7 q7
      | true =>
        refine thn ((hk _ _ _ _).h _ s7 σ6 H7 _ I7 q7) fun yk s8 ⟨y, H8, I8, r8, q8⟩ => ?_
        refine thn ((hv _ _ _ _).h _ s8 σ6 H8 _ I8 q8) fun yv s9 ⟨v, H9, I9, r9, q9⟩ => ?_
        obtain ⟨k, rfl, hx, hz, w9⟩ := q9
        exact d_dictSet (X := X.comp N sc H2.objs.size s H fp) I9 hx hz r8 r9 fun s10 I10 => again I10 w9
  exact codeAny_compStart_dict (loop _ rfl) (T.self _ 0 _ _ _ st0 (loop _ rfl))
theorem eval_DictComp {env : Env} (k v gens scope pos) : eval (.DictComp k v gens scope pos) env =
    comprehension (.DictComp k v gens scope pos) scope env (firstIterPos gens pos) newDict (firstAsync gens) (firstIter gens env) := rfl
theorem edc (c : Cap X sc N src) (hc : X.calm = true) (hi : JI X tg iter wi)
    (hg : ∀ C s H fp, JG (X.comp N sc C s H fp) tg g) (ht : ∀ C s H fp, JF (X.comp N sc C s H fp) ifs tt) (hk : ∀ C s H fp, JE (X.comp N sc C s H fp) kx tk) (hv : ∀ C s H fp, JE (X.comp N sc C s H fp) vx tv)
    (hs : ∀ x, foldedSetIterable iter X.env x = pure x := by intro _; rfl) : JE X (.DictComp kx vx [⟨tg, iter, ifs, 0⟩] sc pos) (tDc X.K wi src g tt tk tv) := ⟨by
  intro pins s σ H Q I h
  rw [eval_DictComp]
  refine wpAny_comprehension_free (use := none) rfl hs (closureFor_eq fun x hx hk => ?_) c.kind c.names ?_
  · obtain ⟨n, k⟩ := x
    cases hk
    exact I.ok.has _ (c.free hx)
  refine thn (hi.h pins s σ H _ I h) fun v s1 h1 => thn h1 fun itv s2 h2 => ?_
  obtain ⟨it, fp, tn, J, H2, e, I2, T, st2, f2, h2⟩ := h2
  subst e
  refine dcomp_run (R := fun acc C => compPost (model X.prog X.w) X.A X.xe none (EP X pins σ Q) acc C) (Q := Q) c hc hg ht hk hv I2 T st2 f2 h2 fun D C s' σ' H' hC I' q => ?_
  obtain ⟨m, hn, _⟩ := id I'.loc
  refine ⟨m, hn, fun h' sb => ?_⟩
  exact ⟨.ref D, H', I2.unblock f2 hC I' fun b hb => sb.2 b hb, rfl, q⟩⟩
end
end L2
set_option Elab.async false
set_option linter.all false
set_option maxRecDepth 100000
set_option maxHeartbeats 4000000
namespace L2
open PySem PySem.Spec PyProof.Rows
section
variable {P : Program} {w : World} {A : Around} {E : Value → Shared → Prop} {s : Shared} {S : Addr} {vs : List (Key × Value)} {ep : Nat}
theorem collect_dict (calm : A.handled = none) (hsys : (S == sysModules) = false) (da : s.heap.DictAt (mixKind P w) S vs ep) (few : vs.length ≤ 1000) {Q : List Value → Shared → Prop}
    (q : ∀ (us : List Value) (s' : Shared), us.length = vs.length → (∀ (i : Nat) (u : Value), us[i]? = some u → ∃ k v, vs[i]? = some (k, v) ∧ (mixKind P w).is k u = true) → s'.gens = s.gens → s'.os = s.os → (∀ b o, s.heap.get? b = some o → s'.heap.get? b = some o) → s.heap.objs.size ≤ s'.heap.objs.size → Q us s') :
    wpAny (model P w) A (collect (.ref S)) Q E s := by
  obtain ⟨o, es, g, ex, d⟩ := id da
  have ltS : S < s.heap.objs.size := Heap.lt_size g
  have line : vs.length ≤ sizeLine := Nat.le_trans few (by decide)
  unfold collect
  refine wpAny_bind (wpAny_runValue (codeAny_builtin PySem.F.entry_proto_collect ?_))
  rw [Around.under_plainId PySem.F.plain_proto_collect _]
  show wpAny _ A.in1 (newList [] >>= fun l => again (.builtin "list.__iadd__" ⟨[l, .ref S], []⟩)) _ _ s
  refine wpAny_bind (wpAny_newObj_type (wpAny_pure ⟨plainId_quiet PySem.F.plain_list_iadd _, codeAny_builtin PySem.F.entry_list_iadd ?_⟩))
  rw [Around.under_plainId PySem.F.plain_list_iadd _]
  have gD : (s.heap.push { cls := .type "list", data := .seq ([] : List Value).toArray }).get? s.heap.objs.size = some { cls := .type "list", data := .seq ([] : List Value).toArray } := Heap.get?_push_size _ rfl
  have da1 : (s.heap.push { cls := .type "list", data := .seq ([] : List Value).toArray }).DictAt (mixKind P w) S vs ep := da.push _
  have szD : (s.heap.push { cls := .type "list", data := .seq ([] : List Value).toArray }).objs.size = s.heap.objs.size + 1 := Heap.size_push ..
  show wpAny _ A.in1 (Builtin.List.listExtendWith (.ref s.heap.objs.size) (.ref S) (.ref s.heap.objs.size)) _ _ { s with heap := s.heap.push { cls := .type "list", data := .seq ([] : List Value).toArray } }
  have ty1 : Shared.TypeIs { s with heap := s.heap.push { cls := .type "list", data := .seq ([] : List Value).toArray } } (.ref S) "dict" := da1.dictOf.typeIs
  have apart : Builtin.List.listSameRef (.ref s.heap.objs.size) (.ref S) = false := by
    simp only [Builtin.List.listSameRef, beq_eq_false_iff_ne]
    exact Nat.ne_of_gt ltS
  unfold Builtin.List.listExtendWith
  refine wpAny_bind (wpAny_typeOf ty1 ?_)
  rw [if_neg (by rw [apart]; decide)]
  refine wpAny_bind (wpAny_pyIter_dict hsys da1 ?_)
  generalize hH : (s.heap.push { cls := .type "list", data := .seq ([] : List Value).toArray }) = h1 at gD da1 szD ty1 ⊢
  have da2 : (h1.push { cls := .type "dict_keyiterator", data := .fields #[.ref S, .int 0 0, .int vs.length 0, .int ep 0] }).DictAt (mixKind P w) S vs ep := da1.push _
  have gD2 : (h1.push { cls := .type "dict_keyiterator", data := .fields #[.ref S, .int 0 0, .int vs.length 0, .int ep 0] }).get? s.heap.objs.size = some { cls := .type "list", data := .seq ([] : List Value).toArray } := Heap.get?_push_of_some _ gD
  have gI : (h1.push { cls := .type "dict_keyiterator", data := .fields #[.ref S, .int 0 0, .int vs.length 0, .int ep 0] }).IsKeyIter h1.objs.size S 0 vs.length ep := ⟨_, Heap.get?_push_size _ rfl, rfl, rfl⟩
  have ty2 : Shared.TypeIs { s with heap := h1.push { cls := .type "dict_keyiterator", data := .fields #[.ref S, .int 0 0, .int vs.length 0, .int ep 0] } } (.ref S) "dict" := da2.dictOf.typeIs
  have kp2 : ∀ b o, s.heap.get? b = some o → (h1.push { cls := .type "dict_keyiterator", data := .fields #[.ref S, .int 0 0, .int vs.length 0, .int ep 0] }).get? b = some o := fun b o e => Heap.get?_push_of_some _ (hH ▸ Heap.get?_push_of_some _ e)
  show wpAny _ _ _ _ _ { s with heap := h1.push { cls := .type "dict_keyiterator", data := .fields #[.ref S, .int 0 0, .int vs.length 0, .int ep 0] } }
  generalize (h1.push { cls := .type "dict_keyiterator", data := .fields #[.ref S, .int 0 0, .int vs.length 0, .int ep 0] }) = h2 at da2 gD2 gI ty2 kp2 ⊢
  refine wpAny_bind (wpAny_holding ?_)
  unfold Builtin.List.listLengthHint
  refine wpAny_bind (wpAny_specialOf (name := Str.ofString "__len__") ty2 PySem.F.slot_dict_len.lookup ?_)
  wp_delta
  refine wpAny_bind (wpAny_isInstance (T := "dict") (b := true) ty2 (by rw [isSubtype_type]; kernel_rfl) ?_)
  show wpAny _ _ (typeOf (Value.ref S) >>= _) _ _ _
  refine wpAny_bind (wpAny_typeOf ty2 ?_)
  refine wpAny_pure ?_
  rw [if_pos (by decide)]
  refine wpAny_bind (wpAny_rule ?_)
  have nDS : s.heap.objs.size ≠ S := Nat.ne_of_gt ltS
  have nDI : s.heap.objs.size ≠ h1.objs.size := by rw [szD]; exact Nat.ne_of_lt (Nat.lt_succ_self _)
  refine wpAny_bind ?_
  show wpAny _ A.in1 (updateSeq s.heap.objs.size (·.push .none) >>= fun _ => updateSeq s.heap.objs.size (·.pop)) _ _ _
  refine wpAny_bind (wpAny_updateSeq gD2 rfl ?_)
  have gD3 := Heap.get?_update_self (Obj.mapSeq (·.push Value.none)) gD2 rfl
  refine wpAny_updateSeq gD3 rfl ?_
  have gD4 := Heap.get?_update_self (Obj.mapSeq (·.pop)) gD3 rfl
  have other : ∀ b o, b ≠ s.heap.objs.size → h2.get? b = some o → ((h2.update s.heap.objs.size (Obj.mapSeq (·.push Value.none))).update s.heap.objs.size (Obj.mapSeq (·.pop))).get? b = some o :=
    fun b o hb e => (Heap.get?_update_other _ _ (Ne.symm hb)).trans ((Heap.get?_update_other _ _ (Ne.symm hb)).trans e)
  have neI : S ≠ h1.objs.size := Nat.ne_of_lt (by rw [szD]; exact Nat.lt_succ_of_lt ltS)
  refine wpAny_pure ⟨plainId_quiet PySem.F.plain_extend_loop _, codeAny_extend_loopS ((Walks.dictKeys (knd := mixKind P w) (A := A.in1) (by simpa using calm) h1.objs.size S neI vs ep).toS) line _ (by simp only [List.mem_cons, List.not_mem_nil, or_false, not_or]; exact ⟨nDI, nDS⟩) _ vs.length 0 _ _ _ rfl (Nat.zero_le _) ⟨gI.at fun o e => other _ o (Ne.symm nDI) e, da2.at' fun o e => other _ o (Ne.symm nDS) e⟩ gD4 (ItemsOf.nil _) fun s3 acc c mv gD5 its => ?_⟩
  show wpAny _ A (load s.heap.objs.size >>= _) _ _ s3
  refine wpAny_bind (wpAny_load gD5 ?_)
  refine wpAny_pure (q _ _ (by rw [Array.length_toList]; exact its.1) (fun i u e => ?_) mv.gens mv.os (fun b ob e => ?_) (Nat.le_of_lt (Heap.lt_size gD5)))
  · rw [Array.getElem?_toList] at e
    exact its.2 i u e
  · have lt : b < s.heap.objs.size := Heap.lt_size e
    refine mv.heap b ob (fun z => ?_) (other b ob (Nat.ne_of_lt lt) (kp2 b ob e))
    rcases List.mem_cons.mp z with z | z
    · exact Nat.ne_of_lt lt z
    · have zi : b = h1.objs.size := by simpa using z
      subst zi
      rw [szD] at lt
      exact Nat.lt_irrefl _ (Nat.lt_of_succ_lt lt)
theorem ints_of : ∀ {us : List Value} {ns : List Int}, us.length = ns.length → (∀ (i : Nat) (u : Value), us[i]? = some u → ∃ n t, ns[i]? = some n ∧ u = .int n t) → IntsAre us ns
  | [], [], _, _ => .nil
  | [], _ :: _, h, _ => by simp at h
  | _ :: _, [], h, _ => by simp at h
  | u :: us, n :: ns, h, f => by
    obtain ⟨n', t, e, rfl⟩ := f 0 u rfl
    cases e
    exact .cons n t (ints_of (by simpa using h) fun i u e => f (i + 1) u (by simpa using e))
theorem sorted_dict (calm : A.handled = none) (hsys : (S == sysModules) = false) (da : s.heap.DictAt (mixKind P w) S vs ep) {ns : List Int} (hk : vs.map (·.1) = ns.map Sum.inl) (few : ns.length < 64) {R : Value → Shared → Prop}
    (q : ∀ (D : Addr) (out : List Value) (ks : List Int) (m : Nat) (s' : Shared), IntsAre out ks → ks.Pairwise (· < ·) → (∀ k, k ∈ ks ↔ k ∈ ns) → ks.length = ns.length → s'.gens = s.gens → s'.os = s.os → (∀ b o, s.heap.get? b = some o → s'.heap.get? b = some o) → s.heap.objs.size ≤ D → s'.heap.get? D = some (seqObj "list" out.toArray m) → R (.ref D) s') :
    wpAny (model P w) A (call (.builtin "sorted") [.ref S]) R E s := by
  have lv : vs.length = ns.length := by have := congrArg List.length hk; simpa using this
  have nd : ns.Nodup := by
    have := da.nodup
    rw [hk] at this
    exact (List.pairwise_map.mp this).imp fun z e => z (by rw [e])
  refine Calls.call_function_entry kind_sorted plain_sorted entry_sorted (args_sorted1 _) ?_
  unfold Builtin.«sorted»
  refine wpAny_bind (m := checkCount "sorted" 1 1 _) (wpAny_pure ?_)
  refine wpAny_bind (collect_dict (A := A.in1) (by simpa using calm) hsys da (by omega) fun us s2 lu hu e1 e2 kp big => ?_)
  have i1 : IntsAre us ns := ints_of (by omega) fun i u e => by
    obtain ⟨k, v, ev, hk'⟩ := hu i u e
    have z : (vs.map (·.1))[i]? = some k := by rw [List.getElem?_map, ev]; rfl
    rw [hk, List.getElem?_map] at z
    obtain ⟨n, en, rfl⟩ := Option.map_eq_some_iff.mp z
    obtain ⟨t, rfl⟩ := (show ∃ t, u = Value.int n t from is_kV hk')
    exact ⟨n, t, en, rfl⟩
  have fU : us.length ≤ sizeLine := by rw [lu, lv]; exact Nat.le_trans (Nat.le_of_lt few) (by decide)
  refine wpAny_bind (wpAny_newList ?_ fU)
  have g2 : (s2.heap.push (seqObj "list" us.toArray 0)).get? s2.heap.objs.size = some (seqObj "list" us.toArray 0) := Heap.get?_push_size _ rfl
  show wpAny _ _ _ _ _ { s2 with heap := s2.heap.push (seqObj "list" us.toArray 0) }
  refine wpAny_bind (wpAny_holding (wpAny_call_entry slot_list_sort ⟨_, g2, rfl⟩ entry_list_sort (list_sort_tree g2 i1 (by omega) fun out ks' a1 a2 a3 => ⟨_, rfl, ?_⟩) (args_list_sort _)))
  obtain ⟨m, g3⟩ := sortedHeap_at (out := out) g2
  refine wpAny_pure ⟨_, rfl, q s2.heap.objs.size out.toList ks' m _ a1 ?_ (fun k => a2.mem_iff) a2.length_eq e1 e2 (fun b o z => ?_) big (by simpa using g3)⟩
  · have nd' : ks'.Nodup := a2.nodup_iff.mpr nd
    have both := List.Pairwise.and a3 nd'
    exact both.imp fun z => by omega
  · have lt : b < s2.heap.objs.size := Heap.lt_size (kp b o z)
    have lt' : b < (s2.heap.push (seqObj "list" us.toArray 0)).objs.size := by rw [Heap.size_push]; exact Nat.lt_succ_of_lt lt
    exact (sortedHeap_old (Nat.ne_of_lt lt) lt').trans (Heap.get?_push_of_some _ (kp b o z))
end
section
variable {X : Cx}
def dI (L : List (Int × V)) : List (Key × V) := L.map fun q => (.inl q.1, q.2)
theorem call_sortedD (hc : X.calm = true) : CallR X (.builtin "sorted") (fun xs H Q => ∃ (a : Addr) (L : List (Int × V)), xs = [.ref a] ∧ H a = some (.dK (dI L)) ∧ L.length < 64 ∧
    ∀ (D : Addr) (ks : List Int), L2.new X.K H D → ks.Pairwise (· < ·) → (∀ k, k ∈ ks ↔ k ∈ L.map (·.1)) → ks.length = L.length → Q (.ref D) (upd H D (.lst (ks.map V.int)))) := by
  intro pins s σ H xs us Q I r h
  obtain ⟨a, L, rfl, e, few, q⟩ := h
  obtain ⟨u, rfl, ru⟩ := vals1 r
  cases ru
  obtain ⟨z, hsys, vs, rel, dd⟩ := dk_of I.hok e
  obtain ⟨ep, da⟩ := dd.dictAt
  have hk : vs.map (·.1) = (L.map (·.1)).map Sum.inl := by
    rw [← rel.keys, dI, List.map_map, List.map_map]
    rfl
  refine sorted_dict (I.ok.hd hc) hsys da hk (by simpa using few) fun D out ks m s3 i1 up mem len e1 e2 kp3 big g => ?_
  rw [List.length_map] at len
  have lk : ks.length ≤ sizeLine := by rw [len]; exact Nat.le_trans (Nat.le_of_lt few) (by decide)
  have I3 : Inv X pins σ (upd H D (.lst (ks.map V.int))) { s with heap := s3.heap, toks := s3.toks } := I.laid (t' := s3.toks) (o := .lst (ks.map V.int)) kp3 big ⟨by rw [List.length_map]; exact lk, out, m, ints_vals i1, by simpa [seqObj] using g⟩
  have I4 := I3.like (s' := s3) e1 e2 rfl
  exact ⟨.ref D, _, I4, rfl, q D ks ⟨I.hok.fresh big, I4.notMod upd_same⟩ up mem len⟩
theorem edget2 {o e f : Expr} {td ty tx : TE} {apos cpos : Pos} (hu : X.A.units + 64 < cLine) (ho : JE X o td) (he : JE X e ty) (hf : JE X f tx) (m : M2 X o "get" apos e f cpos) : JE X (.Call (.Attribute o "get" apos) [e, f] [] cpos) (tDGet2 td ty tx) := ⟨pe_dget2 (by omega) ho.h he.h hf.h m⟩
theorem sdput {o i value : Expr} {td ty tv : TE} {pos pos' : Pos} (hu : X.A.units + 64 < cLine) (ho : JE X o td) (hi : JE X i ty) (hv : JE X value tv) (hs : swapsWith value (some (.Subscript o i pos')) pos.line X.env = pure false := by rfl) : JS X (.Assign [.Subscript o i pos'] value pos) (sDPut td ty tv) := ⟨ps_dput (by omega) ho.h hi.h hv.h hs⟩
theorem lcd_filter {a D : Addr} {od : Obj} {L : List (Int × V)} {tt : TT} {rest : St} {v0 : Option V} {H : Hp} {Q : Hp → Prop} (p : Int → Bool) (ea : H a = some (.frz od (.dK (dI L)))) (hD : H D = none) (few : L.length ≤ 1000)
    (ht : ∀ (k : Int) (H' : Hp) (R : Bool → Hp → Prop), R (p k) H' → tt (some (.int k) :: rest) H' R) (fin : Q (upd H D (.lst (((L.map (·.1)).filter p).map V.int)))) : LcLoop (Itd a od (dI L)) (gName 0) tt (tVar 0) D Q (v0 :: rest) (upd H D (.lst [])) := by
  have ne : a ≠ D := ne_of_none ea hD
  have lI : (dI L).length = L.length := by simp [dI]
  refine lc_run (n := L.length) (fun i acc σ' H' => ∃ v0, σ' = v0 :: rest ∧ acc = (((L.take i).map (·.1)).filter p).map V.int ∧ H' = upd H D (.lst acc)) ⟨_, rfl, rfl, rfl⟩ ?_ ?_ ?_ ?_
  · rintro i acc σ' H' hi ⟨v0, rfl, rfl, rfl⟩
    exact ⟨by rw [upd_ne ne]; exact ea, by omega⟩
  · rintro acc σ' H' ⟨v0, rfl, rfl, rfl⟩
    exact ⟨by rw [upd_ne ne]; exact ea, by omega⟩
  · rintro i acc σ' H' x H'' hi ⟨v0, rfl, rfl, rfl⟩ ⟨rfl, q, eq, rfl⟩
    rw [dI, List.getElem?_map] at eq
    obtain ⟨q', eq', rfl⟩ := Option.map_eq_some_iff.mp eq
    show tt (some (.int q'.1) :: rest) _ _
    have et : ((L.take (i + 1)).map (·.1)).filter p = ((L.take i).map (·.1)).filter p ++ [q'.1].filter p := by
      rw [List.take_add_one, eq', Option.toList_some, List.map_append, List.filter_append]
      rfl
    refine ht q'.1 _ _ ?_
    have lim : ((((L.take i).map (·.1)).filter p).map V.int).length ≤ 1000 := by
      rw [List.length_map]
      have := List.length_filter_le p ((L.take i).map (·.1))
      rw [List.length_map, List.length_take] at this
      omega
    by_cases c : p q'.1 = true
    · rw [if_pos c]
      refine ⟨_, rfl, upd_same, Nat.lt_of_le_of_lt lim (by decide), _, rfl, ?_, by rw [upd_upd]⟩
      rw [et, List.filter_cons_of_pos c, List.filter_nil, List.map_append]
      rfl
    · rw [if_neg c]
      exact ⟨_, rfl, by rw [et, List.filter_cons_of_neg c, List.filter_nil, List.append_nil], rfl⟩
  · rintro acc σ' H' ⟨v0, rfl, rfl, rfl⟩
    rw [List.take_length]
    exact fin
end
end L2
set_option Elab.async false
set_option linter.all false
set_option maxRecDepth 100000
set_option maxHeartbeats 4000000
namespace K26
open PySem L2
local macro_rules | `(tactic| walk_at "rd") => `(tactic| simp only [tSeq, tNext, tIfS, tAsg, gName, gSub, tRet, tRetN, tDrop, tVar, tC, tOp, tUn, rI0, rI, rU, tTest, tB, tAndV, tOrV, tNotV, tAnd, tOr, tNot, tIf, tChain, tCB, tCons, tNil, tLst, tTup, tCallC, List.getElem?_cons_zero, List.getElem?_cons_succ, List.set_cons_zero, List.set_cons_succ, Option.some.injEq, V.int.injEq, V.bl.injEq, V.ref.injEq, V.ty.injEq, V.str.injEq, List.cons.injEq, exists_eq_left', exists_eq_left, exists_and_left, and_true, true_and, and_assoc, cxK, rIxF, rSetL, rEq, rNe, scal, HO.lst.injEq, HO.tup.injEq, upd_none, ixN_10, ixN_20, ixN_21, ixN_30, ixN_31, ixN_32, upd_same, seqAt_updL, seqAt_updT, atI_0, atI_1, atI_2, atI_3, decide_eq_true_eq, L2.start, List.map_cons, List.map_nil, List.length_cons, List.length_nil, Nat.reduceAdd, Nat.reduceSub, List.replicate_succ, List.replicate_zero, List.cons_append, List.nil_append, List.append_nil, tFor_rng1, tFor_rng2, tFor_list, tFor_tup, CDv, CMul, CPow, sizeLine_eq, Int.reduceLE, Int.reduceLT, Int.reducePow, Int.reduceToNat, Int.reduceAdd, Int.reduceSub, Int.reduceMul, Int.reduceNeg, Nat.reduceLeDiff, Nat.reducePow, Nat.reduceLT, Int.reduceEq, true_or, or_true, ite_true, ite_false, if_true, if_false, Bool.not_true, Bool.not_false, Bool.false_eq_true, decide_true, decide_false, rIxQ, seqQ_updL, seqQ_updT, tupQ_updT, tSl, tNoPart, tPart, rSlQ, rCatQ, tTupQ, tLstQ, new_upd, tNever, rEqD, rInQ, gTupQ, gCons, gNil, tBM, rAppend, rSlTQ, gSlice, tLc2_list, bodyL_tup, bodyL_list, bodyE_eq, tDGet, tLcD, tDGet2, sDPut, tFor_rng3, tLc_rng1, tLc_rng2, tLc_list, tLc_tup, tLc_enum, pick_nil, pick_own, pick_cap, join_some, tYes, tCallKC, gk_11, gk_31, tSortSet, tFor_zip, tAug, ipI])
local macro_rules | `(tactic| walk_at "rn") => `(tactic| simp only [tSeq, tNext, tIfS, tAsg, gName, gSub, tRet, tRetN, tDrop, tVar, tC, tOp, tUn, rI0, rI, rU, tTest, tB, tAndV, tOrV, tNotV, tAnd, tOr, tNot, tIf, tChain, tCB, tCons, tNil, tLst, tTup, tCallC, List.getElem?_cons_zero, List.getElem?_cons_succ, List.set_cons_zero, List.set_cons_succ, Option.some.injEq, V.int.injEq, V.bl.injEq, V.ref.injEq, V.ty.injEq, V.str.injEq, List.cons.injEq, exists_eq_left', exists_eq_left, exists_and_left, and_true, true_and, and_assoc, cxK, rIxF, rSetL, rEq, rNe, scal, HO.lst.injEq, HO.tup.injEq, upd_none, ixN_10, ixN_20, ixN_21, ixN_30, ixN_31, ixN_32, upd_same, seqAt_updL, seqAt_updT, atI_0, atI_1, atI_2, atI_3, decide_eq_true_eq, L2.start, List.map_cons, List.map_nil, List.length_cons, List.length_nil, Nat.reduceAdd, Nat.reduceSub, List.replicate_succ, List.replicate_zero, List.cons_append, List.nil_append, List.append_nil, tFor_rng1, tFor_rng2, tFor_list, tFor_tup, CDv, CMul, CPow, sizeLine_eq, Int.reduceLE, Int.reduceLT, Int.reducePow, Int.reduceToNat, Int.reduceAdd, Int.reduceSub, Int.reduceMul, Int.reduceNeg, Nat.reduceLeDiff, Nat.reducePow, Nat.reduceLT, Int.reduceEq, true_or, or_true, ite_true, ite_false, if_true, if_false, Bool.not_true, Bool.not_false, Bool.false_eq_true, decide_true, decide_false, rIxQ, seqQ_updL, seqQ_updT, tupQ_updT, tSl, tNoPart, tPart, rSlQ, rCatQ, tTupQ, tLstQ, tNever, rEqD, rInQ, gTupQ, gCons, gNil, tBM, rAppend, rSlTQ, gSlice, tLc2_list, bodyL_tup, bodyL_list, bodyE_eq, tDGet, tLcD, tDGet2, sDPut, tFor_rng3, tLc_rng1, tLc_rng2, tLc_list, tLc_tup, tLc_enum, pick_nil, pick_own, pick_cap, join_some, tYes, tCallKC, gk_11, gk_31, tSortSet, tFor_zip, tAug, ipI])
def top (i : Nat) : Stmt := PySem.Challenge.pw_notefall_k26_whole_leaves_whichever_way.main.body.getD i (.Pass ⟨0, 0, 0, 0⟩)
abbrev s_half_acts : Stmt := top 3
abbrev s_does : Stmt := top 4
abbrev s_half_behind : Stmt := top 5
abbrev s_joined : Stmt := top 6
abbrev s_have_common : Stmt := top 8
abbrev s_cut : Stmt := top 9
abbrev s_reached : Stmt := top 10
abbrev s_value_of : Stmt := top 12
abbrev s_put_behind : Stmt := top 13
abbrev s_rows_behind : Stmt := top 14
abbrev s_sights_of : Stmt := top 15
abbrev s_swept_versions : Stmt := top 16
abbrev s_swept : Stmt := top 17
abbrev s_within : Stmt := top 19
abbrev s_without : Stmt := top 20
abbrev s_last_sharing : Stmt := top 21
abbrev s_may_join : Stmt := top 22
abbrev s_laid : Stmt := top 23
abbrev s_poured : Stmt := top 24
abbrev s__law_cell_at : Stmt := top 26
abbrev s__law_well : Stmt := top 27
abbrev s__law_draw : Stmt := top 28
abbrev s__law_value : Stmt := top 29
abbrev s__law_base : Stmt := top 33
abbrev s__law_rows : Stmt := top 34
abbrev s__law_marks : Stmt := top 35
abbrev s__law_copied : Stmt := top 36
abbrev s__law_number : Stmt := top 37
abbrev s__law_action : Stmt := top 38
abbrev s__law_tray : Stmt := top 39
abbrev s__law_notes : Stmt := top 41
abbrev s__law_cut_right : Stmt := top 42
abbrev s__law_right : Stmt := top 43
abbrev s_law : Stmt := top 44
structure B (K : PySem.W.Frag) (mg : Str → Option Value) (aG : Addr) (tE : Tok) : Prop where
  len : mg "len" = none
  int : mg "int" = none
  range : mg "range" = none
  list : mg "list" = none
  sorted : mg "sorted" = none
  set : mg "set" = none
  zip : mg "zip" = none
  repr : mg "repr" = none
  min : mg "min" = none
  max : mg "max" = none
  any : mg "any" = none
  enumerate : mg "enumerate" = none
  GONE : mg "GONE" = some (.ref aG)
  END : mg "END" = some (.int 1000000000000 tE)
  kG : kTup K aG = some [.str "gone"]
theorem B.GONE_is {K : PySem.W.Frag} {mg : Str → Option Value} {aG : Addr} {tE : Tok} (_ : B K mg aG tE) : RelV (.ref aG) (.ref aG) := rfl
theorem B.END_is {K : PySem.W.Frag} {mg : Str → Option Value} {aG : Addr} {tE : Tok} (_ : B K mg aG tE) : RelV (.int 1000000000000) (.int 1000000000000 tE) := ⟨tE, rfl⟩
def oV : Option Int → V
  | some i => .int i
  | none => .non
theorem oV_n : oV none = .non := rfl
theorem oV_s {i : Int} : oV (some i) = .int i := rfl
def L3 (x y z : Int) : HO := .lst [.int x, .int y, .int z]
def spWell (K : PySem.W.Frag) : Sp := fun vs H Q _ => ∃ c, vs = [.int c] ∧ ∀ (p : Addr) (x y z : Int), new K H p → Q (.ref p) (upd H p (L3 x y z))
def spDraw (K : PySem.W.Frag) : Sp := fun vs H Q _ => ∃ p x y z m, vs = [.ref p, .int m] ∧ H p = some (L3 x y z) ∧ 0 < m ∧ m < 10 ^ 100 ∧
  ∀ (r x y z : Int) (H' : Hp), 0 ≤ r → r < m → H' p = some (L3 x y z) → Kp K p H H' → Q (.int r) H'
def spCell (K : PySem.W.Frag) : Sp := fun vs H Q _ => ∃ (a : Addr) (ns : List Int) (k : Int), vs = [.ref a, .int k] ∧ SqL K H a (ns.map V.int) ∧ 0 ≤ k ∧ ∀ n, Q (.int n) H
def bnd (o : Option Int) : Prop := ∀ i, o = some i → i.natAbs < 10 ^ 40
theorem bnd_none : bnd none := fun _ h => nomatch h
theorem bnd_some {i : Int} (h : i.natAbs < 10 ^ 40) : bnd (some i) := fun j e => by cases e; exact h
def spValue (K : PySem.W.Frag) : Sp := fun vs H Q _ => ∃ p x y z, vs = [.ref p] ∧ H p = some (L3 x y z) ∧ ∀ (o : Option Int) (x y z : Int) (H' : Hp), bnd o → H' p = some (L3 x y z) → Kp K p H H' → Q (oV o) H'
section
variable {P : Program} {w : World} {K : PySem.W.Frag} {mg : Str → Option Value} {base : Heap}
theorem sc__law_cell_at : FnScope ["_law_script", "_law_k"] ["_law_script", "_law_k"] (defScope s__law_cell_at) := ⟨rfl, rfl, rfl, by decide +kernel, rfl, by decide +kernel, by decide +kernel⟩
theorem ok__law_cell_at {f : Addr} {fd : FuncData} (F : Fun K "_law_cell_at" "_law_cell_at" s__law_cell_at f fd) (B : B K mg aG tE) : FnOk P w K mg base CX0 1 f fd ["_law_script", "_law_k"] (spCell K) := by
  refine F.okJ sc__law_cell_at (fun vs H Q E h => ?_) (fun cdv A outer s H vs Q E hr h => ?_)
  · obtain ⟨a, ns, k, rfl, _⟩ := h
    rfl
  obtain ⟨a, ns, k, rfl, hs, h0, q⟩ := h
  refine ⟨_, (bcons (sif (tcmp op_lt (ev 1) (ecallB call_len_seq rfl B.len bt_len (acons (ev 0) anil)) (nomark _)) (bone (sret (eix ix_list (ev 0) (ev 1) (fun _ _ => rfl)))) bnil)
      (bone (sret ei))), ?_⟩
  simp only [tSeq, tNext, tIfS, tAsg, gName, gSub, tRet, tRetN, tDrop, tVar, tC, tOp, tUn, rI0, rI, rU, tTest, tB, tAndV, tOrV, tNotV, tAnd, tOr, tNot, tIf, tChain, tCB, tCons, tNil, tLst, tTup, tCallC, List.getElem?_cons_zero, List.getElem?_cons_succ, List.set_cons_zero, List.set_cons_succ, Option.some.injEq, V.int.injEq, V.bl.injEq, V.ref.injEq, V.ty.injEq, V.str.injEq, List.cons.injEq, exists_eq_left', exists_eq_left, exists_and_left, and_true, true_and, and_assoc, cxK, rIxF, rSetL, rEq, rNe, scal, HO.lst.injEq, HO.tup.injEq, upd_none, ixN_10, ixN_20, ixN_21, ixN_30, ixN_31, ixN_32, upd_same, seqAt_updL, seqAt_updT, atI_0, atI_1, atI_2, atI_3, decide_eq_true_eq, L2.start, List.map_cons, List.map_nil, List.length_cons, List.length_nil, Nat.reduceAdd, Nat.reduceSub, List.replicate_succ, List.replicate_zero, List.cons_append, List.nil_append, List.append_nil, tFor_rng1, tFor_rng2, tFor_list, tFor_tup, CDv, CMul, CPow, sizeLine_eq, Int.reduceLE, Int.reduceLT, Int.reducePow, Int.reduceToNat, Int.reduceAdd, Int.reduceSub, Int.reduceMul, Int.reduceNeg, Nat.reduceLeDiff, Nat.reducePow, Nat.reduceLT, Int.reduceEq, true_or, or_true, ite_true, ite_false, if_true, if_false, Bool.not_true, Bool.not_false, Bool.false_eq_true, decide_true, decide_false, rIxQ, seqQ_updL, seqQ_updT, tupQ_updT, tSl, tNoPart, tPart, rSlQ, rCatQ, tTupQ, tLstQ, tNever, rEqD, rInQ, gTupQ, gCons, gNil, tBM, rAppend, rSlTQ, gSlice, tLc2_list, bodyL_tup, bodyL_list, bodyE_eq, tDGet, tLcD, tDGet2, sDPut, tFor_rng3, tLc_rng1, tLc_rng2, tLc_list, tLc_tup, tLc_enum, pick_nil, pick_own, pick_cap, join_some, tYes, tCallKC, gk_11, gk_31, tSortSet, tFor_zip, tAug, ipI, rIxL]
  refine ⟨_, .inl hs, ?_⟩
  refine ite2 (fun c => ?_) (fun c => q 0)
  obtain ⟨v, e, m⟩ := atI_in h0 c
  obtain ⟨n, _, rfl⟩ := List.mem_map.mp m
  exact ⟨_, hs, _, e, q n⟩
theorem sc__law_well : FnScope ["_law_cell"] ["_law_cell"] (defScope s__law_well) := ⟨rfl, rfl, rfl, by decide +kernel, rfl, by decide +kernel, by decide +kernel⟩
theorem ok__law_well {f : Addr} {fd : FuncData} (F : Fun K "_law_well" "_law_well" s__law_well f fd) (B : B K mg aG tE) : FnOk P w K mg base CX0 1 f fd ["_law_cell"] (spWell K) := by
  refine F.okJ sc__law_well (fun vs H Q E h => ?_) (fun cdv A outer s H vs Q E hr h => ?_)
  · obtain ⟨c, rfl, _⟩ := h
    rfl
  obtain ⟨c, rfl, q⟩ := h
  refine ⟨_, (bone (sret (elstQ (acons (eop op_mul (ev 0) (ecallTy call_intB rfl B.int bt_int (acons (ecmp op_ge (ev 0) (epowc 1000000000000000000) (nomark _)) anil))) (acons (eop op_mod (ev 0) ei) (acons ei anil)))))), ?_⟩
  try walk_at "rn"
  refine ⟨?_, fun p hp => q p _ _ _ hp⟩
  right
  split <;> decide
theorem sc__law_draw : FnScope ["_law_well_here", "_law_many", "_law_found", "_law_number_here"] ["_law_well_here", "_law_many"] (defScope s__law_draw) := ⟨rfl, rfl, rfl, by decide +kernel, rfl, by decide +kernel, by decide +kernel⟩
theorem ok__law_draw {f : Addr} {fd : FuncData} (F : Fun K "_law_draw" "_law_draw" s__law_draw f fd) (B : B K mg aG tE) : FnOk P w K mg base CX0 1 f fd ["_law_well_here", "_law_many"] (spDraw K) := by
  refine F.okJ sc__law_draw (fun vs H Q E h => ?_) (fun cdv A outer s H vs Q E hr h => ?_)
  · obtain ⟨p, x, y, z, m, rfl, _⟩ := h
    rfl
  obtain ⟨p, x, y, z, m, rfl, hp, h0, h1, q⟩ := h
  unfold L3 at hp
  refine ⟨_, (bcons (sif (tcmp op_gt (eix ix_Q (ev 0) ei (fun _ _ => rfl)) ei (nomark _)) (bcons (sset (i := 2) sc__law_draw.nd rfl (Or.inl rfl) (eop op_mod (eix ix_Q (ev 0) ei (fun _ _ => rfl)) (ev 1)))
      (bcons (sasg (eop op_fdivP (eix ix_Q (ev 0) ei (fun _ _ => rfl)) (ev 1)) (gsub (ev 0) ei set_list))
      (bone (sret (ev 2))))) bnil)
      (bcons (sasg (eop op_add (eix ix_Q (ev 0) ei (fun _ _ => rfl)) ei) (gsub (ev 0) ei set_list))
      (bcons (sset (i := 3) sc__law_draw.nd rfl (Or.inl rfl) (eop op_mod (eop op_mul (eop op_add (eop op_add (eix ix_Q (ev 0) ei (fun _ _ => rfl)) (eop op_mul ei (eix ix_Q (ev 0) ei (fun _ _ => rfl)))) ei) ei) ei))
      (bcons (sset (i := 3) sc__law_draw.nd rfl (Or.inl rfl) (eop op_mod (eop op_mul (ev 3) (eop op_add (eop op_add (eop op_fdivP (ev 3) ei) ei) (eix ix_Q (ev 0) ei (fun _ _ => rfl)))) ei))
      (bone (sret (eop op_mod (eop op_mod (eop op_mul (ev 3) (eop op_add (eop op_fdivP (ev 3) ei) ei)) ei) (ev 1)))))))), ?_⟩
  simp only [tSeq, tNext, tIfS, tAsg, gName, gSub, tRet, tRetN, tDrop, tVar, tC, tOp, tUn, rI0, rI, rU, tTest, tB, tAndV, tOrV, tNotV, tAnd, tOr, tNot, tIf, tChain, tCB, tCons, tNil, tLst, tTup, tCallC, List.getElem?_cons_zero, List.getElem?_cons_succ, List.set_cons_zero, List.set_cons_succ, Option.some.injEq, V.int.injEq, V.bl.injEq, V.ref.injEq, V.ty.injEq, V.str.injEq, List.cons.injEq, exists_eq_left', exists_eq_left, exists_and_left, and_true, true_and, and_assoc, cxK, rIxF, rSetL, rEq, rNe, scal, HO.lst.injEq, HO.tup.injEq, upd_none, ixN_10, ixN_20, ixN_21, ixN_30, ixN_31, ixN_32, upd_same, seqAt_updL, seqAt_updT, atI_0, atI_1, atI_2, atI_3, decide_eq_true_eq, L2.start, List.map_cons, List.map_nil, List.length_cons, List.length_nil, Nat.reduceAdd, Nat.reduceSub, List.replicate_succ, List.replicate_zero, List.cons_append, List.nil_append, List.append_nil, tFor_rng1, tFor_rng2, tFor_list, tFor_tup, CDv, CMul, CPow, sizeLine_eq, Int.reduceLE, Int.reduceLT, Int.reducePow, Int.reduceToNat, Int.reduceAdd, Int.reduceSub, Int.reduceMul, Int.reduceNeg, Nat.reduceLeDiff, Nat.reducePow, Nat.reduceLT, Int.reduceEq, true_or, or_true, ite_true, ite_false, if_true, if_false, Bool.not_true, Bool.not_false, Bool.false_eq_true, decide_true, decide_false, rIxQ, seqQ_updL, seqQ_updT, tupQ_updT, tSl, tNoPart, tPart, rSlQ, rCatQ, tTupQ, tLstQ, new_upd, tNever, rEqD, rInQ, gTupQ, gCons, gNil, tBM, rAppend, rSlTQ, gSlice, tLc2_list, bodyL_tup, bodyL_list, bodyE_eq, tDGet, tLcD, tDGet2, sDPut, tFor_rng3, tLc_rng1, tLc_rng2, tLc_list, tLc_tup, tLc_enum, pick_nil, pick_own, pick_cap, join_some, tYes, tCallKC, gk_11, gk_31, tSortSet, tFor_zip, tAug, ipI, hp,  seqQ_lst hp]
  have g : ∀ (u v z : Int), Kp K p H (upd H p (L3 u v z)) := fun u v z => Kp.upd hp
  refine ite2 (fun c => ⟨h0, h0, by omega, ?_⟩) (fun c => ?_)
  · exact q _ _ _ _ _ (Int.emod_nonneg _ (by omega)) (Int.emod_lt_of_pos _ h0) upd_same (g _ _ _)
  · refine ⟨?_, ?_, h0, q _ _ _ _ _ (Int.emod_nonneg _ (by omega)) (Int.emod_lt_of_pos _ h0) upd_same (g _ _ _)⟩
    all_goals omega
theorem sc__law_value : FnScope ["_law_well_here", "_law_way"] ["_law_well_here"] (defScope s__law_value) := ⟨rfl, rfl, rfl, by decide +kernel, rfl, by decide +kernel, by decide +kernel⟩
theorem ok__law_value {f : Addr} {fd : FuncData} (F : Fun K "_law_value" "_law_value" s__law_value f fd) (B : B K mg aG tE) (C__law_draw : Callee P w K mg base "_law_draw" 1 ["_law_well_here", "_law_many"] (spDraw K)) : FnOk P w K mg base CX0 2 f fd ["_law_well_here"] (spValue K) := by
  refine F.okJ sc__law_value (fun vs H Q E h => ?_) (fun cdv A outer s H vs Q E hr h => ?_)
  · obtain ⟨p, x, y, z, rfl, _⟩ := h
    rfl
  obtain ⟨p, x, y, z, rfl, hp, q⟩ := h
  refine ⟨_, (bcons (sset (i := 1) sc__law_value.nd rfl (Or.inl rfl) (ecall C__law_draw (hr.mono (by decide)) rfl (acons (ev 0) (acons ei anil))))
      (bcons (sif (tcmp op_eq (ev 1) ei (nomark _)) (bone (sret enon)) bnil)
      (bcons (sif (tcmp op_lt (ev 1) ei (nomark _)) (bone (sret (eop op_sub (ecall C__law_draw (hr.mono (by decide)) rfl (acons (ev 0) (acons ei anil))) ei))) bnil)
      (bone (sret (eop op_add (eop op_mul (eop op_sub (ecall C__law_draw (hr.mono (by decide)) rfl (acons (ev 0) (acons (eop op_add (eop op_mul ei (epowc 1000000000)) ei) anil))) (epowc 1000000000)) (epowc 1000000000000000000000)) (ecall C__law_draw (hr.mono (by decide)) rfl (acons (ev 0) (acons (epowc 1000000000) anil))))))))), ?_⟩
  try walk_at "rn"
  refine ⟨p, _, _, _, 6, rfl, hp, by decide, by omega, fun way x y z H1 w0 w1 g1 k1 => ?_⟩
  try walk_at "rn"
  refine ite2 (fun c => q none _ _ _ _ bnd_none g1 k1) (fun c => ?_)
  refine ite2 (fun c => ?_) (fun c => ?_)
  · refine ⟨p, _, _, _, 7, rfl, g1, by decide, by omega, fun r x y z H2 r0 r1 g2 k2 => ?_⟩
    try walk_at "rn"
    exact q (some (r - 3)) _ _ _ _ (bnd_some (by omega)) g2 (k1.trans k2)
  · refine ⟨p, _, _, _, _, rfl, g1, by decide, by omega, fun r x y z H2 r0 r1 g2 k2 => ?_⟩
    try walk_at "rn"
    refine ⟨.inl ⟨by omega, by omega⟩, p, _, _, _, _, rfl, g2, by decide, by omega, fun r' x y z H3 r0' r1' g3 k3 => ?_⟩
    try walk_at "rn"
    exact q (some _) _ _ _ _ (bnd_some (by omega)) g3 (k1.trans (k2.trans k3))
variable {aG : Addr} {tE : Tok}
def Vers (K : PySem.W.Frag) (H : Hp) : List V → List (Int × Option Int) → Prop
  | [], [] => True
  | u :: us, p :: vs => (∃ a, u = .ref a ∧ tupQ K H a = some [.int p.1, oV p.2]) ∧ Vers K H us vs
  | _, _ => False
theorem Vers.len {K : PySem.W.Frag} {H : Hp} : ∀ {us : List V} {vs : List (Int × Option Int)}, Vers K H us vs → us.length = vs.length
  | [], [], _ => rfl
  | _ :: us, _ :: vs, h => by rw [List.length_cons, List.length_cons, Vers.len h.2]
theorem Vers.mono {K : PySem.W.Frag} {H H' : Hp} (m : ∀ a xs, tupQ K H a = some xs → tupQ K H' a = some xs) : ∀ {us : List V} {vs : List (Int × Option Int)}, Vers K H us vs → Vers K H' us vs
  | [], [], _ => trivial
  | _ :: us, _ :: vs, ⟨⟨a, e, h⟩, r⟩ => ⟨⟨a, e, m _ _ h⟩, Vers.mono m r⟩
theorem Vers.ext {K : PySem.W.Frag} {H H' : Hp} {us : List V} {vs : List (Int × Option Int)} (h : Vers K H us vs) (x : Ext K H H') : Vers K H' us vs := h.mono fun _ _ e => x.tup e
theorem Vers.kp {K : PySem.W.Frag} {H H' : Hp} {us : List V} {vs : List (Int × Option Int)} {p : Addr} {xs : List V} (h : Vers K H us vs) (k : Kp K p H H') (hp : H p = some (.lst xs)) : Vers K H' us vs := h.mono fun _ _ e => k.tup hp e
theorem Vers.snoc {K : PySem.W.Frag} {H : Hp} {a : Addr} {p : Int × Option Int} (e : tupQ K H a = some [.int p.1, oV p.2]) : ∀ {us : List V} {vs : List (Int × Option Int)}, Vers K H us vs → Vers K H (us ++ [.ref a]) (vs ++ [p])
  | [], [], _ => ⟨⟨a, rfl, e⟩, trivial⟩
  | _ :: us, _ :: vs, h => ⟨h.1, Vers.snoc e h.2⟩
theorem Vers.get {K : PySem.W.Frag} {H : Hp} : ∀ {us : List V} {vs : List (Int × Option Int)} {i : Nat} {u : V}, Vers K H us vs → us[i]? = some u → ∃ p a, vs[i]? = some p ∧ u = .ref a ∧ tupQ K H a = some [.int p.1, oV p.2]
  | [], [], _, _, _, h => by simp at h
  | v :: us, p :: vs, 0, u, h, e => by
    obtain ⟨⟨a, rfl, q⟩, _⟩ := h
    cases e
    exact ⟨p, a, rfl, rfl, q⟩
  | _ :: us, _ :: vs, i + 1, u, h, e => by
    obtain ⟨p, a, e1, e2, e3⟩ := Vers.get h.2 (by simpa using e)
    exact ⟨p, a, by simpa using e1, e2, e3⟩
def okAt (at_ : Option Int) (n : Int) : Bool := match at_ with | none => true | some w => decide (n ≤ w)
def valF (at_ : Option Int) (v0 : Option Int) (vs : List (Int × Option Int)) : Option Int := vs.foldl (fun v p => if okAt at_ p.1 = true then p.2 else v) v0
theorem valF_snoc (at_ v0 : Option Int) (vs : List (Int × Option Int)) (p : Int × Option Int) : valF at_ v0 (vs ++ [p]) = if okAt at_ p.1 = true then p.2 else valF at_ v0 vs := by
  unfold valF
  rw [List.foldl_append]
  rfl
def Rising (vs : List (Int × Option Int)) : Prop := vs.Pairwise fun p q => p.1 < q.1
def spValueOf (K : PySem.W.Frag) : Sp := fun vs H Q _ => ∃ r us ws at_, vs = [.ref r, oV at_] ∧ SqL K H r us ∧ us.length < 1000000 ∧ Vers K H us ws ∧ Q (oV (valF at_ none ws)) H
theorem sc_value_of : FnScope ["versions", "at", "value", "number", "other"] ["versions", "at"] (defScope s_value_of) := ⟨rfl, rfl, rfl, by decide +kernel, rfl, by decide +kernel, by decide +kernel⟩
theorem ok_value_of {f : Addr} {fd : FuncData} (F : Fun K "value_of" "value_of" s_value_of f fd) (B : B K mg aG tE) : FnOk P w K mg base CX0 1 f fd ["versions", "at"] (spValueOf K) := by
  refine F.okJ sc_value_of (fun vs H Q E h => ?_) (fun cdv A outer s H vs Q E hr h => ?_)
  · obtain ⟨r, us, ws, at_, rfl, _⟩ := h
    rfl
  obtain ⟨r, us, ws, at_, rfl, hS, hz, hV, q⟩ := h
  refine ⟨_, (bcons (sset (i := 2) sc_value_of.nd rfl (Or.inl rfl) enon)
      (bcons (sfor PassesOwn.never rfl (ilist (ev 0)) (gtupQ (n := 2) rfl (gcons (gname (i := 3) sc_value_of.nd rfl (Or.inl rfl)) (gcons (gname (i := 4) sc_value_of.nd rfl (Or.inl rfl)) gnil)))
        (bone (sif (tw (wor (tcmp op_isN (ev 1) enon (nomark _)) (wor1 (tcmp op_le (ev 3) (ev 1) (nomark _))))) (bone (sset (i := 2) sc_value_of.nd rfl (Or.inl rfl) (ev 4))) bnil)))
      (bone (sret (ev 2))))), ?_⟩
  try walk_at "rn"
  refine ⟨⟨_, hS⟩, ?_⟩
  obtain ⟨Pv, eP⟩ : ∃ Pv : Nat → St → Hp → Prop, Pv = fun i σ' H' => ∃ v3 v4, σ' = [some (.ref r), some (oV at_), some (oV (valF at_ none (ws.take i))), v3, v4] ∧ H' = H := ⟨_, rfl⟩
  refine loop_list (xs := us) Pv ?_ ?_ ?_ ?_
  · rw [eP]
    exact ⟨_, _, rfl, rfl⟩
  · intro i σ' H' _ h
    rw [eP] at h
    obtain ⟨_, _, rfl, rfl⟩ := h
    exact hS
  · intro i x σ' H' hx h
    rw [eP] at h
    obtain ⟨v3, v4, rfl, rfl⟩ := h
    obtain ⟨p, a, ep, rfl, ea⟩ := hV.get hx
    simp only [tSeq, tNext, tIfS, tAsg, gName, gSub, tRet, tRetN, tDrop, tVar, tC, tOp, tUn, rI0, rI, rU, tTest, tB, tAndV, tOrV, tNotV, tAnd, tOr, tNot, tIf, tChain, tCB, tCons, tNil, tLst, tTup, tCallC, List.getElem?_cons_zero, List.getElem?_cons_succ, List.set_cons_zero, List.set_cons_succ, Option.some.injEq, V.int.injEq, V.bl.injEq, V.ref.injEq, V.ty.injEq, V.str.injEq, List.cons.injEq, exists_eq_left', exists_eq_left, exists_and_left, and_true, true_and, and_assoc, cxK, rIxF, rSetL, rEq, rNe, scal, HO.lst.injEq, HO.tup.injEq, upd_none, ixN_10, ixN_20, ixN_21, ixN_30, ixN_31, ixN_32, upd_same, seqAt_updL, seqAt_updT, atI_0, atI_1, atI_2, atI_3, decide_eq_true_eq, L2.start, List.map_cons, List.map_nil, List.length_cons, List.length_nil, Nat.reduceAdd, Nat.reduceSub, List.replicate_succ, List.replicate_zero, List.cons_append, List.nil_append, List.append_nil, tFor_rng1, tFor_rng2, tFor_list, tFor_tup, CDv, CMul, CPow, sizeLine_eq, Int.reduceLE, Int.reduceLT, Int.reducePow, Int.reduceToNat, Int.reduceAdd, Int.reduceSub, Int.reduceMul, Int.reduceNeg, Nat.reduceLeDiff, Nat.reducePow, Nat.reduceLT, Int.reduceEq, true_or, or_true, ite_true, ite_false, if_true, if_false, Bool.not_true, Bool.not_false, Bool.false_eq_true, decide_true, decide_false, rIxQ, seqQ_updL, seqQ_updT, tupQ_updT, tSl, tNoPart, tPart, rSlQ, rCatQ, tTupQ, tLstQ, tNever, rEqD, rInQ, gTupQ, gCons, gNil, tBM, rAppend, rSlTQ, gSlice, tLc2_list, bodyL_tup, bodyL_list, bodyE_eq, tDGet, tLcD, tDGet2, sDPut, tFor_rng3, tLc_rng1, tLc_rng2, tLc_list, tLc_tup, tLc_enum, pick_nil, pick_own, pick_cap, join_some, tYes, tCallKC, gk_11, gk_31, tSortSet, tFor_zip, tAug, ipI, ea]
    have et : ws.take (i + 1) = ws.take i ++ [p] := by rw [List.take_add_one, ep]; rfl
    cases at_ with
    | none =>
      simp only [tSeq, tNext, tIfS, tAsg, gName, gSub, tRet, tRetN, tDrop, tVar, tC, tOp, tUn, rI0, rI, rU, tTest, tB, tAndV, tOrV, tNotV, tAnd, tOr, tNot, tIf, tChain, tCB, tCons, tNil, tLst, tTup, tCallC, List.getElem?_cons_zero, List.getElem?_cons_succ, List.set_cons_zero, List.set_cons_succ, Option.some.injEq, V.int.injEq, V.bl.injEq, V.ref.injEq, V.ty.injEq, V.str.injEq, List.cons.injEq, exists_eq_left', exists_eq_left, exists_and_left, and_true, true_and, and_assoc, cxK, rIxF, rSetL, rEq, rNe, scal, HO.lst.injEq, HO.tup.injEq, upd_none, ixN_10, ixN_20, ixN_21, ixN_30, ixN_31, ixN_32, upd_same, seqAt_updL, seqAt_updT, atI_0, atI_1, atI_2, atI_3, decide_eq_true_eq, L2.start, List.map_cons, List.map_nil, List.length_cons, List.length_nil, Nat.reduceAdd, Nat.reduceSub, List.replicate_succ, List.replicate_zero, List.cons_append, List.nil_append, List.append_nil, tFor_rng1, tFor_rng2, tFor_list, tFor_tup, CDv, CMul, CPow, sizeLine_eq, Int.reduceLE, Int.reduceLT, Int.reducePow, Int.reduceToNat, Int.reduceAdd, Int.reduceSub, Int.reduceMul, Int.reduceNeg, Nat.reduceLeDiff, Nat.reducePow, Nat.reduceLT, Int.reduceEq, true_or, or_true, ite_true, ite_false, if_true, if_false, Bool.not_true, Bool.not_false, Bool.false_eq_true, decide_true, decide_false, rIxQ, seqQ_updL, seqQ_updT, tupQ_updT, tSl, tNoPart, tPart, rSlQ, rCatQ, tTupQ, tLstQ, tNever, rEqD, rInQ, gTupQ, gCons, gNil, tBM, rAppend, rSlTQ, gSlice, tLc2_list, bodyL_tup, bodyL_list, bodyE_eq, tDGet, tLcD, tDGet2, sDPut, tFor_rng3, tLc_rng1, tLc_rng2, tLc_list, tLc_tup, tLc_enum, pick_nil, pick_own, pick_cap, join_some, tYes, tCallKC, gk_11, gk_31, tSortSet, tFor_zip, tAug, ipI, oV_n]
      rw [eP]
      dsimp only
      rw [et, valF_snoc]
      exact ⟨_, _, rfl, rfl⟩
    | some w =>
      simp only [tSeq, tNext, tIfS, tAsg, gName, gSub, tRet, tRetN, tDrop, tVar, tC, tOp, tUn, rI0, rI, rU, tTest, tB, tAndV, tOrV, tNotV, tAnd, tOr, tNot, tIf, tChain, tCB, tCons, tNil, tLst, tTup, tCallC, List.getElem?_cons_zero, List.getElem?_cons_succ, List.set_cons_zero, List.set_cons_succ, Option.some.injEq, V.int.injEq, V.bl.injEq, V.ref.injEq, V.ty.injEq, V.str.injEq, List.cons.injEq, exists_eq_left', exists_eq_left, exists_and_left, and_true, true_and, and_assoc, cxK, rIxF, rSetL, rEq, rNe, scal, HO.lst.injEq, HO.tup.injEq, upd_none, ixN_10, ixN_20, ixN_21, ixN_30, ixN_31, ixN_32, upd_same, seqAt_updL, seqAt_updT, atI_0, atI_1, atI_2, atI_3, decide_eq_true_eq, L2.start, List.map_cons, List.map_nil, List.length_cons, List.length_nil, Nat.reduceAdd, Nat.reduceSub, List.replicate_succ, List.replicate_zero, List.cons_append, List.nil_append, List.append_nil, tFor_rng1, tFor_rng2, tFor_list, tFor_tup, CDv, CMul, CPow, sizeLine_eq, Int.reduceLE, Int.reduceLT, Int.reducePow, Int.reduceToNat, Int.reduceAdd, Int.reduceSub, Int.reduceMul, Int.reduceNeg, Nat.reduceLeDiff, Nat.reducePow, Nat.reduceLT, Int.reduceEq, true_or, or_true, ite_true, ite_false, if_true, if_false, Bool.not_true, Bool.not_false, Bool.false_eq_true, decide_true, decide_false, rIxQ, seqQ_updL, seqQ_updT, tupQ_updT, tSl, tNoPart, tPart, rSlQ, rCatQ, tTupQ, tLstQ, tNever, rEqD, rInQ, gTupQ, gCons, gNil, tBM, rAppend, rSlTQ, gSlice, tLc2_list, bodyL_tup, bodyL_list, bodyE_eq, tDGet, tLcD, tDGet2, sDPut, tFor_rng3, tLc_rng1, tLc_rng2, tLc_list, tLc_tup, tLc_enum, pick_nil, pick_own, pick_cap, join_some, tYes, tCallKC, gk_11, gk_31, tSortSet, tFor_zip, tAug, ipI, oV_s,  reduceCtorEq]
      rw [eP]
      dsimp only
      rw [et, valF_snoc]
      refine ite2 (fun c => ?_) (fun c => ?_)
      · rw [if_pos (by simpa [okAt] using c)]
        exact ⟨_, _, rfl, rfl⟩
      · rw [if_neg (by simpa [okAt] using c)]
        exact ⟨_, _, rfl, rfl⟩
  · intro σ' H' h
    rw [eP] at h
    obtain ⟨v3, v4, rfl, rfl⟩ := h
    try walk_at "rn"
    rw [hV.len, List.take_length]
    exact q
theorem _root_.L2.Ext.thenKp {K : PySem.W.Frag} {H0 H H' : Hp} {D : Addr} (x : Ext K H0 H) (h : H0 D = none) (k : Kp K D H H') : Ext K H0 H' :=
  ⟨fun q o e => k.keep q o (x.at e) (ne_of_none e h), fun q xs e m => k.mod q xs (x.mod q xs e m) m⟩
theorem _root_.L2.Ext.was {K : PySem.W.Frag} {H H' : Hp} {D : Addr} (x : Ext K H H') (h : H' D = none) : H D = none := by
  cases e : H D with
  | none => rfl
  | some o => rw [x.at e] at h; cases h
theorem lc_mapQ {α : Type} {K : PySem.W.Frag} {c D : Addr} {L : List α} {f g : α → V} {te : TE} {v0 : Option V} {rest : St} {H : Hp} {Q : Hp → Prop} (hk : H c = some (.lst (L.map f))) (nD : new K H D) (hz : L.length ≤ 1000)
    (elt : ∀ q ∈ L, ∀ H' (Q : VK), Ext K H H' → Q (g q) H' → te (some (f q) :: rest) H' Q)
    (fin : ∀ H', H' D = some (.lst (L.map g)) → Ext K H H' → Q H') : LcLoop (Itl K c) (gName 0) tYes te D Q (v0 :: rest) (upd H D (.lst [])) := by
  refine lc_list (xs := L.map f) (fun i acc σ' H' => ∃ (v0 : Option V), σ' = v0 :: rest ∧ H' D = some (.lst acc) ∧ acc = (L.take i).map g ∧ Kp K D (upd H D (.lst [])) H') ?_ ?_ ?_ ?_
  · exact ⟨_, rfl, upd_same, rfl, Kp.refl⟩
  · rintro i acc σ' H' _ ⟨v0, rfl, hD, rfl, k⟩
    exact SqL.of ((k.ext nD).at hk)
  · rintro i x acc σ' H' hx ⟨v0, rfl, hD, rfl, k⟩
    rw [List.getElem?_map] at hx
    obtain ⟨q, ek, rfl⟩ := Option.map_eq_some_iff.mp hx
    have hlen : ((L.take i).map g).length ≤ 1000 := by rw [List.length_map, List.length_take]; omega
    unfold gName tYes
    refine iteT ?_
    refine elt q (List.mem_of_getElem? ek) H' _ (k.ext nD) ⟨hD, Nat.lt_of_le_of_lt hlen (by decide), _, rfl, upd_same, ?_, k.trans (Kp.upd hD)⟩
    rw [List.take_add_one, ek, Option.toList_some, List.map_append]
    rfl
  · rintro acc σ' H' ⟨v0, rfl, hD, rfl, k⟩
    rw [List.length_map, List.take_length] at hD
    exact fin H' hD (k.ext nD)
theorem valF_some_none {m : Int} {v0 : Option Int} : ∀ {vs : List (Int × Option Int)}, (∀ p ∈ vs, p.1 ≤ m) → valF (some m) v0 vs = valF none v0 vs
  | vs, h => by
    unfold valF
    induction vs generalizing v0 with
    | nil => rfl
    | cons p vs ih =>
      rw [List.foldl_cons, List.foldl_cons]
      have e : okAt (some m) p.1 = true := by simpa [okAt] using h p (by simp)
      rw [if_pos e, if_pos (show okAt none p.1 = true from rfl)]
      exact ih fun q hq => h q (List.mem_cons_of_mem _ hq)
theorem valF_past {m : Int} {v0 : Option Int} : ∀ {vs : List (Int × Option Int)}, (∀ p ∈ vs, m < p.1) → valF (some m) v0 vs = v0
  | vs, h => by
    unfold valF
    induction vs generalizing v0 with
    | nil => rfl
    | cons p vs ih =>
      rw [List.foldl_cons, if_neg (by have := h p (by simp); simp only [okAt, decide_eq_true_eq]; omega)]
      exact ih fun q hq => h q (List.mem_cons_of_mem _ hq)
theorem valF_app {at_ v0 : Option Int} {vs ws : List (Int × Option Int)} : valF at_ v0 (vs ++ ws) = valF at_ (valF at_ v0 vs) ws := by
  unfold valF
  rw [List.foldl_append]
theorem valF_split {m : Int} {vs : List (Int × Option Int)} {k : Nat} (h1 : ∀ p ∈ vs.take k, p.1 ≤ m) (h2 : ∀ p ∈ vs.drop k, m < p.1) : valF (some m) none vs = valF none none (vs.take k) := by
  conv => lhs; rw [← List.take_append_drop k vs]
  rw [valF_app, valF_past h2, valF_some_none h1]
def viewsF (vs : List (Int × Option Int)) (ms : List Int) : List (Option Int) := (ms.map fun m => valF (some m) none vs) ++ [valF none none vs]
theorem viewsF_len (vs : List (Int × Option Int)) (ms : List Int) : (viewsF vs ms).length = ms.length + 1 := by simp [viewsF]
def pv (ws : List (Option Int)) : Nat → Option Int
  | 0 => none
  | i + 1 => ws.getD i none
def byT (ns : List Int) (ws : List (Option Int)) : Nat → List (Int × Option Int)
  | 0 => []
  | i + 1 => byT ns ws i ++ if ws.getD i none = pv ws i then [] else [(ns.getD i 0, ws.getD i none)]
def nsF (ms : List Int) : List Int := 0 :: ms.map fun m => m + 1
def sweepT (ms : List Int) (ws : List (Option Int)) : List (Int × Option Int) := byT (nsF ms) ws (ms.length + 1)
theorem byT_len (ns : List Int) (ws : List (Option Int)) : ∀ i, (byT ns ws i).length ≤ i
  | 0 => Nat.le_refl _
  | i + 1 => by
    have := byT_len ns ws i
    unfold byT
    rw [List.length_append]
    split
    · simp; omega
    · simp; omega
theorem scal_oV {a b : Option Int} : scal (oV a) (oV b) = true := by cases a <;> cases b <;> rfl
theorem dec_oV {a b : Option Int} : decide (oV a = oV b) = decide (a = b) := by cases a <;> cases b <;> simp [oV]
def spSights (K : PySem.W.Frag) : Sp := fun vs H Q _ => ∃ (r q : Addr) (us : List V) (ws : List (Int × Option Int)) (ms : List Int), vs = [.ref r, .ref q] ∧ H r = some (.lst us) ∧ Vers K H us ws ∧ Rising ws ∧ H q = some (.lst (ms.map V.int)) ∧ ms.Pairwise (· < ·) ∧ us.length ≤ 1000 ∧ ms.length ≤ 1000 ∧
  ∀ (D : Addr) (H' : Hp), H D = none → H' D = some (.lst ((viewsF ws ms).map oV)) → Ext K H H' → Q (.ref D) H'
theorem sc_sights_of : FnScope ["versions", "marks", "sights", "sight", "place", "mark"] ["versions", "marks"] (defScope s_sights_of) := ⟨rfl, rfl, rfl, by decide +kernel, rfl, by decide +kernel, by decide +kernel⟩
theorem ok_sights_of {f : Addr} {fd : FuncData} (F : Fun K "sights_of" "sights_of" s_sights_of f fd) (B : B K mg aG tE) (CD_value_of : CalleeD P w K mg base "value_of" 1 ["versions", "at"] [.non] (spValueOf K)) : FnOk P w K mg base CX0 2 f fd ["versions", "marks"] (spSights K) := by
  refine F.okJ sc_sights_of (fun vs H Q E h => ?_) (fun cdv A outer s H vs Q E hr h => ?_)
  · obtain ⟨r, q, us, ws, ms, rfl, _⟩ := h
    rfl
  obtain ⟨r, q0, us, ws, ms, rfl, hS, hV, hR, hq, hm, lu, lm, q⟩ := h
  refine ⟨_, (bcons (sset (i := 2) sc_sights_of.nd rfl (Or.inl rfl) (elstQ anil))
      (bcons (sset (i := 3) sc_sights_of.nd rfl (Or.inl rfl) enon)
      (bcons (sset (i := 4) sc_sights_of.nd rfl (Or.inl rfl) ei)
      (bcons (sfor PassesOwn.never rfl (ilist (ev 1)) (gname (i := 5) sc_sights_of.nd rfl (Or.inl rfl))
        (bcons (swhile PassesOwn.never (tw (wand (tcmp op_lt (ev 4) (ecallB call_lenQ rfl B.len bt_len (acons (ev 0) anil)) (nomark _)) (wand1 (tcmp op_le (eix ix_Q (eix ix_Q (ev 0) (ev 4) (fun _ _ => rfl)) ei (fun _ _ => rfl)) (ev 5) (nomark _)))))
        (bcons (sset (i := 3) sc_sights_of.nd rfl (Or.inl rfl) (eix ix_Q (eix ix_Q (ev 0) (ev 4) (fun _ _ => rfl)) ei (fun _ _ => rfl)))
      (bone (saug (i := 4) sc_sights_of.nd rfl (Or.inl rfl) ei ip_add))))
      (bone (sexpr (ebm PySem.F.plainAttrs_list PySem.F.slot_list_append PySem.F.type_list_append mt_append (ev 2) (acons (ev 3) anil))))))
      (bone (sret (eop op_catQ (ev 2) (elstQ (acons (ecallD CD_value_of (hr.mono (by decide)) rfl (acons (ev 0) anil)) anil))))))))), ?_⟩
  try walk_at "rn"
  intro D nD
  have x0 := Ext.new (K := K) (o := .lst []) nD
  refine ⟨⟨_, SqL.of (x0.at hq)⟩, ?_⟩
  have el := hV.len
  obtain ⟨Pv, eP⟩ : ∃ Pv : Nat → St → Hp → Prop, Pv = fun i σ' H' => ∃ (pl : Nat) (v5 : Option V), σ' = [some (.ref r), some (.ref q0), some (.ref D), some (oV (valF none none (ws.take pl))), some (.int pl), v5] ∧ pl ≤ ws.length ∧ (∀ p ∈ ws.take pl, ∀ m ∈ ms.drop i, p.1 ≤ m) ∧ H' D = some (.lst (((ms.take i).map fun m => valF (some m) none ws).map oV)) ∧ Kp K D (upd H D (.lst [])) H' := ⟨_, rfl⟩
  refine loop_list (xs := ms.map V.int) Pv ?_ ?_ ?_ ?_
  · rw [eP]
    exact ⟨0, _, rfl, Nat.zero_le _, (fun p hp => by simp at hp), upd_same, Kp.refl⟩
  · intro i σ' H' _ h
    rw [eP] at h
    obtain ⟨_, _, _, _, _, _, k⟩ := h
    exact SqL.of ((k.ext nD).at hq)
  · intro i x σ' H1 hx h
    rw [eP] at h
    obtain ⟨pl, v5, rfl, hpl, hlow, hD, k⟩ := h
    rw [List.getElem?_map] at hx
    obtain ⟨m, em, rfl⟩ := Option.map_eq_some_iff.mp hx
    have x1 := k.ext nD
    have hS1 := x1.at hS
    have hV1 := hV.ext x1
    have im : i < ms.length := (List.getElem?_eq_some_iff.mp em).1
    have dm : ms.drop i = m :: ms.drop (i + 1) := by
      rw [List.drop_eq_getElem_cons im]
      congr 1
      exact (List.getElem?_eq_some_iff.mp em).2
    try walk_at "rn"
    refine wloop (fun n σ2 H2 => ∃ pl : Nat, n = ws.length - pl ∧ σ2 = [some (.ref r), some (.ref q0), some (.ref D), some (oV (valF none none (ws.take pl))), some (.int pl), some (.int m)] ∧ pl ≤ ws.length ∧ (∀ p ∈ ws.take pl, ∀ m ∈ ms.drop i, p.1 ≤ m) ∧ H2 = H1) ⟨_, pl, rfl, rfl, hpl, hlow, rfl⟩ ?_
    rintro n σ2 H2 ⟨pl, rfl, rfl, hpl, hlow, rfl⟩
    simp only [tSeq, tNext, tIfS, tAsg, gName, gSub, tRet, tRetN, tDrop, tVar, tC, tOp, tUn, rI0, rI, rU, tTest, tB, tAndV, tOrV, tNotV, tAnd, tOr, tNot, tIf, tChain, tCB, tCons, tNil, tLst, tTup, tCallC, List.getElem?_cons_zero, List.getElem?_cons_succ, List.set_cons_zero, List.set_cons_succ, Option.some.injEq, V.int.injEq, V.bl.injEq, V.ref.injEq, V.ty.injEq, V.str.injEq, List.cons.injEq, exists_eq_left', exists_eq_left, exists_and_left, and_true, true_and, and_assoc, cxK, rIxF, rSetL, rEq, rNe, scal, HO.lst.injEq, HO.tup.injEq, upd_none, ixN_10, ixN_20, ixN_21, ixN_30, ixN_31, ixN_32, upd_same, seqAt_updL, seqAt_updT, atI_0, atI_1, atI_2, atI_3, decide_eq_true_eq, L2.start, List.map_cons, List.map_nil, List.length_cons, List.length_nil, Nat.reduceAdd, Nat.reduceSub, List.replicate_succ, List.replicate_zero, List.cons_append, List.nil_append, List.append_nil, tFor_rng1, tFor_rng2, tFor_list, tFor_tup, CDv, CMul, CPow, sizeLine_eq, Int.reduceLE, Int.reduceLT, Int.reducePow, Int.reduceToNat, Int.reduceAdd, Int.reduceSub, Int.reduceMul, Int.reduceNeg, Nat.reduceLeDiff, Nat.reducePow, Nat.reduceLT, Int.reduceEq, true_or, or_true, ite_true, ite_false, if_true, if_false, Bool.not_true, Bool.not_false, Bool.false_eq_true, decide_true, decide_false, rIxQ, seqQ_updL, seqQ_updT, tupQ_updT, tSl, tNoPart, tPart, rSlQ, rCatQ, tTupQ, tLstQ, tNever, rEqD, rInQ, gTupQ, gCons, gNil, tBM, rAppend, rSlTQ, gSlice, tLc2_list, bodyL_tup, bodyL_list, bodyE_eq, tDGet, tLcD, tDGet2, sDPut, tFor_rng3, tLc_rng1, tLc_rng2, tLc_list, tLc_tup, tLc_enum, pick_nil, pick_own, pick_cap, join_some, tYes, tCallKC, gk_11, gk_31, tSortSet, tFor_zip, tAug, ipI, seqQ_lst hS1]
    have done : (∀ p ∈ ws.drop pl, m < p.1) → Pv (i + 1) [some (V.ref r), some (V.ref q0), some (V.ref D), some (oV (valF none none (ws.take pl))), some (V.int pl), some (V.int m)] (upd H2 D (.lst (((ms.take i).map fun m => valF (some m) none ws).map oV ++ [oV (valF none none (ws.take pl))]))) := fun hi => by
      rw [eP]
      refine ⟨pl, _, rfl, hpl, fun p hp m' hm' => hlow p hp m' (by rw [dm]; exact List.mem_cons_of_mem _ hm'), ?_, k.trans (Kp.upd hD)⟩
      rw [upd_same, List.take_add_one, em, Option.toList_some, List.map_append, List.map_append, List.map_cons, List.map_cons, List.map_nil, List.map_nil, valF_split (fun p hp => hlow p hp m (by rw [dm]; simp)) hi]
    have lenD : (((ms.take i).map fun m => valF (some m) none ws).map oV).length ≤ 1000 := by rw [List.length_map, List.length_map, List.length_take]; omega
    have fin : (∀ p ∈ ws.drop pl, m < p.1) → tyV K "list" (V.ref D) H2 ∧ ∃ x, H2 D = some (HO.lst x) ∧ x.length < 16777216 ∧ Pv (i + 1) [some (V.ref r), some (V.ref q0), some (V.ref D), some (oV (valF none none (ws.take pl))), some (V.int pl), some (V.int m)] (upd H2 D (HO.lst (x ++ [oV (valF none none (ws.take pl))]))) := fun hi =>
      ⟨.inl ⟨rfl, _, SqL.of hD⟩, _, hD, by omega, done hi⟩
    refine ite2 (fun c => ?_) (fun c => ?_)
    · have hp : pl < ws.length := by omega
      obtain ⟨u, eu⟩ : ∃ u, us[pl]? = some u := ⟨us[pl]'(by omega), List.getElem?_eq_getElem (by omega)⟩
      obtain ⟨p, a, ep, rfl, ea⟩ := hV1.get eu
      have eA : atI us (pl : Int) = some (.ref a) := by rw [atI_nat]; exact eu
      refine ⟨_, eA, a, rfl, _, seqQ_T ea, _, rfl, p.1, rfl, ?_⟩
      have tk : ws.take (pl + 1) = ws.take pl ++ [p] := by rw [List.take_add_one, ep]; rfl
      refine ite2 (fun c2 => ?_) (fun c2 => ?_)
      · refine ⟨_, fun _ _ h => h, _, eA, a, rfl, _, seqQ_T ea, _, rfl, ws.length - (pl + 1), by omega, pl + 1, rfl, ?_, hp, fun p' hp' m' hm' => ?_, rfl⟩
        · rw [tk, valF_snoc, if_pos (show okAt none p.1 = true from rfl)]
          rfl
        · rw [tk] at hp'
          rcases List.mem_append.mp hp' with z | z
          · exact hlow p' z m' hm'
          · have e : p' = p := by simpa using z
            rw [e]
            rw [dm] at hm'
            rcases List.mem_cons.mp hm' with rfl | hm'
            · exact c2
            · have hpw : (m :: ms.drop (i + 1)).Pairwise (· < ·) := by rw [← dm]; exact hm.sublist (List.drop_sublist _ _)
              have := (List.pairwise_cons.mp hpw).1 m' hm'
              omega
      · have c2 : ¬ p.1 ≤ m := c2
        refine fin fun p' hp' => ?_
        have hpe : ws[pl] = p := (List.getElem?_eq_some_iff.mp ep).2
        rw [List.drop_eq_getElem_cons hp, hpe] at hp'
        rcases List.mem_cons.mp hp' with rfl | hp'
        · omega
        · have hpw : (p :: ws.drop (pl + 1)).Pairwise (fun p q => p.1 < q.1) := by
            have := hR.sublist (List.drop_sublist pl ws)
            rw [List.drop_eq_getElem_cons hp, hpe] at this
            exact this
          have := (List.pairwise_cons.mp hpw).1 p' hp'
          omega
    · refine fin fun p' hp' => ?_
      rw [List.drop_eq_nil_of_le (by omega)] at hp'
      simp at hp'
  · intro σ' H1 h
    rw [eP] at h
    clear eP
    obtain ⟨pl, v5, rfl, hpl, hlow, hD, k⟩ := h
    have x1 := k.ext nD
    try walk_at "rn"
    refine ⟨r, us, ws, none, rfl, SqL.of (x1.at hS), by omega, hV.ext x1, ?_⟩
    intro b nb
    have x2 := Ext.new (K := K) (o := .lst [oV (valF none none ws)]) nb
    rw [List.length_map, List.take_length] at hD
    refine ⟨D, rfl, _, x2.at hD, by rw [List.length_map, List.length_map]; omega, fun b2 nb2 => ?_⟩
    have x3 := Ext.new (K := K) (o := .lst (((ms.map fun m => valF (some m) none ws).map oV) ++ [oV (valF none none ws)])) nb2
    refine q b2 _ ((x1.trans x2).was nb2.1) ?_ (x1.trans (x2.trans x3))
    rw [upd_same, viewsF, List.map_append]
    rfl
def spSweepV (K : PySem.W.Frag) : Sp := fun vs H Q _ => ∃ (r q : Addr) (us : List V) (ws : List (Int × Option Int)) (ms : List Int), vs = [.ref r, .ref q] ∧ H r = some (.lst us) ∧ Vers K H us ws ∧ Rising ws ∧ H q = some (.lst (ms.map V.int)) ∧ ms.Pairwise (· < ·) ∧ us.length ≤ 1000 ∧ ms.length ≤ 900 ∧
  ∀ (D : Addr) (us' : List V) (H' : Hp), H D = none → H' D = some (.lst us') → Vers K H' us' (sweepT ms (viewsF ws ms)) → Ext K H H' → Q (.ref D) H'
theorem sc_swept_versions : FnScope ["versions", "marks", "starts", "told", "last", "start", "sight"] ["versions", "marks"] (defScope s_swept_versions) := ⟨rfl, rfl, rfl, by decide +kernel, rfl, by decide +kernel, by decide +kernel⟩
theorem ok_swept_versions {f : Addr} {fd : FuncData} (F : Fun K "swept_versions" "swept_versions" s_swept_versions f fd) (B : B K mg aG tE) (C_sights_of : Callee P w K mg base "sights_of" 2 ["versions", "marks"] (spSights K)) : FnOk P w K mg base CX0 3 f fd ["versions", "marks"] (spSweepV K) := by
  refine F.okJ sc_swept_versions (fun vs H Q E h => ?_) (fun cdv A outer s H vs Q E hr h => ?_)
  · obtain ⟨r, q, us, ws, ms, rfl, _⟩ := h
    rfl
  obtain ⟨r, q0, us, ws, ms, rfl, hS, hV, hR, hq, hm, lu, lm, q⟩ := h
  refine ⟨_, (bcons (sset (i := 2) sc_swept_versions.nd rfl (Or.inl rfl) (eop op_catQ (elstQ (acons ei anil)) (elc (Cap.mk (N := ["mark"]) (src := [none]) rfl rfl) rfl (ilist (ev 1)) (fun _ _ _ _ => (gname (i := 0) (show (["mark"] : List Str).Nodup from by decide +kernel) rfl (Or.inl rfl))) (fun _ _ _ _ => fnone) (fun _ _ _ _ => (eop op_add (ev 0) ei)))))
      (bcons (sset (i := 3) sc_swept_versions.nd rfl (Or.inl rfl) (elstQ anil))
      (bcons (sset (i := 4) sc_swept_versions.nd rfl (Or.inl rfl) enon)
      (bcons (sfor PassesOwn.never rfl (izip rfl B.zip (acons (ev 2) (acons (ecall C_sights_of (hr.mono (by decide)) rfl (acons (ev 0) (acons (ev 1) anil))) anil))) (gtupQ (n := 2) rfl (gcons (gname (i := 5) sc_swept_versions.nd rfl (Or.inl rfl)) (gcons (gname (i := 6) sc_swept_versions.nd rfl (Or.inl rfl)) gnil)))
        (bcut (sif (tcmp op_ne (ev 6) (ev 4) (nomark _)) (bone (sexpr (ebm PySem.F.plainAttrs_list PySem.F.slot_list_append PySem.F.type_list_append mt_append (ev 3) (acons (etupQ (acons (ev 5) (acons (ev 6) anil))) anil)))) bnil)
      (bone (sset (i := 4) sc_swept_versions.nd rfl (Or.inl rfl) (ev 6)))))
      (bone (sret (ev 3))))))), ?_⟩
  try walk_at "rn"
  intro b0 n0
  have y0 := Ext.new (K := K) (o := .lst [.int 0]) n0
  refine ⟨⟨_, SqL.of (y0.at hq)⟩, fun b1 n1 => ?_⟩
  refine lc_mapQ (f := fun m => V.int m) (g := fun m : Int => V.int (m + 1)) (y0.at hq) n1 (by omega) (fun m hm H' Q' xx qq => ?_) (fun H1 h1 x1 => ?_)
  · try walk_at "rn"
    exact qq
  refine ⟨_, x1.at upd_same, _, h1, by rw [List.length_map]; simp only [List.length_cons, List.length_nil]; omega, fun b2 n2 => ?_⟩
  have y2 := Ext.new (K := K) (o := .lst ([V.int 0] ++ ms.map fun m => V.int (m + 1))) n2
  have e2 : (upd H1 b2 (.lst ([V.int 0] ++ ms.map fun m => V.int (m + 1)))) b2 = some (.lst ((nsF ms).map V.int)) := by rw [upd_same, nsF, List.map_cons, List.map_map]; rfl
  have x2 := y0.trans (x1.trans y2)
  generalize upd H1 b2 (.lst ([V.int 0] ++ ms.map fun m => V.int (m + 1))) = H2 at x2 e2 ⊢
  try walk_at "rn"
  intro D nD
  have y3 := Ext.new (K := K) (o := .lst []) nD
  have x3 := x2.trans y3
  refine ⟨r, q0, us, ws, ms, rfl, x3.at hS, hV.ext x3, hR, x3.at hq, hm, lu, by omega, fun S H4 nS hS4 x4 => ?_⟩
  have nD0 := x2.was nD.1
  have hD4 := x4.at (upd_same (H := H2) (a := D) (o := .lst []))
  have e4 := (y3.trans x4).at e2
  have nb : b2 ≠ D := ne_of_none e2 nD.1
  have nSD : S ≠ D := (ne_of_none (upd_same (H := H2) (a := D) (o := .lst [])) nS).symm
  have x04 := x3.trans x4
  try walk_at "rn"
  refine ⟨⟨_, SqL.of e4⟩, ⟨_, SqL.of hS4⟩, ?_⟩
  have ll : ((nsF ms).map V.int).length = ((viewsF ws ms).map oV).length := by rw [List.length_map, List.length_map, viewsF_len]; simp [nsF]
  obtain ⟨Pv, eP⟩ : ∃ Pv : Nat → St → Hp → Prop, Pv = fun i σ' H' => ∃ (v5 v6 : Option V) (us' : List V), σ' = [some (.ref r), some (.ref q0), some (.ref b2), some (.ref D), some (oV (pv (viewsF ws ms) i)), v5, v6] ∧ H' D = some (.lst us') ∧ Vers K H' us' (byT (nsF ms) (viewsF ws ms) i) ∧ us'.length ≤ i ∧ Kp K D H4 H' := ⟨_, rfl⟩
  refine loop_zip Pv ll ?_ ?_ ?_ ?_
  · rw [eP]
    exact ⟨_, _, [], rfl, hD4, trivial, Nat.zero_le _, Kp.refl⟩
  · intro i σ' H' _ h
    rw [eP] at h
    obtain ⟨_, _, _, _, _, _, _, k⟩ := h
    exact ⟨SqL.of (k.keep b2 _ e4 nb), SqL.of (k.keep S _ hS4 nSD)⟩
  · intro i x y σ' H5 T hx hy h nT
    rw [eP] at h
    obtain ⟨v5, v6, us', rfl, hD, hV', lu', k⟩ := h
    rw [List.getElem?_map] at hx hy
    obtain ⟨n, en, rfl⟩ := Option.map_eq_some_iff.mp hx
    obtain ⟨o, eo, rfl⟩ := Option.map_eq_some_iff.mp hy
    have il : i < ms.length + 1 := by have := (List.getElem?_eq_some_iff.mp eo).1; rw [viewsF_len] at this; exact this
    have gn : (nsF ms).getD i 0 = n := by rw [List.getD_eq_getElem?_getD, en]; rfl
    have go : (viewsF ws ms).getD i none = o := by rw [List.getD_eq_getElem?_getD, eo]; rfl
    have y5 := Ext.new (K := K) (o := .tup [.int n, oV o]) nT
    have bs : byT (nsF ms) (viewsF ws ms) (i + 1) = byT (nsF ms) (viewsF ws ms) i ++ if o = pv (viewsF ws ms) i then [] else [(n, o)] := by
      show byT (nsF ms) (viewsF ws ms) i ++ (if (viewsF ws ms).getD i none = pv (viewsF ws ms) i then [] else [((nsF ms).getD i 0, (viewsF ws ms).getD i none)]) = _
      rw [gn, go]
    have pn : pv (viewsF ws ms) (i + 1) = o := go
    try walk_at "rn"
    obtain ⟨J, eJ⟩ : ∃ J : St → Hp → Prop, J = fun σ1 G1 => ∃ us'', σ1 = [some (.ref r), some (.ref q0), some (.ref b2), some (.ref D), some (oV (pv (viewsF ws ms) i)), some (.int n), some (oV o)] ∧ G1 D = some (.lst us'') ∧ Vers K G1 us'' (byT (nsF ms) (viewsF ws ms) (i + 1)) ∧ us''.length ≤ i + 1 ∧ Kp K D H4 G1 := ⟨_, rfl⟩
    refine ⟨J, ?_, ?_⟩
    · try walk_at "rn"
      refine ⟨scal_oV, ?_⟩
      rw [dec_oV]
      by_cases c : o = pv (viewsF ws ms) i
      · rw [decide_eq_true c]
        try walk_at "rn"
        rw [if_pos c, List.append_nil] at bs
        rw [eJ]
        exact ⟨us', rfl, y5.at hD, by rw [bs]; exact hV'.ext y5, by omega, k.trans y5.kp⟩
      · rw [decide_eq_false c]
        try walk_at "rn"
        rw [if_neg c] at bs
        refine ⟨.inl ⟨rfl, _, SqL.of (y5.at hD)⟩, fun T2 nT2 => ?_⟩
        have y6 := Ext.new (K := K) (o := .tup [.int n, oV o]) nT2
        have hD6 := (y5.trans y6).at hD
        have kD : Kp K D _ (upd (upd (upd H5 T (.tup [.int n, oV o])) T2 (.tup [.int n, oV o])) D (.lst (us' ++ [.ref T2]))) := Kp.upd hD6
        refine ⟨_, hD6, by omega, ?_⟩
        rw [eJ]
        refine ⟨us' ++ [.ref T2], rfl, upd_same, ?_, by rw [List.length_append]; simp; omega, k.trans (y5.kp.trans (y6.kp.trans kD))⟩
        rw [bs]
        exact Vers.snoc (p := (n, o)) (kD.tup hD6 tupQ_updT) (((hV'.ext y5).ext y6).kp kD hD6)
    · intro σ1 G1 h
      rw [eJ] at h
      obtain ⟨us'', rfl, h1, h2, h3, h4⟩ := h
      try walk_at "rn"
      rw [eP]
      exact ⟨_, _, us'', by rw [pn], h1, h2, h3, h4⟩
  · intro σ' H5 h
    rw [eP] at h
    clear eP
    obtain ⟨v5, v6, us', rfl, hD, hV', lu', k⟩ := h
    try walk_at "rn"
    have le : ((nsF ms).map V.int).length = ms.length + 1 := by simp [nsF]
    rw [le] at hV'
    exact q D us' H5 nD0 hD hV' (x04.thenKp nD0 k)
structure Row where
  k : Int
  a : Addr
  us : List V
  ws : List (Int × Option Int)
abbrev Rs := List (V × Row)
def Rs.v (L : Rs) : List V := L.map fun q => q.1
def Row.kw (q : Row) : Int × List (Int × Option Int) := (q.k, q.ws)
def Rs.kw (L : Rs) : List (Int × List (Int × Option Int)) := L.map fun q => q.2.kw
def RowAt (K : PySem.W.Frag) (H : Hp) (u : V) (q : Row) : Prop := ∃ t, u = .ref t ∧ tupQ K H t = some [.int q.k, .ref q.a] ∧ H q.a = some (.lst q.us) ∧ Vers K H q.us q.ws
def RowsAt (K : PySem.W.Frag) (H : Hp) (L : Rs) : Prop := ∀ q ∈ L, RowAt K H q.1 q.2
theorem RowAt.ext {K : PySem.W.Frag} {H H' : Hp} {u : V} {q : Row} (h : RowAt K H u q) (x : Ext K H H') : RowAt K H' u q := by
  obtain ⟨t, e, h1, h2, h3⟩ := h
  exact ⟨t, e, x.tup h1, x.at h2, h3.ext x⟩
theorem RowsAt.ext {K : PySem.W.Frag} {H H' : Hp} {L : Rs} (h : RowsAt K H L) (x : Ext K H H') : RowsAt K H' L := fun q hq => (h q hq).ext x
theorem RowAt.kp {K : PySem.W.Frag} {H H' : Hp} {u : V} {q : Row} {p : Addr} {xs : List V} (h : RowAt K H u q) (k : Kp K p H H') (hp : H p = some (.lst xs)) (ne : q.a ≠ p) : RowAt K H' u q := by
  obtain ⟨t, e, h1, h2, h3⟩ := h
  exact ⟨t, e, k.tup hp h1, k.keep _ _ h2 ne, h3.kp k hp⟩
theorem RowsAt.kp {K : PySem.W.Frag} {H H' : Hp} {L : Rs} {p : Addr} {xs : List V} (h : RowsAt K H L) (k : Kp K p H H') (hp : H p = some (.lst xs)) (ne : ∀ q ∈ L, q.2.a ≠ p) : RowsAt K H' L := fun q hq => (h q hq).kp k hp (ne q hq)
theorem RowsAt.snoc {K : PySem.W.Frag} {H : Hp} {L : Rs} {u : V} {q : Row} (h : RowsAt K H L) (r : RowAt K H u q) : RowsAt K H (L ++ [(u, q)]) := fun p hp => by
  rcases List.mem_append.mp hp with z | z
  · exact h p z
  · have e : p = (u, q) := by simpa using z
    subst e
    exact r
def sweptF (ms : List Int) (rows : List (Int × List (Int × Option Int))) : List (Int × List (Int × Option Int)) := (rows.map fun r => (r.1, sweepT ms (viewsF r.2 ms))).filter fun r => !r.2.isEmpty
def Marks (H : Hp) (q : Addr) (ms : List Int) : Prop := H q = some (.lst (ms.map V.int)) ∧ ms.Pairwise (· < ·) ∧ ms.length ≤ 900
theorem Vers.emp {K : PySem.W.Frag} {H : Hp} : ∀ {us : List V} {ws : List (Int × Option Int)}, Vers K H us ws → us.isEmpty = ws.isEmpty
  | [], [], _ => rfl
  | _ :: _, _ :: _, _ => rfl
def spSwept (K : PySem.W.Frag) : Sp := fun vs H Q _ => ∃ (r q : Addr) (L : Rs) (ms : List Int), vs = [.ref r, .ref q] ∧ H r = some (.lst L.v) ∧ RowsAt K H L ∧ (∀ p ∈ L, Rising p.2.ws ∧ p.2.us.length ≤ 1000) ∧ L.length ≤ 1000 ∧ Marks H q ms ∧
  ∀ (D : Addr) (M : Rs) (H' : Hp), H D = none → H' D = some (.lst M.v) → RowsAt K H' M → M.kw = sweptF ms L.kw → (∀ p ∈ M, H p.2.a = none ∧ p.2.a ≠ D) → M.length ≤ L.length → Ext K H H' → Q (.ref D) H'
theorem sc_swept : FnScope ["rows", "marks", "told"] ["rows", "marks"] (defScope s_swept) := ⟨rfl, rfl, rfl, by decide +kernel, rfl, by decide +kernel, by decide +kernel⟩
theorem ok_swept {f : Addr} {fd : FuncData} (F : Fun K "swept" "swept" s_swept f fd) (B : B K mg aG tE) (C_swept_versions : Callee P w K mg base "swept_versions" 3 ["versions", "marks"] (spSweepV K)) : FnOk P w K mg base CX0 4 f fd ["rows", "marks"] (spSwept K) := by
  refine F.okJ sc_swept (fun vs H Q E h => ?_) (fun cdv A outer s H vs Q E hr h => ?_)
  · obtain ⟨r, q, L, ms, rfl, _⟩ := h
    rfl
  obtain ⟨r, q0, L, ms, rfl, hS, hL, hR, lL, ⟨hq, hm, lm⟩, q⟩ := h
  refine ⟨_, (bcons (slc (i := 2) sc_swept.nd rfl (Or.inl rfl) (Cap.mk (N := ["key", "versions", "marks"]) (src := [none, none, some 1]) rfl rfl) rfl (ilist (ev 0)) (fun _ _ _ _ => (gtupQK K (n := 2) rfl (gcons (gname (i := 0) (show (["key", "versions", "marks"] : List Str).Nodup from by decide +kernel) rfl (Or.inl rfl)) (gcons (gname (i := 1) (show (["key", "versions", "marks"] : List Str).Nodup from by decide +kernel) rfl (Or.inl rfl)) gnil)))) (fun _ _ _ _ => fnone) (fun _ _ _ _ => (etupQK K (acons (ev 0) (acons (ecall C_swept_versions (hr.mono (by decide)) rfl (acons (ev 1) (acons (ev 2) anil))) anil)))))
      (bone (sret (elc (Cap.mk (N := ["key", "versions"]) (src := [none, none]) rfl rfl) rfl (ilist (ev 2)) (fun _ _ _ _ => (gtupQK K (n := 2) rfl (gcons (gname (i := 0) (show (["key", "versions"] : List Str).Nodup from by decide +kernel) rfl (Or.inl rfl)) (gcons (gname (i := 1) (show (["key", "versions"] : List Str).Nodup from by decide +kernel) rfl (Or.inl rfl)) gnil)))) (fun _ _ _ _ => (fone (ttruthK K (ev 1) (fun _ => rfl)))) (fun _ _ _ _ => (etupQK K (acons (ev 0) (acons (ev 1) anil)))))))), ?_⟩
  try walk_at "rn"
  refine ⟨⟨_, SqL.of hS⟩, fun D nD => ?_⟩
  obtain ⟨J, eJ⟩ : ∃ J : Nat → List V → St → Hp → Prop, J = fun i acc σ' H' => ∃ (v0 v1 : Option V) (M : Rs), σ' = [v0, v1, some (.ref q0)] ∧ H' D = some (.lst acc) ∧ acc = M.v ∧ RowsAt K H' M ∧ M.kw = (Rs.kw (L.take i)).map (fun r => (r.1, sweepT ms (viewsF r.2 ms))) ∧ (∀ p ∈ M, H p.2.a = none ∧ p.2.a ≠ D) ∧ M.length ≤ i ∧ Kp K D (upd H D (.lst [])) H' := ⟨_, rfl⟩
  refine lc_list (xs := L.v) J ?_ ?_ ?_ ?_
  · rw [eJ]
    exact ⟨_, _, [], rfl, upd_same, rfl, (fun p hp => nomatch hp), rfl, (fun p hp => nomatch hp), Nat.le_refl _, Kp.refl⟩
  · intro i acc σ' H' _ h
    rw [eJ] at h
    obtain ⟨_, _, _, _, _, _, _, _, _, _, k⟩ := h
    exact SqL.of ((k.ext nD).at hS)
  · intro i x acc σ' H1 hx h
    rw [eJ] at h
    obtain ⟨v0, v1, M, rfl, hD, rfl, hM, eM, nM, lM, k⟩ := h
    rw [Rs.v, List.getElem?_map] at hx
    obtain ⟨p, ep, rfl⟩ := Option.map_eq_some_iff.mp hx
    have il : i < L.length := (List.getElem?_eq_some_iff.mp ep).1
    have x1 := k.ext nD
    have mp := List.mem_of_getElem? ep
    obtain ⟨t, e1, e2, e3, e4⟩ := (hL.ext x1) p mp
    rw [e1]
    simp only [tSeq, tNext, tIfS, tAsg, gName, gSub, tRet, tRetN, tDrop, tVar, tC, tOp, tUn, rI0, rI, rU, tTest, tB, tAndV, tOrV, tNotV, tAnd, tOr, tNot, tIf, tChain, tCB, tCons, tNil, tLst, tTup, tCallC, List.getElem?_cons_zero, List.getElem?_cons_succ, List.set_cons_zero, List.set_cons_succ, Option.some.injEq, V.int.injEq, V.bl.injEq, V.ref.injEq, V.ty.injEq, V.str.injEq, List.cons.injEq, exists_eq_left', exists_eq_left, exists_and_left, and_true, true_and, and_assoc, cxK, rIxF, rSetL, rEq, rNe, scal, HO.lst.injEq, HO.tup.injEq, upd_none, ixN_10, ixN_20, ixN_21, ixN_30, ixN_31, ixN_32, upd_same, seqAt_updL, seqAt_updT, atI_0, atI_1, atI_2, atI_3, decide_eq_true_eq, L2.start, List.map_cons, List.map_nil, List.length_cons, List.length_nil, Nat.reduceAdd, Nat.reduceSub, List.replicate_succ, List.replicate_zero, List.cons_append, List.nil_append, List.append_nil, tFor_rng1, tFor_rng2, tFor_list, tFor_tup, CDv, CMul, CPow, sizeLine_eq, Int.reduceLE, Int.reduceLT, Int.reducePow, Int.reduceToNat, Int.reduceAdd, Int.reduceSub, Int.reduceMul, Int.reduceNeg, Nat.reduceLeDiff, Nat.reducePow, Nat.reduceLT, Int.reduceEq, true_or, or_true, ite_true, ite_false, if_true, if_false, Bool.not_true, Bool.not_false, Bool.false_eq_true, decide_true, decide_false, rIxQ, seqQ_updL, seqQ_updT, tupQ_updT, tSl, tNoPart, tPart, rSlQ, rCatQ, tTupQ, tLstQ, tNever, rEqD, rInQ, gTupQ, gCons, gNil, tBM, rAppend, rSlTQ, gSlice, tLc2_list, bodyL_tup, bodyL_list, bodyE_eq, tDGet, tLcD, tDGet2, sDPut, tFor_rng3, tLc_rng1, tLc_rng2, tLc_list, tLc_tup, tLc_enum, pick_nil, pick_own, pick_cap, join_some, tYes, tCallKC, gk_11, gk_31, tSortSet, tFor_zip, tAug, ipI, e2]
    refine ⟨p.2.a, q0, p.2.us, p.2.ws, ms, rfl, e3, e4, (hR p mp).1, x1.at hq, hm, (hR p mp).2, lm, fun Dv us' H2 nDv hDv hVv x2 => ?_⟩
    intro T nT
    have x3 := Ext.new (K := K) (o := .tup [.int p.2.k, .ref Dv]) nT
    have x23 := x2.trans x3
    have hD3 := x23.at hD
    have neD : Dv ≠ D := (ne_of_none hD nDv).symm
    have kD : Kp K D _ (upd (upd H2 T (.tup [.int p.2.k, .ref Dv])) D (.lst (M.v ++ [.ref T]))) := Kp.upd hD3
    refine ⟨hD3, by rw [Rs.v, List.length_map]; omega, ?_⟩
    rw [eJ]
    refine ⟨_, _, M ++ [(.ref T, ⟨p.2.k, Dv, us', sweepT ms (viewsF p.2.ws ms)⟩)], rfl, upd_same, by simp [Rs.v], ?_, ?_, ?_, by rw [List.length_append]; simp; omega, k.trans (x23.kp.trans kD)⟩
    · exact (RowsAt.snoc (hM.ext x23) ⟨T, rfl, tupQ_updT, x3.at hDv, hVv.ext x3⟩).kp kD hD3 fun p' hp' => by
        rcases List.mem_append.mp hp' with z | z
        · exact (nM p' z).2
        · have e : p' = (.ref T, ⟨p.2.k, Dv, us', sweepT ms (viewsF p.2.ws ms)⟩) := by simpa using z
          rw [e]
          exact neD
    · rw [List.take_add_one, ep, Option.toList_some, Rs.kw, List.map_append, Rs.kw, List.map_append, List.map_append]
      have eM' := eM
      rw [Rs.kw, Rs.kw] at eM'
      rw [eM']
      rfl
    · intro p' hp'
      rcases List.mem_append.mp hp' with z | z
      · exact nM p' z
      · have e : p' = (.ref T, ⟨p.2.k, Dv, us', sweepT ms (viewsF p.2.ws ms)⟩) := by simpa using z
        rw [e]
        exact ⟨x1.was nDv, neD⟩
  intro acc σ' H1 h
  rw [eJ] at h
  clear eJ
  obtain ⟨v0, v1, M, rfl, hD, rfl, hM, eM, nM, lM, k⟩ := h
  try walk_at "rn"
  have x1 := k.ext nD
  rw [Rs.v, List.length_map] at lM eM
  rw [List.take_length] at eM
  refine ⟨⟨_, SqL.of hD⟩, fun D2 nD2 => ?_⟩
  have nD2' := x1.was nD2.1
  obtain ⟨J2, eJ2⟩ : ∃ J : Nat → List V → St → Hp → Prop, J = fun i acc σ' H' => ∃ (v0 v1 : Option V) (N : Rs), σ' = [v0, v1] ∧ H' D2 = some (.lst acc) ∧ acc = N.v ∧ RowsAt K H' N ∧ N.kw = (Rs.kw (M.take i)).filter (fun r => !r.2.isEmpty) ∧ (∀ p ∈ N, H p.2.a = none ∧ p.2.a ≠ D2) ∧ N.length ≤ i ∧ Kp K D2 (upd H1 D2 (.lst [])) H' := ⟨_, rfl⟩
  refine lc_list (xs := M.v) J2 ?_ ?_ ?_ ?_
  · rw [eJ2]
    exact ⟨_, _, [], rfl, upd_same, rfl, (fun p hp => nomatch hp), rfl, (fun p hp => nomatch hp), Nat.le_refl _, Kp.refl⟩
  · intro i acc σ' H' _ h
    rw [eJ2] at h
    obtain ⟨_, _, _, _, _, _, _, _, _, _, k⟩ := h
    exact SqL.of ((k.ext nD2).at hD)
  · intro i x acc σ' H2 hx h
    rw [eJ2] at h
    obtain ⟨v0, v1, N, rfl, hD2, rfl, hN, eN, nN, lN, k2⟩ := h
    rw [Rs.v, List.getElem?_map] at hx
    obtain ⟨p, ep, rfl⟩ := Option.map_eq_some_iff.mp hx
    have il : i < M.length := (List.getElem?_eq_some_iff.mp ep).1
    have x2 := k2.ext nD2
    have mp := List.mem_of_getElem? ep
    obtain ⟨t, e1, e2, e3, e4⟩ := (hM.ext x2) p mp
    rw [e1]
    simp only [tSeq, tNext, tIfS, tAsg, gName, gSub, tRet, tRetN, tDrop, tVar, tC, tOp, tUn, rI0, rI, rU, tTest, tB, tAndV, tOrV, tNotV, tAnd, tOr, tNot, tIf, tChain, tCB, tCons, tNil, tLst, tTup, tCallC, List.getElem?_cons_zero, List.getElem?_cons_succ, List.set_cons_zero, List.set_cons_succ, Option.some.injEq, V.int.injEq, V.bl.injEq, V.ref.injEq, V.ty.injEq, V.str.injEq, List.cons.injEq, exists_eq_left', exists_eq_left, exists_and_left, and_true, true_and, and_assoc, cxK, rIxF, rSetL, rEq, rNe, scal, HO.lst.injEq, HO.tup.injEq, upd_none, ixN_10, ixN_20, ixN_21, ixN_30, ixN_31, ixN_32, upd_same, seqAt_updL, seqAt_updT, atI_0, atI_1, atI_2, atI_3, decide_eq_true_eq, L2.start, List.map_cons, List.map_nil, List.length_cons, List.length_nil, Nat.reduceAdd, Nat.reduceSub, List.replicate_succ, List.replicate_zero, List.cons_append, List.nil_append, List.append_nil, tFor_rng1, tFor_rng2, tFor_list, tFor_tup, CDv, CMul, CPow, sizeLine_eq, Int.reduceLE, Int.reduceLT, Int.reducePow, Int.reduceToNat, Int.reduceAdd, Int.reduceSub, Int.reduceMul, Int.reduceNeg, Nat.reduceLeDiff, Nat.reducePow, Nat.reduceLT, Int.reduceEq, true_or, or_true, ite_true, ite_false, if_true, if_false, Bool.not_true, Bool.not_false, Bool.false_eq_true, decide_true, decide_false, rIxQ, seqQ_updL, seqQ_updT, tupQ_updT, tSl, tNoPart, tPart, rSlQ, rCatQ, tTupQ, tLstQ, tNever, rEqD, rInQ, gTupQ, gCons, gNil, tBM, rAppend, rSlTQ, gSlice, tLc2_list, bodyL_tup, bodyL_list, bodyE_eq, tDGet, tLcD, tDGet2, sDPut, tFor_rng3, tLc_rng1, tLc_rng2, tLc_list, tLc_tup, tLc_enum, pick_nil, pick_own, pick_cap, join_some, tYes, tCallKC, gk_11, gk_31, tSortSet, tFor_zip, tAug, ipI, e2]
    have tk : (Rs.kw (M.take (i + 1))).filter (fun r => !r.2.isEmpty) = (Rs.kw (M.take i)).filter (fun r => !r.2.isEmpty) ++ [p.2.kw].filter (fun r => !r.2.isEmpty) := by
      rw [List.take_add_one, ep, Option.toList_some, Rs.kw, List.map_append, List.filter_append]
      rfl
    refine ⟨!p.2.us.isEmpty, .inl ⟨_, SqL.of e3, rfl⟩, ?_⟩
    have em := e4.emp
    cases c : p.2.ws.isEmpty with
    | true =>
      rw [em, c]
      try walk_at "rn"
      rw [eJ2]
      refine ⟨_, _, N, rfl, hD2, rfl, hN, ?_, nN, by omega, k2⟩
      rw [tk, List.filter_cons_of_neg (by show ¬ (!p.2.ws.isEmpty) = true; rw [c]; decide), List.filter_nil, List.append_nil]
      exact eN
    | false =>
      rw [em, c]
      try walk_at "rn"
      intro T nT
      have x3 := Ext.new (K := K) (o := .tup [.int p.2.k, .ref p.2.a]) nT
      have hD3 := x3.at hD2
      have neD : p.2.a ≠ D2 := by
        have : H1 p.2.a = some (.lst p.2.us) := by obtain ⟨_, _, _, h, _⟩ := hM p mp; exact h
        exact ne_of_none this nD2.1
      have kD : Kp K D2 _ (upd (upd H2 T (.tup [.int p.2.k, .ref p.2.a])) D2 (.lst (N.v ++ [.ref T]))) := Kp.upd hD3
      refine ⟨hD3, by rw [Rs.v, List.length_map]; omega, ?_⟩
      rw [eJ2]
      refine ⟨_, _, N ++ [(.ref T, p.2)], rfl, upd_same, by simp [Rs.v], ?_, ?_, ?_, by rw [List.length_append]; simp; omega, k2.trans (x3.kp.trans kD)⟩
      · exact (RowsAt.snoc (hN.ext x3) ⟨T, rfl, tupQ_updT, x3.at e3, e4.ext x3⟩).kp kD hD3 fun p' hp' => by
          rcases List.mem_append.mp hp' with z | z
          · exact (nN p' z).2
          · have e : p' = (.ref T, p.2) := by simpa using z
            rw [e]
            exact neD
      · rw [tk, List.filter_cons_of_pos (by show (!p.2.ws.isEmpty) = true; rw [c]; rfl), List.filter_nil, ← eN, Rs.kw, List.map_append]
        rfl
      · intro p' hp'
        rcases List.mem_append.mp hp' with z | z
        · exact nN p' z
        · have e : p' = (.ref T, p.2) := by simpa using z
          rw [e]
          exact ⟨(nM p mp).1, neD⟩
  intro acc σ' H2 h
  rw [eJ2] at h
  obtain ⟨v0, v1, N, rfl, hD2, rfl, hN, eN, nN, lN, k2⟩ := h
  rw [Rs.v, List.length_map] at lN eN
  rw [List.take_length, eM] at eN
  exact q D2 N H2 nD2' hD2 hN eN nN (by omega) (x1.trans (k2.ext nD2))
inductive Half where
  | plus (n : Int) | is (n : Int) | gone
def Half.v : Half → List V
  | .plus n => [.str "plus", .int n]
  | .is n => [.str "is", .int n]
  | .gone => [.str "gone"]
def Half.noPlus : Half → Prop
  | .plus _ => False
  | _ => True
def Half.f : Half → Option Int → Option Int
  | .plus n, some i => some (i + n)
  | .plus _, none => none
  | .is n, _ => some n
  | .gone, _ => none
def actF (t n : Half) : Option Int → Option Int
  | some i => t.f (some i)
  | none => n.f none
def Act (K : PySem.W.Frag) (H : Hp) (v : V) (t n : Half) : Prop := ∃ a r s, v = .ref a ∧ tupQ K H a = some [.ref r, .ref s] ∧ tupQ K H r = some t.v ∧ tupQ K H s = some n.v ∧ n.noPlus
theorem Act.ext {K : PySem.W.Frag} {H H' : Hp} {v : V} {t n : Half} (h : Act K H v t n) (x : Ext K H H') : Act K H' v t n := by
  obtain ⟨a, r, s, rfl, e1, e2, e3, e4⟩ := h
  exact ⟨a, r, s, rfl, x.tup e1, x.tup e2, x.tup e3, e4⟩
theorem Act.kp {K : PySem.W.Frag} {H H' : Hp} {v : V} {t n : Half} {p : Addr} {xs : List V} (h : Act K H v t n) (k : Kp K p H H') (hp : H p = some (.lst xs)) : Act K H' v t n := by
  obtain ⟨a, r, s, rfl, e1, e2, e3, e4⟩ := h
  exact ⟨a, r, s, rfl, k.tup hp e1, k.tup hp e2, k.tup hp e3, e4⟩
theorem s1 : ¬ (("plus" : Str) = "is") := by decide +kernel
theorem s2 : ¬ (("gone" : Str) = "is") := by decide +kernel
theorem s3 : ¬ (("is" : Str) = "plus") := by decide +kernel
theorem s4 : ¬ (("gone" : Str) = "plus") := by decide +kernel
def Half.of : Option Int → Half
  | some k => .is k
  | none => .gone
def Half.then : Half → Half → Half → Half
  | .plus a, .plus b, _ => .plus (a + b)
  | .plus _, t, _ => t
  | .is a, t, n => Half.of (actF t n (some a))
  | .gone, t, n => Half.of (actF t n none)
theorem Half.of_noPlus (o : Option Int) : (Half.of o).noPlus := by cases o <;> trivial
theorem Half.then_noPlus {h : Half} (t n : Half) (hh : h.noPlus) : (h.then t n).noPlus := by
  cases h with
  | plus k => exact hh.elim
  | is k => exact Half.of_noPlus _
  | gone => exact Half.of_noPlus _
def spBehind (K : PySem.W.Frag) : Sp := fun vs H Q _ => ∃ v t n v' t' n', vs = [v, v'] ∧ Act K H v t n ∧ Act K H v' t' n' ∧ ∀ u H', Act K H' u (t.then t' n') (n.then t' n') → Ext K H H' → Q u H'
def Half.d : Half → PyData
  | .plus n => .tuple [.str "plus", .int n]
  | .is n => .tuple [.str "is", .int n]
  | .gone => .tuple [.str "gone"]
def actD (t n : Half) : PyData := .tuple [t.d, n.d]
theorem Half.is_d {K : PySem.W.Frag} {H : Hp} {r : Addr} {h : Half} (e : tupQ K H r = some h.v) : Is K H h.d (.ref r) := by
  cases h with
  | plus n => simp only [Half.d, Is, IsAll]; exact ⟨r, _, rfl, tupQ_sq e, _, _, rfl, rfl, _, _, rfl, rfl, rfl⟩
  | is n => simp only [Half.d, Is, IsAll]; exact ⟨r, _, rfl, tupQ_sq e, _, _, rfl, rfl, _, _, rfl, rfl, rfl⟩
  | gone => simp only [Half.d, Is, IsAll]; exact ⟨r, _, rfl, tupQ_sq e, _, _, rfl, rfl, rfl⟩
theorem Act.is {K : PySem.W.Frag} {H : Hp} {v : V} {t n : Half} (h : Act K H v t n) : Is K H (actD t n) v := by
  obtain ⟨a, r, s, rfl, e1, e2, e3, _⟩ := h
  simp only [actD, Is, IsAll]
  exact ⟨a, _, rfl, tupQ_sq e1, _, _, rfl, Half.is_d e2, _, _, rfl, Half.is_d e3, rfl⟩
theorem nob_act (t n : Half) : nob (actD t n) = true := by cases t <;> cases n <;> rfl
theorem actF_then {t n t' n' : Half} (hn : n.noPlus) (hn' : n'.noPlus) (val : Option Int) : actF (t.then t' n') (n.then t' n') val = actF t' n' (actF t n val) := by
  cases val with
  | none =>
    cases n with
    | plus k => exact hn.elim
    | is k => cases t' <;> simp [actF, Half.f, Half.then, Half.of]
    | gone => cases n' <;> first | exact hn'.elim | simp [actF, Half.f, Half.then, Half.of]
  | some i =>
    cases t with
    | plus k => cases t' <;> simp [actF, Half.f, Half.then, Half.of, Int.add_assoc]
    | is k => cases t' <;> simp [actF, Half.f, Half.then, Half.of]
    | gone => cases n' <;> first | exact hn'.elim | simp [actF, Half.f, Half.then, Half.of]
structure Nt where
  n : Int
  lo : Int
  hi : Int
  t : Half
  m : Half
structure Nt.ok (e : Nt) : Prop where
  n1 : 1 ≤ e.n
  lo0 : 0 ≤ e.lo
  lt : e.lo < e.hi
  hi1 : e.hi ≤ 1000000000000
  one : e.hi - e.lo = 1 ∨ e.m = .gone
  np : e.m.noPlus
def NoteAt (K : PySem.W.Frag) (H : Hp) (v : V) (e : Nt) : Prop := ∃ a w, v = .ref a ∧ tupQ K H a = some [.int e.n, .int e.lo, .int e.hi, w] ∧ Act K H w e.t e.m
theorem NoteAt.ext {K : PySem.W.Frag} {H H' : Hp} {v : V} {e : Nt} (h : NoteAt K H v e) (x : Ext K H H') : NoteAt K H' v e := by
  obtain ⟨a, w, rfl, h1, h2⟩ := h
  exact ⟨a, w, rfl, x.tup h1, h2.ext x⟩
theorem NoteAt.kp {K : PySem.W.Frag} {H H' : Hp} {v : V} {e : Nt} {p : Addr} {xs : List V} (h : NoteAt K H v e) (k : Kp K p H H') (hp : H p = some (.lst xs)) : NoteAt K H' v e := by
  obtain ⟨a, w, rfl, h1, h2⟩ := h
  exact ⟨a, w, rfl, k.tup hp h1, h2.kp k hp⟩
def Nt.has (e : Nt) (k : Int) : Bool := decide (e.lo ≤ k ∧ k < e.hi)
def Nt.com (e e' : Nt) : Bool := decide (e.lo < e'.hi ∧ e'.lo < e.hi)
def mx (a b : Int) : Int := if b > a then b else a
def mn (a b : Int) : Int := if b < a then b else a
def Nt.cut (e : Nt) (lo hi : Int) : Nt := { e with lo := mx e.lo lo, hi := mn e.hi hi }
def spCommon (K : PySem.W.Frag) : Sp := fun vs H Q _ => ∃ v e v' e', vs = [v, v'] ∧ NoteAt K H v e ∧ NoteAt K H v' e' ∧ Q (.bl (e.com e')) H
def spCut (K : PySem.W.Frag) : Sp := fun vs H Q _ => ∃ v e lo hi, vs = [v, .int lo, .int hi] ∧ NoteAt K H v e ∧
  (mx e.lo lo < mn e.hi hi → ∀ b H', NoteAt K H' b (e.cut lo hi) → Ext K H H' → Q b H') ∧ (¬ mx e.lo lo < mn e.hi hi → Q .non H)
abbrev Tr := List (V × Nt)
def TrayAt (K : PySem.W.Frag) (H : Hp) (L : Tr) : Prop := ∀ q ∈ L, NoteAt K H q.1 q.2 ∧ q.2.ok
theorem TrayAt.ext {K : PySem.W.Frag} {H H' : Hp} {L : Tr} (h : TrayAt K H L) (x : Ext K H H') : TrayAt K H' L := fun q hq => ⟨(h q hq).1.ext x, (h q hq).2⟩
theorem TrayAt.kp {K : PySem.W.Frag} {H H' : Hp} {L : Tr} {p : Addr} {xs : List V} (h : TrayAt K H L) (k : Kp K p H H') (hp : H p = some (.lst xs)) : TrayAt K H' L := fun q hq => ⟨(h q hq).1.kp k hp, (h q hq).2⟩
theorem TrayAt.sub {K : PySem.W.Frag} {H : Hp} {L L' : Tr} (h : TrayAt K H L) (s : ∀ q ∈ L', q ∈ L) : TrayAt K H L' := fun q hq => h q (s q hq)
theorem TrayAt.app {K : PySem.W.Frag} {H : Hp} {L L' : Tr} (h : TrayAt K H L) (h' : TrayAt K H L') : TrayAt K H (L ++ L') := fun q hq => (List.mem_append.mp hq).elim (h q) (h' q)
abbrev Tr.v (L : Tr) : List V := L.map (·.1)
def seeF (L : Tr) (key : Int) (at_ : Option Int) (v : Option Int) : Option Int := (L.filter fun q => q.2.has key && okAt at_ q.2.n).foldl (fun v q => actF q.2.t q.2.m v) v
def Nt.d (e : Nt) : PyData := .tuple [.int e.n, .int e.lo, .int e.hi, actD e.t e.m]
theorem NoteAt.is {K : PySem.W.Frag} {H : Hp} {v : V} {e : Nt} (h : NoteAt K H v e) : Is K H e.d v := by
  obtain ⟨a, w, rfl, h1, h2⟩ := h
  simp only [Nt.d, Is, IsAll]
  exact ⟨a, _, rfl, tupQ_sq h1, _, _, rfl, rfl, _, _, rfl, rfl, _, _, rfl, rfl, _, _, rfl, h2.is, rfl⟩
theorem Nt.shaped (e : Nt) : SeqAt.shaped e.d = true := by
  obtain ⟨n, lo, hi, t, m⟩ := e
  cases t <;> cases m <;> simp only [SeqAt.shaped, Nt.d, actD, Half.d, PyData.canLay0, PyData.canLayAll0, PyData.depth, PyData.depthAll] <;> decide +kernel
theorem Nt.nob (e : Nt) : L2.nob e.d = true := by simp [Nt.d, L2.nob, nobAll, nob_act]
theorem Nt.same (e : Nt) : PyData.eqv e.d e.d = true := (eqv_iff e.nob e.nob).mpr rfl
def Half.word : Half → Str
  | .plus _ => "plus"
  | .is _ => "is"
  | .gone => "gone"
def Half.hd : Half → PyData
  | .plus n => .tuple [.str "plus", .int n]
  | .is n => .tuple [.str "is", .int n]
  | .gone => .tuple [.str "gone"]
theorem Half.is_hd {K : PySem.W.Frag} {H : Hp} {r : Addr} {h : Half} (e : tupQ K H r = some h.v) : Is K H h.hd (.ref r) := by
  cases h with
  | plus n => simp only [Half.hd, Is, IsAll]; exact ⟨r, _, rfl, tupQ_sq e, _, _, rfl, rfl, _, _, rfl, rfl, rfl⟩
  | is n => simp only [Half.hd, Is, IsAll]; exact ⟨r, _, rfl, tupQ_sq e, _, _, rfl, rfl, _, _, rfl, rfl, rfl⟩
  | gone => simp only [Half.hd, Is, IsAll]; exact ⟨r, _, rfl, tupQ_sq e, _, _, rfl, rfl, rfl⟩
theorem Half.shaped (h : Half) : SeqAt.shaped h.hd = true := by
  cases h <;> simp only [SeqAt.shaped, Half.hd, PyData.canLay0, PyData.canLayAll0, PyData.depth, PyData.depthAll] <;> decide +kernel
theorem Half.eqv_gone (h : Half) : PyData.eqv h.hd Half.gone.hd = (match h with | .gone => true | _ => false) := by
  cases h <;> simp only [Half.hd, PyData.eqv, PyData.eqvAll] <;> decide +kernel
def spHalfActs (K : PySem.W.Frag) : Sp := fun vs H Q _ => ∃ r h val, vs = [.ref r, oV val] ∧ tupQ K H r = some (Half.v h) ∧ (val = none → h.noPlus) ∧ Q (oV (h.f val)) H
def spDoes (K : PySem.W.Frag) : Sp := fun vs H Q _ => ∃ v t n val, vs = [v, oV val] ∧ Act K H v t n ∧ Q (oV (actF t n val)) H
theorem sc_half_acts : FnScope ["half", "value", "word", "number"] ["half", "value"] (defScope s_half_acts) := ⟨rfl, rfl, rfl, by decide +kernel, rfl, by decide +kernel, by decide +kernel⟩
theorem ok_half_acts {f : Addr} {fd : FuncData} (F : Fun K "half_acts" "half_acts" s_half_acts f fd) (B : B K mg aG tE) : FnOk P w K mg base CX0 1 f fd ["half", "value"] (spHalfActs K) := by
  refine F.okM sc_half_acts (fun vs H Q E h => ?_) (fun cdv A outer s H vs Q E hr hm h => ?_)
  · obtain ⟨r, h, val, rfl, _⟩ := h
    rfl
  obtain ⟨r, h, val, rfl, hq, hv, q⟩ := h
  refine ⟨_, (bcons (sif (tcmp (op_eqD hr.units) (ev 0) (eglob rfl B.GONE B.GONE_is) (nomark _)) (bone (sret enon)) bnil)
      (bcons (sasg (ev 0) (gtupQ (n := 2) rfl (gcons (gname (i := 2) sc_half_acts.nd rfl (Or.inl rfl)) (gcons (gname (i := 3) sc_half_acts.nd rfl (Or.inl rfl)) gnil))))
      (bone (sret (eif (tcmp op_eq (ev 2) estr (nomark _)) (eop op_add (ev 1) (ev 3)) (ev 3)))))), ?_⟩
  try walk_at "rd"
  refine ⟨h.hd, Half.is_hd hq, Half.gone.hd, Half.is_hd (h := .gone) (hm.tup B.kG), h.shaped, Half.shaped .gone, ?_⟩
  rw [Half.eqv_gone]
  cases h with
  | plus n =>
    cases val with
    | none => exact (hv rfl).elim
    | some i =>
      simp only [tSeq, tNext, tIfS, tAsg, gName, gSub, tRet, tRetN, tDrop, tVar, tC, tOp, tUn, rI0, rI, rU, tTest, tB, tAndV, tOrV, tNotV, tAnd, tOr, tNot, tIf, tChain, tCB, tCons, tNil, tLst, tTup, tCallC, List.getElem?_cons_zero, List.getElem?_cons_succ, List.set_cons_zero, List.set_cons_succ, Option.some.injEq, V.int.injEq, V.bl.injEq, V.ref.injEq, V.ty.injEq, V.str.injEq, List.cons.injEq, exists_eq_left', exists_eq_left, exists_and_left, and_true, true_and, and_assoc, cxK, rIxF, rSetL, rEq, rNe, scal, HO.lst.injEq, HO.tup.injEq, upd_none, ixN_10, ixN_20, ixN_21, ixN_30, ixN_31, ixN_32, upd_same, seqAt_updL, seqAt_updT, atI_0, atI_1, atI_2, atI_3, decide_eq_true_eq, L2.start, List.map_cons, List.map_nil, List.length_cons, List.length_nil, Nat.reduceAdd, Nat.reduceSub, List.replicate_succ, List.replicate_zero, List.cons_append, List.nil_append, List.append_nil, tFor_rng1, tFor_rng2, tFor_list, tFor_tup, CDv, CMul, CPow, sizeLine_eq, Int.reduceLE, Int.reduceLT, Int.reducePow, Int.reduceToNat, Int.reduceAdd, Int.reduceSub, Int.reduceMul, Int.reduceNeg, Nat.reduceLeDiff, Nat.reducePow, Nat.reduceLT, Int.reduceEq, true_or, or_true, ite_true, ite_false, if_true, if_false, Bool.not_true, Bool.not_false, Bool.false_eq_true, decide_true, decide_false, rIxQ, seqQ_updL, seqQ_updT, tupQ_updT, tSl, tNoPart, tPart, rSlQ, rCatQ, tTupQ, tLstQ, new_upd, tNever, rEqD, rInQ, gTupQ, gCons, gNil, tBM, rAppend, rSlTQ, gSlice, tLc2_list, bodyL_tup, bodyL_list, bodyE_eq, tDGet, tLcD, tDGet2, sDPut, tFor_rng3, tLc_rng1, tLc_rng2, tLc_list, tLc_tup, tLc_enum, pick_nil, pick_own, pick_cap, join_some, tYes, tCallKC, gk_11, gk_31, tSortSet, tFor_zip, tAug, ipI, hq,  Half.v,  oV]
      exact q
  | is n =>
    simp only [tSeq, tNext, tIfS, tAsg, gName, gSub, tRet, tRetN, tDrop, tVar, tC, tOp, tUn, rI0, rI, rU, tTest, tB, tAndV, tOrV, tNotV, tAnd, tOr, tNot, tIf, tChain, tCB, tCons, tNil, tLst, tTup, tCallC, List.getElem?_cons_zero, List.getElem?_cons_succ, List.set_cons_zero, List.set_cons_succ, Option.some.injEq, V.int.injEq, V.bl.injEq, V.ref.injEq, V.ty.injEq, V.str.injEq, List.cons.injEq, exists_eq_left', exists_eq_left, exists_and_left, and_true, true_and, and_assoc, cxK, rIxF, rSetL, rEq, rNe, scal, HO.lst.injEq, HO.tup.injEq, upd_none, ixN_10, ixN_20, ixN_21, ixN_30, ixN_31, ixN_32, upd_same, seqAt_updL, seqAt_updT, atI_0, atI_1, atI_2, atI_3, decide_eq_true_eq, L2.start, List.map_cons, List.map_nil, List.length_cons, List.length_nil, Nat.reduceAdd, Nat.reduceSub, List.replicate_succ, List.replicate_zero, List.cons_append, List.nil_append, List.append_nil, tFor_rng1, tFor_rng2, tFor_list, tFor_tup, CDv, CMul, CPow, sizeLine_eq, Int.reduceLE, Int.reduceLT, Int.reducePow, Int.reduceToNat, Int.reduceAdd, Int.reduceSub, Int.reduceMul, Int.reduceNeg, Nat.reduceLeDiff, Nat.reducePow, Nat.reduceLT, Int.reduceEq, true_or, or_true, ite_true, ite_false, if_true, if_false, Bool.not_true, Bool.not_false, Bool.false_eq_true, decide_true, decide_false, rIxQ, seqQ_updL, seqQ_updT, tupQ_updT, tSl, tNoPart, tPart, rSlQ, rCatQ, tTupQ, tLstQ, new_upd, tNever, rEqD, rInQ, gTupQ, gCons, gNil, tBM, rAppend, rSlTQ, gSlice, tLc2_list, bodyL_tup, bodyL_list, bodyE_eq, tDGet, tLcD, tDGet2, sDPut, tFor_rng3, tLc_rng1, tLc_rng2, tLc_list, tLc_tup, tLc_enum, pick_nil, pick_own, pick_cap, join_some, tYes, tCallKC, gk_11, gk_31, tSortSet, tFor_zip, tAug, ipI, hq,  Half.v,  s3]
    cases val with
    | none => exact q
    | some i => exact q
  | gone =>
    try walk_at "rd"
    cases val with
    | none => exact q
    | some i => exact q
theorem sc_does : FnScope ["action", "value", "there", "none"] ["action", "value"] (defScope s_does) := ⟨rfl, rfl, rfl, by decide +kernel, rfl, by decide +kernel, by decide +kernel⟩
theorem ok_does {f : Addr} {fd : FuncData} (F : Fun K "does" "does" s_does f fd) (B : B K mg aG tE) (C_half_acts : Callee P w K mg base "half_acts" 1 ["half", "value"] (spHalfActs K)) : FnOk P w K mg base CX0 2 f fd ["action", "value"] (spDoes K) := by
  refine F.okJ sc_does (fun vs H Q E h => ?_) (fun cdv A outer s H vs Q E hr h => ?_)
  · obtain ⟨v, t, n, val, rfl, _⟩ := h
    rfl
  obtain ⟨v, t, n, val, rfl, ⟨a, r, s', rfl, ha, ht, hn, hp⟩, q⟩ := h
  refine ⟨_, (bcons (sasg (ev 0) (gtupQ (n := 2) rfl (gcons (gname (i := 2) sc_does.nd rfl (Or.inl rfl)) (gcons (gname (i := 3) sc_does.nd rfl (Or.inl rfl)) gnil))))
      (bone (sret (ecall C_half_acts (hr.mono (by decide)) rfl (acons (eif (tcmp op_isN (ev 1) enon (nomark _)) (ev 3) (ev 2)) (acons (ev 1) anil)))))), ?_⟩
  cases val with
  | none =>
    simp only [tSeq, tNext, tIfS, tAsg, gName, gSub, tRet, tRetN, tDrop, tVar, tC, tOp, tUn, rI0, rI, rU, tTest, tB, tAndV, tOrV, tNotV, tAnd, tOr, tNot, tIf, tChain, tCB, tCons, tNil, tLst, tTup, tCallC, List.getElem?_cons_zero, List.getElem?_cons_succ, List.set_cons_zero, List.set_cons_succ, Option.some.injEq, V.int.injEq, V.bl.injEq, V.ref.injEq, V.ty.injEq, V.str.injEq, List.cons.injEq, exists_eq_left', exists_eq_left, exists_and_left, and_true, true_and, and_assoc, cxK, rIxF, rSetL, rEq, rNe, scal, HO.lst.injEq, HO.tup.injEq, upd_none, ixN_10, ixN_20, ixN_21, ixN_30, ixN_31, ixN_32, upd_same, seqAt_updL, seqAt_updT, atI_0, atI_1, atI_2, atI_3, decide_eq_true_eq, L2.start, List.map_cons, List.map_nil, List.length_cons, List.length_nil, Nat.reduceAdd, Nat.reduceSub, List.replicate_succ, List.replicate_zero, List.cons_append, List.nil_append, List.append_nil, tFor_rng1, tFor_rng2, tFor_list, tFor_tup, CDv, CMul, CPow, sizeLine_eq, Int.reduceLE, Int.reduceLT, Int.reducePow, Int.reduceToNat, Int.reduceAdd, Int.reduceSub, Int.reduceMul, Int.reduceNeg, Nat.reduceLeDiff, Nat.reducePow, Nat.reduceLT, Int.reduceEq, true_or, or_true, ite_true, ite_false, if_true, if_false, Bool.not_true, Bool.not_false, Bool.false_eq_true, decide_true, decide_false, rIxQ, seqQ_updL, seqQ_updT, tupQ_updT, tSl, tNoPart, tPart, rSlQ, rCatQ, tTupQ, tLstQ, new_upd, tNever, rEqD, rInQ, gTupQ, gCons, gNil, tBM, rAppend, rSlTQ, gSlice, tLc2_list, bodyL_tup, bodyL_list, bodyE_eq, tDGet, tLcD, tDGet2, sDPut, tFor_rng3, tLc_rng1, tLc_rng2, tLc_list, tLc_tup, tLc_enum, pick_nil, pick_own, pick_cap, join_some, tYes, tCallKC, gk_11, gk_31, tSortSet, tFor_zip, tAug, ipI, ha,  oV]
    exact ⟨s', n, none, rfl, hn, fun _ => hp, q⟩
  | some i =>
    simp only [tSeq, tNext, tIfS, tAsg, gName, gSub, tRet, tRetN, tDrop, tVar, tC, tOp, tUn, rI0, rI, rU, tTest, tB, tAndV, tOrV, tNotV, tAnd, tOr, tNot, tIf, tChain, tCB, tCons, tNil, tLst, tTup, tCallC, List.getElem?_cons_zero, List.getElem?_cons_succ, List.set_cons_zero, List.set_cons_succ, Option.some.injEq, V.int.injEq, V.bl.injEq, V.ref.injEq, V.ty.injEq, V.str.injEq, List.cons.injEq, exists_eq_left', exists_eq_left, exists_and_left, and_true, true_and, and_assoc, cxK, rIxF, rSetL, rEq, rNe, scal, HO.lst.injEq, HO.tup.injEq, upd_none, ixN_10, ixN_20, ixN_21, ixN_30, ixN_31, ixN_32, upd_same, seqAt_updL, seqAt_updT, atI_0, atI_1, atI_2, atI_3, decide_eq_true_eq, L2.start, List.map_cons, List.map_nil, List.length_cons, List.length_nil, Nat.reduceAdd, Nat.reduceSub, List.replicate_succ, List.replicate_zero, List.cons_append, List.nil_append, List.append_nil, tFor_rng1, tFor_rng2, tFor_list, tFor_tup, CDv, CMul, CPow, sizeLine_eq, Int.reduceLE, Int.reduceLT, Int.reducePow, Int.reduceToNat, Int.reduceAdd, Int.reduceSub, Int.reduceMul, Int.reduceNeg, Nat.reduceLeDiff, Nat.reducePow, Nat.reduceLT, Int.reduceEq, true_or, or_true, ite_true, ite_false, if_true, if_false, Bool.not_true, Bool.not_false, Bool.false_eq_true, decide_true, decide_false, rIxQ, seqQ_updL, seqQ_updT, tupQ_updT, tSl, tNoPart, tPart, rSlQ, rCatQ, tTupQ, tLstQ, new_upd, tNever, rEqD, rInQ, gTupQ, gCons, gNil, tBM, rAppend, rSlTQ, gSlice, tLc2_list, bodyL_tup, bodyL_list, bodyE_eq, tDGet, tLcD, tDGet2, sDPut, tFor_rng3, tLc_rng1, tLc_rng2, tLc_list, tLc_tup, tLc_enum, pick_nil, pick_own, pick_cap, join_some, tYes, tCallKC, gk_11, gk_31, tSortSet, tFor_zip, tAug, ipI, ha,  oV,  reduceCtorEq]
    exact ⟨r, t, some i, rfl, ht, (fun z => nomatch z), q⟩
def spHalfBeh (K : PySem.W.Frag) : Sp := fun vs H Q _ => ∃ r h v t n, vs = [.ref r, v] ∧ tupQ K H r = some (Half.v h) ∧ Act K H v t n ∧ ∀ u H', tupQ K H' u = some (Half.v (h.then t n)) → Ext K H H' → Q (.ref u) H'
theorem sc_half_behind : FnScope ["half", "other", "there", "none", "word", "number"] ["half", "other"] (defScope s_half_behind) := ⟨rfl, rfl, rfl, by decide +kernel, rfl, by decide +kernel, by decide +kernel⟩
theorem ok_half_behind {f : Addr} {fd : FuncData} (F : Fun K "half_behind" "half_behind" s_half_behind f fd) (B : B K mg aG tE) : FnOk P w K mg base CX0 1 f fd ["half", "other"] (spHalfBeh K) := by
  refine F.okM sc_half_behind (fun vs H Q E h => ?_) (fun cdv A outer s H vs Q E hr hm h => ?_)
  · obtain ⟨r, h, v, t, n, rfl, _⟩ := h
    rfl
  obtain ⟨r, h, v, t, n, rfl, hq, ⟨a, r', s', rfl, ha, ht, hn, hp⟩, q⟩ := h
  refine ⟨_, (bcons (sasg (ev 1) (gtupQ (n := 2) rfl (gcons (gname (i := 2) sc_half_behind.nd rfl (Or.inl rfl)) (gcons (gname (i := 3) sc_half_behind.nd rfl (Or.inl rfl)) gnil))))
      (bcons (sif (tcmp (op_eqD hr.units) (ev 0) (eglob rfl B.GONE B.GONE_is) (nomark _)) (bone (sret (ev 3))) bnil)
      (bcons (sif (tcmp op_ne (eix ix_Q (ev 2) ei (fun _ _ => rfl)) estr (nomark _)) (bone (sret (ev 2))) bnil)
      (bcons (sasg (ev 0) (gtupQ (n := 2) rfl (gcons (gname (i := 4) sc_half_behind.nd rfl (Or.inl rfl)) (gcons (gname (i := 5) sc_half_behind.nd rfl (Or.inl rfl)) gnil))))
      (bone (sret (etupQ (acons (ev 4) (acons (eop op_add (ev 5) (eix ix_Q (ev 2) ei (fun _ _ => rfl))) anil))))))))), ?_⟩
  simp only [tSeq, tNext, tIfS, tAsg, gName, gSub, tRet, tRetN, tDrop, tVar, tC, tOp, tUn, rI0, rI, rU, tTest, tB, tAndV, tOrV, tNotV, tAnd, tOr, tNot, tIf, tChain, tCB, tCons, tNil, tLst, tTup, tCallC, List.getElem?_cons_zero, List.getElem?_cons_succ, List.set_cons_zero, List.set_cons_succ, Option.some.injEq, V.int.injEq, V.bl.injEq, V.ref.injEq, V.ty.injEq, V.str.injEq, List.cons.injEq, exists_eq_left', exists_eq_left, exists_and_left, and_true, true_and, and_assoc, cxK, rIxF, rSetL, rEq, rNe, scal, HO.lst.injEq, HO.tup.injEq, upd_none, ixN_10, ixN_20, ixN_21, ixN_30, ixN_31, ixN_32, upd_same, seqAt_updL, seqAt_updT, atI_0, atI_1, atI_2, atI_3, decide_eq_true_eq, L2.start, List.map_cons, List.map_nil, List.length_cons, List.length_nil, Nat.reduceAdd, Nat.reduceSub, List.replicate_succ, List.replicate_zero, List.cons_append, List.nil_append, List.append_nil, tFor_rng1, tFor_rng2, tFor_list, tFor_tup, CDv, CMul, CPow, sizeLine_eq, Int.reduceLE, Int.reduceLT, Int.reducePow, Int.reduceToNat, Int.reduceAdd, Int.reduceSub, Int.reduceMul, Int.reduceNeg, Nat.reduceLeDiff, Nat.reducePow, Nat.reduceLT, Int.reduceEq, true_or, or_true, ite_true, ite_false, if_true, if_false, Bool.not_true, Bool.not_false, Bool.false_eq_true, decide_true, decide_false, rIxQ, seqQ_updL, seqQ_updT, tupQ_updT, tSl, tNoPart, tPart, rSlQ, rCatQ, tTupQ, tLstQ, new_upd, tNever, rEqD, rInQ, gTupQ, gCons, gNil, tBM, rAppend, rSlTQ, gSlice, tLc2_list, bodyL_tup, bodyL_list, bodyE_eq, tDGet, tLcD, tDGet2, sDPut, tFor_rng3, tLc_rng1, tLc_rng2, tLc_list, tLc_tup, tLc_enum, pick_nil, pick_own, pick_cap, join_some, tYes, tCallKC, gk_11, gk_31, tSortSet, tFor_zip, tAug, ipI, ha]
  refine ⟨h.hd, Half.is_hd hq, Half.gone.hd, Half.is_hd (h := .gone) (hm.tup B.kG), h.shaped, Half.shaped .gone, ?_⟩
  rw [Half.eqv_gone]
  cases h with
  | gone =>
    try walk_at "rd"
    refine q _ _ ?_ Ext.refl
    cases n with
    | plus k => exact hp.elim
    | is k => exact hn
    | gone => exact hn
  | plus k =>
    simp only [tSeq, tNext, tIfS, tAsg, gName, gSub, tRet, tRetN, tDrop, tVar, tC, tOp, tUn, rI0, rI, rU, tTest, tB, tAndV, tOrV, tNotV, tAnd, tOr, tNot, tIf, tChain, tCB, tCons, tNil, tLst, tTup, tCallC, List.getElem?_cons_zero, List.getElem?_cons_succ, List.set_cons_zero, List.set_cons_succ, Option.some.injEq, V.int.injEq, V.bl.injEq, V.ref.injEq, V.ty.injEq, V.str.injEq, List.cons.injEq, exists_eq_left', exists_eq_left, exists_and_left, and_true, true_and, and_assoc, cxK, rIxF, rSetL, rEq, rNe, scal, HO.lst.injEq, HO.tup.injEq, upd_none, ixN_10, ixN_20, ixN_21, ixN_30, ixN_31, ixN_32, upd_same, seqAt_updL, seqAt_updT, atI_0, atI_1, atI_2, atI_3, decide_eq_true_eq, L2.start, List.map_cons, List.map_nil, List.length_cons, List.length_nil, Nat.reduceAdd, Nat.reduceSub, List.replicate_succ, List.replicate_zero, List.cons_append, List.nil_append, List.append_nil, tFor_rng1, tFor_rng2, tFor_list, tFor_tup, CDv, CMul, CPow, sizeLine_eq, Int.reduceLE, Int.reduceLT, Int.reducePow, Int.reduceToNat, Int.reduceAdd, Int.reduceSub, Int.reduceMul, Int.reduceNeg, Nat.reduceLeDiff, Nat.reducePow, Nat.reduceLT, Int.reduceEq, true_or, or_true, ite_true, ite_false, if_true, if_false, Bool.not_true, Bool.not_false, Bool.false_eq_true, decide_true, decide_false, rIxQ, seqQ_updL, seqQ_updT, tupQ_updT, tSl, tNoPart, tPart, rSlQ, rCatQ, tTupQ, tLstQ, new_upd, tNever, rEqD, rInQ, gTupQ, gCons, gNil, tBM, rAppend, rSlTQ, gSlice, tLc2_list, bodyL_tup, bodyL_list, bodyE_eq, tDGet, tLcD, tDGet2, sDPut, tFor_rng3, tLc_rng1, tLc_rng2, tLc_list, tLc_tup, tLc_enum, pick_nil, pick_own, pick_cap, join_some, tYes, tCallKC, gk_11, gk_31, tSortSet, tFor_zip, tAug, ipI, seqQ_T ht]
    cases t with
    | plus j =>
      simp only [tSeq, tNext, tIfS, tAsg, gName, gSub, tRet, tRetN, tDrop, tVar, tC, tOp, tUn, rI0, rI, rU, tTest, tB, tAndV, tOrV, tNotV, tAnd, tOr, tNot, tIf, tChain, tCB, tCons, tNil, tLst, tTup, tCallC, List.getElem?_cons_zero, List.getElem?_cons_succ, List.set_cons_zero, List.set_cons_succ, Option.some.injEq, V.int.injEq, V.bl.injEq, V.ref.injEq, V.ty.injEq, V.str.injEq, List.cons.injEq, exists_eq_left', exists_eq_left, exists_and_left, and_true, true_and, and_assoc, cxK, rIxF, rSetL, rEq, rNe, scal, HO.lst.injEq, HO.tup.injEq, upd_none, ixN_10, ixN_20, ixN_21, ixN_30, ixN_31, ixN_32, upd_same, seqAt_updL, seqAt_updT, atI_0, atI_1, atI_2, atI_3, decide_eq_true_eq, L2.start, List.map_cons, List.map_nil, List.length_cons, List.length_nil, Nat.reduceAdd, Nat.reduceSub, List.replicate_succ, List.replicate_zero, List.cons_append, List.nil_append, List.append_nil, tFor_rng1, tFor_rng2, tFor_list, tFor_tup, CDv, CMul, CPow, sizeLine_eq, Int.reduceLE, Int.reduceLT, Int.reducePow, Int.reduceToNat, Int.reduceAdd, Int.reduceSub, Int.reduceMul, Int.reduceNeg, Nat.reduceLeDiff, Nat.reducePow, Nat.reduceLT, Int.reduceEq, true_or, or_true, ite_true, ite_false, if_true, if_false, Bool.not_true, Bool.not_false, Bool.false_eq_true, decide_true, decide_false, rIxQ, seqQ_updL, seqQ_updT, tupQ_updT, tSl, tNoPart, tPart, rSlQ, rCatQ, tTupQ, tLstQ, new_upd, tNever, rEqD, rInQ, gTupQ, gCons, gNil, tBM, rAppend, rSlTQ, gSlice, tLc2_list, bodyL_tup, bodyL_list, bodyE_eq, tDGet, tLcD, tDGet2, sDPut, tFor_rng3, tLc_rng1, tLc_rng2, tLc_list, tLc_tup, tLc_enum, pick_nil, pick_own, pick_cap, join_some, tYes, tCallKC, gk_11, gk_31, tSortSet, tFor_zip, tAug, ipI, Half.v,  hq]
      intro p np
      exact q p _ tupQ_updT (Ext.new np)
    | is j =>
      simp only [tSeq, tNext, tIfS, tAsg, gName, gSub, tRet, tRetN, tDrop, tVar, tC, tOp, tUn, rI0, rI, rU, tTest, tB, tAndV, tOrV, tNotV, tAnd, tOr, tNot, tIf, tChain, tCB, tCons, tNil, tLst, tTup, tCallC, List.getElem?_cons_zero, List.getElem?_cons_succ, List.set_cons_zero, List.set_cons_succ, Option.some.injEq, V.int.injEq, V.bl.injEq, V.ref.injEq, V.ty.injEq, V.str.injEq, List.cons.injEq, exists_eq_left', exists_eq_left, exists_and_left, and_true, true_and, and_assoc, cxK, rIxF, rSetL, rEq, rNe, scal, HO.lst.injEq, HO.tup.injEq, upd_none, ixN_10, ixN_20, ixN_21, ixN_30, ixN_31, ixN_32, upd_same, seqAt_updL, seqAt_updT, atI_0, atI_1, atI_2, atI_3, decide_eq_true_eq, L2.start, List.map_cons, List.map_nil, List.length_cons, List.length_nil, Nat.reduceAdd, Nat.reduceSub, List.replicate_succ, List.replicate_zero, List.cons_append, List.nil_append, List.append_nil, tFor_rng1, tFor_rng2, tFor_list, tFor_tup, CDv, CMul, CPow, sizeLine_eq, Int.reduceLE, Int.reduceLT, Int.reducePow, Int.reduceToNat, Int.reduceAdd, Int.reduceSub, Int.reduceMul, Int.reduceNeg, Nat.reduceLeDiff, Nat.reducePow, Nat.reduceLT, Int.reduceEq, true_or, or_true, ite_true, ite_false, if_true, if_false, Bool.not_true, Bool.not_false, Bool.false_eq_true, decide_true, decide_false, rIxQ, seqQ_updL, seqQ_updT, tupQ_updT, tSl, tNoPart, tPart, rSlQ, rCatQ, tTupQ, tLstQ, new_upd, tNever, rEqD, rInQ, gTupQ, gCons, gNil, tBM, rAppend, rSlTQ, gSlice, tLc2_list, bodyL_tup, bodyL_list, bodyE_eq, tDGet, tLcD, tDGet2, sDPut, tFor_rng3, tLc_rng1, tLc_rng2, tLc_list, tLc_tup, tLc_enum, pick_nil, pick_own, pick_cap, join_some, tYes, tCallKC, gk_11, gk_31, tSortSet, tFor_zip, tAug, ipI, Half.v,  hq,  s3]
      exact q _ _ ht Ext.refl
    | gone =>
      simp only [tSeq, tNext, tIfS, tAsg, gName, gSub, tRet, tRetN, tDrop, tVar, tC, tOp, tUn, rI0, rI, rU, tTest, tB, tAndV, tOrV, tNotV, tAnd, tOr, tNot, tIf, tChain, tCB, tCons, tNil, tLst, tTup, tCallC, List.getElem?_cons_zero, List.getElem?_cons_succ, List.set_cons_zero, List.set_cons_succ, Option.some.injEq, V.int.injEq, V.bl.injEq, V.ref.injEq, V.ty.injEq, V.str.injEq, List.cons.injEq, exists_eq_left', exists_eq_left, exists_and_left, and_true, true_and, and_assoc, cxK, rIxF, rSetL, rEq, rNe, scal, HO.lst.injEq, HO.tup.injEq, upd_none, ixN_10, ixN_20, ixN_21, ixN_30, ixN_31, ixN_32, upd_same, seqAt_updL, seqAt_updT, atI_0, atI_1, atI_2, atI_3, decide_eq_true_eq, L2.start, List.map_cons, List.map_nil, List.length_cons, List.length_nil, Nat.reduceAdd, Nat.reduceSub, List.replicate_succ, List.replicate_zero, List.cons_append, List.nil_append, List.append_nil, tFor_rng1, tFor_rng2, tFor_list, tFor_tup, CDv, CMul, CPow, sizeLine_eq, Int.reduceLE, Int.reduceLT, Int.reducePow, Int.reduceToNat, Int.reduceAdd, Int.reduceSub, Int.reduceMul, Int.reduceNeg, Nat.reduceLeDiff, Nat.reducePow, Nat.reduceLT, Int.reduceEq, true_or, or_true, ite_true, ite_false, if_true, if_false, Bool.not_true, Bool.not_false, Bool.false_eq_true, decide_true, decide_false, rIxQ, seqQ_updL, seqQ_updT, tupQ_updT, tSl, tNoPart, tPart, rSlQ, rCatQ, tTupQ, tLstQ, new_upd, tNever, rEqD, rInQ, gTupQ, gCons, gNil, tBM, rAppend, rSlTQ, gSlice, tLc2_list, bodyL_tup, bodyL_list, bodyE_eq, tDGet, tLcD, tDGet2, sDPut, tFor_rng3, tLc_rng1, tLc_rng2, tLc_list, tLc_tup, tLc_enum, pick_nil, pick_own, pick_cap, join_some, tYes, tCallKC, gk_11, gk_31, tSortSet, tFor_zip, tAug, ipI, Half.v,  hq,  s4]
      exact q _ _ ht Ext.refl
  | is k =>
    simp only [tSeq, tNext, tIfS, tAsg, gName, gSub, tRet, tRetN, tDrop, tVar, tC, tOp, tUn, rI0, rI, rU, tTest, tB, tAndV, tOrV, tNotV, tAnd, tOr, tNot, tIf, tChain, tCB, tCons, tNil, tLst, tTup, tCallC, List.getElem?_cons_zero, List.getElem?_cons_succ, List.set_cons_zero, List.set_cons_succ, Option.some.injEq, V.int.injEq, V.bl.injEq, V.ref.injEq, V.ty.injEq, V.str.injEq, List.cons.injEq, exists_eq_left', exists_eq_left, exists_and_left, and_true, true_and, and_assoc, cxK, rIxF, rSetL, rEq, rNe, scal, HO.lst.injEq, HO.tup.injEq, upd_none, ixN_10, ixN_20, ixN_21, ixN_30, ixN_31, ixN_32, upd_same, seqAt_updL, seqAt_updT, atI_0, atI_1, atI_2, atI_3, decide_eq_true_eq, L2.start, List.map_cons, List.map_nil, List.length_cons, List.length_nil, Nat.reduceAdd, Nat.reduceSub, List.replicate_succ, List.replicate_zero, List.cons_append, List.nil_append, List.append_nil, tFor_rng1, tFor_rng2, tFor_list, tFor_tup, CDv, CMul, CPow, sizeLine_eq, Int.reduceLE, Int.reduceLT, Int.reducePow, Int.reduceToNat, Int.reduceAdd, Int.reduceSub, Int.reduceMul, Int.reduceNeg, Nat.reduceLeDiff, Nat.reducePow, Nat.reduceLT, Int.reduceEq, true_or, or_true, ite_true, ite_false, if_true, if_false, Bool.not_true, Bool.not_false, Bool.false_eq_true, decide_true, decide_false, rIxQ, seqQ_updL, seqQ_updT, tupQ_updT, tSl, tNoPart, tPart, rSlQ, rCatQ, tTupQ, tLstQ, new_upd, tNever, rEqD, rInQ, gTupQ, gCons, gNil, tBM, rAppend, rSlTQ, gSlice, tLc2_list, bodyL_tup, bodyL_list, bodyE_eq, tDGet, tLcD, tDGet2, sDPut, tFor_rng3, tLc_rng1, tLc_rng2, tLc_list, tLc_tup, tLc_enum, pick_nil, pick_own, pick_cap, join_some, tYes, tCallKC, gk_11, gk_31, tSortSet, tFor_zip, tAug, ipI, seqQ_T ht]
    cases t with
    | plus j =>
      simp only [tSeq, tNext, tIfS, tAsg, gName, gSub, tRet, tRetN, tDrop, tVar, tC, tOp, tUn, rI0, rI, rU, tTest, tB, tAndV, tOrV, tNotV, tAnd, tOr, tNot, tIf, tChain, tCB, tCons, tNil, tLst, tTup, tCallC, List.getElem?_cons_zero, List.getElem?_cons_succ, List.set_cons_zero, List.set_cons_succ, Option.some.injEq, V.int.injEq, V.bl.injEq, V.ref.injEq, V.ty.injEq, V.str.injEq, List.cons.injEq, exists_eq_left', exists_eq_left, exists_and_left, and_true, true_and, and_assoc, cxK, rIxF, rSetL, rEq, rNe, scal, HO.lst.injEq, HO.tup.injEq, upd_none, ixN_10, ixN_20, ixN_21, ixN_30, ixN_31, ixN_32, upd_same, seqAt_updL, seqAt_updT, atI_0, atI_1, atI_2, atI_3, decide_eq_true_eq, L2.start, List.map_cons, List.map_nil, List.length_cons, List.length_nil, Nat.reduceAdd, Nat.reduceSub, List.replicate_succ, List.replicate_zero, List.cons_append, List.nil_append, List.append_nil, tFor_rng1, tFor_rng2, tFor_list, tFor_tup, CDv, CMul, CPow, sizeLine_eq, Int.reduceLE, Int.reduceLT, Int.reducePow, Int.reduceToNat, Int.reduceAdd, Int.reduceSub, Int.reduceMul, Int.reduceNeg, Nat.reduceLeDiff, Nat.reducePow, Nat.reduceLT, Int.reduceEq, true_or, or_true, ite_true, ite_false, if_true, if_false, Bool.not_true, Bool.not_false, Bool.false_eq_true, decide_true, decide_false, rIxQ, seqQ_updL, seqQ_updT, tupQ_updT, tSl, tNoPart, tPart, rSlQ, rCatQ, tTupQ, tLstQ, new_upd, tNever, rEqD, rInQ, gTupQ, gCons, gNil, tBM, rAppend, rSlTQ, gSlice, tLc2_list, bodyL_tup, bodyL_list, bodyE_eq, tDGet, tLcD, tDGet2, sDPut, tFor_rng3, tLc_rng1, tLc_rng2, tLc_list, tLc_tup, tLc_enum, pick_nil, pick_own, pick_cap, join_some, tYes, tCallKC, gk_11, gk_31, tSortSet, tFor_zip, tAug, ipI, Half.v,  hq]
      intro p np
      exact q p _ tupQ_updT (Ext.new np)
    | is j =>
      simp only [tSeq, tNext, tIfS, tAsg, gName, gSub, tRet, tRetN, tDrop, tVar, tC, tOp, tUn, rI0, rI, rU, tTest, tB, tAndV, tOrV, tNotV, tAnd, tOr, tNot, tIf, tChain, tCB, tCons, tNil, tLst, tTup, tCallC, List.getElem?_cons_zero, List.getElem?_cons_succ, List.set_cons_zero, List.set_cons_succ, Option.some.injEq, V.int.injEq, V.bl.injEq, V.ref.injEq, V.ty.injEq, V.str.injEq, List.cons.injEq, exists_eq_left', exists_eq_left, exists_and_left, and_true, true_and, and_assoc, cxK, rIxF, rSetL, rEq, rNe, scal, HO.lst.injEq, HO.tup.injEq, upd_none, ixN_10, ixN_20, ixN_21, ixN_30, ixN_31, ixN_32, upd_same, seqAt_updL, seqAt_updT, atI_0, atI_1, atI_2, atI_3, decide_eq_true_eq, L2.start, List.map_cons, List.map_nil, List.length_cons, List.length_nil, Nat.reduceAdd, Nat.reduceSub, List.replicate_succ, List.replicate_zero, List.cons_append, List.nil_append, List.append_nil, tFor_rng1, tFor_rng2, tFor_list, tFor_tup, CDv, CMul, CPow, sizeLine_eq, Int.reduceLE, Int.reduceLT, Int.reducePow, Int.reduceToNat, Int.reduceAdd, Int.reduceSub, Int.reduceMul, Int.reduceNeg, Nat.reduceLeDiff, Nat.reducePow, Nat.reduceLT, Int.reduceEq, true_or, or_true, ite_true, ite_false, if_true, if_false, Bool.not_true, Bool.not_false, Bool.false_eq_true, decide_true, decide_false, rIxQ, seqQ_updL, seqQ_updT, tupQ_updT, tSl, tNoPart, tPart, rSlQ, rCatQ, tTupQ, tLstQ, new_upd, tNever, rEqD, rInQ, gTupQ, gCons, gNil, tBM, rAppend, rSlTQ, gSlice, tLc2_list, bodyL_tup, bodyL_list, bodyE_eq, tDGet, tLcD, tDGet2, sDPut, tFor_rng3, tLc_rng1, tLc_rng2, tLc_list, tLc_tup, tLc_enum, pick_nil, pick_own, pick_cap, join_some, tYes, tCallKC, gk_11, gk_31, tSortSet, tFor_zip, tAug, ipI, Half.v,  hq,  s3]
      exact q _ _ ht Ext.refl
    | gone =>
      simp only [tSeq, tNext, tIfS, tAsg, gName, gSub, tRet, tRetN, tDrop, tVar, tC, tOp, tUn, rI0, rI, rU, tTest, tB, tAndV, tOrV, tNotV, tAnd, tOr, tNot, tIf, tChain, tCB, tCons, tNil, tLst, tTup, tCallC, List.getElem?_cons_zero, List.getElem?_cons_succ, List.set_cons_zero, List.set_cons_succ, Option.some.injEq, V.int.injEq, V.bl.injEq, V.ref.injEq, V.ty.injEq, V.str.injEq, List.cons.injEq, exists_eq_left', exists_eq_left, exists_and_left, and_true, true_and, and_assoc, cxK, rIxF, rSetL, rEq, rNe, scal, HO.lst.injEq, HO.tup.injEq, upd_none, ixN_10, ixN_20, ixN_21, ixN_30, ixN_31, ixN_32, upd_same, seqAt_updL, seqAt_updT, atI_0, atI_1, atI_2, atI_3, decide_eq_true_eq, L2.start, List.map_cons, List.map_nil, List.length_cons, List.length_nil, Nat.reduceAdd, Nat.reduceSub, List.replicate_succ, List.replicate_zero, List.cons_append, List.nil_append, List.append_nil, tFor_rng1, tFor_rng2, tFor_list, tFor_tup, CDv, CMul, CPow, sizeLine_eq, Int.reduceLE, Int.reduceLT, Int.reducePow, Int.reduceToNat, Int.reduceAdd, Int.reduceSub, Int.reduceMul, Int.reduceNeg, Nat.reduceLeDiff, Nat.reducePow, Nat.reduceLT, Int.reduceEq, true_or, or_true, ite_true, ite_false, if_true, if_false, Bool.not_true, Bool.not_false, Bool.false_eq_true, decide_true, decide_false, rIxQ, seqQ_updL, seqQ_updT, tupQ_updT, tSl, tNoPart, tPart, rSlQ, rCatQ, tTupQ, tLstQ, new_upd, tNever, rEqD, rInQ, gTupQ, gCons, gNil, tBM, rAppend, rSlTQ, gSlice, tLc2_list, bodyL_tup, bodyL_list, bodyE_eq, tDGet, tLcD, tDGet2, sDPut, tFor_rng3, tLc_rng1, tLc_rng2, tLc_list, tLc_tup, tLc_enum, pick_nil, pick_own, pick_cap, join_some, tYes, tCallKC, gk_11, gk_31, tSortSet, tFor_zip, tAug, ipI, Half.v,  hq,  s4]
      exact q _ _ ht Ext.refl
theorem sc_joined : FnScope ["one", "other", "there", "none"] ["one", "other"] (defScope s_joined) := ⟨rfl, rfl, rfl, by decide +kernel, rfl, by decide +kernel, by decide +kernel⟩
theorem ok_joined {f : Addr} {fd : FuncData} (F : Fun K "joined" "joined" s_joined f fd) (B : B K mg aG tE) (C_half_behind : Callee P w K mg base "half_behind" 1 ["half", "other"] (spHalfBeh K)) : FnOk P w K mg base CX0 2 f fd ["one", "other"] (spBehind K) := by
  refine F.okJ sc_joined (fun vs H Q E h => ?_) (fun cdv A outer s H vs Q E hr h => ?_)
  · obtain ⟨v, t, n, v', t', n', rfl, _⟩ := h
    rfl
  obtain ⟨v, t, n, v', t', n', rfl, ⟨a, r, s', rfl, ha, ht, hn, hp⟩, A', q⟩ := h
  refine ⟨_, (bcons (sasg (ev 0) (gtupQ (n := 2) rfl (gcons (gname (i := 2) sc_joined.nd rfl (Or.inl rfl)) (gcons (gname (i := 3) sc_joined.nd rfl (Or.inl rfl)) gnil))))
      (bone (sret (etupQ (acons (ecall C_half_behind (hr.mono (by decide)) rfl (acons (ev 2) (acons (ev 1) anil))) (acons (ecall C_half_behind (hr.mono (by decide)) rfl (acons (ev 3) (acons (ev 1) anil))) anil)))))), ?_⟩
  simp only [tSeq, tNext, tIfS, tAsg, gName, gSub, tRet, tRetN, tDrop, tVar, tC, tOp, tUn, rI0, rI, rU, tTest, tB, tAndV, tOrV, tNotV, tAnd, tOr, tNot, tIf, tChain, tCB, tCons, tNil, tLst, tTup, tCallC, List.getElem?_cons_zero, List.getElem?_cons_succ, List.set_cons_zero, List.set_cons_succ, Option.some.injEq, V.int.injEq, V.bl.injEq, V.ref.injEq, V.ty.injEq, V.str.injEq, List.cons.injEq, exists_eq_left', exists_eq_left, exists_and_left, and_true, true_and, and_assoc, cxK, rIxF, rSetL, rEq, rNe, scal, HO.lst.injEq, HO.tup.injEq, upd_none, ixN_10, ixN_20, ixN_21, ixN_30, ixN_31, ixN_32, upd_same, seqAt_updL, seqAt_updT, atI_0, atI_1, atI_2, atI_3, decide_eq_true_eq, L2.start, List.map_cons, List.map_nil, List.length_cons, List.length_nil, Nat.reduceAdd, Nat.reduceSub, List.replicate_succ, List.replicate_zero, List.cons_append, List.nil_append, List.append_nil, tFor_rng1, tFor_rng2, tFor_list, tFor_tup, CDv, CMul, CPow, sizeLine_eq, Int.reduceLE, Int.reduceLT, Int.reducePow, Int.reduceToNat, Int.reduceAdd, Int.reduceSub, Int.reduceMul, Int.reduceNeg, Nat.reduceLeDiff, Nat.reducePow, Nat.reduceLT, Int.reduceEq, true_or, or_true, ite_true, ite_false, if_true, if_false, Bool.not_true, Bool.not_false, Bool.false_eq_true, decide_true, decide_false, rIxQ, seqQ_updL, seqQ_updT, tupQ_updT, tSl, tNoPart, tPart, rSlQ, rCatQ, tTupQ, tLstQ, new_upd, tNever, rEqD, rInQ, gTupQ, gCons, gNil, tBM, rAppend, rSlTQ, gSlice, tLc2_list, bodyL_tup, bodyL_list, bodyE_eq, tDGet, tLcD, tDGet2, sDPut, tFor_rng3, tLc_rng1, tLc_rng2, tLc_list, tLc_tup, tLc_enum, pick_nil, pick_own, pick_cap, join_some, tYes, tCallKC, gk_11, gk_31, tSortSet, tFor_zip, tAug, ipI, ha]
  refine ⟨r, t, v', t', n', rfl, ht, A', fun u1 H1 e1 x1 => ?_⟩
  try walk_at "rd"
  refine ⟨s', n, v', t', n', rfl, x1.tup hn, A'.ext x1, fun u2 H2 e2 x2 => ?_⟩
  try walk_at "rd"
  intro p np
  exact q _ _ ⟨p, u1, u2, rfl, tupQ_updT, (x2.trans (Ext.new np)).tup e1, (Ext.new np).tup e2, Half.then_noPlus _ _ hp⟩ (x1.trans (x2.trans (Ext.new np)))
theorem sc_have_common : FnScope ["note", "other"] ["note", "other"] (defScope s_have_common) := ⟨rfl, rfl, rfl, by decide +kernel, rfl, by decide +kernel, by decide +kernel⟩
theorem ok_have_common {f : Addr} {fd : FuncData} (F : Fun K "have_common" "have_common" s_have_common f fd) (B : B K mg aG tE) : FnOk P w K mg base CX0 1 f fd ["note", "other"] (spCommon K) := by
  refine F.okJ sc_have_common (fun vs H Q E h => ?_) (fun cdv A outer s H vs Q E hr h => ?_)
  · obtain ⟨v, e, v', e', rfl, _⟩ := h
    rfl
  obtain ⟨v, e, v', e', rfl, ⟨a, w, rfl, ha, hA⟩, ⟨a', w', rfl, ha', hA'⟩, q⟩ := h
  refine ⟨_, (bone (sret (eand (ecmp op_lt (eix ix_Q (ev 0) ei (fun _ _ => rfl)) (eix ix_Q (ev 1) ei (fun _ _ => rfl)) (nomark _)) (eone (ecmp op_lt (eix ix_Q (ev 1) ei (fun _ _ => rfl)) (eix ix_Q (ev 0) ei (fun _ _ => rfl)) (nomark _)))))), ?_⟩
  simp only [tSeq, tNext, tIfS, tAsg, gName, gSub, tRet, tRetN, tDrop, tVar, tC, tOp, tUn, rI0, rI, rU, tTest, tB, tAndV, tOrV, tNotV, tAnd, tOr, tNot, tIf, tChain, tCB, tCons, tNil, tLst, tTup, tCallC, List.getElem?_cons_zero, List.getElem?_cons_succ, List.set_cons_zero, List.set_cons_succ, Option.some.injEq, V.int.injEq, V.bl.injEq, V.ref.injEq, V.ty.injEq, V.str.injEq, List.cons.injEq, exists_eq_left', exists_eq_left, exists_and_left, and_true, true_and, and_assoc, cxK, rIxF, rSetL, rEq, rNe, scal, HO.lst.injEq, HO.tup.injEq, upd_none, ixN_10, ixN_20, ixN_21, ixN_30, ixN_31, ixN_32, upd_same, seqAt_updL, seqAt_updT, atI_0, atI_1, atI_2, atI_3, decide_eq_true_eq, L2.start, List.map_cons, List.map_nil, List.length_cons, List.length_nil, Nat.reduceAdd, Nat.reduceSub, List.replicate_succ, List.replicate_zero, List.cons_append, List.nil_append, List.append_nil, tFor_rng1, tFor_rng2, tFor_list, tFor_tup, CDv, CMul, CPow, sizeLine_eq, Int.reduceLE, Int.reduceLT, Int.reducePow, Int.reduceToNat, Int.reduceAdd, Int.reduceSub, Int.reduceMul, Int.reduceNeg, Nat.reduceLeDiff, Nat.reducePow, Nat.reduceLT, Int.reduceEq, true_or, or_true, ite_true, ite_false, if_true, if_false, Bool.not_true, Bool.not_false, Bool.false_eq_true, decide_true, decide_false, rIxQ, seqQ_updL, seqQ_updT, tupQ_updT, tSl, tNoPart, tPart, rSlQ, rCatQ, tTupQ, tLstQ, tNever, rEqD, rInQ, gTupQ, gCons, gNil, tBM, rAppend, rSlTQ, gSlice, tLc2_list, bodyL_tup, bodyL_list, bodyE_eq, tDGet, tLcD, tDGet2, sDPut, tFor_rng3, tLc_rng1, tLc_rng2, tLc_list, tLc_tup, tLc_enum, pick_nil, pick_own, pick_cap, join_some, tYes, tCallKC, gk_11, gk_31, tSortSet, tFor_zip, tAug, ipI, seqQ_T ha,  seqQ_T ha']
  refine ite2 (fun c => ?_) (fun c => ?_)
  · have e1 : e.com e' = decide (e'.lo < e.hi) := by simp [Nt.com, c]
    rw [e1] at q
    exact q
  · have e1 : e.com e' = false := by simp [Nt.com, c]
    rw [e1] at q
    exact q
theorem sc_cut : FnScope ["note", "low", "high", "number", "note_low", "note_high", "action", "first", "end"] ["note", "low", "high"] (defScope s_cut) := ⟨rfl, rfl, rfl, by decide +kernel, rfl, by decide +kernel, by decide +kernel⟩
theorem ok_cut {f : Addr} {fd : FuncData} (F : Fun K "cut" "cut" s_cut f fd) (B : B K mg aG tE) : FnOk P w K mg base CX0 1 f fd ["note", "low", "high"] (spCut K) := by
  refine F.okJ sc_cut (fun vs H Q E h => ?_) (fun cdv A outer s H vs Q E hr h => ?_)
  · obtain ⟨v, e, lo, hi, rfl, _⟩ := h
    rfl
  obtain ⟨v, e, lo, hi, rfl, ⟨a, w, rfl, ha, hA⟩, q1, q2⟩ := h
  refine ⟨_, (bcons (sasg (ev 0) (gtupQ (n := 4) rfl (gcons (gname (i := 3) sc_cut.nd rfl (Or.inl rfl)) (gcons (gname (i := 4) sc_cut.nd rfl (Or.inl rfl)) (gcons (gname (i := 5) sc_cut.nd rfl (Or.inl rfl)) (gcons (gname (i := 6) sc_cut.nd rfl (Or.inl rfl)) gnil))))))
      (bcons (sset (i := 7) sc_cut.nd rfl (Or.inl rfl) (ecallB (call_max2 rfl) rfl B.max bt_max (acons (ev 4) (acons (ev 1) anil))))
      (bcons (sset (i := 8) sc_cut.nd rfl (Or.inl rfl) (ecallB (call_min2 rfl) rfl B.min bt_min (acons (ev 5) (acons (ev 2) anil))))
      (bone (sret (eif (tcmp op_lt (ev 7) (ev 8) (nomark _)) (etupQ (acons (ev 3) (acons (ev 7) (acons (ev 8) (acons (ev 6) anil))))) enon)))))), ?_⟩
  simp only [tSeq, tNext, tIfS, tAsg, gName, gSub, tRet, tRetN, tDrop, tVar, tC, tOp, tUn, rI0, rI, rU, tTest, tB, tAndV, tOrV, tNotV, tAnd, tOr, tNot, tIf, tChain, tCB, tCons, tNil, tLst, tTup, tCallC, List.getElem?_cons_zero, List.getElem?_cons_succ, List.set_cons_zero, List.set_cons_succ, Option.some.injEq, V.int.injEq, V.bl.injEq, V.ref.injEq, V.ty.injEq, V.str.injEq, List.cons.injEq, exists_eq_left', exists_eq_left, exists_and_left, and_true, true_and, and_assoc, cxK, rIxF, rSetL, rEq, rNe, scal, HO.lst.injEq, HO.tup.injEq, upd_none, ixN_10, ixN_20, ixN_21, ixN_30, ixN_31, ixN_32, upd_same, seqAt_updL, seqAt_updT, atI_0, atI_1, atI_2, atI_3, decide_eq_true_eq, L2.start, List.map_cons, List.map_nil, List.length_cons, List.length_nil, Nat.reduceAdd, Nat.reduceSub, List.replicate_succ, List.replicate_zero, List.cons_append, List.nil_append, List.append_nil, tFor_rng1, tFor_rng2, tFor_list, tFor_tup, CDv, CMul, CPow, sizeLine_eq, Int.reduceLE, Int.reduceLT, Int.reducePow, Int.reduceToNat, Int.reduceAdd, Int.reduceSub, Int.reduceMul, Int.reduceNeg, Nat.reduceLeDiff, Nat.reducePow, Nat.reduceLT, Int.reduceEq, true_or, or_true, ite_true, ite_false, if_true, if_false, Bool.not_true, Bool.not_false, Bool.false_eq_true, decide_true, decide_false, rIxQ, seqQ_updL, seqQ_updT, tupQ_updT, tSl, tNoPart, tPart, rSlQ, rCatQ, tTupQ, tLstQ, tNever, rEqD, rInQ, gTupQ, gCons, gNil, tBM, rAppend, rSlTQ, gSlice, tLc2_list, bodyL_tup, bodyL_list, bodyE_eq, tDGet, tLcD, tDGet2, sDPut, tFor_rng3, tLc_rng1, tLc_rng2, tLc_list, tLc_tup, tLc_enum, pick_nil, pick_own, pick_cap, join_some, tYes, tCallKC, gk_11, gk_31, tSortSet, tFor_zip, tAug, ipI, ha]
  refine ite2 (fun c => fun b nb => ?_) (fun c => q2 c)
  exact q1 c _ _ ⟨b, w, rfl, tupQ_updT, hA.ext (Ext.new nb)⟩ (Ext.new nb)
theorem Nt.cut_ok {e : Nt} (h : e.ok) {lo hi : Int} (c : mx e.lo lo < mn e.hi hi) : (e.cut lo hi).ok := by
  have l1 : e.lo ≤ mx e.lo lo := by unfold mx; split <;> omega
  have h1 : mn e.hi hi ≤ e.hi := by unfold mn; split <;> omega
  have := h.lo0
  have := h.hi1
  refine ⟨h.n1, by show 0 ≤ mx e.lo lo; omega, c, by show mn e.hi hi ≤ _; omega, ?_, h.np⟩
  rcases h.one with z | z
  · left
    show mn e.hi hi - mx e.lo lo = 1
    omega
  · exact .inr z
abbrev Tr.ns (L : Tr) : List Nt := L.map (·.2)
def comAt (ns : List Nt) (e : Nt) (i : Nat) : Bool := match ns[i]? with | some q => q.com e | none => false
def plF (ns : List Nt) (e : Nt) (i : Nat) : List Nat := (List.range i).filter (comAt ns e)
def lastSh (ns : List Nt) (e : Nt) : Option Nat := (plF ns e ns.length).getLast?
def iV (i : Nat) : V := .int i
theorem plF_succ (ns : List Nt) (e : Nt) (i : Nat) : plF ns e (i + 1) = plF ns e i ++ (if comAt ns e i = true then [i] else []) := by
  unfold plF
  rw [List.range_succ, List.filter_append]
  cases c : comAt ns e i <;> simp [c]
theorem plF_len (ns : List Nt) (e : Nt) (i : Nat) : (plF ns e i).length ≤ i := Nat.le_trans (List.length_filter_le _ _) (by rw [List.length_range]; exact Nat.le_refl _)
def spLast (K : PySem.W.Frag) : Sp := fun vs H Q _ => ∃ (r : Addr) (L : Tr) (v : V) (e : Nt), vs = [.ref r, v] ∧ H r = some (.lst L.v) ∧ TrayAt K H L ∧ NoteAt K H v e ∧ L.length ≤ 100 ∧
  ∀ H', Ext K H H' → Q (match lastSh L.ns e with | some i => .int i | none => .non) H'
theorem sc_last_sharing : FnScope ["tray", "note", "places"] ["tray", "note"] (defScope s_last_sharing) := ⟨rfl, rfl, rfl, by decide +kernel, rfl, by decide +kernel, by decide +kernel⟩
theorem ok_last_sharing {f : Addr} {fd : FuncData} (F : Fun K "last_sharing" "last_sharing" s_last_sharing f fd) (B : B K mg aG tE) (C_have_common : Callee P w K mg base "have_common" 1 ["note", "other"] (spCommon K)) : FnOk P w K mg base CX0 2 f fd ["tray", "note"] (spLast K) := by
  refine F.okJ sc_last_sharing (fun vs H Q E h => ?_) (fun cdv A outer s H vs Q E hr h => ?_)
  · obtain ⟨r, L, v, e, rfl, _⟩ := h
    rfl
  obtain ⟨r, L, v, e, rfl, hr0, hT, hN, hz, q⟩ := h
  refine ⟨_, (bcons (slc (i := 2) sc_last_sharing.nd rfl (Or.inl rfl) (Cap.mk (N := ["place", "other", "note"]) (src := [none, none, some 1]) rfl rfl) rfl (ienum rfl B.enumerate (acons (ev 0) anil)) (fun _ _ _ _ => (gtupQK K (n := 2) rfl (gcons (gname (i := 0) (show (["place", "other", "note"] : List Str).Nodup from by decide +kernel) rfl (Or.inl rfl)) (gcons (gname (i := 1) (show (["place", "other", "note"] : List Str).Nodup from by decide +kernel) rfl (Or.inl rfl)) gnil)))) (fun _ _ _ _ => (fone (tval (ecall C_have_common (hr.mono (by decide)) rfl (acons (ev 1) (acons (ev 2) anil)))))) (fun _ _ _ _ => (ev 0)))
      (bone (sret (eif (ttruth (ev 2) (fun _ => rfl)) (eix ix_Q (ev 2) (eun un_neg ei) (fun _ _ => rfl)) enon)))), ?_⟩
  try walk_at "rn"
  refine ⟨⟨_, SqL.of hr0⟩, fun D nD => ?_⟩
  obtain ⟨Pv, eP⟩ : ∃ Pv : Nat → List V → St → Hp → Prop, Pv = fun i acc σ' H' => ∃ (v0 v1 : Option V), σ' = [v0, v1, some v] ∧ H' D = some (.lst acc) ∧ acc = (plF L.ns e i).map iV ∧ Kp K D (upd H D (.lst [])) H' := ⟨_, rfl⟩
  refine lc_enum (xs := Tr.v L) Pv ?_ ?_ ?_ ?_
  · rw [eP]
    exact ⟨_, _, rfl, upd_same, rfl, Kp.refl⟩
  · intro i acc σ' H' _ h
    rw [eP] at h
    obtain ⟨v0, v1, rfl, hD, rfl, k⟩ := h
    exact SqL.of ((k.ext nD).at hr0)
  · intro i x acc σ' H' T hx h nT
    rw [eP] at h
    obtain ⟨v0, v1, rfl, hD, rfl, k⟩ := h
    rw [List.getElem?_map] at hx
    obtain ⟨m, em, rfl⟩ := Option.map_eq_some_iff.mp hx
    have hi : i < L.length := (List.getElem?_eq_some_iff.mp em).1
    have xT := Ext.new (K := K) (o := .tup [.int i, m.1]) nT
    have xx := (k.ext nD).trans xT
    have tT : tupQ K (upd H' T (.tup [.int i, m.1])) T = some [.int i, m.1] := tupQ_updT
    have hD' := xT.at hD
    have kD := k.trans xT.kp
    have cm : comAt L.ns e i = m.2.com e := by unfold comAt; rw [Tr.ns, List.getElem?_map, em]; rfl
    have lp := plF_len L.ns e i
    generalize upd H' T (.tup [.int i, m.1]) = G at xx tT hD' kD ⊢
    simp only [tSeq, tNext, tIfS, tAsg, gName, gSub, tRet, tRetN, tDrop, tVar, tC, tOp, tUn, rI0, rI, rU, tTest, tB, tAndV, tOrV, tNotV, tAnd, tOr, tNot, tIf, tChain, tCB, tCons, tNil, tLst, tTup, tCallC, List.getElem?_cons_zero, List.getElem?_cons_succ, List.set_cons_zero, List.set_cons_succ, Option.some.injEq, V.int.injEq, V.bl.injEq, V.ref.injEq, V.ty.injEq, V.str.injEq, List.cons.injEq, exists_eq_left', exists_eq_left, exists_and_left, and_true, true_and, and_assoc, cxK, rIxF, rSetL, rEq, rNe, scal, HO.lst.injEq, HO.tup.injEq, upd_none, ixN_10, ixN_20, ixN_21, ixN_30, ixN_31, ixN_32, upd_same, seqAt_updL, seqAt_updT, atI_0, atI_1, atI_2, atI_3, decide_eq_true_eq, L2.start, List.map_cons, List.map_nil, List.length_cons, List.length_nil, Nat.reduceAdd, Nat.reduceSub, List.replicate_succ, List.replicate_zero, List.cons_append, List.nil_append, List.append_nil, tFor_rng1, tFor_rng2, tFor_list, tFor_tup, CDv, CMul, CPow, sizeLine_eq, Int.reduceLE, Int.reduceLT, Int.reducePow, Int.reduceToNat, Int.reduceAdd, Int.reduceSub, Int.reduceMul, Int.reduceNeg, Nat.reduceLeDiff, Nat.reducePow, Nat.reduceLT, Int.reduceEq, true_or, or_true, ite_true, ite_false, if_true, if_false, Bool.not_true, Bool.not_false, Bool.false_eq_true, decide_true, decide_false, rIxQ, seqQ_updL, seqQ_updT, tupQ_updT, tSl, tNoPart, tPart, rSlQ, rCatQ, tTupQ, tLstQ, tNever, rEqD, rInQ, gTupQ, gCons, gNil, tBM, rAppend, rSlTQ, gSlice, tLc2_list, bodyL_tup, bodyL_list, bodyE_eq, tDGet, tLcD, tDGet2, sDPut, tFor_rng3, tLc_rng1, tLc_rng2, tLc_list, tLc_tup, tLc_enum, pick_nil, pick_own, pick_cap, join_some, tYes, tCallKC, gk_11, gk_31, tSortSet, tFor_zip, tAug, ipI, tT]
    refine ⟨m.1, m.2, v, e, rfl, (hT.ext xx m (List.mem_of_getElem? em)).1, hN.ext xx, ⟨_, rfl, ?_⟩⟩
    have pl := plF_succ L.ns e i
    rw [cm] at pl
    refine ite2 (fun c => ?_) (fun c => ?_)
    · rw [if_pos c] at pl
      rw [eP]
      exact ⟨hD', by rw [List.length_map]; omega, _, _, rfl, upd_same, by rw [pl, List.map_append]; rfl, kD.trans (Kp.upd hD')⟩
    · rw [if_neg c, List.append_nil] at pl
      rw [eP]
      exact ⟨_, _, rfl, hD', by rw [pl], kD⟩
  intro acc σ' H1 h
  rw [eP] at h
  clear eP
  obtain ⟨v0, v1, rfl, hD, rfl, k⟩ := h
  have x1 := k.ext nD
  rw [List.length_map, show L.length = L.ns.length by rw [List.length_map]] at hD
  try walk_at "rn"
  refine ⟨_, .inl ⟨_, SqL.of hD, rfl⟩, ?_⟩
  have q1 := q H1 x1
  unfold lastSh at q1
  generalize plF L.ns e L.ns.length = ps at hD q1
  cases ps with
  | nil => exact iteF' (by simp) q1
  | cons a ps =>
    refine iteT' (by simp) ?_
    rw [seqQ_lst hD]
    have lt : (a :: ps).length - 1 < (a :: ps).length := by simp
    refine ⟨_, rfl, _, atI_lastE (by simp), ?_⟩
    rw [List.getLast?_eq_getElem?, List.getElem?_eq_getElem lt] at q1
    simp only [List.length_map, List.getElem_map] at q1 ⊢
    exact q1
def mayJ (e e' : Nt) (ms : List Int) : Bool := decide (e.lo = e'.lo ∧ e.hi = e'.hi) && !(ms.any fun m => decide (e.n ≤ m ∧ m < e'.n))
def spMay (K : PySem.W.Frag) : Sp := fun vs H Q _ => ∃ (v : V) (e : Nt) (v' : V) (e' : Nt) (m : Addr) (ms : List Int), vs = [v, v', .ref m] ∧ NoteAt K H v e ∧ NoteAt K H v' e' ∧ H m = some (.lst (ms.map V.int)) ∧ ms.length ≤ 100 ∧ ∀ H', Ext K H H' → Q (.bl (mayJ e e' ms)) H'
theorem sc_may_join : FnScope ["elder", "note", "marks"] ["elder", "note", "marks"] (defScope s_may_join) := ⟨rfl, rfl, rfl, by decide +kernel, rfl, by decide +kernel, by decide +kernel⟩
theorem ok_may_join {f : Addr} {fd : FuncData} (F : Fun K "may_join" "may_join" s_may_join f fd) (B : B K mg aG tE) : FnOk P w K mg base CX0 1 f fd ["elder", "note", "marks"] (spMay K) := by
  refine F.okJ sc_may_join (fun vs H Q E h => ?_) (fun cdv A outer s H vs Q E hr h => ?_)
  · obtain ⟨v, e, v', e', m, ms, rfl, _⟩ := h
    rfl
  obtain ⟨v, e, v', e', m, ms, rfl, ⟨a, w, rfl, ha, hA⟩, ⟨a', w', rfl, ha', hA'⟩, hm, lm, q⟩ := h
  refine ⟨_, (bcons (sif (tw (wor (tcmp op_ne (eix ix_Q (ev 0) ei (fun _ _ => rfl)) (eix ix_Q (ev 1) ei (fun _ _ => rfl)) (nomark _)) (wor1 (tcmp op_ne (eix ix_Q (ev 0) ei (fun _ _ => rfl)) (eix ix_Q (ev 1) ei (fun _ _ => rfl)) (nomark _))))) (bone (sret ebl)) bnil)
      (bone (sret (enot (ecallB (call_anyL rfl) rfl B.any bt_any (acons (elc (Cap.mk (N := ["mark", "elder", "note"]) (src := [none, some 0, some 1]) rfl rfl) rfl (ilist (ev 2)) (fun _ _ _ _ => (gname (i := 0) (show (["mark", "elder", "note"] : List Str).Nodup from by decide +kernel) rfl (Or.inl rfl))) (fun _ _ _ _ => fnone) (fun _ _ _ _ => (echain op_le op_lt (eix (ix_QK K) (ev 1) ei (fun _ _ => rfl)) (ev 0) (eix (ix_QK K) (ev 2) ei (fun _ _ => rfl))))) anil)))))), ?_⟩
  simp only [tSeq, tNext, tIfS, tAsg, gName, gSub, tRet, tRetN, tDrop, tVar, tC, tOp, tUn, rI0, rI, rU, tTest, tB, tAndV, tOrV, tNotV, tAnd, tOr, tNot, tIf, tChain, tCB, tCons, tNil, tLst, tTup, tCallC, List.getElem?_cons_zero, List.getElem?_cons_succ, List.set_cons_zero, List.set_cons_succ, Option.some.injEq, V.int.injEq, V.bl.injEq, V.ref.injEq, V.ty.injEq, V.str.injEq, List.cons.injEq, exists_eq_left', exists_eq_left, exists_and_left, and_true, true_and, and_assoc, cxK, rIxF, rSetL, rEq, rNe, scal, HO.lst.injEq, HO.tup.injEq, upd_none, ixN_10, ixN_20, ixN_21, ixN_30, ixN_31, ixN_32, upd_same, seqAt_updL, seqAt_updT, atI_0, atI_1, atI_2, atI_3, decide_eq_true_eq, L2.start, List.map_cons, List.map_nil, List.length_cons, List.length_nil, Nat.reduceAdd, Nat.reduceSub, List.replicate_succ, List.replicate_zero, List.cons_append, List.nil_append, List.append_nil, tFor_rng1, tFor_rng2, tFor_list, tFor_tup, CDv, CMul, CPow, sizeLine_eq, Int.reduceLE, Int.reduceLT, Int.reducePow, Int.reduceToNat, Int.reduceAdd, Int.reduceSub, Int.reduceMul, Int.reduceNeg, Nat.reduceLeDiff, Nat.reducePow, Nat.reduceLT, Int.reduceEq, true_or, or_true, ite_true, ite_false, if_true, if_false, Bool.not_true, Bool.not_false, Bool.false_eq_true, decide_true, decide_false, rIxQ, seqQ_updL, seqQ_updT, tupQ_updT, tSl, tNoPart, tPart, rSlQ, rCatQ, tTupQ, tLstQ, tNever, rEqD, rInQ, gTupQ, gCons, gNil, tBM, rAppend, rSlTQ, gSlice, tLc2_list, bodyL_tup, bodyL_list, bodyE_eq, tDGet, tLcD, tDGet2, sDPut, tFor_rng3, tLc_rng1, tLc_rng2, tLc_list, tLc_tup, tLc_enum, pick_nil, pick_own, pick_cap, join_some, tYes, tCallKC, gk_11, gk_31, tSortSet, tFor_zip, tAug, ipI, seqQ_T ha,  seqQ_T ha']
  have no : ¬ (e.lo = e'.lo ∧ e.hi = e'.hi) → Q (.bl false) H := fun c => by
    have q1 := q H Ext.refl
    unfold mayJ at q1
    rw [decide_eq_false c] at q1
    exact q1
  refine ite2 (fun c => no ?_) (fun c => ite2 (fun c2 => no ?_) (fun c2 => ?_))
  · intro z
    simp [z.1] at c
  · intro z
    simp [z.2] at c2
  have c3 : e.lo = e'.lo ∧ e.hi = e'.hi := ⟨by simpa using c, by simpa using c2⟩
  refine ⟨⟨_, SqL.of hm⟩, fun D nD => ?_⟩
  refine lc_mapQ (f := V.int) (g := fun k => V.bl (decide (e.n ≤ k ∧ k < e'.n))) hm nD (by omega) (fun k hk H' Q' xx qq => ?_) (fun H1 hD1 x1 => ?_)
  · simp only [tSeq, tNext, tIfS, tAsg, gName, gSub, tRet, tRetN, tDrop, tVar, tC, tOp, tUn, rI0, rI, rU, tTest, tB, tAndV, tOrV, tNotV, tAnd, tOr, tNot, tIf, tChain, tCB, tCons, tNil, tLst, tTup, tCallC, List.getElem?_cons_zero, List.getElem?_cons_succ, List.set_cons_zero, List.set_cons_succ, Option.some.injEq, V.int.injEq, V.bl.injEq, V.ref.injEq, V.ty.injEq, V.str.injEq, List.cons.injEq, exists_eq_left', exists_eq_left, exists_and_left, and_true, true_and, and_assoc, cxK, rIxF, rSetL, rEq, rNe, scal, HO.lst.injEq, HO.tup.injEq, upd_none, ixN_10, ixN_20, ixN_21, ixN_30, ixN_31, ixN_32, upd_same, seqAt_updL, seqAt_updT, atI_0, atI_1, atI_2, atI_3, decide_eq_true_eq, L2.start, List.map_cons, List.map_nil, List.length_cons, List.length_nil, Nat.reduceAdd, Nat.reduceSub, List.replicate_succ, List.replicate_zero, List.cons_append, List.nil_append, List.append_nil, tFor_rng1, tFor_rng2, tFor_list, tFor_tup, CDv, CMul, CPow, sizeLine_eq, Int.reduceLE, Int.reduceLT, Int.reducePow, Int.reduceToNat, Int.reduceAdd, Int.reduceSub, Int.reduceMul, Int.reduceNeg, Nat.reduceLeDiff, Nat.reducePow, Nat.reduceLT, Int.reduceEq, true_or, or_true, ite_true, ite_false, if_true, if_false, Bool.not_true, Bool.not_false, Bool.false_eq_true, decide_true, decide_false, rIxQ, seqQ_updL, seqQ_updT, tupQ_updT, tSl, tNoPart, tPart, rSlQ, rCatQ, tTupQ, tLstQ, tNever, rEqD, rInQ, gTupQ, gCons, gNil, tBM, rAppend, rSlTQ, gSlice, tLc2_list, bodyL_tup, bodyL_list, bodyE_eq, tDGet, tLcD, tDGet2, sDPut, tFor_rng3, tLc_rng1, tLc_rng2, tLc_list, tLc_tup, tLc_enum, pick_nil, pick_own, pick_cap, join_some, tYes, tCallKC, gk_11, gk_31, tSortSet, tFor_zip, tAug, ipI, seqQ_T (xx.tup ha),  seqQ_T (xx.tup ha')]
    refine ite2 (fun c => ?_) (fun c => ?_)
    · rw [show decide (e.n ≤ k ∧ k < e'.n) = decide (k < e'.n) by simp [c]] at qq
      exact qq
    · rw [show decide (e.n ≤ k ∧ k < e'.n) = false by simp [c]] at qq
      exact qq
  refine ⟨ms.map fun k => decide (e.n ≤ k ∧ k < e'.n), ?_, ?_⟩
  · rw [List.map_map]
    exact SqL.of hD1
  have q1 := q H1 x1
  unfold mayJ at q1
  rw [decide_eq_true c3, Bool.true_and] at q1
  rw [List.any_map]
  exact q1
def joinN (el e : Nt) : Nt := ⟨e.n, e.lo, e.hi, el.t.then e.t e.m, el.m.then e.t e.m⟩
def laidN (ns : List Nt) (e : Nt) (ms : List Int) : List Nt := match lastSh ns e with
  | none => ns ++ [e]
  | some p => match ns[p]? with
    | none => ns ++ [e]
    | some el => if mayJ el e ms = true then ns.eraseIdx p ++ [joinN el e] else ns ++ [e]
theorem lastSh_lt {ns : List Nt} {e : Nt} {p : Nat} (h : lastSh ns e = some p) : p < ns.length ∧ comAt ns e p = true := by
  have m := List.mem_of_getLast? h
  unfold plF at m
  obtain ⟨m1, m2⟩ := List.mem_filter.mp m
  exact ⟨List.mem_range.mp m1, m2⟩
theorem join_ok {el e : Nt} (h : el.ok) (h' : e.ok) (c : el.lo = e.lo ∧ el.hi = e.hi) : (joinN el e).ok := by
  refine ⟨h'.n1, h'.lo0, h'.lt, h'.hi1, ?_, Half.then_noPlus _ _ h.np⟩
  rcases h'.one with z | z
  · exact .inl z
  · rcases h.one with y | y
    · left
      show e.hi - e.lo = 1
      omega
    · right
      show el.m.then e.t e.m = .gone
      rw [y, z]
      rfl
theorem mayJ_ends {el e : Nt} {ms : List Int} (h : mayJ el e ms = true) : el.lo = e.lo ∧ el.hi = e.hi := by
  unfold mayJ at h
  simp only [Bool.and_eq_true, decide_eq_true_eq] at h
  exact h.1
def spLaid (K : PySem.W.Frag) : Sp := fun vs H Q _ => ∃ (r : Addr) (L : Tr) (v : V) (e : Nt) (m : Addr) (ms : List Int), vs = [.ref r, v, .ref m] ∧ H r = some (.lst L.v) ∧ TrayAt K H L ∧ NoteAt K H v e ∧ e.ok ∧ L.length ≤ 100 ∧ H m = some (.lst (ms.map V.int)) ∧ ms.length ≤ 100 ∧
  ∀ (D : Addr) (M : Tr) H', H D = none → H' D = some (.lst M.v) → TrayAt K H' M → M.ns = laidN L.ns e ms → M.length ≤ L.length + 1 → Ext K H H' → Q (.ref D) H'
theorem snocTray {K : PySem.W.Frag} {H : Hp} {L : Tr} {v : V} {e : Nt} (h : TrayAt K H L) (hN : NoteAt K H v e) (ok : e.ok) : TrayAt K H (L ++ [(v, e)]) := TrayAt.app h fun q hq => by
  have eq : q = (v, e) := by simpa using hq
  subst eq
  exact ⟨hN, ok⟩
theorem sc_laid : FnScope ["tray", "note", "marks", "place", "number", "low", "high", "action", "both"] ["tray", "note", "marks"] (defScope s_laid) := ⟨rfl, rfl, rfl, by decide +kernel, rfl, by decide +kernel, by decide +kernel⟩
theorem ok_laid {f : Addr} {fd : FuncData} (F : Fun K "laid" "laid" s_laid f fd) (B : B K mg aG tE) (C_last_sharing : Callee P w K mg base "last_sharing" 2 ["tray", "note"] (spLast K)) (C_may_join : Callee P w K mg base "may_join" 1 ["elder", "note", "marks"] (spMay K)) (C_joined : Callee P w K mg base "joined" 2 ["one", "other"] (spBehind K)) : FnOk P w K mg base CX0 3 f fd ["tray", "note", "marks"] (spLaid K) := by
  refine F.okJ sc_laid (fun vs H Q E h => ?_) (fun cdv A outer s H vs Q E hr h => ?_)
  · obtain ⟨r, L, v, e, m, ms, rfl, _⟩ := h
    rfl
  obtain ⟨r, L, v, e, m, ms, rfl, hr0, hT, hN, ok, hz, hm, lm, q⟩ := h
  refine ⟨_, (bcons (sset (i := 3) sc_laid.nd rfl (Or.inl rfl) (ecall C_last_sharing (hr.mono (by decide)) rfl (acons (ev 0) (acons (ev 1) anil))))
      (bcons (sif (tw (wor (tcmp op_isN (ev 3) enon (nomark _)) (wor1 (tnot (tval (ecall C_may_join (hr.mono (by decide)) rfl (acons (eix ix_Q (ev 0) (ev 3) (fun _ _ => rfl)) (acons (ev 1) (acons (ev 2) anil))))))))) (bone (sret (eop op_catQ (ev 0) (elstQ (acons (ev 1) anil))))) bnil)
      (bcons (sasg (ev 1) (gtupQ (n := 4) rfl (gcons (gname (i := 4) sc_laid.nd rfl (Or.inl rfl)) (gcons (gname (i := 5) sc_laid.nd rfl (Or.inl rfl)) (gcons (gname (i := 6) sc_laid.nd rfl (Or.inl rfl)) (gcons (gname (i := 7) sc_laid.nd rfl (Or.inl rfl)) gnil))))))
      (bcons (sset (i := 8) sc_laid.nd rfl (Or.inl rfl) (etupQ (acons (ev 4) (acons (ev 5) (acons (ev 6) (acons (ecall C_joined (hr.mono (by decide)) rfl (acons (eix ix_Q (eix ix_Q (ev 0) (ev 3) (fun _ _ => rfl)) ei (fun _ _ => rfl)) (acons (ev 7) anil))) anil))))))
      (bone (sret (eop op_catQ (eop op_catQ (eslice sl_listQ (ev 0) onone (osome (ev 3))) (eslice sl_listQ (ev 0) (osome (eop op_add (ev 3) ei)) onone)) (elstQ (acons (ev 8) anil))))))))), ?_⟩
  try walk_at "rn"
  refine ⟨r, L, v, e, rfl, hr0, hT, hN, hz, fun H1 x1 => ?_⟩
  have plain : ∀ H2, Ext K H H2 → laidN L.ns e ms = L.ns ++ [e] → ∀ b, new K H2 b → ∃ xs, (upd H2 b (.lst [v])) r = some (.lst xs) ∧ xs.length ≤ 16777215 ∧ ∀ b2, new K (upd H2 b (.lst [v])) b2 → Q (.ref b2) (upd (upd H2 b (.lst [v])) b2 (.lst (xs ++ [v]))) := by
    intro H2 x2 e2 b nw
    have x3 := x2.trans (Ext.new (K := K) (o := .lst [v]) nw)
    refine ⟨_, x3.at hr0, by rw [List.length_map]; omega, fun b2 nb2 => ?_⟩
    have x4 := x3.trans (Ext.new (K := K) (o := .lst (L.v ++ [v])) nb2)
    exact q b2 (L ++ [(v, e)]) _ (x3.was nb2.1) (by rw [upd_same]; simp [Tr.v]) (snocTray (hT.ext x4) (hN.ext x4) ok) (by rw [e2, Tr.ns, List.map_append]; rfl) (by rw [List.length_append]; exact Nat.le_refl _) x4
  cases c : lastSh L.ns e with
  | none =>
    simp only [tSeq, tNext, tIfS, tAsg, gName, gSub, tRet, tRetN, tDrop, tVar, tC, tOp, tUn, rI0, rI, rU, tTest, tB, tAndV, tOrV, tNotV, tAnd, tOr, tNot, tIf, tChain, tCB, tCons, tNil, tLst, tTup, tCallC, List.getElem?_cons_zero, List.getElem?_cons_succ, List.set_cons_zero, List.set_cons_succ, Option.some.injEq, V.int.injEq, V.bl.injEq, V.ref.injEq, V.ty.injEq, V.str.injEq, List.cons.injEq, exists_eq_left', exists_eq_left, exists_and_left, and_true, true_and, and_assoc, cxK, rIxF, rSetL, rEq, rNe, scal, HO.lst.injEq, HO.tup.injEq, upd_none, ixN_10, ixN_20, ixN_21, ixN_30, ixN_31, ixN_32, upd_same, seqAt_updL, seqAt_updT, atI_0, atI_1, atI_2, atI_3, decide_eq_true_eq, L2.start, List.map_cons, List.map_nil, List.length_cons, List.length_nil, Nat.reduceAdd, Nat.reduceSub, List.replicate_succ, List.replicate_zero, List.cons_append, List.nil_append, List.append_nil, tFor_rng1, tFor_rng2, tFor_list, tFor_tup, CDv, CMul, CPow, sizeLine_eq, Int.reduceLE, Int.reduceLT, Int.reducePow, Int.reduceToNat, Int.reduceAdd, Int.reduceSub, Int.reduceMul, Int.reduceNeg, Nat.reduceLeDiff, Nat.reducePow, Nat.reduceLT, Int.reduceEq, true_or, or_true, ite_true, ite_false, if_true, if_false, Bool.not_true, Bool.not_false, Bool.false_eq_true, decide_true, decide_false, rIxQ, seqQ_updL, seqQ_updT, tupQ_updT, tSl, tNoPart, tPart, rSlQ, rCatQ, tTupQ, tLstQ, tNever, rEqD, rInQ, gTupQ, gCons, gNil, tBM, rAppend, rSlTQ, gSlice, tLc2_list, bodyL_tup, bodyL_list, bodyE_eq, tDGet, tLcD, tDGet2, sDPut, tFor_rng3, tLc_rng1, tLc_rng2, tLc_list, tLc_tup, tLc_enum, pick_nil, pick_own, pick_cap, join_some, tYes, tCallKC, gk_11, gk_31, tSortSet, tFor_zip, tAug, ipI, eq_self]
    exact plain H1 x1 (by unfold laidN; rw [c])
  | some p =>
    obtain ⟨pl, pc⟩ := lastSh_lt c
    rw [List.length_map] at pl
    have mp : L[p] ∈ L := List.getElem_mem pl
    have elp : L.ns[p]? = some L[p].2 := by rw [Tr.ns, List.getElem?_map, List.getElem?_eq_getElem pl]; rfl
    have avp : atI L.v (p : Int) = some L[p].1 := atI_nat (by rw [List.getElem?_map, List.getElem?_eq_getElem pl]; rfl)
    simp only [tSeq, tNext, tIfS, tAsg, gName, gSub, tRet, tRetN, tDrop, tVar, tC, tOp, tUn, rI0, rI, rU, tTest, tB, tAndV, tOrV, tNotV, tAnd, tOr, tNot, tIf, tChain, tCB, tCons, tNil, tLst, tTup, tCallC, List.getElem?_cons_zero, List.getElem?_cons_succ, List.set_cons_zero, List.set_cons_succ, Option.some.injEq, V.int.injEq, V.bl.injEq, V.ref.injEq, V.ty.injEq, V.str.injEq, List.cons.injEq, exists_eq_left', exists_eq_left, exists_and_left, and_true, true_and, and_assoc, cxK, rIxF, rSetL, rEq, rNe, scal, HO.lst.injEq, HO.tup.injEq, upd_none, ixN_10, ixN_20, ixN_21, ixN_30, ixN_31, ixN_32, upd_same, seqAt_updL, seqAt_updT, atI_0, atI_1, atI_2, atI_3, decide_eq_true_eq, L2.start, List.map_cons, List.map_nil, List.length_cons, List.length_nil, Nat.reduceAdd, Nat.reduceSub, List.replicate_succ, List.replicate_zero, List.cons_append, List.nil_append, List.append_nil, tFor_rng1, tFor_rng2, tFor_list, tFor_tup, CDv, CMul, CPow, sizeLine_eq, Int.reduceLE, Int.reduceLT, Int.reducePow, Int.reduceToNat, Int.reduceAdd, Int.reduceSub, Int.reduceMul, Int.reduceNeg, Nat.reduceLeDiff, Nat.reducePow, Nat.reduceLT, Int.reduceEq, true_or, or_true, ite_true, ite_false, if_true, if_false, Bool.not_true, Bool.not_false, Bool.false_eq_true, decide_true, decide_false, rIxQ, seqQ_updL, seqQ_updT, tupQ_updT, tSl, tNoPart, tPart, rSlQ, rCatQ, tTupQ, tLstQ, tNever, rEqD, rInQ, gTupQ, gCons, gNil, tBM, rAppend, rSlTQ, gSlice, tLc2_list, bodyL_tup, bodyL_list, bodyE_eq, tDGet, tLcD, tDGet2, sDPut, tFor_rng3, tLc_rng1, tLc_rng2, tLc_list, tLc_tup, tLc_enum, pick_nil, pick_own, pick_cap, join_some, tYes, tCallKC, gk_11, gk_31, tSortSet, tFor_zip, tAug, ipI, reduceCtorEq,  seqQ_lst (x1.at hr0)]
    refine ⟨_, avp, ⟨L[p].1, L[p].2, v, e, m, ms, rfl, (hT.ext x1 _ mp).1, hN.ext x1, x1.at hm, lm, fun H2 x2 => ⟨_, rfl, ?_⟩⟩⟩
    have x12 := x1.trans x2
    by_cases cj : mayJ L[p].2 e ms = true
    · rw [cj]
      obtain ⟨a, w, ev, ha, hA⟩ := hN.ext x12
      obtain ⟨a0, w0, e0, ha0, hA0⟩ := (hT.ext x12 _ mp).1
      rw [ev]
      simp only [tSeq, tNext, tIfS, tAsg, gName, gSub, tRet, tRetN, tDrop, tVar, tC, tOp, tUn, rI0, rI, rU, tTest, tB, tAndV, tOrV, tNotV, tAnd, tOr, tNot, tIf, tChain, tCB, tCons, tNil, tLst, tTup, tCallC, List.getElem?_cons_zero, List.getElem?_cons_succ, List.set_cons_zero, List.set_cons_succ, Option.some.injEq, V.int.injEq, V.bl.injEq, V.ref.injEq, V.ty.injEq, V.str.injEq, List.cons.injEq, exists_eq_left', exists_eq_left, exists_and_left, and_true, true_and, and_assoc, cxK, rIxF, rSetL, rEq, rNe, scal, HO.lst.injEq, HO.tup.injEq, upd_none, ixN_10, ixN_20, ixN_21, ixN_30, ixN_31, ixN_32, upd_same, seqAt_updL, seqAt_updT, atI_0, atI_1, atI_2, atI_3, decide_eq_true_eq, L2.start, List.map_cons, List.map_nil, List.length_cons, List.length_nil, Nat.reduceAdd, Nat.reduceSub, List.replicate_succ, List.replicate_zero, List.cons_append, List.nil_append, List.append_nil, tFor_rng1, tFor_rng2, tFor_list, tFor_tup, CDv, CMul, CPow, sizeLine_eq, Int.reduceLE, Int.reduceLT, Int.reducePow, Int.reduceToNat, Int.reduceAdd, Int.reduceSub, Int.reduceMul, Int.reduceNeg, Nat.reduceLeDiff, Nat.reducePow, Nat.reduceLT, Int.reduceEq, true_or, or_true, ite_true, ite_false, if_true, if_false, Bool.not_true, Bool.not_false, Bool.false_eq_true, decide_true, decide_false, rIxQ, seqQ_updL, seqQ_updT, tupQ_updT, tSl, tNoPart, tPart, rSlQ, rCatQ, tTupQ, tLstQ, tNever, rEqD, rInQ, gTupQ, gCons, gNil, tBM, rAppend, rSlTQ, gSlice, tLc2_list, bodyL_tup, bodyL_list, bodyE_eq, tDGet, tLcD, tDGet2, sDPut, tFor_rng3, tLc_rng1, tLc_rng2, tLc_list, tLc_tup, tLc_enum, pick_nil, pick_own, pick_cap, join_some, tYes, tCallKC, gk_11, gk_31, tSortSet, tFor_zip, tAug, ipI, ha,  seqQ_lst (x12.at hr0)]
      refine ⟨_, avp, a0, e0, ?_⟩
      simp only [tSeq, tNext, tIfS, tAsg, gName, gSub, tRet, tRetN, tDrop, tVar, tC, tOp, tUn, rI0, rI, rU, tTest, tB, tAndV, tOrV, tNotV, tAnd, tOr, tNot, tIf, tChain, tCB, tCons, tNil, tLst, tTup, tCallC, List.getElem?_cons_zero, List.getElem?_cons_succ, List.set_cons_zero, List.set_cons_succ, Option.some.injEq, V.int.injEq, V.bl.injEq, V.ref.injEq, V.ty.injEq, V.str.injEq, List.cons.injEq, exists_eq_left', exists_eq_left, exists_and_left, and_true, true_and, and_assoc, cxK, rIxF, rSetL, rEq, rNe, scal, HO.lst.injEq, HO.tup.injEq, upd_none, ixN_10, ixN_20, ixN_21, ixN_30, ixN_31, ixN_32, upd_same, seqAt_updL, seqAt_updT, atI_0, atI_1, atI_2, atI_3, decide_eq_true_eq, L2.start, List.map_cons, List.map_nil, List.length_cons, List.length_nil, Nat.reduceAdd, Nat.reduceSub, List.replicate_succ, List.replicate_zero, List.cons_append, List.nil_append, List.append_nil, tFor_rng1, tFor_rng2, tFor_list, tFor_tup, CDv, CMul, CPow, sizeLine_eq, Int.reduceLE, Int.reduceLT, Int.reducePow, Int.reduceToNat, Int.reduceAdd, Int.reduceSub, Int.reduceMul, Int.reduceNeg, Nat.reduceLeDiff, Nat.reducePow, Nat.reduceLT, Int.reduceEq, true_or, or_true, ite_true, ite_false, if_true, if_false, Bool.not_true, Bool.not_false, Bool.false_eq_true, decide_true, decide_false, rIxQ, seqQ_updL, seqQ_updT, tupQ_updT, tSl, tNoPart, tPart, rSlQ, rCatQ, tTupQ, tLstQ, tNever, rEqD, rInQ, gTupQ, gCons, gNil, tBM, rAppend, rSlTQ, gSlice, tLc2_list, bodyL_tup, bodyL_list, bodyE_eq, tDGet, tLcD, tDGet2, sDPut, tFor_rng3, tLc_rng1, tLc_rng2, tLc_list, tLc_tup, tLc_enum, pick_nil, pick_own, pick_cap, join_some, tYes, tCallKC, gk_11, gk_31, tSortSet, tFor_zip, tAug, ipI, seqQ_T ha0]
      refine ⟨w0, _, _, w, _, _, rfl, hA0, hA, fun u H3 hu x3 => ?_⟩
      have x13 := x12.trans x3
      try walk_at "rn"
      intro b1 n1
      have y1 := Ext.new (K := K) (o := .tup [.int e.n, .int e.lo, .int e.hi, u]) n1
      have c1 : cutV L.v none (some (p : Int)) = L.v.take p := cutV_to _ p
      have c2 : cutV L.v (some ((p : Int) + 1)) none = L.v.drop (p + 1) := by rw [show (p : Int) + 1 = ((p + 1 : Nat) : Int) by omega]; exact cutV_from _ _
      refine ⟨L.v, SqL.of ((x13.trans y1).at hr0), ?_⟩
      rw [c1]
      intro b2 n2
      have y2 := Ext.new (K := K) (o := .lst (L.v.take p)) n2
      refine ⟨L.v, SqL.of ((x13.trans (y1.trans y2)).at hr0), ?_⟩
      rw [c2]
      intro b3 n3
      have y3 := Ext.new (K := K) (o := .lst (L.v.drop (p + 1))) n3
      have l1 : (L.v.take p).length ≤ 100 := by rw [List.length_take, List.length_map]; omega
      have l2 : (L.v.drop (p + 1)).length ≤ 100 := by rw [List.length_drop, List.length_map]; omega
      refine ⟨_, y3.at upd_same, by omega, ?_⟩
      intro b4 n4 b5 n5
      have y4 := Ext.new (K := K) (o := .lst (L.v.take p ++ L.v.drop (p + 1))) n4
      have y5 := Ext.new (K := K) (o := .lst [.ref b1]) n5
      refine ⟨_, y5.at upd_same, by rw [List.length_append]; omega, fun b6 n6 => ?_⟩
      have y6 := Ext.new (K := K) (o := .lst (L.v.take p ++ L.v.drop (p + 1) ++ [.ref b1])) n6
      have y26 := y2.trans (y3.trans (y4.trans (y5.trans y6)))
      have y16 := y1.trans y26
      refine q b6 (L.take p ++ L.drop (p + 1) ++ [(.ref b1, joinN L[p].2 e)]) _ ((x13.trans (y1.trans (y2.trans (y3.trans (y4.trans y5))))).was n6.1) ?_ ?_ ?_ ?_ (x13.trans y16)
      · rw [upd_same]; simp [Tr.v, List.map_take, List.map_drop]
      · refine snocTray ((hT.ext (x13.trans y16)).sub fun q hq => ?_) ⟨b1, u, rfl, y26.tup tupQ_updT, hu.ext y16⟩ (join_ok (hT _ mp).2 ok (mayJ_ends cj))
        rcases List.mem_append.mp hq with z | z
        · exact List.mem_of_mem_take z
        · exact List.mem_of_mem_drop z
      · unfold laidN
        rw [c]
        dsimp only
        rw [elp]
        dsimp only
        rw [if_pos cj, List.eraseIdx_eq_take_drop_succ, Tr.ns, List.map_append, List.map_append, List.map_take, List.map_drop]
        rfl
      · rw [List.length_append, List.length_append, List.length_take, List.length_drop]
        simp only [List.length_cons, List.length_nil]
        omega
    · rw [Bool.not_eq_true] at cj
      rw [cj]
      try walk_at "rn"
      exact plain H2 x12 (by unfold laidN; rw [c]; dsimp only; rw [elp]; dsimp only; rw [cj]; rfl)
def cutO (e : Nt) (lo hi : Int) : Option Nt := if mx e.lo lo < mn e.hi hi then some (e.cut lo hi) else none
abbrev Pr := List (V × Option Nt)
def PartAt (K : PySem.W.Frag) (H : Hp) (q : V × Option Nt) : Prop := match q.2 with | none => q.1 = .non | some e => NoteAt K H q.1 e ∧ e.ok
def PartsAt (K : PySem.W.Frag) (H : Hp) (L : Pr) : Prop := ∀ q ∈ L, PartAt K H q
theorem PartAt.ext {K : PySem.W.Frag} {H H' : Hp} {q : V × Option Nt} (h : PartAt K H q) (x : Ext K H H') : PartAt K H' q := by
  obtain ⟨v, o⟩ := q
  cases o with
  | none => exact h
  | some e => exact ⟨h.1.ext x, h.2⟩
theorem PartAt.kp {K : PySem.W.Frag} {H H' : Hp} {q : V × Option Nt} {p : Addr} {xs : List V} (h : PartAt K H q) (k : Kp K p H H') (hp : H p = some (.lst xs)) : PartAt K H' q := by
  obtain ⟨v, o⟩ := q
  cases o with
  | none => exact h
  | some e => exact ⟨h.1.kp k hp, h.2⟩
theorem PartsAt.ext {K : PySem.W.Frag} {H H' : Hp} {L : Pr} (h : PartsAt K H L) (x : Ext K H H') : PartsAt K H' L := fun q hq => (h q hq).ext x
theorem PartsAt.kp {K : PySem.W.Frag} {H H' : Hp} {L : Pr} {p : Addr} {xs : List V} (h : PartsAt K H L) (k : Kp K p H H') (hp : H p = some (.lst xs)) : PartsAt K H' L := fun q hq => (h q hq).kp k hp
theorem PartsAt.snoc {K : PySem.W.Frag} {H : Hp} {L : Pr} {q : V × Option Nt} (h : PartsAt K H L) (hq : PartAt K H q) : PartsAt K H (L ++ [q]) := fun q' hq' => by
  rcases List.mem_append.mp hq' with z | z
  · exact h q' z
  · have e : q' = q := by simpa using z
    rw [e]; exact hq
def someOf (L : Pr) : Tr := L.filterMap fun q => q.2.map fun e => (q.1, e)
theorem someOf_at {K : PySem.W.Frag} {H : Hp} {L : Pr} (h : PartsAt K H L) : TrayAt K H (someOf L) := fun q hq => by
  obtain ⟨⟨v, o⟩, h1, h2⟩ := List.mem_filterMap.mp hq
  obtain ⟨e, h3, h4⟩ := Option.map_eq_some_iff.mp h2
  have hp := h _ h1
  cases h4
  dsimp only at h3
  subst h3
  exact hp
theorem someOf_snd (L : Pr) : (someOf L).map (·.2) = (L.map (·.2)).filterMap id := by
  unfold someOf
  rw [List.map_filterMap, List.filterMap_map]
  congr 1
  funext q
  cases h : q.2 <;> simp [h]
theorem someOf_len (L : Pr) : (someOf L).length ≤ L.length := List.length_filterMap_le ..
theorem part_v {K : PySem.W.Frag} {H : Hp} {q : V × Option Nt} (h : PartAt K H q) : decide (q.1 = V.non) = q.2.isNone := by
  obtain ⟨v, o⟩ := q
  cases o with
  | none => have e : v = V.non := h; rw [e]; rfl
  | some e =>
    obtain ⟨⟨a, w, e1, _⟩, _⟩ := h
    have e2 : v = V.ref a := e1
    rw [e2]; rfl
theorem lc_some {K : PySem.W.Frag} {c D : Addr} {L : Pr} {tt : TT} {v0 : Option V} {rest : St} {H : Hp} {Q : Hp → Prop} (hk : H c = some (.lst (L.map (·.1)))) (hP : PartsAt K H L) (nD : new K H D) (hz : L.length ≤ 1000)
    (test : ∀ (v : V) H' (Q : Bool → Hp → Prop), Q (!decide (v = V.non)) H' → tt (some v :: rest) H' Q)
    (fin : ∀ H', H' D = some (.lst (Tr.v (someOf L))) → Ext K H H' → Q H') : LcLoop (Itl K c) (gName 0) tt (tVar 0) D Q (v0 :: rest) (upd H D (.lst [])) := by
  refine lc_list (xs := L.map (·.1)) (fun i acc σ' H' => ∃ (v0 : Option V), σ' = v0 :: rest ∧ H' D = some (.lst acc) ∧ acc = Tr.v (someOf (L.take i)) ∧ Kp K D (upd H D (.lst [])) H') ?_ ?_ ?_ ?_
  · exact ⟨_, rfl, upd_same, rfl, Kp.refl⟩
  · rintro i acc σ' H' _ ⟨v0, rfl, hD, rfl, k⟩
    exact SqL.of ((k.ext nD).at hk)
  · rintro i x acc σ' H' hx ⟨v0, rfl, hD, rfl, k⟩
    rw [List.getElem?_map] at hx
    obtain ⟨q, ek, rfl⟩ := Option.map_eq_some_iff.mp hx
    have et : L.take (i + 1) = L.take i ++ [q] := by rw [List.take_add_one, ek]; rfl
    have hlen : (someOf (L.take i)).length ≤ 1000 := Nat.le_trans (someOf_len _) (by rw [List.length_take]; omega)
    have hpv := part_v (hP q (List.mem_of_getElem? ek))
    refine test q.1 H' _ ?_
    rw [hpv]
    cases ci : q.2 with
    | some e =>
      refine iteT ⟨q.1, rfl, hD, by rw [List.length_map]; exact Nat.lt_of_le_of_lt hlen (by decide), _, rfl, upd_same, ?_, k.trans (Kp.upd hD)⟩
      rw [et]
      simp [someOf, ci, Tr.v]
    | none =>
      refine iteF ⟨_, rfl, hD, ?_, k⟩
      rw [et]
      simp [someOf, ci]
  · rintro acc σ' H' ⟨v0, rfl, hD, rfl, k⟩
    rw [List.length_map, List.take_length] at hD
    exact fin H' hD (k.ext nD)
theorem sum_two {α : Type} (l : List α) : (l.map fun _ => 2).sum = 2 * l.length := by
  induction l with
  | nil => rfl
  | cons a l ih => rw [List.map_cons, List.sum_cons, ih, List.length_cons]; omega
def inF (ns : List Nt) (lo hi : Int) : List Nt := (ns.map fun e => cutO e lo hi).filterMap id
def outF (ns : List Nt) (lo hi : Int) : List Nt := (ns.flatMap fun e => [cutO e 0 lo, cutO e hi 1000000000000]).filterMap id
def spWithin (K : PySem.W.Frag) (F : List Nt → Int → Int → List Nt) : Sp := fun vs H Q _ => ∃ (r : Addr) (L : Tr) (lo hi : Int), vs = [.ref r, .int lo, .int hi] ∧ H r = some (.lst L.v) ∧ TrayAt K H L ∧ L.length ≤ 400 ∧
  ∀ (D : Addr) (M : Tr) H', H D = none → H' D = some (.lst M.v) → TrayAt K H' M → M.ns = F L.ns lo hi → M.length ≤ 2 * L.length → Ext K H H' → Q (.ref D) H'
theorem cut_use {K : PySem.W.Frag} {v : V} {e : Nt} {lo hi : Int} {H : Hp} {Q : VK} (hN : NoteAt K H v e) (ok : e.ok) (h : ∀ (u : V) H', PartAt K H' (u, cutO e lo hi) → Ext K H H' → Q u H') : Cal (spCut K) [v, .int lo, .int hi] H Q ⟨0⟩ E0 := by
  refine ⟨v, e, lo, hi, rfl, hN, fun c b H' hb x => h b H' ?_ x, fun c => h .non H ?_ Ext.refl⟩
  · unfold cutO
    rw [if_pos c]
    exact ⟨hb, Nt.cut_ok ok c⟩
  · unfold cutO
    rw [if_neg c]
    rfl
theorem sc_within : FnScope ["tray", "low", "high", "parts"] ["tray", "low", "high"] (defScope s_within) := ⟨rfl, rfl, rfl, by decide +kernel, rfl, by decide +kernel, by decide +kernel⟩
theorem ok_within {f : Addr} {fd : FuncData} (F : Fun K "within" "within" s_within f fd) (B : B K mg aG tE) (C_cut : Callee P w K mg base "cut" 1 ["note", "low", "high"] (spCut K)) : FnOk P w K mg base CX0 2 f fd ["tray", "low", "high"] (spWithin K inF) := by
  refine F.okJ sc_within (fun vs H Q E h => ?_) (fun cdv A outer s H vs Q E hr h => ?_)
  · obtain ⟨r, L, lo, hi, rfl, _⟩ := h
    rfl
  obtain ⟨r, L, lo, hi, rfl, hr0, hT, hz, q⟩ := h
  refine ⟨_, (bcons (slc (i := 3) sc_within.nd rfl (Or.inl rfl) (Cap.mk (N := ["note", "low", "high"]) (src := [none, some 1, some 2]) rfl rfl) rfl (ilist (ev 0)) (fun _ _ _ _ => (gname (i := 0) (show (["note", "low", "high"] : List Str).Nodup from by decide +kernel) rfl (Or.inl rfl))) (fun _ _ _ _ => fnone) (fun _ _ _ _ => (ecall C_cut (hr.mono (by decide)) rfl (acons (ev 0) (acons (ev 1) (acons (ev 2) anil))))))
      (bone (sret (elc (Cap.mk (N := ["piece"]) (src := [none]) rfl rfl) rfl (ilist (ev 3)) (fun _ _ _ _ => (gname (i := 0) (show (["piece"] : List Str).Nodup from by decide +kernel) rfl (Or.inl rfl))) (fun _ _ _ _ => (fone (tcmp op_notN (ev 0) enon (nomark _)))) (fun _ _ _ _ => (ev 0)))))), ?_⟩
  try walk_at "rn"
  refine ⟨⟨_, SqL.of hr0⟩, fun D nD => ?_⟩
  obtain ⟨Pv, eP⟩ : ∃ Pv : Nat → List V → St → Hp → Prop, Pv = fun i acc σ' H' => ∃ (v0 : Option V) (M : Pr), σ' = [v0, some (.int lo), some (.int hi)] ∧ H' D = some (.lst acc) ∧ acc = M.map (·.1) ∧ PartsAt K H' M ∧ M.map (·.2) = (L.take i).map (fun q => cutO q.2 lo hi) ∧ Kp K D (upd H D (.lst [])) H' := ⟨_, rfl⟩
  refine lc_list (xs := Tr.v L) Pv ?_ ?_ ?_ ?_
  · rw [eP]
    exact ⟨_, [], rfl, upd_same, rfl, (fun q hq => nomatch hq), rfl, Kp.refl⟩
  · intro i acc σ' H' _ h
    rw [eP] at h
    obtain ⟨v0, M, rfl, hD, rfl, hM, eM, k⟩ := h
    exact SqL.of ((k.ext nD).at hr0)
  · intro i x acc σ' H' hx h
    rw [eP] at h
    obtain ⟨v0, M, rfl, hD, rfl, hM, eM, k⟩ := h
    rw [List.getElem?_map] at hx
    obtain ⟨m, em, rfl⟩ := Option.map_eq_some_iff.mp hx
    have hT' := (hT.ext (k.ext nD)) m (List.mem_of_getElem? em)
    have lM : M.length ≤ 400 := by
      have := congrArg List.length eM
      rw [List.length_map, List.length_map, List.length_take] at this
      omega
    try walk_at "rn"
    refine cut_use hT'.1 hT'.2 fun u H2 hu x2 => ?_
    rw [eP]
    have hD2 := x2.at hD
    refine ⟨hD2, by rw [List.length_map]; omega, _, M ++ [(u, cutO m.2 lo hi)], rfl, upd_same, by rw [List.map_append]; rfl, ((hM.ext x2).snoc hu).kp (Kp.upd hD2) hD2, ?_, k.trans (x2.kp.trans (Kp.upd hD2))⟩
    rw [List.map_append, eM, List.take_add_one, em, Option.toList_some, List.map_append]
    rfl
  intro acc σ' H1 h
  rw [eP] at h
  clear eP
  obtain ⟨v0, M, rfl, hD, rfl, hM, eM, k⟩ := h
  rw [List.length_map, List.take_length] at eM
  have x1 := k.ext nD
  have lM : M.length = L.length := by
    have := congrArg List.length eM
    rwa [List.length_map, List.length_map] at this
  try walk_at "rn"
  refine ⟨⟨_, SqL.of hD⟩, fun D2 nD2 => ?_⟩
  refine lc_some hD hM nD2 (by omega) (fun v H' Q' qq => ?_) (fun H2 hD2 x2 => ?_)
  · try walk_at "rn"
    exact qq
  refine q D2 (someOf M) H2 (x1.was nD2.1) hD2 (someOf_at (hM.ext x2)) ?_ (Nat.le_trans (someOf_len M) (by omega)) (x1.trans x2)
  rw [Tr.ns, someOf_snd, eM, inF, Tr.ns, List.map_map]
  rfl
theorem sc_without : FnScope ["tray", "low", "high", "parts"] ["tray", "low", "high"] (defScope s_without) := ⟨rfl, rfl, rfl, by decide +kernel, rfl, by decide +kernel, by decide +kernel⟩
theorem ok_without {f : Addr} {fd : FuncData} (F : Fun K "without" "without" s_without f fd) (B : B K mg aG tE) (C_cut : Callee P w K mg base "cut" 1 ["note", "low", "high"] (spCut K)) : FnOk P w K mg base CX0 2 f fd ["tray", "low", "high"] (spWithin K outF) := by
  refine F.okJ sc_without (fun vs H Q E h => ?_) (fun cdv A outer s H vs Q E hr h => ?_)
  · obtain ⟨r, L, lo, hi, rfl, _⟩ := h
    rfl
  obtain ⟨r, L, lo, hi, rfl, hr0, hT, hz, q⟩ := h
  refine ⟨_, (bcons (slc2 (i := 3) sc_without.nd rfl (Or.inl rfl) (Cap.mk (N := ["note", "first", "end", "low", "high"]) (src := [none, none, none, some 1, some 2]) rfl rfl) rfl (ilist (ev 0)) (fun _ _ _ _ => (gname (i := 0) (show (["note", "first", "end", "low", "high"] : List Str).Nodup from by decide +kernel) rfl (Or.inl rfl))) (fun _ _ _ _ => fnone) (fun _ _ _ _ => (itupK K (etupQK K (acons (etupQK K (acons ei (acons (ev 3) anil))) (acons (etupQK K (acons (ev 4) (acons (eglob rfl B.END B.END_is) anil))) anil))))) (fun _ _ _ _ => (gtupQK K (n := 2) rfl (gcons (gname (i := 1) (show (["note", "first", "end", "low", "high"] : List Str).Nodup from by decide +kernel) rfl (Or.inl rfl)) (gcons (gname (i := 2) (show (["note", "first", "end", "low", "high"] : List Str).Nodup from by decide +kernel) rfl (Or.inl rfl)) gnil)))) (fun _ _ _ _ => fnone) (fun _ _ _ _ => (ecall C_cut (hr.mono (by decide)) rfl (acons (ev 0) (acons (ev 1) (acons (ev 2) anil))))))
      (bone (sret (elc (Cap.mk (N := ["piece"]) (src := [none]) rfl rfl) rfl (ilist (ev 3)) (fun _ _ _ _ => (gname (i := 0) (show (["piece"] : List Str).Nodup from by decide +kernel) rfl (Or.inl rfl))) (fun _ _ _ _ => (fone (tcmp op_notN (ev 0) enon (nomark _)))) (fun _ _ _ _ => (ev 0)))))), ?_⟩
  try walk_at "rn"
  refine ⟨⟨_, SqL.of hr0⟩, fun D nD => ?_⟩
  obtain ⟨Pv, eP⟩ : ∃ Pv : Nat → List V → St → Hp → Prop, Pv = fun i acc σ' H' => ∃ (v0 v1 v2 : Option V) (M : Pr), σ' = [v0, v1, v2, some (.int lo), some (.int hi)] ∧ H' D = some (.lst acc) ∧ acc = M.map (·.1) ∧ PartsAt K H' M ∧ M.map (·.2) = (L.take i).flatMap (fun q => [cutO q.2 0 lo, cutO q.2 hi 1000000000000]) ∧ Kp K D (upd H D (.lst [])) H' := ⟨_, rfl⟩
  refine la_list (xs := Tr.v L) Pv ?_ ?_ ?_ ?_
  · rw [eP]
    exact ⟨_, _, _, [], rfl, upd_same, rfl, (fun q hq => nomatch hq), rfl, Kp.refl⟩
  · intro i acc σ' H' _ h
    rw [eP] at h
    obtain ⟨v0, v1, v2, M, rfl, hD, rfl, hM, eM, k⟩ := h
    exact SqL.of ((k.ext nD).at hr0)
  · intro i x acc σ' H' hx h
    rw [eP] at h
    obtain ⟨v0, v1, v2, M, rfl, hD, rfl, hM, eM, k⟩ := h
    rw [List.getElem?_map] at hx
    obtain ⟨m, em, rfl⟩ := Option.map_eq_some_iff.mp hx
    try walk_at "rn"
    intro a1 n1 a2 n2 a3 n3
    have x1 := Ext.new (K := K) (o := .tup [.int 0, .int lo]) n1
    have x2 := Ext.new (K := K) (o := .tup [.int hi, .int 1000000000000]) n2
    have x3 := Ext.new (K := K) (o := .tup [.ref a1, .ref a2]) n3
    have x13 := x1.trans (x2.trans x3)
    have t1 := (x2.trans x3).tup (tupQ_updT (K := K) (H := H') (a := a1) (xs := [.int 0, .int lo]))
    have t2 := x3.tup (tupQ_updT (K := K) (H := upd H' a1 (.tup [.int 0, .int lo])) (a := a2) (xs := [.int hi, .int 1000000000000]))
    have t3 : tupQ K (upd (upd (upd H' a1 (.tup [.int 0, .int lo])) a2 (.tup [.int hi, .int 1000000000000])) a3 (.tup [.ref a1, .ref a2])) a3 = some [.ref a1, .ref a2] := tupQ_updT
    generalize upd (upd (upd H' a1 (.tup [.int 0, .int lo])) a2 (.tup [.int hi, .int 1000000000000])) a3 (.tup [.ref a1, .ref a2]) = G at x13 t1 t2 t3 ⊢
    refine ⟨⟨_, tupQ_sq t3⟩, ?_⟩
    have lM : M.length ≤ 800 := by
      have h := congrArg List.length eM
      rw [List.length_map, List.length_flatMap] at h
      have h2 : ∀ (l : List (V × Nt)), (l.map fun q => [cutO q.2 0 lo, cutO q.2 hi 1000000000000].length).sum = 2 * l.length := fun l => sum_two l
      rw [h2, List.length_take] at h
      omega
    have hDG := x13.at hD
    obtain ⟨Pi, eI⟩ : ∃ Pv : Nat → List V → St → Hp → Prop, Pv = fun j acc σ' H2 => ∃ (v1 v2 : Option V) (M' : Pr), σ' = [some m.1, v1, v2, some (.int lo), some (.int hi)] ∧ H2 D = some (.lst acc) ∧ acc = M'.map (·.1) ∧ PartsAt K H2 M' ∧ M'.map (·.2) = M.map (·.2) ++ [cutO m.2 0 lo, cutO m.2 hi 1000000000000].take j ∧ Kp K D G H2 := ⟨_, rfl⟩
    refine la_tup (xs := [.ref a1, .ref a2]) Pi ?_ ?_ ?_ ?_
    · rw [eI]
      exact ⟨_, _, M, rfl, hDG, rfl, hM.ext x13, by simp, Kp.refl⟩
    · intro j acc σ' H2 _ h
      rw [eI] at h
      obtain ⟨v1, v2, M', rfl, hD2, rfl, hM2, eM2, k2⟩ := h
      exact tupQ_sq (k2.tup hDG t3)
    · intro j x acc σ' H2 hj h
      rw [eI] at h
      obtain ⟨v1, v2, M', rfl, hD2, rfl, hM2, eM2, k2⟩ := h
      have hj2 : j < 2 := (List.getElem?_eq_some_iff.mp hj).1
      obtain ⟨ax, l, h, rfl, ht, hc⟩ : ∃ (ax : Addr) (l h : Int), x = .ref ax ∧ tupQ K G ax = some [.int l, .int h] ∧ [cutO m.2 0 lo, cutO m.2 hi 1000000000000].take (j + 1) = [cutO m.2 0 lo, cutO m.2 hi 1000000000000].take j ++ [cutO m.2 l h] := by
        match j, hj2 with
        | 0, _ => cases hj; exact ⟨a1, 0, lo, rfl, t1, rfl⟩
        | 1, _ => cases hj; exact ⟨a2, hi, _, rfl, t2, rfl⟩
      have hT2 := ((hT.ext (k.ext nD)).ext x13) m (List.mem_of_getElem? em)
      have lM2 : M'.length ≤ 900 := by
        have h := congrArg List.length eM2
        rw [List.length_append, List.length_map, List.length_map, List.length_take] at h
        omega
      simp only [tSeq, tNext, tIfS, tAsg, gName, gSub, tRet, tRetN, tDrop, tVar, tC, tOp, tUn, rI0, rI, rU, tTest, tB, tAndV, tOrV, tNotV, tAnd, tOr, tNot, tIf, tChain, tCB, tCons, tNil, tLst, tTup, tCallC, List.getElem?_cons_zero, List.getElem?_cons_succ, List.set_cons_zero, List.set_cons_succ, Option.some.injEq, V.int.injEq, V.bl.injEq, V.ref.injEq, V.ty.injEq, V.str.injEq, List.cons.injEq, exists_eq_left', exists_eq_left, exists_and_left, and_true, true_and, and_assoc, cxK, rIxF, rSetL, rEq, rNe, scal, HO.lst.injEq, HO.tup.injEq, upd_none, ixN_10, ixN_20, ixN_21, ixN_30, ixN_31, ixN_32, upd_same, seqAt_updL, seqAt_updT, atI_0, atI_1, atI_2, atI_3, decide_eq_true_eq, L2.start, List.map_cons, List.map_nil, List.length_cons, List.length_nil, Nat.reduceAdd, Nat.reduceSub, List.replicate_succ, List.replicate_zero, List.cons_append, List.nil_append, List.append_nil, tFor_rng1, tFor_rng2, tFor_list, tFor_tup, CDv, CMul, CPow, sizeLine_eq, Int.reduceLE, Int.reduceLT, Int.reducePow, Int.reduceToNat, Int.reduceAdd, Int.reduceSub, Int.reduceMul, Int.reduceNeg, Nat.reduceLeDiff, Nat.reducePow, Nat.reduceLT, Int.reduceEq, true_or, or_true, ite_true, ite_false, if_true, if_false, Bool.not_true, Bool.not_false, Bool.false_eq_true, decide_true, decide_false, rIxQ, seqQ_updL, seqQ_updT, tupQ_updT, tSl, tNoPart, tPart, rSlQ, rCatQ, tTupQ, tLstQ, tNever, rEqD, rInQ, gTupQ, gCons, gNil, tBM, rAppend, rSlTQ, gSlice, tLc2_list, bodyL_tup, bodyL_list, bodyE_eq, tDGet, tLcD, tDGet2, sDPut, tFor_rng3, tLc_rng1, tLc_rng2, tLc_list, tLc_tup, tLc_enum, pick_nil, pick_own, pick_cap, join_some, tYes, tCallKC, gk_11, gk_31, tSortSet, tFor_zip, tAug, ipI, k2.tup hDG ht]
      refine cut_use (hT2.1.kp k2 hDG) hT2.2 fun u H3 hu x3 => ?_
      rw [eI]
      have hD3 := x3.at hD2
      refine ⟨hD3, by rw [List.length_map]; omega, _, _, M' ++ [(u, cutO m.2 l h)], rfl, upd_same, by rw [List.map_append]; rfl, ((hM2.ext x3).snoc hu).kp (Kp.upd hD3) hD3, ?_, k2.trans (x3.kp.trans (Kp.upd hD3))⟩
      rw [List.map_append, eM2, hc, List.append_assoc]
      rfl
    intro acc σ' H2 h
    rw [eI] at h
    obtain ⟨v1, v2, M', rfl, hD2, rfl, hM2, eM2, k2⟩ := h
    rw [eP]
    refine ⟨_, _, _, M', rfl, hD2, rfl, hM2, ?_, k.trans (x13.kp.trans k2)⟩
    rw [eM2, eM, List.take_add_one, em, Option.toList_some, List.flatMap_append]
    rfl
  intro acc σ' H1 h
  rw [eP] at h
  clear eP
  obtain ⟨v0, v1, v2, M, rfl, hD, rfl, hM, eM, k⟩ := h
  rw [List.length_map, List.take_length] at eM
  have x1 := k.ext nD
  have lM : M.length = 2 * L.length := by
    have h := congrArg List.length eM
    rw [List.length_map, List.length_flatMap] at h
    have h2 : ∀ (l : List (V × Nt)), (l.map fun q => [cutO q.2 0 lo, cutO q.2 hi 1000000000000].length).sum = 2 * l.length := fun l => sum_two l
    rwa [h2] at h
  try walk_at "rn"
  refine ⟨⟨_, SqL.of hD⟩, fun D2 nD2 => ?_⟩
  refine lc_some hD hM nD2 (by omega) (fun v H' Q' qq => ?_) (fun H2 hD2 x2 => ?_)
  · try walk_at "rn"
    exact qq
  refine q D2 (someOf M) H2 (x1.was nD2.1) hD2 (someOf_at (hM.ext x2)) ?_ (Nat.le_trans (someOf_len M) (by omega)) (x1.trans x2)
  rw [Tr.ns, someOf_snd, eM, outF, Tr.ns, List.flatMap_map]
def spPoured (K : PySem.W.Frag) : Sp := fun vs H Q _ => ∃ (r : Addr) (L : Tr) (lo hi : Int), vs = [.ref r, .int lo, .int hi] ∧ H r = some (.lst L.v) ∧ TrayAt K H L ∧ L.length ≤ 400 ∧
  ∀ (t D D' : Addr) (M M' : Tr) H', H D = none → H D' = none → D ≠ D' → tupQ K H' t = some [.ref D, .ref D'] → H' D = some (.lst M.v) → H' D' = some (.lst M'.v) → TrayAt K H' M → TrayAt K H' M' → M.ns = inF L.ns lo hi → M'.ns = outF L.ns lo hi → M.length ≤ 2 * L.length → M'.length ≤ 2 * L.length → Ext K H H' → Q (.ref t) H'
theorem sc_poured : FnScope ["tray", "low", "high"] ["tray", "low", "high"] (defScope s_poured) := ⟨rfl, rfl, rfl, by decide +kernel, rfl, by decide +kernel, by decide +kernel⟩
theorem ok_poured {f : Addr} {fd : FuncData} (F : Fun K "poured" "poured" s_poured f fd) (B : B K mg aG tE) (C_within : Callee P w K mg base "within" 2 ["tray", "low", "high"] (spWithin K inF)) (C_without : Callee P w K mg base "without" 2 ["tray", "low", "high"] (spWithin K outF)) : FnOk P w K mg base CX0 3 f fd ["tray", "low", "high"] (spPoured K) := by
  refine F.okJ sc_poured (fun vs H Q E h => ?_) (fun cdv A outer s H vs Q E hr h => ?_)
  · obtain ⟨r, L, lo, hi, rfl, _⟩ := h
    rfl
  obtain ⟨r, L, lo, hi, rfl, hr0, hT, hz, q⟩ := h
  refine ⟨_, (bone (sret (etupQ (acons (ecall C_within (hr.mono (by decide)) rfl (acons (ev 0) (acons (ev 1) (acons (ev 2) anil)))) (acons (ecall C_without (hr.mono (by decide)) rfl (acons (ev 0) (acons (ev 1) (acons (ev 2) anil)))) anil))))), ?_⟩
  try walk_at "rn"
  refine ⟨r, L, lo, hi, rfl, hr0, hT, hz, fun D M H1 nD hD hM eM lM x1 => ?_⟩
  try walk_at "rn"
  refine ⟨r, L, lo, hi, rfl, x1.at hr0, hT.ext x1, hz, fun D' M' H2 nD' hD' hM' eM' lM' x2 => ?_⟩
  try walk_at "rn"
  intro t nt
  have x3 := Ext.new (K := K) (o := .tup [.ref D, .ref D']) nt
  exact q t D D' M M' _ nD (x1.was nD') (ne_of_none hD nD') tupQ_updT ((x2.trans x3).at hD) (x3.at hD') (hM.ext (x2.trans x3)) (hM'.ext x3) eM eM' lM lM' (x1.trans (x2.trans x3))
def stepA (k : Int) (at_ : Option Int) (v : Option Int) (e : Nt) : Option Int := if (e.has k && okAt at_ e.n) = true then actF e.t e.m v else v
def seeA (ns : List Nt) (k : Int) (at_ v : Option Int) : Option Int := ns.foldl (stepA k at_) v
theorem seeF_A (L : Tr) (k : Int) (at_ v : Option Int) : seeF L k at_ v = seeA L.ns k at_ v := by
  unfold seeF seeA Tr.ns
  rw [List.foldl_map]
  induction L generalizing v with
  | nil => rfl
  | cons q L ih =>
    cases c : (q.2.has k && okAt at_ q.2.n) with
    | true => rw [List.filter_cons_of_pos (p := fun q : V × Nt => q.2.has k && okAt at_ q.2.n) c, List.foldl_cons, List.foldl_cons, stepA, if_pos c]; exact ih _
    | false => rw [List.filter_cons_of_neg (p := fun q : V × Nt => q.2.has k && okAt at_ q.2.n) (by rw [c]; decide), List.foldl_cons, stepA, if_neg (by rw [c]; decide)]; exact ih _
theorem last_max {l : List Nat} (h : l.Pairwise (· < ·)) {p : Nat} (e : l.getLast? = some p) {j : Nat} (hj : j ∈ l) : j ≤ p := by
  obtain ⟨A, rfl⟩ := List.getLast?_eq_some_iff.mp e
  rcases List.mem_append.mp hj with z | z
  · exact Nat.le_of_lt ((List.pairwise_append.mp h).2.2 j z p (by simp))
  · have : j = p := by simpa using z
    omega
theorem lastSh_max {ns : List Nt} {e : Nt} {p j : Nat} (h : lastSh ns e = some p) (hj : j < ns.length) (lt : p < j) : comAt ns e j = false := by
  cases c : comAt ns e j with
  | false => rfl
  | true =>
    have m : j ∈ plF ns e ns.length := List.mem_filter.mpr ⟨List.mem_range.mpr hj, c⟩
    have := last_max (List.Pairwise.filter _ List.pairwise_lt_range) h m
    omega
theorem see_laid {ns : List Nt} {e : Nt} {ms : List Int} (oks : ∀ q ∈ ns, q.ok) (ok : e.ok) (low : ∀ q ∈ ns, q.n ≤ e.n) {at_ : Option Int} (hat : at_ = none ∨ ∃ m ∈ ms, at_ = some m) (k : Int) (v : Option Int) : seeA (laidN ns e ms) k at_ v = seeA (ns ++ [e]) k at_ v := by
  unfold laidN
  cases c : lastSh ns e with
  | none => rfl
  | some p =>
    obtain ⟨pl, _⟩ := lastSh_lt c
    dsimp only
    rw [List.getElem?_eq_getElem pl]
    dsimp only
    by_cases cj : mayJ ns[p] e ms = true
    · rw [if_pos cj]
      obtain ⟨e1, e2⟩ := mayJ_ends cj
      have okp := oks _ (List.getElem_mem pl)
      have lp := low _ (List.getElem_mem pl)
      have vis : okAt at_ ns[p].n = okAt at_ e.n := by
        rcases hat with rfl | ⟨m, hm, rfl⟩
        · rfl
        · unfold mayJ at cj
          simp only [Bool.and_eq_true, Bool.not_eq_true', List.any_eq_false, decide_eq_true_eq] at cj
          have := cj.2 m hm
          show decide (ns[p].n ≤ m) = decide (e.n ≤ m)
          by_cases z : e.n ≤ m
          · rw [decide_eq_true z, decide_eq_true (by omega)]
          · rw [decide_eq_false z, decide_eq_false (by omega)]
      have hs : ns[p].has k = e.has k := by unfold Nt.has; rw [e1, e2]
      have split : ns = ns.take p ++ ns[p] :: ns.drop (p + 1) := by rw [← List.drop_eq_getElem_cons pl, List.take_append_drop]
      unfold seeA
      rw [List.eraseIdx_eq_take_drop_succ, List.foldl_append, List.foldl_append, List.foldl_append]
      conv => rhs; rw [split]
      rw [List.foldl_append, List.foldl_cons]
      generalize (ns.take p).foldl (stepA k at_) v = x
      show stepA k at_ ((ns.drop (p + 1)).foldl (stepA k at_) x) (joinN ns[p] e) = stepA k at_ ((ns.drop (p + 1)).foldl (stepA k at_) (stepA k at_ x ns[p])) e
      cases hk : e.has k with
      | true =>
        have idle : ∀ B : List Nt, (∀ q ∈ B, q.has k = false) → ∀ y, B.foldl (stepA k at_) y = y := fun B => by
          induction B with
          | nil => intro _ y; rfl
          | cons b B ih =>
            intro hB y
            rw [List.foldl_cons, stepA, hB b (by simp)]
            exact ih (fun q hq => hB q (List.mem_cons_of_mem _ hq)) y
        have none_ : ∀ q ∈ ns.drop (p + 1), q.has k = false := fun q hq => by
          obtain ⟨i, hi, rfl⟩ := List.mem_iff_getElem.mp hq
          rw [List.length_drop] at hi
          have cm := lastSh_max c (j := p + 1 + i) (by omega) (by omega)
          unfold comAt at cm
          rw [List.getElem?_eq_getElem (by omega)] at cm
          rw [List.getElem_drop]
          dsimp only at cm
          cases z : (ns[p + 1 + i]'(by omega)).has k with
          | false => rfl
          | true =>
            unfold Nt.has at z hk
            unfold Nt.com at cm
            simp only [decide_eq_true_eq, decide_eq_false_iff_not] at z hk cm
            omega
        rw [idle _ none_, idle _ none_]
        unfold stepA
        rw [hs, vis, hk]
        have hj : (joinN ns[p] e).has k = true := hk
        rw [hj]
        show (if (true && okAt at_ e.n) = true then actF (ns[p].t.then e.t e.m) (ns[p].m.then e.t e.m) x else x) = _
        cases okAt at_ e.n with
        | true => exact actF_then okp.np ok.np x
        | false => rfl
      | false =>
        have z1 : ∀ y, stepA k at_ y e = y := fun y => by unfold stepA; rw [hk]; rfl
        have z2 : ∀ y, stepA k at_ y (joinN ns[p] e) = y := fun y => by unfold stepA; rw [show (joinN ns[p] e).has k = false from hk]; rfl
        have z3 : ∀ y, stepA k at_ y ns[p] = y := fun y => by unfold stepA; rw [hs, hk]; rfl
        rw [z1, z2, z3]
    · rw [if_neg cj]
def oD : Option Int → PyData
  | none => .none
  | some i => .int i
theorem oD_is {K : PySem.W.Frag} {H : Hp} (o : Option Int) : Is K H (oD o) (oV o) := by cases o <;> simp only [oD, oV, Is]
def verD (p : Int × Option Int) : PyData := .tuple [.int p.1, oD p.2]
def versD (ws : List (Int × Option Int)) : PyData := .list (ws.map verD)
def rowD (r : Int × List (Int × Option Int)) : PyData := .tuple [.int r.1, versD r.2]
def rowsD (rows : List (Int × List (Int × Option Int))) : PyData := .list (rows.map rowD)
theorem Vers.all {K : PySem.W.Frag} {H : Hp} : ∀ {us : List V} {ws : List (Int × Option Int)}, Vers K H us ws → IsAll K H (ws.map verD) us
  | [], [], _ => by simp only [List.map_nil, IsAll]
  | _ :: us, p :: ws, ⟨⟨a, e, h⟩, r⟩ => by
    simp only [List.map_cons, IsAll]
    refine ⟨_, _, rfl, ?_, Vers.all r⟩
    rw [e]
    simp only [verD, Is, IsAll]
    exact ⟨a, _, rfl, tupQ_sq h, _, _, rfl, rfl, _, _, rfl, oD_is _, rfl⟩
theorem Vers.is {K : PySem.W.Frag} {H : Hp} {r : Addr} {us : List V} {ws : List (Int × Option Int)} (h : H r = some (.lst us)) (v : Vers K H us ws) : Is K H (versD ws) (.ref r) := by
  simp only [versD, Is]
  exact ⟨r, _, rfl, SqL.of h, v.all⟩
theorem RowAt.is {K : PySem.W.Frag} {H : Hp} {u : V} {q : Row} (h : RowAt K H u q) : Is K H (rowD q.kw) u := by
  obtain ⟨t, rfl, h1, h2, h3⟩ := h
  simp only [rowD, Row.kw, Is, IsAll]
  exact ⟨t, _, rfl, tupQ_sq h1, _, _, rfl, rfl, _, _, rfl, h3.is h2, rfl⟩
theorem RowsAt.all {K : PySem.W.Frag} {H : Hp} : ∀ {L : Rs}, RowsAt K H L → IsAll K H (L.kw.map rowD) L.v
  | [], _ => by simp only [Rs.kw, Rs.v, List.map_nil, IsAll]
  | q :: L, h => by
    simp only [Rs.kw, Rs.v, List.map_cons, IsAll]
    exact ⟨_, _, rfl, (h q (by simp)).is, RowsAt.all (L := L) fun p hp => h p (List.mem_cons_of_mem _ hp)⟩
theorem RowsAt.is {K : PySem.W.Frag} {H : Hp} {r : Addr} {L : Rs} (h : H r = some (.lst L.v)) (l : RowsAt K H L) : Is K H (rowsD L.kw) (.ref r) := by
  simp only [rowsD, Is]
  exact ⟨r, _, rfl, SqL.of h, l.all⟩
theorem oD_lay (o : Option Int) : (oD o).canLay0 = true ∧ (oD o).depth ≤ 1 := by cases o <;> simp [oD, PyData.canLay0, PyData.depth]
theorem ver_lay (p : Int × Option Int) : (verD p).canLay0 = true ∧ (verD p).depth ≤ 3 := by
  have h := oD_lay p.2
  simp only [verD, PyData.canLay0, PyData.canLayAll0, PyData.depth, PyData.depthAll, h.1, Bool.and_true]
  exact ⟨trivial, by omega⟩
theorem versA_lay : ∀ (ws : List (Int × Option Int)), PyData.canLayAll0 (ws.map verD) = true ∧ PyData.depthAll (ws.map verD) ≤ 3
  | [] => by simp [PyData.canLayAll0, PyData.depthAll]
  | p :: ws => by
    have ih := versA_lay ws
    have h := ver_lay p
    simp only [List.map_cons, PyData.canLayAll0, PyData.depthAll, ih.1, h.1, Bool.and_true]
    exact ⟨trivial, Nat.max_le.mpr ⟨h.2, ih.2⟩⟩
theorem vers_lay (ws : List (Int × Option Int)) : (versD ws).canLay0 = true ∧ (versD ws).depth ≤ 4 := by
  have h := versA_lay ws
  simp only [versD, PyData.canLay0, PyData.depth, h.1]
  exact ⟨trivial, by omega⟩
theorem row_lay (r : Int × List (Int × Option Int)) : (rowD r).canLay0 = true ∧ (rowD r).depth ≤ 6 := by
  have h := vers_lay r.2
  simp only [rowD, PyData.canLay0, PyData.canLayAll0, PyData.depth, PyData.depthAll, h.1, Bool.and_true]
  exact ⟨trivial, by omega⟩
theorem rowsA_lay : ∀ (rows : List (Int × List (Int × Option Int))), PyData.canLayAll0 (rows.map rowD) = true ∧ PyData.depthAll (rows.map rowD) ≤ 6
  | [] => by simp [PyData.canLayAll0, PyData.depthAll]
  | p :: ws => by
    have ih := rowsA_lay ws
    have h := row_lay p
    simp only [List.map_cons, PyData.canLayAll0, PyData.depthAll, ih.1, h.1, Bool.and_true]
    exact ⟨trivial, Nat.max_le.mpr ⟨h.2, ih.2⟩⟩
theorem rows_lay (rows : List (Int × List (Int × Option Int))) : (rowsD rows).canLay0 = true ∧ (rowsD rows).depth ≤ 7 := by
  have h := rowsA_lay rows
  simp only [rowsD, PyData.canLay0, PyData.depth, h.1]
  exact ⟨trivial, by omega⟩
def okO (o : Option Int) : Prop := ∀ i, o = some i → i.natAbs < 10 ^ 60
def okRow (r : Int × List (Int × Option Int)) : Prop := r.1.natAbs < 10 ^ 60 ∧ (∀ p ∈ r.2, p.1.natAbs < 10 ^ 60 ∧ okO p.2) ∧ r.2.length ≤ 20
def okRows (rows : List (Int × List (Int × Option Int))) : Prop := (∀ r ∈ rows, okRow r) ∧ rows.length ≤ 60
theorem oD_bare {o : Option Int} (h : okO o) : bare (oD o) = true ∧ wt (oD o) = 1 := by
  cases o with
  | none => exact ⟨rfl, rfl⟩
  | some i => exact ⟨bare_int (h i rfl), rfl⟩
theorem vers_bareD : ∀ {ws : List (Int × Option Int)}, (∀ p ∈ ws, p.1.natAbs < 10 ^ 60 ∧ okO p.2) → bareAll (ws.map verD) = true ∧ wtAll (ws.map verD) = 3 * ws.length
  | [], _ => ⟨rfl, rfl⟩
  | p :: ws, h => by
    have h1 := oD_bare (h p (by simp)).2
    have h2 := bare_int (h p (by simp)).1
    have ih := vers_bareD (ws := ws) fun q hq => h q (List.mem_cons_of_mem _ hq)
    refine ⟨?_, ?_⟩
    · simp only [List.map_cons, bareAll, verD, bare, ih.1, h1.1, Bool.and_true] at h2 ⊢
      exact h2
    · simp only [List.map_cons, wtAll, verD, wt, ih.2, h1.2, List.length_cons]
      omega
theorem rows_bareD : ∀ {rows : List (Int × List (Int × Option Int))}, (∀ r ∈ rows, okRow r) → bareAll (rows.map rowD) = true ∧ wtAll (rows.map rowD) ≤ 63 * rows.length
  | [], _ => ⟨rfl, Nat.le_refl _⟩
  | r :: rows, h => by
    obtain ⟨h1, h2, h3⟩ := h r (by simp)
    have h1 := bare_int h1
    have h2 := vers_bareD h2
    have ih := rows_bareD (rows := rows) fun q hq => h q (List.mem_cons_of_mem _ hq)
    refine ⟨?_, ?_⟩
    · simp only [List.map_cons, bareAll, rowD, versD, bare, ih.1, h2.1, Bool.and_true] at h1 ⊢
      exact h1
    · simp only [List.map_cons, wtAll, rowD, versD, wt, h2.2, List.length_cons]
      have := ih.2
      omega
theorem okRows.bare {rows : List (Int × List (Int × Option Int))} (h : okRows rows) : L2.bare (rowsD rows) = true ∧ (rowsD rows).depth ≤ 60 ∧ wt (rowsD rows) ≤ 8000 := by
  have h1 := rows_bareD h.1
  have h2 := rows_lay rows
  have h3 := h.2
  refine ⟨?_, by omega, ?_⟩
  · simp only [rowsD, L2.bare]
    exact h1.1
  · simp only [rowsD, wt]
    omega
theorem kw_len {L : Rs} : L.kw.length = L.length := by simp [Rs.kw]
theorem _root_.L2.Kp.thenNew {K : PySem.W.Frag} {p b : Addr} {H H1 H2 : Hp} (k : Kp K p H H1) (h : H b = none) (k2 : Kp K b H1 H2) : Kp K p H H2 :=
  ⟨fun q o e n => k2.keep q o (k.keep q o e n) (ne_of_none e h), fun q xs e m => k2.mod q xs (k.mod q xs e m) m⟩
theorem _root_.L2.Kp.was {K : PySem.W.Frag} {p b : Addr} {H H1 : Hp} {xs : List V} (k : Kp K p H H1) (hp : H1 p = some (.lst xs)) (hp0 : H p ≠ none) (h : H1 b = none) : H b = none := by
  cases e : H b with
  | none => rfl
  | some o =>
    by_cases z : b = p
    · subst z
      rw [hp] at h
      cases h
    · rw [k.keep b o e z] at h
      cases h
theorem call_list_ofQK {X : Cx} (K : PySem.W.Frag) (hk : X.K = K := by rfl) : CallR X (.type "list") (fun xs H Q => ∃ (p : Addr) (ys : List V), xs = [.ref p] ∧ seqQ K H p = some ys ∧ ∀ l, L2.new K H l → Q (.ref l) (upd H l (.lst ys))) := by subst hk; exact call_list_ofQ
def spBase (K : PySem.W.Frag) : Sp := fun vs H Q _ => ∃ p x y z, vs = [.ref p] ∧ H p = some (L3 x y z) ∧ ∀ (b x y z : Int) (H' : Hp), 0 ≤ b → b ≤ 999999999976 → H' p = some (L3 x y z) → Kp K p H H' → Q (.int b) H'
theorem sc__law_base : FnScope ["_law_well_here", "_law_far"] ["_law_well_here"] (defScope s__law_base) := ⟨rfl, rfl, rfl, by decide +kernel, rfl, by decide +kernel, by decide +kernel⟩
theorem ok__law_base {f : Addr} {fd : FuncData} (F : Fun K "_law_base" "_law_base" s__law_base f fd) (B : B K mg aG tE) (C__law_draw : Callee P w K mg base "_law_draw" 1 ["_law_well_here", "_law_many"] (spDraw K)) : FnOk P w K mg base CX0 2 f fd ["_law_well_here"] (spBase K) := by
  refine F.okJ sc__law_base (fun vs H Q E h => ?_) (fun cdv A outer s H vs Q E hr h => ?_)
  · obtain ⟨p, x, y, z, rfl, _⟩ := h
    rfl
  obtain ⟨p, x, y, z, rfl, hp, q⟩ := h
  refine ⟨_, (bcons (sset (i := 1) sc__law_base.nd rfl (Or.inl rfl) (eop op_add (eop op_mul (ecall C__law_draw (hr.mono (by decide)) rfl (acons (ev 0) (acons (epowc 1000000) anil))) ei) (ecall C__law_draw (hr.mono (by decide)) rfl (acons (ev 0) (acons ei anil)))))
      (bone (sret (eix ix_Q (elstQ (acons ei (acons (eop op_sub (epowc 1000000000000) ei) (acons (ev 1) anil)))) (ecall C__law_draw (hr.mono (by decide)) rfl (acons (ev 0) (acons ei anil))) (fun _ _ => rfl))))), ?_⟩
  try walk_at "rn"
  refine ⟨p, _, _, _, _, rfl, hp, by decide, by omega, fun d1 x y z H1 d10 d11 g1 k1 => ?_⟩
  try walk_at "rn"
  refine ⟨p, _, _, _, 24, rfl, g1, by decide, by omega, fun d2 x y z H2 d20 d21 g2 k2 => ?_⟩
  try walk_at "rn"
  intro b n
  have y1 := Ext.new (K := K) (o := .lst [.int 0, .int 999999999976, .int (d1 * 999000 + d2)]) n
  refine ⟨p, _, _, _, 3, rfl, y1.at g2, by decide, by omega, fun d3 x y z H3 d30 d31 g3 k3 => ?_⟩
  have ne : b ≠ p := (ne_of_none g2 n.1).symm
  simp only [tSeq, tNext, tIfS, tAsg, gName, gSub, tRet, tRetN, tDrop, tVar, tC, tOp, tUn, rI0, rI, rU, tTest, tB, tAndV, tOrV, tNotV, tAnd, tOr, tNot, tIf, tChain, tCB, tCons, tNil, tLst, tTup, tCallC, List.getElem?_cons_zero, List.getElem?_cons_succ, List.set_cons_zero, List.set_cons_succ, Option.some.injEq, V.int.injEq, V.bl.injEq, V.ref.injEq, V.ty.injEq, V.str.injEq, List.cons.injEq, exists_eq_left', exists_eq_left, exists_and_left, and_true, true_and, and_assoc, cxK, rIxF, rSetL, rEq, rNe, scal, HO.lst.injEq, HO.tup.injEq, upd_none, ixN_10, ixN_20, ixN_21, ixN_30, ixN_31, ixN_32, upd_same, seqAt_updL, seqAt_updT, atI_0, atI_1, atI_2, atI_3, decide_eq_true_eq, L2.start, List.map_cons, List.map_nil, List.length_cons, List.length_nil, Nat.reduceAdd, Nat.reduceSub, List.replicate_succ, List.replicate_zero, List.cons_append, List.nil_append, List.append_nil, tFor_rng1, tFor_rng2, tFor_list, tFor_tup, CDv, CMul, CPow, sizeLine_eq, Int.reduceLE, Int.reduceLT, Int.reducePow, Int.reduceToNat, Int.reduceAdd, Int.reduceSub, Int.reduceMul, Int.reduceNeg, Nat.reduceLeDiff, Nat.reducePow, Nat.reduceLT, Int.reduceEq, true_or, or_true, ite_true, ite_false, if_true, if_false, Bool.not_true, Bool.not_false, Bool.false_eq_true, decide_true, decide_false, rIxQ, seqQ_updL, seqQ_updT, tupQ_updT, tSl, tNoPart, tPart, rSlQ, rCatQ, tTupQ, tLstQ, tNever, rEqD, rInQ, gTupQ, gCons, gNil, tBM, rAppend, rSlTQ, gSlice, tLc2_list, bodyL_tup, bodyL_list, bodyE_eq, tDGet, tLcD, tDGet2, sDPut, tFor_rng3, tLc_rng1, tLc_rng2, tLc_list, tLc_tup, tLc_enum, pick_nil, pick_own, pick_cap, join_some, tYes, tCallKC, gk_11, gk_31, tSortSet, tFor_zip, tAug, ipI, seqQ_lst (k3.keep b _ upd_same ne)]
  obtain ⟨v, ev, mv⟩ := atI_in (xs := [V.int 0, V.int 999999999976, V.int (d1 * 999000 + d2)]) d30 d31
  refine ⟨_, ev, ?_⟩
  have kk := k1.trans (k2.trans (y1.kp.trans k3))
  simp only [List.mem_cons, List.not_mem_nil, or_false] at mv
  rcases mv with rfl | rfl | rfl
  · exact q _ _ _ _ H3 (by decide) (by decide) g3 kk
  · exact q _ _ _ _ H3 (by decide) (by decide) g3 kk
  · exact q _ _ _ _ H3 (by omega) (by omega) g3 kk
def spMarksS (K : PySem.W.Frag) : Sp := fun vs H Q _ => ∃ p x y z, vs = [.ref p, .int 80] ∧ H p = some (L3 x y z) ∧ ∀ (r : Addr) (ms : List Int) (x y z : Int) (H' : Hp), H r = none → H' r = some (.lst (ms.map V.int)) → ms.Pairwise (· < ·) → (∀ m ∈ ms, 1 ≤ m ∧ m ≤ 80) → ms.length ≤ 5 → r ≠ p → H' p = some (L3 x y z) → Kp K p H H' → Q (.ref r) H'
theorem sc__law_marks : FnScope ["_law_well_here", "_law_most"] ["_law_well_here", "_law_most"] (defScope s__law_marks) := ⟨rfl, rfl, rfl, by decide +kernel, rfl, by decide +kernel, by decide +kernel⟩
theorem ok__law_marks {f : Addr} {fd : FuncData} (F : Fun K "_law_marks" "_law_marks" s__law_marks f fd) (B : B K mg aG tE) (C__law_draw : Callee P w K mg base "_law_draw" 1 ["_law_well_here", "_law_many"] (spDraw K)) : FnOk P w K mg base CX0 2 f fd ["_law_well_here", "_law_most"] (spMarksS K) := by
  refine F.okJ sc__law_marks (fun vs H Q E h => ?_) (fun cdv A outer s H vs Q E hr h => ?_)
  · obtain ⟨p, x, y, z, rfl, _⟩ := h
    rfl
  obtain ⟨p, x, y, z, rfl, hp, q⟩ := h
  refine ⟨_, (bone (sret (esortedSet rfl rfl B.sorted rfl B.set (acons (elc (Cap.mk (N := ["_law_k", "_law_well_here", "_law_most"]) (src := [none, some 0, some 1]) rfl rfl) rfl (irange1 rfl B.range (acons (ecall C__law_draw (hr.mono (by decide)) rfl (acons (ev 0) (acons ei anil))) anil)) (fun _ _ _ _ => (gname (i := 0) (show (["_law_k", "_law_well_here", "_law_most"] : List Str).Nodup from by decide +kernel) rfl (Or.inl rfl))) (fun _ _ _ _ => fnone) (fun _ _ _ _ => (eop op_add ei (ecall C__law_draw (hr.mono (by decide)) rfl (acons (ev 1) (acons (ev 2) anil)))))) anil)))), ?_⟩
  try walk_at "rn"
  refine ⟨p, _, _, _, 6, rfl, hp, by decide, by omega, fun d1 x y z H1 d10 d11 g1 k1 => ?_⟩
  try walk_at "rn"
  refine ⟨by omega, by omega, fun D nD => ?_⟩
  have ne : D ≠ p := (ne_of_none g1 nD.1).symm
  obtain ⟨J, eJ⟩ : ∃ J : Nat → List V → St → Hp → Prop, J = fun i acc σ' H' => ∃ (v0 : Option V) (ks : List Int) (x y z : Int), σ' = [v0, some (.ref p), some (.int 80)] ∧ H' D = some (.lst acc) ∧ acc = ks.map V.int ∧ (∀ m ∈ ks, 1 ≤ m ∧ m ≤ 80) ∧ ks.length = i ∧ H' p = some (L3 x y z) ∧ Kp K p H1 H' := ⟨_, rfl⟩
  refine lc_range J ?_ ?_ ?_
  · rw [eJ]
    exact ⟨_, [], _, _, _, rfl, upd_same, rfl, (fun m hm => nomatch hm), rfl, (Ext.new nD).at g1, (Ext.new nD).kp⟩
  · intro i acc σ' H2 hi h
    rw [eJ] at h
    obtain ⟨v0, ks, x, y, z, rfl, hD, rfl, hk, lk, g2, k2⟩ := h
    try walk_at "rn"
    refine ⟨p, _, _, _, 80, rfl, g2, by decide, by omega, fun d x y z H3 d0 d1 g3 k3 => ?_⟩
    have hD3 := k3.keep D _ hD ne
    refine ⟨_, rfl, hD3, by rw [List.length_map]; omega, ?_⟩
    have kD : Kp K D H3 (upd H3 D (.lst (ks.map V.int ++ [.int (1 + d)]))) := Kp.upd hD3
    rw [eJ]
    refine ⟨_, ks ++ [1 + d], x, y, z, rfl, upd_same, by simp, fun m hm => ?_, by rw [List.length_append, lk]; rfl, kD.keep p _ g3 ne.symm, (k2.trans k3).thenNew nD.1 kD⟩
    rcases List.mem_append.mp hm with e | e
    · exact hk m e
    · have e : m = 1 + d := by simpa using e
      omega
  · intro acc σ' H2 h
    rw [eJ] at h
    obtain ⟨v0, ks, x, y, z, rfl, hD, rfl, hk, lk, g2, k2⟩ := h
    refine ⟨ks, SqL.of hD, by omega, fun D2 ks' nD2 up mem len => ?_⟩
    have y3 := Ext.new (K := K) (o := .lst (ks'.map V.int)) nD2
    refine q D2 ks' x y z _ ?_ upd_same up (fun m hm => hk m ((mem m).mp hm)) (by omega) (ne_of_none g2 nD2.1).symm (y3.at g2) (k1.trans (k2.trans y3.kp))
    exact (k1.trans k2).was g2 (by rw [hp]; exact nofun) nD2.1
def spCopied (K : PySem.W.Frag) : Sp := fun vs H Q _ => ∃ (r : Addr) (L : Rs), vs = [.ref r] ∧ H r = some (.lst L.v) ∧ RowsAt K H L ∧ L.length ≤ 1000 ∧
  ∀ (D : Addr) (M : Rs) (H' : Hp), H D = none → H' D = some (.lst M.v) → RowsAt K H' M → M.kw = L.kw → (∀ p ∈ M, H p.2.a = none ∧ p.2.a ≠ D) → Ext K H H' → Q (.ref D) H'
theorem sc__law_copied : FnScope ["_law_rows_here"] ["_law_rows_here"] (defScope s__law_copied) := ⟨rfl, rfl, rfl, by decide +kernel, rfl, by decide +kernel, by decide +kernel⟩
theorem ok__law_copied {f : Addr} {fd : FuncData} (F : Fun K "_law_copied" "_law_copied" s__law_copied f fd) (B : B K mg aG tE) : FnOk P w K mg base CX0 1 f fd ["_law_rows_here"] (spCopied K) := by
  refine F.okJ sc__law_copied (fun vs H Q E h => ?_) (fun cdv A outer s H vs Q E hr h => ?_)
  · obtain ⟨r, L, rfl, _⟩ := h
    rfl
  obtain ⟨r, L, rfl, hS, hL, lL, q⟩ := h
  refine ⟨_, (bone (sret (elc (Cap.mk (N := ["_law_key", "_law_versions"]) (src := [none, none]) rfl rfl) rfl (ilist (ev 0)) (fun _ _ _ _ => (gtupQK K (n := 2) rfl (gcons (gname (i := 0) (show (["_law_key", "_law_versions"] : List Str).Nodup from by decide +kernel) rfl (Or.inl rfl)) (gcons (gname (i := 1) (show (["_law_key", "_law_versions"] : List Str).Nodup from by decide +kernel) rfl (Or.inl rfl)) gnil)))) (fun _ _ _ _ => fnone) (fun _ _ _ _ => (etupQK K (acons (ev 0) (acons (ecallTy (call_list_ofQK K) rfl B.list bt_list (acons (ev 1) anil)) anil))))))), ?_⟩
  try walk_at "rn"
  refine ⟨⟨_, SqL.of hS⟩, fun D nD => ?_⟩
  obtain ⟨J, eJ⟩ : ∃ J : Nat → List V → St → Hp → Prop, J = fun i acc σ' H' => ∃ (v0 v1 : Option V) (M : Rs), σ' = [v0, v1] ∧ H' D = some (.lst acc) ∧ acc = M.v ∧ RowsAt K H' M ∧ M.kw = Rs.kw (L.take i) ∧ (∀ p ∈ M, H p.2.a = none ∧ p.2.a ≠ D) ∧ M.length ≤ i ∧ Kp K D (upd H D (.lst [])) H' := ⟨_, rfl⟩
  refine lc_list (xs := L.v) J ?_ ?_ ?_ ?_
  · rw [eJ]
    exact ⟨_, _, [], rfl, upd_same, rfl, (fun p hp => nomatch hp), rfl, (fun p hp => nomatch hp), Nat.le_refl _, Kp.refl⟩
  · intro i acc σ' H' _ h
    rw [eJ] at h
    obtain ⟨_, _, _, _, _, _, _, _, _, _, k⟩ := h
    exact SqL.of ((k.ext nD).at hS)
  · intro i x acc σ' H1 hx h
    rw [eJ] at h
    obtain ⟨v0, v1, M, rfl, hD, rfl, hM, eM, nM, lM, k⟩ := h
    rw [Rs.v, List.getElem?_map] at hx
    obtain ⟨p, ep, rfl⟩ := Option.map_eq_some_iff.mp hx
    have il : i < L.length := (List.getElem?_eq_some_iff.mp ep).1
    have x1 := k.ext nD
    obtain ⟨t, e1, e2, e3, e4⟩ := (hL.ext x1) p (List.mem_of_getElem? ep)
    rw [e1]
    simp only [tSeq, tNext, tIfS, tAsg, gName, gSub, tRet, tRetN, tDrop, tVar, tC, tOp, tUn, rI0, rI, rU, tTest, tB, tAndV, tOrV, tNotV, tAnd, tOr, tNot, tIf, tChain, tCB, tCons, tNil, tLst, tTup, tCallC, List.getElem?_cons_zero, List.getElem?_cons_succ, List.set_cons_zero, List.set_cons_succ, Option.some.injEq, V.int.injEq, V.bl.injEq, V.ref.injEq, V.ty.injEq, V.str.injEq, List.cons.injEq, exists_eq_left', exists_eq_left, exists_and_left, and_true, true_and, and_assoc, cxK, rIxF, rSetL, rEq, rNe, scal, HO.lst.injEq, HO.tup.injEq, upd_none, ixN_10, ixN_20, ixN_21, ixN_30, ixN_31, ixN_32, upd_same, seqAt_updL, seqAt_updT, atI_0, atI_1, atI_2, atI_3, decide_eq_true_eq, L2.start, List.map_cons, List.map_nil, List.length_cons, List.length_nil, Nat.reduceAdd, Nat.reduceSub, List.replicate_succ, List.replicate_zero, List.cons_append, List.nil_append, List.append_nil, tFor_rng1, tFor_rng2, tFor_list, tFor_tup, CDv, CMul, CPow, sizeLine_eq, Int.reduceLE, Int.reduceLT, Int.reducePow, Int.reduceToNat, Int.reduceAdd, Int.reduceSub, Int.reduceMul, Int.reduceNeg, Nat.reduceLeDiff, Nat.reducePow, Nat.reduceLT, Int.reduceEq, true_or, or_true, ite_true, ite_false, if_true, if_false, Bool.not_true, Bool.not_false, Bool.false_eq_true, decide_true, decide_false, rIxQ, seqQ_updL, seqQ_updT, tupQ_updT, tSl, tNoPart, tPart, rSlQ, rCatQ, tTupQ, tLstQ, tNever, rEqD, rInQ, gTupQ, gCons, gNil, tBM, rAppend, rSlTQ, gSlice, tLc2_list, bodyL_tup, bodyL_list, bodyE_eq, tDGet, tLcD, tDGet2, sDPut, tFor_rng3, tLc_rng1, tLc_rng2, tLc_list, tLc_tup, tLc_enum, pick_nil, pick_own, pick_cap, join_some, tYes, tCallKC, gk_11, gk_31, tSortSet, tFor_zip, tAug, ipI, e2,  seqQ_lst e3]
    intro Dv nDv T nT
    have x2 := Ext.new (K := K) (o := .lst p.2.us) nDv
    have x3 := Ext.new (K := K) (o := .tup [.int p.2.k, .ref Dv]) nT
    have x23 := x2.trans x3
    have hD3 := x23.at hD
    have neD : Dv ≠ D := (ne_of_none hD nDv.1).symm
    have kD : Kp K D _ (upd (upd (upd H1 Dv (.lst p.2.us)) T (.tup [.int p.2.k, .ref Dv])) D (.lst (M.v ++ [.ref T]))) := Kp.upd hD3
    refine ⟨hD3, by rw [Rs.v, List.length_map]; omega, ?_⟩
    rw [eJ]
    refine ⟨_, _, M ++ [(.ref T, ⟨p.2.k, Dv, p.2.us, p.2.ws⟩)], rfl, upd_same, by simp [Rs.v], ?_, ?_, ?_, by rw [List.length_append]; simp; omega, k.trans (x23.kp.trans kD)⟩
    · exact (RowsAt.snoc (u := .ref T) (q := ⟨p.2.k, Dv, p.2.us, p.2.ws⟩) (hM.ext x23) ⟨T, rfl, tupQ_updT, x3.at upd_same, e4.ext x23⟩).kp kD hD3 fun p' hp' => by
        rcases List.mem_append.mp hp' with z | z
        · exact (nM p' z).2
        · have e : p' = (.ref T, ⟨p.2.k, Dv, p.2.us, p.2.ws⟩) := by simpa using z
          rw [e]
          exact neD
    · rw [List.take_add_one, ep, Option.toList_some, Rs.kw, List.map_append, Rs.kw, List.map_append]
      have eM' := eM
      rw [Rs.kw, Rs.kw] at eM'
      rw [eM']
      rfl
    · intro p' hp'
      rcases List.mem_append.mp hp' with z | z
      · exact nM p' z
      · have e : p' = (.ref T, ⟨p.2.k, Dv, p.2.us, p.2.ws⟩) := by simpa using z
        rw [e]
        exact ⟨x1.was nDv.1, neD⟩
  · intro acc σ' H1 h
    rw [eJ] at h
    obtain ⟨v0, v1, M, rfl, hD, rfl, hM, eM, nM, lM, k⟩ := h
    rw [Rs.v, List.length_map, List.take_length] at eM
    exact q D M H1 nD.1 hD hM eM nM (k.ext nD)
structure Drawn (b : Int) (n : Nat) (rows : List (Int × List (Int × Option Int))) : Prop where
  up : (rows.map (·.1)).Pairwise (· < ·)
  key : ∀ r ∈ rows, b ≤ r.1 ∧ r.1 < b + n
  ris : ∀ r ∈ rows, Rising r.2
  few : ∀ r ∈ rows, r.2.length ≤ 5
  num : ∀ r ∈ rows, ∀ p ∈ r.2, 0 ≤ p.1 ∧ p.1 ≤ 30
  val : ∀ r ∈ rows, ∀ p ∈ r.2, bnd p.2
  len : rows.length ≤ n
def spRows (K : PySem.W.Frag) : Sp := fun vs H Q _ => ∃ (p : Addr) (x y z b : Int), vs = [.ref p, .int b] ∧ H p = some (L3 x y z) ∧
  ∀ (r : Addr) (L : Rs) (x y z : Int) (H' : Hp), H r = none → H' r = some (.lst L.v) → RowsAt K H' L → Drawn b 24 L.kw → (∀ q ∈ L, H q.2.a = none ∧ q.2.a ≠ p ∧ q.2.a ≠ r) → r ≠ p → H' p = some (L3 x y z) → Kp K p H H' → Q (.ref r) H'
theorem sc__law_rows : FnScope ["_law_well_here", "_law_base_here", "_law_found", "_law_k", "_law_number_here", "_law_versions", "_law_turn"] ["_law_well_here", "_law_base_here"] (defScope s__law_rows) := ⟨rfl, rfl, rfl, by decide +kernel, rfl, by decide +kernel, by decide +kernel⟩
theorem ok__law_rows {f : Addr} {fd : FuncData} (F : Fun K "_law_rows" "_law_rows" s__law_rows f fd) (B : B K mg aG tE) (C__law_draw : Callee P w K mg base "_law_draw" 1 ["_law_well_here", "_law_many"] (spDraw K)) (C__law_value : Callee P w K mg base "_law_value" 2 ["_law_well_here"] (spValue K)) : FnOk P w K mg base CX0 3 f fd ["_law_well_here", "_law_base_here"] (spRows K) := by
  refine F.okJ sc__law_rows (fun vs H Q E h => ?_) (fun cdv A outer s H vs Q E hr h => ?_)
  · obtain ⟨p, x, y, z, b, rfl, _⟩ := h
    rfl
  obtain ⟨p, x, y, z, b, rfl, hp, q⟩ := h
  refine ⟨_, (bcons (sset (i := 2) sc__law_rows.nd rfl (Or.inl rfl) (elstQ anil))
      (bcons (sfor PassesOwn.never rfl (irange1 rfl B.range (acons ei anil)) (gname (i := 3) sc__law_rows.nd rfl (Or.inl rfl))
        (bone (sif (tcmp op_eq (ecall C__law_draw (hr.mono (by decide)) rfl (acons (ev 0) (acons ei anil))) ei (nomark _)) (bcons (sset (i := 4) sc__law_rows.nd rfl (Or.inl rfl) (eix ix_Q (elstQ (acons ei (acons ei (acons (ecall C__law_draw (hr.mono (by decide)) rfl (acons (ev 0) (acons ei anil))) anil)))) (ecall C__law_draw (hr.mono (by decide)) rfl (acons (ev 0) (acons ei anil))) (fun _ _ => rfl)))
      (bcons (sset (i := 5) sc__law_rows.nd rfl (Or.inl rfl) (elstQ anil))
      (bcons (sfor PassesOwn.never rfl (irange1 rfl B.range (acons (eop op_add ei (ecall C__law_draw (hr.mono (by decide)) rfl (acons (ev 0) (acons ei anil)))) anil)) (gname (i := 6) sc__law_rows.nd rfl (Or.inl rfl))
        (bcons (sexpr (ebm PySem.F.plainAttrs_list PySem.F.slot_list_append PySem.F.type_list_append mt_append (ev 5) (acons (etupQ (acons (ev 4) (acons (ecall C__law_value (hr.mono (by decide)) rfl (acons (ev 0) anil)) anil))) anil)))
      (bone (sset (i := 4) sc__law_rows.nd rfl (Or.inl rfl) (eop op_add (eop op_add (ev 4) ei) (ecall C__law_draw (hr.mono (by decide)) rfl (acons (ev 0) (acons ei anil))))))))
      (bone (sexpr (ebm PySem.F.plainAttrs_list PySem.F.slot_list_append PySem.F.type_list_append mt_append (ev 2) (acons (etupQ (acons (eop op_add (ev 1) (ev 3)) (acons (ev 5) anil))) anil))))))) bnil)))
      (bone (sret (ev 2))))), ?_⟩
  try walk_at "rn"
  intro D nD
  have y0 := Ext.new (K := K) (o := .lst []) nD
  have nDp : D ≠ p := (ne_of_none hp nD.1).symm
  obtain ⟨J, eJ⟩ : ∃ J : Nat → St → Hp → Prop, J = fun i σ' H' => ∃ (v3 v4 v5 v6 : Option V) (M : Rs) (x y z : Int), σ' = [some (.ref p), some (.int b), some (.ref D), v3, v4, v5, v6] ∧ H' D = some (.lst M.v) ∧ RowsAt K H' M ∧ Drawn b i M.kw ∧ (∀ p' ∈ M, H p'.2.a = none ∧ p'.2.a ≠ p ∧ p'.2.a ≠ D) ∧ H' p = some (L3 x y z) ∧ Kp K p H H' := ⟨_, rfl⟩
  refine loop_range J ?_ ?_ ?_
  · rw [eJ]
    exact ⟨_, _, _, _, [], _, _, _, rfl, upd_same, (fun p hp => nomatch hp), ⟨.nil, (fun p hp => nomatch hp), (fun p hp => nomatch hp), (fun p hp => nomatch hp), (fun p hp => nomatch hp), (fun p hp => nomatch hp), Nat.le_refl _⟩, (fun p hp => nomatch hp), y0.at hp, y0.kp⟩
  · intro i σ' H1 hi h
    rw [eJ] at h
    obtain ⟨v3, v4, v5, v6, M, x, y, z, rfl, hD, hM, dM, nM, g1, k1⟩ := h
    try walk_at "rn"
    refine ⟨p, _, _, _, 3, rfl, g1, by decide, by omega, fun d x y z H2 d0 d1 g2 k2 => ?_⟩
    have hD2 := k2.keep D _ hD nDp
    have hM2 := hM.kp k2 g1 fun p' hp' => (nM p' hp').2.1
    have k02 := k1.trans k2
    try walk_at "rn"
    refine ite2 (fun c => ?_) (fun c => ?_)
    · refine ⟨p, _, _, _, 9, rfl, g2, by decide, by omega, fun d' x y z H3 d0' d1' g3 k3 => ?_⟩
      try walk_at "rn"
      intro e0 m0
      have y3 := Ext.new (K := K) (o := .lst [.int 0, .int 0, .int d']) m0
      refine ⟨p, _, _, _, 3, rfl, y3.at g3, by decide, by omega, fun d2 x y z H4 d20 d21 g4 k4 => ⟨_, rfl, ?_⟩⟩
      have ne0 : e0 ≠ p := (ne_of_none g3 m0.1).symm
      refine ⟨_, seqQ_lst (k4.keep e0 _ upd_same ne0), ?_⟩
      obtain ⟨v, ev, mv⟩ := atI_in (xs := [V.int 0, V.int 0, V.int d']) d20 d21
      obtain ⟨n0, rfl, hn0, hn1⟩ : ∃ n : Int, v = .int n ∧ 0 ≤ n ∧ n ≤ 8 := by
        simp only [List.mem_cons, List.not_mem_nil, or_false] at mv
        rcases mv with rfl | rfl | rfl <;> exact ⟨_, rfl, by omega, by omega⟩
      refine ⟨_, ev, fun Dv nDv => ?_⟩
      have y5 := Ext.new (K := K) (o := .lst []) nDv
      have k24 : Kp K p H2 H4 := k3.trans (y3.kp.trans k4)
      have hD4 := k24.keep D _ hD2 nDp
      have hM4 := hM2.kp k24 g2 fun p' hp' => (nM p' hp').2.1
      have k04 := k02.trans k24
      have nvp : Dv ≠ p := (ne_of_none g4 nDv.1).symm
      have nvD : D ≠ Dv := ne_of_none hD4 nDv.1
      have w0 := k04.was g4 (by rw [hp]; exact nofun) nDv.1
      have nMv : ∀ p' ∈ M, p'.2.a ≠ Dv := fun p' hp' => by
        obtain ⟨_, _, _, e, _⟩ := hM4 p' hp'
        exact ne_of_none e nDv.1
      refine ⟨p, _, _, _, 5, rfl, y5.at g4, by decide, by omega, fun d3 x y z H6 d30 d31 g6 k6 => ⟨_, rfl, by omega, by omega, ?_⟩⟩
      have eD6 := k6.keep Dv _ upd_same nvp
      have hD6 := k6.keep D _ (y5.at hD4) nDp
      have hM6 := (hM4.ext y5).kp k6 (y5.at g4) fun p' hp' => (nM p' hp').2.1
      have k06 := k04.trans (y5.kp.trans k6)
      obtain ⟨J2, eJ2⟩ : ∃ J : Nat → St → Hp → Prop, J = fun (j : Nat) σ' H' => ∃ (v6 : Option V) (N : Int) (us : List V) (ws : List (Int × Option Int)) (x y z : Int), σ' = [some (.ref p), some (.int b), some (.ref D), some (.int (0 + i)), some (.int N), some (.ref Dv), v6] ∧ H' Dv = some (.lst us) ∧ Vers K H' us ws ∧ Rising ws ∧ (∀ q ∈ ws, 0 ≤ q.1 ∧ q.1 < N) ∧ (∀ q ∈ ws, bnd q.2) ∧ 0 ≤ N ∧ N ≤ 8 + 4 * (j : Int) ∧ ws.length = j ∧ H' D = some (.lst M.v) ∧ RowsAt K H' M ∧ H' p = some (L3 x y z) ∧ Kp K p H H' := ⟨_, rfl⟩
      refine loop_range J2 ?_ ?_ ?_
      · rw [eJ2]
        exact ⟨_, n0, [], [], _, _, _, rfl, eD6, trivial, .nil, (fun q hq => nomatch hq), (fun q hq => nomatch hq), hn0, by omega, rfl, hD6, hM6, g6, k06⟩
      · intro j σ' H7 hj h
        rw [eJ2] at h
        obtain ⟨v6, N, us, ws, x, y, z, rfl, hDv, hV, hR, hN, bw, N0, N1, lw, hD7, hM7, g7, k7⟩ := h
        have hj5 : j < 5 := by omega
        have lu := hV.len
        try walk_at "rn"
        refine ⟨.inl ⟨rfl, _, SqL.of hDv⟩, p, _, _, _, rfl, g7, fun o x y z H8 bo g8 k8 => ?_⟩
        try walk_at "rn"
        intro T nT
        have y8 := Ext.new (K := K) (o := .tup [.int N, oV o]) nT
        have hDv8 := y8.at (k8.keep Dv _ hDv nvp)
        have kD : Kp K Dv _ (upd (upd H8 T (.tup [.int N, oV o])) Dv (.lst (us ++ [.ref T]))) := Kp.upd hDv8
        refine ⟨_, hDv8, by omega, ?_⟩
        have g9 := kD.keep p _ (y8.at g8) nvp.symm
        have hD9 := kD.keep D _ (y8.at (k8.keep D _ hD7 nDp)) nvD
        have hM9 := ((hM7.kp k8 g7 fun p' hp' => (nM p' hp').2.1).ext y8).kp kD hDv8 nMv
        have hV9 := Vers.snoc (p := (N, o)) (kD.tup hDv8 tupQ_updT) (((hV.kp k8 g7).ext y8).kp kD hDv8)
        have eDv9 : (upd (upd H8 T (.tup [.int N, oV o])) Dv (.lst (us ++ [.ref T]))) Dv = some (.lst (us ++ [.ref T])) := upd_same
        have k9 := (k7.trans (k8.trans y8.kp)).thenNew w0 kD
        generalize upd (upd H8 T (.tup [.int N, oV o])) Dv (.lst (us ++ [.ref T])) = H9 at g9 hD9 hM9 hV9 eDv9 k9 ⊢
        try walk_at "rn"
        refine ⟨p, _, _, _, 4, rfl, g9, by decide, by omega, fun d4 x y z H10 d40 d41 g10 k10 => ?_⟩
        try walk_at "rn"
        rw [eJ2]
        refine ⟨_, N + 1 + d4, us ++ [.ref T], ws ++ [(N, o)], x, y, z, rfl, k10.keep Dv _ eDv9 nvp, hV9.kp k10 g9, ?_, fun q' hq' => ?_, fun q' hq' => ?_, by omega, by omega, by rw [List.length_append, lw]; rfl, k10.keep D _ hD9 nDp, hM9.kp k10 g9 fun p' hp' => (nM p' hp').2.1, g10, k9.trans k10⟩
        · refine List.pairwise_append.mpr ⟨hR, by simp, fun a ha b hb => ?_⟩
          have e : b = (N, o) := by simpa using hb
          rw [e]
          exact (hN a ha).2
        · rcases List.mem_append.mp hq' with e | e
          · have := hN q' e
            omega
          · have e : q' = (N, o) := by simpa using e
            rw [e]
            show 0 ≤ N ∧ N < N + 1 + d4
            omega
        · rcases List.mem_append.mp hq' with e | e
          · exact bw q' e
          · have e : q' = (N, o) := by simpa using e
            rw [e]
            exact bo
      intro σ' H7 h
      rw [eJ2] at h
      clear eJ2
      obtain ⟨v6, N, us, ws, x, y, z, rfl, hDv, hV, hR, hN, bw, N0, N1, lw, hD7, hM7, g7, k7⟩ := h
      try walk_at "rn"
      refine ⟨.inl ⟨rfl, _, SqL.of hD7⟩, fun T nT => ?_⟩
      have yT := Ext.new (K := K) (o := .tup [.int (b + (0 + (i : Int))), .ref Dv]) nT
      have hD8 := yT.at hD7
      have kD : Kp K D _ (upd (upd H7 T (.tup [.int (b + (0 + (i : Int))), .ref Dv])) D (.lst (M.v ++ [.ref T]))) := Kp.upd hD8
      have lM : M.length ≤ i := by have := dM.len; simpa [Rs.kw] using this
      refine ⟨_, hD8, by rw [Rs.v, List.length_map]; omega, ?_⟩
      rw [eJ]
      have kws : Rs.kw (M ++ [(.ref T, ⟨b + (0 + (i : Int)), Dv, us, ws⟩)]) = M.kw ++ [(b + (0 + (i : Int)), ws)] := by simp [Rs.kw, Row.kw]
      have both : ∀ {C : Int × List (Int × Option Int) → Prop}, (∀ r ∈ M.kw, C r) → C (b + (0 + (i : Int)), ws) → ∀ r ∈ M.kw ++ [(b + (0 + (i : Int)), ws)], C r := fun {C} h1 h2 r hr => by
        rcases List.mem_append.mp hr with e | e
        · exact h1 r e
        · have e : r = (b + (0 + (i : Int)), ws) := by simpa using e
          rw [e]
          exact h2
      refine ⟨_, _, _, _, M ++ [(.ref T, ⟨b + (0 + (i : Int)), Dv, us, ws⟩)], x, y, z, rfl, by rw [upd_same]; simp [Rs.v], ?_, ?_, fun p' hp' => ?_, kD.keep p _ (yT.at g7) nDp.symm, (k7.trans yT.kp).thenNew nD.1 kD⟩
      · exact (RowsAt.snoc (u := .ref T) (q := ⟨b + (0 + (i : Int)), Dv, us, ws⟩) (hM7.ext yT) ⟨T, rfl, tupQ_updT, yT.at hDv, hV.ext yT⟩).kp kD hD8 fun p' hp' => by
          rcases List.mem_append.mp hp' with e | e
          · exact (nM p' e).2.2
          · have e : p' = (.ref T, ⟨b + (0 + (i : Int)), Dv, us, ws⟩) := by simpa using e
            rw [e]
            exact nvD.symm
      · rw [kws]
        refine ⟨?_, both (fun r hr => ⟨(dM.key r hr).1, by have := (dM.key r hr).2; omega⟩) ⟨by show b ≤ b + (0 + (i : Int)); omega, by show b + (0 + (i : Int)) < _; omega⟩, both dM.ris hR, both dM.few (by show ws.length ≤ 5; omega), both dM.num (fun q' hq' => by have := hN q' hq'; omega), both dM.val bw, by rw [List.length_append]; have := dM.len; simp; omega⟩
        rw [List.map_append]
        refine List.pairwise_append.mpr ⟨dM.up, by simp, fun a ha b' hb' => ?_⟩
        obtain ⟨r, hr, rfl⟩ := List.mem_map.mp ha
        have := (dM.key r hr).2
        have e : b' = b + (0 + (i : Int)) := by simpa using hb'
        omega
      · rcases List.mem_append.mp hp' with e | e
        · exact nM p' e
        · have e : p' = (.ref T, ⟨b + (0 + (i : Int)), Dv, us, ws⟩) := by simpa using e
          rw [e]
          exact ⟨w0, nvp, nvD.symm⟩
    · rw [eJ]
      exact ⟨_, _, _, _, M, x, y, z, rfl, hD2, hM2, ⟨dM.up, fun r hr => ⟨(dM.key r hr).1, by have := (dM.key r hr).2; omega⟩, dM.ris, dM.few, dM.num, dM.val, by have := dM.len; omega⟩, nM, g2, k02⟩
  · intro σ' H1 h
    rw [eJ] at h
    obtain ⟨v3, v4, v5, v6, M, x, y, z, rfl, hD, hM, dM, nM, g1, k1⟩ := h
    try walk_at "rn"
    exact q D M x y z H1 nD.1 hD hM dM nM nDp g1 k1
theorem byT_mem {ns : List Int} {ws : List (Option Int)} {p : Int × Option Int} : ∀ {i}, p ∈ byT ns ws i → ∃ j, j < i ∧ p = (ns.getD j 0, ws.getD j none)
  | 0, h => nomatch h
  | i + 1, h => by
    unfold byT at h
    rcases List.mem_append.mp h with z | z
    · obtain ⟨j, hj, e⟩ := byT_mem z
      exact ⟨j, by omega, e⟩
    · split at z
      · simp at z
      · exact ⟨i, by omega, by simpa using z⟩
theorem byT_nil {ns : List Int} {ws : List (Option Int)} (h : ∀ o ∈ ws, o = none) : ∀ i, byT ns ws i = []
  | 0 => rfl
  | i + 1 => by
    have g : ∀ j, ws.getD j none = none := fun j => by
      rw [List.getD_eq_getElem?_getD]
      cases e : ws[j]? with
      | none => rfl
      | some o => exact h o (List.mem_of_getElem? e)
    unfold byT
    rw [byT_nil h i, g i]
    cases i with
    | zero => rfl
    | succ i => rw [show pv ws (i + 1) = ws.getD i none from rfl, g i]; rfl
theorem sweep_nil (ms : List Int) : sweepT ms (viewsF [] ms) = [] := by
  refine byT_nil (fun o ho => ?_) _
  rcases List.mem_append.mp ho with z | z
  · obtain ⟨m, _, rfl⟩ := List.mem_map.mp z
    rfl
  · have e : o = valF none none [] := by simpa using z
    rw [e]
    rfl
theorem byT_valAt {at_ : Option Int} {ns : List Int} {ws : List (Option Int)} (j : Nat) : ∀ n, (∀ k, k < n → okAt at_ (ns.getD k 0) = decide (k ≤ j)) → valF at_ none (byT ns ws n) = pv ws (min n (j + 1))
  | 0, _ => by rw [Nat.zero_min]; rfl
  | n + 1, hk => by
    have ih := byT_valAt (at_ := at_) (ns := ns) (ws := ws) j n fun k h => hk k (by omega)
    have h0 := hk n (by omega)
    unfold byT
    by_cases c : ws.getD n none = pv ws n
    · rw [if_pos c, List.append_nil, ih]
      by_cases d : n ≤ j
      · rw [show min n (j + 1) = n by omega, show min (n + 1) (j + 1) = n + 1 by omega]
        exact c.symm
      · rw [show min n (j + 1) = j + 1 by omega, show min (n + 1) (j + 1) = j + 1 by omega]
    · rw [if_neg c, valF_snoc]
      by_cases d : n ≤ j
      · rw [if_pos (by rw [h0]; simpa using d), show min (n + 1) (j + 1) = n + 1 by omega]
        rfl
      · rw [if_neg (by rw [h0]; simpa using d), ih, show min n (j + 1) = j + 1 by omega, show min (n + 1) (j + 1) = j + 1 by omega]
theorem nsF_at {ms : List Int} (up : ms.Pairwise (· < ·)) (h0 : ∀ m ∈ ms, 0 ≤ m) {j k : Nat} (hj : j < ms.length) (hk : k < ms.length + 1) : okAt (some ms[j]) ((nsF ms).getD k 0) = decide (k ≤ j) := by
  have hm := h0 ms[j] (List.getElem_mem hj)
  cases k with
  | zero =>
    show decide ((0 : Int) ≤ ms[j]) = decide (0 ≤ j)
    simp [hm]
  | succ k =>
    have hk' : k < ms.length := by omega
    have e : (nsF ms).getD (k + 1) 0 = ms[k] + 1 := by
      unfold nsF
      rw [List.getD_cons_succ, List.getD_eq_getElem?_getD, List.getElem?_map, List.getElem?_eq_getElem hk']
      rfl
    rw [e]
    show decide (ms[k] + 1 ≤ ms[j]) = decide (k + 1 ≤ j)
    have P := List.pairwise_iff_getElem.mp up
    by_cases c : k < j
    · have := P k j hk' hj c
      rw [decide_eq_true (show ms[k] + 1 ≤ ms[j] by omega), decide_eq_true (show k + 1 ≤ j by omega)]
    · have : ms[j] ≤ ms[k] := by
        by_cases z : k = j
        · subst z; exact Int.le_refl _
        · have := P j k hj hk' (by omega); omega
      rw [decide_eq_false (show ¬ ms[k] + 1 ≤ ms[j] by omega), decide_eq_false (show ¬ k + 1 ≤ j by omega)]
theorem byT_rising {ns : List Int} {ws : List (Option Int)} : ∀ n, (∀ i j, i < j → j < n → ns.getD i 0 < ns.getD j 0) → Rising (byT ns ws n)
  | 0, _ => .nil
  | n + 1, h => by
    have ih := byT_rising (ns := ns) (ws := ws) n fun i j hij hj => h i j hij (by omega)
    unfold byT
    by_cases c : ws.getD n none = pv ws n
    · rw [if_pos c, List.append_nil]
      exact ih
    · rw [if_neg c]
      refine List.pairwise_append.mpr ⟨ih, List.pairwise_singleton _ _, fun a ha b hb => ?_⟩
      obtain ⟨j, hj, rfl⟩ := byT_mem ha
      have e : b = (ns.getD n 0, ws.getD n none) := by simpa using hb
      rw [e]
      exact h j n hj (by omega)
theorem nsF_up {ms : List Int} (up : ms.Pairwise (· < ·)) (h0 : ∀ m ∈ ms, 0 ≤ m) : ∀ i j, i < j → j < ms.length + 1 → (nsF ms).getD i 0 < (nsF ms).getD j 0 := fun i j hij hj => by
  have e : ∀ k (h : k < ms.length), (nsF ms).getD (k + 1) 0 = ms[k] + 1 := fun k h => by
    unfold nsF
    rw [List.getD_cons_succ, List.getD_eq_getElem?_getD, List.getElem?_map, List.getElem?_eq_getElem h]
    rfl
  obtain ⟨j, rfl⟩ : ∃ k, j = k + 1 := ⟨j - 1, by omega⟩
  rw [e j (by omega)]
  cases i with
  | zero =>
    have := h0 ms[j] (List.getElem_mem _)
    show (0 : Int) < _
    omega
  | succ i =>
    rw [e i (by omega)]
    have := List.pairwise_iff_getElem.mp up i j (by omega) (by omega) (by omega)
    omega
theorem sweepT_rising {ms : List Int} (up : ms.Pairwise (· < ·)) (h0 : ∀ m ∈ ms, 0 ≤ m) (ws : List (Option Int)) : Rising (sweepT ms ws) := byT_rising _ (nsF_up up h0)
def TabV (M : List Row) : List (Int × V) := M.map fun q => (q.k, V.ref q.a)
structure TabAt (K : PySem.W.Frag) (H : Hp) (T : Addr) (M : List Row) : Prop where
  at_ : H T = some (.dK (dI (TabV M)))
  vs : ∀ q ∈ M, H q.a = some (.lst q.us) ∧ Vers K H q.us q.ws
theorem TabAt.ext {K : PySem.W.Frag} {H H' : Hp} {T : Addr} {M : List Row} (h : TabAt K H T M) (x : Ext K H H') : TabAt K H' T M := ⟨x.at h.at_, fun q hq => ⟨x.at (h.vs q hq).1, (h.vs q hq).2.ext x⟩⟩
theorem upd_back {H : Hp} {T D : Addr} {o f l : HO} (h : H T = some o) (ne : T ≠ D) : upd (upd (upd H T f) D l) T o = upd H D l := by
  funext b
  by_cases c : b = T
  · subst c
    rw [upd_same, upd_ne ne, h]
  · rw [upd_ne c]
    by_cases d : b = D
    · subst d
      rw [upd_same, upd_same]
    · rw [upd_ne d, upd_ne c, upd_ne d]
def reachF (e : Nt) (ks : List Int) : List Int := if e.hi - e.lo = 1 then [e.lo] else ks.filter fun k => e.has k
def spReached (K : PySem.W.Frag) : Sp := fun vs H Q _ => ∃ (v : V) (e : Nt) (T : Addr) (L : List (Int × V)), vs = [v, .ref T] ∧ NoteAt K H v e ∧ H T = some (.dK (dI L)) ∧ L.length ≤ 1000 ∧
  ∀ (D : Addr), new K H D → Q (.ref D) (upd H D (.lst ((reachF e (L.map (·.1))).map V.int)))
theorem sc_reached : FnScope ["note", "table", "number", "low", "high", "action"] ["note", "table"] (defScope s_reached) := ⟨rfl, rfl, rfl, by decide +kernel, rfl, by decide +kernel, by decide +kernel⟩
theorem ok_reached {f : Addr} {fd : FuncData} (F : Fun K "reached" "reached" s_reached f fd) (B : B K mg aG tE) : FnOk P w K mg base CX0 1 f fd ["note", "table"] (spReached K) := by
  refine F.okJ sc_reached (fun vs H Q E h => ?_) (fun cdv A outer s H vs Q E hr h => ?_)
  · obtain ⟨v, e, T, L, rfl, _⟩ := h
    rfl
  obtain ⟨v, e, T, L, rfl, ⟨a, w, rfl, ea, _⟩, hT, lL, q⟩ := h
  refine ⟨_, (bcons (sasg (ev 0) (gtupQ (n := 4) rfl (gcons (gname (i := 2) sc_reached.nd rfl (Or.inl rfl)) (gcons (gname (i := 3) sc_reached.nd rfl (Or.inr rfl)) (gcons (gname (i := 4) sc_reached.nd rfl (Or.inr rfl)) (gcons (gname (i := 5) sc_reached.nd rfl (Or.inl rfl)) gnil))))))
      (bcons (sif (tcmp op_eq (eop op_sub (ev 4) (ev 3)) ei (nomark _)) (bone (sret (elstQ (acons (ev 3) anil)))) bnil)
      (bone (sret (elcD (Cap.mk (N := ["key", "low", "high"]) (src := [none, some 3, some 4]) rfl rfl) rfl (ev 1) (fun _ _ _ _ => (gname (i := 0) (show (["key", "low", "high"] : List Str).Nodup from by decide +kernel) rfl (Or.inl rfl))) (fun _ _ _ _ => (fone (tchain op_le op_lt (ev 1) (ev 0) (ev 2)))) (fun _ _ _ _ => (ev 0))))))), ?_⟩
  simp only [tSeq, tNext, tIfS, tAsg, gName, gSub, tRet, tRetN, tDrop, tVar, tC, tOp, tUn, rI0, rI, rU, tTest, tB, tAndV, tOrV, tNotV, tAnd, tOr, tNot, tIf, tChain, tCB, tCons, tNil, tLst, tTup, tCallC, List.getElem?_cons_zero, List.getElem?_cons_succ, List.set_cons_zero, List.set_cons_succ, Option.some.injEq, V.int.injEq, V.bl.injEq, V.ref.injEq, V.ty.injEq, V.str.injEq, List.cons.injEq, exists_eq_left', exists_eq_left, exists_and_left, and_true, true_and, and_assoc, cxK, rIxF, rSetL, rEq, rNe, scal, HO.lst.injEq, HO.tup.injEq, upd_none, ixN_10, ixN_20, ixN_21, ixN_30, ixN_31, ixN_32, upd_same, seqAt_updL, seqAt_updT, atI_0, atI_1, atI_2, atI_3, decide_eq_true_eq, L2.start, List.map_cons, List.map_nil, List.length_cons, List.length_nil, Nat.reduceAdd, Nat.reduceSub, List.replicate_succ, List.replicate_zero, List.cons_append, List.nil_append, List.append_nil, tFor_rng1, tFor_rng2, tFor_list, tFor_tup, CDv, CMul, CPow, sizeLine_eq, Int.reduceLE, Int.reduceLT, Int.reducePow, Int.reduceToNat, Int.reduceAdd, Int.reduceSub, Int.reduceMul, Int.reduceNeg, Nat.reduceLeDiff, Nat.reducePow, Nat.reduceLT, Int.reduceEq, true_or, or_true, ite_true, ite_false, if_true, if_false, Bool.not_true, Bool.not_false, Bool.false_eq_true, decide_true, decide_false, rIxQ, seqQ_updL, seqQ_updT, tupQ_updT, tSl, tNoPart, tPart, rSlQ, rCatQ, tTupQ, tLstQ, tNever, rEqD, rInQ, gTupQ, gCons, gNil, tBM, rAppend, rSlTQ, gSlice, tLc2_list, bodyL_tup, bodyL_list, bodyE_eq, tDGet, tLcD, tDGet2, sDPut, tFor_rng3, tLc_rng1, tLc_rng2, tLc_list, tLc_tup, tLc_enum, pick_nil, pick_own, pick_cap, join_some, tYes, tCallKC, gk_11, gk_31, tSortSet, tFor_zip, tAug, ipI, ea]
  refine ite2 (fun c => ?_) (fun c => ?_)
  · intro D nD
    have := q D nD
    unfold reachF at this
    rw [if_pos c] at this
    exact this
  · refine ⟨_, hT, fun od D nD => ?_⟩
    have ne : T ≠ D := ne_of_none (upd_same (H := H) (a := T) (o := .frz od (.dK (dI L)))) nD.1
    have nD' : new K H D := ⟨by have := nD.1; rwa [upd_ne ne.symm] at this, nD.2⟩
    refine lcd_filter (fun k => e.has k) upd_same nD.1 lL (fun k H' R hR => ?_) ⟨by rw [upd_ne ne]; exact upd_same, ?_⟩
    · try walk_at "rn"
      unfold Nt.has at hR
      refine ite2 (fun c1 => ?_) (fun c1 => ?_)
      · rw [show decide (e.lo ≤ k ∧ k < e.hi) = decide (k < e.hi) by simp [c1]] at hR
        exact hR
      · rw [decide_eq_false (fun z => c1 z.1)] at hR
        exact hR
    · rw [upd_back hT ne]
      have := q D nD'
      unfold reachF at this
      rw [if_neg c] at this
      exact this
theorem _root_.L2.Kp.updD {K : PySem.W.Frag} {p : Addr} {H : Hp} {kvs : List (Key × V)} {o : HO} (h : H p = some (.dK kvs)) : Kp K p H (upd H p o) := ⟨fun q u e n => by rw [upd_ne n]; exact e, fun b ys e _ => by rw [upd_ne (fun z => by rw [z, h] at e; cases e)]; exact e⟩
theorem _root_.L2.Kp.tupD {K : PySem.W.Frag} {p a : Addr} {H H' : Hp} {xs : List V} {kvs : List (Key × V)} (x : Kp K p H H') (hp : H p = some (.dK kvs)) (h : tupQ K H a = some xs) : tupQ K H' a = some xs := by
  unfold tupQ at h ⊢
  split at h
  · next e => rw [x.keep _ _ e (ne_of e hp (by intro z; cases z))]; exact h
  · cases h
  · next e => rw [x.mod a xs e h]; exact h
theorem Act.kpD {K : PySem.W.Frag} {H H' : Hp} {v : V} {t n : Half} {p : Addr} {kvs : List (Key × V)} (h : Act K H v t n) (k : Kp K p H H') (hp : H p = some (.dK kvs)) : Act K H' v t n := by
  obtain ⟨a, r, s, rfl, e1, e2, e3, e4⟩ := h
  exact ⟨a, r, s, rfl, k.tupD hp e1, k.tupD hp e2, k.tupD hp e3, e4⟩
theorem NoteAt.kpD {K : PySem.W.Frag} {H H' : Hp} {v : V} {e : Nt} {p : Addr} {kvs : List (Key × V)} (h : NoteAt K H v e) (k : Kp K p H H') (hp : H p = some (.dK kvs)) : NoteAt K H' v e := by
  obtain ⟨a, w, rfl, h1, h2⟩ := h
  exact ⟨a, w, rfl, k.tupD hp h1, h2.kpD k hp⟩
theorem Vers.kpD {K : PySem.W.Frag} {H H' : Hp} {us : List V} {vs : List (Int × Option Int)} {p : Addr} {kvs : List (Key × V)} (h : Vers K H us vs) (k : Kp K p H H') (hp : H p = some (.dK kvs)) : Vers K H' us vs := h.mono fun _ _ e => k.tupD hp e
def rowOf (M : List (Int × List (Int × Option Int))) (k : Int) : List (Int × Option Int) := ((M.find? fun r => decide (r.1 = k)).map (·.2)).getD []
def putT (M : List (Int × List (Int × Option Int))) (k : Int) (ws : List (Int × Option Int)) : List (Int × List (Int × Option Int)) := if M.any (fun r => decide (r.1 = k)) then M.map (fun r => if r.1 = k then (r.1, ws) else r) else M ++ [(k, ws)]
def stepT (e : Nt) (M : List (Int × List (Int × Option Int))) (k : Int) : List (Int × List (Int × Option Int)) :=
  if actF e.t e.m (valF none none (rowOf M k)) = valF none none (rowOf M k) then M else putT M k (rowOf M k ++ [(e.n, actF e.t e.m (valF none none (rowOf M k)))])
def noteT (M : List (Int × List (Int × Option Int))) (e : Nt) : List (Int × List (Int × Option Int)) := (reachF e (M.map (·.1))).foldl (stepT e) M
def rkw (M : List Row) : List (Int × List (Int × Option Int)) := M.map Row.kw
def putR (M : List Row) (r : Row) : List Row := if M.any (fun q => decide (q.k = r.k)) = true then M.map (fun q => if q.k = r.k then r else q) else M ++ [r]
theorem putR_dk (M : List Row) (r : Row) : putK (dI (TabV M)) (.inl r.k) (.ref r.a) = dI (TabV (putR M r)) := by
  have an : ((dI (TabV M)).any fun kv => decide (kv.1 = (.inl r.k : Key))) = M.any fun q => decide (q.k = r.k) := by
    unfold dI TabV
    rw [List.map_map, List.any_map]
    congr 1
    funext q
    show decide ((Sum.inl q.k : Key) = Sum.inl r.k) = decide (q.k = r.k)
    simp
  unfold putK putR
  rw [an]
  split
  · unfold dI TabV
    rw [List.map_map, List.map_map, List.map_map, List.map_map]
    refine List.map_congr_left fun q _ => ?_
    show (if (Sum.inl q.k : Key) = Sum.inl r.k then ((Sum.inl q.k : Key), V.ref r.a) else (Sum.inl q.k, V.ref q.a)) = ((Sum.inl (if q.k = r.k then r else q).k : Key), V.ref (if q.k = r.k then r else q).a)
    by_cases c : q.k = r.k
    · rw [if_pos c, if_pos (by rw [c]), c]
    · rw [if_neg c, if_neg (by simpa using c)]
  · simp [dI, TabV]
theorem putR_kw (M : List Row) (r : Row) : rkw (putR M r) = putT (rkw M) r.k r.ws := by
  have an : ((rkw M).any fun q => decide (q.1 = r.k)) = M.any fun q => decide (q.k = r.k) := by
    unfold rkw
    rw [List.any_map]
    rfl
  unfold putR putT
  rw [an]
  split
  · unfold rkw
    rw [List.map_map, List.map_map]
    refine List.map_congr_left fun q _ => ?_
    show Row.kw (if q.k = r.k then r else q) = if q.k = r.k then (q.k, r.ws) else (q.k, q.ws)
    by_cases c : q.k = r.k
    · rw [if_pos c, if_pos c, c]
      rfl
    · rw [if_neg c, if_neg c]
      rfl
  · simp [rkw, Row.kw]
theorem putR_mem {M : List Row} {r q : Row} (h : q ∈ putR M r) : q = r ∨ q ∈ M := by
  unfold putR at h
  split at h
  · obtain ⟨p, hp, rfl⟩ := List.mem_map.mp h
    by_cases c : p.k = r.k
    · rw [if_pos c]; exact .inl rfl
    · rw [if_neg c]; exact .inr hp
  · rcases List.mem_append.mp h with z | z
    · exact .inr z
    · exact .inl (by simpa using z)
theorem putR_len (M : List Row) (r : Row) : (putR M r).length ≤ M.length + 1 := by
  unfold putR
  split
  · rw [List.length_map]; omega
  · rw [List.length_append]; simp
theorem valV_tab : ∀ (M : List Row) (k : Int), valV (dI (TabV M)) (.inl k) = (M.find? fun q => decide (q.k = k)).map fun q => V.ref q.a
  | [], k => rfl
  | q :: M, k => by
    by_cases c : q.k = k
    · rw [show dI (TabV (q :: M)) = (.inl q.k, .ref q.a) :: dI (TabV M) from rfl, valV_pos (by rw [c]), List.find?_cons_of_pos (by simpa using c)]
      rfl
    · rw [show dI (TabV (q :: M)) = (.inl q.k, .ref q.a) :: dI (TabV M) from rfl, valV_neg (by simpa using c), valV_tab M k, List.find?_cons_of_neg (by simpa using c)]
theorem rowOf_tab (M : List Row) (k : Int) : rowOf (rkw M) k = ((M.find? fun q => decide (q.k = k)).map (·.ws)).getD [] := by
  unfold rowOf rkw
  rw [List.find?_map, Option.map_map]
  rfl
def spPutBehind (K : PySem.W.Frag) : Sp := fun vs H Q _ => ∃ (v : V) (e : Nt) (T : Addr) (M : List Row), vs = [.ref T, v] ∧ NoteAt K H v e ∧ TabAt K H T M ∧ (∀ q ∈ M, q.a ≠ T) ∧ M.length ≤ 100 ∧ (∀ q ∈ M, q.us.length ≤ 500) ∧
  ∀ (M' : List Row) (H' : Hp), TabAt K H' T M' → rkw M' = noteT (rkw M) e → (∀ q ∈ M', q.a ≠ T) → Kp K T H H' → Q .non H'
theorem sc_put_behind : FnScope ["table", "note", "keys", "key", "versions", "old", "new"] ["table", "note"] (defScope s_put_behind) := ⟨rfl, rfl, rfl, by decide +kernel, rfl, by decide +kernel, by decide +kernel⟩
theorem ok_put_behind {f : Addr} {fd : FuncData} (F : Fun K "put_behind" "put_behind" s_put_behind f fd) (B : B K mg aG tE) (C_reached : Callee P w K mg base "reached" 1 ["note", "table"] (spReached K)) (CD_value_of : CalleeD P w K mg base "value_of" 1 ["versions", "at"] [.non] (spValueOf K)) (C_does : Callee P w K mg base "does" 2 ["action", "value"] (spDoes K)) : FnOk P w K mg base CX0 3 f fd ["table", "note"] (spPutBehind K) := by
  refine F.okJ sc_put_behind (fun vs H Q E h => ?_) (fun cdv A outer s H vs Q E hr h => ?_)
  · obtain ⟨v, e, T, M, rfl, _⟩ := h
    rfl
  obtain ⟨v, e, T, M, rfl, hN, hT, neT, lM, lU, q⟩ := h
  refine ⟨_, (bcons (sset (i := 2) sc_put_behind.nd rfl (Or.inl rfl) (ecall C_reached (hr.mono (by decide)) rfl (acons (ev 1) (acons (ev 0) anil))))
      (bone (sfor PassesOwn.never rfl (ilist (ev 2)) (gname (i := 3) sc_put_behind.nd rfl (Or.inl rfl))
        (bcons (sset (i := 4) sc_put_behind.nd rfl (Or.inl rfl) (edget2 hr.units (ev 0) (ev 3) (elstQ anil) ⟨rfl, rfl, rfl, rfl⟩))
      (bcons (sset (i := 5) sc_put_behind.nd rfl (Or.inl rfl) (ecallD CD_value_of (hr.mono (by decide)) rfl (acons (ev 4) anil)))
      (bcons (sset (i := 6) sc_put_behind.nd rfl (Or.inl rfl) (ecall C_does (hr.mono (by decide)) rfl (acons (eix ix_Q (ev 1) ei (fun _ _ => rfl)) (acons (ev 5) anil))))
      (bone (sif (tcmp op_ne (ev 6) (ev 5) (nomark _)) (bone (sdput hr.units (ev 0) (ev 3) (eop op_catQ (ev 4) (elstQ (acons (etupQ (acons (eix ix_Q (ev 1) ei (fun _ _ => rfl)) (acons (ev 6) anil))) anil))))) bnil)))))))), ?_⟩
  have lK : (reachF e ((TabV M).map (·.1))).length ≤ 100 := by
    unfold reachF
    split
    · simp
    · refine Nat.le_trans (List.length_filter_le _ _) ?_
      simp [TabV]
      exact lM
  have eK : (TabV M).map (·.1) = (rkw M).map (·.1) := by simp [TabV, rkw, Row.kw]
  obtain ⟨a, w, rfl, ea, hA⟩ := hN
  try walk_at "rn"
  refine ⟨.ref a, e, T, TabV M, rfl, ⟨a, w, rfl, ea, hA⟩, hT.at_, by simp [TabV]; omega, fun Dk nDk => ?_⟩
  rw [eK] at lK
  rw [eK]
  have eF : noteT (rkw M) e = (reachF e ((rkw M).map (·.1))).foldl (stepT e) (rkw M) := rfl
  generalize reachF e ((rkw M).map (·.1)) = ks at lK eF
  have xk := Ext.new (K := K) (o := .lst (ks.map V.int)) nDk
  have eDk : (upd H Dk (.lst (ks.map V.int))) Dk = some (.lst (ks.map V.int)) := upd_same
  have nkT : Dk ≠ T := (ne_of_none hT.at_ nDk.1).symm
  generalize upd H Dk (.lst (ks.map V.int)) = H1 at xk eDk
  try walk_at "rn"
  refine ⟨⟨_, SqL.of eDk⟩, ?_⟩
  have hT1 := hT.ext xk
  have ea1 := xk.tup ea
  have hA1 := hA.ext xk
  obtain ⟨J, eJ⟩ : ∃ J : Nat → St → Hp → Prop, J = fun i σ' H' => ∃ (v3 v4 v5 v6 : Option V) (M' : List Row), σ' = [some (.ref T), some (.ref a), some (.ref Dk), v3, v4, v5, v6] ∧ TabAt K H' T M' ∧ rkw M' = (ks.take i).foldl (stepT e) (rkw M) ∧ (∀ q ∈ M', q.a ≠ T) ∧ M'.length ≤ 100 + i ∧ (∀ q ∈ M', q.us.length ≤ 500 + i) ∧ Kp K T H1 H' := ⟨_, rfl⟩
  refine loop_list (xs := ks.map V.int) J ?_ ?_ ?_ ?_
  · rw [eJ]
    exact ⟨_, _, _, _, M, rfl, hT1, rfl, neT, by omega, lU, Kp.refl⟩
  · intro i σ' H' _ h
    rw [eJ] at h
    obtain ⟨_, _, _, _, _, _, _, _, _, _, _, k⟩ := h
    exact SqL.of (k.keep Dk _ eDk nkT)
  · intro i u σ' H2 hu h
    rw [eJ] at h
    obtain ⟨v3, v4, v5, v6, M', rfl, hT2, eM, neT2, lM2, lU2, k2⟩ := h
    rw [List.getElem?_map] at hu
    obtain ⟨key, ek, rfl⟩ := Option.map_eq_some_iff.mp hu
    have il : i < ks.length := (List.getElem?_eq_some_iff.mp ek).1
    have et : (ks.take (i + 1)).foldl (stepT e) (rkw M) = stepT e (rkw M') key := by
      rw [List.take_add_one, ek, Option.toList_some, List.foldl_append, ← eM]
      rfl
    have ea2 := k2.tupD hT1.at_ ea1
    have hA2 := hA1.kpD k2 hT1.at_
    try walk_at "rn"
    refine ⟨.inl ⟨_, .inl hT2.at_⟩, fun b0 n0 => ?_⟩
    have y0 := Ext.new (K := K) (o := .lst []) n0
    refine ⟨_, DGet.k (k := .inl key) (y0.at hT2.at_), ?_⟩
    rw [valV_tab]
    obtain ⟨r, us, er, hr0, hV, lu, nrT⟩ : ∃ (r : Addr) (us : List V), (Option.map (fun q => V.ref q.a) (M'.find? fun q => decide (q.k = key))).getD (.ref b0) = .ref r ∧ (upd H2 b0 (.lst [])) r = some (.lst us) ∧ Vers K (upd H2 b0 (.lst [])) us (rowOf (rkw M') key) ∧ us.length ≤ 500 + i ∧ r ≠ T := by
      rw [rowOf_tab]
      cases ef : M'.find? fun q => decide (q.k = key) with
      | none => exact ⟨b0, [], rfl, upd_same, trivial, by simp, (ne_of_none hT2.at_ n0.1).symm⟩
      | some q =>
        have mq := List.mem_of_find?_eq_some ef
        exact ⟨q.a, q.us, rfl, y0.at (hT2.vs q mq).1, (hT2.vs q mq).2.ext y0, lU2 q mq, neT2 q mq⟩
    rw [er]
    refine ⟨r, us, rowOf (rkw M') key, none, rfl, SqL.of hr0, by omega, hV, ?_⟩
    refine ⟨_, seqQ_T (y0.tup ea2), w, rfl, w, e.t, e.m, _, rfl, hA2.ext y0, scal_oV, ?_⟩
    rw [dec_oV]
    have hT3 := hT2.ext y0
    have ea3 := y0.tup ea2
    by_cases c : actF e.t e.m (valF none none (rowOf (rkw M') key)) = valF none none (rowOf (rkw M') key)
    · rw [decide_eq_true c]
      refine iteF ?_
      rw [eJ]
      refine ⟨_, _, _, _, M', rfl, hT3, ?_, neT2, by omega, fun q hq => by have := lU2 q hq; omega, k2.trans y0.kp⟩
      rw [et]
      unfold stepT
      rw [if_pos c]
    · rw [decide_eq_false c]
      refine iteT ?_
      refine ⟨_, seqQ_T ea3, .int e.n, rfl, fun T1 nT1 l1 nl1 => ?_⟩
      have y1 := Ext.new (K := K) (o := .tup [.int e.n, oV (actF e.t e.m (valF none none (rowOf (rkw M') key)))]) nT1
      have y2 := Ext.new (K := K) (o := .lst [.ref T1]) nl1
      have t1 := y2.tup (tupQ_updT (K := K) (H := upd H2 b0 (.lst [])) (a := T1) (xs := [.int e.n, oV (actF e.t e.m (valF none none (rowOf (rkw M') key)))]))
      have y12 := y1.trans y2
      refine ⟨r, rfl, us, y12.at hr0, by omega, fun Dn nDn => ?_⟩
      have y3 := Ext.new (K := K) (o := .lst (us ++ [.ref T1])) nDn
      have y03 := y0.trans (y12.trans y3)
      have hT4 := hT2.ext y03
      have V4 := Vers.snoc (p := (e.n, actF e.t e.m (valF none none (rowOf (rkw M') key)))) (y3.tup t1) (hV.ext (y12.trans y3))
      have eDn : (upd (upd (upd (upd H2 b0 (.lst [])) T1 (.tup [.int e.n, oV (actF e.t e.m (valF none none (rowOf (rkw M') key)))])) l1 (.lst [.ref T1])) Dn (.lst (us ++ [.ref T1]))) Dn = some (.lst (us ++ [.ref T1])) := upd_same
      have nDT : Dn ≠ T := (ne_of_none ((y0.trans y12).at hT2.at_) nDn.1).symm
      generalize upd (upd (upd (upd H2 b0 (.lst [])) T1 (.tup [.int e.n, oV (actF e.t e.m (valF none none (rowOf (rkw M') key)))])) l1 (.lst [.ref T1])) Dn (.lst (us ++ [.ref T1])) = G at y03 hT4 V4 eDn
      refine ⟨_, DPut.k (k := .inl key) hT4.at_ (by simp only [dI, TabV, List.length_map]; exact Nat.lt_of_le_of_lt (show M'.length ≤ 1000 by omega) (by decide)), ?_⟩
      have ep := putR_dk M' ⟨key, Dn, us ++ [.ref T1], rowOf (rkw M') key ++ [(e.n, actF e.t e.m (valF none none (rowOf (rkw M') key)))]⟩
      have kT : Kp K T G (upd G T (.dK (dI (TabV (putR M' ⟨key, Dn, us ++ [.ref T1], rowOf (rkw M') key ++ [(e.n, actF e.t e.m (valF none none (rowOf (rkw M') key)))]⟩))))) := Kp.updD hT4.at_
      rw [show putK (dI (TabV M')) (.inl key) (.ref Dn) = _ from ep, eJ]
      refine ⟨_, _, _, _, putR M' ⟨key, Dn, us ++ [.ref T1], rowOf (rkw M') key ++ [(e.n, actF e.t e.m (valF none none (rowOf (rkw M') key)))]⟩, rfl, ⟨upd_same, fun q hq => ?_⟩, ?_, fun q hq => ?_, ?_, fun q hq => ?_, k2.trans (y03.kp.trans kT)⟩
      · rcases putR_mem hq with rfl | hq
        · exact ⟨kT.keep Dn _ eDn nDT, V4.kpD kT hT4.at_⟩
        · exact ⟨kT.keep _ _ (hT4.vs q hq).1 (neT2 q hq), (hT4.vs q hq).2.kpD kT hT4.at_⟩
      · rw [et, putR_kw]
        unfold stepT
        rw [if_neg c]
      · rcases putR_mem hq with rfl | hq
        · exact nDT
        · exact neT2 q hq
      · have := putR_len M' ⟨key, Dn, us ++ [.ref T1], rowOf (rkw M') key ++ [(e.n, actF e.t e.m (valF none none (rowOf (rkw M') key)))]⟩
        omega
      · rcases putR_mem hq with rfl | hq
        · show (us ++ [V.ref T1]).length ≤ _
          rw [List.length_append]
          simp
          omega
        · have := lU2 q hq
          omega
  · intro σ' H2 h
    rw [eJ] at h
    obtain ⟨v3, v4, v5, v6, M', rfl, hT2, eM, neT2, lM2, lU2, k2⟩ := h
    try walk_at "rn"
    rw [List.length_map, List.take_length, ← eF] at eM
    exact q M' H2 hT2 eM neT2 ⟨fun b o hb ne => k2.keep b o (xk.at hb) ne, fun b xs hb m => k2.mod b xs (xk.mod b xs hb m) m⟩
def stepK (e : Nt) (ws : List (Int × Option Int)) : List (Int × Option Int) := if actF e.t e.m (valF none none ws) = valF none none ws then ws else ws ++ [(e.n, actF e.t e.m (valF none none ws))]
abbrev Tab := List (Int × List (Int × Option Int))
theorem rowOf_nil (k : Int) : rowOf [] k = [] := rfl
theorem rowOf_pos {r : Int × List (Int × Option Int)} {M : Tab} {k : Int} (h : r.1 = k) : rowOf (r :: M) k = r.2 := by
  unfold rowOf
  rw [List.find?_cons_of_pos (by simpa using h)]
  rfl
theorem rowOf_neg {r : Int × List (Int × Option Int)} {M : Tab} {k : Int} (h : ¬ r.1 = k) : rowOf (r :: M) k = rowOf M k := by
  unfold rowOf
  rw [List.find?_cons_of_neg (by simpa using h)]
theorem rowOf_none : ∀ {M : Tab} {k : Int}, k ∉ M.map (·.1) → rowOf M k = []
  | [], _, _ => rfl
  | r :: M, k, h => by
    simp only [List.map_cons, List.mem_cons, not_or] at h
    rw [rowOf_neg (Ne.symm h.1), rowOf_none h.2]
theorem rowOf_app : ∀ {M M' : Tab} {k : Int}, k ∉ M.map (·.1) → rowOf (M ++ M') k = rowOf M' k
  | [], _, _, _ => rfl
  | r :: M, M', k, h => by
    simp only [List.map_cons, List.mem_cons, not_or] at h
    rw [List.cons_append, rowOf_neg (Ne.symm h.1), rowOf_app h.2]
theorem rowOf_app1 : ∀ {M M' : Tab} {k : Int}, k ∈ M.map (·.1) → rowOf (M ++ M') k = rowOf M k
  | [], _, _, h => nomatch h
  | r :: M, M', k, h => by
    by_cases c : r.1 = k
    · rw [List.cons_append, rowOf_pos c, rowOf_pos c]
    · rw [List.cons_append, rowOf_neg c, rowOf_neg c]
      refine rowOf_app1 ?_
      simp only [List.map_cons, List.mem_cons] at h
      exact h.resolve_left fun z => c z.symm
theorem any_key {M : Tab} {k : Int} : (M.any fun r => decide (r.1 = k)) = true ↔ k ∈ M.map (·.1) := by
  simp only [List.any_eq_true, decide_eq_true_eq, List.mem_map]
theorem rowOf_map : ∀ {M : Tab} {k j : Int} {ws : List (Int × Option Int)}, k ∈ M.map (·.1) → rowOf (M.map fun r => if r.1 = k then (r.1, ws) else r) j = if j = k then ws else rowOf M j
  | [], _, _, _, h => nomatch h
  | r :: M, k, j, ws, h => by
    rw [List.map_cons]
    by_cases c : r.1 = k
    · rw [if_pos c]
      by_cases d : j = k
      · rw [if_pos d, rowOf_pos (show (r.1, ws).1 = j from c.trans d.symm)]
      · rw [if_neg d, rowOf_neg (show ¬ (r.1, ws).1 = j from fun z => d (z.symm.trans c)), rowOf_neg (show ¬ r.1 = j from fun z => d (z.symm.trans c))]
        by_cases hk : k ∈ M.map (·.1)
        · rw [rowOf_map hk, if_neg d]
        · have e : (M.map fun r => if r.1 = k then (r.1, ws) else r) = M := by
            conv => rhs; rw [← List.map_id M]
            refine List.map_congr_left fun q hq => ?_
            rw [if_neg (show ¬ q.1 = k from fun z => hk (by rw [← z]; exact List.mem_map_of_mem hq))]
            rfl
          rw [e]
    · rw [if_neg c]
      have hk : k ∈ M.map (·.1) := by
        simp only [List.map_cons, List.mem_cons] at h
        exact h.resolve_left fun z => c z.symm
      by_cases d : r.1 = j
      · rw [rowOf_pos d, rowOf_pos d, if_neg fun z => c (d.trans z)]
      · rw [rowOf_neg d, rowOf_neg d, rowOf_map hk]
theorem rowOf_put (M : Tab) (k j : Int) (ws : List (Int × Option Int)) : rowOf (putT M k ws) j = if j = k then ws else rowOf M j := by
  unfold putT
  by_cases h : k ∈ M.map (·.1)
  · rw [if_pos (any_key.mpr h), rowOf_map h]
  · rw [if_neg fun z => h (any_key.mp z)]
    by_cases d : j = k
    · subst d
      rw [if_pos rfl, rowOf_app h, rowOf_pos rfl]
    · rw [if_neg d]
      by_cases hj : j ∈ M.map (·.1)
      · rw [rowOf_app1 hj]
      · rw [rowOf_app hj, rowOf_neg (show ¬ (k, ws).1 = j from fun z => d z.symm), rowOf_none hj]
        rfl
theorem put_keys (M : Tab) (k : Int) (ws : List (Int × Option Int)) : (putT M k ws).map (·.1) = if k ∈ M.map (·.1) then M.map (·.1) else M.map (·.1) ++ [k] := by
  unfold putT
  by_cases h : k ∈ M.map (·.1)
  · rw [if_pos (any_key.mpr h), if_pos h, List.map_map]
    refine List.map_congr_left fun q _ => ?_
    show (if q.1 = k then (q.1, ws) else q).1 = q.1
    split <;> rfl
  · rw [if_neg fun z => h (any_key.mp z), if_neg h, List.map_append]
    rfl
theorem step_row (e : Nt) (M : Tab) (k j : Int) : rowOf (stepT e M k) j = if j = k then stepK e (rowOf M j) else rowOf M j := by
  unfold stepT
  by_cases c : actF e.t e.m (valF none none (rowOf M k)) = valF none none (rowOf M k)
  · rw [if_pos c]
    by_cases d : j = k
    · subst d
      rw [if_pos rfl]
      unfold stepK
      rw [if_pos c]
    · rw [if_neg d]
  · rw [if_neg c, rowOf_put]
    by_cases d : j = k
    · subst d
      rw [if_pos rfl, if_pos rfl]
      unfold stepK
      rw [if_neg c]
    · rw [if_neg d, if_neg d]
theorem step_keys (e : Nt) (M : Tab) (k : Int) : (stepT e M k).map (·.1) = M.map (·.1) ∨ (k ∉ M.map (·.1) ∧ (stepT e M k).map (·.1) = M.map (·.1) ++ [k]) := by
  unfold stepT
  by_cases c : actF e.t e.m (valF none none (rowOf M k)) = valF none none (rowOf M k)
  · rw [if_pos c]; exact .inl rfl
  · rw [if_neg c, put_keys]
    by_cases h : k ∈ M.map (·.1)
    · rw [if_pos h]; exact .inl rfl
    · rw [if_neg h]; exact .inr ⟨h, rfl⟩
theorem steps_row (e : Nt) (j : Int) : ∀ (ks : List Int) (M : Tab), ks.Nodup → rowOf (ks.foldl (stepT e) M) j = if j ∈ ks then stepK e (rowOf M j) else rowOf M j
  | [], M, _ => by simp
  | k :: ks, M, h => by
    have h2 := List.nodup_cons.mp h
    rw [List.foldl_cons, steps_row e j ks _ h2.2, step_row]
    by_cases d : j = k
    · subst d
      rw [if_pos rfl, if_neg h2.1, if_pos (List.mem_cons_self)]
    · rw [if_neg d]
      by_cases m : j ∈ ks
      · rw [if_pos m, if_pos (List.mem_cons_of_mem _ m)]
      · rw [if_neg m, if_neg (by simp [d, m])]
theorem steps_keys (e : Nt) : ∀ (ks : List Int) (M : Tab), (M.map (·.1)).Nodup → ((ks.foldl (stepT e) M).map (·.1)).Nodup ∧ (∀ j ∈ M.map (·.1), j ∈ (ks.foldl (stepT e) M).map (·.1)) ∧ (∀ j ∈ (ks.foldl (stepT e) M).map (·.1), j ∈ M.map (·.1) ∨ j ∈ ks) ∧ (ks.foldl (stepT e) M).length ≤ M.length + ks.length
  | [], M, h => ⟨h, fun _ z => z, fun _ z => .inl z, Nat.le_refl _⟩
  | k :: ks, M, h => by
    have hs := step_keys e M k
    have nd : ((stepT e M k).map (·.1)).Nodup := by
      rcases hs with z | ⟨z, z2⟩
      · rw [z]; exact h
      · rw [z2]
        refine List.nodup_append.mpr ⟨h, by simp, fun a ha b hb => ?_⟩
        have : b = k := by simpa using hb
        subst this
        exact fun q => z (q ▸ ha)
    have ln : (stepT e M k).length ≤ M.length + 1 := by
      have : ((stepT e M k).map (·.1)).length ≤ (M.map (·.1)).length + 1 := by
        rcases hs with z | ⟨_, z⟩
        · rw [z]; omega
        · rw [z, List.length_append]; simp
      simpa using this
    obtain ⟨i1, i2, i3, i4⟩ := steps_keys e ks (stepT e M k) nd
    refine ⟨i1, fun j hj => i2 j ?_, fun j hj => ?_, ?_⟩
    · rcases hs with z | ⟨_, z⟩
      · rw [z]; exact hj
      · rw [z]; exact List.mem_append_left _ hj
    · rcases i3 j hj with z | z
      · rcases hs with y | ⟨_, y⟩
        · rw [y] at z; exact .inl z
        · rw [y] at z
          rcases List.mem_append.mp z with z | z
          · exact .inl z
          · have : j = k := by simpa using z
            exact .inr (this ▸ List.mem_cons_self)
      · exact .inr (List.mem_cons_of_mem _ z)
    · rw [List.foldl_cons, List.length_cons]
      omega
theorem reach_nodup {e : Nt} {ks : List Int} (h : ks.Nodup) : (reachF e ks).Nodup := by
  unfold reachF
  split
  · simp
  · exact h.filter _
theorem stepK_gone {e : Nt} (h : e.m = .gone) : stepK e [] = [] := by
  unfold stepK
  rw [if_pos]
  show e.m.f none = none
  rw [h]
  rfl
theorem note_row {e : Nt} (ok : e.ok) {M : Tab} (nd : (M.map (·.1)).Nodup) (k : Int) : rowOf (noteT M e) k = if e.has k = true then stepK e (rowOf M k) else rowOf M k := by
  unfold noteT
  rw [steps_row e k _ M (reach_nodup nd)]
  by_cases c : e.hi - e.lo = 1
  · have : k ∈ reachF e (M.map (·.1)) ↔ e.has k = true := by
      unfold reachF Nt.has
      rw [if_pos c]
      simp only [List.mem_cons, List.not_mem_nil, or_false, decide_eq_true_eq]
      omega
    by_cases m : e.has k = true
    · rw [if_pos (this.mpr m), if_pos m]
    · rw [if_neg fun z => m (this.mp z), if_neg m]
  · have g : e.m = .gone := ok.one.resolve_left c
    have : k ∈ reachF e (M.map (·.1)) ↔ k ∈ M.map (·.1) ∧ e.has k = true := by
      unfold reachF
      rw [if_neg c, List.mem_filter]
    by_cases m : e.has k = true
    · rw [if_pos m]
      by_cases hk : k ∈ M.map (·.1)
      · rw [if_pos (this.mpr ⟨hk, m⟩)]
      · rw [if_neg fun z => hk (this.mp z).1, rowOf_none hk, stepK_gone g]
    · rw [if_neg fun z => m (this.mp z).2, if_neg m]
theorem notes_row (k : Int) : ∀ (ns : List Nt) {M : Tab}, (∀ e ∈ ns, e.ok) → (M.map (·.1)).Nodup → rowOf (ns.foldl noteT M) k = (ns.filter fun e => e.has k).foldl (fun ws e => stepK e ws) (rowOf M k)
  | [], M, _, _ => rfl
  | e :: ns, M, h, nd => by
    have nd2 : ((noteT M e).map (·.1)).Nodup := (steps_keys e (reachF e (M.map fun r : Int × List (Int × Option Int) => r.1)) M nd).1
    rw [List.foldl_cons, notes_row k ns (fun q hq => h q (List.mem_cons_of_mem _ hq)) nd2]
    rw [note_row (h e (by simp)) nd]
    by_cases m : e.has k = true
    · rw [if_pos m, List.filter_cons_of_pos (p := fun e : Nt => e.has k) m, List.foldl_cons]
    · rw [if_neg m, List.filter_cons_of_neg (p := fun e : Nt => e.has k) m]
theorem notes_keys : ∀ (ns : List Nt) {M : Tab}, (∀ e ∈ ns, e.ok) → (M.map (·.1)).Nodup → ((ns.foldl noteT M).map (·.1)).Nodup ∧ (∀ j ∈ M.map (·.1), j ∈ (ns.foldl noteT M).map (·.1)) ∧ (∀ j ∈ (ns.foldl noteT M).map (·.1), j ∈ M.map (·.1) ∨ ∃ e ∈ ns, e.hi - e.lo = 1 ∧ j = e.lo)
  | [], M, _, nd => ⟨nd, fun _ z => z, fun _ z => .inl z⟩
  | e :: ns, M, h, nd => by
    obtain ⟨s1, s2, s3, _⟩ := steps_keys e (reachF e (M.map (·.1))) M nd
    obtain ⟨i1, i2, i3⟩ := notes_keys ns (M := noteT M e) (fun q hq => h q (List.mem_cons_of_mem _ hq)) s1
    refine ⟨i1, fun j hj => i2 j (s2 j hj), fun j hj => ?_⟩
    rcases i3 j hj with z | ⟨e', h', r⟩
    · rcases s3 j z with z | z
      · exact .inl z
      · unfold reachF at z
        split at z
        · next c => exact .inr ⟨e, by simp, c, by simpa using z⟩
        · exact .inl (List.mem_filter.mp z).1
    · exact .inr ⟨e', List.mem_cons_of_mem _ h', r⟩
theorem stepK_mem {e : Nt} {ws : List (Int × Option Int)} {p : Int × Option Int} (h : p ∈ stepK e ws) : p ∈ ws ∨ p.1 = e.n := by
  unfold stepK at h
  split at h
  · exact .inl h
  · rcases List.mem_append.mp h with z | z
    · exact .inl z
    · have : p = (e.n, actF e.t e.m (valF none none ws)) := by simpa using z
      rw [this]
      exact .inr rfl
theorem stepK_rising {e : Nt} {ws : List (Int × Option Int)} (h : Rising ws) (lt : ∀ p ∈ ws, p.1 < e.n) : Rising (stepK e ws) := by
  unfold stepK
  split
  · exact h
  · refine List.pairwise_append.mpr ⟨h, by simp, fun a ha b hb => ?_⟩
    have : b = (e.n, actF e.t e.m (valF none none ws)) := by simpa using hb
    rw [this]
    exact lt a ha
theorem stepK_val {e : Nt} {ws : List (Int × Option Int)} (lt : ∀ p ∈ ws, p.1 < e.n) (at_ : Option Int) : valF at_ none (stepK e ws) = if okAt at_ e.n = true then actF e.t e.m (valF at_ none ws) else valF at_ none ws := by
  by_cases o : okAt at_ e.n = true
  · rw [if_pos o]
    have same : valF at_ none ws = valF none none ws := by
      cases at_ with
      | none => rfl
      | some m =>
        refine valF_some_none fun p hp => ?_
        have h1 := lt p hp
        have h2 : e.n ≤ m := by simpa [okAt] using o
        omega
    rw [same]
    unfold stepK
    split
    · next c => rw [same, c]
    · rw [valF_snoc, if_pos o]
  · rw [if_neg o]
    unfold stepK
    split
    · rfl
    · rw [valF_snoc, if_neg o]
theorem stepsK_val : ∀ (ns : List Nt) {ws : List (Int × Option Int)}, Rising ws → (∀ p ∈ ws, ∀ e ∈ ns, p.1 < e.n) → ns.Pairwise (fun a b => a.n < b.n) → Rising (ns.foldl (fun ws e => stepK e ws) ws) ∧ ∀ at_, valF at_ none (ns.foldl (fun ws e => stepK e ws) ws) = (ns.filter fun e => okAt at_ e.n).foldl (fun v e => actF e.t e.m v) (valF at_ none ws)
  | [], ws, h, _, _ => ⟨h, fun _ => rfl⟩
  | e :: ns, ws, h, lt, up => by
    have u2 := List.pairwise_cons.mp up
    have l1 : ∀ p ∈ ws, p.1 < e.n := fun p hp => lt p hp e (by simp)
    obtain ⟨i1, i2⟩ := stepsK_val ns (ws := stepK e ws) (stepK_rising h l1) (fun p hp e' he' => by
      rcases stepK_mem hp with z | z
      · exact lt p z e' (List.mem_cons_of_mem _ he')
      · rw [z]; exact u2.1 e' he') u2.2
    refine ⟨i1, fun at_ => ?_⟩
    rw [List.foldl_cons, i2 at_, stepK_val l1]
    by_cases o : okAt at_ e.n = true
    · rw [if_pos o, List.filter_cons_of_pos (p := fun e : Nt => okAt at_ e.n) o, List.foldl_cons]
    · rw [if_neg o, List.filter_cons_of_neg (p := fun e : Nt => okAt at_ e.n) o]
theorem stepsK_len : ∀ (ns : List Nt) (ws : List (Int × Option Int)), (ns.foldl (fun ws e => stepK e ws) ws).length ≤ ws.length + ns.length
  | [], ws => Nat.le_refl _
  | e :: ns, ws => by
    have := stepsK_len ns (stepK e ws)
    have l : (stepK e ws).length ≤ ws.length + 1 := by
      unfold stepK
      split
      · omega
      · rw [List.length_append]; simp
    rw [List.foldl_cons, List.length_cons]
    omega
theorem rowOf_row : ∀ {rows : Tab}, (rows.map (·.1)).Pairwise (· < ·) → ∀ r ∈ rows, rowOf rows r.1 = r.2
  | [], _, r, h => nomatch h
  | q :: rows, up, r, h => by
    have u := List.pairwise_cons.mp up
    rcases List.mem_cons.mp h with rfl | h
    · exact rowOf_pos rfl
    · have : q.1 < r.1 := u.1 r.1 (List.mem_map_of_mem h)
      rw [rowOf_neg (by omega), rowOf_row u.2 r h]
theorem rowOf_ne {rows : Tab} {k : Int} (h : rowOf rows k ≠ []) : k ∈ rows.map (·.1) := by
  by_cases c : k ∈ rows.map (·.1)
  · exact c
  · exact absurd (rowOf_none c) h
theorem up_nodup {ks : List Int} (h : ks.Pairwise (· < ·)) : ks.Nodup := h.imp fun z => by omega
theorem up_same : ∀ {a b : List Int}, a.Pairwise (· < ·) → b.Pairwise (· < ·) → (∀ k, k ∈ a ↔ k ∈ b) → a = b
  | [], [], _, _, _ => rfl
  | [], y :: b, _, _, h => nomatch (h y).mpr (by simp)
  | x :: a, [], _, _, h => nomatch (h x).mp (by simp)
  | x :: a, y :: b, ha, hb, h => by
    have a2 := List.pairwise_cons.mp ha
    have b2 := List.pairwise_cons.mp hb
    have e : x = y := by
      rcases List.mem_cons.mp ((h x).mp (by simp)) with z | z
      · exact z
      · rcases List.mem_cons.mp ((h y).mpr (by simp)) with w | w
        · exact w.symm
        · have := b2.1 x z
          have := a2.1 y w
          omega
    subst e
    rw [up_same a2.2 b2.2 fun k => ⟨fun m => ?_, fun m => ?_⟩]
    · rcases List.mem_cons.mp ((h k).mp (List.mem_cons_of_mem _ m)) with z | z
      · have := a2.1 k m; omega
      · exact z
    · rcases List.mem_cons.mp ((h k).mpr (List.mem_cons_of_mem _ m)) with z | z
      · have := b2.1 k m; omega
      · exact z
theorem steps_in (e : Nt) : ∀ (ks : List Int) (M : Tab), (∀ k ∈ ks, k ∈ M.map (·.1)) → (ks.foldl (stepT e) M).length = M.length
  | [], M, _ => rfl
  | k :: ks, M, h => by
    have z : (stepT e M k).map (·.1) = M.map (·.1) := (step_keys e M k).resolve_right fun z => z.1 (h k (by simp))
    rw [List.foldl_cons, steps_in e ks _ fun j hj => by rw [z]; exact h j (List.mem_cons_of_mem _ hj)]
    have := congrArg List.length z
    simpa using this
theorem note_len (M : Tab) (e : Nt) (nd : (M.map (·.1)).Nodup) : (noteT M e).length ≤ M.length + 1 := by
  unfold noteT
  by_cases c : e.hi - e.lo = 1
  · have := (steps_keys e (reachF e (M.map fun r : Int × List (Int × Option Int) => r.1)) M nd).2.2.2
    unfold reachF at this ⊢
    rw [if_pos c] at this ⊢
    simpa using this
  · rw [steps_in e]
    · omega
    · intro k hk
      unfold reachF at hk
      rw [if_neg c] at hk
      exact (List.mem_filter.mp hk).1
theorem notes_len : ∀ (ns : List Nt) {M : Tab}, (∀ e ∈ ns, e.ok) → (M.map (·.1)).Nodup → (ns.foldl noteT M).length ≤ M.length + ns.length
  | [], M, _, _ => Nat.le_refl _
  | e :: ns, M, h, nd => by
    have h1 := note_len M e nd
    have h2 := notes_len ns (M := noteT M e) (fun q hq => h q (List.mem_cons_of_mem _ hq)) (steps_keys e (reachF e (M.map fun r : Int × List (Int × Option Int) => r.1)) M nd).1
    rw [List.foldl_cons, List.length_cons]
    omega
theorem rowOf_mem : ∀ {M : Tab}, (M.map (·.1)).Nodup → ∀ r ∈ M, rowOf M r.1 = r.2
  | [], _, r, h => nomatch h
  | q :: M, nd, r, h => by
    have u := List.nodup_cons.mp nd
    rcases List.mem_cons.mp h with rfl | h
    · exact rowOf_pos rfl
    · rw [rowOf_neg (fun z => u.1 (by show q.1 ∈ _; rw [z]; exact List.mem_map_of_mem h)), rowOf_mem u.2 r h]
def rowsIn (rows : Tab) (ns : List Nt) : Prop := ∀ r ∈ rows, Rising r.2 ∧ r.2.length ≤ 100 ∧ ∀ p ∈ r.2, ∀ e ∈ ns, e.has r.1 = true → p.1 < e.n
def trayIn (ns : List Nt) : Prop := (∀ e ∈ ns, e.ok) ∧ ns.Pairwise fun a b => (∃ k, a.has k = true ∧ b.has k = true) → a.n < b.n
theorem trayIn.at_ {ns : List Nt} (h : trayIn ns) (k : Int) : (ns.filter fun e => e.has k).Pairwise fun a b => a.n < b.n := by
  have h2 := h.2.filter (fun e => e.has k)
  refine List.Pairwise.imp_of_mem (fun {a b} ha hb r => ?_) h2
  exact r ⟨k, (List.mem_filter.mp ha).2, (List.mem_filter.mp hb).2⟩
theorem behind_row {rows : Tab} {ns : List Nt} (up : (rows.map (·.1)).Pairwise (· < ·)) (hr : rowsIn rows ns) (ht : trayIn ns) (ln : ns.length ≤ 64) (k : Int) :
    Rising (rowOf (ns.foldl noteT rows) k) ∧ (rowOf (ns.foldl noteT rows) k).length ≤ 164 ∧ ∀ at_, valF at_ none (rowOf (ns.foldl noteT rows) k) = (ns.filter fun e => e.has k && okAt at_ e.n).foldl (fun v e => actF e.t e.m v) (valF at_ none (rowOf rows k)) := by
  rw [notes_row k ns ht.1 (up_nodup up)]
  have row : Rising (rowOf rows k) ∧ (rowOf rows k).length ≤ 100 ∧ ∀ p ∈ rowOf rows k, ∀ e ∈ ns.filter (fun e => e.has k), p.1 < e.n := by
    by_cases c : k ∈ rows.map (·.1)
    · obtain ⟨r, hr', rfl⟩ := List.mem_map.mp c
      rw [rowOf_row up r hr']
      obtain ⟨h1, h2, h3⟩ := hr r hr'
      exact ⟨h1, h2, fun p hp e he => h3 p hp e (List.mem_filter.mp he).1 (List.mem_filter.mp he).2⟩
    · rw [rowOf_none c]
      exact ⟨.nil, Nat.zero_le _, fun p hp => nomatch hp⟩
  obtain ⟨i1, i2⟩ := stepsK_val _ row.1 row.2.2 (ht.at_ k)
  refine ⟨i1, ?_, fun at_ => ?_⟩
  · have h1 := stepsK_len (ns.filter fun e => e.has k) (rowOf rows k)
    have h2 := List.length_filter_le (fun e : Nt => e.has k) ns
    omega
  · rw [i2 at_, List.filter_filter]
    congr 2
    funext e
    rw [Bool.and_comm]
theorem dc_list {K : PySem.W.Frag} {g : TG} {tt : TT} {tk tv : TE} {D a : Addr} {Q : Hp → Prop} {σ : St} {H : Hp} {xs : List V} (Pv : Nat → List (Key × V) → St → Hp → Prop) (h0 : Pv 0 [] σ H) (hl : ∀ i acc σ H, i ≤ xs.length → Pv i acc σ H → SqL K H a xs)
    (hs : ∀ i x acc σ H, xs[i]? = some x → Pv i acc σ H → g x σ H fun σ2 H2 => tt σ2 H2 fun b H3 => if b = true then tk σ2 H3 fun y H4 => tv σ2 H4 fun v H5 => ∃ k : Key, y = kV k ∧ H5 D = some (.dK acc) ∧ acc.length < sizeLine ∧ Pv (i + 1) (putK acc k v) σ2 (upd H5 D (.dK (putK acc k v))) else Pv (i + 1) acc σ2 H3)
    (hd : ∀ acc σ H, Pv xs.length acc σ H → Q H) : DcLoop (Itl K a) g tt tk tv D Q σ H := by
  refine ⟨fun i m acc σ H => Pv i acc σ H ∧ i ≤ xs.length ∧ m = xs.length - i, ⟨xs.length, h0, Nat.zero_le _, by omega⟩, fun i m acc σ H ⟨h, hi, hm⟩ => ?_⟩
  by_cases c : i < xs.length
  · right
    refine ⟨⟨xs, _, hl i acc σ H (Nat.le_of_lt c) h, List.getElem?_eq_getElem c⟩, Pv (i + 1), fun acc' σ' H' q => ⟨xs.length - (i + 1), by omega, q, by omega, rfl⟩, fun x H' hy => ?_⟩
    obtain ⟨rfl, hy⟩ := hy
    exact hs i x acc σ _ (hy xs (hl i acc σ _ (Nat.le_of_lt c) h)) h
  · left
    have e : i = xs.length := by omega
    subst e
    exact ⟨⟨xs, hl _ acc σ H (Nat.le_refl _) h, Nat.le_refl _⟩, hd acc σ H h⟩
theorem tDc_list {K : PySem.W.Frag} {g : TG} {tt : TT} {tk tv : TE} {σ : St} {H : Hp} {tl : TE} {src : List (Option Nat)} {Q : VK} : tDc K (iList K tl) src g tt tk tv σ H Q = tl σ H (fun x H1 => ∃ a, x = .ref a ∧ (∃ xs, SqL K H1 a xs) ∧ ∀ D, L2.new K H1 D → DcLoop (Itl K a) g tt tk tv D (fun H' => Q (.ref D) H') (pick σ src) (upd H1 D (.dK []))) := rfl
theorem rowsIn.sub {rows : Tab} {ns ns' : List Nt} (h : rowsIn rows ns) (s : ∀ e ∈ ns', e ∈ ns) : rowsIn rows ns' := fun r hr => ⟨(h r hr).1, (h r hr).2.1, fun p hp e he => (h r hr).2.2 p hp e (s e he)⟩
theorem trayIn.take {ns : List Nt} (h : trayIn ns) (i : Nat) : trayIn (ns.take i) := ⟨fun e he => h.1 e (List.mem_of_mem_take he), h.2.sublist (List.take_sublist _ _)⟩
def spBehindR (K : PySem.W.Frag) : Sp := fun vs H Q _ => ∃ (r c q : Addr) (L : Rs) (N : Tr) (ms : List Int), vs = [.ref r, .ref c, .ref q] ∧ H r = some (.lst L.v) ∧ RowsAt K H L ∧ H c = some (.lst (Tr.v N)) ∧ TrayAt K H N ∧ Marks H q ms ∧ (L.kw.map (·.1)).Pairwise (· < ·) ∧ rowsIn L.kw (N.map (·.2)) ∧ trayIn (N.map (·.2)) ∧ L.length + N.length < 64 ∧
  ∀ (D : Addr) (M : Rs) (ks : List Int) (H' : Hp), H D = none → H' D = some (.lst M.v) → RowsAt K H' M → ks.Pairwise (· < ·) → (∀ k, k ∈ ks ↔ k ∈ ((N.map (·.2)).foldl noteT L.kw).map (·.1)) → ks.length < 64 → M.kw = sweptF ms (ks.map fun k => (k, rowOf ((N.map (·.2)).foldl noteT L.kw) k)) → (∀ p ∈ M, H p.2.a = none ∧ p.2.a ≠ D) → M.length ≤ L.length + N.length → Ext K H H' → Q (.ref D) H'
theorem sc_rows_behind : FnScope ["rows", "notes", "marks", "table", "note"] ["rows", "notes", "marks"] (defScope s_rows_behind) := ⟨rfl, rfl, rfl, by decide +kernel, rfl, by decide +kernel, by decide +kernel⟩
theorem ok_rows_behind {f : Addr} {fd : FuncData} (F : Fun K "rows_behind" "rows_behind" s_rows_behind f fd) (B : B K mg aG tE) (C_put_behind : Callee P w K mg base "put_behind" 3 ["table", "note"] (spPutBehind K)) (C_swept : Callee P w K mg base "swept" 4 ["rows", "marks"] (spSwept K)) : FnOk P w K mg base CX0 5 f fd ["rows", "notes", "marks"] (spBehindR K) := by
  refine F.okJ sc_rows_behind (fun vs H Q E h => ?_) (fun cdv A outer s H vs Q E hr h => ?_)
  · obtain ⟨r, c, q, L, N, ms, rfl, _⟩ := h
    rfl
  obtain ⟨r, c, q0, L, N, ms, rfl, hS, hL, hC, hN, ⟨hq, hm, lm⟩, up, hin, tin, lLN, q⟩ := h
  refine ⟨_, (bcons (sset (i := 3) sc_rows_behind.nd rfl (Or.inr rfl) (edc (Cap.mk (N := ["key", "versions"]) (src := [none, none]) rfl rfl) rfl (ilist (ev 0)) (fun _ _ _ _ => (gtupQK K (n := 2) rfl (gcons (gname (i := 0) (show (["key", "versions"] : List Str).Nodup from by decide +kernel) rfl (Or.inl rfl)) (gcons (gname (i := 1) (show (["key", "versions"] : List Str).Nodup from by decide +kernel) rfl (Or.inl rfl)) gnil)))) (fun _ _ _ _ => fnone) (fun _ _ _ _ => (ev 0)) (fun _ _ _ _ => (ev 1))))
      (bcons (sfor PassesOwn.never rfl (ilist (ev 1)) (gname (i := 4) sc_rows_behind.nd rfl (Or.inl rfl))
        (bone (sexpr (ecall C_put_behind (hr.mono (by decide)) rfl (acons (ev 3) (acons (ev 4) anil))))))
      (bone (sret (ecall C_swept (hr.mono (by decide)) rfl (acons (elc (Cap.mk (N := ["key", "table"]) (src := [none, some 3]) rfl rfl) rfl (ilist (ecallB (call_sortedD rfl) rfl B.sorted bt_sorted (acons (ev 3) anil))) (fun _ _ _ _ => (gname (i := 0) (show (["key", "table"] : List Str).Nodup from by decide +kernel) rfl (Or.inl rfl))) (fun _ _ _ _ => fnone) (fun _ _ _ _ => (etupQK K (acons (ev 0) (acons (edget hr.units (ev 1) (ev 0) (fun _ _ => rfl)) anil))))) (acons (ev 2) anil))))))), ?_⟩
  simp only [tSeq, tNext, tIfS, tAsg, gName, gSub, tRet, tRetN, tDrop, tVar, tC, tOp, tUn, rI0, rI, rU, tTest, tB, tAndV, tOrV, tNotV, tAnd, tOr, tNot, tIf, tChain, tCB, tCons, tNil, tLst, tTup, tCallC, List.getElem?_cons_zero, List.getElem?_cons_succ, List.set_cons_zero, List.set_cons_succ, Option.some.injEq, V.int.injEq, V.bl.injEq, V.ref.injEq, V.ty.injEq, V.str.injEq, List.cons.injEq, exists_eq_left', exists_eq_left, exists_and_left, and_true, true_and, and_assoc, cxK, rIxF, rSetL, rEq, rNe, scal, HO.lst.injEq, HO.tup.injEq, upd_none, ixN_10, ixN_20, ixN_21, ixN_30, ixN_31, ixN_32, upd_same, seqAt_updL, seqAt_updT, atI_0, atI_1, atI_2, atI_3, decide_eq_true_eq, L2.start, List.map_cons, List.map_nil, List.length_cons, List.length_nil, Nat.reduceAdd, Nat.reduceSub, List.replicate_succ, List.replicate_zero, List.cons_append, List.nil_append, List.append_nil, tFor_rng1, tFor_rng2, tFor_list, tFor_tup, CDv, CMul, CPow, sizeLine_eq, Int.reduceLE, Int.reduceLT, Int.reducePow, Int.reduceToNat, Int.reduceAdd, Int.reduceSub, Int.reduceMul, Int.reduceNeg, Nat.reduceLeDiff, Nat.reducePow, Nat.reduceLT, Int.reduceEq, true_or, or_true, ite_true, ite_false, if_true, if_false, Bool.not_true, Bool.not_false, Bool.false_eq_true, decide_true, decide_false, rIxQ, seqQ_updL, seqQ_updT, tupQ_updT, tSl, tNoPart, tPart, rSlQ, rCatQ, tTupQ, tLstQ, tNever, rEqD, rInQ, gTupQ, gCons, gNil, tBM, rAppend, rSlTQ, gSlice, tLc2_list, bodyL_tup, bodyL_list, bodyE_eq, tDGet, tLcD, tDGet2, sDPut, tFor_rng3, tLc_rng1, tLc_rng2, tLc_list, tLc_tup, tLc_enum, pick_nil, pick_own, pick_cap, join_some, tYes, tCallKC, gk_11, gk_31, tSortSet, tFor_zip, tAug, ipI, tDc_list]
  refine ⟨⟨_, SqL.of hS⟩, fun D nD => ?_⟩
  have nd := up_nodup up
  have ndk : (L.map fun p => p.2.k).Nodup := by have := nd; rw [Rs.kw, List.map_map] at this; exact this
  obtain ⟨J, eJ⟩ : ∃ J : Nat → List (Key × V) → St → Hp → Prop, J = fun i acc σ' H' => ∃ (v0 v1 : Option V), σ' = [v0, v1] ∧ H' D = some (.dK acc) ∧ acc = dI (TabV ((L.take i).map (·.2))) ∧ Kp K D (upd H D (.dK [])) H' := ⟨_, rfl⟩
  refine dc_list (xs := L.v) J ?_ ?_ ?_ ?_
  · rw [eJ]
    exact ⟨_, _, rfl, upd_same, rfl, Kp.refl⟩
  · intro i acc σ' H' _ h
    rw [eJ] at h
    obtain ⟨_, _, _, _, _, k⟩ := h
    exact SqL.of ((k.ext nD).at hS)
  · intro i x acc σ' H1 hx h
    rw [eJ] at h
    obtain ⟨v0, v1, rfl, hD, rfl, k⟩ := h
    rw [Rs.v, List.getElem?_map] at hx
    obtain ⟨p, ep, rfl⟩ := Option.map_eq_some_iff.mp hx
    have il : i < L.length := (List.getElem?_eq_some_iff.mp ep).1
    obtain ⟨t, e1, e2, e3, e4⟩ := (hL.ext (k.ext nD)) p (List.mem_of_getElem? ep)
    rw [e1]
    simp only [tSeq, tNext, tIfS, tAsg, gName, gSub, tRet, tRetN, tDrop, tVar, tC, tOp, tUn, rI0, rI, rU, tTest, tB, tAndV, tOrV, tNotV, tAnd, tOr, tNot, tIf, tChain, tCB, tCons, tNil, tLst, tTup, tCallC, List.getElem?_cons_zero, List.getElem?_cons_succ, List.set_cons_zero, List.set_cons_succ, Option.some.injEq, V.int.injEq, V.bl.injEq, V.ref.injEq, V.ty.injEq, V.str.injEq, List.cons.injEq, exists_eq_left', exists_eq_left, exists_and_left, and_true, true_and, and_assoc, cxK, rIxF, rSetL, rEq, rNe, scal, HO.lst.injEq, HO.tup.injEq, upd_none, ixN_10, ixN_20, ixN_21, ixN_30, ixN_31, ixN_32, upd_same, seqAt_updL, seqAt_updT, atI_0, atI_1, atI_2, atI_3, decide_eq_true_eq, L2.start, List.map_cons, List.map_nil, List.length_cons, List.length_nil, Nat.reduceAdd, Nat.reduceSub, List.replicate_succ, List.replicate_zero, List.cons_append, List.nil_append, List.append_nil, tFor_rng1, tFor_rng2, tFor_list, tFor_tup, CDv, CMul, CPow, sizeLine_eq, Int.reduceLE, Int.reduceLT, Int.reducePow, Int.reduceToNat, Int.reduceAdd, Int.reduceSub, Int.reduceMul, Int.reduceNeg, Nat.reduceLeDiff, Nat.reducePow, Nat.reduceLT, Int.reduceEq, true_or, or_true, ite_true, ite_false, if_true, if_false, Bool.not_true, Bool.not_false, Bool.false_eq_true, decide_true, decide_false, rIxQ, seqQ_updL, seqQ_updT, tupQ_updT, tSl, tNoPart, tPart, rSlQ, rCatQ, tTupQ, tLstQ, tNever, rEqD, rInQ, gTupQ, gCons, gNil, tBM, rAppend, rSlTQ, gSlice, tLc2_list, bodyL_tup, bodyL_list, bodyE_eq, tDGet, tLcD, tDGet2, sDPut, tFor_rng3, tLc_rng1, tLc_rng2, tLc_list, tLc_tup, tLc_enum, pick_nil, pick_own, pick_cap, join_some, tYes, tCallKC, gk_11, gk_31, tSortSet, tFor_zip, tAug, ipI, e2]
    have nv : valV (dI (TabV ((L.take i).map (·.2)))) (.inl p.2.k) = none := by
      rw [valV_tab]
      have : ((L.take i).map (·.2)).find? (fun q => decide (q.k = p.2.k)) = none := by
        rw [List.find?_eq_none]
        intro q hq
        obtain ⟨p', hp', rfl⟩ := List.mem_map.mp hq
        obtain ⟨j, hj, ej⟩ := List.mem_iff_getElem.mp hp'
        rw [List.length_take] at hj
        rw [List.getElem_take] at ej
        have P := List.pairwise_iff_getElem.mp ndk j i (by simp; omega) (by simpa using il) (by omega)
        have ei : L[i] = p := (List.getElem?_eq_some_iff.mp ep).2
        simp only [List.getElem_map, ej, ei] at P
        simpa using P
      rw [this]
      rfl
    refine ⟨.inl p.2.k, rfl, hD, by simp only [dI, TabV, List.length_map, List.length_take]; exact Nat.lt_of_le_of_lt (show min i L.length ≤ 1000 by omega) (by decide), ?_⟩
    rw [putK_new _ nv, eJ]
    refine ⟨_, _, rfl, upd_same, ?_, k.trans (Kp.updD hD)⟩
    rw [List.take_add_one, ep, Option.toList_some]
    simp [dI, TabV]
  intro acc σ' H1 h
  rw [eJ] at h
  clear eJ
  obtain ⟨v0, v1, rfl, hD, rfl, k⟩ := h
  rw [Rs.v, List.length_map, List.take_length] at hD
  have x1 := k.ext nD
  try walk_at "rn"
  refine ⟨⟨_, SqL.of (x1.at hC)⟩, ?_⟩
  have hT1 : TabAt K H1 D (L.map (·.2)) := ⟨hD, fun q hq => by
    obtain ⟨p, hp, rfl⟩ := List.mem_map.mp hq
    obtain ⟨_, _, _, e3, e4⟩ := (hL.ext x1) p hp
    exact ⟨e3, e4⟩⟩
  have kw1 : rkw (L.map (·.2)) = L.kw := by simp [rkw, Rs.kw]
  have neD1 : ∀ q ∈ L.map (·.2), q.a ≠ D := fun q hq => by
    obtain ⟨p, hp, rfl⟩ := List.mem_map.mp hq
    obtain ⟨_, _, _, e3, _⟩ := hL p hp
    exact ne_of_none e3 nD.1
  have okN : ∀ e ∈ N.map (·.2), e.ok := tin.1
  obtain ⟨J2, eJ2⟩ : ∃ J : Nat → St → Hp → Prop, J = fun i σ' H' => ∃ (v4 : Option V) (M' : List Row), σ' = [some (.ref r), some (.ref c), some (.ref q0), some (.ref D), v4] ∧ TabAt K H' D M' ∧ rkw M' = ((N.take i).map (·.2)).foldl noteT L.kw ∧ (∀ q ∈ M', q.a ≠ D) ∧ Ext K H H' := ⟨_, rfl⟩
  refine loop_list (xs := Tr.v N) J2 ?_ ?_ ?_ ?_
  · rw [eJ2]
    exact ⟨_, _, rfl, hT1, kw1, neD1, x1⟩
  · intro i σ' H' _ h
    rw [eJ2] at h
    obtain ⟨_, _, _, _, _, _, x⟩ := h
    exact SqL.of (x.at hC)
  · intro i u σ' H2 hu h
    rw [eJ2] at h
    obtain ⟨v4, M', rfl, hT2, eM, neT2, x2⟩ := h
    rw [Tr.v, List.getElem?_map] at hu
    obtain ⟨m, em, rfl⟩ := Option.map_eq_some_iff.mp hu
    have il : i < N.length := (List.getElem?_eq_some_iff.mp em).1
    have okT : ∀ e ∈ (N.take i).map (·.2), e.ok := fun e he => by
      obtain ⟨m', hm', rfl⟩ := List.mem_map.mp he
      exact okN _ (List.mem_map_of_mem (List.mem_of_mem_take hm'))
    have ndM := (notes_keys ((N.take i).map (·.2)) okT nd).1
    rw [← eM] at ndM
    have lenM := notes_len ((N.take i).map (·.2)) okT nd
    rw [← eM] at lenM
    simp only [rkw, List.length_map, List.length_take] at lenM
    rw [kw_len] at lenM
    have hb : ∀ q ∈ M', q.us.length ≤ 500 := fun q hq => by
      have h1 := (hT2.vs q hq).2.len
      have h2 := rowOf_mem ndM q.kw (List.mem_map_of_mem hq)
      have h3 := behind_row up (hin.sub (ns' := (N.take i).map (·.2)) fun e he => by
        obtain ⟨m', hm', rfl⟩ := List.mem_map.mp he
        exact List.mem_map_of_mem (List.mem_of_mem_take hm')) (by have := tin.take i; rwa [← List.map_take] at this) (by simp; omega) q.k
      rw [← eM] at h3
      have h4 : rowOf (rkw M') q.k = q.ws := h2
      rw [h4] at h3
      omega
    try walk_at "rn"
    refine ⟨m.1, m.2, D, M', rfl, ((hN.ext x2) m (List.mem_of_getElem? em)).1, hT2, neT2, by omega, hb, fun M2 H3 hT3 eM3 ne3 k3 => ?_⟩
    rw [eJ2]
    refine ⟨_, M2, rfl, hT3, ?_, ne3, x2.thenKp nD.1 k3⟩
    rw [eM3, eM, List.take_add_one, em, Option.toList_some, List.map_append, List.foldl_append]
    rfl
  intro σ' H2 h
  rw [eJ2] at h
  clear eJ2
  obtain ⟨v4, M', rfl, hT2, eM, neT2, x2⟩ := h
  rw [Tr.v, List.length_map, List.take_length] at eM
  have ndM := (notes_keys (N.map (·.2)) okN nd).1
  have lenM := notes_len (N.map (·.2)) okN nd
  rw [← eM] at ndM lenM
  simp only [rkw, List.length_map] at lenM
  rw [kw_len] at lenM
  have rowM : ∀ q ∈ M', rowOf (rkw M') q.k = q.ws := fun q hq => rowOf_mem ndM q.kw (List.mem_map_of_mem hq)
  have hB := behind_row up hin tin (by simp; omega)
  rw [← eM] at hB q
  simp only [tSeq, tNext, tIfS, tAsg, gName, gSub, tRet, tRetN, tDrop, tVar, tC, tOp, tUn, rI0, rI, rU, tTest, tB, tAndV, tOrV, tNotV, tAnd, tOr, tNot, tIf, tChain, tCB, tCons, tNil, tLst, tTup, tCallC, List.getElem?_cons_zero, List.getElem?_cons_succ, List.set_cons_zero, List.set_cons_succ, Option.some.injEq, V.int.injEq, V.bl.injEq, V.ref.injEq, V.ty.injEq, V.str.injEq, List.cons.injEq, exists_eq_left', exists_eq_left, exists_and_left, and_true, true_and, and_assoc, cxK, rIxF, rSetL, rEq, rNe, scal, HO.lst.injEq, HO.tup.injEq, upd_none, ixN_10, ixN_20, ixN_21, ixN_30, ixN_31, ixN_32, upd_same, seqAt_updL, seqAt_updT, atI_0, atI_1, atI_2, atI_3, decide_eq_true_eq, L2.start, List.map_cons, List.map_nil, List.length_cons, List.length_nil, Nat.reduceAdd, Nat.reduceSub, List.replicate_succ, List.replicate_zero, List.cons_append, List.nil_append, List.append_nil, tFor_rng1, tFor_rng2, tFor_list, tFor_tup, CDv, CMul, CPow, sizeLine_eq, Int.reduceLE, Int.reduceLT, Int.reducePow, Int.reduceToNat, Int.reduceAdd, Int.reduceSub, Int.reduceMul, Int.reduceNeg, Nat.reduceLeDiff, Nat.reducePow, Nat.reduceLT, Int.reduceEq, true_or, or_true, ite_true, ite_false, if_true, if_false, Bool.not_true, Bool.not_false, Bool.false_eq_true, decide_true, decide_false, rIxQ, seqQ_updL, seqQ_updT, tupQ_updT, tSl, tNoPart, tPart, rSlQ, rCatQ, tTupQ, tLstQ, tNever, rEqD, rInQ, gTupQ, gCons, gNil, tBM, rAppend, rSlTQ, gSlice, tLc2_list, bodyL_tup, bodyL_list, bodyE_eq, tDGet, tLcD, tDGet2, sDPut, tFor_rng3, tLc_rng1, tLc_rng2, tLc_list, tLc_tup, tLc_enum, pick_nil, pick_own, pick_cap, join_some, tYes, tCallKC, gk_11, gk_31, tSortSet, tFor_zip, tAug, ipI, tLc_list]
  refine ⟨TabV M', hT2.at_, by simp only [TabV, List.length_map]; omega, fun Dk ks nDk upk memk lenk => ?_⟩
  have xk := Ext.new (K := K) (o := .lst (ks.map V.int)) nDk
  have eDk : (upd H2 Dk (.lst (ks.map V.int))) Dk = some (.lst (ks.map V.int)) := upd_same
  generalize upd H2 Dk (.lst (ks.map V.int)) = H3 at xk eDk
  refine ⟨⟨_, SqL.of eDk⟩, fun Dl nDl => ?_⟩
  have hT3 := hT2.ext xk
  have x3 := x2.trans xk
  have lks : ks.length < 64 := by rw [lenk]; simp only [TabV, List.length_map]; omega
  have memk' : ∀ k, k ∈ ks ↔ k ∈ (rkw M').map (·.1) := fun k => by
    rw [memk k]
    simp [TabV, rkw, Row.kw]
  obtain ⟨J3, eJ3⟩ : ∃ J : Nat → List V → St → Hp → Prop, J = fun i acc σ' H' => ∃ (v0 : Option V) (R : Rs), σ' = [v0, some (.ref D)] ∧ H' Dl = some (.lst acc) ∧ acc = R.v ∧ RowsAt K H' R ∧ R.kw = (ks.take i).map (fun k => (k, rowOf (rkw M') k)) ∧ (∀ p ∈ R, p.2.a ≠ Dl) ∧ R.length ≤ i ∧ Kp K Dl (upd H3 Dl (.lst [])) H' := ⟨_, rfl⟩
  refine lc_list (xs := ks.map V.int) J3 ?_ ?_ ?_ ?_
  · rw [eJ3]
    exact ⟨_, [], rfl, upd_same, rfl, (fun p hp => nomatch hp), rfl, (fun p hp => nomatch hp), Nat.le_refl _, Kp.refl⟩
  · intro i acc σ' H' _ h
    rw [eJ3] at h
    obtain ⟨_, _, _, _, _, _, _, _, _, k⟩ := h
    exact SqL.of ((k.ext nDl).at eDk)
  · intro i u acc σ' H4 hu h
    rw [eJ3] at h
    obtain ⟨v0, R, rfl, hDl, rfl, hR, eR, nR, lR, k4⟩ := h
    rw [List.getElem?_map] at hu
    obtain ⟨key, ek, rfl⟩ := Option.map_eq_some_iff.mp hu
    have il : i < ks.length := (List.getElem?_eq_some_iff.mp ek).1
    have x4 := k4.ext nDl
    have hT4 := hT3.ext x4
    obtain ⟨q', hq', eq'⟩ : ∃ q' ∈ M', q'.k = key := by
      have := (memk' key).mp (List.mem_of_getElem? ek)
      obtain ⟨r', hr', rfl⟩ := List.mem_map.mp this
      obtain ⟨q', hq', rfl⟩ := List.mem_map.mp hr'
      exact ⟨q', hq', rfl⟩
    obtain ⟨q2, hq2, eq2, ev⟩ : ∃ q2 ∈ M', q2.k = key ∧ valV (dI (TabV M')) (.inl key) = some (.ref q2.a) := by
      rw [valV_tab]
      cases ef : M'.find? fun q => decide (q.k = key) with
      | none =>
        rw [List.find?_eq_none] at ef
        exact absurd eq' (by simpa using ef q' hq')
      | some q2 => exact ⟨q2, List.mem_of_find?_eq_some ef, by have := List.find?_some ef; simpa using this, rfl⟩
    try walk_at "rn"
    have dg := DGet.k (k := .inl key) hT4.at_
    rw [ev] at dg
    refine ⟨_, dg, fun T nT => ?_⟩
    have yT := Ext.new (K := K) (o := .tup [.int key, .ref q2.a]) nT
    have hDl' := yT.at hDl
    have kD : Kp K Dl _ (upd (upd H4 T (.tup [.int key, .ref q2.a])) Dl (.lst (R.v ++ [.ref T]))) := Kp.upd hDl'
    have ne2 : q2.a ≠ Dl := ne_of_none (hT3.vs q2 hq2).1 nDl.1
    refine ⟨hDl', by rw [Rs.v, List.length_map]; exact Nat.lt_of_le_of_lt (show R.length ≤ 64 by omega) (by decide), ?_⟩
    rw [eJ3]
    refine ⟨_, R ++ [(.ref T, ⟨key, q2.a, q2.us, q2.ws⟩)], rfl, upd_same, by simp [Rs.v], ?_, ?_, ?_, by rw [List.length_append]; simp; omega, k4.trans (yT.kp.trans kD)⟩
    · exact (RowsAt.snoc (u := .ref T) (q := ⟨key, q2.a, q2.us, q2.ws⟩) (hR.ext yT) ⟨T, rfl, tupQ_updT, yT.at (hT4.vs q2 hq2).1, (hT4.vs q2 hq2).2.ext yT⟩).kp kD hDl' fun p hp => by
        rcases List.mem_append.mp hp with z | z
        · exact nR p z
        · have e : p = (.ref T, ⟨key, q2.a, q2.us, q2.ws⟩) := by simpa using z
          rw [e]
          exact ne2
    · rw [List.take_add_one, ek, Option.toList_some, List.map_append, ← eR, show Rs.kw (R ++ [(V.ref T, ⟨key, q2.a, q2.us, q2.ws⟩)]) = R.kw ++ [(key, q2.ws)] by simp [Rs.kw, Row.kw]]
      rw [← rowM q2 hq2, eq2]
      rfl
    · intro p hp
      rcases List.mem_append.mp hp with z | z
      · exact nR p z
      · have e : p = (.ref T, ⟨key, q2.a, q2.us, q2.ws⟩) := by simpa using z
        rw [e]
        exact ne2
  intro acc σ' H4 h
  rw [eJ3] at h
  clear eJ3
  obtain ⟨v0, R, rfl, hDl, rfl, hR, eR, nR, lR, k4⟩ := h
  rw [List.length_map, List.take_length] at eR
  have x4 := x3.trans (k4.ext nDl)
  have bR : ∀ p ∈ R, Rising p.2.ws ∧ p.2.us.length ≤ 1000 := fun p hp => by
    obtain ⟨_, _, _, _, v⟩ := hR p hp
    have : p.2.kw ∈ R.kw := List.mem_map_of_mem hp
    rw [eR] at this
    obtain ⟨k', _, e'⟩ := List.mem_map.mp this
    have ew : p.2.ws = rowOf (rkw M') k' := (congrArg Prod.snd e').symm
    rw [v.len, ew]
    have := hB k'
    exact ⟨this.1, by omega⟩
  rw [List.length_map] at lR
  refine ⟨Dl, q0, R, ms, rfl, hDl, hR, bR, by omega, ⟨x4.at hq, hm, lm⟩, fun D' M2 H5 nD' hD' hM2 eM2 nM2 lM2 x5 => ?_⟩
  rw [eR] at eM2
  have lks2 : ks.length ≤ L.length + N.length := by rw [lenk]; simp only [TabV, List.length_map]; omega
  exact q D' M2 ks H5 (x4.was nD') hD' hM2 upk memk' lks eM2 (fun p hp => ⟨x4.was (nM2 p hp).1, (nM2 p hp).2⟩) (by omega) (x4.trans x5)
def nB (n : Int) : Prop := n.natAbs ≤ 10 ^ 40
def Half.bd : Half → Prop
  | .plus n => nB n
  | .is n => nB n
  | .gone => True
def spNumber (K : PySem.W.Frag) : Sp := fun vs H Q _ => ∃ p x y z, vs = [.ref p] ∧ H p = some (L3 x y z) ∧ ∀ (n x y z : Int) (H' : Hp), nB n → H' p = some (L3 x y z) → Kp K p H H' → Q (.int n) H'
theorem sc__law_number : FnScope ["_law_well_here"] ["_law_well_here"] (defScope s__law_number) := ⟨rfl, rfl, rfl, by decide +kernel, rfl, by decide +kernel, by decide +kernel⟩
theorem ok__law_number {f : Addr} {fd : FuncData} (F : Fun K "_law_number" "_law_number" s__law_number f fd) (B : B K mg aG tE) (C__law_draw : Callee P w K mg base "_law_draw" 1 ["_law_well_here", "_law_many"] (spDraw K)) : FnOk P w K mg base CX0 2 f fd ["_law_well_here"] (spNumber K) := by
  refine F.okJ sc__law_number (fun vs H Q E h => ?_) (fun cdv A outer s H vs Q E hr h => ?_)
  · obtain ⟨p, x, y, z, rfl, _⟩ := h
    rfl
  obtain ⟨p, x, y, z, rfl, hp, q⟩ := h
  refine ⟨_, (bcons (sif (tcmp op_eq (ecall C__law_draw (hr.mono (by decide)) rfl (acons (ev 0) (acons ei anil))) ei (nomark _)) (bone (sret (eop op_mul (eop op_sub (ecall C__law_draw (hr.mono (by decide)) rfl (acons (ev 0) (acons (eop op_add (eop op_mul ei (epowc 1000000000)) ei) anil))) (epowc 1000000000)) (epowc 1000000000000000000000)))) bnil)
      (bone (sret (eop op_sub (ecall C__law_draw (hr.mono (by decide)) rfl (acons (ev 0) (acons ei anil))) ei)))), ?_⟩
  try walk_at "rn"
  refine ⟨p, _, _, _, 6, rfl, hp, by decide, by omega, fun way x y z H1 w0 w1 g1 k1 => ?_⟩
  try walk_at "rn"
  refine ite2 (fun c => ?_) (fun c => ?_)
  · refine ⟨p, _, _, _, 2000000001, rfl, g1, by decide, by omega, fun d x y z H2 d0 d1 g2 k2 => ?_⟩
    try walk_at "rn"
    exact ⟨by omega, q _ _ _ _ _ (by unfold nB; omega) g2 (k1.trans k2)⟩
  · refine ⟨p, _, _, _, 5, rfl, g1, by decide, by omega, fun d x y z H2 d0 d1 g2 k2 => ?_⟩
    try walk_at "rn"
    exact q _ _ _ _ _ (by unfold nB; omega) g2 (k1.trans k2)
def spActionW (K : PySem.W.Frag) : Sp := fun vs H Q _ => ∃ p x y z wide, vs = [.ref p, .bl wide] ∧ H p = some (L3 x y z) ∧
  ∀ (v : V) (t n : Half) (x y z : Int) (H' : Hp), Act K H' v t n → (wide = true → n = .gone) → t.bd → n.bd → H' p = some (L3 x y z) → Kp K p H H' → Q v H'
theorem sc__law_action : FnScope ["_law_well_here", "_law_wide", "_law_there", "_law_none"] ["_law_well_here", "_law_wide"] (defScope s__law_action) := ⟨rfl, rfl, rfl, by decide +kernel, rfl, by decide +kernel, by decide +kernel⟩
theorem ok__law_action {f : Addr} {fd : FuncData} (F : Fun K "_law_action" "_law_action" s__law_action f fd) (B : B K mg aG tE) (C__law_draw : Callee P w K mg base "_law_draw" 1 ["_law_well_here", "_law_many"] (spDraw K)) (C__law_number : Callee P w K mg base "_law_number" 2 ["_law_well_here"] (spNumber K)) : FnOk P w K mg base CX0 3 f fd ["_law_well_here", "_law_wide"] (spActionW K) := by
  refine F.okJ sc__law_action (fun vs H Q E h => ?_) (fun cdv A outer s H vs Q E hr h => ?_)
  · obtain ⟨p, x, y, z, wide, rfl, _⟩ := h
    rfl
  obtain ⟨p, x, y, z, wide, rfl, hp, q⟩ := h
  refine ⟨_, (bcons (sset (i := 2) sc__law_action.nd rfl (Or.inl rfl) (eix ix_Q (elstQ (acons (etupQ (acons estr (acons (ecall C__law_number (hr.mono (by decide)) rfl (acons (ev 0) anil)) anil))) (acons (etupQ (acons estr (acons (ecall C__law_number (hr.mono (by decide)) rfl (acons (ev 0) anil)) anil))) (acons (etupQ (acons estr anil)) anil)))) (eop op_fdivP (ecall C__law_draw (hr.mono (by decide)) rfl (acons (ev 0) (acons ei anil))) ei) (fun _ _ => rfl)))
      (bcons (sset (i := 3) sc__law_action.nd rfl (Or.inl rfl) (eix ix_Q (elstQ (acons (etupQ (acons estr anil)) (acons (etupQ (acons estr (acons (ecall C__law_number (hr.mono (by decide)) rfl (acons (ev 0) anil)) anil))) anil))) (eop op_mul (ecall C__law_draw (hr.mono (by decide)) rfl (acons (ev 0) (acons ei anil))) (ecallTy call_intB rfl B.int bt_int (acons (enot (ev 1)) anil))) (fun _ _ => rfl)))
      (bone (sret (etupQ (acons (ev 2) (acons (ev 3) anil))))))), ?_⟩
  try walk_at "rn"
  refine ⟨p, _, _, _, rfl, hp, fun n1 x y z H1 b1 g1 k1 => ?_⟩
  try walk_at "rn"
  intro p1 m1
  have y1 := Ext.new (K := K) (o := .tup [.str "plus", .int n1]) m1
  refine ⟨p, _, _, _, rfl, y1.at g1, fun n2 x y z H2 b2 g2 k2 => ?_⟩
  have t1 : tupQ K H2 p1 = some (Half.v (.plus n1)) := k2.tup (y1.at g1) tupQ_updT
  try walk_at "rn"
  intro p2 m2 p3 m3 p4 m4
  have y2 := Ext.new (K := K) (o := .tup [.str "is", .int n2]) m2
  have y3 := Ext.new (K := K) (o := .tup [.str "gone"]) m3
  have y4 := Ext.new (K := K) (o := .lst [.ref p1, .ref p2, .ref p3]) m4
  have t1' := (y2.trans (y3.trans y4)).tup t1
  have t2 := (y3.trans y4).tup (tupQ_updT (K := K) (H := H2) (a := p2) (xs := [.str "is", .int n2]))
  have t3 := y4.tup (tupQ_updT (K := K) (H := upd H2 p2 (.tup [.str "is", .int n2])) (a := p3) (xs := [.str "gone"]))
  have e4 : (upd (upd (upd H2 p2 (.tup [.str "is", .int n2])) p3 (.tup [.str "gone"])) p4 (.lst [.ref p1, .ref p2, .ref p3])) p4 = some (.lst [.ref p1, .ref p2, .ref p3]) := upd_same
  have y24 := y2.trans (y3.trans y4)
  have np4 : p4 ≠ p := (ne_of_none ((y2.trans y3).at g2) m4.1).symm
  generalize upd (upd (upd H2 p2 (.tup [.str "is", .int n2])) p3 (.tup [.str "gone"])) p4 (.lst [.ref p1, .ref p2, .ref p3]) = G at t1' t2 t3 e4 y24 ⊢
  have gG := y24.at g2
  have kG := k1.trans (y1.kp.trans (k2.trans y24.kp))
  refine ⟨p, _, _, _, 7, rfl, gG, by decide, by omega, fun d x y z H3 d0 d1 g3 k3 => ?_⟩
  have u1 := k3.tup gG t1'
  have u2 := k3.tup gG t2
  have u3 := k3.tup gG t3
  simp only [tSeq, tNext, tIfS, tAsg, gName, gSub, tRet, tRetN, tDrop, tVar, tC, tOp, tUn, rI0, rI, rU, tTest, tB, tAndV, tOrV, tNotV, tAnd, tOr, tNot, tIf, tChain, tCB, tCons, tNil, tLst, tTup, tCallC, List.getElem?_cons_zero, List.getElem?_cons_succ, List.set_cons_zero, List.set_cons_succ, Option.some.injEq, V.int.injEq, V.bl.injEq, V.ref.injEq, V.ty.injEq, V.str.injEq, List.cons.injEq, exists_eq_left', exists_eq_left, exists_and_left, and_true, true_and, and_assoc, cxK, rIxF, rSetL, rEq, rNe, scal, HO.lst.injEq, HO.tup.injEq, upd_none, ixN_10, ixN_20, ixN_21, ixN_30, ixN_31, ixN_32, upd_same, seqAt_updL, seqAt_updT, atI_0, atI_1, atI_2, atI_3, decide_eq_true_eq, L2.start, List.map_cons, List.map_nil, List.length_cons, List.length_nil, Nat.reduceAdd, Nat.reduceSub, List.replicate_succ, List.replicate_zero, List.cons_append, List.nil_append, List.append_nil, tFor_rng1, tFor_rng2, tFor_list, tFor_tup, CDv, CMul, CPow, sizeLine_eq, Int.reduceLE, Int.reduceLT, Int.reducePow, Int.reduceToNat, Int.reduceAdd, Int.reduceSub, Int.reduceMul, Int.reduceNeg, Nat.reduceLeDiff, Nat.reducePow, Nat.reduceLT, Int.reduceEq, true_or, or_true, ite_true, ite_false, if_true, if_false, Bool.not_true, Bool.not_false, Bool.false_eq_true, decide_true, decide_false, rIxQ, seqQ_updL, seqQ_updT, tupQ_updT, tSl, tNoPart, tPart, rSlQ, rCatQ, tTupQ, tLstQ, tNever, rEqD, rInQ, gTupQ, gCons, gNil, tBM, rAppend, rSlTQ, gSlice, tLc2_list, bodyL_tup, bodyL_list, bodyE_eq, tDGet, tLcD, tDGet2, sDPut, tFor_rng3, tLc_rng1, tLc_rng2, tLc_list, tLc_tup, tLc_enum, pick_nil, pick_own, pick_cap, join_some, tYes, tCallKC, gk_11, gk_31, tSortSet, tFor_zip, tAug, ipI, seqQ_lst (k3.keep p4 _ e4 np4)]
  obtain ⟨v1, hv1, mv1⟩ := atI_in (xs := [V.ref p1, V.ref p2, V.ref p3]) (k := d / 3) (by omega) (by show d / 3 < 3; omega)
  refine ⟨v1, hv1, ?_⟩
  obtain ⟨r1, h1, rfl, e1, bd1⟩ : ∃ (r1 : Addr) (h1 : Half), v1 = .ref r1 ∧ tupQ K H3 r1 = some h1.v ∧ h1.bd := by
    simp only [List.mem_cons, List.not_mem_nil, or_false] at mv1
    rcases mv1 with rfl | rfl | rfl
    · exact ⟨p1, .plus n1, rfl, u1, b1⟩
    · exact ⟨p2, .is n2, rfl, u2, b2⟩
    · exact ⟨p3, .gone, rfl, u3, trivial⟩
  intro p5 m5
  have y5 := Ext.new (K := K) (o := .tup [.str "gone"]) m5
  have t5 : tupQ K (upd H3 p5 (.tup [.str "gone"])) p5 = some (Half.v .gone) := tupQ_updT
  refine ⟨p, _, _, _, rfl, y5.at g3, fun n6 x y z H4 b6 g4 k4 => ?_⟩
  try walk_at "rn"
  intro p6 m6 p7 m7
  have y6 := Ext.new (K := K) (o := .tup [.str "is", .int n6]) m6
  have y7 := Ext.new (K := K) (o := .lst [.ref p5, .ref p6]) m7
  have t6 := y7.tup (tupQ_updT (K := K) (H := H4) (a := p6) (xs := [.str "is", .int n6]))
  have t5' := (y6.trans y7).tup (k4.tup (y5.at g3) t5)
  have e1' := (y6.trans y7).tup (k4.tup (y5.at g3) (y5.tup e1))
  have e7 : (upd (upd H4 p6 (.tup [.str "is", .int n6])) p7 (.lst [.ref p5, .ref p6])) p7 = some (.lst [.ref p5, .ref p6]) := upd_same
  have y67 := y6.trans y7
  have np7 : p7 ≠ p := (ne_of_none (y6.at g4) m7.1).symm
  generalize upd (upd H4 p6 (.tup [.str "is", .int n6])) p7 (.lst [.ref p5, .ref p6]) = G2 at t6 t5' e1' e7 y67 ⊢
  have gG2 := y67.at g4
  have kG2 := kG.trans (k3.trans (y5.kp.trans (k4.trans y67.kp)))
  refine ⟨p, _, _, _, 2, rfl, gG2, by decide, by omega, fun d' x y z H5 d0' d1' g5 k5 => ?_⟩
  simp only [tSeq, tNext, tIfS, tAsg, gName, gSub, tRet, tRetN, tDrop, tVar, tC, tOp, tUn, rI0, rI, rU, tTest, tB, tAndV, tOrV, tNotV, tAnd, tOr, tNot, tIf, tChain, tCB, tCons, tNil, tLst, tTup, tCallC, List.getElem?_cons_zero, List.getElem?_cons_succ, List.set_cons_zero, List.set_cons_succ, Option.some.injEq, V.int.injEq, V.bl.injEq, V.ref.injEq, V.ty.injEq, V.str.injEq, List.cons.injEq, exists_eq_left', exists_eq_left, exists_and_left, and_true, true_and, and_assoc, cxK, rIxF, rSetL, rEq, rNe, scal, HO.lst.injEq, HO.tup.injEq, upd_none, ixN_10, ixN_20, ixN_21, ixN_30, ixN_31, ixN_32, upd_same, seqAt_updL, seqAt_updT, atI_0, atI_1, atI_2, atI_3, decide_eq_true_eq, L2.start, List.map_cons, List.map_nil, List.length_cons, List.length_nil, Nat.reduceAdd, Nat.reduceSub, List.replicate_succ, List.replicate_zero, List.cons_append, List.nil_append, List.append_nil, tFor_rng1, tFor_rng2, tFor_list, tFor_tup, CDv, CMul, CPow, sizeLine_eq, Int.reduceLE, Int.reduceLT, Int.reducePow, Int.reduceToNat, Int.reduceAdd, Int.reduceSub, Int.reduceMul, Int.reduceNeg, Nat.reduceLeDiff, Nat.reducePow, Nat.reduceLT, Int.reduceEq, true_or, or_true, ite_true, ite_false, if_true, if_false, Bool.not_true, Bool.not_false, Bool.false_eq_true, decide_true, decide_false, rIxQ, seqQ_updL, seqQ_updT, tupQ_updT, tSl, tNoPart, tPart, rSlQ, rCatQ, tTupQ, tLstQ, tNever, rEqD, rInQ, gTupQ, gCons, gNil, tBM, rAppend, rSlTQ, gSlice, tLc2_list, bodyL_tup, bodyL_list, bodyE_eq, tDGet, tLcD, tDGet2, sDPut, tFor_rng3, tLc_rng1, tLc_rng2, tLc_list, tLc_tup, tLc_enum, pick_nil, pick_own, pick_cap, join_some, tYes, tCallKC, gk_11, gk_31, tSortSet, tFor_zip, tAug, ipI, seqQ_lst (k5.keep p7 _ e7 np7)]
  have f1 := k5.tup gG2 e1'
  have f5 := k5.tup gG2 t5'
  have f6 := k5.tup gG2 t6
  have kF := kG2.trans k5
  have fin : ∀ (r2 : Addr) (h2 : Half), tupQ K H5 r2 = some h2.v → h2.noPlus → (wide = true → h2 = .gone) → h2.bd → ∀ p8, new K H5 p8 → Q (.ref p8) (upd H5 p8 (.tup [.ref r1, .ref r2])) := fun r2 h2 e2 np h1' b2' p8 n8 =>
    q _ h1 h2 _ _ _ _ ⟨p8, r1, r2, rfl, tupQ_updT, (Ext.new n8).tup f1, (Ext.new n8).tup e2, np⟩ h1' bd1 b2' ((Ext.new n8).at g5) (kF.trans (Ext.new n8).kp)
  refine ⟨by omega, ?_⟩
  cases wide with
  | true => exact ⟨.ref p5, by rw [show (d' * if (!true) = true then 1 else 0) = 0 by simp]; rfl, fin p5 .gone f5 trivial (fun _ => rfl) trivial⟩
  | false =>
    have hd : d' = 0 ∨ d' = 1 := by omega
    rcases hd with rfl | rfl
    · exact ⟨.ref p5, rfl, fin p5 .gone f5 trivial (fun _ => rfl) trivial⟩
    · exact ⟨.ref p6, rfl, fin p6 (.is n6) f6 trivial (fun z => nomatch z) b6⟩
structure DrawnT (n0 : Int) (L : Tr) : Prop where
  up : (L.map (·.2)).Pairwise (fun a b => a.n < b.n)
  gt : ∀ q ∈ L, n0 < q.2.n
  le : ∀ q ∈ L, q.2.n ≤ n0 + 5 * L.length
  bt : ∀ q ∈ L, q.2.t.bd
  bm : ∀ q ∈ L, q.2.m.bd
def spTray (K : PySem.W.Frag) : Sp := fun vs H Q _ => ∃ (p : Addr) (x y z b n0 m : Int), vs = [.ref p, .int b, .int n0, .int m] ∧ H p = some (L3 x y z) ∧ 0 ≤ b ∧ b ≤ 999999999976 ∧ 0 ≤ n0 ∧ 0 ≤ m ∧ m ≤ 20 ∧
  ∀ (r : Addr) (L : Tr) (x y z : Int) (H' : Hp), H r = none → H' r = some (.lst (Tr.v L)) → TrayAt K H' L → (L.length : Int) = m → DrawnT n0 L → r ≠ p → H' p = some (L3 x y z) → Kp K p H H' → Q (.ref r) H'
theorem sc__law_tray : FnScope ["_law_well_here", "_law_base_here", "_law_number_here", "_law_many", "_law_found", "_law_k", "_law_low", "_law_high"] ["_law_well_here", "_law_base_here", "_law_number_here", "_law_many"] (defScope s__law_tray) := ⟨rfl, rfl, rfl, by decide +kernel, rfl, by decide +kernel, by decide +kernel⟩
theorem ok__law_tray {f : Addr} {fd : FuncData} (F : Fun K "_law_tray" "_law_tray" s__law_tray f fd) (B : B K mg aG tE) (C__law_draw : Callee P w K mg base "_law_draw" 1 ["_law_well_here", "_law_many"] (spDraw K)) (C__law_action : Callee P w K mg base "_law_action" 3 ["_law_well_here", "_law_wide"] (spActionW K)) : FnOk P w K mg base CX0 4 f fd ["_law_well_here", "_law_base_here", "_law_number_here", "_law_many"] (spTray K) := by
  refine F.okJ sc__law_tray (fun vs H Q E h => ?_) (fun cdv A outer s H vs Q E hr h => ?_)
  · obtain ⟨p, x, y, z, b, n0, m, rfl, _⟩ := h
    rfl
  obtain ⟨p, x, y, z, b, n0, m, rfl, hp, b0, b1, hn0, m0, m1, q⟩ := h
  refine ⟨_, (bcons (sset (i := 4) sc__law_tray.nd rfl (Or.inl rfl) (elstQ anil))
      (bcons (sfor PassesOwn.never rfl (irange1 rfl B.range (acons (ev 3) anil)) (gname (i := 5) sc__law_tray.nd rfl (Or.inl rfl))
        (bcons (sset (i := 2) sc__law_tray.nd rfl (Or.inl rfl) (eop op_add (eop op_add (ev 2) ei) (eix ix_Q (elstQ (acons ei (acons ei (acons (ecall C__law_draw (hr.mono (by decide)) rfl (acons (ev 0) (acons ei anil))) anil)))) (ecall C__law_draw (hr.mono (by decide)) rfl (acons (ev 0) (acons ei anil))) (fun _ _ => rfl))))
      (bcons (sset (i := 6) sc__law_tray.nd rfl (Or.inl rfl) (eop op_add (ev 1) (ecall C__law_draw (hr.mono (by decide)) rfl (acons (ev 0) (acons ei anil)))))
      (bcons (sset (i := 7) sc__law_tray.nd rfl (Or.inl rfl) (ecallB (call_min2 rfl) rfl B.min bt_min (acons (epowc 1000000000000) (acons (eop op_add (eop op_add (ev 6) ei) (eop op_mul (ecall C__law_draw (hr.mono (by decide)) rfl (acons (ev 0) (acons ei anil))) (ecall C__law_draw (hr.mono (by decide)) rfl (acons (ev 0) (acons ei anil))))) anil))))
      (bcut (sif (tcmp op_eq (ecall C__law_draw (hr.mono (by decide)) rfl (acons (ev 0) (acons ei anil))) ei (nomark _)) (bcons (sset (i := 6) sc__law_tray.nd rfl (Or.inl rfl) (ecallB (call_max2 rfl) rfl B.max bt_max (acons ei (acons (eop op_sub (ev 6) ei) anil))))
      (bone (sset (i := 7) sc__law_tray.nd rfl (Or.inl rfl) (ecallB (call_min2 rfl) rfl B.min bt_min (acons (epowc 1000000000000) (acons (eop op_add (ev 7) ei) anil)))))) bnil)
      (bone (sexpr (ebm PySem.F.plainAttrs_list PySem.F.slot_list_append PySem.F.type_list_append mt_append (ev 4) (acons (etupQ (acons (ev 2) (acons (ev 6) (acons (ev 7) (acons (ecall C__law_action (hr.mono (by decide)) rfl (acons (ev 0) (acons (ecmp op_gt (eop op_sub (ev 7) (ev 6)) ei (nomark _)) anil))) anil))))) anil)))))))))
      (bone (sret (ev 4))))), ?_⟩
  try walk_at "rn"
  intro D nD
  have y0 := Ext.new (K := K) (o := .lst []) nD
  have nDp : D ≠ p := (ne_of_none hp nD.1).symm
  refine ⟨by omega, by omega, ?_⟩
  obtain ⟨J, eJ⟩ : ∃ J : Nat → St → Hp → Prop, J = fun i σ' H' => ∃ (N : Int) (v5 v6 v7 : Option V) (L : Tr) (x y z : Int), σ' = [some (.ref p), some (.int b), some (.int N), some (.int m), some (.ref D), v5, v6, v7] ∧ H' D = some (.lst (Tr.v L)) ∧ TrayAt K H' L ∧ L.length = i ∧ DrawnT n0 L ∧ n0 ≤ N ∧ N ≤ n0 + 5 * L.length ∧ (∀ q ∈ L, q.2.n ≤ N) ∧ H' p = some (L3 x y z) ∧ Kp K p H H' := ⟨_, rfl⟩
  refine loop_range J ?_ ?_ ?_
  · rw [eJ]
    exact ⟨n0, _, _, _, [], _, _, _, rfl, upd_same, (fun q hq => nomatch hq), rfl, ⟨.nil, (fun q hq => nomatch hq), (fun q hq => nomatch hq), (fun q hq => nomatch hq), fun q hq => nomatch hq⟩, Int.le_refl _, by simp, (fun q hq => nomatch hq), y0.at hp, y0.kp⟩
  · intro i σ' H1 hi h
    rw [eJ] at h
    obtain ⟨N, v5, v6, v7, L, x, y, z, rfl, hD, hT, lL, dL, N0, N1, hN, g1, k1⟩ := h
    try walk_at "rn"
    refine ⟨p, _, _, _, 5, rfl, g1, by decide, by omega, fun d1 x y z H2 d10 d11 g2 k2 => ?_⟩
    intro e1 m1
    have y2 := Ext.new (K := K) (o := .lst [.int 0, .int 0, .int d1]) m1
    have ne1 : e1 ≠ p := (ne_of_none g2 m1.1).symm
    refine ⟨p, _, _, _, 3, rfl, y2.at g2, by decide, by omega, fun d2 x y z H3 d20 d21 g3 k3 => ?_⟩
    obtain ⟨v, ev, mv⟩ := atI_in (xs := [V.int 0, V.int 0, V.int d1]) d20 d21
    obtain ⟨dn, rfl, hd0, hd1⟩ : ∃ n : Int, v = .int n ∧ 0 ≤ n ∧ n ≤ 4 := by
      simp only [List.mem_cons, List.not_mem_nil, or_false] at mv
      rcases mv with rfl | rfl | rfl <;> exact ⟨_, rfl, by omega, by omega⟩
    refine ⟨_, rfl, _, seqQ_lst (k3.keep e1 _ upd_same ne1), _, ev, _, rfl, ?_⟩
    refine ⟨p, _, _, _, 24, rfl, g3, by decide, by omega, fun d3 x y z H4 d30 d31 g4 k4 => ⟨_, rfl, _, rfl, ?_⟩⟩
    refine ⟨p, _, _, _, 2, rfl, g4, by decide, by omega, fun d4 x y z H5 d40 d41 g5 k5 => ?_⟩
    refine ⟨p, _, _, _, 24, rfl, g5, by decide, by omega, fun d5 x y z H6 d50 d51 g6 k6 => ⟨_, rfl, _, rfl, by omega, ?_⟩⟩
    have k26 : Kp K p H1 H6 := k2.trans (y2.kp.trans (k3.trans (k4.trans (k5.trans k6))))
    have hD6 := k26.keep D _ hD nDp
    have hT6 := hT.kp k26 g1
    have k06 := k1.trans k26
    have hmul : 0 ≤ d4 * d5 ∧ d4 * d5 ≤ 23 := by
      have : d4 = 0 ∨ d4 = 1 := by omega
      rcases this with rfl | rfl <;> omega
    generalize d4 * d5 = dm at hmul ⊢
    obtain ⟨JC, eC⟩ : ∃ J : St → Hp → Prop, J = fun σ' H' => ∃ (lo hi x y z : Int), σ' = [some (.ref p), some (.int b), some (.int (N + 1 + dn)), some (.int m), some (.ref D), some (.int (0 + (i : Int))), some (.int lo), some (.int hi)] ∧ 0 ≤ lo ∧ lo < hi ∧ hi ≤ 1000000000000 ∧ H' D = some (.lst (Tr.v L)) ∧ TrayAt K H' L ∧ H' p = some (L3 x y z) ∧ Kp K p H H' := ⟨_, rfl⟩
    refine ⟨JC, ?_, ?_⟩
    · try walk_at "rn"
      refine ⟨p, _, _, _, 8, rfl, g6, by decide, by omega, fun d6 x y z H7 d60 d61 g7 k7 => ?_⟩
      have hD7 := k7.keep D _ hD6 nDp
      have hT7 := hT6.kp k7 g6
      try walk_at "rn"
      rw [eC]
      refine ite2 (fun c => ?_) (fun c => ?_)
      · refine ⟨_, _, _, _, _, rfl, ?_, ?_, ?_, hD7, hT7, g7, k06.trans k7⟩
        · split <;> omega
        · split <;> split <;> split <;> omega
        · split <;> omega
      · refine ⟨_, _, _, _, _, rfl, ?_, ?_, ?_, hD7, hT7, g7, k06.trans k7⟩
        · omega
        · split <;> omega
        · split <;> omega
    intro σ' H7 h
    rw [eC] at h
    clear eC
    obtain ⟨lo, hi, x, y, z, rfl, l0, lh, h1, hD7, hT7, g7, k7⟩ := h
    try walk_at "rn"
    refine ⟨.inl ⟨rfl, _, SqL.of hD7⟩, p, _, _, _, _, rfl, g7, fun v t n x y z H8 A8 hw bt bm g8 k8 => ?_⟩
    try walk_at "rn"
    intro T nT
    have y8 := Ext.new (K := K) (o := .tup [.int (N + 1 + dn), .int lo, .int hi, v]) nT
    have hD8 := y8.at (k8.keep D _ hD7 nDp)
    have kD : Kp K D _ (upd (upd H8 T (.tup [.int (N + 1 + dn), .int lo, .int hi, v])) D (.lst (Tr.v L ++ [.ref T]))) := Kp.upd hD8
    have np : n.noPlus := let ⟨_, _, _, _, _, _, _, h⟩ := A8; h
    refine ⟨_, hD8, by rw [Tr.v, List.length_map]; omega, ?_⟩
    rw [eJ]
    have both : ∀ {C : V × Nt → Prop}, (∀ r ∈ L, C r) → C (.ref T, ⟨N + 1 + dn, lo, hi, t, n⟩) → ∀ r ∈ L ++ [(V.ref T, (⟨N + 1 + dn, lo, hi, t, n⟩ : Nt))], C r := fun {C} h1 h2 r hr => by
      rcases List.mem_append.mp hr with e | e
      · exact h1 r e
      · have e : r = (.ref T, ⟨N + 1 + dn, lo, hi, t, n⟩) := by simpa using e
        rw [e]
        exact h2
    refine ⟨N + 1 + dn, _, _, _, L ++ [(.ref T, ⟨N + 1 + dn, lo, hi, t, n⟩)], x, y, z, rfl, by rw [upd_same]; simp [Tr.v], ?_, by rw [List.length_append, lL]; rfl, ⟨?_, both dL.gt (by show n0 < N + 1 + dn; omega), both (fun r hr => by have := dL.le r hr; rw [List.length_append]; simp; omega) (by show N + 1 + dn ≤ _; rw [List.length_append]; simp; omega), both dL.bt bt, both dL.bm bm⟩, by omega, by rw [List.length_append]; simp; omega, both (fun r hr => by have := hN r hr; omega) (Int.le_refl _), kD.keep p _ (y8.at g8) nDp.symm, ((k7.trans k8).trans y8.kp).thenNew nD.1 kD⟩
    · refine TrayAt.kp (TrayAt.app ((hT7.kp k8 g7).ext y8) fun q hq => ?_) kD hD8
      have eq : q = (.ref T, ⟨N + 1 + dn, lo, hi, t, n⟩) := by simpa using hq
      subst eq
      refine ⟨⟨T, v, rfl, tupQ_updT, A8.ext y8⟩, ⟨by show 1 ≤ N + 1 + dn; omega, l0, lh, h1, ?_, np⟩⟩
      by_cases c : hi - lo = 1
      · exact .inl c
      · exact .inr (hw (by simp; omega))
    · rw [List.map_append]
      refine List.pairwise_append.mpr ⟨dL.up, by simp, fun a ha b' hb' => ?_⟩
      obtain ⟨r, hr, rfl⟩ := List.mem_map.mp ha
      have e : b' = ⟨N + 1 + dn, lo, hi, t, n⟩ := by simpa using hb'
      rw [e]
      have := hN r hr
      show r.2.n < N + 1 + dn
      omega
  · intro σ' H1 h
    rw [eJ] at h
    obtain ⟨N, v5, v6, v7, L, x, y, z, rfl, hD, hT, lL, dL, N0, N1, hN, g1, k1⟩ := h
    try walk_at "rn"
    exact q D L x y z H1 nD.1 hD hT (by omega) dL nDp g1 k1
structure Canon (F : Int → List (Int × Option Int)) (R : Tab) : Prop where
  up : (R.map (·.1)).Pairwise (· < ·)
  row : ∀ r ∈ R, r.2 = F r.1 ∧ r.2 ≠ []
  all : ∀ k, F k ≠ [] → k ∈ R.map (·.1)
theorem Canon.list {F : Int → List (Int × Option Int)} {R : Tab} (h : Canon F R) : R = (R.map (·.1)).map fun k => (k, F k) := by
  rw [List.map_map]
  conv => lhs; rw [← List.map_id R]
  refine List.map_congr_left fun r hr => ?_
  show r = (r.1, F r.1)
  rw [← (h.row r hr).1]
theorem Canon.same {F : Int → List (Int × Option Int)} {R R' : Tab} (h : Canon F R) (h' : Canon F R') : R = R' := by
  have e : R.map (·.1) = R'.map (·.1) := up_same h.up h'.up fun k => by
    have go : ∀ {A B : Tab}, Canon F A → Canon F B → k ∈ A.map (·.1) → k ∈ B.map (·.1) := fun {A B} a b m => by
      obtain ⟨r, hr, rfl⟩ := List.mem_map.mp m
      have := a.row r hr
      exact b.all r.1 (by rw [← this.1]; exact this.2)
    exact ⟨go h h', go h' h⟩
  rw [h.list, h'.list, e]
theorem Canon.at_ {F : Int → List (Int × Option Int)} {R : Tab} (h : Canon F R) (k : Int) : rowOf R k = F k := by
  by_cases c : k ∈ R.map (·.1)
  · obtain ⟨r, hr, rfl⟩ := List.mem_map.mp c
    rw [rowOf_row h.up r hr]
    exact (h.row r hr).1
  · rw [rowOf_none c]
    by_cases z : F k = []
    · exact z.symm
    · exact absurd (h.all k z) c
theorem Canon.congr {F G : Int → List (Int × Option Int)} {R : Tab} (h : Canon F R) (e : ∀ k, F k = G k) : Canon G R := ⟨h.up, fun r hr => ⟨by rw [← e]; exact (h.row r hr).1, (h.row r hr).2⟩, fun k hk => h.all k (by rw [e]; exact hk)⟩
theorem canon_filter {F : Int → List (Int × Option Int)} {ks : List Int} (up : ks.Pairwise (· < ·)) (all : ∀ k, F k ≠ [] → k ∈ ks) : Canon F ((ks.map fun k => (k, F k)).filter fun r => !r.2.isEmpty) := by
  have e : (ks.map fun k => (k, F k)).filter (fun r => !r.2.isEmpty) = (ks.filter fun k => !(F k).isEmpty).map fun k => (k, F k) := by
    rw [List.filter_map]
    rfl
  rw [e]
  refine ⟨?_, fun r hr => ?_, fun k hk => ?_⟩
  · rw [List.map_map]
    have : ((fun x : Int × List (Int × Option Int) => x.1) ∘ fun k => (k, F k)) = fun k => k := rfl
    rw [this, List.map_id']
    exact up.filter _
  · obtain ⟨k, hk, rfl⟩ := List.mem_map.mp hr
    exact ⟨rfl, by simpa using (List.mem_filter.mp hk).2⟩
  · rw [List.map_map]
    refine List.mem_map.mpr ⟨k, List.mem_filter.mpr ⟨all k hk, by simpa using hk⟩, rfl⟩
def seesF (rows : Tab) (ns : List Nt) (ms : List Int) (k : Int) : List (Option Int) := (ms.map some ++ [none]).map fun at_ => seeA ns k at_ (valF at_ none (rowOf rows k))
def behF (rows : Tab) (ns : List Nt) (ms : List Int) (k : Int) : List (Int × Option Int) := sweepT ms (seesF rows ns ms k)
theorem seeA_filter (ns : List Nt) (k : Int) (at_ v : Option Int) : (ns.filter fun e => e.has k && okAt at_ e.n).foldl (fun v e => actF e.t e.m v) v = seeA ns k at_ v := by
  unfold seeA
  induction ns generalizing v with
  | nil => rfl
  | cons e ns ih =>
    rw [List.foldl_cons]
    unfold stepA
    by_cases c : (e.has k && okAt at_ e.n) = true
    · rw [if_pos c, List.filter_cons_of_pos (p := fun e : Nt => e.has k && okAt at_ e.n) c, List.foldl_cons, ih]
      rfl
    · rw [if_neg c, List.filter_cons_of_neg (p := fun e : Nt => e.has k && okAt at_ e.n) c, ih]
      rfl
theorem sees_views {rows : Tab} {ns : List Nt} (up : (rows.map (·.1)).Pairwise (· < ·)) (hr : rowsIn rows ns) (ht : trayIn ns) (ln : ns.length ≤ 64) (ms : List Int) (k : Int) : viewsF (rowOf (ns.foldl noteT rows) k) ms = seesF rows ns ms k := by
  have h := (behind_row up hr ht ln k).2.2
  unfold viewsF seesF
  rw [List.map_append, List.map_map]
  congr 1
  · refine List.map_congr_left fun m _ => ?_
    show valF (some m) none _ = seeA ns k (some m) _
    rw [h, seeA_filter]
  · show [valF none none _] = [seeA ns k none _]
    rw [h, seeA_filter]
theorem beh_canon {rows : Tab} {ns : List Nt} (up : (rows.map (·.1)).Pairwise (· < ·)) (hr : rowsIn rows ns) (ht : trayIn ns) (ln : ns.length ≤ 64) (ms : List Int) {ks : List Int} (u1 : ks.Pairwise (· < ·)) (m1 : ∀ k, k ∈ ks ↔ k ∈ (ns.foldl noteT rows).map (·.1)) :
    Canon (behF rows ns ms) (sweptF ms (ks.map fun k => (k, rowOf (ns.foldl noteT rows) k))) := by
  have e : sweptF ms (ks.map fun k => (k, rowOf (ns.foldl noteT rows) k)) = (ks.map fun k => (k, behF rows ns ms k)).filter (fun r => !r.2.isEmpty) := by
    unfold sweptF
    rw [List.map_map]
    congr 1
    refine List.map_congr_left fun k _ => ?_
    show (k, sweepT ms (viewsF (rowOf (ns.foldl noteT rows) k) ms)) = _
    rw [sees_views up hr ht ln]
    rfl
  rw [e]
  refine canon_filter u1 fun k hk => ?_
  rw [m1]
  refine rowOf_ne fun z => hk ?_
  unfold behF
  rw [← sees_views up hr ht ln, z, sweep_nil]
theorem swept_canon {rows : Tab} (up : (rows.map (·.1)).Pairwise (· < ·)) (ms : List Int) : Canon (behF rows [] ms) (sweptF ms rows) := by
  have sv : ∀ k, viewsF (rowOf rows k) ms = seesF rows [] ms k := fun k => by
    unfold viewsF seesF
    rw [List.map_append, List.map_map]
    rfl
  have e : rows = (rows.map (·.1)).map fun k => (k, rowOf rows k) := by
    rw [List.map_map]
    conv => lhs; rw [← List.map_id rows]
    refine List.map_congr_left fun r hr => ?_
    show r = (r.1, rowOf rows r.1)
    rw [rowOf_row up r hr]
  have e2 : sweptF ms rows = ((rows.map (·.1)).map fun k => (k, behF rows [] ms k)).filter (fun r => !r.2.isEmpty) := by
    conv => lhs; rw [e]
    unfold sweptF
    rw [List.map_map]
    congr 1
    refine List.map_congr_left fun k _ => ?_
    show (k, sweepT ms (viewsF (rowOf rows k) ms)) = _
    rw [sv]
    rfl
  rw [e2]
  refine canon_filter up fun k hk => ?_
  refine rowOf_ne fun z => hk ?_
  unfold behF
  rw [← sv, z, sweep_nil]
theorem sweepT_at {ms : List Int} (up : ms.Pairwise (· < ·)) (h0 : ∀ m ∈ ms, 0 ≤ m) {f : Option Int → Option Int} {at_ : Option Int} (hat : at_ = none ∨ ∃ m ∈ ms, at_ = some m) : valF at_ none (sweepT ms ((ms.map some ++ [none]).map f)) = f at_ := by
  have hl : ((ms.map some ++ [none]).map f).length = ms.length + 1 := by simp
  rcases hat with rfl | ⟨m, hm, rfl⟩
  · unfold sweepT
    rw [byT_valAt (ms.length + 1) _ fun k hk => by simp [okAt]; omega, show min (ms.length + 1) (ms.length + 1 + 1) = ms.length + 1 by omega]
    show ((ms.map some ++ [none]).map f).getD ms.length none = _
    rw [List.getD_eq_getElem?_getD, List.getElem?_map, List.getElem?_append_right (by simp)]
    simp
  · obtain ⟨j, hj, rfl⟩ := List.mem_iff_getElem.mp hm
    unfold sweepT
    rw [byT_valAt j _ fun k hk => nsF_at up h0 hj hk, show min (ms.length + 1) (j + 1) = j + 1 by omega]
    show ((ms.map some ++ [none]).map f).getD j none = _
    rw [List.getD_eq_getElem?_getD, List.getElem?_map, List.getElem?_append_left (by simpa using hj), List.getElem?_map, List.getElem?_eq_getElem hj]
    rfl
theorem beh_beh {rows R : Tab} {ns ns' : List Nt} {ms : List Int} (um : ms.Pairwise (· < ·)) (h0 : ∀ m ∈ ms, 0 ≤ m) (c : Canon (behF rows ns ms) R) (k : Int) : behF R ns' ms k = behF rows (ns ++ ns') ms k := by
  unfold behF
  congr 1
  unfold seesF
  refine List.map_congr_left fun at_ hat => ?_
  have ha : at_ = none ∨ ∃ m ∈ ms, at_ = some m := by
    rcases List.mem_append.mp hat with z | z
    · obtain ⟨m, hm, rfl⟩ := List.mem_map.mp z
      exact .inr ⟨m, hm, rfl⟩
    · exact .inl (by simpa using z)
  rw [c.at_ k]
  show seeA ns' k at_ (valF at_ none (sweepT ms ((ms.map some ++ [none]).map fun at_ => seeA ns k at_ (valF at_ none (rowOf rows k))))) = _
  rw [sweepT_at um h0 ha]
  unfold seeA
  rw [List.foldl_append]
theorem sweep_low {ms : List Int} (up : ms.Pairwise (· < ·)) {ws : List (Int × Option Int)} {p' : Int × Option Int} (h : p' ∈ sweepT ms (viewsF ws ms)) : p'.1 = 0 ∨ ∃ p ∈ ws, p'.1 ≤ p.1 := by
  have key : ∀ n, p' ∈ byT (nsF ms) (viewsF ws ms) n → ∃ j, j < n ∧ p'.1 = (nsF ms).getD j 0 ∧ (viewsF ws ms).getD j none ≠ pv (viewsF ws ms) j := by
    intro n
    induction n with
    | zero => intro h; exact nomatch h
    | succ n ih =>
      intro h
      unfold byT at h
      rcases List.mem_append.mp h with z | z
      · obtain ⟨j, hj, r⟩ := ih z
        exact ⟨j, by omega, r⟩
      · by_cases c : (viewsF ws ms).getD n none = pv (viewsF ws ms) n
        · rw [if_pos c] at z; exact nomatch z
        · rw [if_neg c] at z
          have e : p' = ((nsF ms).getD n 0, (viewsF ws ms).getD n none) := by simpa using z
          exact ⟨n, by omega, by rw [e], c⟩
  obtain ⟨j, hj, e1, ne⟩ := key _ h
  cases j with
  | zero => exact .inl e1
  | succ j =>
    right
    have hj' : j < ms.length := by omega
    have en : (nsF ms).getD (j + 1) 0 = ms[j] + 1 := by
      unfold nsF
      rw [List.getD_cons_succ, List.getD_eq_getElem?_getD, List.getElem?_map, List.getElem?_eq_getElem hj']
      rfl
    rw [e1, en]
    by_cases c : ∃ p ∈ ws, ms[j] + 1 ≤ p.1
    · exact c
    · exfalso
      apply ne
      have low : ∀ p ∈ ws, p.1 ≤ ms[j] := fun p hp => by
        have : ¬ ms[j] + 1 ≤ p.1 := fun z => c ⟨p, hp, z⟩
        omega
      have v1 : ∀ i (hi : i < ms.length), j ≤ i → (viewsF ws ms).getD i none = valF none none ws := fun i hi ij => by
        unfold viewsF
        rw [List.getD_eq_getElem?_getD, List.getElem?_append_left (by simpa using hi), List.getElem?_map, List.getElem?_eq_getElem hi]
        show valF (some ms[i]) none ws = _
        refine valF_some_none fun p hp => ?_
        have h1 := low p hp
        by_cases q : j = i
        · subst q; exact h1
        · have := List.pairwise_iff_getElem.mp up j i hj' hi (by omega)
          omega
      have v2 : (viewsF ws ms).getD ms.length none = valF none none ws := by
        unfold viewsF
        rw [List.getD_eq_getElem?_getD, List.getElem?_append_right (by simp)]
        simp
      show (viewsF ws ms).getD (j + 1) none = (viewsF ws ms).getD j none
      rw [v1 j hj' (Nat.le_refl _)]
      by_cases q : j + 1 < ms.length
      · exact v1 (j + 1) q (by omega)
      · rw [show j + 1 = ms.length by omega]
        exact v2
theorem notes_mem (k : Int) : ∀ (ns : List Nt) {ws : List (Int × Option Int)} {p : Int × Option Int}, p ∈ (ns.filter fun e => e.has k).foldl (fun ws e => stepK e ws) ws → p ∈ ws ∨ ∃ e ∈ ns, e.has k = true ∧ p.1 = e.n
  | [], ws, p, h => .inl h
  | e :: ns, ws, p, h => by
    by_cases c : e.has k = true
    · rw [List.filter_cons_of_pos (p := fun e : Nt => e.has k) c, List.foldl_cons] at h
      rcases notes_mem k ns h with z | ⟨e', h1, h2⟩
      · rcases stepK_mem z with z | z
        · exact .inl z
        · exact .inr ⟨e, by simp, c, z⟩
      · exact .inr ⟨e', List.mem_cons_of_mem _ h1, h2⟩
    · rw [List.filter_cons_of_neg (p := fun e : Nt => e.has k) c] at h
      rcases notes_mem k ns h with z | ⟨e', h1, h2⟩
      · exact .inl z
      · exact .inr ⟨e', List.mem_cons_of_mem _ h1, h2⟩
theorem rowsIn.next {rows R : Tab} {ns ns' : List Nt} {ms : List Int} (up : (rows.map (·.1)).Pairwise (· < ·)) (um : ms.Pairwise (· < ·)) (h0 : ∀ m ∈ ms, 0 ≤ m) (lm : ms.length ≤ 90) (hr : rowsIn rows (ns ++ ns')) (ht : trayIn (ns ++ ns')) (ln : ns.length ≤ 64) (c : Canon (behF rows ns ms) R) : rowsIn R ns' := fun r hr' => by
  have hrow := (c.row r hr').1
  have htn : trayIn ns := ⟨fun e he => ht.1 e (List.mem_append_left _ he), (List.pairwise_append.mp ht.2).1⟩
  have hrn : rowsIn rows ns := hr.sub fun e he => List.mem_append_left _ he
  have ev : r.2 = sweepT ms (viewsF (rowOf (ns.foldl noteT rows) r.1) ms) := by
    rw [sees_views up hrn htn ln]
    exact hrow
  refine ⟨by rw [ev]; exact sweepT_rising um h0 _, ?_, fun p' hp' e he hk => ?_⟩
  · rw [ev]
    have := byT_len (nsF ms) (viewsF (rowOf (ns.foldl noteT rows) r.1) ms) (ms.length + 1)
    show (byT (nsF ms) (viewsF (rowOf (ns.foldl noteT rows) r.1) ms) (ms.length + 1)).length ≤ 100
    omega
  · rw [ev] at hp'
    have oke := ht.1 e (List.mem_append_right _ he)
    rcases sweep_low um hp' with z | ⟨p, hp, le⟩
    · have := oke.n1
      omega
    · rw [notes_row r.1 ns htn.1 (up_nodup up)] at hp
      rcases notes_mem r.1 ns hp with z | ⟨e1, h1, h2, h3⟩
      · by_cases m : r.1 ∈ rows.map (·.1)
        · obtain ⟨r0, hr0, er⟩ := List.mem_map.mp m
          rw [← er, rowOf_row up r0 hr0] at z
          have := (hr r0 hr0).2.2 p z e (List.mem_append_right _ he) (by rw [er]; exact hk)
          omega
        · rw [rowOf_none m] at z
          exact nomatch z
      · have := (List.pairwise_append.mp ht.2).2.2 e1 h1 e he ⟨r.1, h2, hk⟩
        omega
theorem trayIn.right {ns ns' : List Nt} (h : trayIn (ns ++ ns')) : trayIn ns' := ⟨fun e he => h.1 e (List.mem_append_right _ he), (List.pairwise_append.mp h.2).2.1⟩
theorem trayIn.left {ns ns' : List Nt} (h : trayIn (ns ++ ns')) : trayIn ns := ⟨fun e he => h.1 e (List.mem_append_left _ he), (List.pairwise_append.mp h.2).1⟩
theorem cut_has {e e' : Nt} {lo hi : Int} (h : cutO e lo hi = some e') (k : Int) : e'.has k = (e.has k && decide (lo ≤ k ∧ k < hi)) ∧ e'.n = e.n ∧ e'.t = e.t ∧ e'.m = e.m := by
  unfold cutO at h
  split at h
  · cases h
    refine ⟨?_, rfl, rfl, rfl⟩
    unfold Nt.has Nt.cut mx mn
    dsimp only
    by_cases c1 : e.lo ≤ k ∧ k < e.hi <;> by_cases c2 : lo ≤ k ∧ k < hi <;> simp only [c1, c2, decide_true, decide_false, Bool.and_true, Bool.and_false, decide_eq_true_eq, decide_eq_false_iff_not] <;> (try split) <;> (try split) <;> first | omega | (constructor <;> omega) | skip
    all_goals simp
    all_goals omega
  · cases h
theorem cut_none {e : Nt} {lo hi k : Int} (h : cutO e lo hi = none) (hk : lo ≤ k ∧ k < hi) : e.has k = false := by
  unfold cutO at h
  split at h
  · cases h
  · next c =>
    unfold Nt.has
    rw [decide_eq_false]
    unfold mx mn at c
    split at c <;> split at c <;> omega
theorem in_cons (e : Nt) (ns : List Nt) (lo hi : Int) : inF (e :: ns) lo hi = (cutO e lo hi).toList ++ inF ns lo hi := by
  unfold inF
  rw [List.map_cons, List.filterMap_cons]
  cases cutO e lo hi <;> rfl
theorem in_see {lo hi k : Int} (hk : lo ≤ k ∧ k < hi) (at_ : Option Int) : ∀ (ns : List Nt) (v : Option Int), seeA (inF ns lo hi) k at_ v = seeA ns k at_ v
  | [], v => rfl
  | e :: ns, v => by
    rw [in_cons]
    unfold seeA
    rw [List.foldl_append, List.foldl_cons]
    have ih := fun v => in_see hk at_ ns v
    unfold seeA at ih
    cases c : cutO e lo hi with
    | none =>
      have h := cut_none c hk
      rw [ih]
      congr 1
      unfold stepA
      rw [h]
      rfl
    | some e' =>
      obtain ⟨h1, h2, h3, h4⟩ := cut_has c k
      rw [ih]
      congr 1
      show stepA k at_ v e' = stepA k at_ v e
      unfold stepA
      rw [h1, h2, h3, h4, decide_eq_true hk, Bool.and_true]
theorem in_mem {ns : List Nt} {lo hi : Int} {e' : Nt} (h : e' ∈ inF ns lo hi) : ∃ e ∈ ns, cutO e lo hi = some e' := by
  unfold inF at h
  obtain ⟨o, ho, e⟩ := List.mem_filterMap.mp h
  obtain ⟨e0, h0, rfl⟩ := List.mem_map.mp ho
  exact ⟨e0, h0, e⟩
theorem seeA_no {ns : List Nt} {k : Int} (h : ∀ e ∈ ns, e.has k = false) (at_ v : Option Int) : seeA ns k at_ v = v := by
  unfold seeA
  induction ns with
  | nil => rfl
  | cons e ns ih =>
    rw [List.foldl_cons]
    have : stepA k at_ v e = v := by
      unfold stepA
      rw [h e (by simp)]
      rfl
    rw [this]
    exact ih fun q hq => h q (List.mem_cons_of_mem _ hq)
theorem in_no {ns : List Nt} {lo hi k : Int} (hk : ¬ (lo ≤ k ∧ k < hi)) (at_ v : Option Int) : seeA (inF ns lo hi) k at_ v = v := seeA_no (fun e' he => by
  obtain ⟨e, _, c⟩ := in_mem he
  rw [(cut_has c k).1, decide_eq_false hk, Bool.and_false]) at_ v
theorem out_eq (ns : List Nt) (key : Int) : outF ns 0 key = inF ns key 1000000000000 := by
  have z : ∀ e : Nt, cutO e 0 0 = none := fun e => by
    unfold cutO
    rw [if_neg]
    unfold mx mn
    split <;> split <;> omega
  induction ns with
  | nil => rfl
  | cons e ns ih =>
    rw [in_cons, ← ih]
    unfold outF
    rw [List.flatMap_cons, List.filterMap_append, z e]
    cases cutO e key 1000000000000 <;> rfl
theorem in_tray {ns : List Nt} {lo hi : Int} (h : trayIn ns) : trayIn (inF ns lo hi) := by
  refine ⟨fun e' he => ?_, ?_⟩
  · obtain ⟨e, he0, c⟩ := in_mem he
    unfold cutO at c
    split at c
    · next cc =>
      cases c
      exact Nt.cut_ok (h.1 e he0) cc
    · cases c
  · have h2 := h.2
    clear h
    induction ns with
    | nil => exact .nil
    | cons e ns ih =>
      have u := List.pairwise_cons.mp h2
      rw [in_cons]
      refine List.pairwise_append.mpr ⟨?_, ih u.2, fun a ha b hb => ?_⟩
      · cases cutO e lo hi <;> simp
      · rintro ⟨k, h1, h3⟩
        obtain ⟨e2, he2, c2⟩ := in_mem hb
        have c1 : cutO e lo hi = some a := by
          cases c : cutO e lo hi with
          | none => rw [c] at ha; exact nomatch ha
          | some x => rw [c] at ha; have : a = x := by simpa using ha
                      rw [this]
        have q1 := cut_has c1 k
        have q2 := cut_has c2 k
        rw [q1.1] at h1
        rw [q2.1] at h3
        simp only [Bool.and_eq_true] at h1 h3
        rw [q1.2.1, q2.2.1]
        exact u.1 e2 he2 ⟨k, h1.1, h3.1⟩
theorem in_rows {rows : Tab} {ns : List Nt} {lo hi : Int} {p : Int × List (Int × Option Int) → Bool} (h : rowsIn rows ns) : rowsIn (rows.filter p) (inF ns lo hi) := fun r hr => by
  obtain ⟨h1, h2, h3⟩ := h r (List.mem_filter.mp hr).1
  refine ⟨h1, h2, fun q hq e' he' hk => ?_⟩
  obtain ⟨e, he, c⟩ := in_mem he'
  have := cut_has c r.1
  rw [this.1] at hk
  simp only [Bool.and_eq_true] at hk
  rw [this.2.1]
  exact h3 q hq e he hk.1
theorem rowOf_filter {f : Int → Bool} (k : Int) : ∀ (rows : Tab), rowOf (rows.filter fun r => f r.1) k = if f k = true then rowOf rows k else []
  | [] => by simp [rowOf_nil]
  | r :: rows => by
    have ih := rowOf_filter (f := f) k rows
    by_cases c : f r.1 = true
    · rw [List.filter_cons_of_pos (p := fun r : Int × List (Int × Option Int) => f r.1) c]
      by_cases d : r.1 = k
      · rw [rowOf_pos d, rowOf_pos d, if_pos (by rw [← d]; exact c)]
      · rw [rowOf_neg d, rowOf_neg d, ih]
    · rw [List.filter_cons_of_neg (p := fun r : Int × List (Int × Option Int) => f r.1) c, ih]
      by_cases d : f k = true
      · rw [if_pos d, if_pos d, rowOf_neg (fun z => c (by rw [z]; exact d))]
      · rw [if_neg d, if_neg d]
theorem sweep_nones {ms : List Int} {ws : List (Option Int)} (h : ∀ o ∈ ws, o = none) : sweepT ms ws = [] := byT_nil h _
theorem cut_below {rows : Tab} {ns : List Nt} (oks : ∀ e ∈ ns, e.ok) (ms : List Int) (key k : Int) : behF (rows.filter fun r => decide (r.1 < key)) (inF ns 0 key) ms k = if k < key then behF rows ns ms k else [] := by
  unfold behF
  by_cases c : k < key
  · rw [if_pos c]
    congr 1
    unfold seesF
    refine List.map_congr_left fun at_ _ => ?_
    rw [rowOf_filter (f := fun x => decide (x < key)) k rows, if_pos (by simpa using c)]
    by_cases z : 0 ≤ k
    · exact in_see ⟨z, c⟩ at_ ns _
    · rw [in_no (fun q => z q.1), seeA_no fun e he => ?_]
      have := (oks e he).lo0
      unfold Nt.has
      rw [decide_eq_false]
      omega
  · rw [if_neg c]
    refine sweep_nones fun o ho => ?_
    obtain ⟨at_, _, rfl⟩ := List.mem_map.mp ho
    rw [in_no (fun q => c q.2), rowOf_filter (f := fun x => decide (x < key)) k rows, if_neg (by simpa using c)]
    rfl
theorem cut_above {rows : Tab} {ns : List Nt} (oks : ∀ e ∈ ns, e.ok) (ms : List Int) (key k : Int) : behF (rows.filter fun r => decide (key ≤ r.1)) (inF ns key 1000000000000) ms k = if k < key then [] else behF rows ns ms k := by
  unfold behF
  by_cases c : k < key
  · rw [if_pos c]
    refine sweep_nones fun o ho => ?_
    obtain ⟨at_, _, rfl⟩ := List.mem_map.mp ho
    rw [in_no (fun q => by omega), rowOf_filter (f := fun x => decide (key ≤ x)) k rows, if_neg (by simpa using c)]
    rfl
  · rw [if_neg c]
    congr 1
    unfold seesF
    refine List.map_congr_left fun at_ _ => ?_
    rw [rowOf_filter (f := fun x => decide (key ≤ x)) k rows, if_pos (by simp; omega)]
    by_cases z : k < 1000000000000
    · exact in_see ⟨by omega, z⟩ at_ ns _
    · rw [in_no (fun q => z q.2), seeA_no fun e he => ?_]
      have := (oks e he).hi1
      unfold Nt.has
      rw [decide_eq_false]
      omega
theorem canon_cut {F : Int → List (Int × Option Int)} {A B : Tab} {key : Int} (a : Canon (fun k => if k < key then F k else []) A) (b : Canon (fun k => if k < key then [] else F k) B) : Canon F (A ++ B) := by
  have la : ∀ r ∈ A, r.1 < key ∧ r.2 = F r.1 := fun r hr => by
    have := a.row r hr
    by_cases c : r.1 < key
    · rw [if_pos c] at this; exact ⟨c, this.1⟩
    · rw [if_neg c] at this; exact absurd this.1 this.2
  have lb : ∀ r ∈ B, ¬ r.1 < key ∧ r.2 = F r.1 := fun r hr => by
    have := b.row r hr
    by_cases c : r.1 < key
    · rw [if_pos c] at this; exact absurd this.1 this.2
    · rw [if_neg c] at this; exact ⟨c, this.1⟩
  refine ⟨?_, fun r hr => ?_, fun k hk => ?_⟩
  · rw [List.map_append]
    refine List.pairwise_append.mpr ⟨a.up, b.up, fun x hx y hy => ?_⟩
    obtain ⟨r, hr, rfl⟩ := List.mem_map.mp hx
    obtain ⟨r', hr', rfl⟩ := List.mem_map.mp hy
    have := (la r hr).1
    have := (lb r' hr').1
    omega
  · rcases List.mem_append.mp hr with z | z
    · exact ⟨(la r z).2, (a.row r z).2⟩
    · exact ⟨(lb r z).2, (b.row r z).2⟩
  · rw [List.map_append, List.mem_append]
    by_cases c : k < key
    · exact .inl (a.all k (by rw [if_pos c]; exact hk))
    · exact .inr (b.all k (by rw [if_neg c]; exact hk))
structure LaidIn (ns T : List Nt) (ms : List Int) : Prop where
  up : T.Pairwise fun a b => a.n < b.n
  oks : ∀ q ∈ T, q.ok
  of : ∀ q ∈ T, ∃ e ∈ ns, q.n = e.n ∧ q.lo = e.lo ∧ q.hi = e.hi
  see : ∀ k at_ v, (at_ = none ∨ ∃ m ∈ ms, at_ = some m) → seeA T k at_ v = seeA ns k at_ v
  len : T.length ≤ ns.length
theorem LaidIn.next {ns T : List Nt} {ms : List Int} {e : Nt} (h : LaidIn ns T ms) (ok : e.ok) (gt : ∀ q ∈ ns, q.n < e.n) : LaidIn (ns ++ [e]) (laidN T e ms) ms := by
  have lt : ∀ q ∈ T, q.n < e.n := fun q hq => by
    obtain ⟨e', he', h1, _⟩ := h.of q hq
    rw [h1]
    exact gt e' he'
  have of' : ∀ q ∈ T, ∃ e0 ∈ ns ++ [e], q.n = e0.n ∧ q.lo = e0.lo ∧ q.hi = e0.hi := fun q hq => by
    obtain ⟨e', he', r⟩ := h.of q hq
    exact ⟨e', List.mem_append_left _ he', r⟩
  have snoc : ∀ {A : List Nt} {x : Nt}, A.Sublist T → x.n = e.n → x.ok → (x.lo = e.lo ∧ x.hi = e.hi) → (A ++ [x]).Pairwise (fun a b => a.n < b.n) ∧ (∀ q ∈ A ++ [x], q.ok) ∧ ∀ q ∈ A ++ [x], ∃ e0 ∈ ns ++ [e], q.n = e0.n ∧ q.lo = e0.lo ∧ q.hi = e0.hi := fun {A x} sb xn xo xe => by
    refine ⟨List.pairwise_append.mpr ⟨h.up.sublist sb, by simp, fun a ha b hb => ?_⟩, fun q hq => ?_, fun q hq => ?_⟩
    · have : b = x := by simpa using hb
      rw [this, xn]
      exact lt a (sb.subset ha)
    · rcases List.mem_append.mp hq with z | z
      · exact h.oks q (sb.subset z)
      · have : q = x := by simpa using z
        rw [this]
        exact xo
    · rcases List.mem_append.mp hq with z | z
      · exact of' q (sb.subset z)
      · have : q = x := by simpa using z
        rw [this]
        exact ⟨e, by simp, xn, xe.1, xe.2⟩
  have see : ∀ k at_ v, (at_ = none ∨ ∃ m ∈ ms, at_ = some m) → seeA (laidN T e ms) k at_ v = seeA (ns ++ [e]) k at_ v := fun k at_ v ha => by
    rw [see_laid h.oks ok (fun q hq => Int.le_of_lt (lt q hq)) ha k v]
    unfold seeA
    rw [List.foldl_append, List.foldl_append]
    have := h.see k at_ v ha
    unfold seeA at this
    rw [this]
  have base : (T ++ [e]).Pairwise (fun a b => a.n < b.n) ∧ (∀ q ∈ T ++ [e], q.ok) ∧ ∀ q ∈ T ++ [e], ∃ e0 ∈ ns ++ [e], q.n = e0.n ∧ q.lo = e0.lo ∧ q.hi = e0.hi := snoc (List.Sublist.refl _) rfl ok ⟨rfl, rfl⟩
  have ll := h.len
  have plain : laidN T e ms = T ++ [e] → LaidIn (ns ++ [e]) (laidN T e ms) ms := fun q => ⟨by rw [q]; exact base.1, by rw [q]; exact base.2.1, by rw [q]; exact base.2.2, see, by rw [q, List.length_append, List.length_append]; simp; omega⟩
  unfold laidN at plain
  unfold laidN
  cases c1 : lastSh T e with
  | none => rw [c1] at plain; exact plain rfl
  | some p =>
    rw [c1] at plain
    have lp := (lastSh_lt c1).1
    dsimp only at plain ⊢
    cases c2 : T[p]? with
    | none => rw [c2] at plain; exact plain rfl
    | some el =>
      rw [c2] at plain
      dsimp only at plain ⊢
      by_cases c3 : mayJ el e ms = true
      · rw [if_pos c3]
        have ends := mayJ_ends c3
        have hs := snoc (A := T.eraseIdx p) (x := joinN el e) (List.eraseIdx_sublist _ _) rfl (join_ok (h.oks el (List.mem_of_getElem? c2)) ok ends) ⟨rfl, rfl⟩
        refine ⟨hs.1, hs.2.1, hs.2.2, fun k at_ v ha => ?_, ?_⟩
        · have := see k at_ v ha
          unfold laidN at this
          rw [c1] at this
          dsimp only at this
          rw [c2] at this
          dsimp only at this
          rw [if_pos c3] at this
          exact this
        · rw [List.length_append, List.length_append, List.length_eraseIdx_of_lt lp]
          simp
          omega
      · rw [if_neg c3] at plain ⊢
        exact plain rfl
theorem LaidIn.tray {ns T : List Nt} {ms : List Int} (h : LaidIn ns T ms) : trayIn T := ⟨h.oks, h.up.imp (S := fun (a b : Nt) => (∃ k, a.has k = true ∧ b.has k = true) → a.n < b.n) fun z _ => z⟩
theorem LaidIn.rows {ns T : List Nt} {ms : List Int} {rows : Tab} (h : LaidIn ns T ms) (hr : rowsIn rows ns) : rowsIn rows T := fun r hr' => ⟨(hr r hr').1, (hr r hr').2.1, fun p hp q hq hk => by
  obtain ⟨e, he, h1, h2, h3⟩ := h.of q hq
  rw [h1]
  refine (hr r hr').2.2 p hp e he ?_
  unfold Nt.has at hk ⊢
  rw [h2, h3] at hk
  exact hk⟩
theorem LaidIn.beh {ns T : List Nt} {ms : List Int} {rows : Tab} (h : LaidIn ns T ms) (k : Int) : behF rows T ms k = behF rows ns ms k := by
  unfold behF
  congr 1
  unfold seesF
  refine List.map_congr_left fun at_ hat => ?_
  refine h.see k at_ _ ?_
  rcases List.mem_append.mp hat with z | z
  · obtain ⟨m, hm, rfl⟩ := List.mem_map.mp z
    exact .inr ⟨m, hm, rfl⟩
  · exact .inl (by simpa using z)
theorem DrawnT.set {n0 : Int} {L : Tr} {j : Nat} {q q0 : V × Nt} (d : DrawnT n0 L) (h0 : L[j]? = some q0) (e : q.2.n = q0.2.n) (bt : q.2.t.bd) (bm : q.2.m.bd) : DrawnT n0 (L.set j q) := by
  have lt : j < L.length := (List.getElem?_eq_some_iff.mp h0).1
  have e0 : L[j] = q0 := (List.getElem?_eq_some_iff.mp h0).2
  have en : (L.set j q).map (fun r => r.2.n) = L.map fun r => r.2.n := by
    rw [List.map_set]
    have : q.2.n = (L.map fun r => r.2.n)[j]'(by simpa using lt) := by rw [List.getElem_map, e0, e]
    rw [this, List.set_getElem_self]
  have ml : q0 ∈ L := List.mem_of_getElem? h0
  have mem : ∀ {C : V × Nt → Prop}, (∀ r ∈ L, C r) → C q → ∀ r ∈ L.set j q, C r := fun {C} h1 h2 r hr => by
    rcases List.mem_or_eq_of_mem_set hr with z | z
    · exact h1 r z
    · rw [z]; exact h2
  refine ⟨?_, mem d.gt (by rw [e]; exact d.gt q0 ml), ?_, mem d.bt bt, mem d.bm bm⟩
  · have h1 := d.up
    rw [List.pairwise_map] at h1 ⊢
    have h2 : (L.map fun r => r.2.n).Pairwise (· < ·) := List.pairwise_map.mpr h1
    rw [← en] at h2
    exact List.pairwise_map.mp h2
  · rw [List.length_set]
    exact mem d.le (by rw [e]; exact d.le q0 ml)
def spNotes26 (K : PySem.W.Frag) : Sp := fun vs H Q _ => ∃ (p : Addr) (x y z b : Int), vs = [.ref p, .int b] ∧ H p = some (L3 x y z) ∧ 0 ≤ b ∧ b ≤ 999999999976 ∧
  ∀ (r : Addr) (L : Tr) (x y z : Int) (H' : Hp), H r = none → H' r = some (.lst (Tr.v L)) → TrayAt K H' L → L.length ≤ 9 → DrawnT 33 L → r ≠ p → H' p = some (L3 x y z) → Kp K p H H' → Q (.ref r) H'
theorem sc__law_notes : FnScope ["_law_well_here", "_law_base_here", "_law_found", "_law_k", "_law_number_here", "_law_low", "_law_high", "_law_action_here"] ["_law_well_here", "_law_base_here"] (defScope s__law_notes) := ⟨rfl, rfl, rfl, by decide +kernel, rfl, by decide +kernel, by decide +kernel⟩
theorem ok__law_notes {f : Addr} {fd : FuncData} (F : Fun K "_law_notes" "_law_notes" s__law_notes f fd) (B : B K mg aG tE) (C__law_draw : Callee P w K mg base "_law_draw" 1 ["_law_well_here", "_law_many"] (spDraw K)) (C__law_tray : Callee P w K mg base "_law_tray" 4 ["_law_well_here", "_law_base_here", "_law_number_here", "_law_many"] (spTray K)) (C__law_action : Callee P w K mg base "_law_action" 3 ["_law_well_here", "_law_wide"] (spActionW K)) : FnOk P w K mg base CX0 5 f fd ["_law_well_here", "_law_base_here"] (spNotes26 K) := by
  refine F.okJ sc__law_notes (fun vs H Q E h => ?_) (fun cdv A outer s H vs Q E hr h => ?_)
  · obtain ⟨p, x, y, z, b, rfl, _⟩ := h
    rfl
  obtain ⟨p, x, y, z, b, rfl, hp, b0, b1, q⟩ := h
  refine ⟨_, (bcons (sset (i := 2) sc__law_notes.nd rfl (Or.inl rfl) (ecall C__law_tray (hr.mono (by decide)) rfl (acons (ev 0) (acons (ev 1) (acons ei (acons (ecall C__law_draw (hr.mono (by decide)) rfl (acons (ev 0) (acons ei anil))) anil))))))
      (bcons (sfor PassesOwn.never rfl (irange2 rfl B.range (acons ei (acons (ecallB call_lenQ rfl B.len bt_len (acons (ev 2) anil)) anil))) (gname (i := 3) sc__law_notes.nd rfl (Or.inl rfl))
        (bone (sif (tcmp op_eq (ecall C__law_draw (hr.mono (by decide)) rfl (acons (ev 0) (acons ei anil))) ei (nomark _)) (bcons (sasg (eix ix_Q (ev 2) (eop op_sub (ev 3) ei) (fun _ _ => rfl)) (gtupQ (n := 4) rfl (gcons (gname (i := 4) sc__law_notes.nd rfl (Or.inl rfl)) (gcons (gname (i := 5) sc__law_notes.nd rfl (Or.inl rfl)) (gcons (gname (i := 6) sc__law_notes.nd rfl (Or.inl rfl)) (gcons (gname (i := 7) sc__law_notes.nd rfl (Or.inl rfl)) gnil))))))
      (bone (sasg (etupQ (acons (eix ix_Q (eix ix_Q (ev 2) (ev 3) (fun _ _ => rfl)) ei (fun _ _ => rfl)) (acons (ev 5) (acons (ev 6) (acons (ecall C__law_action (hr.mono (by decide)) rfl (acons (ev 0) (acons (ecmp op_gt (eop op_sub (ev 6) (ev 5)) ei (nomark _)) anil))) anil))))) (gsub (ev 2) (ev 3) set_list)))) bnil)))
      (bone (sret (ev 2))))), ?_⟩
  try walk_at "rn"
  refine ⟨p, _, _, _, 10, rfl, hp, by decide, by omega, fun many x y z H1 m0 m1 g1 k1 => ?_⟩
  try walk_at "rn"
  refine ⟨p, _, _, _, b, 33, many, rfl, g1, b0, b1, by decide, m0, by omega, fun c N x y z H2 nc hc hN lN dN ncp g2 k2 => ?_⟩
  simp only [tSeq, tNext, tIfS, tAsg, gName, gSub, tRet, tRetN, tDrop, tVar, tC, tOp, tUn, rI0, rI, rU, tTest, tB, tAndV, tOrV, tNotV, tAnd, tOr, tNot, tIf, tChain, tCB, tCons, tNil, tLst, tTup, tCallC, List.getElem?_cons_zero, List.getElem?_cons_succ, List.set_cons_zero, List.set_cons_succ, Option.some.injEq, V.int.injEq, V.bl.injEq, V.ref.injEq, V.ty.injEq, V.str.injEq, List.cons.injEq, exists_eq_left', exists_eq_left, exists_and_left, and_true, true_and, and_assoc, cxK, rIxF, rSetL, rEq, rNe, scal, HO.lst.injEq, HO.tup.injEq, upd_none, ixN_10, ixN_20, ixN_21, ixN_30, ixN_31, ixN_32, upd_same, seqAt_updL, seqAt_updT, atI_0, atI_1, atI_2, atI_3, decide_eq_true_eq, L2.start, List.map_cons, List.map_nil, List.length_cons, List.length_nil, Nat.reduceAdd, Nat.reduceSub, List.replicate_succ, List.replicate_zero, List.cons_append, List.nil_append, List.append_nil, tFor_rng1, tFor_rng2, tFor_list, tFor_tup, CDv, CMul, CPow, sizeLine_eq, Int.reduceLE, Int.reduceLT, Int.reducePow, Int.reduceToNat, Int.reduceAdd, Int.reduceSub, Int.reduceMul, Int.reduceNeg, Nat.reduceLeDiff, Nat.reducePow, Nat.reduceLT, Int.reduceEq, true_or, or_true, ite_true, ite_false, if_true, if_false, Bool.not_true, Bool.not_false, Bool.false_eq_true, decide_true, decide_false, rIxQ, seqQ_updL, seqQ_updT, tupQ_updT, tSl, tNoPart, tPart, rSlQ, rCatQ, tTupQ, tLstQ, tNever, rEqD, rInQ, gTupQ, gCons, gNil, tBM, rAppend, rSlTQ, gSlice, tLc2_list, bodyL_tup, bodyL_list, bodyE_eq, tDGet, tLcD, tDGet2, sDPut, tFor_rng3, tLc_rng1, tLc_rng2, tLc_list, tLc_tup, tLc_enum, pick_nil, pick_own, pick_cap, join_some, tYes, tCallKC, gk_11, gk_31, tSortSet, tFor_zip, tAug, ipI, seqQ_lst hc]
  have nc0 : H c = none := k1.was g1 (by rw [hp]; exact nofun) nc
  have lv : (Tr.v N).length = N.length := by simp
  rw [lv]
  refine ⟨by omega, by omega, ?_⟩
  obtain ⟨J, eJ⟩ : ∃ J : Nat → St → Hp → Prop, J = fun i σ' H' => ∃ (v3 v4 v5 v6 v7 : Option V) (L : Tr) (x y z : Int), σ' = [some (.ref p), some (.int b), some (.ref c), v3, v4, v5, v6, v7] ∧ H' c = some (.lst (Tr.v L)) ∧ TrayAt K H' L ∧ L.length = N.length ∧ DrawnT 33 L ∧ H' p = some (L3 x y z) ∧ Kp K p H H' := ⟨_, rfl⟩
  refine loop_range J ?_ ?_ ?_
  · rw [eJ]
    exact ⟨_, _, _, _, _, N, _, _, _, rfl, hc, hN, rfl, dN, g2, k1.trans k2⟩
  · intro i σ' H3 hi h
    rw [eJ] at h
    obtain ⟨v3, v4, v5, v6, v7, L, x, y, z, rfl, hc3, hT3, lL, dL, g3, k3⟩ := h
    have hi' : i + 1 < L.length := by omega
    try walk_at "rn"
    refine ⟨p, _, _, _, 3, rfl, g3, by decide, by omega, fun d x y z H4 d0 d1 g4 k4 => ?_⟩
    have hc4 := k4.keep c _ hc3 ncp
    have hT4 := hT3.kp k4 g3
    try walk_at "rn"
    refine ite2 (fun cc => ?_) (fun cc => ?_)
    · have e1 : L[i]? = some L[i] := List.getElem?_eq_getElem (by omega)
      have e2 : L[i + 1]? = some L[i + 1] := List.getElem?_eq_getElem hi'
      obtain ⟨⟨a1, w1, f1, f2, f3⟩, ok1⟩ := hT4 L[i] (List.getElem_mem _)
      obtain ⟨⟨a2, w2, h1, h2, h3⟩, ok2⟩ := hT4 L[i + 1] (List.getElem_mem _)
      have at1 : atI (Tr.v L) (1 + (i : Int) - 1) = some (.ref a1) := by
        rw [show 1 + (i : Int) - 1 = ((i : Nat) : Int) by omega]
        refine atI_nat ?_
        rw [List.getElem?_map, e1, ← f1]
        rfl
      have at2 : atI (Tr.v L) (1 + (i : Int)) = some (.ref a2) := by
        rw [show 1 + (i : Int) = ((i + 1 : Nat) : Int) by omega]
        refine atI_nat ?_
        rw [List.getElem?_map, e2, ← h1]
        rfl
      refine ⟨_, seqQ_lst hc4, _, at1, a1, rfl, _, f2, rfl, _, _, rfl, _, _, rfl, _, _, rfl, _, _, rfl, rfl, ?_⟩
      refine ⟨_, seqQ_lst hc4, _, at2, a2, rfl, _, seqQ_T h2, _, rfl, ?_⟩
      try walk_at "rn"
      refine ⟨p, _, _, _, _, rfl, g4, fun v t m x y z H5 A5 hw bt bm g5 k5 T nT => ?_⟩
      have y5 := Ext.new (K := K) (o := .tup [.int L[i + 1].2.n, .int L[i].2.lo, .int L[i].2.hi, v]) nT
      have hc5 := y5.at (k5.keep c _ hc4 ncp)
      have kc : Kp K c _ (upd (upd H5 T (.tup [.int L[i + 1].2.n, .int L[i].2.lo, .int L[i].2.hi, v])) c (.lst ((Tr.v L).set (i + 1) (.ref T)))) := Kp.upd hc5
      have np : m.noPlus := let ⟨_, _, _, _, _, _, _, h⟩ := A5; h
      refine ⟨_, hc5, i + 1, ?_, ?_⟩
      · rw [show 1 + (i : Int) = ((i + 1 : Nat) : Int) by omega]
        have hlt : ((i + 1 : Nat) : Int) < ((Tr.v L).length : Int) := by simp only [Tr.v, List.length_map]; omega
        unfold ixN
        rw [if_pos (Int.natCast_nonneg _), if_pos hlt]
        rfl
      rw [eJ]
      refine ⟨_, _, _, _, _, L.set (i + 1) (.ref T, ⟨L[i + 1].2.n, L[i].2.lo, L[i].2.hi, t, m⟩), x, y, z, rfl, ?_, ?_, by rw [List.length_set]; exact lL, dL.set e2 rfl bt bm, kc.keep p _ (y5.at g5) ncp.symm, ((k3.trans (k4.trans k5)).trans y5.kp).thenNew nc0 kc⟩
      · rw [upd_same]
        simp only [Tr.v, List.map_set]
      · refine TrayAt.kp (fun q hq => ?_) kc hc5
        rcases List.mem_or_eq_of_mem_set hq with z | z
        · exact ((hT4.kp k5 g4).ext y5) q z
        · rw [z]
          refine ⟨⟨T, v, rfl, tupQ_updT, A5.ext y5⟩, ⟨ok2.n1, ok1.lo0, ok1.lt, ok1.hi1, ?_, np⟩⟩
          by_cases c1 : L[i].2.hi - L[i].2.lo = 1
          · exact .inl c1
          · have := ok1.lt
            exact .inr (hw (by simp; omega))
    · rw [eJ]
      exact ⟨_, _, _, _, _, L, _, _, _, rfl, hc4, hT4, lL, dL, g4, k3.trans k4⟩
  · intro σ' H3 h
    rw [eJ] at h
    obtain ⟨v3, v4, v5, v6, v7, L, x, y, z, rfl, hc3, hT3, lL, dL, g3, k3⟩ := h
    try walk_at "rn"
    exact q c L x y z H3 nc0 hc3 hT3 (by omega) dL ncp g3 k3
theorem lc_rowsF {K : PySem.W.Frag} {c D : Addr} {L : Rs} {f : Int → Bool} {tt : TT} {v0 : Option V} {rest : St} {H : Hp} {Q : Hp → Prop} (hk : H c = some (.lst L.v)) (nD : new K H D) (hz : L.length ≤ 1000)
    (test : ∀ p ∈ L, ∀ H' (R : Bool → Hp → Prop), Ext K H H' → R (f p.2.k) H' → tt (some p.1 :: rest) H' R)
    (fin : ∀ H', H' D = some (.lst (Rs.v (L.filter fun p => f p.2.k))) → Ext K H H' → Q H') : LcLoop (Itl K c) (gName 0) tt (tVar 0) D Q (v0 :: rest) (upd H D (.lst [])) := by
  refine lc_list (xs := L.v) (fun i acc σ' H' => ∃ (v0 : Option V), σ' = v0 :: rest ∧ H' D = some (.lst acc) ∧ acc = Rs.v ((L.take i).filter fun p => f p.2.k) ∧ Kp K D (upd H D (.lst [])) H') ?_ ?_ ?_ ?_
  · exact ⟨_, rfl, upd_same, rfl, Kp.refl⟩
  · rintro i acc σ' H' _ ⟨v0, rfl, hD, rfl, k⟩
    exact SqL.of ((k.ext nD).at hk)
  · rintro i x acc σ' H' hx ⟨v0, rfl, hD, rfl, k⟩
    rw [Rs.v, List.getElem?_map] at hx
    obtain ⟨p, ep, rfl⟩ := Option.map_eq_some_iff.mp hx
    have et : L.take (i + 1) = L.take i ++ [p] := by rw [List.take_add_one, ep]; rfl
    have hlen : ((L.take i).filter fun p => f p.2.k).length ≤ 1000 := Nat.le_trans (List.length_filter_le _ _) (by rw [List.length_take]; omega)
    refine test p (List.mem_of_getElem? ep) H' _ (k.ext nD) ?_
    cases ci : f p.2.k with
    | true =>
      refine iteT ⟨p.1, rfl, hD, by rw [Rs.v, List.length_map]; exact Nat.lt_of_le_of_lt hlen (by decide), _, rfl, upd_same, ?_, k.trans (Kp.upd hD)⟩
      rw [et, List.filter_append, List.filter_cons_of_pos (p := fun p : V × Row => f p.2.k) ci, List.filter_nil]
      simp [Rs.v]
    | false =>
      refine iteF ⟨_, rfl, hD, ?_, k⟩
      rw [et, List.filter_append, List.filter_cons_of_neg (p := fun p : V × Row => f p.2.k) (by rw [ci]; decide), List.filter_nil, List.append_nil]
  · rintro acc σ' H' ⟨v0, rfl, hD, rfl, k⟩
    rw [show (Rs.v L).length = L.length by simp [Rs.v], List.take_length] at hD
    exact fin H' hD (k.ext nD)
theorem kw_filter (L : Rs) (f : Int → Bool) : Rs.kw (L.filter fun p => f p.2.k) = L.kw.filter fun r => f r.1 := by
  unfold Rs.kw
  rw [List.filter_map]
  rfl
theorem beh_use {K : PySem.W.Frag} {r c q : Addr} {L : Rs} {N : Tr} {ms : List Int} {H : Hp} {Q : VK} (hS : H r = some (.lst L.v)) (hL : RowsAt K H L) (hC : H c = some (.lst (Tr.v N))) (hN : TrayAt K H N) (hm : Marks H q ms) (up : (L.kw.map (·.1)).Pairwise (· < ·)) (hin : rowsIn L.kw N.ns) (tin : trayIn N.ns) (len : L.length + N.length < 64)
    (h : ∀ (D : Addr) (M : Rs) (H' : Hp), H D = none → H' D = some (.lst M.v) → RowsAt K H' M → Canon (behF L.kw N.ns ms) M.kw → (∀ p ∈ M, H p.2.a = none ∧ p.2.a ≠ D) → M.length ≤ L.length + N.length → Ext K H H' → Q (.ref D) H') : Cal (spBehindR K) [.ref r, .ref c, .ref q] H Q ⟨0⟩ E0 := by
  refine ⟨r, c, q, L, N, ms, rfl, hS, hL, hC, hN, hm, up, hin, tin, len, fun D M ks H' nD hD hM upk memk lk eM nM lM x => ?_⟩
  refine h D M H' nD hD hM ?_ nM lM x
  rw [eM]
  exact beh_canon up hin tin (by simp; omega) ms upk memk
def spCutR (K : PySem.W.Frag) : Sp := fun vs H Q _ => ∃ (r c q : Addr) (L : Rs) (N : Tr) (ms : List Int) (key : Int) (R : Tab), vs = [.ref r, .ref c, .ref q, .int key, .str (rowsD R).shown] ∧ H r = some (.lst L.v) ∧ RowsAt K H L ∧ H c = some (.lst (Tr.v N)) ∧ TrayAt K H N ∧ Marks H q ms ∧ (L.kw.map (·.1)).Pairwise (· < ·) ∧ rowsIn L.kw N.ns ∧ trayIn N.ns ∧ L.length ≤ 24 ∧ N.length ≤ 9 ∧ Canon (behF L.kw N.ns ms) R ∧ okRows R ∧ ∀ H', Ext K H H' → Q (.bl true) H'
theorem sc__law_cut_right : FnScope ["_law_rows_here", "_law_notes_here", "_law_marks_here", "_law_key", "_law_due", "_law_below", "_law_others", "_law_first", "_law_rest", "_law_left"] ["_law_rows_here", "_law_notes_here", "_law_marks_here", "_law_key", "_law_due"] (defScope s__law_cut_right) := ⟨rfl, rfl, rfl, by decide +kernel, rfl, by decide +kernel, by decide +kernel⟩
theorem ok__law_cut_right {f : Addr} {fd : FuncData} (F : Fun K "_law_cut_right" "_law_cut_right" s__law_cut_right f fd) (B : B K mg aG tE)
    (C__law_copied : Callee P w K mg base "_law_copied" 1 ["_law_rows_here"] (spCopied K))
    (C_poured : Callee P w K mg base "poured" 3 ["tray", "low", "high"] (spPoured K))
    (C_rows_behind : Callee P w K mg base "rows_behind" 5 ["rows", "notes", "marks"] (spBehindR K)) : FnOk P w K mg base CX0 6 f fd ["_law_rows_here", "_law_notes_here", "_law_marks_here", "_law_key", "_law_due"] (spCutR K) := by
  refine F.okJ sc__law_cut_right (fun vs H Q E h => ?_) (fun cdv A outer s H vs Q E hr h => ?_)
  · obtain ⟨r, c, q, L, N, ms, key, R, rfl, _⟩ := h
    rfl
  obtain ⟨r, c, q0, L, N, ms, key, R, rfl, hS, hL, hC, hN, ⟨hq, um, lm⟩, up, hin, tin, lL, lN, cR, okR, q⟩ := h
  refine ⟨_, (bcons (slc (i := 5) sc__law_cut_right.nd rfl (Or.inl rfl) (Cap.mk (N := ["_law_row", "_law_key"]) (src := [none, some 3]) rfl rfl) rfl (ilist (ev 0)) (fun _ _ _ _ => (gname (i := 0) (show (["_law_row", "_law_key"] : List Str).Nodup from by decide +kernel) rfl (Or.inl rfl))) (fun _ _ _ _ => (fone (tcmp op_lt (eix (ix_QK K) (ev 0) ei (fun _ _ => rfl)) (ev 1) (nomark _)))) (fun _ _ _ _ => (ev 0)))
      (bcons (slc (i := 6) sc__law_cut_right.nd rfl (Or.inl rfl) (Cap.mk (N := ["_law_row", "_law_key"]) (src := [none, some 3]) rfl rfl) rfl (ilist (ev 0)) (fun _ _ _ _ => (gname (i := 0) (show (["_law_row", "_law_key"] : List Str).Nodup from by decide +kernel) rfl (Or.inl rfl))) (fun _ _ _ _ => (fone (tcmp op_ge (eix (ix_QK K) (ev 0) ei (fun _ _ => rfl)) (ev 1) (nomark _)))) (fun _ _ _ _ => (ev 0)))
      (bcons (sset (i := 7) sc__law_cut_right.nd rfl (Or.inl rfl) (ecall C_rows_behind (hr.mono (by decide)) rfl (acons (ecall C__law_copied (hr.mono (by decide)) rfl (acons (ev 5) anil)) (acons (eix ix_Q (ecall C_poured (hr.mono (by decide)) rfl (acons (ecallTy call_list_ofQ rfl B.list bt_list (acons (ev 1) anil)) (acons ei (acons (ev 3) anil)))) ei (fun _ _ => rfl)) (acons (ecallTy call_list_ofQ rfl B.list bt_list (acons (ev 2) anil)) anil)))))
      (bcons (sset (i := 8) sc__law_cut_right.nd rfl (Or.inl rfl) (ecall C_rows_behind (hr.mono (by decide)) rfl (acons (ecall C__law_copied (hr.mono (by decide)) rfl (acons (ev 6) anil)) (acons (eix ix_Q (ecall C_poured (hr.mono (by decide)) rfl (acons (ecallTy call_list_ofQ rfl B.list bt_list (acons (ev 1) anil)) (acons (ev 3) (acons (epowc 1000000000000) anil)))) ei (fun _ _ => rfl)) (acons (ecallTy call_list_ofQ rfl B.list bt_list (acons (ev 2) anil)) anil)))))
      (bcons (sset (i := 9) sc__law_cut_right.nd rfl (Or.inl rfl) (eix ix_Q (ecall C_poured (hr.mono (by decide)) rfl (acons (ecallTy call_list_ofQ rfl B.list bt_list (acons (ev 1) anil)) (acons ei (acons (ev 3) anil)))) ei (fun _ _ => rfl)))
      (bcons (sif (tcmp op_ne (ecallB (call_reprB hr.gd hr.units) rfl B.repr bt_repr (acons (ecall C_rows_behind (hr.mono (by decide)) rfl (acons (ecall C__law_copied (hr.mono (by decide)) rfl (acons (ev 6) anil)) (acons (ecallTy call_list_ofQ rfl B.list bt_list (acons (ev 9) anil)) (acons (ecallTy call_list_ofQ rfl B.list bt_list (acons (ev 2) anil)) anil)))) anil)) (ecallB (call_reprB hr.gd hr.units) rfl B.repr bt_repr (acons (ev 8) anil)) (nomark _)) (bone (sret ebl)) bnil)
      (bone (sret (ecmp op_eq (ecallB (call_reprB hr.gd hr.units) rfl B.repr bt_repr (acons (eop op_catQ (ev 7) (ev 8)) anil)) (ev 4) (nomark _)))))))))), ?_⟩
  try walk_at "rn"
  refine ⟨⟨_, SqL.of hS⟩, fun D1 nD1 => ?_⟩
  refine lc_rowsF (f := fun k => decide (k < key)) hS nD1 (by omega) (fun p hp H' R' xx hR => ?_) (fun H1 hD1 x1 => ?_)
  · obtain ⟨t, e1, e2, _⟩ := (hL.ext xx) p hp
    rw [e1]
    simp only [tSeq, tNext, tIfS, tAsg, gName, gSub, tRet, tRetN, tDrop, tVar, tC, tOp, tUn, rI0, rI, rU, tTest, tB, tAndV, tOrV, tNotV, tAnd, tOr, tNot, tIf, tChain, tCB, tCons, tNil, tLst, tTup, tCallC, List.getElem?_cons_zero, List.getElem?_cons_succ, List.set_cons_zero, List.set_cons_succ, Option.some.injEq, V.int.injEq, V.bl.injEq, V.ref.injEq, V.ty.injEq, V.str.injEq, List.cons.injEq, exists_eq_left', exists_eq_left, exists_and_left, and_true, true_and, and_assoc, cxK, rIxF, rSetL, rEq, rNe, scal, HO.lst.injEq, HO.tup.injEq, upd_none, ixN_10, ixN_20, ixN_21, ixN_30, ixN_31, ixN_32, upd_same, seqAt_updL, seqAt_updT, atI_0, atI_1, atI_2, atI_3, decide_eq_true_eq, L2.start, List.map_cons, List.map_nil, List.length_cons, List.length_nil, Nat.reduceAdd, Nat.reduceSub, List.replicate_succ, List.replicate_zero, List.cons_append, List.nil_append, List.append_nil, tFor_rng1, tFor_rng2, tFor_list, tFor_tup, CDv, CMul, CPow, sizeLine_eq, Int.reduceLE, Int.reduceLT, Int.reducePow, Int.reduceToNat, Int.reduceAdd, Int.reduceSub, Int.reduceMul, Int.reduceNeg, Nat.reduceLeDiff, Nat.reducePow, Nat.reduceLT, Int.reduceEq, true_or, or_true, ite_true, ite_false, if_true, if_false, Bool.not_true, Bool.not_false, Bool.false_eq_true, decide_true, decide_false, rIxQ, seqQ_updL, seqQ_updT, tupQ_updT, tSl, tNoPart, tPart, rSlQ, rCatQ, tTupQ, tLstQ, tNever, rEqD, rInQ, gTupQ, gCons, gNil, tBM, rAppend, rSlTQ, gSlice, tLc2_list, bodyL_tup, bodyL_list, bodyE_eq, tDGet, tLcD, tDGet2, sDPut, tFor_rng3, tLc_rng1, tLc_rng2, tLc_list, tLc_tup, tLc_enum, pick_nil, pick_own, pick_cap, join_some, tYes, tCallKC, gk_11, gk_31, tSortSet, tFor_zip, tAug, ipI, seqQ_T e2]
    exact hR
  try walk_at "rn"
  refine ⟨⟨_, SqL.of (x1.at hS)⟩, fun D2 nD2 => ?_⟩
  refine lc_rowsF (f := fun k => decide (key ≤ k)) (x1.at hS) nD2 (by omega) (fun p hp H' R' xx hR => ?_) (fun H2 hD2 x12 => ?_)
  · obtain ⟨t, e1, e2, _⟩ := ((hL.ext x1).ext xx) p hp
    rw [e1]
    simp only [tSeq, tNext, tIfS, tAsg, gName, gSub, tRet, tRetN, tDrop, tVar, tC, tOp, tUn, rI0, rI, rU, tTest, tB, tAndV, tOrV, tNotV, tAnd, tOr, tNot, tIf, tChain, tCB, tCons, tNil, tLst, tTup, tCallC, List.getElem?_cons_zero, List.getElem?_cons_succ, List.set_cons_zero, List.set_cons_succ, Option.some.injEq, V.int.injEq, V.bl.injEq, V.ref.injEq, V.ty.injEq, V.str.injEq, List.cons.injEq, exists_eq_left', exists_eq_left, exists_and_left, and_true, true_and, and_assoc, cxK, rIxF, rSetL, rEq, rNe, scal, HO.lst.injEq, HO.tup.injEq, upd_none, ixN_10, ixN_20, ixN_21, ixN_30, ixN_31, ixN_32, upd_same, seqAt_updL, seqAt_updT, atI_0, atI_1, atI_2, atI_3, decide_eq_true_eq, L2.start, List.map_cons, List.map_nil, List.length_cons, List.length_nil, Nat.reduceAdd, Nat.reduceSub, List.replicate_succ, List.replicate_zero, List.cons_append, List.nil_append, List.append_nil, tFor_rng1, tFor_rng2, tFor_list, tFor_tup, CDv, CMul, CPow, sizeLine_eq, Int.reduceLE, Int.reduceLT, Int.reducePow, Int.reduceToNat, Int.reduceAdd, Int.reduceSub, Int.reduceMul, Int.reduceNeg, Nat.reduceLeDiff, Nat.reducePow, Nat.reduceLT, Int.reduceEq, true_or, or_true, ite_true, ite_false, if_true, if_false, Bool.not_true, Bool.not_false, Bool.false_eq_true, decide_true, decide_false, rIxQ, seqQ_updL, seqQ_updT, tupQ_updT, tSl, tNoPart, tPart, rSlQ, rCatQ, tTupQ, tLstQ, tNever, rEqD, rInQ, gTupQ, gCons, gNil, tBM, rAppend, rSlTQ, gSlice, tLc2_list, bodyL_tup, bodyL_list, bodyE_eq, tDGet, tLcD, tDGet2, sDPut, tFor_rng3, tLc_rng1, tLc_rng2, tLc_list, tLc_tup, tLc_enum, pick_nil, pick_own, pick_cap, join_some, tYes, tCallKC, gk_11, gk_31, tSortSet, tFor_zip, tAug, ipI, seqQ_T e2]
    exact hR
  have x2 := x1.trans x12
  have kB : Rs.kw (L.filter fun p => decide (p.2.k < key)) = L.kw.filter fun r => decide (r.1 < key) := kw_filter L fun k => decide (k < key)
  have kO : Rs.kw (L.filter fun p => decide (key ≤ p.2.k)) = L.kw.filter fun r => decide (key ≤ r.1) := kw_filter L fun k => decide (key ≤ k)
  have lB : (L.filter fun p => decide (p.2.k < key)).length ≤ 24 := Nat.le_trans (List.length_filter_le _ _) lL
  have lO : (L.filter fun p => decide (key ≤ p.2.k)).length ≤ 24 := Nat.le_trans (List.length_filter_le _ _) lL
  have upB : ((L.kw.filter fun r => decide (r.1 < key)).map (·.1)).Pairwise (· < ·) := up.sublist ((List.filter_sublist (p := fun r : Int × List (Int × Option Int) => decide (r.1 < key))).map _)
  have upO : ((L.kw.filter fun r => decide (key ≤ r.1)).map (·.1)).Pairwise (· < ·) := up.sublist ((List.filter_sublist (p := fun r : Int × List (Int × Option Int) => decide (key ≤ r.1))).map _)
  have hB : RowsAt K H2 (L.filter fun p => decide (p.2.k < key)) := fun p hp => (hL.ext x2) p (List.mem_filter.mp hp).1
  have hO : RowsAt K H2 (L.filter fun p => decide (key ≤ p.2.k)) := fun p hp => (hL.ext x2) p (List.mem_filter.mp hp).1
  have hD1 := x12.at hD1
  generalize (L.filter fun p => decide (p.2.k < key)) = LB at kB lB hB hD1
  generalize (L.filter fun p => decide (key ≤ p.2.k)) = LO at kO lO hO hD2
  have hC2 := x2.at hC
  have hN2 := hN.ext x2
  have hq2 := x2.at hq
  try walk_at "rn"
  refine ⟨D1, LB, rfl, hD1, hB, by omega, fun Dc Mc H3 nDc hDc hMc eMc nMc x3 => ⟨_, seqQ_lst (x3.at hC2), fun l1 nl1 => ?_⟩⟩
  have y3 := Ext.new (K := K) (o := .lst (Tr.v N)) nl1
  refine ⟨l1, N, 0, key, rfl, upd_same, (hN2.ext x3).ext y3, by omega, fun t D D' M M' H4 nD nD' nDD ht hD hD' hM hM' eM eM' lM lM' x4 => ⟨t, rfl, _, seqQ_T ht, _, rfl, _, seqQ_lst ((x3.trans (y3.trans x4)).at hq2), fun l2 nl2 => ?_⟩⟩
  have y4 := Ext.new (K := K) (o := .lst (ms.map V.int)) nl2
  have x34 := y3.trans (x4.trans y4)
  have lMc : Mc.length ≤ 24 := by have := congrArg List.length eMc; rw [kw_len, kw_len] at this; omega
  rw [kB] at eMc
  refine beh_use (x34.at hDc) (hMc.ext x34) (y4.at hD) (hM.ext y4) ⟨upd_same, um, lm⟩ (by rw [eMc]; exact upB) (by rw [eMc, eM]; exact in_rows hin) (by rw [eM]; exact in_tray tin) (by omega) (fun Df Mf H5 nDf hDf hMf cf nMf lMf x5 => ?_)
  rw [eMc, eM] at cf
  have cf := cf.congr (cut_below tin.1 ms key)
  have x25 := x3.trans (x34.trans x5)
  have hD2 := x25.at hD2
  have hO := hO.ext x25
  have hC5 := x25.at hC2
  have hN5 := hN2.ext x25
  have hq5 := x25.at hq2
  refine ⟨D2, LO, rfl, hD2, hO, by omega, fun Dc2 Mc2 H6 nDc2 hDc2 hMc2 eMc2 nMc2 x6 => ⟨_, seqQ_lst (x6.at hC5), fun l3 nl3 => ?_⟩⟩
  have y6 := Ext.new (K := K) (o := .lst (Tr.v N)) nl3
  refine ⟨l3, N, key, 1000000000000, rfl, upd_same, (hN5.ext x6).ext y6, by omega, fun t2 E1 E1' M2 M2' H7 _ _ _ ht2 hE1 _ hM2 _ eM2 _ lM2 _ x7 => ⟨t2, rfl, _, seqQ_T ht2, _, rfl, _, seqQ_lst ((x6.trans (y6.trans x7)).at hq5), fun l4 nl4 => ?_⟩⟩
  have y7 := Ext.new (K := K) (o := .lst (ms.map V.int)) nl4
  have x67 := y6.trans (x7.trans y7)
  have lMc2 : Mc2.length ≤ 24 := by have := congrArg List.length eMc2; rw [kw_len, kw_len] at this; omega
  rw [kO] at eMc2
  refine beh_use (x67.at hDc2) (hMc2.ext x67) (y7.at hE1) (hM2.ext y7) ⟨upd_same, um, lm⟩ (by rw [eMc2]; exact upO) (by rw [eMc2, eM2]; exact in_rows hin) (by rw [eM2]; exact in_tray tin) (by omega) (fun Dg Mg H8 nDg hDg hMg cg nMg lMg x8 => ?_)
  rw [eMc2, eM2] at cg
  have cg := cg.congr (cut_above tin.1 ms key)
  have x58 := x6.trans (x67.trans x8)
  have hC8 := x58.at hC5
  have hN8 := hN5.ext x58
  have hq8 := x58.at hq5
  have hDf8 := x58.at hDf
  have hMf8 := hMf.ext x58
  have hD28 := x58.at hD2
  have hO8 := hO.ext x58
  have x08 := x2.trans (x25.trans x58)
  have cAll := canon_cut cf cg
  have eAll := cAll.same cR
  try walk_at "rn"
  have okG : okRows Mg.kw := ⟨fun r hr => okR.1 r (by rw [← eAll]; exact List.mem_append_right _ hr), by have h1 := okR.2; rw [← eAll, List.length_append] at h1; omega⟩
  have bG := okG.bare
  have bR := okR.bare
  refine ⟨_, seqQ_lst hC8, fun l5 nl5 => ?_⟩
  have y8 := Ext.new (K := K) (o := .lst (Tr.v N)) nl5
  refine ⟨l5, N, 0, key, rfl, upd_same, hN8.ext y8, by omega, fun t3 G1 G1' M3 M3' H9 _ _ _ ht3 _ hG1' _ hM3' _ eM3' _ lM3' x9 => ⟨t3, rfl, _, seqQ_T ht3, _, rfl, ?_⟩⟩
  have x89 := y8.trans x9
  refine ⟨D2, LO, rfl, x89.at hD28, hO8.ext x89, by omega, fun Dc3 Mc3 H10 nDc3 hDc3 hMc3 eMc3 nMc3 x10 => ⟨G1', rfl, _, seqQ_lst (x10.at hG1'), fun l6 nl6 => ?_⟩⟩
  have y10 := Ext.new (K := K) (o := .lst (Tr.v M3')) nl6
  refine ⟨_, seqQ_lst ((x89.trans (x10.trans y10)).at hq8), fun l7 nl7 => ?_⟩
  have y11 := Ext.new (K := K) (o := .lst (ms.map V.int)) nl7
  have y1011 := y10.trans y11
  have lMc3 : Mc3.length ≤ 24 := by have := congrArg List.length eMc3; rw [kw_len, kw_len] at this; omega
  rw [kO] at eMc3
  rw [out_eq] at eM3'
  refine beh_use (y1011.at hDc3) (hMc3.ext y1011) (y11.at upd_same) (hM3'.ext (x10.trans y1011)) ⟨upd_same, um, lm⟩ (by rw [eMc3]; exact upO) (by rw [eMc3, eM3']; exact in_rows hin) (by rw [eM3']; exact in_tray tin) (by omega) (fun Dh Mh H11 nDh hDh hMh ch nMh lMh x11 => ?_)
  rw [eMc3, eM3'] at ch
  have ch := ch.congr (cut_above tin.1 ms key)
  have eh := ch.same cg
  have x811 := x89.trans (x10.trans (y1011.trans x11))
  have dh := hMh.is hDh
  rw [eh] at dh
  refine ⟨Dh, rfl, _, dh, bG.1, bG.2.1, bG.2.2, Dg, rfl, _, (hMg.ext x811).is (x811.at hDg), bG.1, bG.2.1, bG.2.2, ?_⟩
  rw [decide_eq_true rfl]
  refine iteF ?_
  try walk_at "rn"
  refine ⟨_, x811.at hDf8, _, x811.at hDg, by simp only [Rs.v, List.length_map]; omega, fun Dz nDz => ?_⟩
  have yz := Ext.new (K := K) (o := .lst (Mf.v ++ Mg.v)) nDz
  have xz := x811.trans yz
  have eZ : (upd H11 Dz (.lst (Mf.v ++ Mg.v))) Dz = some (.lst (Rs.v (Mf ++ Mg))) := by rw [upd_same]; simp [Rs.v]
  have dz := RowsAt.is (L := Mf ++ Mg) eZ fun p hp => by
    rcases List.mem_append.mp hp with z | z
    · exact (hMf8.ext xz) p z
    · exact (hMg.ext xz) p z
  rw [show Rs.kw (Mf ++ Mg) = Mf.kw ++ Mg.kw by simp [Rs.kw], eAll] at dz
  refine ⟨_, dz, bR.1, bR.2.1, bR.2.2, ?_⟩
  rw [decide_eq_true rfl]
  exact q _ (x08.trans xz)
def bndN (c : Nat) (o : Option Int) : Prop := ∀ i, o = some i → i.natAbs ≤ 10 ^ 40 * (c + 1)
theorem bndN.up {c d : Nat} {o : Option Int} (h : bndN c o) (l : c ≤ d) : bndN d o := fun i e => Nat.le_trans (h i e) (Nat.mul_le_mul_left _ (by omega))
theorem act_bnd {e : Nt} {c : Nat} {o : Option Int} (bt : e.t.bd) (bm : e.m.bd) (np : e.m.noPlus) (h : bndN c o) : bndN (c + 1) (actF e.t e.m o) := by
  have big : 10 ^ 40 ≤ 10 ^ 40 * (c + 1 + 1) := Nat.le_mul_of_pos_right _ (by omega)
  intro i hi
  cases o with
  | none =>
    cases em : e.m with
    | plus k => rw [em] at np; exact np.elim
    | is k =>
      rw [em] at bm
      have : actF e.t e.m none = some k := by rw [em]; rfl
      rw [this] at hi
      cases hi
      exact Nat.le_trans bm big
    | gone =>
      have : actF e.t e.m none = none := by rw [em]; rfl
      rw [this] at hi
      cases hi
  | some j =>
    cases et : e.t with
    | plus k =>
      rw [et] at bt
      have : actF e.t e.m (some j) = some (j + k) := by rw [et]; rfl
      rw [this] at hi
      cases hi
      have h1 := h j rfl
      have h2 : k.natAbs ≤ 10 ^ 40 := bt
      have h3 : (j + k).natAbs ≤ j.natAbs + k.natAbs := Int.natAbs_add_le j k
      have h4 : 10 ^ 40 * (c + 1 + 1) = 10 ^ 40 * (c + 1) + 10 ^ 40 := Nat.mul_succ _ _
      omega
    | is k =>
      rw [et] at bt
      have : actF e.t e.m (some j) = some k := by rw [et]; rfl
      rw [this] at hi
      cases hi
      exact Nat.le_trans bt big
    | gone =>
      have : actF e.t e.m (some j) = none := by rw [et]; rfl
      rw [this] at hi
      cases hi
theorem acts_bnd : ∀ {ns : List Nt} {c : Nat} {o : Option Int}, (∀ e ∈ ns, e.t.bd ∧ e.m.bd ∧ e.m.noPlus) → bndN c o → bndN (c + ns.length) (ns.foldl (fun v e => actF e.t e.m v) o)
  | [], c, o, _, h => h
  | e :: ns, c, o, hb, h => by
    have hb1 := hb e (by simp)
    have := acts_bnd (ns := ns) (fun q hq => hb q (List.mem_cons_of_mem _ hq)) (act_bnd hb1.1 hb1.2.1 hb1.2.2 h)
    rw [List.foldl_cons, List.length_cons, show c + (ns.length + 1) = c + 1 + ns.length by omega]
    exact this
theorem see_ns (N : Tr) (k : Int) (at_ v : Option Int) : seeF N k at_ v = ((N.map (·.2)).filter fun e => e.has k && okAt at_ e.n).foldl (fun v e => actF e.t e.m v) v := by
  unfold seeF
  rw [List.filter_map, List.foldl_map]
  rfl
theorem see_bnd {N : Tr} {k : Int} {at_ v : Option Int} {c : Nat} (hb : ∀ q ∈ N, q.2.t.bd ∧ q.2.m.bd ∧ q.2.m.noPlus) (h : bndN c v) : bndN (c + N.length) (seeF N k at_ v) := by
  rw [see_ns]
  refine (acts_bnd (fun e he => ?_) h).up ?_
  · obtain ⟨q, hq, rfl⟩ := List.mem_map.mp (List.mem_filter.mp he).1
    exact hb q hq
  · have := List.length_filter_le (fun e : Nt => e.has k && okAt at_ e.n) (N.map (·.2))
    rw [List.length_map] at this
    omega
theorem valF_bndN {at_ : Option Int} {ws : List (Int × Option Int)} (hw : ∀ p ∈ ws, bnd p.2) : bndN 0 (valF at_ none ws) := by
  have : ∀ {ws : List (Int × Option Int)} {v0 : Option Int}, bnd v0 → (∀ p ∈ ws, bnd p.2) → bnd (valF at_ v0 ws) := by
    intro ws
    induction ws with
    | nil => intro v0 h _; exact h
    | cons p ws ih =>
      intro v0 h hw
      show bnd (valF at_ (if okAt at_ p.1 = true then p.2 else v0) ws)
      refine ih ?_ fun q hq => hw q (List.mem_cons_of_mem _ hq)
      split
      · exact hw p (by simp)
      · exact h
  intro i hi
  have := this bnd_none hw i hi
  omega
theorem canon_okR {b : Int} {rows R : Tab} {N : Tr} {ms : List Int} {n0 : Int} (d : Drawn b 24 rows) (hb0 : 0 ≤ b) (hb1 : b ≤ 999999999976) (dN : DrawnT n0 N) (hm : ∀ m ∈ ms, 1 ≤ m ∧ m ≤ 80) (lm : ms.length ≤ 5) (lN : N.length ≤ 20)
    (hin : rowsIn rows N.ns) (tin : trayIn N.ns) (c : Canon (behF rows N.ns ms) R) (lR : R.length ≤ 60) : okRows R := by
  refine ⟨fun r hr => ?_, lR⟩
  obtain ⟨er, ne⟩ := c.row r hr
  have ok : ∀ q ∈ N, q.2.ok := fun q hq => tin.1 q.2 (List.mem_map_of_mem hq)
  have hk : r.1 ∈ (N.ns.foldl noteT rows).map (·.1) := by
    refine rowOf_ne fun z => ne ?_
    rw [er]
    unfold behF
    rw [← sees_views d.up hin tin (by simp; omega), z, sweep_nil]
  have hkb : 0 ≤ r.1 ∧ r.1 ≤ 1000000000000 := by
    rcases (notes_keys N.ns tin.1 (up_nodup d.up)).2.2 r.1 hk with z | ⟨e, he, _, z⟩
    · obtain ⟨r', hr', e⟩ := List.mem_map.mp z
      have := d.key r' hr'
      omega
    · have o := tin.1 e he
      have h1 := o.lo0
      have h2 := o.lt
      have h3 := o.hi1
      omega
  have bw : ∀ o ∈ seesF rows N.ns ms r.1, bndN 20 o := fun o ho => by
    obtain ⟨at_, _, rfl⟩ := List.mem_map.mp ho
    rw [← seeF_A]
    refine (see_bnd (fun q hq => ⟨dN.bt q hq, dN.bm q hq, (ok q hq).np⟩) (c := 0) ?_).up (by omega)
    refine valF_bndN ?_
    by_cases cc : r.1 ∈ rows.map (·.1)
    · obtain ⟨r', hr', e⟩ := List.mem_map.mp cc
      rw [← e, rowOf_row d.up r' hr']
      exact d.val r' hr'
    · rw [rowOf_none cc]
      exact fun p hp => nomatch hp
  refine ⟨by show r.1.natAbs < _; omega, fun pr hpr => ?_, ?_⟩
  · rw [er] at hpr
    obtain ⟨j, hj, rfl⟩ := byT_mem hpr
    refine ⟨?_, fun o ho => ?_⟩
    · show ((nsF ms).getD j 0).natAbs < _
      rw [List.getD_eq_getElem?_getD]
      cases en : (nsF ms)[j]? with
      | none => decide
      | some n =>
        have := List.mem_of_getElem? en
        rcases List.mem_cons.mp this with e | e
        · rw [e]; decide
        · obtain ⟨m, hm', rfl⟩ := List.mem_map.mp e
          have := hm m hm'
          show (m + 1).natAbs < _
          omega
    · have ho : (seesF rows N.ns ms r.1).getD j none = some o := ho
      rw [List.getD_eq_getElem?_getD] at ho
      cases en : (seesF rows N.ns ms r.1)[j]? with
      | none => rw [en] at ho; cases ho
      | some o' =>
        rw [en] at ho
        have := bw o' (List.mem_of_getElem? en) o ho
        omega
  · rw [er]
    have := byT_len (nsF ms) (seesF rows N.ns ms r.1) (ms.length + 1)
    show (byT (nsF ms) (seesF rows N.ns ms r.1) (ms.length + 1)).length ≤ 20
    omega
theorem rows_in {b : Int} {rows : Tab} {N : Tr} {n0 : Int} (d : Drawn b 24 rows) (dN : DrawnT n0 N) (h : 33 ≤ n0) : rowsIn rows N.ns := fun r hr => ⟨d.ris r hr, by have := d.few r hr; omega, fun p hp e he _ => by
  obtain ⟨q, hq, rfl⟩ := List.mem_map.mp he
  have h1 := d.num r hr p hp
  have h2 := dN.gt q hq
  omega⟩
theorem tray_in {N : Tr} {n0 : Int} (dN : DrawnT n0 N) (ok : ∀ q ∈ N, q.2.ok) : trayIn N.ns := ⟨fun e he => by
  obtain ⟨q, hq, rfl⟩ := List.mem_map.mp he
  exact ok q hq, dN.up.imp (S := fun (a b : Nt) => (∃ k, a.has k = true ∧ b.has k = true) → a.n < b.n) fun h _ => h⟩
theorem Rs.risen {K : PySem.W.Frag} {H : Hp} {L : Rs} {b : Int} (d : Drawn b 24 L.kw) (l : RowsAt K H L) : ∀ p ∈ L, Rising p.2.ws ∧ p.2.us.length ≤ 1000 := fun p hp => by
  obtain ⟨_, _, _, _, v⟩ := l p hp
  have h1 := d.ris p.2.kw (List.mem_map_of_mem hp)
  have h2 := d.few p.2.kw (List.mem_map_of_mem hp)
  exact ⟨h1, by rw [v.len]; exact Nat.le_trans h2 (by decide)⟩
def spRight (K : PySem.W.Frag) : Sp := fun vs H Q _ => ∃ p x y z, vs = [.ref p] ∧ H p = some (L3 x y z) ∧ ∀ (H' : Hp), Kp K p H H' → Q (.bl true) H'
theorem sc__law_right : FnScope ["_law_well_here", "_law_marks_here", "_law_base_here", "_law_rows_here", "_law_notes_here", "_law_at", "_law_key", "_law_due", "_law_first", "_law_tray_here", "_law_one", "_law_note"] ["_law_well_here"] (defScope s__law_right) := ⟨rfl, rfl, rfl, by decide +kernel, rfl, by decide +kernel, by decide +kernel⟩
theorem ok__law_right {f : Addr} {fd : FuncData} (F : Fun K "_law_right" "_law_right" s__law_right f fd) (B : B K mg aG tE)
    (C__law_draw : Callee P w K mg base "_law_draw" 1 ["_law_well_here", "_law_many"] (spDraw K))
    (C__law_marks : Callee P w K mg base "_law_marks" 2 ["_law_well_here", "_law_most"] (spMarksS K))
    (C__law_base : Callee P w K mg base "_law_base" 2 ["_law_well_here"] (spBase K))
    (C__law_rows : Callee P w K mg base "_law_rows" 3 ["_law_well_here", "_law_base_here"] (spRows K))
    (C__law_notes : Callee P w K mg base "_law_notes" 5 ["_law_well_here", "_law_base_here"] (spNotes26 K))
    (C__law_copied : Callee P w K mg base "_law_copied" 1 ["_law_rows_here"] (spCopied K))
    (C_swept : Callee P w K mg base "swept" 4 ["rows", "marks"] (spSwept K))
    (C_laid : Callee P w K mg base "laid" 3 ["tray", "note", "marks"] (spLaid K))
    (C__law_cut_right : Callee P w K mg base "_law_cut_right" 6 ["_law_rows_here", "_law_notes_here", "_law_marks_here", "_law_key", "_law_due"] (spCutR K))
    (C_rows_behind : Callee P w K mg base "rows_behind" 5 ["rows", "notes", "marks"] (spBehindR K)) : FnOk P w K mg base CX0 7 f fd ["_law_well_here"] (spRight K) := by
  refine F.okJ sc__law_right (fun vs H Q E h => ?_) (fun cdv A outer s H vs Q E hr h => ?_)
  · obtain ⟨p, x, y, z, rfl, _⟩ := h
    rfl
  obtain ⟨p, x, y, z, rfl, hp, q⟩ := h
  refine ⟨_, (bcons (sset (i := 1) sc__law_right.nd rfl (Or.inl rfl) (ecall C__law_marks (hr.mono (by decide)) rfl (acons (ev 0) (acons ei anil))))
      (bcons (sset (i := 2) sc__law_right.nd rfl (Or.inl rfl) (ecall C__law_base (hr.mono (by decide)) rfl (acons (ev 0) anil)))
      (bcons (sset (i := 3) sc__law_right.nd rfl (Or.inl rfl) (ecall C__law_rows (hr.mono (by decide)) rfl (acons (ev 0) (acons (ev 2) anil))))
      (bcons (sset (i := 4) sc__law_right.nd rfl (Or.inl rfl) (ecall C__law_notes (hr.mono (by decide)) rfl (acons (ev 0) (acons (ev 2) anil))))
      (bcons (sset (i := 5) sc__law_right.nd rfl (Or.inl rfl) (ecall C__law_draw (hr.mono (by decide)) rfl (acons (ev 0) (acons (eop op_add (ecallB call_lenQ rfl B.len bt_len (acons (ev 4) anil)) ei) anil))))
      (bcons (sset (i := 6) sc__law_right.nd rfl (Or.inl rfl) (eop op_add (eop op_add (ev 2) ei) (ecall C__law_draw (hr.mono (by decide)) rfl (acons (ev 0) (acons ei anil)))))
      (bcons (sset (i := 7) sc__law_right.nd rfl (Or.inl rfl) (ecallB (call_reprB hr.gd hr.units) rfl B.repr bt_repr (acons (ecall C_rows_behind (hr.mono (by decide)) rfl (acons (ecall C__law_copied (hr.mono (by decide)) rfl (acons (ev 3) anil)) (acons (ecallTy call_list_ofQ rfl B.list bt_list (acons (ev 4) anil)) (acons (ecallTy call_list_ofQ rfl B.list bt_list (acons (ev 1) anil)) anil)))) anil)))
      (bcons (sset (i := 8) sc__law_right.nd rfl (Or.inl rfl) (ecall C_rows_behind (hr.mono (by decide)) rfl (acons (ecall C__law_copied (hr.mono (by decide)) rfl (acons (ev 3) anil)) (acons (eslice sl_listQ (ev 4) onone (osome (ev 5))) (acons (ecallTy call_list_ofQ rfl B.list bt_list (acons (ev 1) anil)) anil)))))
      (bcons (sif (tcmp op_ne (ecallB (call_reprB hr.gd hr.units) rfl B.repr bt_repr (acons (ecall C_rows_behind (hr.mono (by decide)) rfl (acons (ev 8) (acons (eslice sl_listQ (ev 4) (osome (ev 5)) onone) (acons (ecallTy call_list_ofQ rfl B.list bt_list (acons (ev 1) anil)) anil)))) anil)) (ev 7) (nomark _)) (bone (sret ebl)) bnil)
      (bcons (sset (i := 9) sc__law_right.nd rfl (Or.inl rfl) (elstQ anil))
      (bcons (sset (i := 10) sc__law_right.nd rfl (Or.inl rfl) (ecall C_swept (hr.mono (by decide)) rfl (acons (ecall C__law_copied (hr.mono (by decide)) rfl (acons (ev 3) anil)) (acons (ecallTy call_list_ofQ rfl B.list bt_list (acons (ev 1) anil)) anil))))
      (bcons (sfor PassesOwn.never rfl (ilist (ev 4)) (gname (i := 11) sc__law_right.nd rfl (Or.inl rfl))
        (bcons (sset (i := 9) sc__law_right.nd rfl (Or.inl rfl) (ecall C_laid (hr.mono (by decide)) rfl (acons (ev 9) (acons (ev 11) (acons (ecallTy call_list_ofQ rfl B.list bt_list (acons (ev 1) anil)) anil)))))
      (bone (sset (i := 10) sc__law_right.nd rfl (Or.inl rfl) (ecall C_rows_behind (hr.mono (by decide)) rfl (acons (ev 10) (acons (elstQ (acons (ev 11) anil)) (acons (ecallTy call_list_ofQ rfl B.list bt_list (acons (ev 1) anil)) anil))))))))
      (bcons (sif (tw (wor (tcmp op_ne (ecallB (call_reprB hr.gd hr.units) rfl B.repr bt_repr (acons (ecall C_rows_behind (hr.mono (by decide)) rfl (acons (ecall C__law_copied (hr.mono (by decide)) rfl (acons (ev 3) anil)) (acons (ev 9) (acons (ecallTy call_list_ofQ rfl B.list bt_list (acons (ev 1) anil)) anil)))) anil)) (ev 7) (nomark _)) (wor1 (tcmp op_ne (ecallB (call_reprB hr.gd hr.units) rfl B.repr bt_repr (acons (ev 10) anil)) (ev 7) (nomark _))))) (bone (sret ebl)) bnil)
      (bone (sret (ecall C__law_cut_right (hr.mono (by decide)) rfl (acons (ev 3) (acons (ev 4) (acons (ev 1) (acons (ev 6) (acons (ev 7) anil))))))))))))))))))))), ?_⟩
  try walk_at "rn"
  refine ⟨p, _, _, _, rfl, hp, fun q1 ms x y z H1 z1 hq1 um hm lm nq1 g1 k1 => ?_⟩
  try walk_at "rn"
  refine ⟨p, _, _, _, rfl, g1, fun b x y z H2 hb0 hb1 g2 k2 => ?_⟩
  try walk_at "rn"
  refine ⟨p, _, _, _, b, rfl, g2, fun r L x y z H3 nr hr3 hL dL nL nrp g3 k3 => ?_⟩
  try walk_at "rn"
  refine ⟨p, _, _, _, b, rfl, g3, hb0, hb1, fun c N x y z H4 nc hc hN lN dN ncp g4 k4 => ?_⟩
  simp only [tSeq, tNext, tIfS, tAsg, gName, gSub, tRet, tRetN, tDrop, tVar, tC, tOp, tUn, rI0, rI, rU, tTest, tB, tAndV, tOrV, tNotV, tAnd, tOr, tNot, tIf, tChain, tCB, tCons, tNil, tLst, tTup, tCallC, List.getElem?_cons_zero, List.getElem?_cons_succ, List.set_cons_zero, List.set_cons_succ, Option.some.injEq, V.int.injEq, V.bl.injEq, V.ref.injEq, V.ty.injEq, V.str.injEq, List.cons.injEq, exists_eq_left', exists_eq_left, exists_and_left, and_true, true_and, and_assoc, cxK, rIxF, rSetL, rEq, rNe, scal, HO.lst.injEq, HO.tup.injEq, upd_none, ixN_10, ixN_20, ixN_21, ixN_30, ixN_31, ixN_32, upd_same, seqAt_updL, seqAt_updT, atI_0, atI_1, atI_2, atI_3, decide_eq_true_eq, L2.start, List.map_cons, List.map_nil, List.length_cons, List.length_nil, Nat.reduceAdd, Nat.reduceSub, List.replicate_succ, List.replicate_zero, List.cons_append, List.nil_append, List.append_nil, tFor_rng1, tFor_rng2, tFor_list, tFor_tup, CDv, CMul, CPow, sizeLine_eq, Int.reduceLE, Int.reduceLT, Int.reducePow, Int.reduceToNat, Int.reduceAdd, Int.reduceSub, Int.reduceMul, Int.reduceNeg, Nat.reduceLeDiff, Nat.reducePow, Nat.reduceLT, Int.reduceEq, true_or, or_true, ite_true, ite_false, if_true, if_false, Bool.not_true, Bool.not_false, Bool.false_eq_true, decide_true, decide_false, rIxQ, seqQ_updL, seqQ_updT, tupQ_updT, tSl, tNoPart, tPart, rSlQ, rCatQ, tTupQ, tLstQ, tNever, rEqD, rInQ, gTupQ, gCons, gNil, tBM, rAppend, rSlTQ, gSlice, tLc2_list, bodyL_tup, bodyL_list, bodyE_eq, tDGet, tLcD, tDGet2, sDPut, tFor_rng3, tLc_rng1, tLc_rng2, tLc_list, tLc_tup, tLc_enum, pick_nil, pick_own, pick_cap, join_some, tYes, tCallKC, gk_11, gk_31, tSortSet, tFor_zip, tAug, ipI, seqQ_lst hc]
  have lv : ((Tr.v N).length : Int) = N.length := by simp
  rw [lv]
  refine ⟨p, _, _, _, _, rfl, g4, by omega, by omega, fun a x y z H5 a0 a1 g5 k5 => ?_⟩
  try walk_at "rn"
  refine ⟨p, _, _, _, 22, rfl, g5, by decide, by omega, fun d x y z H6 d0 d1 g6 k6 => ?_⟩
  have hq6 := k6.keep q1 _ (k5.keep q1 _ (k4.keep q1 _ (k3.keep q1 _ (k2.keep q1 _ hq1 nq1) nq1) nq1) nq1) nq1
  have hr6 := k6.keep r _ (k5.keep r _ (k4.keep r _ hr3 nrp) nrp) nrp
  have hL6 := ((hL.kp k4 g3 fun q hq => (nL q hq).2.1).kp k5 g4 fun q hq => (nL q hq).2.1).kp k6 g5 fun q hq => (nL q hq).2.1
  have hc6 := k6.keep c _ (k5.keep c _ hc ncp) ncp
  have hN6 := (hN.kp k5 g4).kp k6 g5
  have k06 := k1.trans (k2.trans (k3.trans (k4.trans (k5.trans k6))))
  have lL : L.length ≤ 24 := by have := dL.len; rw [kw_len] at this; omega
  have okN : ∀ q ∈ N, q.2.ok := fun q hq => (hN q hq).2
  have hin := rows_in dL dN (by decide)
  have tin := tray_in dN okN
  have h0 : ∀ m ∈ ms, 0 ≤ m := fun m h => by have := hm m h; omega
  have mk : ∀ {H : Hp} {l : Addr}, H l = some (.lst (ms.map V.int)) → Marks H l ms := fun e => ⟨e, um, by omega⟩
  obtain ⟨na, rfl⟩ : ∃ n : Nat, a = n := ⟨a.toNat, by omega⟩
  clear k1 k2 k3 k4 k5 k6 g1 g2 g3 g4 g5 hq1 hr3 hL hc hN
  try walk_at "rn"
  refine ⟨r, L, rfl, hr6, hL6, by omega, fun Dh Mh H7 nDh hDh hMh eMh nMh x7 => ?_⟩
  try walk_at "rn"
  have copyLen : ∀ {M : Rs}, M.kw = L.kw → M.length ≤ 24 := fun {M} e => by have := congrArg List.length e; rw [kw_len, kw_len] at this; omega
  have lMh := copyLen eMh
  refine ⟨_, seqQ_lst (x7.at hc6), fun l1 nl1 => ⟨_, seqQ_lst ((x7.trans (Ext.new nl1)).at hq6), fun l2 nl2 => ?_⟩⟩
  have y1 := Ext.new (K := K) (o := .lst (Tr.v N)) nl1
  have y2 := Ext.new (K := K) (o := .lst (ms.map V.int)) nl2
  have y12 := y1.trans y2
  refine beh_use (y12.at hDh) (hMh.ext y12) (y2.at upd_same) ((hN6.ext x7).ext y12) (mk upd_same) (by rw [eMh]; exact dL.up) (by rw [eMh]; exact hin) tin (by omega) (fun Dd Md H8 nDd hDd hMd cd nMd lMd x8 => ?_)
  rw [eMh] at cd
  have okD := canon_okR dL hb0 hb1 dN hm lm (by omega) hin tin cd (by rw [kw_len]; omega)
  have bD := okD.bare
  refine ⟨Dd, rfl, _, hMd.is hDd, bD.1, bD.2.1, bD.2.2, ?_⟩
  generalize Md.kw = R at cd okD bD
  have x68 := x7.trans (y12.trans x8)
  have hr8 := x68.at hr6
  have hL8 := hL6.ext x68
  have hc8 := x68.at hc6
  have hN8 := hN6.ext x68
  have hq8 := x68.at hq6
  have k08 := k06.trans x68.kp
  have g8 := x68.at g6
  clear hr6 hL6 hc6 hN6 hq6 k06 g6 x68 x7 x8 y1 y2 y12
  refine ⟨r, L, rfl, hr8, hL8, by omega, fun Dc Mc H9 nDc hDc hMc eMc nMc x9 => ⟨_, rfl, c, rfl, _, SqL.of (x9.at hc8), fun l3 nl3 => ⟨q1, rfl, _, seqQ_lst ((x9.trans (Ext.new nl3)).at hq8), fun l4 nl4 => ?_⟩⟩⟩
  have y3 := Ext.new (K := K) (o := .lst (cutV (Tr.v N) none (some (na : Int)))) nl3
  have y4 := Ext.new (K := K) (o := .lst (ms.map V.int)) nl4
  have y34 := y3.trans y4
  have lMc := copyLen eMc
  have e3 : (upd (upd H9 l3 (.lst (cutV (Tr.v N) none (some (na : Int))))) l4 (.lst (ms.map V.int))) l3 = some (.lst (Tr.v (N.take na))) := by
    rw [y4.at (upd_same (H := H9) (a := l3) (o := .lst (cutV (Tr.v N) none (some (na : Int))))), cutV_to, Tr.v, Tr.v, List.map_take]
  have nsT : Tr.ns (N.take na) = N.ns.take na := by simp [Tr.ns]
  have nsD : Tr.ns (N.drop na) = N.ns.drop na := by simp [Tr.ns]
  have nsA : Tr.ns (N.take na) ++ Tr.ns (N.drop na) = N.ns := by rw [nsT, nsD, List.take_append_drop]
  have hinA : rowsIn L.kw (Tr.ns (N.take na) ++ Tr.ns (N.drop na)) := by rw [nsA]; exact hin
  have tinA : trayIn (Tr.ns (N.take na) ++ Tr.ns (N.drop na)) := by rw [nsA]; exact tin
  have ltk : (N.take na).length ≤ 9 := by rw [List.length_take]; omega
  have ldr : (N.drop na).length ≤ 9 := by rw [List.length_drop]; omega
  refine beh_use (L := Mc) (N := N.take na) (y34.at hDc) (hMc.ext y34) e3 (fun q hq => ((hN8.ext x9).ext y34) q (List.mem_of_mem_take hq)) (mk upd_same) (by rw [eMc]; exact dL.up) (by rw [eMc]; exact hinA.sub fun e he => List.mem_append_left _ he) tinA.left (by omega) (fun D1 M1 H10 nD1 hD1 hM1 c1 nM1 lM1 x10 => ?_)
  rw [eMc] at c1
  have x810 := x9.trans (y34.trans x10)
  try walk_at "rn"
  refine ⟨_, SqL.of (x810.at hc8), fun l5 nl5 => ⟨_, seqQ_lst ((x810.trans (Ext.new nl5)).at hq8), fun l6 nl6 => ?_⟩⟩
  have y5 := Ext.new (K := K) (o := .lst (cutV (Tr.v N) (some (na : Int)) none)) nl5
  have y6 := Ext.new (K := K) (o := .lst (ms.map V.int)) nl6
  have y56 := y5.trans y6
  have e5 : (upd (upd H10 l5 (.lst (cutV (Tr.v N) (some (na : Int)) none))) l6 (.lst (ms.map V.int))) l5 = some (.lst (Tr.v (N.drop na))) := by
    rw [y6.at (upd_same (H := H10) (a := l5) (o := .lst (cutV (Tr.v N) (some (na : Int)) none))), cutV_from, Tr.v, Tr.v, List.map_drop]
  refine beh_use (L := M1) (N := N.drop na) (y56.at hD1) (hM1.ext y56) e5 (fun q hq => ((hN8.ext x810).ext y56) q (List.mem_of_mem_drop hq)) (mk upd_same) c1.up (rowsIn.next dL.up um h0 (by omega) hinA tinA (by rw [nsT, List.length_take]; omega) c1) tinA.right (by omega) (fun D2 M2 H11 nD2 hD2 hM2 c2 nM2 lM2 x11 => ?_)
  have c2 := c2.congr (beh_beh um h0 c1)
  rw [nsA] at c2
  have e2 := c2.same cd
  have d2 := hM2.is hD2
  rw [e2] at d2
  refine ⟨D2, rfl, _, d2, bD.1, bD.2.1, bD.2.2, ?_⟩
  rw [decide_eq_true rfl]
  refine iteF fun dT ndT => ?_
  have x811 := x810.trans (y56.trans x11)
  have yT := Ext.new (K := K) (o := .lst []) ndT
  have x8T := x811.trans yT
  refine ⟨r, L, rfl, x8T.at hr8, hL8.ext x8T, by omega, fun De Me H12 nDe hDe hMe eMe nMe x12 => ⟨q1, rfl, _, seqQ_lst ((x8T.trans x12).at hq8), fun l7 nl7 => ?_⟩⟩
  have y7 := Ext.new (K := K) (o := .lst (ms.map V.int)) nl7
  have lMe := copyLen eMe
  refine ⟨De, l7, Me, ms, rfl, y7.at hDe, hMe.ext y7, Rs.risen (by rw [eMe]; exact dL) (hMe.ext y7), by omega, mk upd_same, fun dO MO H13 ndO hdO hMO eMO nMO lMO x13 => ?_⟩
  rw [eMe] at eMO
  have cO : Canon (behF L.kw [] ms) MO.kw := by rw [eMO]; exact swept_canon dL.up ms
  have x1213 := x12.trans (y7.trans x13)
  have x813 := x8T.trans x1213
  have hdT := x1213.at (upd_same (H := H11) (a := dT) (o := .lst []))
  refine ⟨c, rfl, ⟨_, SqL.of (x813.at hc8)⟩, ?_⟩
  obtain ⟨J, eJ⟩ : ∃ J : Nat → St → Hp → Prop, J = fun i σ' H' => ∃ (v11 : Option V) (dT dO : Addr) (T : Tr) (MO : Rs), σ' = [some (.ref p), some (.ref q1), some (.int b), some (.ref r), some (.ref c), some (.int na), some (.int (b + 1 + d)), some (.str (rowsD R).shown), some (.ref D1), some (.ref dT), some (.ref dO), v11] ∧ H' dT = some (.lst (Tr.v T)) ∧ TrayAt K H' T ∧ LaidIn (N.ns.take i) T.ns ms ∧ H' dO = some (.lst MO.v) ∧ RowsAt K H' MO ∧ Canon (behF L.kw (N.ns.take i) ms) MO.kw ∧ MO.length ≤ 24 + i ∧ Ext K H8 H' := ⟨_, rfl⟩
  refine loop_list (xs := Tr.v N) J ?_ ?_ ?_ ?_
  · rw [eJ]
    exact ⟨_, dT, dO, [], MO, rfl, hdT, (fun q hq => nomatch hq), ⟨.nil, (fun q hq => nomatch hq), (fun q hq => nomatch hq), (fun _ _ _ _ => rfl), Nat.le_refl _⟩, hdO, hMO, cO, by omega, x813⟩
  · intro i σ' H' _ h
    rw [eJ] at h
    obtain ⟨_, _, _, _, _, _, _, _, _, _, _, _, _, x⟩ := h
    exact SqL.of (x.at hc8)
  · intro i u σ' H14 hu h
    rw [eJ] at h
    obtain ⟨v11, dT, dO, T, MO, rfl, hT, hTT, lT, hO, hMO, cO, lO, x14⟩ := h
    rw [Tr.v, List.getElem?_map] at hu
    obtain ⟨m, em, rfl⟩ := Option.map_eq_some_iff.mp hu
    have il : i < N.length := (List.getElem?_eq_some_iff.mp em).1
    have mm := List.mem_of_getElem? em
    have etk : N.ns.take (i + 1) = N.ns.take i ++ [m.2] := by
      rw [List.take_add_one, Tr.ns, List.getElem?_map, em]
      rfl
    have tin1 : trayIn (N.ns.take i ++ [m.2]) := by rw [← etk]; exact tin.take _
    have hin1 : rowsIn L.kw (N.ns.take i ++ [m.2]) := by rw [← etk]; exact hin.sub fun e he => List.mem_of_mem_take he
    have gt : ∀ q ∈ N.ns.take i, q.n < m.2.n := fun q hq => by
      have h1 := dN.up.sublist (List.take_sublist (i + 1) N.ns)
      have h2 : (N.ns.take i ++ [m.2]).Pairwise (fun a b => a.n < b.n) := by rw [← etk]; exact h1
      exact (List.pairwise_append.mp h2).2.2 q hq m.2 (by simp)
    have lT9 : T.length ≤ 9 := by have := lT.len; simp only [Tr.ns, List.length_map, List.length_take] at this; omega
    simp only [tSeq, tNext, tIfS, tAsg, gName, gSub, tRet, tRetN, tDrop, tVar, tC, tOp, tUn, rI0, rI, rU, tTest, tB, tAndV, tOrV, tNotV, tAnd, tOr, tNot, tIf, tChain, tCB, tCons, tNil, tLst, tTup, tCallC, List.getElem?_cons_zero, List.getElem?_cons_succ, List.set_cons_zero, List.set_cons_succ, Option.some.injEq, V.int.injEq, V.bl.injEq, V.ref.injEq, V.ty.injEq, V.str.injEq, List.cons.injEq, exists_eq_left', exists_eq_left, exists_and_left, and_true, true_and, and_assoc, cxK, rIxF, rSetL, rEq, rNe, scal, HO.lst.injEq, HO.tup.injEq, upd_none, ixN_10, ixN_20, ixN_21, ixN_30, ixN_31, ixN_32, upd_same, seqAt_updL, seqAt_updT, atI_0, atI_1, atI_2, atI_3, decide_eq_true_eq, L2.start, List.map_cons, List.map_nil, List.length_cons, List.length_nil, Nat.reduceAdd, Nat.reduceSub, List.replicate_succ, List.replicate_zero, List.cons_append, List.nil_append, List.append_nil, tFor_rng1, tFor_rng2, tFor_list, tFor_tup, CDv, CMul, CPow, sizeLine_eq, Int.reduceLE, Int.reduceLT, Int.reducePow, Int.reduceToNat, Int.reduceAdd, Int.reduceSub, Int.reduceMul, Int.reduceNeg, Nat.reduceLeDiff, Nat.reducePow, Nat.reduceLT, Int.reduceEq, true_or, or_true, ite_true, ite_false, if_true, if_false, Bool.not_true, Bool.not_false, Bool.false_eq_true, decide_true, decide_false, rIxQ, seqQ_updL, seqQ_updT, tupQ_updT, tSl, tNoPart, tPart, rSlQ, rCatQ, tTupQ, tLstQ, tNever, rEqD, rInQ, gTupQ, gCons, gNil, tBM, rAppend, rSlTQ, gSlice, tLc2_list, bodyL_tup, bodyL_list, bodyE_eq, tDGet, tLcD, tDGet2, sDPut, tFor_rng3, tLc_rng1, tLc_rng2, tLc_list, tLc_tup, tLc_enum, pick_nil, pick_own, pick_cap, join_some, tYes, tCallKC, gk_11, gk_31, tSortSet, tFor_zip, tAug, ipI, seqQ_lst (x14.at hq8)]
    intro l8 nl8
    have y8 := Ext.new (K := K) (o := .lst (ms.map V.int)) nl8
    refine ⟨dT, T, m.1, m.2, l8, ms, rfl, y8.at hT, hTT.ext y8, ((hN8.ext x14).ext y8 m mm).1, okN m mm, by omega, upd_same, by omega, fun dT2 T2 H15 ndT2 hdT2 hT2 eT2 lT2 x15 => ?_⟩
    try walk_at "rn"
    intro bn nbn
    have x145 := y8.trans x15
    have yn := Ext.new (K := K) (o := .lst [m.1]) nbn
    refine ⟨_, seqQ_lst ((x14.trans (x145.trans yn)).at hq8), fun l9 nl9 => ?_⟩
    have y9 := Ext.new (K := K) (o := .lst (ms.map V.int)) nl9
    have yn9 := yn.trans y9
    have x149 := x145.trans yn9
    refine beh_use (L := MO) (N := [m]) (x149.at hO) (hMO.ext x149) (y9.at upd_same) (fun q hq => by
      have e : q = m := by simpa using hq
      rw [e]
      exact ((hN8.ext x14).ext x149) m mm) (mk upd_same) cO.up (rowsIn.next dL.up um h0 (by omega) hin1 tin1 (by simp; omega) cO) tin1.right (by simp; omega) (fun dO2 MO2 H16 ndO2 hdO2 hMO2 cO2 nMO2 lMO2 x16 => ?_)
    have cO2 := cO2.congr (beh_beh um h0 cO)
    rw [eJ]
    refine ⟨_, dT2, dO2, T2, MO2, rfl, (yn9.trans x16).at hdT2, hT2.ext (yn9.trans x16), ?_, hdO2, hMO2, ?_, ?_, x14.trans (x149.trans x16)⟩
    · rw [etk, eT2]
      exact lT.next (okN m mm) gt
    · rw [etk]
      exact cO2
    · have : MO2.length ≤ MO.length + 1 := by simpa using lMO2
      omega
  · intro σ' H14 h
    rw [eJ] at h
    clear eJ
    obtain ⟨v11, dT, dO, T, MO, rfl, hT, hTT, lT, hO, hMO, cO, lO, x14⟩ := h
    have etk : N.ns.take (Tr.v N).length = N.ns := by
      rw [List.take_of_length_le]
      simp
    rw [etk] at lT cO
    try walk_at "rn"
    refine ⟨r, L, rfl, x14.at hr8, hL8.ext x14, by omega, fun Df Mf H15 nDf hDf hMf eMf nMf x15 => ⟨_, seqQ_lst ((x14.trans x15).at hq8), fun l8 nl8 => ?_⟩⟩
    have y8 := Ext.new (K := K) (o := .lst (ms.map V.int)) nl8
    have x158 := x15.trans y8
    have lMf := copyLen eMf
    have lT9 : T.length ≤ 9 := by have := lT.len; simp only [Tr.ns, List.length_map] at this; omega
    refine beh_use (L := Mf) (N := T) (y8.at hDf) (hMf.ext y8) (x158.at hT) (hTT.ext x158) (mk upd_same) (by rw [eMf]; exact dL.up) (by rw [eMf]; exact lT.rows hin) lT.tray (by omega) (fun Dg Mg H16 nDg hDg hMg cg nMg lMg x16 => ?_)
    rw [eMf] at cg
    have eg := (cg.congr lT.beh).same cd
    have eo := cO.same cd
    have x1416 := x158.trans x16
    have dg := hMg.is hDg
    rw [eg] at dg
    have dO' := (hMO.ext x1416).is (x1416.at hO)
    rw [eo] at dO'
    refine ⟨Dg, rfl, _, dg, bD.1, bD.2.1, bD.2.2, ?_⟩
    rw [decide_eq_true rfl]
    refine iteF ⟨_, dO', bD.1, bD.2.1, bD.2.2, ?_⟩
    rw [decide_eq_true rfl]
    refine iteF ?_
    have xE := x14.trans x1416
    exact ⟨r, c, q1, L, N, ms, b + 1 + d, R, rfl, xE.at hr8, hL8.ext xE, xE.at hc8, hN8.ext xE, mk (xE.at hq8), dL.up, hin, tin, lL, lN, cd, okD, fun H' x' => q H' (k08.trans (xE.trans x').kp)⟩
theorem sc_law : FnScope ["_law_script", "_law_cell"] ["_law_script"] (defScope s_law) := ⟨rfl, rfl, rfl, by decide +kernel, rfl, by decide +kernel, by decide +kernel⟩
def spLaw (K : PySem.W.Frag) : Sp := fun vs H Q _ => ∃ (a : Addr) (ns : List Int), vs = [.ref a] ∧ SqL K H a (ns.map V.int) ∧ ns.length ≤ 63 ∧ Only H ∧ ∀ H', Q (.bl true) H'
theorem ok_law {f : Addr} {fd : FuncData} (F : Fun K "law" "law" s_law f fd) (B : B K mg aG tE)
    (C__law_cell_at : Callee P w K mg base "_law_cell_at" 1 ["_law_script", "_law_k"] (spCell K))
    (C__law_well : Callee P w K mg base "_law_well" 1 ["_law_cell"] (spWell K))
    (C__law_right : Callee P w K mg base "_law_right" 7 ["_law_well_here"] (spRight K)) : FnOk P w K mg base CX0 8 f fd ["_law_script"] (spLaw K) := by
  refine F.okJ sc_law (fun vs H Q E h => ?_) (fun cdv A outer s H vs Q E hr h => ?_)
  · obtain ⟨a, ns, rfl, _⟩ := h
    rfl
  obtain ⟨a, ns, rfl, hS, h63, ho, q⟩ := h
  refine ⟨_, (bcons (sfor PassesOwn.never rfl (ilist (eop op_catQ (elstQ (acons (ecall C__law_cell_at (hr.mono (by decide)) rfl (acons (ev 0) (acons ei anil))) anil)) (eslice sl_listQ (ev 0) (osome ei) (osome ei)))) (gname (i := 1) sc_law.nd rfl (Or.inl rfl))
        (bone (sif (tnot (tval (ecall C__law_right (hr.mono (by decide)) rfl (acons (ecall C__law_well (hr.mono (by decide)) rfl (acons (ev 1) anil)) anil)))) (bone (sret ebl)) bnil)))
      (bone (sret ebl))), ?_⟩
  try walk_at "rn"
  refine ⟨a, ns, 0, rfl, hS, by decide, fun c0 => ?_⟩
  try walk_at "rn"
  intro b0 n0
  refine ⟨_, (Ext.new n0).same.seq hS, fun b1 n1 => ⟨_, (Ext.new n1).at upd_same, ?_, fun b2 n2 => ⟨⟨_, SqL.of upd_same⟩, ?_⟩⟩⟩
  · have z1 := cutV_length (ns.map V.int) (some 1) (some 5)
    rw [List.length_map] at z1
    simp only [List.length_cons, List.length_nil]
    omega
  have xG : Ext K H (upd (upd (upd H b0 (.lst [.int c0])) b1 (.lst (cutV (ns.map V.int) (some 1) (some 5)))) b2 (.lst ([V.int c0] ++ cutV (ns.map V.int) (some 1) (some 5)))) := (Ext.new n0).trans ((Ext.new n1).trans (Ext.new n2))
  have eG : (upd (upd (upd H b0 (.lst [.int c0])) b1 (.lst (cutV (ns.map V.int) (some 1) (some 5)))) b2 (.lst ([V.int c0] ++ cutV (ns.map V.int) (some 1) (some 5)))) b2 = some (.lst ([V.int c0] ++ cutV (ns.map V.int) (some 1) (some 5))) := upd_same
  generalize (upd (upd (upd H b0 (.lst [.int c0])) b1 (.lst (cutV (ns.map V.int) (some 1) (some 5)))) b2 (.lst ([V.int c0] ++ cutV (ns.map V.int) (some 1) (some 5)))) = G at xG eG ⊢
  have allI : ∀ x ∈ ([V.int c0] ++ cutV (ns.map V.int) (some 1) (some 5) : List V), ∃ c : Int, x = .int c := by
    intro x hx
    rcases List.mem_append.mp hx with hx | h
    · simp only [List.mem_cons, List.not_mem_nil, or_false] at hx
      exact ⟨_, hx⟩
    · obtain ⟨c, _, rfl⟩ := List.mem_map.mp (List.mem_of_mem_drop (List.mem_of_mem_take h))
      exact ⟨c, rfl⟩
  refine loop_list (xs := [V.int c0] ++ cutV (ns.map V.int) (some 1) (some 5)) (fun i σ H2 => ∃ v1, σ = [some (.ref a), v1] ∧ Ext K G H2) ⟨_, rfl, Ext.refl⟩ ?_ ?_ ?_
  · rintro i σ H2 _ ⟨_, _, x⟩
    exact SqL.of (x.at eG)
  · rintro i x σ H0 hi ⟨v1, rfl, x0⟩
    obtain ⟨c, rfl⟩ := allI x (List.mem_of_getElem? hi)
    try walk_at "rn"
    refine ⟨c, rfl, fun p x y z np => ?_⟩
    try walk_at "rn"
    refine ⟨p, _, _, _, rfl, upd_same, fun H1 k1 => ?_⟩
    try walk_at "rn"
    exact x0.trans (k1.ext np)
  · rintro σ H2 ⟨_, rfl, _⟩
    exact q H2
end
theorem all_mk {l : PySem.W.OpenLaw} {w : World} {K : PySem.W.Frag} {h : Heap} {mg : Str → Option Value} {fa f1 f2 f3 f4 f5 f6 f7 f8 f9 f10 f11 f12 f13 f14 f15 f16 f17 f18 f19 f20 f21 f22 f23 f24 f25 f26 f27 f28 f29 f30 f31 f32 f33 f34 : Addr} {od1 an1 od2 an2 od3 an3 od4 an4 od5 an5 od6 an6 od7 an7 od8 an8 od9 an9 od10 an10 od11 an11 od12 an12 od13 an13 od14 an14 od15 an15 od16 an16 od17 an17 od18 an18 od19 an19 od20 an20 od21 an21 od22 an22 od23 an23 od24 an24 od25 an25 od26 an26 od27 an27 od28 an28 od29 an29 od30 an30 od31 an31 od32 an32 od33 an33 od34 an34 : Option Addr} {sl1 sl2 sl3 sl4 sl5 sl6 sl7 sl8 sl9 sl10 sl11 sl12 sl13 sl14 sl15 sl16 sl17 sl18 sl19 sl20 sl21 sl22 sl23 sl24 sl25 sl26 sl27 sl28 sl29 sl30 sl31 sl32 sl33 sl34 : Array (Option Value)} {oc1 kV1 dc1 pm1 cd1 ct1 oc2 kV2 dc2 pm2 cd2 ct2 oc3 kV3 dc3 pm3 cd3 ct3 oc4 kV4 dc4 pm4 cd4 ct4 oc5 kV5 dc5 pm5 cd5 ct5 oc6 kV6 dc6 pm6 cd6 ct6 oc7 kV7 dc7 pm7 cd7 ct7 oc8 dc8 pm8 cd8 ct8 oc9 kV9 dc9 pm9 cd9 ct9 oc10 kV10 dc10 pm10 cd10 ct10 oc11 kV11 dc11 pm11 cd11 ct11 oc12 kV12 dc12 pm12 cd12 ct12 oc13 kV13 dc13 pm13 cd13 ct13 oc14 kV14 dc14 pm14 cd14 ct14 oc15 kV15 dc15 pm15 cd15 ct15 oc16 kV16 dc16 pm16 cd16 ct16 oc17 kV17 dc17 pm17 cd17 ct17 oc18 kV18 dc18 pm18 cd18 ct18 oc19 kV19 dc19 pm19 cd19 ct19 oc20 kV20 dc20 pm20 cd20 ct20 oc21 kV21 dc21 pm21 cd21 ct21 oc22 kV22 dc22 pm22 cd22 ct22 oc23 kV23 dc23 pm23 cd23 ct23 oc24 kV24 dc24 pm24 cd24 ct24 oc25 kV25 dc25 pm25 cd25 ct25 oc26 kV26 dc26 pm26 cd26 ct26 oc27 kV27 dc27 pm27 cd27 ct27 oc28 kV28 dc28 pm28 cd28 ct28 oc29 kV29 dc29 pm29 cd29 ct29 oc30 kV30 dc30 pm30 cd30 ct30 oc31 kV31 dc31 pm31 cd31 ct31 oc32 kV32 dc32 pm32 cd32 ct32 oc33 kV33 dc33 pm33 cd33 ct33 oc34 kV34 dc34 pm34 cd34 ct34 : Value} {aG : Addr} {tE : Tok} {dG : Option Addr} {tG : Tok} {nG : Nat} {slG : Array (Option Value)} {w8 : Addr} {wc8 : Value} {wd8 : Option Addr} {we8 : Array DictEntry} {wn8 : Nat} {ws8 : Array (Option Value)} (X : K.In h) (G : h.Ns mainGlobals mg) (hfa : mg "law" = some (.ref fa))
    (a1 : PySem.W.nsIn K mainGlobals "half_acts" = some (some (.ref f1))) (l1 : K.lookup f1 = some ⟨oc1, od1, .func (PySem.W.fnOf "half_acts" "half_acts" (defArgs s_half_acts) (defBody s_half_acts) (defScope s_half_acts) .none kV1 dc1 pm1 an1 cd1 ct1), sl1⟩) (c1 : PySem.W.codeIn K cd1 "half_acts" = true) (k1 : PySem.W.keepIn K (.ref f1) = true)
    (a2 : PySem.W.nsIn K mainGlobals "does" = some (some (.ref f2))) (l2 : K.lookup f2 = some ⟨oc2, od2, .func (PySem.W.fnOf "does" "does" (defArgs s_does) (defBody s_does) (defScope s_does) .none kV2 dc2 pm2 an2 cd2 ct2), sl2⟩) (c2 : PySem.W.codeIn K cd2 "does" = true) (k2 : PySem.W.keepIn K (.ref f2) = true)
    (a3 : PySem.W.nsIn K mainGlobals "half_behind" = some (some (.ref f3))) (l3 : K.lookup f3 = some ⟨oc3, od3, .func (PySem.W.fnOf "half_behind" "half_behind" (defArgs s_half_behind) (defBody s_half_behind) (defScope s_half_behind) .none kV3 dc3 pm3 an3 cd3 ct3), sl3⟩) (c3 : PySem.W.codeIn K cd3 "half_behind" = true) (k3 : PySem.W.keepIn K (.ref f3) = true)
    (a4 : PySem.W.nsIn K mainGlobals "joined" = some (some (.ref f4))) (l4 : K.lookup f4 = some ⟨oc4, od4, .func (PySem.W.fnOf "joined" "joined" (defArgs s_joined) (defBody s_joined) (defScope s_joined) .none kV4 dc4 pm4 an4 cd4 ct4), sl4⟩) (c4 : PySem.W.codeIn K cd4 "joined" = true) (k4 : PySem.W.keepIn K (.ref f4) = true)
    (a5 : PySem.W.nsIn K mainGlobals "have_common" = some (some (.ref f5))) (l5 : K.lookup f5 = some ⟨oc5, od5, .func (PySem.W.fnOf "have_common" "have_common" (defArgs s_have_common) (defBody s_have_common) (defScope s_have_common) .none kV5 dc5 pm5 an5 cd5 ct5), sl5⟩) (c5 : PySem.W.codeIn K cd5 "have_common" = true) (k5 : PySem.W.keepIn K (.ref f5) = true)
    (a6 : PySem.W.nsIn K mainGlobals "cut" = some (some (.ref f6))) (l6 : K.lookup f6 = some ⟨oc6, od6, .func (PySem.W.fnOf "cut" "cut" (defArgs s_cut) (defBody s_cut) (defScope s_cut) .none kV6 dc6 pm6 an6 cd6 ct6), sl6⟩) (c6 : PySem.W.codeIn K cd6 "cut" = true) (k6 : PySem.W.keepIn K (.ref f6) = true)
    (a7 : PySem.W.nsIn K mainGlobals "reached" = some (some (.ref f7))) (l7 : K.lookup f7 = some ⟨oc7, od7, .func (PySem.W.fnOf "reached" "reached" (defArgs s_reached) (defBody s_reached) (defScope s_reached) .none kV7 dc7 pm7 an7 cd7 ct7), sl7⟩) (c7 : PySem.W.codeIn K cd7 "reached" = true) (k7 : PySem.W.keepIn K (.ref f7) = true)
    (a8 : PySem.W.nsIn K mainGlobals "value_of" = some (some (.ref f8))) (l8 : K.lookup f8 = some ⟨oc8, od8, .func (PySem.W.fnOf "value_of" "value_of" (defArgs s_value_of) (defBody s_value_of) (defScope s_value_of) .none (.ref w8) dc8 pm8 an8 cd8 ct8), sl8⟩) (c8 : PySem.W.codeIn K cd8 "value_of" = true) (k8 : PySem.W.keepIn K (.ref f8) = true)
    (wl8 : K.lookup w8 = some ⟨wc8, wd8, .dict we8 wn8, ws8⟩) (wk8 : strKeysB we8 = true) (wf8 : nsFind we8 "at" = some .none)
    (a9 : PySem.W.nsIn K mainGlobals "put_behind" = some (some (.ref f9))) (l9 : K.lookup f9 = some ⟨oc9, od9, .func (PySem.W.fnOf "put_behind" "put_behind" (defArgs s_put_behind) (defBody s_put_behind) (defScope s_put_behind) .none kV9 dc9 pm9 an9 cd9 ct9), sl9⟩) (c9 : PySem.W.codeIn K cd9 "put_behind" = true) (k9 : PySem.W.keepIn K (.ref f9) = true)
    (a10 : PySem.W.nsIn K mainGlobals "sights_of" = some (some (.ref f10))) (l10 : K.lookup f10 = some ⟨oc10, od10, .func (PySem.W.fnOf "sights_of" "sights_of" (defArgs s_sights_of) (defBody s_sights_of) (defScope s_sights_of) .none kV10 dc10 pm10 an10 cd10 ct10), sl10⟩) (c10 : PySem.W.codeIn K cd10 "sights_of" = true) (k10 : PySem.W.keepIn K (.ref f10) = true)
    (a11 : PySem.W.nsIn K mainGlobals "swept_versions" = some (some (.ref f11))) (l11 : K.lookup f11 = some ⟨oc11, od11, .func (PySem.W.fnOf "swept_versions" "swept_versions" (defArgs s_swept_versions) (defBody s_swept_versions) (defScope s_swept_versions) .none kV11 dc11 pm11 an11 cd11 ct11), sl11⟩) (c11 : PySem.W.codeIn K cd11 "swept_versions" = true) (k11 : PySem.W.keepIn K (.ref f11) = true)
    (a12 : PySem.W.nsIn K mainGlobals "swept" = some (some (.ref f12))) (l12 : K.lookup f12 = some ⟨oc12, od12, .func (PySem.W.fnOf "swept" "swept" (defArgs s_swept) (defBody s_swept) (defScope s_swept) .none kV12 dc12 pm12 an12 cd12 ct12), sl12⟩) (c12 : PySem.W.codeIn K cd12 "swept" = true) (k12 : PySem.W.keepIn K (.ref f12) = true)
    (a13 : PySem.W.nsIn K mainGlobals "rows_behind" = some (some (.ref f13))) (l13 : K.lookup f13 = some ⟨oc13, od13, .func (PySem.W.fnOf "rows_behind" "rows_behind" (defArgs s_rows_behind) (defBody s_rows_behind) (defScope s_rows_behind) .none kV13 dc13 pm13 an13 cd13 ct13), sl13⟩) (c13 : PySem.W.codeIn K cd13 "rows_behind" = true) (k13 : PySem.W.keepIn K (.ref f13) = true)
    (a14 : PySem.W.nsIn K mainGlobals "within" = some (some (.ref f14))) (l14 : K.lookup f14 = some ⟨oc14, od14, .func (PySem.W.fnOf "within" "within" (defArgs s_within) (defBody s_within) (defScope s_within) .none kV14 dc14 pm14 an14 cd14 ct14), sl14⟩) (c14 : PySem.W.codeIn K cd14 "within" = true) (k14 : PySem.W.keepIn K (.ref f14) = true)
    (a15 : PySem.W.nsIn K mainGlobals "without" = some (some (.ref f15))) (l15 : K.lookup f15 = some ⟨oc15, od15, .func (PySem.W.fnOf "without" "without" (defArgs s_without) (defBody s_without) (defScope s_without) .none kV15 dc15 pm15 an15 cd15 ct15), sl15⟩) (c15 : PySem.W.codeIn K cd15 "without" = true) (k15 : PySem.W.keepIn K (.ref f15) = true)
    (a16 : PySem.W.nsIn K mainGlobals "last_sharing" = some (some (.ref f16))) (l16 : K.lookup f16 = some ⟨oc16, od16, .func (PySem.W.fnOf "last_sharing" "last_sharing" (defArgs s_last_sharing) (defBody s_last_sharing) (defScope s_last_sharing) .none kV16 dc16 pm16 an16 cd16 ct16), sl16⟩) (c16 : PySem.W.codeIn K cd16 "last_sharing" = true) (k16 : PySem.W.keepIn K (.ref f16) = true)
    (a17 : PySem.W.nsIn K mainGlobals "may_join" = some (some (.ref f17))) (l17 : K.lookup f17 = some ⟨oc17, od17, .func (PySem.W.fnOf "may_join" "may_join" (defArgs s_may_join) (defBody s_may_join) (defScope s_may_join) .none kV17 dc17 pm17 an17 cd17 ct17), sl17⟩) (c17 : PySem.W.codeIn K cd17 "may_join" = true) (k17 : PySem.W.keepIn K (.ref f17) = true)
    (a18 : PySem.W.nsIn K mainGlobals "laid" = some (some (.ref f18))) (l18 : K.lookup f18 = some ⟨oc18, od18, .func (PySem.W.fnOf "laid" "laid" (defArgs s_laid) (defBody s_laid) (defScope s_laid) .none kV18 dc18 pm18 an18 cd18 ct18), sl18⟩) (c18 : PySem.W.codeIn K cd18 "laid" = true) (k18 : PySem.W.keepIn K (.ref f18) = true)
    (a19 : PySem.W.nsIn K mainGlobals "poured" = some (some (.ref f19))) (l19 : K.lookup f19 = some ⟨oc19, od19, .func (PySem.W.fnOf "poured" "poured" (defArgs s_poured) (defBody s_poured) (defScope s_poured) .none kV19 dc19 pm19 an19 cd19 ct19), sl19⟩) (c19 : PySem.W.codeIn K cd19 "poured" = true) (k19 : PySem.W.keepIn K (.ref f19) = true)
    (a20 : PySem.W.nsIn K mainGlobals "_law_cell_at" = some (some (.ref f20))) (l20 : K.lookup f20 = some ⟨oc20, od20, .func (PySem.W.fnOf "_law_cell_at" "_law_cell_at" (defArgs s__law_cell_at) (defBody s__law_cell_at) (defScope s__law_cell_at) .none kV20 dc20 pm20 an20 cd20 ct20), sl20⟩) (c20 : PySem.W.codeIn K cd20 "_law_cell_at" = true) (k20 : PySem.W.keepIn K (.ref f20) = true)
    (a21 : PySem.W.nsIn K mainGlobals "_law_well" = some (some (.ref f21))) (l21 : K.lookup f21 = some ⟨oc21, od21, .func (PySem.W.fnOf "_law_well" "_law_well" (defArgs s__law_well) (defBody s__law_well) (defScope s__law_well) .none kV21 dc21 pm21 an21 cd21 ct21), sl21⟩) (c21 : PySem.W.codeIn K cd21 "_law_well" = true) (k21 : PySem.W.keepIn K (.ref f21) = true)
    (a22 : PySem.W.nsIn K mainGlobals "_law_draw" = some (some (.ref f22))) (l22 : K.lookup f22 = some ⟨oc22, od22, .func (PySem.W.fnOf "_law_draw" "_law_draw" (defArgs s__law_draw) (defBody s__law_draw) (defScope s__law_draw) .none kV22 dc22 pm22 an22 cd22 ct22), sl22⟩) (c22 : PySem.W.codeIn K cd22 "_law_draw" = true) (k22 : PySem.W.keepIn K (.ref f22) = true)
    (a23 : PySem.W.nsIn K mainGlobals "_law_value" = some (some (.ref f23))) (l23 : K.lookup f23 = some ⟨oc23, od23, .func (PySem.W.fnOf "_law_value" "_law_value" (defArgs s__law_value) (defBody s__law_value) (defScope s__law_value) .none kV23 dc23 pm23 an23 cd23 ct23), sl23⟩) (c23 : PySem.W.codeIn K cd23 "_law_value" = true) (k23 : PySem.W.keepIn K (.ref f23) = true)
    (a24 : PySem.W.nsIn K mainGlobals "_law_base" = some (some (.ref f24))) (l24 : K.lookup f24 = some ⟨oc24, od24, .func (PySem.W.fnOf "_law_base" "_law_base" (defArgs s__law_base) (defBody s__law_base) (defScope s__law_base) .none kV24 dc24 pm24 an24 cd24 ct24), sl24⟩) (c24 : PySem.W.codeIn K cd24 "_law_base" = true) (k24 : PySem.W.keepIn K (.ref f24) = true)
    (a25 : PySem.W.nsIn K mainGlobals "_law_rows" = some (some (.ref f25))) (l25 : K.lookup f25 = some ⟨oc25, od25, .func (PySem.W.fnOf "_law_rows" "_law_rows" (defArgs s__law_rows) (defBody s__law_rows) (defScope s__law_rows) .none kV25 dc25 pm25 an25 cd25 ct25), sl25⟩) (c25 : PySem.W.codeIn K cd25 "_law_rows" = true) (k25 : PySem.W.keepIn K (.ref f25) = true)
    (a26 : PySem.W.nsIn K mainGlobals "_law_marks" = some (some (.ref f26))) (l26 : K.lookup f26 = some ⟨oc26, od26, .func (PySem.W.fnOf "_law_marks" "_law_marks" (defArgs s__law_marks) (defBody s__law_marks) (defScope s__law_marks) .none kV26 dc26 pm26 an26 cd26 ct26), sl26⟩) (c26 : PySem.W.codeIn K cd26 "_law_marks" = true) (k26 : PySem.W.keepIn K (.ref f26) = true)
    (a27 : PySem.W.nsIn K mainGlobals "_law_copied" = some (some (.ref f27))) (l27 : K.lookup f27 = some ⟨oc27, od27, .func (PySem.W.fnOf "_law_copied" "_law_copied" (defArgs s__law_copied) (defBody s__law_copied) (defScope s__law_copied) .none kV27 dc27 pm27 an27 cd27 ct27), sl27⟩) (c27 : PySem.W.codeIn K cd27 "_law_copied" = true) (k27 : PySem.W.keepIn K (.ref f27) = true)
    (a28 : PySem.W.nsIn K mainGlobals "_law_number" = some (some (.ref f28))) (l28 : K.lookup f28 = some ⟨oc28, od28, .func (PySem.W.fnOf "_law_number" "_law_number" (defArgs s__law_number) (defBody s__law_number) (defScope s__law_number) .none kV28 dc28 pm28 an28 cd28 ct28), sl28⟩) (c28 : PySem.W.codeIn K cd28 "_law_number" = true) (k28 : PySem.W.keepIn K (.ref f28) = true)
    (a29 : PySem.W.nsIn K mainGlobals "_law_action" = some (some (.ref f29))) (l29 : K.lookup f29 = some ⟨oc29, od29, .func (PySem.W.fnOf "_law_action" "_law_action" (defArgs s__law_action) (defBody s__law_action) (defScope s__law_action) .none kV29 dc29 pm29 an29 cd29 ct29), sl29⟩) (c29 : PySem.W.codeIn K cd29 "_law_action" = true) (k29 : PySem.W.keepIn K (.ref f29) = true)
    (a30 : PySem.W.nsIn K mainGlobals "_law_tray" = some (some (.ref f30))) (l30 : K.lookup f30 = some ⟨oc30, od30, .func (PySem.W.fnOf "_law_tray" "_law_tray" (defArgs s__law_tray) (defBody s__law_tray) (defScope s__law_tray) .none kV30 dc30 pm30 an30 cd30 ct30), sl30⟩) (c30 : PySem.W.codeIn K cd30 "_law_tray" = true) (k30 : PySem.W.keepIn K (.ref f30) = true)
    (a31 : PySem.W.nsIn K mainGlobals "_law_notes" = some (some (.ref f31))) (l31 : K.lookup f31 = some ⟨oc31, od31, .func (PySem.W.fnOf "_law_notes" "_law_notes" (defArgs s__law_notes) (defBody s__law_notes) (defScope s__law_notes) .none kV31 dc31 pm31 an31 cd31 ct31), sl31⟩) (c31 : PySem.W.codeIn K cd31 "_law_notes" = true) (k31 : PySem.W.keepIn K (.ref f31) = true)
    (a32 : PySem.W.nsIn K mainGlobals "_law_cut_right" = some (some (.ref f32))) (l32 : K.lookup f32 = some ⟨oc32, od32, .func (PySem.W.fnOf "_law_cut_right" "_law_cut_right" (defArgs s__law_cut_right) (defBody s__law_cut_right) (defScope s__law_cut_right) .none kV32 dc32 pm32 an32 cd32 ct32), sl32⟩) (c32 : PySem.W.codeIn K cd32 "_law_cut_right" = true) (k32 : PySem.W.keepIn K (.ref f32) = true)
    (a33 : PySem.W.nsIn K mainGlobals "_law_right" = some (some (.ref f33))) (l33 : K.lookup f33 = some ⟨oc33, od33, .func (PySem.W.fnOf "_law_right" "_law_right" (defArgs s__law_right) (defBody s__law_right) (defScope s__law_right) .none kV33 dc33 pm33 an33 cd33 ct33), sl33⟩) (c33 : PySem.W.codeIn K cd33 "_law_right" = true) (k33 : PySem.W.keepIn K (.ref f33) = true)
    (a34 : PySem.W.nsIn K mainGlobals "law" = some (some (.ref f34))) (l34 : K.lookup f34 = some ⟨oc34, od34, .func (PySem.W.fnOf "law" "law" (defArgs s_law) (defBody s_law) (defScope s_law) .none kV34 dc34 pm34 an34 cd34 ct34), sl34⟩) (c34 : PySem.W.codeIn K cd34 "law" = true) (k34 : PySem.W.keepIn K (.ref f34) = true)
    (z_len : PySem.W.nsIn K mainGlobals "len" = some none)
    (z_int : PySem.W.nsIn K mainGlobals "int" = some none)
    (z_range : PySem.W.nsIn K mainGlobals "range" = some none)
    (z_list : PySem.W.nsIn K mainGlobals "list" = some none)
    (z_sorted : PySem.W.nsIn K mainGlobals "sorted" = some none)
    (z_set : PySem.W.nsIn K mainGlobals "set" = some none)
    (z_zip : PySem.W.nsIn K mainGlobals "zip" = some none)
    (z_repr : PySem.W.nsIn K mainGlobals "repr" = some none)
    (z_min : PySem.W.nsIn K mainGlobals "min" = some none)
    (z_max : PySem.W.nsIn K mainGlobals "max" = some none)
    (z_any : PySem.W.nsIn K mainGlobals "any" = some none)
    (z_enumerate : PySem.W.nsIn K mainGlobals "enumerate" = some none)
    (z_GONE : PySem.W.nsIn K mainGlobals "GONE" = some (some (.ref aG)))
    (z_END : PySem.W.nsIn K mainGlobals "END" = some (some (.int 1000000000000 tE)))
    (z_kG : K.lookup aG = some ⟨.type "tuple", dG, .seq #[.str "gone" tG] nG, slG⟩) :
    ∃ fd : FuncData, (∀ (s : Shared) (v : Value), BindsTo s fd ⟨[v], []⟩ [("_law_script", v)]) ∧ ∀ base : Heap, K.In base → base.Ns mainGlobals mg → FnOk l.prog w K mg base CX0 8 fa fd ["_law_script"] (spLaw K) := by
  have e := hfa.symm.trans (PySem.W.mg_of X G a34)
  cases e
  have B := (B.mk (PySem.W.mg_none_of X G z_len) (PySem.W.mg_none_of X G z_int) (PySem.W.mg_none_of X G z_range) (PySem.W.mg_none_of X G z_list) (PySem.W.mg_none_of X G z_sorted) (PySem.W.mg_none_of X G z_set) (PySem.W.mg_none_of X G z_zip) (PySem.W.mg_none_of X G z_repr) (PySem.W.mg_none_of X G z_min) (PySem.W.mg_none_of X G z_max) (PySem.W.mg_none_of X G z_any) (PySem.W.mg_none_of X G z_enumerate) (PySem.W.mg_of X G z_GONE) (PySem.W.mg_of X G z_END) (kTup_of z_kG (by simp) rfl) : B K mg aG tE)
  have F1 := fun_mk (st := s_half_acts) l1 c1 k1
  have b1 := F1.binds (ps := ["half", "value"]) fun _ _ _ _ _ _ us hl => match us, hl with | [_, _], _ => rfl
  have F2 := fun_mk (st := s_does) l2 c2 k2
  have b2 := F2.binds (ps := ["action", "value"]) fun _ _ _ _ _ _ us hl => match us, hl with | [_, _], _ => rfl
  have F3 := fun_mk (st := s_half_behind) l3 c3 k3
  have b3 := F3.binds (ps := ["half", "other"]) fun _ _ _ _ _ _ us hl => match us, hl with | [_, _], _ => rfl
  have F4 := fun_mk (st := s_joined) l4 c4 k4
  have b4 := F4.binds (ps := ["one", "other"]) fun _ _ _ _ _ _ us hl => match us, hl with | [_, _], _ => rfl
  have F5 := fun_mk (st := s_have_common) l5 c5 k5
  have b5 := F5.binds (ps := ["note", "other"]) fun _ _ _ _ _ _ us hl => match us, hl with | [_, _], _ => rfl
  have F6 := fun_mk (st := s_cut) l6 c6 k6
  have b6 := F6.binds (ps := ["note", "low", "high"]) fun _ _ _ _ _ _ us hl => match us, hl with | [_, _, _], _ => rfl
  have F7 := fun_mk (st := s_reached) l7 c7 k7
  have b7 := F7.binds (ps := ["note", "table"]) fun _ _ _ _ _ _ us hl => match us, hl with | [_, _], _ => rfl
  have F8 := fun_mk (st := s_value_of) l8 c8 k8
  have kb8 : KBinds K (PySem.W.fnOf "value_of" "value_of" (defArgs s_value_of) (defBody s_value_of) (defScope s_value_of) .none (.ref w8) dc8 pm8 an8 cd8 ct8) ["versions", "at"] ["at"] (gk 1 1) (gk 1 1) := kbinds rfl (by decide) fun s us ws h1 h2 => match us, h1, ws, h2 with | [_], _, [_], _ => .of_eq rfl
  have db8 : Binds K (PySem.W.fnOf "value_of" "value_of" (defArgs s_value_of) (defBody s_value_of) (defScope s_value_of) .none (.ref w8) dc8 pm8 an8 cd8 ct8) ["versions", "at"] [.none] := fun s us hK hl => match us, (show us.length = 1 by simpa using hl) with | [_], _ => by refine binds_kw3 hK wl8 wk8 wf8 (h₁ := rfl) ?_; rfl
  have F9 := fun_mk (st := s_put_behind) l9 c9 k9
  have b9 := F9.binds (ps := ["table", "note"]) fun _ _ _ _ _ _ us hl => match us, hl with | [_, _], _ => rfl
  have F10 := fun_mk (st := s_sights_of) l10 c10 k10
  have b10 := F10.binds (ps := ["versions", "marks"]) fun _ _ _ _ _ _ us hl => match us, hl with | [_, _], _ => rfl
  have F11 := fun_mk (st := s_swept_versions) l11 c11 k11
  have b11 := F11.binds (ps := ["versions", "marks"]) fun _ _ _ _ _ _ us hl => match us, hl with | [_, _], _ => rfl
  have F12 := fun_mk (st := s_swept) l12 c12 k12
  have b12 := F12.binds (ps := ["rows", "marks"]) fun _ _ _ _ _ _ us hl => match us, hl with | [_, _], _ => rfl
  have F13 := fun_mk (st := s_rows_behind) l13 c13 k13
  have b13 := F13.binds (ps := ["rows", "notes", "marks"]) fun _ _ _ _ _ _ us hl => match us, hl with | [_, _, _], _ => rfl
  have F14 := fun_mk (st := s_within) l14 c14 k14
  have b14 := F14.binds (ps := ["tray", "low", "high"]) fun _ _ _ _ _ _ us hl => match us, hl with | [_, _, _], _ => rfl
  have F15 := fun_mk (st := s_without) l15 c15 k15
  have b15 := F15.binds (ps := ["tray", "low", "high"]) fun _ _ _ _ _ _ us hl => match us, hl with | [_, _, _], _ => rfl
  have F16 := fun_mk (st := s_last_sharing) l16 c16 k16
  have b16 := F16.binds (ps := ["tray", "note"]) fun _ _ _ _ _ _ us hl => match us, hl with | [_, _], _ => rfl
  have F17 := fun_mk (st := s_may_join) l17 c17 k17
  have b17 := F17.binds (ps := ["elder", "note", "marks"]) fun _ _ _ _ _ _ us hl => match us, hl with | [_, _, _], _ => rfl
  have F18 := fun_mk (st := s_laid) l18 c18 k18
  have b18 := F18.binds (ps := ["tray", "note", "marks"]) fun _ _ _ _ _ _ us hl => match us, hl with | [_, _, _], _ => rfl
  have F19 := fun_mk (st := s_poured) l19 c19 k19
  have b19 := F19.binds (ps := ["tray", "low", "high"]) fun _ _ _ _ _ _ us hl => match us, hl with | [_, _, _], _ => rfl
  have F20 := fun_mk (st := s__law_cell_at) l20 c20 k20
  have b20 := F20.binds (ps := ["_law_script", "_law_k"]) fun _ _ _ _ _ _ us hl => match us, hl with | [_, _], _ => rfl
  have F21 := fun_mk (st := s__law_well) l21 c21 k21
  have b21 := F21.binds (ps := ["_law_cell"]) fun _ _ _ _ _ _ us hl => match us, hl with | [_], _ => rfl
  have F22 := fun_mk (st := s__law_draw) l22 c22 k22
  have b22 := F22.binds (ps := ["_law_well_here", "_law_many"]) fun _ _ _ _ _ _ us hl => match us, hl with | [_, _], _ => rfl
  have F23 := fun_mk (st := s__law_value) l23 c23 k23
  have b23 := F23.binds (ps := ["_law_well_here"]) fun _ _ _ _ _ _ us hl => match us, hl with | [_], _ => rfl
  have F24 := fun_mk (st := s__law_base) l24 c24 k24
  have b24 := F24.binds (ps := ["_law_well_here"]) fun _ _ _ _ _ _ us hl => match us, hl with | [_], _ => rfl
  have F25 := fun_mk (st := s__law_rows) l25 c25 k25
  have b25 := F25.binds (ps := ["_law_well_here", "_law_base_here"]) fun _ _ _ _ _ _ us hl => match us, hl with | [_, _], _ => rfl
  have F26 := fun_mk (st := s__law_marks) l26 c26 k26
  have b26 := F26.binds (ps := ["_law_well_here", "_law_most"]) fun _ _ _ _ _ _ us hl => match us, hl with | [_, _], _ => rfl
  have F27 := fun_mk (st := s__law_copied) l27 c27 k27
  have b27 := F27.binds (ps := ["_law_rows_here"]) fun _ _ _ _ _ _ us hl => match us, hl with | [_], _ => rfl
  have F28 := fun_mk (st := s__law_number) l28 c28 k28
  have b28 := F28.binds (ps := ["_law_well_here"]) fun _ _ _ _ _ _ us hl => match us, hl with | [_], _ => rfl
  have F29 := fun_mk (st := s__law_action) l29 c29 k29
  have b29 := F29.binds (ps := ["_law_well_here", "_law_wide"]) fun _ _ _ _ _ _ us hl => match us, hl with | [_, _], _ => rfl
  have F30 := fun_mk (st := s__law_tray) l30 c30 k30
  have b30 := F30.binds (ps := ["_law_well_here", "_law_base_here", "_law_number_here", "_law_many"]) fun _ _ _ _ _ _ us hl => match us, hl with | [_, _, _, _], _ => rfl
  have F31 := fun_mk (st := s__law_notes) l31 c31 k31
  have b31 := F31.binds (ps := ["_law_well_here", "_law_base_here"]) fun _ _ _ _ _ _ us hl => match us, hl with | [_, _], _ => rfl
  have F32 := fun_mk (st := s__law_cut_right) l32 c32 k32
  have b32 := F32.binds (ps := ["_law_rows_here", "_law_notes_here", "_law_marks_here", "_law_key", "_law_due"]) fun _ _ _ _ _ _ us hl => match us, hl with | [_, _, _, _, _], _ => rfl
  have F33 := fun_mk (st := s__law_right) l33 c33 k33
  have b33 := F33.binds (ps := ["_law_well_here"]) fun _ _ _ _ _ _ us hl => match us, hl with | [_], _ => rfl
  have F34 := fun_mk (st := s_law) l34 c34 k34
  refine ⟨PySem.W.fnOf "law" "law" (defArgs s_law) (defBody s_law) (defScope s_law) .none kV34 dc34 pm34 an34 cd34 ct34, fun s v => .of_eq rfl, fun base _ _ => ?_⟩
  have C_half_acts : Callee l.prog w K mg base "half_acts" 1 ["half", "value"] (spHalfActs K) := ⟨f1, _, ok_half_acts F1 B , b1, k1, PySem.W.mg_of X G a1⟩
  have C_does : Callee l.prog w K mg base "does" 2 ["action", "value"] (spDoes K) := ⟨f2, _, ok_does F2 B (C_half_acts := C_half_acts), b2, k2, PySem.W.mg_of X G a2⟩
  have C_half_behind : Callee l.prog w K mg base "half_behind" 1 ["half", "other"] (spHalfBeh K) := ⟨f3, _, ok_half_behind F3 B , b3, k3, PySem.W.mg_of X G a3⟩
  have C_joined : Callee l.prog w K mg base "joined" 2 ["one", "other"] (spBehind K) := ⟨f4, _, ok_joined F4 B (C_half_behind := C_half_behind), b4, k4, PySem.W.mg_of X G a4⟩
  have C_have_common : Callee l.prog w K mg base "have_common" 1 ["note", "other"] (spCommon K) := ⟨f5, _, ok_have_common F5 B , b5, k5, PySem.W.mg_of X G a5⟩
  have C_cut : Callee l.prog w K mg base "cut" 1 ["note", "low", "high"] (spCut K) := ⟨f6, _, ok_cut F6 B , b6, k6, PySem.W.mg_of X G a6⟩
  have C_reached : Callee l.prog w K mg base "reached" 1 ["note", "table"] (spReached K) := ⟨f7, _, ok_reached F7 B , b7, k7, PySem.W.mg_of X G a7⟩
  have CK_value_of : CalleeK l.prog w K mg base "value_of" 1 ["versions", "at"] ["at"] 1 1 (spValueOf K) := ⟨f8, _, ok_value_of F8 B , kb8, k8, PySem.W.mg_of X G a8⟩
  have CD_value_of : CalleeD l.prog w K mg base "value_of" 1 ["versions", "at"] [.non] (spValueOf K) := ⟨f8, _, _, ok_value_of F8 B , db8, .cons rfl .nil, k8, PySem.W.mg_of X G a8⟩
  have C_put_behind : Callee l.prog w K mg base "put_behind" 3 ["table", "note"] (spPutBehind K) := ⟨f9, _, ok_put_behind F9 B (C_reached := C_reached) (CD_value_of := CD_value_of) (C_does := C_does), b9, k9, PySem.W.mg_of X G a9⟩
  have C_sights_of : Callee l.prog w K mg base "sights_of" 2 ["versions", "marks"] (spSights K) := ⟨f10, _, ok_sights_of F10 B (CD_value_of := CD_value_of), b10, k10, PySem.W.mg_of X G a10⟩
  have C_swept_versions : Callee l.prog w K mg base "swept_versions" 3 ["versions", "marks"] (spSweepV K) := ⟨f11, _, ok_swept_versions F11 B (C_sights_of := C_sights_of), b11, k11, PySem.W.mg_of X G a11⟩
  have C_swept : Callee l.prog w K mg base "swept" 4 ["rows", "marks"] (spSwept K) := ⟨f12, _, ok_swept F12 B (C_swept_versions := C_swept_versions), b12, k12, PySem.W.mg_of X G a12⟩
  have C_rows_behind : Callee l.prog w K mg base "rows_behind" 5 ["rows", "notes", "marks"] (spBehindR K) := ⟨f13, _, ok_rows_behind F13 B (C_swept := C_swept) (C_put_behind := C_put_behind), b13, k13, PySem.W.mg_of X G a13⟩
  have C_within : Callee l.prog w K mg base "within" 2 ["tray", "low", "high"] (spWithin K inF) := ⟨f14, _, ok_within F14 B (C_cut := C_cut), b14, k14, PySem.W.mg_of X G a14⟩
  have C_without : Callee l.prog w K mg base "without" 2 ["tray", "low", "high"] (spWithin K outF) := ⟨f15, _, ok_without F15 B (C_cut := C_cut), b15, k15, PySem.W.mg_of X G a15⟩
  have C_last_sharing : Callee l.prog w K mg base "last_sharing" 2 ["tray", "note"] (spLast K) := ⟨f16, _, ok_last_sharing F16 B (C_have_common := C_have_common), b16, k16, PySem.W.mg_of X G a16⟩
  have C_may_join : Callee l.prog w K mg base "may_join" 1 ["elder", "note", "marks"] (spMay K) := ⟨f17, _, ok_may_join F17 B , b17, k17, PySem.W.mg_of X G a17⟩
  have C_laid : Callee l.prog w K mg base "laid" 3 ["tray", "note", "marks"] (spLaid K) := ⟨f18, _, ok_laid F18 B (C_last_sharing := C_last_sharing) (C_joined := C_joined) (C_may_join := C_may_join), b18, k18, PySem.W.mg_of X G a18⟩
  have C_poured : Callee l.prog w K mg base "poured" 3 ["tray", "low", "high"] (spPoured K) := ⟨f19, _, ok_poured F19 B (C_within := C_within) (C_without := C_without), b19, k19, PySem.W.mg_of X G a19⟩
  have C__law_cell_at : Callee l.prog w K mg base "_law_cell_at" 1 ["_law_script", "_law_k"] (spCell K) := ⟨f20, _, ok__law_cell_at F20 B , b20, k20, PySem.W.mg_of X G a20⟩
  have C__law_well : Callee l.prog w K mg base "_law_well" 1 ["_law_cell"] (spWell K) := ⟨f21, _, ok__law_well F21 B , b21, k21, PySem.W.mg_of X G a21⟩
  have C__law_draw : Callee l.prog w K mg base "_law_draw" 1 ["_law_well_here", "_law_many"] (spDraw K) := ⟨f22, _, ok__law_draw F22 B , b22, k22, PySem.W.mg_of X G a22⟩
  have C__law_value : Callee l.prog w K mg base "_law_value" 2 ["_law_well_here"] (spValue K) := ⟨f23, _, ok__law_value F23 B (C__law_draw := C__law_draw), b23, k23, PySem.W.mg_of X G a23⟩
  have C__law_base : Callee l.prog w K mg base "_law_base" 2 ["_law_well_here"] (spBase K) := ⟨f24, _, ok__law_base F24 B (C__law_draw := C__law_draw), b24, k24, PySem.W.mg_of X G a24⟩
  have C__law_rows : Callee l.prog w K mg base "_law_rows" 3 ["_law_well_here", "_law_base_here"] (spRows K) := ⟨f25, _, ok__law_rows F25 B (C__law_draw := C__law_draw) (C__law_value := C__law_value), b25, k25, PySem.W.mg_of X G a25⟩
  have C__law_marks : Callee l.prog w K mg base "_law_marks" 2 ["_law_well_here", "_law_most"] (spMarksS K) := ⟨f26, _, ok__law_marks F26 B (C__law_draw := C__law_draw), b26, k26, PySem.W.mg_of X G a26⟩
  have C__law_copied : Callee l.prog w K mg base "_law_copied" 1 ["_law_rows_here"] (spCopied K) := ⟨f27, _, ok__law_copied F27 B , b27, k27, PySem.W.mg_of X G a27⟩
  have C__law_number : Callee l.prog w K mg base "_law_number" 2 ["_law_well_here"] (spNumber K) := ⟨f28, _, ok__law_number F28 B (C__law_draw := C__law_draw), b28, k28, PySem.W.mg_of X G a28⟩
  have C__law_action : Callee l.prog w K mg base "_law_action" 3 ["_law_well_here", "_law_wide"] (spActionW K) := ⟨f29, _, ok__law_action F29 B (C__law_draw := C__law_draw) (C__law_number := C__law_number), b29, k29, PySem.W.mg_of X G a29⟩
  have C__law_tray : Callee l.prog w K mg base "_law_tray" 4 ["_law_well_here", "_law_base_here", "_law_number_here", "_law_many"] (spTray K) := ⟨f30, _, ok__law_tray F30 B (C__law_draw := C__law_draw) (C__law_action := C__law_action), b30, k30, PySem.W.mg_of X G a30⟩
  have C__law_notes : Callee l.prog w K mg base "_law_notes" 5 ["_law_well_here", "_law_base_here"] (spNotes26 K) := ⟨f31, _, ok__law_notes F31 B (C__law_tray := C__law_tray) (C__law_draw := C__law_draw) (C__law_action := C__law_action), b31, k31, PySem.W.mg_of X G a31⟩
  have C__law_cut_right : Callee l.prog w K mg base "_law_cut_right" 6 ["_law_rows_here", "_law_notes_here", "_law_marks_here", "_law_key", "_law_due"] (spCutR K) := ⟨f32, _, ok__law_cut_right F32 B (C_rows_behind := C_rows_behind) (C__law_copied := C__law_copied) (C_poured := C_poured), b32, k32, PySem.W.mg_of X G a32⟩
  have C__law_right : Callee l.prog w K mg base "_law_right" 7 ["_law_well_here"] (spRight K) := ⟨f33, _, ok__law_right F33 B (C__law_marks := C__law_marks) (C__law_base := C__law_base) (C__law_rows := C__law_rows) (C__law_notes := C__law_notes) (C__law_draw := C__law_draw) (C_rows_behind := C_rows_behind) (C_swept := C_swept) (C__law_cut_right := C__law_cut_right) (C__law_copied := C__law_copied) (C_laid := C_laid), b33, k33, PySem.W.mg_of X G a33⟩
  exact ok_law F34 B (C__law_cell_at := C__law_cell_at) (C__law_right := C__law_right) (C__law_well := C__law_well)
theorem walk {l : PySem.W.OpenLaw} {q : Program} {loose : List Str} {XP : (Str → Option Value) → Heap → Prop} {YP : World → Heap → Prop} {d : DefRec} {K : Params → PySem.W.Frag} (hn : l.most = some 63) (hdf : d.params.defaults = [])
    (hY : ∀ (w : World) (h : Heap), YP w h → (K w.params).In h)
    (F : ∀ (w : World) (mg : Str → Option Value) (fa : Addr) (h : Heap), (K w.params).In h → h.Ns mainGlobals mg → mg d.name = some (.ref fa) →
      ∃ fd : FuncData, (∀ (s : Shared) (u : Value), BindsTo s fd ⟨[u], []⟩ [("_law_script", u)]) ∧ ∀ base : Heap, (K w.params).In base → base.Ns mainGlobals mg → FnOk l.prog w (K w.params) mg base CX0 8 fa fd ["_law_script"] (spLaw (K w.params))) :
    PySem.W.WalkO q loose XP YP l.row.toRowW d [] (fun f vs => PySem.call f vs) :=
  L2.walk_of (n := 63) (k := 8) (x := "_law_script") (CX := fun _ => CX0) (sp := fun w => spLaw (K w.params)) hn (by decide) hdf ⟨rfl, by decide, by decide, rfl⟩ hY F (fun _ _ a ns hl ho hS => ⟨a, ns, rfl, hS, hl, ho, fun _ => rfl⟩) fun _ _ _ _ _ z => z
abbrev kh (P : Params) (x : Str) : Int := PyData.keyHash P x
def hK (P : Params) : PySem.W.Frag :=
 (nat_lit 2, ⟨.none, none, (.dict (List.toArray ( [])) 0), #[]⟩) ::
 (nat_lit 3, ⟨(.type "dict"), none, (.dict (List.toArray (⟨kh P "__name__", (.str "__name__" 165), (.str "law_notefall_k26_whole_leaves_whichever_way" 375)⟩ :: ⟨kh P "__doc__", (.str "__doc__" 166), .none⟩ :: ⟨kh P "__package__", (.str "__package__" 167), .none⟩ :: ⟨kh P "__loader__", (.str "__loader__" 168), (.builtin "__main__.__loader__#opaque")⟩ :: ⟨kh P "__spec__", (.str "__spec__" 169), .none⟩ :: ⟨kh P "__annotations__", (.str "__annotations__" 170), (.ref 6)⟩ :: ⟨kh P "__builtins__", (.str "__builtins__" 171), (.ref 4)⟩ :: ⟨kh P "__file__", (.str "__file__" 173), (.str "/claim/cut.py" 172)⟩ :: ⟨kh P "__cached__", (.str "__cached__" 174), .none⟩ :: ⟨kh P "END", (.str "END" 190), (.int 1000000000000 189)⟩ :: ⟨kh P "GONE", (.str "GONE" 194), (.ref 15)⟩ :: ⟨kh P "half_acts", (.str "half_acts" 204), (.ref 22)⟩ :: ⟨kh P "does", (.str "does" 214), (.ref 29)⟩ :: ⟨kh P "half_behind", (.str "half_behind" 226), (.ref 36)⟩ :: ⟨kh P "joined", (.str "joined" 236), (.ref 43)⟩ :: ⟨kh P "have_common", (.str "have_common" 246), (.ref 50)⟩ :: ⟨kh P "cut", (.str "cut" 261), (.ref 57)⟩ :: ⟨kh P "reached", (.str "reached" 267), (.ref 62)⟩ :: ⟨kh P "value_of", (.str "value_of" 281), (.ref 70)⟩ :: ⟨kh P "put_behind", (.str "put_behind" 294), (.ref 77)⟩ :: ⟨kh P "rows_behind", (.str "rows_behind" 300), (.ref 82)⟩ :: ⟨kh P "sights_of", (.str "sights_of" 312), (.ref 89)⟩ :: ⟨kh P "swept_versions", (.str "swept_versions" 318), (.ref 94)⟩ :: ⟨kh P "swept", (.str "swept" 324), (.ref 99)⟩ :: ⟨kh P "within", (.str "within" 332), (.ref 104)⟩ :: ⟨kh P "without", (.str "without" 338), (.ref 109)⟩ :: ⟨kh P "last_sharing", (.str "last_sharing" 344), (.ref 114)⟩ :: ⟨kh P "may_join", (.str "may_join" 350), (.ref 119)⟩ :: ⟨kh P "laid", (.str "laid" 365), (.ref 126)⟩ :: ⟨kh P "poured", (.str "poured" 374), (.ref 133)⟩ :: ⟨kh P "_law_cell_at", (.str "_law_cell_at" 384), (.ref 140)⟩ :: ⟨kh P "_law_well", (.str "_law_well" 391), (.ref 147)⟩ :: ⟨kh P "_law_draw", (.str "_law_draw" 401), (.ref 154)⟩ :: ⟨kh P "_law_value", (.str "_law_value" 409), (.ref 161)⟩ :: ⟨kh P "_law_seen", (.str "_law_seen" 415), (.ref 166)⟩ :: ⟨kh P "_law_by_views", (.str "_law_by_views" 421), (.ref 171)⟩ :: ⟨kh P "_law_swept", (.str "_law_swept" 427), (.ref 176)⟩ :: ⟨kh P "_law_base", (.str "_law_base" 435), (.ref 183)⟩ :: ⟨kh P "_law_rows", (.str "_law_rows" 448), (.ref 190)⟩ :: ⟨kh P "_law_marks", (.str "_law_marks" 454), (.ref 195)⟩ :: ⟨kh P "_law_copied", (.str "_law_copied" 460), (.ref 200)⟩ :: ⟨kh P "_law_number", (.str "_law_number" 467), (.ref 207)⟩ :: ⟨kh P "_law_action", (.str "_law_action" 477), (.ref 214)⟩ :: ⟨kh P "_law_tray", (.str "_law_tray" 491), (.ref 221)⟩ :: ⟨kh P "_law_acts", (.str "_law_acts" 500), (.ref 228)⟩ :: ⟨kh P "_law_notes", (.str "_law_notes" 514), (.ref 235)⟩ :: ⟨kh P "_law_cut_right", (.str "_law_cut_right" 520), (.ref 240)⟩ :: ⟨kh P "_law_right", (.str "_law_right" 538), (.ref 247)⟩ :: ⟨kh P "law", (.str "law" 546), (.ref 254)⟩ :: [])) 49), #[]⟩) ::
 (nat_lit 15, ⟨(.type "tuple"), none, (.seq #[(.str "gone" 193)] 0), #[]⟩) ::
 (nat_lit 16, ⟨(.type "tuple"), none, (.seq #[] 0), #[]⟩) ::
 (nat_lit 18, ⟨(.type "tuple"), none, (.seq #[(.str "half" 198), (.str "value" 199), (.str "word" 200), (.str "number" 201)] 0), #[]⟩) ::
 (nat_lit 19, ⟨(.type "tuple"), none, (.seq #[] 0), #[]⟩) ::
 (nat_lit 21, ⟨(.type "code"), none, (.fields #[(.str "half_acts" 195), (.str "half_acts" 196), (.str "/claim/cut.py" 197), (.int 4 0), (.int 2 0), (.int 0 0), (.int 0 0), (.int 3 0), (.ref 16), (.bool true), (.int 181 0), (.ref 17), .none, (.ref 18), (.ref 19), (.ref 20), (.int 202 0), (.int 4 0), (.str "/claim/cut.py" 203)]), #[]⟩) ::
 (nat_lit 22, ⟨(.type "function"), none, (.func ⟨"half_acts", "half_acts", defArgs (top 3), .stmts (defBody (top 3)), defScope (top 3), 3, [], .none, .none, .none, (.str "notefall.actions" 191), none, (.ref 21), .none, 0⟩), #[]⟩) ::
 (nat_lit 23, ⟨(.type "tuple"), none, (.seq #[] 0), #[]⟩) ::
 (nat_lit 25, ⟨(.type "tuple"), none, (.seq #[(.str "action" 208), (.str "value" 209), (.str "there" 210), (.str "none" 211)] 0), #[]⟩) ::
 (nat_lit 26, ⟨(.type "tuple"), none, (.seq #[] 0), #[]⟩) ::
 (nat_lit 28, ⟨(.type "code"), none, (.fields #[(.str "does" 205), (.str "does" 206), (.str "/claim/cut.py" 207), (.int 9 0), (.int 2 0), (.int 0 0), (.int 0 0), (.int 3 0), (.ref 23), (.bool true), (.int 181 0), (.ref 24), .none, (.ref 25), (.ref 26), (.ref 27), (.int 212 0), (.int 9 0), (.str "/claim/cut.py" 213)]), #[]⟩) ::
 (nat_lit 29, ⟨(.type "function"), none, (.func ⟨"does", "does", defArgs (top 4), .stmts (defBody (top 4)), defScope (top 4), 3, [], .none, .none, .none, (.str "notefall.actions" 191), none, (.ref 28), .none, 0⟩), #[]⟩) ::
 (nat_lit 30, ⟨(.type "tuple"), none, (.seq #[] 0), #[]⟩) ::
 (nat_lit 32, ⟨(.type "tuple"), none, (.seq #[(.str "half" 218), (.str "other" 219), (.str "there" 220), (.str "none" 221), (.str "word" 222), (.str "number" 223)] 0), #[]⟩) ::
 (nat_lit 33, ⟨(.type "tuple"), none, (.seq #[] 0), #[]⟩) ::
 (nat_lit 35, ⟨(.type "code"), none, (.fields #[(.str "half_behind" 215), (.str "half_behind" 216), (.str "/claim/cut.py" 217), (.int 12 0), (.int 2 0), (.int 0 0), (.int 0 0), (.int 3 0), (.ref 30), (.bool true), (.int 181 0), (.ref 31), .none, (.ref 32), (.ref 33), (.ref 34), (.int 224 0), (.int 12 0), (.str "/claim/cut.py" 225)]), #[]⟩) ::
 (nat_lit 36, ⟨(.type "function"), none, (.func ⟨"half_behind", "half_behind", defArgs (top 5), .stmts (defBody (top 5)), defScope (top 5), 3, [], .none, .none, .none, (.str "notefall.actions" 191), none, (.ref 35), .none, 0⟩), #[]⟩) ::
 (nat_lit 37, ⟨(.type "tuple"), none, (.seq #[] 0), #[]⟩) ::
 (nat_lit 39, ⟨(.type "tuple"), none, (.seq #[(.str "one" 230), (.str "other" 231), (.str "there" 232), (.str "none" 233)] 0), #[]⟩) ::
 (nat_lit 40, ⟨(.type "tuple"), none, (.seq #[] 0), #[]⟩) ::
 (nat_lit 42, ⟨(.type "code"), none, (.fields #[(.str "joined" 227), (.str "joined" 228), (.str "/claim/cut.py" 229), (.int 20 0), (.int 2 0), (.int 0 0), (.int 0 0), (.int 3 0), (.ref 37), (.bool true), (.int 181 0), (.ref 38), .none, (.ref 39), (.ref 40), (.ref 41), (.int 234 0), (.int 20 0), (.str "/claim/cut.py" 235)]), #[]⟩) ::
 (nat_lit 43, ⟨(.type "function"), none, (.func ⟨"joined", "joined", defArgs (top 6), .stmts (defBody (top 6)), defScope (top 6), 3, [], .none, .none, .none, (.str "notefall.actions" 191), none, (.ref 42), .none, 0⟩), #[]⟩) ::
 (nat_lit 44, ⟨(.type "tuple"), none, (.seq #[] 0), #[]⟩) ::
 (nat_lit 46, ⟨(.type "tuple"), none, (.seq #[(.str "note" 242), (.str "other" 243)] 0), #[]⟩) ::
 (nat_lit 47, ⟨(.type "tuple"), none, (.seq #[] 0), #[]⟩) ::
 (nat_lit 49, ⟨(.type "code"), none, (.fields #[(.str "have_common" 239), (.str "have_common" 240), (.str "/claim/cut.py" 241), (.int 24 0), (.int 2 0), (.int 0 0), (.int 0 0), (.int 3 0), (.ref 44), (.bool true), (.int 181 0), (.ref 45), .none, (.ref 46), (.ref 47), (.ref 48), (.int 244 0), (.int 24 0), (.str "/claim/cut.py" 245)]), #[]⟩) ::
 (nat_lit 50, ⟨(.type "function"), none, (.func ⟨"have_common", "have_common", defArgs (top 8), .stmts (defBody (top 8)), defScope (top 8), 3, [], .none, .none, .none, (.str "notefall.notes" 237), none, (.ref 49), .none, 0⟩), #[]⟩) ::
 (nat_lit 51, ⟨(.type "tuple"), none, (.seq #[] 0), #[]⟩) ::
 (nat_lit 53, ⟨(.type "tuple"), none, (.seq #[(.str "note" 250), (.str "low" 251), (.str "high" 252), (.str "number" 253), (.str "note_low" 254), (.str "note_high" 255), (.str "action" 256), (.str "first" 257), (.str "end" 258)] 0), #[]⟩) ::
 (nat_lit 54, ⟨(.type "tuple"), none, (.seq #[] 0), #[]⟩) ::
 (nat_lit 56, ⟨(.type "code"), none, (.fields #[(.str "cut" 247), (.str "cut" 248), (.str "/claim/cut.py" 249), (.int 26 0), (.int 3 0), (.int 0 0), (.int 0 0), (.int 3 0), (.ref 51), (.bool true), (.int 181 0), (.ref 52), .none, (.ref 53), (.ref 54), (.ref 55), (.int 259 0), (.int 26 0), (.str "/claim/cut.py" 260)]), #[]⟩) ::
 (nat_lit 57, ⟨(.type "function"), none, (.func ⟨"cut", "cut", defArgs (top 9), .stmts (defBody (top 9)), defScope (top 9), 3, [], .none, .none, .none, (.str "notefall.notes" 237), none, (.ref 56), .none, 0⟩), #[]⟩) ::
 (nat_lit 58, ⟨(.type "tuple"), none, (.seq #[] 0), #[]⟩) ::
 (nat_lit 61, ⟨(.type "code"), none, (.fields #[(.str "reached" 262), (.str "reached" 263), (.str "/claim/cut.py" 264), (.int 31 0), (.int 2 0), (.int 0 0), (.int 0 0), (.int 3 0), (.ref 58), (.bool true), (.int 181 0), (.ref 59), .none, .none, .none, (.ref 60), (.int 265 0), (.int 31 0), (.str "/claim/cut.py" 266)]), #[]⟩) ::
 (nat_lit 62, ⟨(.type "function"), none, (.func ⟨"reached", "reached", defArgs (top 10), .stmts (defBody (top 10)), defScope (top 10), 3, [], .none, .none, .none, (.str "notefall.notes" 237), none, (.ref 61), .none, 0⟩), #[]⟩) ::
 (nat_lit 63, ⟨(.type "dict"), none, (.dict (List.toArray (⟨kh P "at", (.str "at" 270), .none⟩ :: [])) 1), #[]⟩) ::
 (nat_lit 64, ⟨(.type "tuple"), none, (.seq #[] 0), #[]⟩) ::
 (nat_lit 66, ⟨(.type "tuple"), none, (.seq #[(.str "versions" 274), (.str "at" 275), (.str "value" 276), (.str "number" 277), (.str "other" 278)] 0), #[]⟩) ::
 (nat_lit 67, ⟨(.type "tuple"), none, (.seq #[] 0), #[]⟩) ::
 (nat_lit 69, ⟨(.type "code"), none, (.fields #[(.str "value_of" 271), (.str "value_of" 272), (.str "/claim/cut.py" 273), (.int 37 0), (.int 1 0), (.int 0 0), (.int 1 0), (.int 3 0), (.ref 64), (.bool true), (.int 181 0), (.ref 65), .none, (.ref 66), (.ref 67), (.ref 68), (.int 279 0), (.int 37 0), (.str "/claim/cut.py" 280)]), #[]⟩) ::
 (nat_lit 70, ⟨(.type "function"), none, (.func ⟨"value_of", "value_of", defArgs (top 12), .stmts (defBody (top 12)), defScope (top 12), 3, [], .none, (.ref 63), .none, (.str "notefall.leaves" 268), none, (.ref 69), .none, 0⟩), #[]⟩) ::
 (nat_lit 71, ⟨(.type "tuple"), none, (.seq #[] 0), #[]⟩) ::
 (nat_lit 73, ⟨(.type "tuple"), none, (.seq #[(.str "table" 285), (.str "note" 286), (.str "keys" 287), (.str "key" 288), (.str "versions" 289), (.str "old" 290), (.str "new" 291)] 0), #[]⟩) ::
 (nat_lit 74, ⟨(.type "tuple"), none, (.seq #[] 0), #[]⟩) ::
 (nat_lit 76, ⟨(.type "code"), none, (.fields #[(.str "put_behind" 282), (.str "put_behind" 283), (.str "/claim/cut.py" 284), (.int 43 0), (.int 2 0), (.int 0 0), (.int 0 0), (.int 3 0), (.ref 71), (.bool true), (.int 181 0), (.ref 72), .none, (.ref 73), (.ref 74), (.ref 75), (.int 292 0), (.int 43 0), (.str "/claim/cut.py" 293)]), #[]⟩) ::
 (nat_lit 77, ⟨(.type "function"), none, (.func ⟨"put_behind", "put_behind", defArgs (top 13), .stmts (defBody (top 13)), defScope (top 13), 3, [], .none, .none, .none, (.str "notefall.leaves" 268), none, (.ref 76), .none, 0⟩), #[]⟩) ::
 (nat_lit 78, ⟨(.type "tuple"), none, (.seq #[] 0), #[]⟩) ::
 (nat_lit 81, ⟨(.type "code"), none, (.fields #[(.str "rows_behind" 295), (.str "rows_behind" 296), (.str "/claim/cut.py" 297), (.int 51 0), (.int 3 0), (.int 0 0), (.int 0 0), (.int 3 0), (.ref 78), (.bool true), (.int 181 0), (.ref 79), .none, .none, .none, (.ref 80), (.int 298 0), (.int 51 0), (.str "/claim/cut.py" 299)]), #[]⟩) ::
 (nat_lit 82, ⟨(.type "function"), none, (.func ⟨"rows_behind", "rows_behind", defArgs (top 14), .stmts (defBody (top 14)), defScope (top 14), 3, [], .none, .none, .none, (.str "notefall.leaves" 268), none, (.ref 81), .none, 0⟩), #[]⟩) ::
 (nat_lit 83, ⟨(.type "tuple"), none, (.seq #[] 0), #[]⟩) ::
 (nat_lit 85, ⟨(.type "tuple"), none, (.seq #[(.str "versions" 304), (.str "marks" 305), (.str "sights" 306), (.str "sight" 307), (.str "place" 308), (.str "mark" 309)] 0), #[]⟩) ::
 (nat_lit 86, ⟨(.type "tuple"), none, (.seq #[] 0), #[]⟩) ::
 (nat_lit 88, ⟨(.type "code"), none, (.fields #[(.str "sights_of" 301), (.str "sights_of" 302), (.str "/claim/cut.py" 303), (.int 56 0), (.int 2 0), (.int 0 0), (.int 0 0), (.int 3 0), (.ref 83), (.bool true), (.int 181 0), (.ref 84), .none, (.ref 85), (.ref 86), (.ref 87), (.int 310 0), (.int 56 0), (.str "/claim/cut.py" 311)]), #[]⟩) ::
 (nat_lit 89, ⟨(.type "function"), none, (.func ⟨"sights_of", "sights_of", defArgs (top 15), .stmts (defBody (top 15)), defScope (top 15), 3, [], .none, .none, .none, (.str "notefall.leaves" 268), none, (.ref 88), .none, 0⟩), #[]⟩) ::
 (nat_lit 90, ⟨(.type "tuple"), none, (.seq #[] 0), #[]⟩) ::
 (nat_lit 93, ⟨(.type "code"), none, (.fields #[(.str "swept_versions" 313), (.str "swept_versions" 314), (.str "/claim/cut.py" 315), (.int 66 0), (.int 2 0), (.int 0 0), (.int 0 0), (.int 3 0), (.ref 90), (.bool true), (.int 181 0), (.ref 91), .none, .none, .none, (.ref 92), (.int 316 0), (.int 66 0), (.str "/claim/cut.py" 317)]), #[]⟩) ::
 (nat_lit 94, ⟨(.type "function"), none, (.func ⟨"swept_versions", "swept_versions", defArgs (top 16), .stmts (defBody (top 16)), defScope (top 16), 3, [], .none, .none, .none, (.str "notefall.leaves" 268), none, (.ref 93), .none, 0⟩), #[]⟩) ::
 (nat_lit 95, ⟨(.type "tuple"), none, (.seq #[] 0), #[]⟩) ::
 (nat_lit 98, ⟨(.type "code"), none, (.fields #[(.str "swept" 319), (.str "swept" 320), (.str "/claim/cut.py" 321), (.int 75 0), (.int 2 0), (.int 0 0), (.int 0 0), (.int 3 0), (.ref 95), (.bool true), (.int 181 0), (.ref 96), .none, .none, .none, (.ref 97), (.int 322 0), (.int 75 0), (.str "/claim/cut.py" 323)]), #[]⟩) ::
 (nat_lit 99, ⟨(.type "function"), none, (.func ⟨"swept", "swept", defArgs (top 17), .stmts (defBody (top 17)), defScope (top 17), 3, [], .none, .none, .none, (.str "notefall.leaves" 268), none, (.ref 98), .none, 0⟩), #[]⟩) ::
 (nat_lit 100, ⟨(.type "tuple"), none, (.seq #[] 0), #[]⟩) ::
 (nat_lit 103, ⟨(.type "code"), none, (.fields #[(.str "within" 327), (.str "within" 328), (.str "/claim/cut.py" 329), (.int 79 0), (.int 3 0), (.int 0 0), (.int 0 0), (.int 3 0), (.ref 100), (.bool true), (.int 181 0), (.ref 101), .none, .none, .none, (.ref 102), (.int 330 0), (.int 79 0), (.str "/claim/cut.py" 331)]), #[]⟩) ::
 (nat_lit 104, ⟨(.type "function"), none, (.func ⟨"within", "within", defArgs (top 19), .stmts (defBody (top 19)), defScope (top 19), 3, [], .none, .none, .none, (.str "notefall.trays" 325), none, (.ref 103), .none, 0⟩), #[]⟩) ::
 (nat_lit 105, ⟨(.type "tuple"), none, (.seq #[] 0), #[]⟩) ::
 (nat_lit 108, ⟨(.type "code"), none, (.fields #[(.str "without" 333), (.str "without" 334), (.str "/claim/cut.py" 335), (.int 82 0), (.int 3 0), (.int 0 0), (.int 0 0), (.int 3 0), (.ref 105), (.bool true), (.int 181 0), (.ref 106), .none, .none, .none, (.ref 107), (.int 336 0), (.int 82 0), (.str "/claim/cut.py" 337)]), #[]⟩) ::
 (nat_lit 109, ⟨(.type "function"), none, (.func ⟨"without", "without", defArgs (top 20), .stmts (defBody (top 20)), defScope (top 20), 3, [], .none, .none, .none, (.str "notefall.trays" 325), none, (.ref 108), .none, 0⟩), #[]⟩) ::
 (nat_lit 110, ⟨(.type "tuple"), none, (.seq #[] 0), #[]⟩) ::
 (nat_lit 113, ⟨(.type "code"), none, (.fields #[(.str "last_sharing" 339), (.str "last_sharing" 340), (.str "/claim/cut.py" 341), (.int 85 0), (.int 2 0), (.int 0 0), (.int 0 0), (.int 3 0), (.ref 110), (.bool true), (.int 181 0), (.ref 111), .none, .none, .none, (.ref 112), (.int 342 0), (.int 85 0), (.str "/claim/cut.py" 343)]), #[]⟩) ::
 (nat_lit 114, ⟨(.type "function"), none, (.func ⟨"last_sharing", "last_sharing", defArgs (top 21), .stmts (defBody (top 21)), defScope (top 21), 3, [], .none, .none, .none, (.str "notefall.trays" 325), none, (.ref 113), .none, 0⟩), #[]⟩) ::
 (nat_lit 115, ⟨(.type "tuple"), none, (.seq #[] 0), #[]⟩) ::
 (nat_lit 118, ⟨(.type "code"), none, (.fields #[(.str "may_join" 345), (.str "may_join" 346), (.str "/claim/cut.py" 347), (.int 88 0), (.int 3 0), (.int 0 0), (.int 0 0), (.int 3 0), (.ref 115), (.bool true), (.int 181 0), (.ref 116), .none, .none, .none, (.ref 117), (.int 348 0), (.int 88 0), (.str "/claim/cut.py" 349)]), #[]⟩) ::
 (nat_lit 119, ⟨(.type "function"), none, (.func ⟨"may_join", "may_join", defArgs (top 22), .stmts (defBody (top 22)), defScope (top 22), 3, [], .none, .none, .none, (.str "notefall.trays" 325), none, (.ref 118), .none, 0⟩), #[]⟩) ::
 (nat_lit 120, ⟨(.type "tuple"), none, (.seq #[] 0), #[]⟩) ::
 (nat_lit 122, ⟨(.type "tuple"), none, (.seq #[(.str "tray" 354), (.str "note" 355), (.str "marks" 356), (.str "place" 357), (.str "number" 358), (.str "low" 359), (.str "high" 360), (.str "action" 361), (.str "both" 362)] 0), #[]⟩) ::
 (nat_lit 123, ⟨(.type "tuple"), none, (.seq #[] 0), #[]⟩) ::
 (nat_lit 125, ⟨(.type "code"), none, (.fields #[(.str "laid" 351), (.str "laid" 352), (.str "/claim/cut.py" 353), (.int 92 0), (.int 3 0), (.int 0 0), (.int 0 0), (.int 3 0), (.ref 120), (.bool true), (.int 181 0), (.ref 121), .none, (.ref 122), (.ref 123), (.ref 124), (.int 363 0), (.int 92 0), (.str "/claim/cut.py" 364)]), #[]⟩) ::
 (nat_lit 126, ⟨(.type "function"), none, (.func ⟨"laid", "laid", defArgs (top 23), .stmts (defBody (top 23)), defScope (top 23), 3, [], .none, .none, .none, (.str "notefall.trays" 325), none, (.ref 125), .none, 0⟩), #[]⟩) ::
 (nat_lit 127, ⟨(.type "tuple"), none, (.seq #[] 0), #[]⟩) ::
 (nat_lit 129, ⟨(.type "tuple"), none, (.seq #[(.str "tray" 369), (.str "low" 370), (.str "high" 371)] 0), #[]⟩) ::
 (nat_lit 130, ⟨(.type "tuple"), none, (.seq #[] 0), #[]⟩) ::
 (nat_lit 132, ⟨(.type "code"), none, (.fields #[(.str "poured" 366), (.str "poured" 367), (.str "/claim/cut.py" 368), (.int 99 0), (.int 3 0), (.int 0 0), (.int 0 0), (.int 3 0), (.ref 127), (.bool true), (.int 181 0), (.ref 128), .none, (.ref 129), (.ref 130), (.ref 131), (.int 372 0), (.int 99 0), (.str "/claim/cut.py" 373)]), #[]⟩) ::
 (nat_lit 133, ⟨(.type "function"), none, (.func ⟨"poured", "poured", defArgs (top 24), .stmts (defBody (top 24)), defScope (top 24), 3, [], .none, .none, .none, (.str "notefall.trays" 325), none, (.ref 132), .none, 0⟩), #[]⟩) ::
 (nat_lit 134, ⟨(.type "tuple"), none, (.seq #[] 0), #[]⟩) ::
 (nat_lit 136, ⟨(.type "tuple"), none, (.seq #[(.str "_law_script" 380), (.str "_law_k" 381)] 0), #[]⟩) ::
 (nat_lit 137, ⟨(.type "tuple"), none, (.seq #[] 0), #[]⟩) ::
 (nat_lit 139, ⟨(.type "code"), none, (.fields #[(.str "_law_cell_at" 377), (.str "_law_cell_at" 378), (.str "/claim/cut.py" 379), (.int 102 0), (.int 2 0), (.int 0 0), (.int 0 0), (.int 3 0), (.ref 134), (.bool true), (.int 181 0), (.ref 135), .none, (.ref 136), (.ref 137), (.ref 138), (.int 382 0), (.int 102 0), (.str "/claim/cut.py" 383)]), #[]⟩) ::
 (nat_lit 140, ⟨(.type "function"), none, (.func ⟨"_law_cell_at", "_law_cell_at", defArgs (top 26), .stmts (defBody (top 26)), defScope (top 26), 3, [], .none, .none, .none, (.str "law_notefall_k26_whole_leaves_whichever_way" 375), none, (.ref 139), .none, 0⟩), #[]⟩) ::
 (nat_lit 141, ⟨(.type "tuple"), none, (.seq #[] 0), #[]⟩) ::
 (nat_lit 143, ⟨(.type "tuple"), none, (.seq #[(.str "_law_cell" 388)] 0), #[]⟩) ::
 (nat_lit 144, ⟨(.type "tuple"), none, (.seq #[] 0), #[]⟩) ::
 (nat_lit 146, ⟨(.type "code"), none, (.fields #[(.str "_law_well" 385), (.str "_law_well" 386), (.str "/claim/cut.py" 387), (.int 106 0), (.int 1 0), (.int 0 0), (.int 0 0), (.int 3 0), (.ref 141), (.bool true), (.int 181 0), (.ref 142), .none, (.ref 143), (.ref 144), (.ref 145), (.int 389 0), (.int 106 0), (.str "/claim/cut.py" 390)]), #[]⟩) ::
 (nat_lit 147, ⟨(.type "function"), none, (.func ⟨"_law_well", "_law_well", defArgs (top 27), .stmts (defBody (top 27)), defScope (top 27), 3, [], .none, .none, .none, (.str "law_notefall_k26_whole_leaves_whichever_way" 375), none, (.ref 146), .none, 0⟩), #[]⟩) ::
 (nat_lit 148, ⟨(.type "tuple"), none, (.seq #[] 0), #[]⟩) ::
 (nat_lit 150, ⟨(.type "tuple"), none, (.seq #[(.str "_law_well_here" 395), (.str "_law_many" 396), (.str "_law_found" 397), (.str "_law_number_here" 398)] 0), #[]⟩) ::
 (nat_lit 151, ⟨(.type "tuple"), none, (.seq #[] 0), #[]⟩) ::
 (nat_lit 153, ⟨(.type "code"), none, (.fields #[(.str "_law_draw" 392), (.str "_law_draw" 393), (.str "/claim/cut.py" 394), (.int 108 0), (.int 2 0), (.int 0 0), (.int 0 0), (.int 3 0), (.ref 148), (.bool true), (.int 181 0), (.ref 149), .none, (.ref 150), (.ref 151), (.ref 152), (.int 399 0), (.int 108 0), (.str "/claim/cut.py" 400)]), #[]⟩) ::
 (nat_lit 154, ⟨(.type "function"), none, (.func ⟨"_law_draw", "_law_draw", defArgs (top 28), .stmts (defBody (top 28)), defScope (top 28), 3, [], .none, .none, .none, (.str "law_notefall_k26_whole_leaves_whichever_way" 375), none, (.ref 153), .none, 0⟩), #[]⟩) ::
 (nat_lit 155, ⟨(.type "tuple"), none, (.seq #[] 0), #[]⟩) ::
 (nat_lit 157, ⟨(.type "tuple"), none, (.seq #[(.str "_law_well_here" 405), (.str "_law_way" 406)] 0), #[]⟩) ::
 (nat_lit 158, ⟨(.type "tuple"), none, (.seq #[] 0), #[]⟩) ::
 (nat_lit 160, ⟨(.type "code"), none, (.fields #[(.str "_law_value" 402), (.str "_law_value" 403), (.str "/claim/cut.py" 404), (.int 117 0), (.int 1 0), (.int 0 0), (.int 0 0), (.int 3 0), (.ref 155), (.bool true), (.int 181 0), (.ref 156), .none, (.ref 157), (.ref 158), (.ref 159), (.int 407 0), (.int 117 0), (.str "/claim/cut.py" 408)]), #[]⟩) ::
 (nat_lit 161, ⟨(.type "function"), none, (.func ⟨"_law_value", "_law_value", defArgs (top 29), .stmts (defBody (top 29)), defScope (top 29), 3, [], .none, .none, .none, (.str "law_notefall_k26_whole_leaves_whichever_way" 375), none, (.ref 160), .none, 0⟩), #[]⟩) ::
 (nat_lit 177, ⟨(.type "tuple"), none, (.seq #[] 0), #[]⟩) ::
 (nat_lit 179, ⟨(.type "tuple"), none, (.seq #[(.str "_law_well_here" 431), (.str "_law_far" 432)] 0), #[]⟩) ::
 (nat_lit 180, ⟨(.type "tuple"), none, (.seq #[] 0), #[]⟩) ::
 (nat_lit 182, ⟨(.type "code"), none, (.fields #[(.str "_law_base" 428), (.str "_law_base" 429), (.str "/claim/cut.py" 430), (.int 140 0), (.int 1 0), (.int 0 0), (.int 0 0), (.int 3 0), (.ref 177), (.bool true), (.int 181 0), (.ref 178), .none, (.ref 179), (.ref 180), (.ref 181), (.int 433 0), (.int 140 0), (.str "/claim/cut.py" 434)]), #[]⟩) ::
 (nat_lit 183, ⟨(.type "function"), none, (.func ⟨"_law_base", "_law_base", defArgs (top 33), .stmts (defBody (top 33)), defScope (top 33), 3, [], .none, .none, .none, (.str "law_notefall_k26_whole_leaves_whichever_way" 375), none, (.ref 182), .none, 0⟩), #[]⟩) ::
 (nat_lit 184, ⟨(.type "tuple"), none, (.seq #[] 0), #[]⟩) ::
 (nat_lit 186, ⟨(.type "tuple"), none, (.seq #[(.str "_law_well_here" 439), (.str "_law_base_here" 440), (.str "_law_found" 441), (.str "_law_k" 442), (.str "_law_number_here" 443), (.str "_law_versions" 444), (.str "_law_turn" 445)] 0), #[]⟩) ::
 (nat_lit 187, ⟨(.type "tuple"), none, (.seq #[] 0), #[]⟩) ::
 (nat_lit 189, ⟨(.type "code"), none, (.fields #[(.str "_law_rows" 436), (.str "_law_rows" 437), (.str "/claim/cut.py" 438), (.int 143 0), (.int 2 0), (.int 0 0), (.int 0 0), (.int 3 0), (.ref 184), (.bool true), (.int 181 0), (.ref 185), .none, (.ref 186), (.ref 187), (.ref 188), (.int 446 0), (.int 143 0), (.str "/claim/cut.py" 447)]), #[]⟩) ::
 (nat_lit 190, ⟨(.type "function"), none, (.func ⟨"_law_rows", "_law_rows", defArgs (top 34), .stmts (defBody (top 34)), defScope (top 34), 3, [], .none, .none, .none, (.str "law_notefall_k26_whole_leaves_whichever_way" 375), none, (.ref 189), .none, 0⟩), #[]⟩) ::
 (nat_lit 191, ⟨(.type "tuple"), none, (.seq #[] 0), #[]⟩) ::
 (nat_lit 194, ⟨(.type "code"), none, (.fields #[(.str "_law_marks" 449), (.str "_law_marks" 450), (.str "/claim/cut.py" 451), (.int 154 0), (.int 2 0), (.int 0 0), (.int 0 0), (.int 3 0), (.ref 191), (.bool true), (.int 181 0), (.ref 192), .none, .none, .none, (.ref 193), (.int 452 0), (.int 154 0), (.str "/claim/cut.py" 453)]), #[]⟩) ::
 (nat_lit 195, ⟨(.type "function"), none, (.func ⟨"_law_marks", "_law_marks", defArgs (top 35), .stmts (defBody (top 35)), defScope (top 35), 3, [], .none, .none, .none, (.str "law_notefall_k26_whole_leaves_whichever_way" 375), none, (.ref 194), .none, 0⟩), #[]⟩) ::
 (nat_lit 196, ⟨(.type "tuple"), none, (.seq #[] 0), #[]⟩) ::
 (nat_lit 199, ⟨(.type "code"), none, (.fields #[(.str "_law_copied" 455), (.str "_law_copied" 456), (.str "/claim/cut.py" 457), (.int 156 0), (.int 1 0), (.int 0 0), (.int 0 0), (.int 3 0), (.ref 196), (.bool true), (.int 181 0), (.ref 197), .none, .none, .none, (.ref 198), (.int 458 0), (.int 156 0), (.str "/claim/cut.py" 459)]), #[]⟩) ::
 (nat_lit 200, ⟨(.type "function"), none, (.func ⟨"_law_copied", "_law_copied", defArgs (top 36), .stmts (defBody (top 36)), defScope (top 36), 3, [], .none, .none, .none, (.str "law_notefall_k26_whole_leaves_whichever_way" 375), none, (.ref 199), .none, 0⟩), #[]⟩) ::
 (nat_lit 201, ⟨(.type "tuple"), none, (.seq #[] 0), #[]⟩) ::
 (nat_lit 203, ⟨(.type "tuple"), none, (.seq #[(.str "_law_well_here" 464)] 0), #[]⟩) ::
 (nat_lit 204, ⟨(.type "tuple"), none, (.seq #[] 0), #[]⟩) ::
 (nat_lit 206, ⟨(.type "code"), none, (.fields #[(.str "_law_number" 461), (.str "_law_number" 462), (.str "/claim/cut.py" 463), (.int 158 0), (.int 1 0), (.int 0 0), (.int 0 0), (.int 3 0), (.ref 201), (.bool true), (.int 181 0), (.ref 202), .none, (.ref 203), (.ref 204), (.ref 205), (.int 465 0), (.int 158 0), (.str "/claim/cut.py" 466)]), #[]⟩) ::
 (nat_lit 207, ⟨(.type "function"), none, (.func ⟨"_law_number", "_law_number", defArgs (top 37), .stmts (defBody (top 37)), defScope (top 37), 3, [], .none, .none, .none, (.str "law_notefall_k26_whole_leaves_whichever_way" 375), none, (.ref 206), .none, 0⟩), #[]⟩) ::
 (nat_lit 208, ⟨(.type "tuple"), none, (.seq #[] 0), #[]⟩) ::
 (nat_lit 210, ⟨(.type "tuple"), none, (.seq #[(.str "_law_well_here" 471), (.str "_law_wide" 472), (.str "_law_there" 473), (.str "_law_none" 474)] 0), #[]⟩) ::
 (nat_lit 211, ⟨(.type "tuple"), none, (.seq #[] 0), #[]⟩) ::
 (nat_lit 213, ⟨(.type "code"), none, (.fields #[(.str "_law_action" 468), (.str "_law_action" 469), (.str "/claim/cut.py" 470), (.int 162 0), (.int 2 0), (.int 0 0), (.int 0 0), (.int 3 0), (.ref 208), (.bool true), (.int 181 0), (.ref 209), .none, (.ref 210), (.ref 211), (.ref 212), (.int 475 0), (.int 162 0), (.str "/claim/cut.py" 476)]), #[]⟩) ::
 (nat_lit 214, ⟨(.type "function"), none, (.func ⟨"_law_action", "_law_action", defArgs (top 38), .stmts (defBody (top 38)), defScope (top 38), 3, [], .none, .none, .none, (.str "law_notefall_k26_whole_leaves_whichever_way" 375), none, (.ref 213), .none, 0⟩), #[]⟩) ::
 (nat_lit 215, ⟨(.type "tuple"), none, (.seq #[] 0), #[]⟩) ::
 (nat_lit 217, ⟨(.type "tuple"), none, (.seq #[(.str "_law_well_here" 481), (.str "_law_base_here" 482), (.str "_law_number_here" 483), (.str "_law_many" 484), (.str "_law_found" 485), (.str "_law_k" 486), (.str "_law_low" 487), (.str "_law_high" 488)] 0), #[]⟩) ::
 (nat_lit 218, ⟨(.type "tuple"), none, (.seq #[] 0), #[]⟩) ::
 (nat_lit 220, ⟨(.type "code"), none, (.fields #[(.str "_law_tray" 478), (.str "_law_tray" 479), (.str "/claim/cut.py" 480), (.int 166 0), (.int 4 0), (.int 0 0), (.int 0 0), (.int 3 0), (.ref 215), (.bool true), (.int 181 0), (.ref 216), .none, (.ref 217), (.ref 218), (.ref 219), (.int 489 0), (.int 166 0), (.str "/claim/cut.py" 490)]), #[]⟩) ::
 (nat_lit 221, ⟨(.type "function"), none, (.func ⟨"_law_tray", "_law_tray", defArgs (top 39), .stmts (defBody (top 39)), defScope (top 39), 3, [], .none, .none, .none, (.str "law_notefall_k26_whole_leaves_whichever_way" 375), none, (.ref 220), .none, 0⟩), #[]⟩) ::
 (nat_lit 229, ⟨(.type "tuple"), none, (.seq #[] 0), #[]⟩) ::
 (nat_lit 231, ⟨(.type "tuple"), none, (.seq #[(.str "_law_well_here" 504), (.str "_law_base_here" 505), (.str "_law_found" 506), (.str "_law_k" 507), (.str "_law_number_here" 508), (.str "_law_low" 509), (.str "_law_high" 510), (.str "_law_action_here" 511)] 0), #[]⟩) ::
 (nat_lit 232, ⟨(.type "tuple"), none, (.seq #[] 0), #[]⟩) ::
 (nat_lit 234, ⟨(.type "code"), none, (.fields #[(.str "_law_notes" 501), (.str "_law_notes" 502), (.str "/claim/cut.py" 503), (.int 184 0), (.int 2 0), (.int 0 0), (.int 0 0), (.int 3 0), (.ref 229), (.bool true), (.int 181 0), (.ref 230), .none, (.ref 231), (.ref 232), (.ref 233), (.int 512 0), (.int 184 0), (.str "/claim/cut.py" 513)]), #[]⟩) ::
 (nat_lit 235, ⟨(.type "function"), none, (.func ⟨"_law_notes", "_law_notes", defArgs (top 41), .stmts (defBody (top 41)), defScope (top 41), 3, [], .none, .none, .none, (.str "law_notefall_k26_whole_leaves_whichever_way" 375), none, (.ref 234), .none, 0⟩), #[]⟩) ::
 (nat_lit 236, ⟨(.type "tuple"), none, (.seq #[] 0), #[]⟩) ::
 (nat_lit 239, ⟨(.type "code"), none, (.fields #[(.str "_law_cut_right" 515), (.str "_law_cut_right" 516), (.str "/claim/cut.py" 517), (.int 191 0), (.int 5 0), (.int 0 0), (.int 0 0), (.int 3 0), (.ref 236), (.bool true), (.int 181 0), (.ref 237), .none, .none, .none, (.ref 238), (.int 518 0), (.int 191 0), (.str "/claim/cut.py" 519)]), #[]⟩) ::
 (nat_lit 240, ⟨(.type "function"), none, (.func ⟨"_law_cut_right", "_law_cut_right", defArgs (top 42), .stmts (defBody (top 42)), defScope (top 42), 3, [], .none, .none, .none, (.str "law_notefall_k26_whole_leaves_whichever_way" 375), none, (.ref 239), .none, 0⟩), #[]⟩) ::
 (nat_lit 241, ⟨(.type "tuple"), none, (.seq #[] 0), #[]⟩) ::
 (nat_lit 243, ⟨(.type "tuple"), none, (.seq #[(.str "_law_well_here" 524), (.str "_law_marks_here" 525), (.str "_law_base_here" 526), (.str "_law_rows_here" 527), (.str "_law_notes_here" 528), (.str "_law_at" 529), (.str "_law_key" 530), (.str "_law_due" 531), (.str "_law_first" 532), (.str "_law_tray_here" 533), (.str "_law_one" 534), (.str "_law_note" 535)] 0), #[]⟩) ::
 (nat_lit 244, ⟨(.type "tuple"), none, (.seq #[] 0), #[]⟩) ::
 (nat_lit 246, ⟨(.type "code"), none, (.fields #[(.str "_law_right" 521), (.str "_law_right" 522), (.str "/claim/cut.py" 523), (.int 200 0), (.int 1 0), (.int 0 0), (.int 0 0), (.int 3 0), (.ref 241), (.bool true), (.int 181 0), (.ref 242), .none, (.ref 243), (.ref 244), (.ref 245), (.int 536 0), (.int 200 0), (.str "/claim/cut.py" 537)]), #[]⟩) ::
 (nat_lit 247, ⟨(.type "function"), none, (.func ⟨"_law_right", "_law_right", defArgs (top 43), .stmts (defBody (top 43)), defScope (top 43), 3, [], .none, .none, .none, (.str "law_notefall_k26_whole_leaves_whichever_way" 375), none, (.ref 246), .none, 0⟩), #[]⟩) ::
 (nat_lit 248, ⟨(.type "tuple"), none, (.seq #[] 0), #[]⟩) ::
 (nat_lit 250, ⟨(.type "tuple"), none, (.seq #[(.str "_law_script" 542), (.str "_law_cell" 543)] 0), #[]⟩) ::
 (nat_lit 251, ⟨(.type "tuple"), none, (.seq #[] 0), #[]⟩) ::
 (nat_lit 253, ⟨(.type "code"), none, (.fields #[(.str "law" 539), (.str "law" 540), (.str "/claim/cut.py" 541), (.int 219 0), (.int 1 0), (.int 0 0), (.int 0 0), (.int 3 0), (.ref 248), (.bool true), (.int 181 0), (.ref 249), .none, (.ref 250), (.ref 251), (.ref 252), (.int 544 0), (.int 219 0), (.str "/claim/cut.py" 545)]), #[]⟩) ::
 (nat_lit 254, ⟨(.type "function"), none, (.func ⟨"law", "law", defArgs (top 44), .stmts (defBody (top 44)), defScope (top 44), 3, [], .none, .none, .none, (.str "law_notefall_k26_whole_leaves_whichever_way" 375), none, (.ref 253), .none, 0⟩), #[]⟩) :: []
def hAs : List Addr := nat_lit 2 :: nat_lit 3 :: nat_lit 15 :: nat_lit 16 :: nat_lit 18 :: nat_lit 19 :: nat_lit 21 :: nat_lit 22 :: nat_lit 23 :: nat_lit 25 :: nat_lit 26 :: nat_lit 28 :: nat_lit 29 :: nat_lit 30 :: nat_lit 32 :: nat_lit 33 :: nat_lit 35 :: nat_lit 36 :: nat_lit 37 :: nat_lit 39 :: nat_lit 40 :: nat_lit 42 :: nat_lit 43 :: nat_lit 44 :: nat_lit 46 :: nat_lit 47 :: nat_lit 49 :: nat_lit 50 :: nat_lit 51 :: nat_lit 53 :: nat_lit 54 :: nat_lit 56 :: nat_lit 57 :: nat_lit 58 :: nat_lit 61 :: nat_lit 62 :: nat_lit 63 :: nat_lit 64 :: nat_lit 66 :: nat_lit 67 :: nat_lit 69 :: nat_lit 70 :: nat_lit 71 :: nat_lit 73 :: nat_lit 74 :: nat_lit 76 :: nat_lit 77 :: nat_lit 78 :: nat_lit 81 :: nat_lit 82 :: nat_lit 83 :: nat_lit 85 :: nat_lit 86 :: nat_lit 88 :: nat_lit 89 :: nat_lit 90 :: nat_lit 93 :: nat_lit 94 :: nat_lit 95 :: nat_lit 98 :: nat_lit 99 :: nat_lit 100 :: nat_lit 103 :: nat_lit 104 :: nat_lit 105 :: nat_lit 108 :: nat_lit 109 :: nat_lit 110 :: nat_lit 113 :: nat_lit 114 :: nat_lit 115 :: nat_lit 118 :: nat_lit 119 :: nat_lit 120 :: nat_lit 122 :: nat_lit 123 :: nat_lit 125 :: nat_lit 126 :: nat_lit 127 :: nat_lit 129 :: nat_lit 130 :: nat_lit 132 :: nat_lit 133 :: nat_lit 134 :: nat_lit 136 :: nat_lit 137 :: nat_lit 139 :: nat_lit 140 :: nat_lit 141 :: nat_lit 143 :: nat_lit 144 :: nat_lit 146 :: nat_lit 147 :: nat_lit 148 :: nat_lit 150 :: nat_lit 151 :: nat_lit 153 :: nat_lit 154 :: nat_lit 155 :: nat_lit 157 :: nat_lit 158 :: nat_lit 160 :: nat_lit 161 :: nat_lit 177 :: nat_lit 179 :: nat_lit 180 :: nat_lit 182 :: nat_lit 183 :: nat_lit 184 :: nat_lit 186 :: nat_lit 187 :: nat_lit 189 :: nat_lit 190 :: nat_lit 191 :: nat_lit 194 :: nat_lit 195 :: nat_lit 196 :: nat_lit 199 :: nat_lit 200 :: nat_lit 201 :: nat_lit 203 :: nat_lit 204 :: nat_lit 206 :: nat_lit 207 :: nat_lit 208 :: nat_lit 210 :: nat_lit 211 :: nat_lit 213 :: nat_lit 214 :: nat_lit 215 :: nat_lit 217 :: nat_lit 218 :: nat_lit 220 :: nat_lit 221 :: nat_lit 229 :: nat_lit 231 :: nat_lit 232 :: nat_lit 234 :: nat_lit 235 :: nat_lit 236 :: nat_lit 239 :: nat_lit 240 :: nat_lit 241 :: nat_lit 243 :: nat_lit 244 :: nat_lit 246 :: nat_lit 247 :: nat_lit 248 :: nat_lit 250 :: nat_lit 251 :: nat_lit 253 :: nat_lit 254 :: []
def hQ : Program := { PySem.Challenge.pw_notefall_k26_whole_leaves_whichever_way with main := { PySem.Challenge.pw_notefall_k26_whole_leaves_whichever_way.main with body := top 0 :: top 2 :: top 3 :: top 4 :: top 5 :: top 6 :: top 8 :: top 9 :: top 10 :: top 13 :: top 14 :: top 15 :: top 16 :: top 17 :: top 19 :: top 20 :: top 21 :: top 22 :: top 23 :: top 24 :: top 26 :: top 27 :: top 28 :: top 29 :: top 30 :: top 31 :: top 32 :: top 33 :: top 34 :: top 35 :: top 36 :: top 37 :: top 38 :: top 39 :: top 40 :: top 41 :: top 42 :: top 43 :: top 44 :: [] } }
def hLv : List (Str × PySem.W.WData) := [((Str.ofString "END"), PySem.W.WData.int 1000000000000)]
def hLo : List Str := [(Str.ofString "END"), (Str.ofString "value_of")]
theorem z_hK : K26.hK = K26.hK := rfl
name_quick K26_hK for K26.hK by K26.z_hK
theorem z_hQ : K26.hQ = K26.hQ := rfl
name_quick K26_hQ for K26.hQ by K26.z_hQ
theorem z_pw : PySem.Challenge.pw_notefall_k26_whole_leaves_whichever_way = PySem.Challenge.pw_notefall_k26_whole_leaves_whichever_way := rfl
name_quick K26_pw for PySem.Challenge.pw_notefall_k26_whole_leaves_whichever_way by K26.z_pw
theorem z_hLv : K26.hLv = K26.hLv := rfl
name_quick K26_hLv for K26.hLv by K26.z_hLv
theorem z_hLo : K26.hLo = K26.hLo := rfl
name_quick K26_hLo for K26.hLo by K26.z_hLo
def hYf (s : Shared) : List (Option Obj) := hAs.map s.heap.get?
def hYa (K : Params → PySem.W.Frag) (w : World) : List (Option Obj) := (K w.params).map fun p => some p.2
theorem hE (P : Params) : hAs = (hK P).map (·.1) := by kernel_rfl
abbrev hXt (q : Program) (lv : List (Str × PySem.W.WData)) (s : Shared) : Bool := PySem.W.xlAt q lv s && PySem.W.recOk (PySem.W.RowW.records (PySem.W.OpenRow.toRowW PySem.Challenge.rw_notefall_k26_whole_leaves_whichever_way.row)) s
abbrev hF {t : Type} (tb : String → Option Builtin) (p q : Program) (lo : List Str) (lv : List (Str × PySem.W.WData)) (K : Params → PySem.W.Frag) (sn : Program → List Str → List Str → (Shared → Bool) → Bool → Shared → t) (gd : Program → List Str → t) (im : List Stmt → List Str) (w : World) : Prop :=
  (PySem.W.openEnds tb p w 2580).map (fun s => (sn q lo (im p.main.body) (hXt q lv) true s, hYf s)) = some (gd q lo, hYa K w)
theorem hF_of {t : Type} {tb tb' : String → Option Builtin} {p p' q q' : Program} {lo lo' : List Str} {lv lv' : List (Str × PySem.W.WData)} {K K' : Params → PySem.W.Frag} {sn sn' : Program → List Str → List Str → (Shared → Bool) → Bool → Shared → t} {gd : Program → List Str → t} {im im' : List Stmt → List Str} {w : World}
    (h : hF tb' p' q' lo' lv' K' sn' gd im' w) (e1 : tb = tb') (e2 : p = p') (e3 : q = q') (e4 : lo = lo') (e5 : lv = lv') (e6 : K = K') (e7 : sn = sn') (e8 : im = im') : hF tb p q lo lv K sn gd im w := by
  subst e1 e2 e3 e4 e5 e6 e7 e8; exact h
set_option maxRecDepth 100000 in
set_option maxHeartbeats 0 in
theorem hlq (w : World) : hF PySem.W.Fast.tw14364793385576792824 PySem.W.Fast.K26_pw PySem.W.Fast.K26_hQ PySem.W.Fast.K26_hLo PySem.W.Fast.K26_hLv PySem.W.Fast.K26_hK PySem.W.Fast.tw4187177175401517315 PySem.W.openGood PySem.W.Fast.tw5923862056798008813 w := by kernel_rfl
theorem hl : PySem.W.LeftO PySem.Challenge.pw_notefall_k26_whole_leaves_whichever_way hQ hLo (hXt hQ hLv) hYf (hYa hK) 2580 := fun w => hF_of (hlq w) PySem.W.Fast.te14364793385576792824 PySem.W.Fast.K26_pw_eq PySem.W.Fast.K26_hQ_eq PySem.W.Fast.K26_hLo_eq PySem.W.Fast.K26_hLv_eq PySem.W.Fast.K26_hK_eq PySem.W.Fast.te4187177175401517315 PySem.W.Fast.te5923862056798008813
end K26
open PySem PySem.W PyProof.Rows
set_option maxRecDepth 100000 in
set_option maxHeartbeats 0 in
theorem PySem.Challenge.cw_notefall_k26_whole_leaves_whichever_way_holds : PySem.Challenge.rw_notefall_k26_whole_leaves_whichever_way.Holds := by
  w_on; o_law
  refine holds_open (q := K26.hQ) (loose := K26.hLo) (Xt := K26.hXt K26.hQ K26.hLv) (XP := XL K26.hQ K26.hLv) (Yf := K26.hYf) (Ya := K26.hYa K26.hK) (YP := Hook.says (PySem.W.kHook K26.hK K26.hAs K26.hE)) (N := 2580) K26.hl (Hook.of (PySem.W.kHook K26.hK K26.hAs K26.hE)) (Hook.keeps (PySem.W.kHook K26.hK K26.hAs K26.hE)) (fun s e => xl_of s (Bool.and_eq_true_iff.mp e).1) XL.keeps (by rfl) (by rfl) (by rfl) (fun s e => recFacts_of (Bool.and_eq_true_iff.mp e).2) (by rfl) (by first | assumption | decide +kernel) (by decide +kernel) ⟨rfl, rfl, rfl, rfl, rfl, by decide +kernel⟩ ?hw ?hc
  case hw => w_witness2
  k_fill
  refine K26.walk (l := PySem.Challenge.rw_notefall_k26_whole_leaves_whichever_way) rfl rfl (fun w h Y => PySem.W.kIn_of Y) ?F
  case F =>
    intro w mg fa h KX G hmg
    refine' K26.all_mk KX G hmg ?a1 ?l1 ?c1 ?k1 ?a2 ?l2 ?c2 ?k2 ?a3 ?l3 ?c3 ?k3 ?a4 ?l4 ?c4 ?k4 ?a5 ?l5 ?c5 ?k5 ?a6 ?l6 ?c6 ?k6 ?a7 ?l7 ?c7 ?k7 ?a8 ?l8 ?c8 ?k8 ?wl8 ?wk8 ?wf8 ?a9 ?l9 ?c9 ?k9 ?a10 ?l10 ?c10 ?k10 ?a11 ?l11 ?c11 ?k11 ?a12 ?l12 ?c12 ?k12 ?a13 ?l13 ?c13 ?k13 ?a14 ?l14 ?c14 ?k14 ?a15 ?l15 ?c15 ?k15 ?a16 ?l16 ?c16 ?k16 ?a17 ?l17 ?c17 ?k17 ?a18 ?l18 ?c18 ?k18 ?a19 ?l19 ?c19 ?k19 ?a20 ?l20 ?c20 ?k20 ?a21 ?l21 ?c21 ?k21 ?a22 ?l22 ?c22 ?k22 ?a23 ?l23 ?c23 ?k23 ?a24 ?l24 ?c24 ?k24 ?a25 ?l25 ?c25 ?k25 ?a26 ?l26 ?c26 ?k26 ?a27 ?l27 ?c27 ?k27 ?a28 ?l28 ?c28 ?k28 ?a29 ?l29 ?c29 ?k29 ?a30 ?l30 ?c30 ?k30 ?a31 ?l31 ?c31 ?k31 ?a32 ?l32 ?c32 ?k32 ?a33 ?l33 ?c33 ?k33 ?a34 ?l34 ?c34 ?k34 ?z_len ?z_int ?z_range ?z_list ?z_sorted ?z_set ?z_zip ?z_repr ?z_min ?z_max ?z_any ?z_enumerate ?z_GONE ?z_END ?z_kG
    (case a1 => k_is)
    (case l1 => k_is)
    (case c1 => k_is)
    (case k1 => k_is)
    (case a2 => k_is)
    (case l2 => k_is)
    (case c2 => k_is)
    (case k2 => k_is)
    (case a3 => k_is)
    (case l3 => k_is)
    (case c3 => k_is)
    (case k3 => k_is)
    (case a4 => k_is)
    (case l4 => k_is)
    (case c4 => k_is)
    (case k4 => k_is)
    (case a5 => k_is)
    (case l5 => k_is)
    (case c5 => k_is)
    (case k5 => k_is)
    (case a6 => k_is)
    (case l6 => k_is)
    (case c6 => k_is)
    (case k6 => k_is)
    (case a7 => k_is)
    (case l7 => k_is)
    (case c7 => k_is)
    (case k7 => k_is)
    (case a8 => k_is)
    (case l8 => k_is)
    (case c8 => k_is)
    (case k8 => k_is)
    (case wl8 => k_is)
    (case wk8 => first | k_is | rfl | decide +kernel)
    (case wf8 => first | k_is | rfl | decide +kernel)
    (case a9 => k_is)
    (case l9 => k_is)
    (case c9 => k_is)
    (case k9 => k_is)
    (case a10 => k_is)
    (case l10 => k_is)
    (case c10 => k_is)
    (case k10 => k_is)
    (case a11 => k_is)
    (case l11 => k_is)
    (case c11 => k_is)
    (case k11 => k_is)
    (case a12 => k_is)
    (case l12 => k_is)
    (case c12 => k_is)
    (case k12 => k_is)
    (case a13 => k_is)
    (case l13 => k_is)
    (case c13 => k_is)
    (case k13 => k_is)
    (case a14 => k_is)
    (case l14 => k_is)
    (case c14 => k_is)
    (case k14 => k_is)
    (case a15 => k_is)
    (case l15 => k_is)
    (case c15 => k_is)
    (case k15 => k_is)
    (case a16 => k_is)
    (case l16 => k_is)
    (case c16 => k_is)
    (case k16 => k_is)
    (case a17 => k_is)
    (case l17 => k_is)
    (case c17 => k_is)
    (case k17 => k_is)
    (case a18 => k_is)
    (case l18 => k_is)
    (case c18 => k_is)
    (case k18 => k_is)
    (case a19 => k_is)
    (case l19 => k_is)
    (case c19 => k_is)
    (case k19 => k_is)
    (case a20 => k_is)
    (case l20 => k_is)
    (case c20 => k_is)
    (case k20 => k_is)
    (case a21 => k_is)
    (case l21 => k_is)
    (case c21 => k_is)
    (case k21 => k_is)
    (case a22 => k_is)
    (case l22 => k_is)
    (case c22 => k_is)
    (case k22 => k_is)
    (case a23 => k_is)
    (case l23 => k_is)
    (case c23 => k_is)
    (case k23 => k_is)
    (case a24 => k_is)
    (case l24 => k_is)
    (case c24 => k_is)
    (case k24 => k_is)
    (case a25 => k_is)
    (case l25 => k_is)
    (case c25 => k_is)
    (case k25 => k_is)
    (case a26 => k_is)
    (case l26 => k_is)
    (case c26 => k_is)
    (case k26 => k_is)
    (case a27 => k_is)
    (case l27 => k_is)
    (case c27 => k_is)
    (case k27 => k_is)
    (case a28 => k_is)
    (case l28 => k_is)
    (case c28 => k_is)
    (case k28 => k_is)
    (case a29 => k_is)
    (case l29 => k_is)
    (case c29 => k_is)
    (case k29 => k_is)
    (case a30 => k_is)
    (case l30 => k_is)
    (case c30 => k_is)
    (case k30 => k_is)
    (case a31 => k_is)
    (case l31 => k_is)
    (case c31 => k_is)
    (case k31 => k_is)
    (case a32 => k_is)
    (case l32 => k_is)
    (case c32 => k_is)
    (case k32 => k_is)
    (case a33 => k_is)
    (case l33 => k_is)
    (case c33 => k_is)
    (case k33 => k_is)
    (case a34 => k_is)
    (case l34 => k_is)
    (case c34 => k_is)
    (case k34 => k_is)
    (case z_len => k_is)
    (case z_int => k_is)
    (case z_range => k_is)
    (case z_list => k_is)
    (case z_sorted => k_is)
    (case z_set => k_is)
    (case z_zip => k_is)
    (case z_repr => k_is)
    (case z_min => k_is)
    (case z_max => k_is)
    (case z_any => k_is)
    (case z_enumerate => k_is)
    (case z_GONE => k_is)
    (case z_END => k_is)
    (case z_kG => k_is)
