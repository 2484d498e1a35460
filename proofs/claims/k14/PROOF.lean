import PyProof.Rows.All
import Wide.All
import OpenK.AllK
import Wide.FinOn
import Lean
import PyProof.EqAt
import PyProof.EqKinds
import PyProof.TupleCall
import PySem.Challenge.RW_notefall_k14_notes_known
set_option Elab.async false
set_option linter.all false
set_option maxRecDepth 100000
namespace L2
open PySem PySem.Spec PyProof.Rows
abbrev Key := Sum Int Str
def keyIs : Key → Value → Bool
  | .inl k, v => Value.isInt k v
  | .inr x, v => Value.isStrOf x v
def keyH (w : World) : Key → Int
  | .inl k => hashInt k
  | .inr x => hashStr w x
theorem keyIs_shape : ∀ {k : Key} {v : Value}, keyIs k v = true → (∃ i t, k = Sum.inl i ∧ v = Value.int i t) ∨ (∃ x t, k = Sum.inr x ∧ v = Value.str x t)
  | .inl i, v, h => by
    obtain ⟨t, e⟩ := Value.isInt_shape (k := i) (v := v) h
    exact .inl ⟨i, t, rfl, e⟩
  | .inr x, v, h => by
    obtain ⟨t, e⟩ := Value.isStrOf_shape (x := x) (v := v) h
    exact .inr ⟨x, t, rfl, e⟩
theorem key_ll (a b : Int) : decide ((Sum.inl a : Key) = Sum.inl b) = (a == b) := by
  by_cases e : a = b
  · subst e; simp
  · have h : ¬ (Sum.inl a : Key) = Sum.inl b := fun q => e (Sum.inl.inj q)
    rw [decide_eq_false h]
    exact (beq_eq_false_iff_ne.mpr e).symm
theorem key_rr (a b : Str) : decide ((Sum.inr a : Key) = Sum.inr b) = decide (a = b) := by
  by_cases e : a = b
  · subst e; simp
  · have h : ¬ (Sum.inr a : Key) = Sum.inr b := fun q => e (Sum.inr.inj q)
    rw [decide_eq_false h, decide_eq_false e]
theorem key_lr (a : Int) (b : Str) : decide ((Sum.inl a : Key) = Sum.inr b) = false := decide_eq_false (fun q => nomatch q)
theorem key_rl (a : Str) (b : Int) : decide ((Sum.inr a : Key) = Sum.inl b) = false := decide_eq_false (fun q => nomatch q)
def mixKind (prog : Program) (w : World) : PySem.KeyKind prog w Key where
  is := keyIs
  hash := keyH w
  inj := fun v a b ha hb => by
    rcases keyIs_shape ha with ⟨i, t, rfl, rfl⟩ | ⟨x, t, rfl, rfl⟩
    · rcases keyIs_shape hb with ⟨j, u, rfl, e⟩ | ⟨y, u, rfl, e⟩
      · injection e with e1 _; rw [e1]
      · exact nomatch e
    · rcases keyIs_shape hb with ⟨j, u, rfl, e⟩ | ⟨y, u, rfl, e⟩
      · exact nomatch e
      · injection e with e1 _; rw [e1]
  byValue := fun k v h => by
    rcases keyIs_shape h with ⟨i, t, rfl, rfl⟩ | ⟨x, t, rfl, rfl⟩ <;> rfl
  pyHash := fun hv h => by
    rcases keyIs_shape hv with ⟨i, t, rfl, rfl⟩ | ⟨x, t, rfl, rfl⟩
    · exact wpAny_pyHash_int h
    · exact wpAny_pyHash_str h
  eqBool := fun hu hv h => by
    rcases keyIs_shape hu with ⟨i, t, rfl, rfl⟩ | ⟨x, t, rfl, rfl⟩
    · rcases keyIs_shape hv with ⟨j, u, rfl, rfl⟩ | ⟨y, u, rfl, rfl⟩
      · rw [key_ll] at h; exact wpAny_eqBool_int h
      · rw [key_lr] at h; exact SeqAt.EqAt.int_str i t y u _ _ _ _ h
    · rcases keyIs_shape hv with ⟨j, u, rfl, rfl⟩ | ⟨y, u, rfl, rfl⟩
      · rw [key_rl] at h; exact SeqAt.EqAt.str_int x t j u _ _ _ _ h
      · rw [key_rr] at h; exact wpAny_eqBool_str h
  «strs» := fun k x t v h => by
    rcases keyIs_shape h with ⟨i, u, rfl, e⟩ | ⟨y, u, rfl, e⟩
    · exact nomatch e
    · injection e with e1 _
      subst e1
      cases v <;> rfl
end L2
namespace L2
open PySem PySem.Spec PyProof.Rows
inductive V where
  | non | bl (b : Bool) | int (i : Int) | str (x : Str) | byt (b : Array UInt8) | flt (b : UInt64) | ref (a : Addr) | ty (n : String)
  deriving DecidableEq
def RelV : V → Value → Prop
  | .non, u => u = Value.none
  | .bl b, u => u = Value.bool b
  | .int i, u => ∃ t, u = Value.int i t
  | .str x, u => ∃ t, u = Value.str x t
  | .byt b, u => ∃ t, u = Value.bytes b t
  | .flt b, u => ∃ t, u = Value.float b t
  | .ref a, u => u = Value.ref a
  | .ty n, u => u = Value.type n
abbrev Vals : List V → List Value → Prop := Paired RelV
theorem Vals.length {xs : List V} {us : List Value} (r : Vals xs us) : xs.length = us.length := Paired.length r
theorem Vals.get : ∀ {xs : List V} {us : List Value} {i : Nat} {x : V}, Vals xs us → xs[i]? = some x → ∃ u, us[i]? = some u ∧ RelV x u
  | _, _, _, _, .nil, e => by simp at e
  | _, _, 0, _, .cons r _, e => by simp at e; subst e; exact ⟨_, rfl, r⟩
  | _, _, i + 1, x, .cons _ t, e => by
    obtain ⟨u, h1, h2⟩ := Vals.get (i := i) (x := x) t (by simpa using e)
    exact ⟨u, by simpa using h1, h2⟩
theorem Vals.set {x : V} {u : Value} (r : RelV x u) : ∀ {xs : List V} {us : List Value} (i : Nat), Vals xs us → Vals (xs.set i x) (us.set i u)
  | _, _, _, .nil => .nil
  | _, _, 0, .cons _ t => .cons r t
  | _, _, i + 1, .cons q t => .cons q (Vals.set r i t)
theorem Vals.append : ∀ {xs ys : List V} {us ws : List Value}, Vals xs us → Vals ys ws → Vals (xs ++ ys) (us ++ ws)
  | _, _, _, _, .nil, s => s
  | _, _, _, _, .cons r t, s => .cons r (Vals.append t s)
theorem Vals.take : ∀ {xs : List V} {us : List Value} (n : Nat), Vals xs us → Vals (xs.take n) (us.take n)
  | _, _, 0, _ => .nil
  | _, _, _ + 1, .nil => .nil
  | _, _, n + 1, .cons r t => .cons r (Vals.take n t)
theorem Vals.drop : ∀ {xs : List V} {us : List Value} (n : Nat), Vals xs us → Vals (xs.drop n) (us.drop n)
  | _, _, 0, r => r
  | _, _, _ + 1, .nil => .nil
  | _, _, n + 1, .cons _ t => Vals.drop n t
theorem Vals.none_of : ∀ {xs : List V} {us : List Value} {i : Nat}, Vals xs us → xs[i]? = none → us[i]? = none := fun {xs us i} r e => by
  have h1 := r.length
  have h2 : xs.length ≤ i := List.getElem?_eq_none_iff.mp e
  exact List.getElem?_eq_none_iff.mpr (by omega)
def RelO : Option V → Option Value → Prop
  | some v, some u => RelV v u
  | none, none => True
  | _, _ => False
def KV {κ : Type} : List (κ × V) → List (κ × Value) → Prop := Paired fun (p : κ × V) (q : κ × Value) => p.1 = q.1 ∧ RelV p.2 q.2
def kV : Key → V
  | .inl i => .int i
  | .inr x => .str x
inductive HO where
  | lst (xs : List V)
  | tup (xs : List V)
  | dK (kvs : List (Key × V)) | dT (kvs : List (List Key × V))
  | set (S : Int → Bool) (n : Nat)
  | ins (C dx : Addr) (fs : List (Str × V))
  | own (x : Addr)
  | xd (fs : List (Str × V))
  | met (f x : Addr)
  | rng (lo hi : Int)
  | frz (o : Obj) (u : HO)
  | tbl (ps : Array Value)
  | ext (φ : Heap → Prop)
abbrev Hp := Addr → Option HO
def upd (H : Hp) (a : Addr) (o : HO) : Hp := fun b => if b = a then some o else H b
theorem upd_same {H : Hp} {a : Addr} {o : HO} : upd H a o a = some o := by unfold upd; rw [if_pos rfl]
theorem upd_ne {H : Hp} {a b : Addr} {o : HO} (h : b ≠ a) : upd H a o b = H b := by unfold upd; rw [if_neg h]
theorem ne_of {H : Hp} {a b : Addr} {o u : HO} (h : H a = some o) (h' : H b = some u) (d : o ≠ u) : a ≠ b := by
  intro e; subst e; rw [h] at h'; exact d (Option.some.inj h')
theorem ne_of_none {H : Hp} {a b : Addr} {o : HO} (h : H a = some o) (h' : H b = none) : a ≠ b := by
  intro e; subst e; rw [h] at h'; cases h'
section
variable (P : Program) (w : World)
def ObjOk (H : Hp) (h : Heap) (a : Addr) : HO → Prop
  | .lst xs => xs.length ≤ sizeLine ∧ ∃ (its : List Value) (n : Nat), Vals xs its ∧ h.get? a = some { cls := .type "list", data := .seq its.toArray n }
  | .tup xs => xs.length ≤ sizeLine ∧ ∃ its : List Value, Vals xs its ∧ IsTup h a its.toArray
  | .dK kvs => kvs.length ≤ sizeLine ∧ (a == sysModules) = false ∧ ∃ vs, KV kvs vs ∧ h.DictOf (mixKind P w) a vs
  | .dT kvs => kvs.length ≤ sizeLine ∧ (a == sysModules) = false ∧ ∃ xs : List (List Key × Addr × Value),
      Paired (fun (p : List Key × V) (q : List Key × Addr × Value) => p.1 = q.1 ∧ H q.2.1 = some (.tup (p.1.map kV)) ∧ RelV p.2 q.2.2) kvs xs ∧
      ∃ o es ep, h.get? a = some o ∧ o.ExactDict ∧ o.data = .dict es ep ∧ es.toList = xs.map (entryOfKey (tupleKind (mixKind P w))) ∧ (xs.map (·.1)).Nodup
  | .set S n => h.SetOf (intKind P w) a S n
  | .ins C dx fs => H dx = some (.own a) ∧ fs.length ≤ 1000 ∧ dx ≠ a ∧ h.get? a = some (PySem.W.instObj C dx) ∧
      ∃ mA, h.Ns1 dx mA ∧ (∀ f, RelO (fs.lookup f) (mA f)) ∧ PySem.Within mA (fs.map (·.1))
  | .own _ => ∃ o, h.get? a = some o
  | .xd fs => ∃ mA, h.Ns1 a mA ∧ ∀ f, RelO (fs.lookup f) (mA f)
  | .rng lo hi => ∃ t u v, h.get? a = some { cls := .type "range", data := .fields #[.int lo t, .int hi u, .int 1 v] }
  | .frz o u => h.get? a = some o ∧ ObjOk H h a u
  | .tbl ps => h.get? a = some { cls := .none, data := .fields ps }
  | .met f x => h.get? a = some (PySem.W.methodObj (.ref f) (.ref x))
  | .ext φ => φ h ∧ (∃ o, h.get? a = some o) ∧ ∀ h1 h2 : Heap, φ h1 → (∀ o, h1.get? a = some o → h2.get? a = some o) → φ h2
def HOk (H : Hp) (h : Heap) : Prop := ∀ a o, H a = some o → ObjOk P w H h a o
end
section
variable {P : Program} {w : World} {H H' : Hp} {h h' : Heap} {a : Addr} {o : HO}
theorem ObjOk.lt (x : ObjOk P w H h a o) : a < h.objs.size := by
  cases o with
  | lst xs => obtain ⟨_, _, _, _, e⟩ := x; exact Heap.lt_size e
  | tup xs => obtain ⟨_, _, _, p⟩ := x; exact p.lt
  | dK kvs => obtain ⟨_, _, _, _, o, _, _, e, _⟩ := x; exact Heap.lt_size e
  | dT kvs => obtain ⟨_, _, _, _, o, _, _, e, _⟩ := x; exact Heap.lt_size e
  | set S n => obtain ⟨o, _, _, _, e, _⟩ := x; exact Heap.lt_size e
  | ins C dx fs => obtain ⟨_, _, _, e, _⟩ := x; exact Heap.lt_size e
  | own y => obtain ⟨_, e⟩ := x; exact Heap.lt_size e
  | xd fs => obtain ⟨_, ⟨_, _, _, e, _⟩, _⟩ := x; exact Heap.lt_size e
  | rng lo hi => obtain ⟨_, _, _, e⟩ := x; exact Heap.lt_size e
  | frz ob u => obtain ⟨e, _⟩ := x; exact Heap.lt_size e
  | tbl ps => exact Heap.lt_size (show h.get? a = some _ from x)
  | met f y => exact Heap.lt_size (show h.get? a = some _ from x)
  | ext φ => obtain ⟨_, ⟨_, e⟩, _⟩ := x; exact Heap.lt_size e
theorem Paired.mapP {α β : Type} {F G : α → β → Prop} : ∀ {l₁ : List α} {l₂ : List β}, Paired F l₁ l₂ → (∀ a b, F a b → G a b) → Paired G l₁ l₂
  | _, _, .nil, _ => .nil
  | _, _, .cons r t, f => .cons (f _ _ r) (Paired.mapP t f)
theorem ObjOk.stay (x : ObjOk P w H h a o) (k : ∀ b u, (b = a ∨ H b = some (.own a)) → h.get? b = some u → h'.get? b = some u)
    (ho : ∀ b, H b = some (.own a) → H' b = some (.own a)) (ht : ∀ b xs, H b = some (.tup xs) → H' b = some (.tup xs)) : ObjOk P w H' h' a o := by
  induction o with
  | lst xs => obtain ⟨z, its, n, r, e⟩ := x; exact ⟨z, its, n, r, k _ _ (.inl rfl) e⟩
  | tup xs => obtain ⟨z, its, r, ob, e, c⟩ := x; exact ⟨z, its, r, ob, k _ _ (.inl rfl) e, c⟩
  | dK kvs => obtain ⟨z, y, vs, r, ob, es, ep, e, c⟩ := x; exact ⟨z, y, vs, r, ob, es, ep, k _ _ (.inl rfl) e, c⟩
  | dT kvs =>
    obtain ⟨z, y, xs, r, ob, es, ep, e, c⟩ := x
    exact ⟨z, y, xs, Paired.mapP r fun p q z => ⟨z.1, ht _ _ z.2.1, z.2.2⟩, ob, es, ep, k _ _ (.inl rfl) e, c⟩
  | set S n => obtain ⟨ob, es, ep, t, e, c⟩ := x; exact ⟨ob, es, ep, t, k _ _ (.inl rfl) e, c⟩
  | ins C dx fs =>
    obtain ⟨d, z, ne, e, mA, ⟨od, es, ep, e2, c⟩, r⟩ := x
    exact ⟨ho _ d, z, ne, k _ _ (.inl rfl) e, mA, ⟨od, es, ep, k _ _ (.inr d) e2, c⟩, r⟩
  | own y => obtain ⟨ob, e⟩ := x; exact ⟨ob, k _ _ (.inl rfl) e⟩
  | xd fs => obtain ⟨mA, ⟨od, es, ep, e, c⟩, r⟩ := x; exact ⟨mA, ⟨od, es, ep, k _ _ (.inl rfl) e, c⟩, r⟩
  | rng lo hi => obtain ⟨t, u, v, e⟩ := x; exact ⟨t, u, v, k _ _ (.inl rfl) e⟩
  | frz ob u ih => obtain ⟨e, q⟩ := x; exact ⟨k _ _ (.inl rfl) e, ih q⟩
  | tbl ps =>
    have e : h.get? a = some { cls := .none, data := .fields ps } := x
    show h'.get? a = some { cls := .none, data := .fields ps }
    exact k a _ (.inl rfl) e
  | met f y =>
    have e : h.get? a = some (PySem.W.methodObj (.ref f) (.ref y)) := x
    show h'.get? a = some (PySem.W.methodObj (.ref f) (.ref y))
    exact k a _ (.inl rfl) e
  | ext φ => obtain ⟨p, ⟨o, e⟩, st⟩ := x; exact ⟨st _ _ p fun o q => k _ _ (.inl rfl) q, ⟨o, k _ _ (.inl rfl) e⟩, st⟩
theorem HOk.lt (x : HOk P w H h) (e : H a = some o) : a < h.objs.size := (x a o e).lt
theorem HOk.fresh (x : HOk P w H h) (e : h.objs.size ≤ a) : H a = none := by
  cases q : H a with
  | none => rfl
  | some u => exact absurd (Nat.lt_of_lt_of_le (x.lt q) e) (Nat.lt_irrefl _)
theorem HOk.kept (x : HOk P w H h) (k : ∀ b u, h.get? b = some u → h'.get? b = some u) : HOk P w H h' := fun a o e =>
  (x a o e).stay (fun b u _ q => k b u q) (fun _ q => q) fun _ _ q => q
theorem HOk.laid (x : HOk P w H h) (k : ∀ b u, h.get? b = some u → h'.get? b = some u) (hp : h.objs.size ≤ a) (new : ObjOk P w (upd H a o) h' a o) : HOk P w (upd H a o) h' := fun b u e => by
  have hn := x.fresh hp
  by_cases hb : b = a
  · subst hb; rw [upd_same] at e; cases e; exact new
  · rw [upd_ne hb] at e
    exact (x b u e).stay (fun c v _ q => k c v q) (fun c q => by rw [upd_ne (ne_of_none q hn)]; exact q) fun c xs q => by rw [upd_ne (ne_of_none q hn)]; exact q
end
def Rd (H : Hp) (a : Addr) (u : HO) : Prop := H a = some u ∨ ∃ o, H a = some (.frz o u)
theorem Rd.of {H : Hp} {a : Addr} {u : HO} (h : H a = some u) : Rd H a u := .inl h
theorem Rd.ok {P : Program} {w : World} {H : Hp} {h : Heap} {a : Addr} {u : HO} (r : Rd H a u) (x : HOk P w H h) : ObjOk P w H h a u := by
  rcases r with r | ⟨o, r⟩
  · exact x a u r
  · obtain ⟨_, q⟩ := x a _ r
    exact q
def Mut : Option HO → Prop
  | some (.lst _) => True
  | some (.dK _) => True
  | some (.dT _) => True
  | some (.set _ _) => True
  | some (.ins _ _ _) => True
  | some (.ext _) => True
  | _ => False
section
variable {P : Program} {w : World} {H : Hp} {h h' : Heap} {x e : Addr} {o' : HO}
theorem HOk.write (ok : HOk P w H h) (mu : Mut (H x)) (he : e = x ∨ H e = some (.own x)) (k : ∀ b u, b ≠ e → h.get? b = some u → h'.get? b = some u) (heo : ∃ u, h'.get? e = some u)
    (new : ObjOk P w (upd H x o') h' x o') : HOk P w (upd H x o') h' := fun b u q => by
  have nown : ∀ c y, H c = some (.own y) → c ≠ x := fun c y r z => by subst z; rw [r] at mu; exact mu
  have ntup : ∀ c xs, H c = some (.tup xs) → c ≠ x := fun c xs r z => by subst z; rw [r] at mu; exact mu
  by_cases hb : b = x
  · subst hb; rw [upd_same] at q; cases q; exact new
  · rw [upd_ne hb] at q
    by_cases hbe : b = e
    · have q' : H b = some (.own x) := by
        rcases he with z | z
        · exact absurd (hbe.trans z) hb
        · rw [hbe]; exact z
      rw [q] at q'; cases q'
      obtain ⟨v, hv⟩ := heo
      exact ⟨v, by rw [hbe]; exact hv⟩
    · refine (ok b u q).stay (fun c v hc r => k c v ?_ r) (fun c r => by rw [upd_ne (nown c b r)]; exact r) fun c xs r => by rw [upd_ne (ntup c xs r)]; exact r
      rcases hc with rfl | hc
      · exact hbe
      · rintro rfl
        rcases he with z | z
        · exact nown c b hc z
        · rw [hc] at z; cases z; exact hb rfl
end
structure Un (fs ex : List Addr) (H H' : Hp) (h h' : Heap) : Prop where
  keep : ∀ b o, h.get? b = some o → H b = none → b ∉ fs → b ∉ ex → h'.get? b = some o
  slot : ∀ b o, h.get? b = some o → H b = none → b ∈ fs → b ∉ ex → ∃ sl, h'.get? b = some { o with slots := sl }
  free : ∀ b o, h.get? b = some o → H b = none → b ∉ ex → H' b = none
  there : ∀ b o, h.get? b = some o → b ∉ ex → ∃ o', h'.get? b = some o'
  tups : ∀ b xs, H b = some (.tup xs) → H' b = some (.tup xs)
  frzs : ∀ b o u, H b = some (.frz o u) → H' b = some (.frz o u)
  tbls : ∀ b ps, H b = some (.tbl ps) → ∃ more, H' b = some (.tbl (ps ++ more))
section
variable {fs fs' ex ex' : List Addr} {H H1 H2 : Hp} {h h1 h2 h' : Heap} {a x e : Addr} {o : HO}
theorem Un.any (u : Un fs ex H H1 h h1) {b : Addr} {ob : Obj} (q : h.get? b = some ob) (n : H b = none) (hx : b ∉ ex) : ∃ sl, h1.get? b = some { ob with slots := sl } := by
  by_cases hb : b ∈ fs
  · exact u.slot b ob q n hb hx
  · exact ⟨ob.slots, u.keep b ob q n hb hx⟩
theorem Un.trans (a : Un fs ex H H1 h h1) (b : Un fs ex H1 H2 h1 h2) : Un fs ex H H2 h h2 where
  keep := fun c ob q n hc hx => b.keep c ob (a.keep c ob q n hc hx) (a.free c ob q n hx) hc hx
  slot := fun c ob q n hc hx => by
    obtain ⟨sl, e1⟩ := a.slot c ob q n hc hx
    obtain ⟨sl', e2⟩ := b.slot c _ e1 (a.free c ob q n hx) hc hx
    exact ⟨sl', e2⟩
  free := fun c ob q n hx => by
    obtain ⟨o', e1⟩ := a.there c ob q hx
    exact b.free c o' e1 (a.free c ob q n hx) hx
  there := fun c ob q hx => by
    obtain ⟨o', e1⟩ := a.there c ob q hx
    exact b.there c o' e1 hx
  tups := fun c xs q => b.tups c xs (a.tups c xs q)
  frzs := fun c ob xs q => b.frzs c ob xs (a.frzs c ob xs q)
  tbls := fun c ps q => by
    obtain ⟨m1, e1⟩ := a.tbls c ps q
    obtain ⟨m2, e2⟩ := b.tbls c _ e1
    exact ⟨m1 ++ m2, by rw [e2, Array.append_assoc]⟩
theorem Un.kept (k : ∀ b u, h.get? b = some u → h'.get? b = some u) : Un fs ex H H h h' :=
  ⟨fun b ob q _ _ _ => k b ob q, fun b ob q _ _ _ => ⟨ob.slots, k b ob q⟩, fun _ _ _ n _ => n, fun b ob q _ => ⟨ob, k b ob q⟩, fun _ _ q => q, fun _ _ _ q => q, fun _ ps q => ⟨#[], by rw [q]; simp⟩⟩
theorem Un.refl : Un fs ex H H h h := Un.kept fun _ _ q => q
theorem Un.laid (k : ∀ b u, h.get? b = some u → h'.get? b = some u) (hp : h.objs.size ≤ a) (hn : H a = none) : Un fs ex H (upd H a o) h h' where
  keep := fun b u q _ _ _ => k b u q
  slot := fun b u q _ _ _ => ⟨u.slots, k b u q⟩
  free := fun b u q n _ => by rw [upd_ne (Nat.ne_of_lt (Nat.lt_of_lt_of_le (Heap.lt_size q) hp))]; exact n
  there := fun b u q _ => ⟨u, k b u q⟩
  tups := fun b xs q => by rw [upd_ne (ne_of_none q hn)]; exact q
  frzs := fun b u xs q => by rw [upd_ne (ne_of_none q hn)]; exact q
  tbls := fun b ps q => ⟨#[], by rw [upd_ne (ne_of_none q hn), q]; simp⟩
theorem Un.write (mu : Mut (H x)) (he : e = x ∨ H e = some (.own x)) (k : ∀ b u, b ≠ e → h.get? b = some u → h'.get? b = some u) (heo : ∃ u, h'.get? e = some u) : Un fs ex H (upd H x o) h h' := by
  have hx : ∀ b, H b = none → b ≠ x := fun b n z => by subst z; rw [n] at mu; exact mu
  have hb : ∀ b, H b = none → b ≠ e := fun b n z => by
    subst z
    rcases he with r | r
    · exact hx b n r
    · rw [n] at r; cases r
  have hm : ∀ b u, H b = some u → ¬ Mut (some u) → b ≠ x := fun b u q nm z => by subst z; rw [q] at mu; exact nm mu
  refine ⟨fun b u q n _ _ => k b u (hb b n) q, fun b u q n _ _ => ⟨u.slots, k b u (hb b n) q⟩, fun b u q n _ => by rw [upd_ne (hx b n)]; exact n, fun b u q _ => ?_,
    fun b xs q => by rw [upd_ne (hm b _ q fun z => z)]; exact q, fun b u xs q => by rw [upd_ne (hm b _ q fun z => z)]; exact q, fun b ps q => ⟨#[], by rw [upd_ne (hm b _ q fun z => z), q]; simp⟩⟩
  by_cases hbe : b = e
  · subst hbe; exact heo
  · exact ⟨u, k b u hbe q⟩
theorem Un.mono (u : Un fs ex H H1 h h1) (hs : ∀ b ∈ fs, b ∈ fs') (hx : ∀ b ∈ ex, b ∈ ex') : Un fs' ex' H H1 h h1 :=
  ⟨fun b ob q n hb he => u.keep b ob q n (fun z => hb (hs b z)) fun z => he (hx b z), fun _ _ q n _ he => u.any q n fun z => he (hx _ z), fun b ob q n he => u.free b ob q n fun z => he (hx b z), fun b ob q he => u.there b ob q fun z => he (hx b z), u.tups, u.frzs, u.tbls⟩
end
def trk (h : Heap) (H : Hp) : List Addr := (List.range h.objs.size).filter fun a => (H a).isSome
def hidT (h : Heap) (H : Hp) : Heap := PySem.W.hideAll h (trk h H)
theorem hidT_size (h : Heap) (H : Hp) : (hidT h H).objs.size = h.objs.size := PySem.W.hideAll_size _ _
theorem hidT_get {h : Heap} {H : Hp} {b : Addr} {o : Obj} (e : h.get? b = some o) (n : H b = none) : (hidT h H).get? b = some o :=
  PySem.W.hideAll_get _ e fun hm => by
    have q : (H b).isSome = true := (List.mem_filter.mp hm).2
    rw [n] at q; simp at q
theorem of_hidT {h : Heap} {H : Hp} {b : Addr} {o : Obj} (e : (hidT h H).get? b = some o) : h.get? b = some o ∧ H b = none := by
  have e' : h.get? b = some o := PySem.W.of_hideAll (trk h H) e
  refine ⟨e', ?_⟩
  cases q : H b with
  | none => rfl
  | some x =>
    have hm : b ∈ trk h H := List.mem_filter.mpr ⟨List.mem_range.mpr (Heap.lt_size e'), by simp [q]⟩
    have z : (hidT h H).get? b = none := PySem.W.hideAll_none (trk h H) hm
    rw [z] at e; cases e
def allNews (g h : Heap) (L : Addr) : List (Addr × Obj) := (List.range h.objs.size).filterMap fun a => if a = L ∨ (g.get? a).isSome = true then none else (h.get? a).map fun o => (a, o)
def rest (g h : Heap) (L d : Addr) : List (Addr × Obj) := (allNews g h L).filter fun p => decide (p.1 ≠ d)
end L2
namespace L2
open PySem PySem.Spec PyProof.Rows
structure Mod (K : PySem.W.Frag) (mg : Str → Option Value) (base : Heap) : Prop where
  kin : K.In base
  glob : base.Ns mainGlobals mg
  blt : ∃ mb, base.Ns builtinsNs mb ∧ ∀ x : Str, x ≠ "__name__" → mb x = bootBuiltins x
  nolimit : base.NoLimit
structure Cx where
  prog : Program
  w : World
  K : PySem.W.Frag
  mg : Str → Option Value
  base : Heap
  A : Around
  N : List Str
  s₀ : Shared
  H₀ : Hp
  env : Env
  outer : List Env
  stack : List Env
  ex : List Addr
  fn : Str → Bool
  calm : Bool
  pn : List (Addr × Obj)
  xe : Value → Shared → Prop
def frs (l : List Env) : List Addr := l.filterMap (·.frame)
abbrev Cx.fs (X : Cx) : List Addr := frs X.outer
def Vis (sc : Scope) (x : Str) : Prop := sc.names.lookup x = some .local ∨ sc.names.lookup x = some .cell ∨ sc.names.lookup x = some .free
def Loc (sc : Scope) (x : Str) : Prop := sc.names.lookup x = some .local ∨ sc.names.lookup x = some .cell
def Look (env : Env) (h : Heap) (m : Str → Option Value) (x : Str) (u : Value) : Prop :=
  (env.kindOf x = some .local ∧ m x = some u) ∨ ((env.kindOf x = some .cell ∨ env.kindOf x = some .free) ∧ ∃ c, env.cells.lookup x = some c ∧ h.IsCell c (some u))
structure Cx.Ok (X : Cx) : Prop where
  mod : Mod X.K X.mg X.base
  kind : X.env.scope.kind = .function
  glob : X.env.globals = mainGlobals
  blt : X.env.builtins = builtinsNs
  above : X.s₀.heap.objs.size ≤ X.env.locals
  inj : ∀ x y c, X.env.cells.lookup x = some c → X.env.cells.lookup y = some c → x = y
  has : ∀ x, (X.env.kindOf x = some .cell ∨ X.env.kindOf x = some .free) → ∃ c, X.env.cells.lookup x = some c
  cab : ∀ x c, X.fn x = true → X.env.cells.lookup x = some c → X.s₀.heap.objs.size ≤ c
  hd : X.calm = true → X.A.handled = none
  frames : X.A.frames = some X.stack
  stk : X.stack = X.outer ∨ (X.stack = X.env :: X.outer ∧ X.env.frame = some X.env.locals)
  exf : ∀ b ∈ X.ex, b ≠ X.env.locals ∧ ∀ x c, X.env.cells.lookup x = some c → c ≠ b
  bs : ∀ b o, X.base.get? b = some o → X.s₀.heap.get? b = some o ∧ X.H₀ b = none
  bsz : X.base.objs.size ≤ X.s₀.heap.objs.size
  noex : ∀ b o, X.base.get? b = some o → b ∉ X.ex
  exfs : ∀ b ∈ X.ex, b ∉ X.fs
  funs : X.s₀.heap.FunFrames X.base X.outer
  frf : ∀ b ∈ X.fs, X.H₀ b = none
structure Inv (X : Cx) (pins : List (Addr × Obj)) (σ : List (Option V)) (H : Hp) (s : Shared) : Prop where
  ok : X.Ok
  os : s.os = X.s₀.os
  bare : AllBare s.gens
  base : Un X.fs X.ex X.H₀ H X.s₀.heap s.heap
  loc : ∃ m, s.heap.Ns X.env.locals m ∧ ∀ (i : Nat) (x : Str) (v : V), X.N[i]? = some x → σ[i]? = some (some v) → Vis X.env.scope x → ∃ u, RelV v u ∧ Look X.env s.heap m x u
  cell : ∀ x c, X.env.cells.lookup x = some c → ∃ v, s.heap.IsCell c v
  free : H X.env.locals = none
  freeC : ∀ x c, X.env.cells.lookup x = some c → H c = none
  pin : ∀ p ∈ X.pn ++ pins, s.heap.get? p.1 = some p.2 ∧ H p.1 = none ∧ p.1 ≠ X.env.locals ∧ p.1 ∉ X.fs ∧ ∀ v, p.2.data ≠ .cell v
  hok : HOk X.prog X.w H s.heap
  len : σ.length = X.N.length
section
variable {X : Cx} {pins : List (Addr × Obj)} {σ : List (Option V)} {H H' : Hp} {s : Shared} {h' : Heap}
theorem Cx.Ok.nofr (ok : X.Ok) {b : Addr} {o : Obj} (e : X.base.get? b = some o) : b ∉ X.fs := fun hb => by
  have := (ok.funs.mem hb).1
  rw [e] at this; cases this
theorem Inv.bs (I : Inv X pins σ H s) : ∀ b o, X.base.get? b = some o → s.heap.get? b = some o ∧ H b = none := fun b o e =>
  ⟨I.base.keep b o (I.ok.bs b o e).1 (I.ok.bs b o e).2 (I.ok.nofr e) (I.ok.noex b o e), I.base.free b o (I.ok.bs b o e).1 (I.ok.bs b o e).2 (I.ok.noex b o e)⟩
theorem Inv.bk (I : Inv X pins σ H s) : ∀ b o, X.base.get? b = some o → s.heap.get? b = some o := fun b o e => (I.bs b o e).1
theorem Inv.mod (I : Inv X pins σ H s) : Mod X.K X.mg X.base := I.ok.mod
theorem Inv.kIn (I : Inv X pins σ H s) : X.K.In s.heap := I.ok.mod.kin.keeps I.bk
theorem Inv.nolimit (I : Inv X pins σ H s) : s.heap.NoLimit := I.ok.mod.nolimit.keeps I.bk
theorem Inv.fr (I : Inv X pins σ H s) : ∃ m, Fr X.base X.env.locals s.heap m :=
  let ⟨m, hn, _⟩ := I.loc
  ⟨m, hn, I.bk, Nat.le_trans I.ok.bsz I.ok.above⟩
theorem Inv.lt (I : Inv X pins σ H s) : X.env.locals < s.heap.objs.size := let ⟨_, hn, _⟩ := I.loc; hn.lt
theorem Inv.sz (I : Inv X pins σ H s) : X.s₀.heap.objs.size ≤ s.heap.objs.size := Nat.le_trans I.ok.above (Nat.le_of_lt I.lt)
theorem Inv.nofs (I : Inv X pins σ H s) {a : Addr} (h : s.heap.objs.size ≤ a) : a ∉ X.fs := fun hb => by
  obtain ⟨_, o, ho, _⟩ := I.ok.funs.mem hb
  exact absurd (Nat.lt_of_lt_of_le (Heap.lt_size ho) (Nat.le_trans I.sz h)) (Nat.lt_irrefl _)
theorem Inv.cne (I : Inv X pins σ H s) : ∀ x c, X.env.cells.lookup x = some c → c ≠ X.env.locals := fun x c e z => by
  obtain ⟨v, o, ho, hd⟩ := I.cell x c e
  obtain ⟨m, ⟨o', es, ep, ho', hd', _⟩, _⟩ := I.loc
  rw [z, ho'] at ho; cases ho; rw [hd'] at hd; cases hd
theorem Inv.funs (I : Inv X pins σ H s) : s.heap.FunFrames X.base X.outer := by
  have all : ∀ (l : List Env), (∀ b ∈ frs l, b ∈ X.fs) → X.s₀.heap.FunFrames X.base l → s.heap.FunFrames X.base l := by
    intro l
    induction l with
    | nil => intro _ _; trivial
    | cons env r ih =>
      intro hs hl
      obtain ⟨hk, ⟨L, o, hf, hn, ho, hd⟩, hr⟩ := hl
      have hL : L ∈ X.fs := hs L (by unfold frs; rw [List.filterMap_cons, hf]; exact List.mem_cons_self)
      obtain ⟨sl, e⟩ := I.base.slot L o ho (I.ok.frf L hL) hL fun z => I.ok.exfs L z hL
      exact ⟨hk, ⟨L, _, hf, hn, e, hd⟩, ih (fun b hb => hs b (by unfold frs; rw [List.filterMap_cons, hf]; exact List.mem_cons_of_mem _ hb)) hr⟩
  exact all X.outer (fun _ hb => hb) I.ok.funs
theorem Inv.stack (I : Inv X pins σ H s) : s.heap.FunFrames X.base X.stack := by
  rcases I.ok.stk with e | ⟨e, hf⟩
  · rw [e]; exact I.funs
  · rw [e]
    obtain ⟨m, hn, _⟩ := I.loc
    refine .cons (by rw [I.ok.kind]; decide) hf hn ?_ I.funs
    exact Heap.get?_none_of_le (Nat.le_trans I.ok.bsz I.ok.above)
theorem Inv.stkSub (I : Inv X pins σ H s) : ∀ b ∈ frs X.stack, b ∈ X.env.locals :: X.fs := fun b hb => by
  rcases I.ok.stk with e | ⟨e, hf⟩
  · rw [e] at hb; exact List.mem_cons_of_mem _ hb
  · rw [e] at hb
    unfold frs at hb
    rw [List.filterMap_cons, hf] at hb
    exact hb
theorem Inv.stkFree (I : Inv X pins σ H s) : ∀ b ∈ frs X.stack, H b = none := fun b hb => by
  rcases List.mem_cons.mp (I.stkSub b hb) with e | hb
  · rw [e]; exact I.free
  · obtain ⟨_, o, ho, _⟩ := I.ok.funs.mem hb
    exact I.base.free b o ho (I.ok.frf b hb) fun z => I.ok.exfs b z hb
theorem Inv.step {g' : Array GenState} {t' : Nat} {d' : Drawn} {ch : List Addr} (I : Inv X pins σ H s)
    (hch : ∀ b ∈ ch, (b ∈ X.ex ∨ X.s₀.heap.objs.size ≤ b) ∧ b ≠ X.env.locals ∧ (∀ x c, X.env.cells.lookup x = some c → c ≠ b) ∧ ∀ p ∈ X.pn ++ pins, p.1 ≠ b)
    (keep : ∀ b o, b ≠ X.env.locals → b ∉ X.fs → b ∉ ch → s.heap.get? b = some o → H b = none → h'.get? b = some o)
    (slot : ∀ b o, b ≠ X.env.locals → b ∈ X.fs → b ∉ ch → s.heap.get? b = some o → H b = none → ∃ sl, h'.get? b = some { o with slots := sl }) (free : ∀ b o, b ∉ ch → s.heap.get? b = some o → H b = none → H' b = none)
    (there : ∀ b o, b ∉ ch → s.heap.get? b = some o → ∃ o', h'.get? b = some o')
    (tups : ∀ b xs, H b = some (.tup xs) → H' b = some (.tup xs)) (frzs : ∀ b o u, H b = some (.frz o u) → H' b = some (.frz o u)) (tbls : ∀ b ps, H b = some (.tbl ps) → ∃ more, H' b = some (.tbl (ps ++ more)))
    (ns : ∀ m, s.heap.Ns X.env.locals m → h'.Ns X.env.locals m) (hok : HOk X.prog X.w H' h') (hg : AllBare g') :
    Inv X pins σ H' { s with heap := h', gens := g', drawn := d', toks := t' } := by
  have neL : ∀ b o, X.s₀.heap.get? b = some o → b ≠ X.env.locals := fun b o e => Nat.ne_of_lt (Nat.lt_of_lt_of_le (Heap.lt_size e) I.ok.above)
  have neC : ∀ b o, X.s₀.heap.get? b = some o → b ∉ X.ex → b ∉ ch := fun b o e hx hb => by
    rcases (hch b hb).1 with z | z
    · exact hx z
    · exact absurd (Nat.lt_of_lt_of_le (Heap.lt_size e) z) (Nat.lt_irrefl _)
  have cellK : ∀ x c, X.env.cells.lookup x = some c → ∀ v, s.heap.IsCell c v → h'.IsCell c v := fun x c e v ⟨o, ho, hd⟩ => by
    have nch : c ∉ ch := fun z => (hch c z).2.2.1 x c e rfl
    by_cases hc : c ∈ X.fs
    · obtain ⟨sl, q⟩ := slot c o (I.cne x c e) hc nch ho (I.freeC x c e)
      exact ⟨_, q, hd⟩
    · exact ⟨o, keep c o (I.cne x c e) hc nch ho (I.freeC x c e), hd⟩
  refine ⟨I.ok, I.os, hg, ⟨fun b o e n hb hx => ?_, fun b o e n hb hx => ?_, fun b o e n hx => ?_, fun b o e hx => ?_, fun b xs e => tups b xs (I.base.tups b xs e), fun b o xs e => frzs b o xs (I.base.frzs b o xs e), fun b ps e => ?_⟩, ?_, fun x c e => ?_, ?_, fun x c e => ?_, fun p hp => ?_, hok, I.len⟩
  · exact keep b o (neL b o e) hb (neC b o e hx) (I.base.keep b o e n hb hx) (I.base.free b o e n hx)
  · obtain ⟨sl, e1⟩ := I.base.slot b o e n hb hx
    obtain ⟨sl', e2⟩ := slot b _ (neL b o e) hb (neC b o e hx) e1 (I.base.free b o e n hx)
    exact ⟨sl', e2⟩
  · obtain ⟨o', e1⟩ := I.base.there b o e hx
    exact free b o' (neC b o e hx) e1 (I.base.free b o e n hx)
  · obtain ⟨o', e1⟩ := I.base.there b o e hx
    exact there b o' (neC b o e hx) e1
  · obtain ⟨m1, e1⟩ := I.base.tbls b ps e
    obtain ⟨m2, e2⟩ := tbls b _ e1
    exact ⟨m1 ++ m2, by rw [e2, Array.append_assoc]⟩
  · obtain ⟨m, hn, hl⟩ := I.loc
    refine ⟨m, ns m hn, fun i x v e1 e2 e3 => ?_⟩
    obtain ⟨u, r, l⟩ := hl i x v e1 e2 e3
    refine ⟨u, r, ?_⟩
    rcases l with l | ⟨k, c, e, z⟩
    · exact .inl l
    · exact .inr ⟨k, c, e, cellK x c e _ z⟩
  · obtain ⟨v, z⟩ := I.cell x c e
    exact ⟨v, cellK x c e v z⟩
  · obtain ⟨m, ⟨o, _, _, ho, _⟩, _⟩ := I.loc
    exact free _ o (fun z => (hch _ z).2.1 rfl) ho I.free
  · obtain ⟨v, o, ho, hd⟩ := I.cell x c e
    exact free c o (fun z => (hch c z).2.2.1 x c e rfl) ho (I.freeC x c e)
  · obtain ⟨e, n, ne, nf, d⟩ := I.pin p hp
    have nch : p.1 ∉ ch := fun z => (hch p.1 z).2.2.2 p hp rfl
    exact ⟨keep p.1 p.2 ne nf nch e n, free p.1 p.2 nch e n, ne, nf, d⟩
theorem Inv.un {t' : Nat} (I : Inv X pins σ H s) (u : Un X.fs [] H H' s.heap h') (hok : HOk X.prog X.w H' h') : Inv X pins σ H' { s with heap := h', toks := t' } := by
  obtain ⟨m, ⟨o, es, ep, ho, r⟩, _⟩ := id I.loc
  obtain ⟨sl, hL⟩ := u.any ho I.free (by simp)
  exact I.step (g' := s.gens) (d' := s.drawn) (ch := []) (fun _ z => nomatch z) (fun b o _ hb _ e n => u.keep b o e n hb (by simp)) (fun b o _ hb _ e n => u.slot b o e n hb (by simp)) (fun b o _ e n => u.free b o e n (by simp)) (fun b o _ e => u.there b o e (by simp)) u.tups u.frzs u.tbls (fun m' hm => by
    obtain ⟨o', es', ep', ho', r'⟩ := hm
    rw [ho] at ho'; cases ho'
    exact ⟨_, es', ep', hL, r'⟩) hok I.bare
theorem Inv.call {g' : Array GenState} {t' : Nat} {d' : Drawn} {ch : List Addr} (I : Inv X pins σ H s) (u : Un (frs X.stack) ch H H' s.heap h') (hok : HOk X.prog X.w H' h') (hg : AllBare g')
    (hch : ∀ b ∈ ch, (b ∈ X.ex ∨ X.s₀.heap.objs.size ≤ b) ∧ b ≠ X.env.locals ∧ (∀ x c, X.env.cells.lookup x = some c → c ≠ b) ∧ ∀ p ∈ X.pn ++ pins, p.1 ≠ b) :
    Inv X pins σ H' { s with heap := h', gens := g', drawn := d', toks := t' } := by
  obtain ⟨m, ⟨o, es, ep, ho, r⟩, _⟩ := id I.loc
  obtain ⟨sl, hL⟩ := u.any ho I.free fun z => (hch _ z).2.1 rfl
  exact I.step (ch := ch) hch (fun b o hL hb hc e n => u.keep b o e n (fun z => (List.mem_cons.mp (I.stkSub b z)).elim hL hb) hc) (fun b o _ _ hc e n => u.any e n hc) (fun b o hc e n => u.free b o e n hc) (fun b o hc e => u.there b o e hc) u.tups u.frzs u.tbls (fun m' hm => by
    obtain ⟨o', es', ep', ho', r'⟩ := hm
    rw [ho] at ho'; cases ho'
    exact ⟨_, es', ep', hL, r'⟩) hok hg
theorem Inv.turned {t' : Nat} {it : Addr} (I : Inv X pins σ H s) (k : ∀ b o, b ≠ it → s.heap.get? b = some o → h'.get? b = some o) (hn : H it = none) (hL : it ≠ X.env.locals)
    (h1 : it ∈ X.ex ∨ X.s₀.heap.objs.size ≤ it) (h2 : ∀ x c, X.env.cells.lookup x = some c → c ≠ it) (h3 : ∀ p ∈ X.pn ++ pins, p.1 ≠ it) : Inv X pins σ H { s with heap := h', toks := t' } := by
  have nit : ∀ b u, H b = some u → b ≠ it := fun b u e z => by rw [z, hn] at e; cases e
  refine I.step (g' := s.gens) (d' := s.drawn) (ch := [it]) (fun b hb => ?_) (fun b o _ _ hc e _ => k b o (fun z => hc (by simp [z])) e) (fun b o _ _ hc e _ => ⟨o.slots, k b o (fun z => hc (by simp [z])) e⟩) (fun _ _ _ _ n => n)
    (fun b o hc e => ⟨o, k b o (fun z => hc (by simp [z])) e⟩) (fun _ _ e => e) (fun _ _ _ e => e) (fun b ps e => ⟨#[], by rw [e]; simp⟩) (fun m hm => ?_) (fun b u e => ?_) I.bare
  · have e : b = it := by simpa using hb
    subst e
    exact ⟨h1, hL, h2, h3⟩
  · obtain ⟨o, es, ep, ho, r⟩ := hm
    exact ⟨o, es, ep, k _ o (Ne.symm hL) ho, r⟩
  · refine (I.hok b u e).stay (fun c v hc q => k c v ?_ q) (fun _ q => q) fun _ _ q => q
    rcases hc with z | z
    · rw [z]; exact nit b u e
    · exact nit c _ z
theorem Inv.tok (I : Inv X pins σ H s) (t : Nat) : Inv X pins σ H { s with toks := t } := I.un (h' := s.heap) (t' := t) Un.refl I.hok
theorem Inv.kept {t' : Nat} (I : Inv X pins σ H s) (k : ∀ b u, s.heap.get? b = some u → h'.get? b = some u) : Inv X pins σ H { s with heap := h', toks := t' } := I.un (Un.kept k) (I.hok.kept k)
theorem Inv.laid {a : Addr} {o : HO} {t' : Nat} (I : Inv X pins σ H s) (k : ∀ b u, s.heap.get? b = some u → h'.get? b = some u) (hp : s.heap.objs.size ≤ a) (new : ObjOk X.prog X.w (upd H a o) h' a o) :
    Inv X pins σ (upd H a o) { s with heap := h', toks := t' } := I.un (Un.laid k hp (I.hok.fresh hp)) (I.hok.laid k hp new)
theorem Inv.write {x e : Addr} {o : HO} {t' : Nat} (I : Inv X pins σ H s) (mu : Mut (H x)) (he : e = x ∨ H e = some (.own x)) (k : ∀ b u, b ≠ e → s.heap.get? b = some u → h'.get? b = some u) (heo : ∃ u, h'.get? e = some u)
    (new : ObjOk X.prog X.w (upd H x o) h' x o) : Inv X pins σ (upd H x o) { s with heap := h', toks := t' } := I.un (Un.write mu he k heo) (I.hok.write mu he k heo new)
theorem Inv.weak {σ' : List (Option V)} (I : Inv X pins σ H s) (hl : σ'.length = σ.length) (w : ∀ (i : Nat) v, σ'[i]? = some (some v) → σ[i]? = some (some v)) : Inv X pins σ' H s :=
  ⟨I.ok, I.os, I.bare, I.base, let ⟨m, hn, hl'⟩ := I.loc; ⟨m, hn, fun i x v e1 e2 e3 => hl' i x v e1 (w i v e2) e3⟩, I.cell, I.free, I.freeC, I.pin, I.hok, hl.trans I.len⟩
theorem Inv.pins_of {pins' : List (Addr × Obj)} (I : Inv X pins σ H s) (h : ∀ p ∈ pins', s.heap.get? p.1 = some p.2 ∧ H p.1 = none ∧ p.1 ≠ X.env.locals ∧ p.1 ∉ X.fs ∧ ∀ v, p.2.data ≠ .cell v) : Inv X pins' σ H s :=
  ⟨I.ok, I.os, I.bare, I.base, I.loc, I.cell, I.free, I.freeC, fun p hp => (List.mem_append.mp hp).elim (fun z => I.pin p (List.mem_append_left _ z)) (h p), I.hok, I.len⟩
theorem nodup_ix {N : List Str} (hN : N.Nodup) {i j : Nat} {x : Str} (a : N[i]? = some x) (b : N[j]? = some x) : i = j := by
  obtain ⟨h1, e1⟩ := List.getElem?_eq_some_iff.mp a
  obtain ⟨h2, e2⟩ := List.getElem?_eq_some_iff.mp b
  exact (List.getElem_inj hN).mp (e1.trans e2.symm)
theorem store_ok2 {M : Model} {A : Around} {E : Value → Shared → Prop} {i : Nat} {x : Str} {v : V} {u : Value} {Q : Unit → Shared → Prop} (I : Inv X pins σ H s) (hN : X.N.Nodup) (hi : X.N[i]? = some x) (hx : Loc X.env.scope x) (r : RelV v u)
    (h : ∀ s', Inv X pins (σ.set i (some v)) H s' → (∃ a, Heap.SameBut a s.heap s'.heap ∧ (a = X.env.locals ∨ X.env.cells.lookup x = some a)) → Q () s') (hf : X.fn x = true ∨ X.env.scope.names.lookup x = some .local := by first | exact .inl rfl | exact .inr rfl | assumption) : wpAny M A (storeName X.env x u) Q E s := by
  obtain ⟨m, hn, hl⟩ := id I.loc
  have hcls : (X.env.scope.kind == .class || (X.env.scope.kind == .module && X.env.locals != X.env.globals)) = false := by rw [I.ok.kind]; rfl
  have hiσ : i < σ.length := by rw [I.len]; exact (List.getElem?_eq_some_iff.mp hi).1
  have cne := I.cne
  have tracked : ∀ {a : Addr} {h' : Heap}, (∃ o, s.heap.get? a = some o ∧ H a = none) → Heap.SameBut a s.heap h' → HOk X.prog X.w H h' := fun {a h'} ha hs b ob e => by
    obtain ⟨_, _, hfree⟩ := ha
    refine (I.hok b ob e).stay (fun c w' hc q => (hs.2 c ?_).trans q) (fun _ q => q) fun _ _ q => q
    rintro rfl
    rcases hc with rfl | hc
    · rw [hfree] at e; cases e
    · rw [hfree] at hc; cases hc
  rcases hx with hk | hk
  · refine wpAny_storeName_local hk hn (fun h' hn' hs => ?_) hcls
    obtain ⟨oL, _, _, hoL, _⟩ := id hn
    refine h _ ⟨I.ok, I.os, I.bare, ⟨fun b o e n hb hx => ?_, fun b o e n hb hx => ?_, I.base.free, fun b o e hx => ?_, I.base.tups, I.base.frzs, I.base.tbls⟩, ⟨_, hn', fun j y v' e1 e2 e3 => ?_⟩, fun y c e => ?_, I.free, I.freeC, fun p hp => ?_, tracked ⟨oL, hoL, I.free⟩ hs, by simpa using I.len⟩ ⟨_, hs, .inl rfl⟩
    · exact (hs.2 b (Nat.ne_of_lt (Nat.lt_of_lt_of_le (Heap.lt_size e) I.ok.above))).trans (I.base.keep b o e n hb hx)
    · obtain ⟨sl, e1⟩ := I.base.slot b o e n hb hx
      exact ⟨sl, (hs.2 b (Nat.ne_of_lt (Nat.lt_of_lt_of_le (Heap.lt_size e) I.ok.above))).trans e1⟩
    · obtain ⟨o', e1⟩ := I.base.there b o e hx
      exact ⟨o', (hs.2 b (Nat.ne_of_lt (Nat.lt_of_lt_of_le (Heap.lt_size e) I.ok.above))).trans e1⟩
    · by_cases hj : j = i
      · subst hj
        rw [hi] at e1; cases e1
        rw [List.getElem?_set_self hiσ] at e2
        cases e2
        exact ⟨u, r, .inl ⟨hk, by simp⟩⟩
      · rw [List.getElem?_set_ne (Ne.symm hj)] at e2
        obtain ⟨u', r', q⟩ := hl j y v' e1 e2 e3
        refine ⟨u', r', ?_⟩
        rcases q with ⟨k, e⟩ | ⟨k, c, e, z⟩
        · refine .inl ⟨k, ?_⟩
          have : y ≠ x := fun e => hj (nodup_ix hN e1 (e ▸ hi))
          simp [this, e]
        · exact .inr ⟨k, c, e, z.sameBut hs (cne y c e)⟩
    · obtain ⟨w', z⟩ := I.cell y c e
      exact ⟨w', z.sameBut hs (cne y c e)⟩
    · obtain ⟨e, n, ne, nf, d⟩ := I.pin p hp
      exact ⟨(hs.2 p.1 ne).trans e, n, ne, nf, d⟩
  · have hfn : X.fn x = true := by
      rcases hf with z | z
      · exact z
      · rw [z] at hk; cases hk
    obtain ⟨c, hc⟩ := I.ok.has x (.inl hk)
    obtain ⟨w', z⟩ := I.cell x c hc
    refine wpAny_storeName_cell I.ok.kind hk hc z (fun h' hc' hs => ?_)
    obtain ⟨oc, hoc, hocd⟩ := id z
    refine h { s with heap := h' } ⟨I.ok, I.os, I.bare, ⟨fun b o e n hb hx => ?_, fun b o e n hb hx => ?_, I.base.free, fun b o e hx => ?_, I.base.tups, I.base.frzs, I.base.tbls⟩, ⟨m, hn.sameBut hs (Ne.symm (cne x c hc)), fun j y v' e1 e2 e3 => ?_⟩, fun y c' e => ?_, I.free, I.freeC, fun p hp => ?_, tracked ⟨oc, hoc, I.freeC x c hc⟩ hs, by simpa using I.len⟩ ⟨c, hs, .inr hc⟩
    · exact (hs.2 b (Nat.ne_of_lt (Nat.lt_of_lt_of_le (Heap.lt_size e) (I.ok.cab x c hfn hc)))).trans (I.base.keep b o e n hb hx)
    · obtain ⟨sl, e1⟩ := I.base.slot b o e n hb hx
      exact ⟨sl, (hs.2 b (Nat.ne_of_lt (Nat.lt_of_lt_of_le (Heap.lt_size e) (I.ok.cab x c hfn hc)))).trans e1⟩
    · obtain ⟨o', e1⟩ := I.base.there b o e hx
      exact ⟨o', (hs.2 b (Nat.ne_of_lt (Nat.lt_of_lt_of_le (Heap.lt_size e) (I.ok.cab x c hfn hc)))).trans e1⟩
    · by_cases hj : j = i
      · subst hj
        rw [hi] at e1; cases e1
        rw [List.getElem?_set_self hiσ] at e2
        cases e2
        exact ⟨u, r, .inr ⟨.inl hk, c, hc, hc'⟩⟩
      · rw [List.getElem?_set_ne (Ne.symm hj)] at e2
        obtain ⟨u', r', q⟩ := hl j y v' e1 e2 e3
        refine ⟨u', r', ?_⟩
        rcases q with q | ⟨k, c', e, z'⟩
        · exact .inl q
        · refine .inr ⟨k, c', e, z'.sameBut hs ?_⟩
          rintro rfl
          exact hj (nodup_ix hN e1 (I.ok.inj _ _ _ e hc ▸ hi))
    · by_cases hcc : c' = c
      · subst hcc; exact ⟨_, hc'⟩
      · obtain ⟨w2, z2⟩ := I.cell y c' e
        exact ⟨w2, z2.sameBut hs hcc⟩
    · obtain ⟨e, n, ne, nf, d⟩ := I.pin p hp
      refine ⟨(hs.2 p.1 ?_).trans e, n, ne, nf, d⟩
      intro q
      rw [q, hoc] at e
      have q' : oc = p.2 := Option.some.inj e
      exact d w' (by rw [← q']; exact hocd)
theorem store_ok {M : Model} {A : Around} {E : Value → Shared → Prop} {i : Nat} {x : Str} {v : V} {u : Value} {Q : Unit → Shared → Prop} (I : Inv X pins σ H s) (hN : X.N.Nodup) (hi : X.N[i]? = some x) (hx : Loc X.env.scope x) (r : RelV v u)
    (h : ∀ s', Inv X pins (σ.set i (some v)) H s' → Q () s') (hf : X.fn x = true ∨ X.env.scope.names.lookup x = some .local := by first | exact .inl rfl | exact .inr rfl | assumption) : wpAny M A (storeName X.env x u) Q E s :=
  store_ok2 I hN hi hx r (fun s' I' _ => h s' I') hf
theorem Inv.call' {s' : Shared} {ch : List Addr} (I : Inv X pins σ H s) (ho : s'.os = s.os) (u : Un (frs X.stack) ch H H' s.heap s'.heap) (hok : HOk X.prog X.w H' s'.heap) (hg : AllBare s'.gens)
    (hch : ∀ b ∈ ch, (b ∈ X.ex ∨ X.s₀.heap.objs.size ≤ b) ∧ b ≠ X.env.locals ∧ (∀ x c, X.env.cells.lookup x = some c → c ≠ b) ∧ ∀ p ∈ X.pn ++ pins, p.1 ≠ b) : Inv X pins σ H' s' := by
  obtain ⟨h', g', d', t', o'⟩ := s'
  have e : o' = s.os := ho
  subst e
  exact I.call (g' := g') (t' := t') (d' := d') u hok hg hch
end
abbrev XK := Value → Option Addr → Hp → Prop
abbrev St := List (Option V)
abbrev VK := V → Hp → Prop
abbrev TE := St → Hp → VK → Prop
abbrev TT := St → Hp → (Bool → Hp → Prop) → Prop
abbrev TA := St → Hp → (List V → Hp → Prop) → Prop
structure Ends where
  nx : St → Hp → Prop
  rt : VK
  bk : St → Hp → Prop := fun _ _ => False
  ct : St → Hp → Prop := fun _ _ => False
abbrev TS := Ends → St → Hp → Prop
def EP (X : Cx) (pins : List (Addr × Obj)) (σ : St) (Q : VK) (u : Value) (s' : Shared) : Prop := ∃ v H', Inv X pins σ H' s' ∧ RelV v u ∧ Q v H'
def TP (X : Cx) (pins : List (Addr × Obj)) (σ : St) (Q : Bool → Hp → Prop) (b : Bool) (s' : Shared) : Prop := ∃ H', Inv X pins σ H' s' ∧ Q b H'
def AP (X : Cx) (pins : List (Addr × Obj)) (σ : St) (Q : List V → Hp → Prop) (us : List Value) (s' : Shared) : Prop := ∃ vs H', Inv X pins σ H' s' ∧ Vals vs us ∧ Q vs H'
def SP (X : Cx) (pins : List (Addr × Obj)) (D : Ends) (f : Flow) (s' : Shared) : Prop :=
  match f with
  | .next => ∃ σ' H', Inv X pins σ' H' s' ∧ D.nx σ' H'
  | .brk => ∃ σ' H', Inv X pins σ' H' s' ∧ D.bk σ' H'
  | .cont => ∃ σ' H', Inv X pins σ' H' s' ∧ D.ct σ' H'
  | .ret u => ∃ v σ' H', Inv X pins σ' H' s' ∧ RelV v u ∧ D.rt v H'
def PE (X : Cx) (e : Expr) (t : TE) : Prop :=
  ∀ (pins : List (Addr × Obj)) (s : Shared) (σ : St) (H : Hp) (Q : VK), Inv X pins σ H s → t σ H Q → wpAny (model X.prog X.w) X.A (eval e X.env) (EP X pins σ Q) X.xe s
def PT (X : Cx) (e : Expr) (t : TT) : Prop :=
  ∀ (pins : List (Addr × Obj)) (s : Shared) (σ : St) (H : Hp) (Q : Bool → Hp → Prop), Inv X pins σ H s → t σ H Q → wpAny (model X.prog X.w) X.A (isTrue e X.env (eval e X.env)) (TP X pins σ Q) X.xe s
def PW (X : Cx) (e : Expr) (t : TT) : Prop :=
  ∀ (whole : Sem Value) (pins : List (Addr × Obj)) (s : Shared) (σ : St) (H : Hp) (Q : Bool → Hp → Prop), Inv X pins σ H s → t σ H Q → wpAny (model X.prog X.w) X.A (isTrue e X.env whole) (TP X pins σ Q) X.xe s
theorem PW.pt {X : Cx} {e : Expr} {t : TT} (h : PW X e t) : PT X e t := h _
def PA (X : Cx) (es : List Expr) (t : TA) : Prop :=
  ∀ (pos : Pos) (pins : List (Addr × Obj)) (s : Shared) (σ : St) (H : Hp) (Q : List V → Hp → Prop), Inv X pins σ H s → t σ H Q → wpAny (model X.prog X.w) X.A (spliced (backTo pos (starEach es X.env))) (AP X pins σ Q) X.xe s
def PS (X : Cx) (st : Stmt) (t : TS) : Prop :=
  ∀ (pins : List (Addr × Obj)) (s : Shared) (σ : St) (H : Hp) (D : Ends), Inv X pins σ H s → t D σ H → wpAny (model X.prog X.w) X.A (exec st X.env) (SP X pins D) X.xe s
def PSs (X : Cx) (st : List Stmt) (t : TS) : Prop :=
  ∀ (pins : List (Addr × Obj)) (s : Shared) (σ : St) (H : Hp) (D : Ends), Inv X pins σ H s → t D σ H → wpAny (model X.prog X.w) X.A (execs st X.env) (SP X pins D) X.xe s
theorem thn {α : Type} {t : Sem α} {Q Q' : α → Shared → Prop} {M : Model} {A : Around} {E : Value → Shared → Prop} {s : Shared} (h : wpAny M A t Q E s) (hQ : ∀ a s, Q a s → Q' a s) : wpAny M A t Q' E s := wpAny_mono h hQ fun _ _ x => x
end L2
namespace L2
open PySem PySem.Spec PyProof.Rows
section
variable {X : Cx}
def tVar (i : Nat) : TE := fun σ H Q => ∃ v, σ[i]? = some (some v) ∧ Q v H
def tC (v : V) : TE := fun _ H Q => Q v H
theorem pe_var {i : Nat} {x : Str} {pos : Pos} (hN : X.N[i]? = some x) (hv : Vis X.env.scope x) (hd : (x == ("__debug__" : Str)) = false := by decide) (hcd : (x == ("__classdict__" : Str)) = false := by decide) : PE X (.Name x pos) (tVar i) := by
  intro pins s σ H Q I h
  obtain ⟨v, e, h⟩ := h
  obtain ⟨m, hn, hl⟩ := I.loc
  obtain ⟨u, r, l⟩ := hl i x v hN e hv
  have fin : EP X pins σ Q u s := ⟨v, H, I, r, h⟩
  rcases l with ⟨hk, hm⟩ | ⟨hk, c, hc, hcell⟩
  · exact wpAny_Name (wpAny_loadName_local I.ok.kind hk hn hm fin) hd
  · rcases hk with hk | hk
    · exact wpAny_Name (wpAny_loadName_cell I.ok.kind hk hc hcell fin) hd
    · exact wpAny_Name (wpAny_loadName_free I.ok.kind hk hc hcell fin hcd) hd
theorem pe_int {i j pos} : PE X (.Constant (.int i) j pos) (tC (.int i)) := fun _ _ _ H _ I h => wpAny_Constant_int ⟨.int i, H, I.tok _, ⟨_, rfl⟩, h⟩
theorem pe_bl {b j pos} : PE X (.Constant (.bool b) j pos) (tC (.bl b)) := fun _ _ _ H _ I h => Constant_bool ⟨.bl b, H, I, rfl, h⟩
theorem pe_non {j pos} : PE X (.Constant .none j pos) (tC .non) := fun _ _ _ H _ I h => Constant_none ⟨.non, H, I, rfl, h⟩
theorem pe_str {x j pos} : PE X (.Constant (.str x) j pos) (tC (.str x)) := fun _ _ _ H _ I h => Calls.Constant_str ⟨.str x, H, I.tok _, ⟨_, rfl⟩, h⟩
def Gl (X : Cx) (x : Str) : Prop := X.env.kindOf x = some .globalImplicit
theorem ld_glob {E : Value → Shared → Prop} {pins : List (Addr × Obj)} {s : Shared} {σ : St} {H : Hp} {x : Str} {u : Value} {pos : Pos} {Q : Value → Shared → Prop} (I : Inv X pins σ H s) (hg : Gl X x) (hm : X.mg x = some u) (h : Q u s)
    (hd : (x == ("__debug__" : Str)) = false := by decide) : wpAny (model X.prog X.w) X.A (eval (.Name x pos) X.env) Q E s :=
  Calls.Name_function_global I.ok.kind hg (Calls.loadGlobal_global (by rw [I.ok.glob]; exact I.mod.glob.keeps I.bk) hm h) hd
theorem ld_blt {E : Value → Shared → Prop} {pins : List (Addr × Obj)} {s : Shared} {σ : St} {H : Hp} {x : Str} {u : Value} {pos : Pos} {Q : Value → Shared → Prop} (I : Inv X pins σ H s) (hg : Gl X x) (hm : X.mg x = none) (hv : bootBuiltins x = some u) (h : Q u s)
    (hn : x ≠ "__name__" := by decide) (hd : (x == ("__debug__" : Str)) = false := by decide) : wpAny (model X.prog X.w) X.A (eval (.Name x pos) X.env) Q E s := by
  obtain ⟨mb, h1, h2⟩ := I.mod.blt
  exact Calls.Name_function_global I.ok.kind hg (Calls.loadGlobal_builtin (by rw [I.ok.glob]; exact I.mod.glob.keeps I.bk) hm (by rw [I.ok.blt]; exact h1.keeps I.bk) ((h2 x hn).trans hv) h) hd
theorem pe_glob {x : Str} {v : V} {u : Value} {pos : Pos} (hg : Gl X x) (hm : X.mg x = some u) (r : RelV v u) (hd : (x == ("__debug__" : Str)) = false := by decide) : PE X (.Name x pos) (tC v) :=
  fun _ _ _ H _ I h => ld_glob I hg hm ⟨v, H, I, r, h⟩ hd
theorem pe_bltn {x : Str} {v : V} {u : Value} {pos : Pos} (hg : Gl X x) (hm : X.mg x = none) (hv : bootBuiltins x = some u) (r : RelV v u) (hn : x ≠ "__name__" := by decide) (hd : (x == ("__debug__" : Str)) = false := by decide) : PE X (.Name x pos) (tC v) :=
  fun _ _ _ H _ I h => ld_blt I hg hm hv ⟨v, H, I, r, h⟩ hn hd
variable {a b : Expr} {ta tb : TE} {pos : Pos}
def tB (t : TE) : TT := fun σ H Q => t σ H fun x H1 => ∃ c, x = .bl c ∧ Q c H1
theorem pt_val {e : Expr} {t : TE} (h : PE X e t) (he : ∀ whole, isTrue e X.env whole = (do let v ← whole; standAt e.pos; holding [v] (truthy v)) := by intro _; rfl) : PT X e (tB t) := by
  intro pins s σ H Q I hw
  refine isTrue_plain (thn (h pins s σ H _ I hw) fun v s1 ⟨x, H1, I1, r1, q1⟩ => ?_) (he _)
  obtain ⟨d, rfl, q⟩ := q1
  cases r1
  exact wpAny_truthy_bool ⟨H1, I1, q⟩
variable {tA tB' : TT} {rest : List Expr}
def tAnd (t u : TT) : TT := fun σ H Q => t σ H fun c H1 => if c = true then u σ H1 Q else Q false H1
def tOr (t u : TT) : TT := fun σ H Q => t σ H fun c H1 => if c = true then Q true H1 else u σ H1 Q
def tNot (t : TT) : TT := fun σ H Q => t σ H fun c H1 => Q (!c) H1
theorem pw_and1 (ha : PT X a tA) : PW X (.BoolOp .And [a] pos) tA := by
  intro wh pins s σ H Q I h
  refine isTrue_and (thn (ha pins s σ H Q I h) fun c s1 e => ?_)
  cases c with
  | true => exact isTrue_and_nil e
  | false => exact e
theorem pw_or1 (ha : PT X a tA) : PW X (.BoolOp .Or [a] pos) tA := by
  intro wh pins s σ H Q I h
  refine isTrue_or (thn (ha pins s σ H Q I h) fun c s1 e => ?_)
  cases c with
  | false => exact isTrue_or_nil e
  | true => exact e
theorem pw_and (ha : PT X a tA) (hb : PW X (.BoolOp .And (b :: rest) pos) tB') : PW X (.BoolOp .And (a :: b :: rest) pos) (tAnd tA tB') := by
  intro wh pins s σ H Q I h
  refine isTrue_and (thn (ha pins s σ H _ I h) fun c s1 ⟨H1, I1, q1⟩ => ?_)
  cases c with
  | true => exact hb wh pins s1 σ H1 Q I1 q1
  | false => exact ⟨H1, I1, q1⟩
theorem pw_or (ha : PT X a tA) (hb : PW X (.BoolOp .Or (b :: rest) pos) tB') : PW X (.BoolOp .Or (a :: b :: rest) pos) (tOr tA tB') := by
  intro wh pins s σ H Q I h
  refine isTrue_or (thn (ha pins s σ H _ I h) fun c s1 ⟨H1, I1, q1⟩ => ?_)
  cases c with
  | true => exact ⟨H1, I1, q1⟩
  | false => exact hb wh pins s1 σ H1 Q I1 q1
theorem pt_not (ha : PT X a tA) : PT X (.UnaryOp .Not a pos) (tNot tA) := by
  intro pins s σ H Q I h
  exact isTrue_not (ha pins s σ H (fun c H1 => Q (!c) H1) I h)
def tAndV (ta tb : TE) : TE := fun σ H Q => ta σ H fun x H1 => ∃ c, x = .bl c ∧ if c = true then tb σ H1 Q else Q (.bl false) H1
def tOrV (ta tb : TE) : TE := fun σ H Q => ta σ H fun x H1 => ∃ c, x = .bl c ∧ if c = true then Q (.bl true) H1 else tb σ H1 Q
def tNotV (ta : TE) : TE := fun σ H Q => ta σ H fun x H1 => ∃ c, x = .bl c ∧ Q (.bl (!c)) H1
theorem pe_one {op} {t : TE} (h : PE X a t) : PE X (.BoolOp op [a] pos) t := fun pins s σ H Q I hw => BoolOp_one (h pins s σ H Q I hw)
theorem pe_and (ha : PE X a ta) (hb : PE X (.BoolOp .And (b :: rest) pos) tb) : PE X (.BoolOp .And (a :: b :: rest) pos) (tAndV ta tb) := by
  intro pins s σ H Q I h
  refine BoolOp_and (thn (ha pins s σ H _ I h) fun v s1 ⟨x, H1, I1, r1, q1⟩ => ?_)
  obtain ⟨c, rfl, q1⟩ := q1
  cases r1
  refine wpAny_truthy_bool ?_
  cases c with
  | true => exact hb pins s1 σ H1 Q I1 q1
  | false => exact ⟨.bl false, H1, I1, rfl, q1⟩
theorem pe_or (ha : PE X a ta) (hb : PE X (.BoolOp .Or (b :: rest) pos) tb) : PE X (.BoolOp .Or (a :: b :: rest) pos) (tOrV ta tb) := by
  intro pins s σ H Q I h
  refine BoolOp_or (thn (ha pins s σ H _ I h) fun v s1 ⟨x, H1, I1, r1, q1⟩ => ?_)
  obtain ⟨c, rfl, q1⟩ := q1
  cases r1
  refine wpAny_truthy_bool ?_
  cases c with
  | false => exact hb pins s1 σ H1 Q I1 q1
  | true => exact ⟨.bl true, H1, I1, rfl, q1⟩
theorem pe_not (ha : PE X a ta) : PE X (.UnaryOp .Not a pos) (tNotV ta) := by
  intro pins s σ H Q I h
  refine UnaryOp_ (thn (ha pins s σ H _ I h) fun v s1 ⟨x, H1, I1, r1, q1⟩ => ?_)
  obtain ⟨c, rfl, q1⟩ := q1
  cases r1
  exact not_of (wpAny_truthy_bool ⟨.bl (!c), H1, I1, rfl, q1⟩)
def tIf (t : TT) (ta tb : TE) : TE := fun σ H Q => t σ H fun c H1 => if c = true then ta σ H1 Q else tb σ H1 Q
theorem pe_ifExp {c : Expr} (hc : PT X c tA) (ha : PE X a ta) (hb : PE X b tb) : PE X (.IfExp c a b pos) (tIf tA ta tb) := by
  intro pins s σ H Q I h
  refine wpAny_IfExp (thn (hc pins s σ H _ I h) fun d s1 ⟨H1, I1, q1⟩ => ?_)
  cases d with
  | true => exact ha pins s1 σ H1 Q I1 q1
  | false => exact hb pins s1 σ H1 Q I1 q1
end
end L2
namespace L2
open PySem PySem.Spec PyProof.Rows
def SqL (K : PySem.W.Frag) (H : Hp) (a : Addr) (xs : List V) : Prop :=
  Rd H a (.lst xs) ∨
    ∃ (o : Obj) (its : Array Value) (n : Nat), K.lookup a = some o ∧ o.cls = .type "list" ∧ o.dict = none ∧ o.data = .seq its n ∧ its.size ≤ sizeLine ∧ Vals xs its.toList
def SqT (K : PySem.W.Frag) (H : Hp) (a : Addr) (xs : List V) : Prop :=
  Rd H a (.tup xs) ∨
    ∃ (o : Obj) (its : Array Value) (n : Nat), K.lookup a = some o ∧ o.cls = .type "tuple" ∧ o.data = .seq its n ∧ its.size ≤ sizeLine ∧ Vals xs its.toList
def absV : Value → Option V
  | .none => some .non
  | .bool b => some (.bl b)
  | .int i _ => some (.int i)
  | .str x _ => some (.str x)
  | .bytes b _ => some (.byt b)
  | .float b _ => some (.flt b)
  | .ref a => some (.ref a)
  | .type n => some (.ty n)
  | _ => none
theorem RelV.abs {x : V} {u : Value} (r : RelV x u) : absV u = some x := by
  cases x with
  | non => cases r; rfl
  | bl _ => cases r; rfl
  | int _ => obtain ⟨t, rfl⟩ := r; rfl
  | str _ => obtain ⟨t, rfl⟩ := r; rfl
  | byt _ => obtain ⟨t, rfl⟩ := r; rfl
  | flt _ => obtain ⟨t, rfl⟩ := r; rfl
  | ref _ => cases r; rfl
  | ty _ => cases r; rfl
theorem RelV.inj {x y : V} {u : Value} (r : RelV x u) (q : RelV y u) : x = y := Option.some.inj (r.abs.symm.trans q.abs)
theorem Vals.inj : ∀ {xs ys : List V} {us : List Value}, Vals xs us → Vals ys us → xs = ys
  | _, _, _, .nil, .nil => rfl
  | _, _, _, .cons r t, .cons r' t' => by rw [r.inj r', Vals.inj t t']
section
variable {X : Cx} {pins : List (Addr × Obj)} {σ : St} {H : Hp} {s : Shared} {a : Addr} {xs ys : List V}
theorem SqL.of {K : PySem.W.Frag} (h : H a = some (.lst xs)) : SqL K H a xs := .inl (.inl h)
theorem SqT.of {K : PySem.W.Frag} (h : H a = some (.tup xs)) : SqT K H a xs := .inl (.inl h)
theorem Inv.list (I : Inv X pins σ H s) (h : SqL X.K H a xs) : ∃ its : List Value, Vals xs its ∧ PlainL s.heap a its.toArray ∧ xs.length ≤ sizeLine := by
  rcases h with h | ⟨o, its, n, hk, hc, hd, hs, hz, r⟩
  · obtain ⟨z, its, n, r, e⟩ := h.ok I.hok
    exact ⟨its, r, ⟨_, n, e, rfl, rfl, rfl⟩, z⟩
  · refine ⟨its.toList, r, ⟨o, n, I.kIn a o hk, hc, hd, by simpa using hs⟩, ?_⟩
    have e := r.length
    simp only [Array.length_toList] at e
    omega
theorem Inv.tuple (I : Inv X pins σ H s) (h : SqT X.K H a xs) : ∃ its : List Value, Vals xs its ∧ IsTup s.heap a its.toArray ∧ xs.length ≤ sizeLine := by
  rcases h with h | ⟨o, its, n, hk, hc, hs, hz, r⟩
  · obtain ⟨z, its, r, p⟩ := h.ok I.hok
    exact ⟨its, r, p, z⟩
  · refine ⟨its.toList, r, ⟨o, I.kIn a o hk, hc, n, by simpa using hs⟩, ?_⟩
    have e := r.length
    simp only [Array.length_toList] at e
    omega
theorem Inv.list_inj (I : Inv X pins σ H s) (h : SqL X.K H a xs) (h' : SqL X.K H a ys) : xs = ys := by
  obtain ⟨its, r, ⟨o, n, e, _, _, d⟩, _⟩ := I.list h
  obtain ⟨its', r', ⟨o', n', e', _, _, d'⟩, _⟩ := I.list h'
  rw [e] at e'; cases e'
  rw [d] at d'
  injection d' with d1 _
  have : its = its' := by simpa using congrArg Array.toList d1
  subst this
  exact r.inj r'
end
abbrev Cx.wish (X : Cx) (E : Value → Shared → Prop) : Cx := { X with xe := E }
abbrev Cx.nox (X : Cx) : Cx := X.wish fun _ _ => False
theorem Cx.Ok.wish {X : Cx} (ok : X.Ok) (E : Value → Shared → Prop) : (X.wish E).Ok :=
  ⟨ok.mod, ok.kind, ok.glob, ok.blt, ok.above, ok.inj, ok.has, ok.cab, ok.hd, ok.frames, ok.stk, ok.exf, ok.bs, ok.bsz, ok.noex, ok.exfs, ok.funs, ok.frf⟩
theorem Cx.Ok.unwish {X : Cx} {E : Value → Shared → Prop} (ok : (X.wish E).Ok) : X.Ok :=
  ⟨ok.mod, ok.kind, ok.glob, ok.blt, ok.above, ok.inj, ok.has, ok.cab, ok.hd, ok.frames, ok.stk, ok.exf, ok.bs, ok.bsz, ok.noex, ok.exfs, ok.funs, ok.frf⟩
section
variable {X : Cx} {pins : List (Addr × Obj)} {σ : St} {H : Hp} {s : Shared} {E : Value → Shared → Prop}
theorem Inv.wish (I : Inv X pins σ H s) (E : Value → Shared → Prop) : Inv (X.wish E) pins σ H s := ⟨I.ok.wish E, I.os, I.bare, I.base, I.loc, I.cell, I.free, I.freeC, I.pin, I.hok, I.len⟩
theorem Inv.unwish (I : Inv (X.wish E) pins σ H s) : Inv X pins σ H s := ⟨I.ok.unwish, I.os, I.bare, I.base, I.loc, I.cell, I.free, I.freeC, I.pin, I.hok, I.len⟩
theorem SP.unwish {D : Ends} {f : Flow} {s' : Shared} (h : SP (X.wish E) pins D f s') : SP X pins D f s' := by
  cases f with
  | next => obtain ⟨σ', H', I, q⟩ := h; exact ⟨σ', H', I.unwish, q⟩
  | brk => obtain ⟨σ', H', I, q⟩ := h; exact ⟨σ', H', I.unwish, q⟩
  | cont => obtain ⟨σ', H', I, q⟩ := h; exact ⟨σ', H', I.unwish, q⟩
  | ret u => obtain ⟨v, σ', H', I, r, q⟩ := h; exact ⟨v, σ', H', I.unwish, r, q⟩
theorem PE.nox {e : Expr} {t : TE} (h : PE X.nox e t) : PE X e t := fun pins s σ H Q I hw =>
  wpAny_mono (h pins s σ H Q (I.wish _) hw) (fun _ _ ⟨v, H', I', r, q⟩ => ⟨v, H', I'.unwish, r, q⟩) fun _ _ z => False.elim z
theorem PT.nox {e : Expr} {t : TT} (h : PT X.nox e t) : PT X e t := fun pins s σ H Q I hw =>
  wpAny_mono (h pins s σ H Q (I.wish _) hw) (fun _ _ ⟨H', I', q⟩ => ⟨H', I'.unwish, q⟩) fun _ _ z => False.elim z
theorem PSs.nox {st : List Stmt} {t : TS} (h : PSs X.nox st t) : PSs X st t := fun pins s σ H D I hw =>
  wpAny_mono (h pins s σ H D (I.wish _) hw) (fun _ _ q => q.unwish) fun _ _ z => False.elim z
end
section
variable {X : Cx} {st : Stmt} {rest : List Stmt} {t u : TS} {e : Expr} {te : TE} {pos : Pos}
def tNext : TS := fun D σ H => D.nx σ H
def tSeq (t u : TS) : TS := fun D σ H => t { D with nx := u D } σ H
theorem pss_nil : PSs X [] tNext := fun _ _ σ H _ I h => wpAny_execs_nil ⟨σ, H, I, h⟩
theorem pss_cons (h1 : PS X st t) (h2 : PSs X rest u) : PSs X (st :: rest) (tSeq t u) := by
  intro pins s σ H D I h
  refine wpAny_execs_cons (thn (h1 pins s σ H { D with nx := u D } I h) fun f s1 q => ?_)
  cases f with
  | next =>
    obtain ⟨σ', H', I', q⟩ := q
    exact h2 pins s1 σ' H' D I' q
  | ret v => exact q
  | brk => exact q
  | cont => exact q
theorem pss_one (h1 : PS X st t) : PSs X [st] t := by
  intro pins s σ H D I h
  refine wpAny_execs_cons (thn (h1 pins s σ H D I h) fun f s1 q => ?_)
  cases f with
  | next => exact wpAny_execs_nil q
  | ret v => exact q
  | brk => exact q
  | cont => exact q
theorem Inv.quiet {pins : List (Addr × Obj)} {σ : St} {H : Hp} {s : Shared} (I : Inv X pins σ H s) : interactive X.env = false := by simp [interactive, I.ok.kind]
def tDrop (te : TE) : TS := fun D σ H => te σ H fun _ H1 => D.nx σ H1
theorem ps_expr (he : PE X e te) (hs : swapsWith e none pos.line X.env = pure false := by rfl) : PS X (.Expr e pos) (tDrop te) := by
  intro pins s σ H D I h
  exact wpAny_Expr_any (thn (he pins s σ H _ I h) fun v s1 ⟨x, H1, I1, r1, q1⟩ => ⟨σ, H1, I1, q1⟩) I.quiet hs
def tRet (te : TE) : TS := fun D σ H => te σ H D.rt
theorem ps_ret (he : PE X e te) : PS X (.Return (some e) pos) (tRet te) := by
  intro pins s σ H D I h
  exact wpAny_Return_some (thn (he pins s σ H _ I h) fun v s1 ⟨x, H1, I1, r1, q1⟩ => ⟨x, σ, H1, I1, r1, q1⟩)
def tRetN : TS := fun D _ H => D.rt .non H
def tIfS (c : TT) (t u : TS) : TS := fun D σ H => c σ H fun b H1 => if b = true then t D σ H1 else u D σ H1
theorem ps_if {c : Expr} {a b : List Stmt} {tc : TT} (hc : PT X c tc) (ha : PSs X a t) (hb : PSs X b u) : PS X (.If c a b pos) (tIfS tc t u) := by
  intro pins s σ H D I h
  refine wpAny_If (thn (hc pins s σ H _ I h) fun d s1 ⟨H1, I1, q1⟩ => ?_)
  cases d with
  | true => exact ha pins s1 σ H1 D I1 q1
  | false => exact hb pins s1 σ H1 D I1 q1
def tNever : TS := fun _ _ _ => False
end
abbrev TG := V → St → Hp → (St → Hp → Prop) → Prop
abbrev TGs := List V → St → Hp → (St → Hp → Prop) → Prop
def PG (X : Cx) (target : Expr) (t : TG) : Prop :=
  ∀ (pins : List (Addr × Obj)) (s : Shared) (σ : St) (H : Hp) (v : V) (u : Value) (Q : St → Hp → Prop), Inv X pins σ H s → RelV v u → t v σ H Q →
    wpAny (model X.prog X.w) X.A (assign target X.env u) (fun _ s' => ∃ σ' H', Inv X pins σ' H' s' ∧ Q σ' H') X.xe s
def PGs (X : Cx) (ts : List Expr) (t : TGs) : Prop :=
  ∀ (pins : List (Addr × Obj)) (s : Shared) (σ : St) (H : Hp) (vs : List V) (us : List Value) (Q : St → Hp → Prop), Inv X pins σ H s → Vals vs us → t vs σ H Q →
    wpAny (model X.prog X.w) X.A (assignInOrder ((assignEach ts X.env).map (·.2)) us) (fun _ s' => ∃ σ' H', Inv X pins σ' H' s' ∧ Q σ' H') X.xe s
abbrev TSet := V → V → V → Hp → (Hp → Prop) → Prop
def PSet (X : Cx) (t : TSet) : Prop :=
  ∀ (pins : List (Addr × Obj)) (s : Shared) (σ : St) (H : Hp) (o i v : V) (ov iv u : Value) (Q : Hp → Prop), Inv X pins σ H s → RelV o ov → RelV i iv → RelV v u → t o i v H Q →
    wpAny (model X.prog X.w) X.A (setItem ov iv u) (fun _ s' => ∃ H', Inv X pins σ H' s' ∧ Q H') X.xe s
section
variable {X : Cx} {pos : Pos}
def gName (i : Nat) : TG := fun v σ H Q => Q (σ.set i (some v)) H
theorem pg_name {i : Nat} {x : Str} (hN : X.N.Nodup) (hi : X.N[i]? = some x) (hx : Loc X.env.scope x) (hf : X.fn x = true ∨ X.env.scope.names.lookup x = some .local := by first | exact .inl rfl | exact .inr rfl | assumption) : PG X (.Name x pos) (gName i) := by
  intro pins s σ H v u Q I r h
  exact wpAny_assign_Name (store_ok I hN hi hx r (fun s' I' => ⟨_, H, I', h⟩) hf)
def gNil : TGs := fun vs σ H Q => vs = [] ∧ Q σ H
def gCons (t : TG) (u : TGs) : TGs := fun vs σ H Q => ∃ v r, vs = v :: r ∧ t v σ H fun σ' H' => u r σ' H' Q
theorem pgs_nil : PGs X [] gNil := by
  intro pins s σ H vs us Q I r h
  obtain ⟨e, h⟩ := h
  subst e
  cases r
  exact assignInOrder_nil ⟨σ, H, I, h⟩
theorem pgs_cons {e : Expr} {es : List Expr} {t : TG} {u : TGs} (h1 : PG X e t) (h2 : PGs X es u)
    (hs : (assignEach (e :: es) X.env).map (·.2) = assign e X.env :: (assignEach es X.env).map (·.2) := by rfl) : PGs X (e :: es) (gCons t u) := by
  intro pins s σ H vs us Q I r h
  obtain ⟨v, vr, e1, h⟩ := h
  subst e1
  cases r with
  | cons r rr =>
    rw [hs]
    refine assignInOrder_cons (thn (h1 pins s σ H _ _ _ I r h) fun _ s1 ⟨σ1, H1, I1, q1⟩ => ?_)
    exact h2 pins s1 σ1 H1 _ _ Q I1 rr q1
def gTup (K : PySem.W.Frag) (n : Nat) (t : TGs) : TG := fun v σ H Q => ∃ a xs, v = .ref a ∧ SqT K H a xs ∧ xs.length = n ∧ t xs σ H Q
theorem pg_tup {es : List Expr} {k : Nat} {t : TGs} {n : Nat} (hc : X.calm = true) (h : PGs X es t)
    (hn : (assignEach es X.env).length = n := by rfl) (hst : (assignEach es X.env).findIdx? (·.1) = none := by rfl) : PG X (.Tuple es k pos) (gTup X.K n t) := by
  intro pins s σ H v u Q I r hw
  obtain ⟨a, xs, e1, hq, hl, hw⟩ := hw
  subst e1
  cases r
  obtain ⟨its, rv, ht, hz⟩ := I.tuple hq
  refine assign_Tuple_tuple (I.ok.hd hc) ht (by simp [hn, ← hl, rv.length]) hst fun h' hx => ?_
  have I1 : Inv X pins σ H { s with heap := h' } := I.kept (t' := s.toks) fun b o e => hx b o (Nat.ne_of_lt (Heap.lt_size e)) e
  exact h pins _ σ H xs _ Q I1 (by simpa using rv) hw
def gSub (to ti : TE) (t : TSet) : TG := fun v σ H Q => to σ H fun o H1 => ti σ H1 fun i H2 => t o i v H2 fun H3 => Q σ H3
theorem pg_sub {o i : Expr} {to ti : TE} {t : TSet} (ho : PE X o to) (hi : PE X i ti) (hs : PSet X t)
    (ha : ∀ v, assign (.Subscript o i pos) X.env v = (do
      let ov ← holding [v] (eval o X.env)
      let iv ← holding [v, ov] (eval i X.env)
      standAt pos
      holding [v, ov, iv] (setItem ov iv v)
      release [v, ov, iv] []) := by intro _; rfl) : PG X (.Subscript o i pos) (gSub to ti t) := by
  intro pins s σ H v u Q I r h
  rw [ha]
  refine wpAny_bind (wpAny_holding (thn (ho pins s σ H _ I h) fun ov s1 ⟨x, H1, I1, r1, q1⟩ => ?_))
  refine wpAny_bind (wpAny_holding (thn (hi pins s1 σ H1 _ I1 q1) fun iv s2 ⟨y, H2, I2, r2, q2⟩ => ?_))
  refine wpAny_bind (wpAny_standAt (wpAny_bind (wpAny_holding (thn (hs pins s2 σ H2 x y v ov iv u _ I2 r1 r2 r q2) fun _ s3 ⟨H3, I3, q3⟩ => ?_))))
  exact wpAny_release ⟨σ, H3, I3, q3⟩
def tAsg (te : TE) (g : TG) : TS := fun D σ H => te σ H fun x H1 => g x σ H1 D.nx
theorem ps_asg {tg e : Expr} {te : TE} {g : TG} (he : PE X e te) (hg : PG X tg g) (hs : swapsWithSole [tg] e pos.line X.env = pure false := by rfl) (hw : swappedStores [tg] e X.env = pure none := by rfl)
    (h1 : (assignEach [tg] X.env).map (·.2) = [assign tg X.env] := by rfl) : PS X (.Assign [tg] e pos) (tAsg te g) := by
  intro pins s σ H D I h
  refine wpAny_Assign_stores (thn (he pins s σ H _ I h) fun v s1 ⟨x, H1, I1, r1, q1⟩ => ?_) hs hw
  rw [h1]
  exact thn (hg pins s1 σ H1 x v _ I1 r1 q1) fun _ s2 q => q
theorem ps_set {i : Nat} {x : Str} {e : Expr} {te : TE} {pos' : Pos} (hN : X.N.Nodup) (hi : X.N[i]? = some x) (hx : Loc X.env.scope x) (he : PE X e te) (hs : swapsWith e (some (.Name x pos')) pos.line X.env = pure false := by rfl) (hf : X.fn x = true ∨ X.env.scope.names.lookup x = some .local := by first | exact .inl rfl | exact .inr rfl | assumption) :
    PS X (.Assign [.Name x pos'] e pos) (tAsg te (gName i)) := by
  intro pins s σ H D I h
  refine wpAny_Assign_Name (thn (he pins s σ H _ I h) fun v s1 ⟨y, H1, I1, r1, q1⟩ => ?_) hs
  exact store_ok I1 hN hi hx r1 (fun s2 I2 => ⟨_, H1, I2, q1⟩) hf
end
section
variable {X : Cx} {pos : Pos}
end
structure It where
  go : Nat → Hp → Prop
  yld : Nat → Hp → V → Hp → Prop
  stop : Nat → Hp → Prop
def FpOk (X : Cx) (pins : List (Addr × Obj)) (H : Hp) (b : Addr) : Prop :=
  H b = none ∧ b ≠ X.env.locals ∧ b ∉ X.fs ∧ (b ∈ X.ex ∨ X.s₀.heap.objs.size ≤ b) ∧ (∀ x c, X.env.cells.lookup x = some c → c ≠ b) ∧ ∀ p ∈ X.pn ++ pins, p.1 ≠ b
theorem Inv.fpOk {X : Cx} {pins : List (Addr × Obj)} {σ : St} {H H' : Hp} {s : Shared} {b : Addr} (I : Inv X pins σ H s) (hb : s.heap.objs.size ≤ b) (hn : H' b = none) : FpOk X pins H' b := by
  refine ⟨hn, Nat.ne_of_gt (Nat.lt_of_lt_of_le I.lt hb), I.nofs hb, .inr (Nat.le_trans I.sz hb), fun x c e z => ?_, fun p hp z => ?_⟩
  · obtain ⟨v, q⟩ := I.cell x c e
    exact absurd (Nat.lt_of_lt_of_le q.lt (by rw [z]; exact hb)) (Nat.lt_irrefl _)
  · exact absurd (Nat.lt_of_lt_of_le (Heap.lt_size (I.pin p hp).1) (by rw [z]; exact hb)) (Nat.lt_irrefl _)
structure Turn (P : Program) (w : World) (K : PySem.W.Frag) (tg : Expr) (J : It) (fp : List Addr) (it : Addr) (tn : Nat → Heap → Prop) : Prop where
  mem : it ∈ fp
  obj : ∀ i h, tn i h → ∀ b ∈ fp, ∃ o, h.get? b = some o ∧ ∀ v, o.data ≠ .cell v
  keep : ∀ i h h', tn i h → (∀ b ∈ fp, ∀ o, h.get? b = some o → h'.get? b = some o) → tn i h'
  item : ∀ (X : Cx), X.prog = P → X.w = w → X.K = K → X.calm = true → ∀ (i : Nat) (pins : List (Addr × Obj)) (s : Shared) (σ : St) (H : Hp) (E : Value → Shared → Prop), Inv X pins σ H s → (∀ b ∈ fp, FpOk X pins H b) → tn i s.heap → J.go i H →
    wpAny (model P w) X.A (pyNext (.ref it)) (fun r s1 => ∃ u, r = some u ∧
      wpAny (model P w) X.A (letOwnedTupleGo tg (.ref it) u) (fun _ s2 => ∃ x H', Inv X pins σ H' s2 ∧ RelV x u ∧ J.yld i H x H' ∧ tn (i + 1) s2.heap ∧ ∀ b ∈ fp, H' b = none) E s1) E s
  done : ∀ (X : Cx), X.prog = P → X.w = w → X.K = K → X.calm = true → ∀ (i : Nat) (pins : List (Addr × Obj)) (s : Shared) (σ : St) (H : Hp) (E : Value → Shared → Prop), Inv X pins σ H s → (∀ b ∈ fp, FpOk X pins H b) → tn i s.heap → J.stop i H →
    wpAny (model P w) X.A (pyNext (.ref it)) (fun r s1 => r = none ∧ Inv X pins σ H s1) E s
  self : ∀ (A : Around) (i : Nat) (s : Shared) (Q : Value → Shared → Prop) (E : Value → Shared → Prop), tn i s.heap → Q (.ref it) s → wpAny (model P w) A (pyIter (.ref it)) Q E s
abbrev TI := St → Hp → (It → Hp → Prop) → Prop
def PIE (X : Cx) (pins : List (Addr × Obj)) (σ : St) (tg : Expr) (R : It → Hp → Prop) (itv : Value) (s2 : Shared) : Prop :=
  ∃ (it : Addr) (fp : List Addr) (tn : Nat → Heap → Prop) (J : It) (H' : Hp), itv = .ref it ∧ Inv X pins σ H' s2 ∧ Turn X.prog X.w X.K tg J fp it tn ∧ tn 0 s2.heap ∧ (∀ b ∈ fp, FpOk X pins H' b) ∧ R J H'
def PI (X : Cx) (tg iter : Expr) (wi : TI) : Prop :=
  ∀ (pins : List (Addr × Obj)) (s : Shared) (σ : St) (H : Hp) (R : It → Hp → Prop), Inv X pins σ H s → wi σ H R →
    wpAny (model X.prog X.w) X.A (eval iter X.env) (fun v s1 => wpAny (model X.prog X.w) X.A (pyIter v) (PIE X pins σ tg R) X.xe s1) X.xe s
theorem go_of {M : Model} {A : Around} {E : Value → Shared → Prop} {s : Shared} {tg : Expr} {it : Addr} {u : Value} {o : Obj} {n : String} {vs : Array Value} {Q : Unit → Shared → Prop} (ho : s.heap.get? it = some o) (hc : o.cls = .type n) (hd : o.data = .fields vs)
    (hn : ["enumerate", "zip", "dict_itemiterator", "dict_reverseitemiterator", "odict_iterator", "itertools.zip_longest", "itertools.pairwise"].contains n = false) (hQ : Q () s) : wpAny M A (letOwnedTupleGo tg (.ref it) u) Q E s := by
  unfold letOwnedTupleGo
  cases tg <;> first
    | exact wpAny_pure hQ
    | (cases u <;> first
        | exact wpAny_pure hQ
        | (refine wpAny_bind (wpAny_load ho ?_)
           rw [hc, hd]
           show wpAny M A (if (["enumerate", "zip", "dict_itemiterator", "dict_reverseitemiterator", "odict_iterator", "itertools.zip_longest", "itertools.pairwise"].contains n && vs[0]? == some (rawInt _)) = true then _ else _) Q E s
           rw [if_neg (by intro h; rw [hn, Bool.false_and] at h; cases h)]
           exact wpAny_pure hQ))
def Itl (K : PySem.W.Frag) (a : Addr) : It :=
  ⟨fun i H => ∃ xs x, SqL K H a xs ∧ xs[i]? = some x, fun i H x H' => H' = H ∧ ∀ xs, SqL K H a xs → xs[i]? = some x, fun i H => ∃ xs, SqL K H a xs ∧ xs.length ≤ i⟩
def Itt (K : PySem.W.Frag) (a : Addr) : It :=
  ⟨fun i H => ∃ xs x, SqT K H a xs ∧ xs[i]? = some x, fun i H x H' => H' = H ∧ ∀ xs, SqT K H a xs → xs[i]? = some x, fun i H => ∃ xs, SqT K H a xs ∧ xs.length ≤ i⟩
def Itr (lo : Int) (n : Nat) : It := ⟨fun i _ => i < n, fun i H x H' => H' = H ∧ x = .int (lo + i), fun i _ => n ≤ i⟩
theorem turn_list {P : Program} {w : World} {K : PySem.W.Frag} {tg : Expr} (a it : Addr) : Turn P w K tg (Itl K a) [it] it (fun i h => h.IsListIter it a i) where
  mem := by simp
  obj := fun i h st b hb => by
    have e : b = it := by simpa using hb
    subst e
    obtain ⟨o, e, c, d⟩ := st
    exact ⟨o, e, fun v z => by rw [d] at z; cases z⟩
  keep := fun i h h' st k => st.at fun o e => k it (by simp) o e
  item := by
    intro X hP hw hK hc i pins s σ H E I hf st hg
    subst hP hw hK
    obtain ⟨xs, x, hq, hx⟩ := hg
    obtain ⟨its, rv, p, hz⟩ := I.list hq
    obtain ⟨u, hu, ru⟩ := rv.get hx
    obtain ⟨f0, f1, f2, f3, f4, f5⟩ := hf it (by simp)
    refine wpAny_pyNext_list_item st p.isList (x := u) (by simpa using hu) fun h' st' sb => ?_
    have I1 : Inv X pins σ H { s with heap := h' } := I.turned (t' := s.toks) (fun b o hb e => (sb.2 b hb).trans e) f0 f1 f3 f4 f5
    obtain ⟨o, e, c, d⟩ := id st'
    exact ⟨u, rfl, go_of (s := { s with heap := h' }) e c d (by decide) ⟨x, H, I1, ru, ⟨rfl, fun ys hy => by rw [I.list_inj hy hq]; exact hx⟩, st', fun b hb => (hf b hb).1⟩⟩
  done := by
    intro X hP hw hK hc i pins s σ H E I hf st hg
    subst hP hw hK
    obtain ⟨xs, hq, hx⟩ := hg
    obtain ⟨its, rv, p, hz⟩ := I.list hq
    obtain ⟨f0, f1, f2, f3, f4, f5⟩ := hf it (by simp)
    have hl := rv.length
    exact wpAny_pyNext_list_end (I.ok.hd hc) st p.isList (by simp; omega) fun h' eb => ⟨rfl, I.turned (t' := s.toks) (fun b o hb e => eb b o hb e) f0 f1 f3 f4 f5⟩
  self := fun _ _ _ _ _ st h => wpAny_pyIter_listiter st h
end L2
namespace L2
open PySem PySem.Spec PyProof.Rows
section
variable {X : Cx} {tg : Expr}
def iList (K : PySem.W.Frag) (tl : TE) : TI := fun σ H R => tl σ H fun x H1 => ∃ a, x = .ref a ∧ (∃ xs, SqL K H1 a xs) ∧ R (Itl K a) H1
def iTup (K : PySem.W.Frag) (tl : TE) : TI := fun σ H R => tl σ H fun x H1 => ∃ a, x = .ref a ∧ (∃ xs, SqT K H1 a xs) ∧ R (Itt K a) H1
theorem pi_list {l : Expr} {tl : TE} (hl : PE X l tl) : PI X tg l (iList X.K tl) := by
  intro pins s σ H R I h
  refine thn (hl pins s σ H _ I h) fun v s1 ⟨x, H1, I1, r1, q1⟩ => ?_
  obtain ⟨a, e, ⟨xs, hq⟩, q⟩ := q1
  subst e
  cases r1
  obtain ⟨its, rv, p, hz⟩ := I1.list hq
  refine wpAny_pyIter_list p.isList ?_
  refine ⟨s1.heap.objs.size, [s1.heap.objs.size], _, _, H1, rfl, I1.kept (t' := s1.toks) fun b o e => Heap.get?_push_of_some _ e, turn_list a _, ⟨_, Heap.get?_push_size _ rfl, rfl, rfl⟩, fun b hb => ?_, q⟩
  have e : b = s1.heap.objs.size := by simpa using hb
  subst e
  exact I1.fpOk (Nat.le_refl _) (I1.hok.fresh (Nat.le_refl _))
def iRng1 (ta : TA) : TI := fun σ H R => ta σ H fun vs H1 => ∃ j : Int, vs = [.int j] ∧ -(2 ^ 62) ≤ j ∧ j < 2 ^ 62 ∧ R (Itr 0 j.toNat) H1
def iRng2 (ta : TA) : TI := fun σ H R => ta σ H fun vs H1 => ∃ i j : Int, vs = [.int i, .int j] ∧ (-(2 ^ 62) ≤ i ∧ i < 2 ^ 62 ∧ -(2 ^ 62) ≤ j ∧ j < 2 ^ 62) ∧ R (Itr i (j - i).toNat) H1
def tFor (wi : TI) (g : TG) (tb : TS) : TS := fun D σ H => wi σ H fun J H1 => ∃ W : Nat → Nat → St → Hp → Prop, (∃ m, W 0 m σ H1) ∧ ∀ i m σ H, W i m σ H →
  (J.stop i H ∧ D.nx σ H) ∨ (J.go i H ∧ ∃ N : St → Hp → Prop, (∀ σ' H', N σ' H' → ∃ m', m' < m ∧ W (i + 1) m' σ' H') ∧ ∀ x H', J.yld i H x H' → g x σ H' fun σ2 H2 => tb { D with nx := N, ct := N, bk := D.nx } σ2 H2)
def pinsAt (fp : List Addr) (h : Heap) : List (Addr × Obj) := fp.filterMap fun b => (h.get? b).map fun o => (b, o)
theorem mem_pinsAt {fp : List Addr} {h : Heap} {b : Addr} {o : Obj} (hb : b ∈ fp) (e : h.get? b = some o) : (b, o) ∈ pinsAt fp h := List.mem_filterMap.mpr ⟨b, hb, by rw [e]; rfl⟩
theorem of_pinsAt {fp : List Addr} {h : Heap} {p : Addr × Obj} (hp : p ∈ pinsAt fp h) : p.1 ∈ fp ∧ h.get? p.1 = some p.2 := by
  obtain ⟨b, hb, e⟩ := List.mem_filterMap.mp hp
  cases q : h.get? b with
  | none => rw [q] at e; cases e
  | some o =>
    rw [q] at e
    have e' : (b, o) = p := Option.some.inj e
    subst e'
    exact ⟨hb, q⟩
theorem Inv.pinned {pins : List (Addr × Obj)} {σ : St} {H : Hp} {s : Shared} {fp : List Addr} (I : Inv X pins σ H s) (hf : ∀ b ∈ fp, FpOk X pins H b) (ho : ∀ b ∈ fp, ∃ o, s.heap.get? b = some o ∧ ∀ v, o.data ≠ .cell v) : Inv X (pins ++ pinsAt fp s.heap) σ H s :=
  I.pins_of fun p hp => (List.mem_append.mp hp).elim (fun z => I.pin p (List.mem_append_right _ z)) fun z => by
    obtain ⟨hb, e⟩ := of_pinsAt z
    obtain ⟨f0, f1, f2, _⟩ := hf p.1 hb
    obtain ⟨o, e', d⟩ := ho p.1 hb
    rw [e] at e'; cases e'
    exact ⟨e, f0, f1, f2, d⟩
theorem Inv.unpinned {pins pl : List (Addr × Obj)} {σ : St} {H : Hp} {s : Shared} (I : Inv X (pins ++ pl) σ H s) : Inv X pins σ H s := I.pins_of fun p hp => I.pin p (List.mem_append_right _ (List.mem_append_left _ hp))
theorem ps_for {iter : Expr} {body : List Stmt} {wi : TI} {g : TG} {tb : TS} {pos : Pos} (hp : PassesOwn (model X.prog X.w) X.A X.env X.xe) (hc : X.calm = true) (hi : PI X tg iter wi) (hg : PG X tg g) (hb : PSs X body tb)
    (hs : ∀ x, foldedSetIterable iter X.env x = pure x := by intro _; rfl) : PS X (.For tg iter body [] pos) (tFor wi g tb) := by
  intro pins s σ H D I h
  refine wpAny_For (thn (hi pins s σ H _ I h) fun v s1 h1 => thn h1 fun itv s2 h2 => ?_) hs
  obtain ⟨it, fp, tn, J, H2, e, I2, T, st2, f2, W, ⟨m0, w0⟩, turn⟩ := h2
  subst e
  have stat : ∀ {H' : Hp}, (∀ b ∈ fp, H' b = none) → ∀ b ∈ fp, FpOk X pins H' b := fun hn b hb => ⟨hn b hb, (f2 b hb).2⟩
  refine codeAny_forLoop_any (fun n s' => ∃ i σ' H', Inv X pins σ' H' s' ∧ tn i s'.heap ∧ (∀ b ∈ fp, H' b = none) ∧ W i n σ' H') ?_ m0 ⟨0, σ, H2, I2, st2, fun b hb => (f2 b hb).1, w0⟩
  rintro n s3 ⟨i, σ3, H3, I3, st3, fr3, w3⟩
  rcases turn i n σ3 H3 w3 with ⟨stop, qn⟩ | ⟨go, N, hN, step⟩
  · refine wpAny_passesOwn hp (thn (T.done X rfl rfl rfl hc i pins s3 σ3 H3 X.xe I3 (stat fr3) st3 stop) fun r s4 ⟨hr, I4⟩ => ?_)
    subst hr
    exact wpAny_execs_nil ⟨σ3, H3, I4, qn⟩
  · refine wpAny_passesOwn hp (thn (T.item X rfl rfl rfl hc i pins s3 σ3 H3 X.xe I3 (stat fr3) st3 go) fun r s4 ⟨u, hr, h4⟩ => ?_)
    subst hr
    refine wpAny_passesOwn hp (thn h4 fun _ s5 ⟨x, H5, I5, r5, y5, st5, fr5⟩ => ?_)
    have I5' := I5.pinned (stat fr5) (T.obj _ _ st5)
    refine wpAny_passesOwn hp (thn (hg _ s5 σ3 H5 x u _ I5' r5 (step x H5 y5)) fun _ s6 ⟨σ6, H6, I6, q6⟩ => ?_)
    refine wpAny_passesOwn hp (thn (hb _ s6 σ6 H6 _ I6 q6) fun f s7 q7 => ?_)
    have again : ∀ {σ7 : St} {H7 : Hp}, Inv X (pins ++ pinsAt fp s5.heap) σ7 H7 s7 → N σ7 H7 → ∃ m, m < n ∧ ∃ i σ' H', Inv X pins σ' H' s7 ∧ tn i s7.heap ∧ (∀ b ∈ fp, H' b = none) ∧ W i m σ' H' := fun {σ7 H7} I7 n7 => by
      obtain ⟨m', hm, w7⟩ := hN σ7 H7 n7
      refine ⟨m', hm, i + 1, σ7, H7, I7.unpinned, T.keep _ _ _ st5 fun b hb o e => (I7.pin (b, o) (List.mem_append_right _ (List.mem_append_right _ (mem_pinsAt hb e)))).1, fun b hb => ?_, w7⟩
      obtain ⟨o, e, d⟩ := T.obj _ _ st5 b hb
      exact (I7.pin (b, o) (List.mem_append_right _ (List.mem_append_right _ (mem_pinsAt hb e)))).2.1
    cases f with
    | next => obtain ⟨σ7, H7, I7, n7⟩ := q7; exact again I7 n7
    | cont => obtain ⟨σ7, H7, I7, n7⟩ := q7; exact again I7 n7
    | brk => obtain ⟨σ7, H7, I7, q7⟩ := q7; exact ⟨σ7, H7, I7.unpinned, q7⟩
    | ret v => obtain ⟨x7, σ7, H7, I7, r7, q7⟩ := q7; exact ⟨x7, σ7, H7, I7.unpinned, r7, q7⟩
end
theorem for_list {K : PySem.W.Frag} {a : Addr} {xs : List V} {g : TG} {tb : TS} {D : Ends} {σ : St} {H : Hp} (Pv : Nat → St → Hp → Prop) (h0 : Pv 0 σ H) (hl : ∀ i σ H, i ≤ xs.length → Pv i σ H → SqL K H a xs)
    (hs : ∀ i x σ H, xs[i]? = some x → Pv i σ H → g x σ H fun σ2 H2 => tb { D with nx := Pv (i + 1), ct := Pv (i + 1), bk := D.nx } σ2 H2) (hd : ∀ σ H, Pv xs.length σ H → D.nx σ H) :
    ∃ W : Nat → Nat → St → Hp → Prop, (∃ m, W 0 m σ H) ∧ ∀ i m σ H, W i m σ H →
      ((Itl K a).stop i H ∧ D.nx σ H) ∨ ((Itl K a).go i H ∧ ∃ N : St → Hp → Prop, (∀ σ' H', N σ' H' → ∃ m', m' < m ∧ W (i + 1) m' σ' H') ∧ ∀ x H', (Itl K a).yld i H x H' → g x σ H' fun σ2 H2 => tb { D with nx := N, ct := N, bk := D.nx } σ2 H2) := by
  refine ⟨fun i m σ H => m = xs.length - i ∧ i ≤ xs.length ∧ Pv i σ H, ⟨xs.length, by simp, Nat.zero_le _, h0⟩, ?_⟩
  rintro i m σ H ⟨rfl, hi, p⟩
  have q := hl i σ H hi p
  by_cases hlt : i < xs.length
  · refine .inr ⟨⟨xs, xs[i], q, by simp [hlt]⟩, Pv (i + 1), fun σ' H' p' => ⟨xs.length - (i + 1), by omega, rfl, hlt, p'⟩, fun x H' y => ?_⟩
    obtain ⟨e, y⟩ := y
    subst e
    exact hs i x σ _ (y xs q) p
  · have e : i = xs.length := by omega
    subst e
    exact .inl ⟨⟨xs, q, Nat.le_refl _⟩, hd σ H p⟩
end L2
namespace L2
open PySem PySem.Spec PyProof.Rows
abbrev R2 := V → V → Hp → VK → Prop
def OpR (X : Cx) (f : Value → Value → Sem Value) (r : R2) : Prop :=
  ∀ (pins : List (Addr × Obj)) (s : Shared) (σ : St) (H : Hp) (x y : V) (v u : Value) (Q : VK), Inv X pins σ H s → RelV x v → RelV y u → r x y H Q →
    wpAny (model X.prog X.w) X.A (f v u) (EP X pins σ Q) X.xe s
def UnR (X : Cx) (f : Value → Sem Value) (r : V → Hp → VK → Prop) : Prop :=
  ∀ (pins : List (Addr × Obj)) (s : Shared) (σ : St) (H : Hp) (x : V) (v : Value) (Q : VK), Inv X pins σ H s → RelV x v → r x H Q →
    wpAny (model X.prog X.w) X.A (f v) (EP X pins σ Q) X.xe s
def CallR (X : Cx) (f : Value) (r : List V → Hp → VK → Prop) : Prop :=
  ∀ (pins : List (Addr × Obj)) (s : Shared) (σ : St) (H : Hp) (xs : List V) (us : List Value) (Q : VK), Inv X pins σ H s → Vals xs us → r xs H Q →
    wpAny (model X.prog X.w) X.A (call f us) (EP X pins σ Q) X.xe s
def tOp (r : R2) (ta tb : TE) : TE := fun σ H Q => ta σ H fun x H1 => tb σ H1 fun y H2 => r x y H2 Q
def tUn (r : V → Hp → VK → Prop) (ta : TE) : TE := fun σ H Q => ta σ H fun x H1 => r x H1 Q
def rI (C : Int → Int → Prop) (g : Int → Int → V) : R2 := fun x y H Q => ∃ i j, x = .int i ∧ y = .int j ∧ C i j ∧ Q (g i j) H
def rI0 (g : Int → Int → V) : R2 := fun x y H Q => ∃ i j, x = .int i ∧ y = .int j ∧ Q (g i j) H
def rU (g : Int → V) : V → Hp → VK → Prop := fun x H Q => ∃ i, x = .int i ∧ Q (g i) H
section
variable {X : Cx} {a b c : Expr} {ta tb tc : TE} {pos : Pos}
theorem binT (ha : PE X a ta) (hb : PE X b tb) {pins : List (Addr × Obj)} {s : Shared} {σ : St} {H : Hp} {R : V → V → Hp → Prop} (I : Inv X pins σ H s)
    (h : ta σ H fun x H1 => tb σ H1 fun y H2 => R x y H2) {Q : Value → Shared → Prop} {f : Value → Value → Sem Value}
    (hf : ∀ v u s2 x y H2, Inv X pins σ H2 s2 → RelV x v → RelV y u → R x y H2 → wpAny (model X.prog X.w) X.A (f v u) Q X.xe s2) :
    wpAny (model X.prog X.w) X.A (eval a X.env) (fun v s₁ => wpAny (model X.prog X.w) X.A (eval b X.env) (fun u s₂ => wpAny (model X.prog X.w) X.A (f v u) Q X.xe s₂) X.xe s₁) X.xe s := by
  refine thn (ha pins s σ H _ I h) fun v s1 ⟨x, H1, I1, r1, q1⟩ => ?_
  refine thn (hb pins s1 σ H1 _ I1 q1) fun u s2 ⟨y, H2, I2, r2, q2⟩ => ?_
  exact hf v u s2 x y H2 I2 r1 r2 q2
theorem pe_op {op : Operator} {r : R2} (ho : OpR X (binaryOp op) r) (ha : PE X a ta) (hb : PE X b tb) : PE X (.BinOp a op b pos) (tOp r ta tb) := by
  intro pins s σ H Q I h
  exact wpAny_BinOp (binT ha hb I h fun v u s2 x y H2 I2 rx ry q => ho pins s2 σ H2 x y v u Q I2 rx ry q)
theorem pe_un {op : UnaryOp} {r : V → Hp → VK → Prop} (ho : UnR X (unaryOp op) r) (ha : PE X a ta) : PE X (.UnaryOp op a pos) (tUn r ta) := by
  intro pins s σ H Q I h
  exact UnaryOp_ (thn (ha pins s σ H _ I h) fun v s1 ⟨x, H1, I1, r1, q1⟩ => ho pins s1 σ H1 x v Q I1 r1 q1)
theorem opI {f : Value → Value → Sem Value} {C : Int → Int → Prop} {g : Int → Int → Int}
    (rule : ∀ (i j : Int) (t u : Tok) (s : Shared) (Q : Value → Shared → Prop) (E : Value → Shared → Prop), C i j → Q (.int (g i j) s.toks) { s with toks := s.toks + 1 } → wpAny (model X.prog X.w) X.A (f (.int i t) (.int j u)) Q E s) :
    OpR X f (rI C fun i j => .int (g i j)) := by
  intro pins s σ H x y v u Q I rx ry h
  obtain ⟨i, j, rfl, rfl, hc, q⟩ := h
  obtain ⟨t, rfl⟩ := rx
  obtain ⟨t', rfl⟩ := ry
  exact rule i j t t' s _ _ hc ⟨.int (g i j), H, I.tok _, ⟨_, rfl⟩, q⟩
theorem opI0 {f : Value → Value → Sem Value} {g : Int → Int → Int}
    (rule : ∀ (i j : Int) (t u : Tok) (s : Shared) (Q : Value → Shared → Prop) (E : Value → Shared → Prop), Q (.int (g i j) s.toks) { s with toks := s.toks + 1 } → wpAny (model X.prog X.w) X.A (f (.int i t) (.int j u)) Q E s) :
    OpR X f (rI0 fun i j => .int (g i j)) := by
  intro pins s σ H x y v u Q I rx ry h
  obtain ⟨i, j, rfl, rfl, q⟩ := h
  obtain ⟨t, rfl⟩ := rx
  obtain ⟨t', rfl⟩ := ry
  exact rule i j t t' s _ _ ⟨.int (g i j), H, I.tok _, ⟨_, rfl⟩, q⟩
theorem opB0 {f : Value → Value → Sem Value} {g : Int → Int → Bool}
    (rule : ∀ (i j : Int) (t u : Tok) (s : Shared) (Q : Value → Shared → Prop) (E : Value → Shared → Prop), Q (.bool (g i j)) s → wpAny (model X.prog X.w) X.A (f (.int i t) (.int j u)) Q E s) :
    OpR X f (rI0 fun i j => .bl (g i j)) := by
  intro pins s σ H x y v u Q I rx ry h
  obtain ⟨i, j, rfl, rfl, q⟩ := h
  obtain ⟨t, rfl⟩ := rx
  obtain ⟨t', rfl⟩ := ry
  exact rule i j t t' s _ _ ⟨.bl (g i j), H, I, rfl, q⟩
def CPow (i j : Int) : Prop := 0 ≤ j ∧ j ≤ 1000000 ∧ i.natAbs < 2 ^ 64
def CMul (i j : Int) : Prop := (-(2 ^ 64) < i ∧ i < 2 ^ 64) ∨ (-(2 ^ 64) < j ∧ j < 2 ^ 64)
theorem CMul.ok {i j : Int} (h : CMul i j) : IntMulOk i j := by
  rcases h with ⟨h1, h2⟩ | ⟨h1, h2⟩
  · exact .of_left (intBits_le_64 h1 h2)
  · exact .of_right (intBits_le_64 h1 h2)
theorem op_add : OpR X (binaryOp .Add) (rI0 fun i j => .int (i + j)) := opI0 fun _ _ _ _ _ _ _ q => add_int q
theorem op_sub : OpR X (binaryOp .Sub) (rI0 fun i j => .int (i - j)) := opI0 fun _ _ _ _ _ _ _ q => sub_int q
theorem op_mul : OpR X (binaryOp .Mult) (rI CMul fun i j => .int (i * j)) := opI fun _ _ _ _ _ _ _ hc q => mul_int q hc.ok
theorem op_mod : OpR X (binaryOp .Mod) (rI (fun _ j => 0 < j) fun i j => .int (i % j)) := opI fun i j _ _ _ _ _ hc q => by
  have h1 : (0 : Int) < j := hc
  exact mod_int' (by omega) (by rw [Int.fmod_eq_emod_of_nonneg i (by omega)]; exact q)
theorem op_pow : OpR X (binaryOp .Pow) (rI CPow fun i j => .int (i ^ j.toNat)) := opI fun _ _ _ _ _ _ _ hc q => pow_int_small hc.1 hc.2.1 hc.2.2 q
theorem unI {f : Value → Sem Value} {g : Int → Int}
    (rule : ∀ (i : Int) (t : Tok) (s : Shared) (Q : Value → Shared → Prop) (E : Value → Shared → Prop), Q (.int (g i) s.toks) { s with toks := s.toks + 1 } → wpAny (model X.prog X.w) X.A (f (.int i t)) Q E s) :
    UnR X f (rU fun i => .int (g i)) := by
  intro pins s σ H x v Q I rx h
  obtain ⟨i, rfl, q⟩ := h
  obtain ⟨t, rfl⟩ := rx
  exact rule i t s _ _ ⟨.int (g i), H, I.tok _, ⟨_, rfl⟩, q⟩
theorem un_neg : UnR X (unaryOp .USub) (rU fun i => .int (-i)) := unI fun _ _ _ _ _ q => neg_int q
end
def scal : V → V → Bool
  | .non, .non => true | .non, .int _ => true | .int _, .non => true | .non, .bl _ => true | .bl _, .non => true | .non, .str _ => true | .str _, .non => true
  | .int _, .int _ => true | .bl _, .bl _ => true | .str _, .str _ => true | .byt _, .byt _ => true
  | .int _, .str _ => true | .str _, .int _ => true | .bl _, .str _ => true | .str _, .bl _ => true
  | _, _ => false
def rEq : R2 := fun x y H Q => scal x y = true ∧ Q (.bl (decide (x = y))) H
def rNe : R2 := fun x y H Q => scal x y = true ∧ Q (.bl (!decide (x = y))) H
theorem dec_int {i j : Int} : decide (V.int i = V.int j) = (i == j) := by
  rw [Bool.eq_iff_iff]
  simp
theorem dec_bl {i j : Bool} : decide (V.bl i = V.bl j) = (i == j) := by
  rw [Bool.eq_iff_iff]
  simp
theorem dec_str {i j : Str} : decide (V.str i = V.str j) = (i == j) := by
  rw [Bool.eq_iff_iff]
  simp
theorem dec_byt {i j : Array UInt8} : decide (V.byt i = V.byt j) = (i.toList == j.toList) := by
  rw [Bool.eq_iff_iff]
  cases i
  cases j
  simp
section
variable {X : Cx} {a b c : Expr} {ta tb tc : TE} {pos : Pos}
theorem fin_bl {pins : List (Addr × Obj)} {σ : St} {H : Hp} {s : Shared} {Q : VK} {k k' : Bool} (I : Inv X pins σ H s) (q : Q (.bl k) H) (e : k = k') : EP X pins σ Q (.bool k') s := by
  subst e
  exact ⟨.bl k, H, I, rfl, q⟩
theorem op_eq : OpR X (compareOp .Eq) rEq := by
  intro pins s σ H x y v u Q I rx ry h
  obtain ⟨hs, q⟩ := h
  cases x with
  | non =>
    cases rx
    cases y with
    | non => cases ry; exact PySem.EqNone.eq_none_none (fin_bl I q (by simp))
    | bl j => cases ry; exact PySem.EqNone.eq_none_bool (fin_bl I q (by simp))
    | int j => obtain ⟨t', rfl⟩ := ry; exact PySem.EqNone.eq_none_int (fin_bl I q (by simp))
    | str j => obtain ⟨t', rfl⟩ := ry; exact PySem.EqNone.eq_none_str (fin_bl I q (by simp))
    | _ => exact absurd (show false = true from hs) Bool.false_ne_true
  | bl i =>
    cases rx
    cases y with
    | non => cases ry; exact PySem.EqNone.eq_bool_none (fin_bl I q (by simp))
    | bl j => cases ry; exact eq_bool (fin_bl I q dec_bl)
    | str j => obtain ⟨t', rfl⟩ := ry; exact PySem.EqMixed.eq_bool_str (fin_bl I q (by simp))
    | _ => exact absurd (show false = true from hs) Bool.false_ne_true
  | int i =>
    obtain ⟨t, rfl⟩ := rx
    cases y with
    | non => cases ry; exact PySem.EqNone.eq_int_none (fin_bl I q (by simp))
    | int j => obtain ⟨t', rfl⟩ := ry; exact eq_int (fin_bl I q dec_int)
    | str j => obtain ⟨t', rfl⟩ := ry; exact PySem.EqMixed.eq_int_str (fin_bl I q (by simp))
    | _ => exact absurd (show false = true from hs) Bool.false_ne_true
  | str i =>
    obtain ⟨t, rfl⟩ := rx
    cases y with
    | non => cases ry; exact PySem.EqNone.eq_str_none (fin_bl I q (by simp))
    | bl j => cases ry; exact PySem.EqMixed.eq_str_bool (fin_bl I q (by simp))
    | int j => obtain ⟨t', rfl⟩ := ry; exact PySem.EqMixed.eq_str_int (fin_bl I q (by simp))
    | str j => obtain ⟨t', rfl⟩ := ry; exact eq_str (fin_bl I q dec_str)
    | _ => exact absurd (show false = true from hs) Bool.false_ne_true
  | byt i =>
    obtain ⟨t, rfl⟩ := rx
    cases y with
    | byt j => obtain ⟨t', rfl⟩ := ry; exact PySem.W.eq_bytes (fin_bl I q dec_byt)
    | _ => exact absurd (show false = true from hs) Bool.false_ne_true
  | _ => cases y <;> exact absurd (show false = true from hs) Bool.false_ne_true
theorem op_ne : OpR X (compareOp .NotEq) rNe := by
  intro pins s σ H x y v u Q I rx ry h
  obtain ⟨hs, q⟩ := h
  cases x with
  | non =>
    cases rx
    cases y with
    | non => cases ry; exact PySem.EqNone.ne_none_none (fin_bl I q (by simp))
    | bl j => cases ry; exact PySem.EqNone.ne_none_bool (fin_bl I q (by simp))
    | int j => obtain ⟨t', rfl⟩ := ry; exact PySem.EqNone.ne_none_int (fin_bl I q (by simp))
    | str j => obtain ⟨t', rfl⟩ := ry; exact PySem.EqNone.ne_none_str (fin_bl I q (by simp))
    | _ => exact absurd (show false = true from hs) Bool.false_ne_true
  | bl i =>
    cases rx
    cases y with
    | non => cases ry; exact PySem.EqNone.ne_bool_none (fin_bl I q (by simp))
    | bl j => cases ry; exact ne_bool (fin_bl I q (congrArg not dec_bl))
    | str j => obtain ⟨t', rfl⟩ := ry; exact PySem.EqMixed.ne_bool_str (fin_bl I q (by simp))
    | _ => exact absurd (show false = true from hs) Bool.false_ne_true
  | int i =>
    obtain ⟨t, rfl⟩ := rx
    cases y with
    | non => cases ry; exact PySem.EqNone.ne_int_none (fin_bl I q (by simp))
    | int j => obtain ⟨t', rfl⟩ := ry; exact ne_int (fin_bl I q (congrArg not dec_int))
    | str j => obtain ⟨t', rfl⟩ := ry; exact PySem.EqMixed.ne_int_str (fin_bl I q (by simp))
    | _ => exact absurd (show false = true from hs) Bool.false_ne_true
  | str i =>
    obtain ⟨t, rfl⟩ := rx
    cases y with
    | non => cases ry; exact PySem.EqNone.ne_str_none (fin_bl I q (by simp))
    | bl j => cases ry; exact PySem.EqMixed.ne_str_bool (fin_bl I q (by simp))
    | int j => obtain ⟨t', rfl⟩ := ry; exact PySem.EqMixed.ne_str_int (fin_bl I q (by simp))
    | str j => obtain ⟨t', rfl⟩ := ry; exact ne_str (fin_bl I q (congrArg not dec_str))
    | _ => exact absurd (show false = true from hs) Bool.false_ne_true
  | byt i =>
    obtain ⟨t, rfl⟩ := rx
    cases y with
    | byt j => obtain ⟨t', rfl⟩ := ry; exact PySem.W.ne_bytes (fin_bl I q (congrArg not dec_byt))
    | _ => exact absurd (show false = true from hs) Bool.false_ne_true
  | _ => cases y <;> exact absurd (show false = true from hs) Bool.false_ne_true
theorem op_lt : OpR X (compareOp .Lt) (rI0 fun i j => .bl (decide (i < j))) := opB0 fun _ _ _ _ _ _ _ q => lt_int q
theorem op_le : OpR X (compareOp .LtE) (rI0 fun i j => .bl (decide (i ≤ j))) := opB0 fun _ _ _ _ _ _ _ q => le_int q
theorem op_gt : OpR X (compareOp .Gt) (rI0 fun i j => .bl (decide (j < i))) := opB0 fun _ _ _ _ _ _ _ q => gt_int q
theorem op_ge : OpR X (compareOp .GtE) (rI0 fun i j => .bl (decide (j ≤ i))) := opB0 fun _ _ _ _ _ _ _ q => ge_int q
theorem OpR.or {f : Value → Value → Sem Value} {r r' : R2} (h : OpR X f r) (h' : OpR X f r') : OpR X f (fun x y H Q => r x y H Q ∨ r' x y H Q) := by
  intro pins s σ H x y v u Q I rx ry q
  rcases q with q | q
  · exact h pins s σ H x y v u Q I rx ry q
  · exact h' pins s σ H x y v u Q I rx ry q
theorem nomark (b : Expr) {op : CmpOp} (h : op ≠ .In := by decide) (h2 : op ≠ .NotIn := by decide) : behindInMarks op b = false := by
  have e1 : (op == CmpOp.In) = false := by cases op <;> first | rfl | exact absurd rfl h
  have e2 : (op == CmpOp.NotIn) = false := by cases op <;> first | rfl | exact absurd rfl h2
  cases b <;> simp [behindInMarks, e1, e2]
theorem pe_cmpR {op : CmpOp} {r : R2} (ho : OpR X (compareOp op) r) (ha : PE X a ta) (hb : PE X b tb) (hm : behindInMarks op b = false) : PE X (.Compare a [op] [b] pos) (tOp r ta tb) := by
  intro pins s σ H Q I h
  exact wpAny_Compare1 (binT ha hb I h fun v u s2 x y H2 I2 rx ry q => ho pins s2 σ H2 x y v u Q I2 rx ry q) hm
def tTest (t : TE) : TT := fun σ H Q => t σ H fun x H' => ∃ k, x = .bl k ∧ Q k H'
theorem pt_cmpR {op : CmpOp} {r : R2} (ho : OpR X (compareOp op) r) (ha : PE X a ta) (hb : PE X b tb) (hm : behindInMarks op b = false) : PT X (.Compare a [op] [b] pos) (tTest (tOp r ta tb)) := by
  intro pins s σ H Q I h
  refine wpAny_isTrue_Compare1 (thn (ha pins s σ H _ I h) fun v s1 ⟨x, H1, I1, r1, q1⟩ => thn (hb pins s1 σ H1 _ I1 q1) fun u s2 ⟨y, H2, I2, r2, q2⟩ =>
    thn (ho pins s2 σ H2 x y v u _ I2 r1 r2 q2) fun c s3 ⟨z, H3, I3, r3, k, e, q3⟩ => ?_) hm
  subst e
  cases r3
  exact wpAny_truthy_bool ⟨H3, I3, q3⟩
def tChain (r r' : R2) (ta tb tc : TE) : TE := fun σ H Q => ta σ H fun x H1 => tb σ H1 fun y H2 => r x y H2 fun z H3 => ∃ k, z = .bl k ∧
  (if k = true then tc σ H3 fun w' H4 => r' y w' H4 Q else Q (.bl false) H3)
theorem pe_chain {op op' : CmpOp} {r r' : R2} (ho : OpR X (compareOp op) r) (ho' : OpR X (compareOp op') r') (ha : PE X a ta) (hb : PE X b tb) (hc : PE X c tc)
    (hm : lastMarks [op, op'] [b, c] = false := by with_unfolding_all rfl) : PE X (.Compare a [op, op'] [b, c] pos) (tChain r r' ta tb tc) := by
  intro pins s σ H Q I h
  refine Compare_chain (thn (ha pins s σ H _ I h) fun v s1 ⟨x, H1, I1, r1, q1⟩ => chain_link (thn (hb pins s1 σ H1 _ I1 q1) fun u s2 ⟨y, H2, I2, r2, q2⟩ =>
    thn (ho pins s2 σ H2 x y v u _ I2 r1 r2 q2) fun d s3 ⟨z, H3, I3, r3, k, e, q3⟩ => ?_)) hm
  subst e
  cases r3
  refine wpAny_truthy_bool ?_
  cases k with
  | false => exact ite_ff ⟨.bl false, H3, I3, rfl, q3⟩
  | true => exact ite_tt (chain_last (thn (hc pins s3 σ H3 _ I3 q3) fun w' s4 ⟨z', H4, I4, r4, q4⟩ => ho' pins s4 σ H4 y z' u w' Q I4 r2 r4 q4))
theorem line63 : (sizeLine : Nat) < 2 ^ 63 := by rw [sizeLine_eq]; decide
theorem vals1 {x : V} {us : List Value} (r : Vals [x] us) : ∃ u, us = [u] ∧ RelV x u := by
  cases r with
  | cons r1 r2 => cases r2; exact ⟨_, rfl, r1⟩
theorem vals2 {x y : V} {us : List Value} (r : Vals [x, y] us) : ∃ u w', us = [u, w'] ∧ RelV x u ∧ RelV y w' := by
  cases r with
  | cons r1 r2 =>
    cases r2 with
    | cons r3 r4 => cases r4; exact ⟨_, _, rfl, r1, r3⟩
theorem call_max2 (hc : X.calm = true) : CallR X (.builtin "max") (fun xs H Q => ∃ i j, xs = [.int i, .int j] ∧ Q (.int (if j > i then j else i)) H) := by
  intro pins s σ H xs us Q I r h
  obtain ⟨i, j, rfl, q⟩ := h
  obtain ⟨u, w', rfl, ⟨t, rfl⟩, ⟨t', rfl⟩⟩ := vals2 r
  refine max_two_ints (I.ok.hd hc) fun h' tk k => ⟨_, H, I.kept k, ?_, q⟩
  by_cases hj : j > i
  · rw [if_pos hj, if_pos hj]; exact ⟨_, rfl⟩
  · rw [if_neg hj, if_neg hj]; exact ⟨_, rfl⟩
theorem call_min2 (hc : X.calm = true) : CallR X (.builtin "min") (fun xs H Q => ∃ i j, xs = [.int i, .int j] ∧ Q (.int (if j < i then j else i)) H) := by
  intro pins s σ H xs us Q I r h
  obtain ⟨i, j, rfl, q⟩ := h
  obtain ⟨u, w', rfl, ⟨t, rfl⟩, ⟨t', rfl⟩⟩ := vals2 r
  refine min_two_ints (I.ok.hd hc) fun h' tk k => ⟨_, H, I.kept k, ?_, q⟩
  by_cases hj : j < i
  · rw [if_pos hj, if_pos hj]; exact ⟨_, rfl⟩
  · rw [if_neg hj, if_neg hj]; exact ⟨_, rfl⟩
theorem call_int1 : CallR X (.type "int") (fun xs H Q => (∃ i, xs = [.int i] ∧ Q (.int i) H) ∨ ∃ k, xs = [.bl k] ∧ Q (.int (if k then 1 else 0)) H) := by
  intro pins s σ H xs us Q I r h
  rcases h with ⟨i, rfl, q⟩ | ⟨k, rfl, q⟩
  · obtain ⟨u, rfl, t, rfl⟩ := vals1 r
    exact call_int_int ⟨.int i, H, I, ⟨_, rfl⟩, q⟩
  · obtain ⟨u, rfl, r1⟩ := vals1 r
    cases r1
    exact call_int_bool ⟨.int (if k then 1 else 0), H, I.tok _, ⟨_, rfl⟩, q⟩
end
end L2
namespace L2
open PySem PySem.Spec PyProof.Rows
structure ObjM (h : Heap) (x dx C : Addr) (mA : Str → Option Value) : Prop where
  obj : h.get? x = some (PySem.W.instObj C dx)
  ns : h.Ns1 dx mA
  ne : dx ≠ x
theorem lookIn_ns {h : Heap} {dx : Addr} {mA : Str → Option Value} (n : h.Ns1 dx mA) : ∃ od, h.get? dx = some od ∧ ∀ name, PySem.W.lookIn name od = some (mA name) := by
  obtain ⟨o, es, ep, ho, hd, hk, _, hm⟩ := n
  refine ⟨o, ho, fun name => ?_⟩
  have e := hm name
  unfold nsFind findBy at e
  rw [← Array.find?_toList] at e
  unfold PySem.W.lookIn
  rw [hd]
  dsimp only
  split
  · rename_i y q
    rw [q] at e
    exact congrArg some e
  · rename_i q
    rw [q] at e
    have a : es.toList.any (·.refKey) = false := by
      rw [List.any_eq_false]
      intro y hy
      obtain ⟨z, t, hkey⟩ := hk y (Array.mem_toList_iff.mp hy)
      simp [DictEntry.refKey, hkey]
    have a' : ¬ es.toList.any (·.refKey) = true := by rw [a]; exact Bool.false_ne_true
    rw [if_neg a']
    exact congrArg some e
theorem ObjM.look {h : Heap} {x dx C : Addr} {mA : Str → Option Value} (I : ObjM h x dx C mA) : ∃ od, PySem.W.InstAt h x (PySem.W.instObj C dx) C (some od) ∧ ∀ name, PySem.W.lookIn name od = some (mA name) :=
  let ⟨od, ho, hl⟩ := lookIn_ns I.ns
  ⟨od, ⟨I.obj, rfl, rfl, ho⟩, hl⟩
section
variable {prog : Program} {w : World} {A : Around} {E : Value → Shared → Prop} {s : Shared} {K : PySem.W.Frag} {x dx C f : Addr} {mA : Str → Option Value} {name : Str} {v : Value}
end
theorem RelO.none_of {o : Option Value} (r : RelO none o) : o = none := by
  cases o with
  | none => rfl
  | some u => exact (show False from r).elim
section
variable {P : Program} {w : World} {H H' : Hp} {h h' : Heap} {a C dx : Addr} {fs fs' : List (Str × V)}
theorem ins_get (hok : HOk P w H h) (e : H a = some (.ins C dx fs)) : ∃ mA, ObjM h a dx C mA ∧ (∀ f, RelO (fs.lookup f) (mA f)) ∧ PySem.Within mA (fs.map (·.1)) ∧ fs.length ≤ 1000 ∧ H dx = some (.own a) := by
  obtain ⟨d, z, ne, ob, mA, n, r, q⟩ := (show ObjOk P w H h a (.ins C dx fs) from hok a _ e)
  exact ⟨mA, ⟨ob, n, ne⟩, r, q, z, d⟩
end
structure Cls (K : PySem.W.Frag) (C : Addr) : Prop where
  pg : PySem.W.plainGet K C Str.empty = true
  hd : PySem.W.hasDictIn K C = true
  po : PySem.W.plainOver K C = true
  sa : PySem.W.findIn K (.ref C) "__setattr__" = some (some (.builtin "object.__setattr__"))
theorem Cls.get {K : PySem.W.Frag} {C : Addr} (c : Cls K C) (f : Str) : PySem.W.plainGet K C f = true := c.pg
structure Con (K : PySem.W.Frag) (C : Addr) (f : Str) (v : V) (u : Value) : Prop where
  at_ : PySem.W.findIn K (.ref C) f = some (some u)
  rel : RelV v u
  get : PySem.W.specialIn K u "__get__" = some none
  cp : PySem.W.copiedNames.contains f = false
structure Meth (K : PySem.W.Frag) (C : Addr) (m : Str) (f : Addr) : Prop where
  at_ : PySem.W.findIn K (.ref C) m = some (some (.ref f))
  fn : PySem.W.isFn K (.ref f) = true
  kp : PySem.W.keepIn K (.ref f) = true
section
variable {X : Cx} {pins : List (Addr × Obj)} {σ : St} {H : Hp} {s : Shared} {a C dx : Addr} {fs : List (Str × V)} {f : Str} {v : V} {A : Around} {E : Value → Shared → Prop}
end
section
variable {X : Cx} {o e value : Expr} {f : Str} {pos pos' tpos : Pos} {ta tv : TE}
end
section
variable {X : Cx} {pins : List (Addr × Obj)} {σ : St} {H : Hp} {s : Shared} {A : Around} {E : Value → Shared → Prop} {Q : Value → Shared → Prop} {c : Value} {b : Bool}
inductive TyOf (K : PySem.W.Frag) (H : Hp) : V → Value → Prop where
  | non : TyOf K H .non (.type "NoneType")
  | bl (x : Bool) : TyOf K H (.bl x) (.type "bool")
  | int (i : Int) : TyOf K H (.int i) (.type "int")
  | str (x : Str) : TyOf K H (.str x) (.type "str")
  | flt (x : UInt64) : TyOf K H (.flt x) (.type "float")
  | lst {a : Addr} {xs : List V} (e : H a = some (.lst xs)) : TyOf K H (.ref a) (.type "list")
  | frz {a : Addr} {o : Obj} {xs : List V} (e : H a = some (.frz o (.lst xs))) : TyOf K H (.ref a) (.type "list")
  | tup {a : Addr} {xs : List V} (e : H a = some (.tup xs)) : TyOf K H (.ref a) (.type "tuple")
  | dK {a : Addr} {kvs : List (Key × V)} (e : H a = some (.dK kvs)) : TyOf K H (.ref a) (.type "dict")
  | dT {a : Addr} {kvs : List (List Key × V)} (e : H a = some (.dT kvs)) : TyOf K H (.ref a) (.type "dict")
  | ins {a C dx : Addr} {fs : List (Str × V)} (e : H a = some (.ins C dx fs)) (cl : Cls K C) (ha : PySem.W.findIn K (.ref C) "__class__" = some (some (.builtin "object.__class__")))
      (hn : PySem.W.specialIn K (.builtin "object.__class__") "__get__" = some (some (.builtin "getset_descriptor.__get__"))) (htk : PySem.W.takesIn K (.builtin "object.__class__") = some true)
      (hm : PySem.W.mroIn K C (.type "object") = some true) : TyOf K H (.ref a) (.ref C)
theorem isinst_ok {x : V} {u t : Value} (I : Inv X pins σ H s) (rx : RelV x u) (ty : TyOf X.K H x t) (e : PySem.W.kitOne X.K t c = some b) (h : ∀ tk, Q (.bool b) { s with toks := tk }) :
    wpAny (model X.prog X.w) A (call (.builtin "isinstance") [u, c]) Q E s := by
  cases ty with
  | non => cases (show u = Value.none from rx); exact PySem.W.kia_one PySem.W.kitx_none I.kIn True.intro e (fun z => nomatch z) h
  | bl y => cases (show u = Value.bool y from rx); exact PySem.W.kia_one PySem.W.kitx_bool I.kIn True.intro e (fun z => nomatch z) h
  | int i => obtain ⟨t, q⟩ := (show ∃ t, u = Value.int i t from rx); cases q; exact PySem.W.kia_one PySem.W.kitx_int I.kIn True.intro e (fun z => nomatch z) h
  | str y => obtain ⟨t, q⟩ := (show ∃ t, u = Value.str y t from rx); cases q; exact PySem.W.kia_one PySem.W.kitx_str I.kIn True.intro e (fun z => nomatch z) h
  | flt y => obtain ⟨t, q⟩ := (show ∃ t, u = Value.float y t from rx); cases q; exact PySem.W.kia_one PySem.W.kitx_float I.kIn True.intro e (fun z => nomatch z) h
  | @lst a xs ea =>
    cases (show u = Value.ref a from rx)
    obtain ⟨_, _, n, _, h1⟩ := (show ObjOk X.prog X.w H s.heap a (.lst xs) from I.hok a _ ea)
    exact PySem.W.kia_one PySem.W.kitx_list I.kIn ⟨_, h1, rfl⟩ e (fun z => nomatch z) h
  | @frz a ob xs ea =>
    cases (show u = Value.ref a from rx)
    obtain ⟨_, _, _, n, _, h1⟩ := (show ObjOk X.prog X.w H s.heap a (.frz ob (.lst xs)) from I.hok a _ ea)
    exact PySem.W.kia_one PySem.W.kitx_list I.kIn ⟨_, h1, rfl⟩ e (fun z => nomatch z) h
  | @tup a xs ea =>
    cases (show u = Value.ref a from rx)
    obtain ⟨_, _, _, p⟩ := (show ObjOk X.prog X.w H s.heap a (.tup xs) from I.hok a _ ea)
    obtain ⟨o, h1, h2, _⟩ := p
    exact PySem.W.kia_one PySem.W.kitx_tuple I.kIn ⟨o, h1, h2⟩ e (fun z => nomatch z) h
  | @dK a kvs ea =>
    cases (show u = Value.ref a from rx)
    obtain ⟨_, _, vs, _, p⟩ := (show ObjOk X.prog X.w H s.heap a (.dK kvs) from I.hok a _ ea)
    obtain ⟨o, es, ep, h1, h2, _⟩ := p
    exact PySem.W.kia_one PySem.W.kitx_dict I.kIn ⟨o, h1, h2.1⟩ e (fun z => nomatch z) h
  | @dT a kvs ea =>
    cases (show u = Value.ref a from rx)
    obtain ⟨_, _, xs, _, o, es, ep, h1, h2, _⟩ := (show ObjOk X.prog X.w H s.heap a (.dT kvs) from I.hok a _ ea)
    exact PySem.W.kia_one PySem.W.kitx_dict I.kIn ⟨o, h1, h2.1⟩ e (fun z => nomatch z) h
  | @ins a C dx fs ea cl ha hn htk hm =>
    cases (show u = Value.ref a from rx)
    obtain ⟨mA, O, _⟩ := ins_get I.hok ea
    obtain ⟨od, J, _⟩ := O.look
    exact PySem.W.kia_one (PySem.W.kitx_own (cl.get _) cl.hd ha hn htk hm) I.kIn J e (fun z => nomatch z) h
end
end L2
namespace L2
open PySem PySem.Spec PyProof.Rows
structure Room (k : Nat) (A : Around) : Prop where
  hd : A.handled = none
  dp : A.depth + 3 * k + 5 < recursionLimit
  un : A.units + 16 * k + 200 < cLine
  gd : A.guards = some []
theorem Room.mono {j k : Nat} {A : Around} (r : Room k A) (h : j ≤ k) : Room j A := ⟨r.hd, by have := r.dp; omega, by have := r.un; omega, r.gd⟩
theorem Room.deeper {k : Nat} {A : Around} (r : Room (k + 1) A) (env : Env) : Room k (A.deeper env) :=
  ⟨r.hd, by have := r.dp; show A.depth + 1 + 3 * k + 5 < _; omega, by have := r.un; show A.units + 3 + 16 * k + 200 < _; omega, r.gd⟩
theorem Room.in1 {k : Nat} {A : Around} (r : Room (k + 1) A) : Room k A.in1 :=
  ⟨r.hd, by have := r.dp; show A.depth + 3 * k + 5 < _; omega, by have := r.un; show A.units + 1 + 16 * k + 200 < _; omega, r.gd⟩
theorem make_depth {A : Around} {C : Addr} {us : List Value} {kw : List (Str × Value)} : (A.under (.builtin "type.__call__" ⟨.ref C :: us, kw⟩)).depth = A.depth + 1 := by
  first | rfl | simp [Around.under, Code.weight, Code.isCreation, Code.isGuard, Code.isCaller, Code.frames, Code.isFrame, guardIds]
theorem make_units {A : Around} {C : Addr} {us : List Value} {kw : List (Str × Value)} : (A.under (.builtin "type.__call__" ⟨.ref C :: us, kw⟩)).units = A.units + 1 := by
  first | rfl | simp [Around.under, Code.cUnits, Code.frames, Code.isFrame]
theorem Room.make {k : Nat} {A : Around} (r : Room (k + 1) A) (C : Addr) (us : List Value) (kw : List (Str × Value)) : Room k (A.under (.builtin "type.__call__" ⟨.ref C :: us, kw⟩)) :=
  ⟨r.hd, by have := r.dp; rw [make_depth]; omega, by have := r.un; rw [make_units]; omega, by have := r.gd; first | exact this | simpa [Around.under, Code.guards, Code.isGuard, pushGuards, guardIds] using this⟩
theorem Room.depth {k : Nat} {A : Around} (r : Room k A) : A.depth < recursionLimit := by have := r.dp; omega
theorem Room.units {k : Nat} {A : Around} (r : Room k A) : A.units + 64 < cLine := by have := r.un; omega
def tNil : TA := fun _ H Q => Q [] H
def tCons (ta : TE) (tr : TA) : TA := fun σ H Q => ta σ H fun x H1 => tr σ H1 fun xs H2 => Q (x :: xs) H2
section
variable {X : Cx} {e : Expr} {es : List Expr} {te : TE} {t : TA} {pos : Pos}
theorem pa_nil : PA X [] tNil := fun _ _ _ _ H Q I h => Calls.spliced_nil ⟨[], H, I, .nil, h⟩
theorem pa_cons (ha : PE X e te) (hr : PA X es t) (hs : starEach (e :: es) X.env = (false, eval e X.env) :: starEach es X.env := by rfl) : PA X (e :: es) (tCons te t) := by
  intro pos pins s σ H Q I h
  rw [hs]
  show wpAny _ _ (spliced ((false, eval e X.env) :: backTo pos (starEach es X.env))) _ _ s
  refine Calls.spliced_cons (thn (ha pins s σ H _ I h) fun u s1 ⟨x, H1, I1, r1, q1⟩ => ?_)
  exact thn (hr pos pins s1 σ H1 _ I1 q1) fun us s2 ⟨xs, H2, I2, r2, q2⟩ => ⟨x :: xs, H2, I2, .cons r1 r2, q2⟩
def tTup (t : TA) : TE := fun σ H Q => t σ H fun xs H1 => xs.length ≤ sizeLine ∧ ∀ p, H1 p = none → Q (.ref p) (upd H1 p (.tup xs))
def tLst (t : TA) : TE := fun σ H Q => t σ H fun xs H1 => xs.length ≤ sizeLine ∧ ∀ p, H1 p = none → Q (.ref p) (upd H1 p (.lst xs))
end
abbrev Sp := List V → Hp → VK → XK → Prop
abbrev CXT := List Env → Hp → Shared → XK → Value → Shared → Prop
structure Env0 (P : Program) (w : World) (K : PySem.W.Frag) (mg : Str → Option Value) (base : Heap) (A : Around) (outer : List Env) (s : Shared) (H : Hp) : Prop where
  frames : A.frames = some outer
  mod : Mod K mg base
  bs : ∀ b o, base.get? b = some o → s.heap.get? b = some o ∧ H b = none
  bsz : base.objs.size ≤ s.heap.objs.size
  funs : s.heap.FunFrames base outer
  frf : ∀ b ∈ frs outer, H b = none
  hok : HOk P w H s.heap
  bare : AllBare s.gens
def CE (outer : List Env) (P : Program) (w : World) (H : Hp) (s : Shared) (Q : VK) (u : Value) (s' : Shared) : Prop :=
  ∃ v H', s'.os = s.os ∧ AllBare s'.gens ∧ Un (frs outer) [] H H' s.heap s'.heap ∧ HOk P w H' s'.heap ∧ RelV v u ∧ Q v H'
def CR (CX : CXT) (outer : List Env) (P : Program) (w : World) (H : Hp) (s : Shared) (Q : VK) (E : XK) (r : Result) (s' : Shared) : Prop :=
  match r with
  | .ok (.ret u) => CE outer P w H s Q u s'
  | .ok _ => False
  | .error e => CX outer H s E e s'
structure FnOk (P : Program) (w : World) (K : PySem.W.Frag) (mg : Str → Option Value) (base : Heap) (CX : CXT) (k : Nat) (f : Addr) (fd : FuncData) (ps : List Str) (sp : Sp) : Prop where
  len : ∀ vs H Q E, sp vs H Q E → vs.length = ps.length
  run : ∀ (A : Around) (outer : List Env) (s : Shared) (H : Hp) (args : Args) (us : List Value) (vs : List V) (Q : VK) (E : XK), Room k A → Env0 P w K mg base A outer s H → BindsTo s fd args (ps.zip us) → Vals vs us → sp vs H Q E →
    codeAny (model P w) A (.call (.ref f) args) (CR CX outer P w H s Q E) s
theorem FnOk.mono {P : Program} {w : World} {K : PySem.W.Frag} {mg : Str → Option Value} {base : Heap} {CX : CXT} {j k : Nat} {f : Addr} {fd : FuncData} {ps : List Str} {sp : Sp} (F : FnOk P w K mg base CX j f fd ps sp) (h : j ≤ k) :
    FnOk P w K mg base CX k f fd ps sp := ⟨F.len, fun A outer s H args us vs Q E hr => F.run A outer s H args us vs Q E (hr.mono h)⟩
theorem Env0.make {P : Program} {w : World} {K : PySem.W.Frag} {mg : Str → Option Value} {base : Heap} {A : Around} {outer : List Env} {s : Shared} {H : Hp} (e : Env0 P w K mg base A outer s H) (C : Addr) (us : List Value) (kw : List (Str × Value)) :
    Env0 P w K mg base (A.under (.builtin "type.__call__" ⟨.ref C :: us, kw⟩)) outer s H := ⟨by first | exact e.frames | (simpa [Around.under, Code.envs, Code.isFrame, pushEnvs] using e.frames), e.mod, e.bs, e.bsz, e.funs, e.frf, e.hok, e.bare⟩
theorem Env0.in1 {P : Program} {w : World} {K : PySem.W.Frag} {mg : Str → Option Value} {base : Heap} {A : Around} {outer : List Env} {s : Shared} {H : Hp} (e : Env0 P w K mg base A outer s H) :
    Env0 P w K mg base A.in1 outer s H := ⟨e.frames, e.mod, e.bs, e.bsz, e.funs, e.frf, e.hok, e.bare⟩
section
variable {X : Cx} {pins : List (Addr × Obj)} {σ : St} {H : Hp} {s s' : Shared}
theorem Inv.env0 (I : Inv X pins σ H s) : Env0 X.prog X.w X.K X.mg X.base X.A X.stack s H :=
  ⟨I.ok.frames, I.ok.mod, I.bs, Nat.le_trans I.ok.bsz I.sz, I.stack, I.stkFree, I.hok, I.bare⟩
theorem Inv.after {Q : VK} {u : Value} (I : Inv X pins σ H s) (h : CE X.stack X.prog X.w H s Q u s') : EP X pins σ Q u s' := by
  obtain ⟨v, H', os, bare, un, hok, r, q⟩ := h
  obtain ⟨hh, g, d, t, os'⟩ := s'
  obtain rfl : os' = s.os := os
  exact ⟨v, H', I.call (h' := hh) (g' := g) (d' := d) (t' := t) (ch := []) un hok bare (fun b z => absurd z (by simp)), r, q⟩
end
def tCall (sp : Sp) (dvs : List V) (E : XK) (t : TA) : TE := fun σ H Q => t σ H fun vs H1 => sp (vs ++ dvs) H1 Q E
def Binds (K : PySem.W.Frag) (fd : FuncData) (ps : List Str) (ds : List Value) : Prop :=
  ∀ (s : Shared) (us : List Value), K.In s.heap → (us ++ ds).length = ps.length → BindsTo s fd ⟨us, []⟩ (ps.zip (us ++ ds))
theorem Binds.all {K : PySem.W.Frag} {fd : FuncData} {ps : List Str} (h : ∀ us : List Value, us.length = ps.length → bindArgs fd ⟨us, []⟩ = pure (ps.zip us)) : Binds K fd ps [] := fun s us _ hl => by
  rw [List.append_nil] at hl ⊢
  exact .of_eq (h us hl)
def Passes (CX : CXT) (X : Cx) (E : XK) : Prop := ∀ (pins : List (Addr × Obj)) (σ : St) (H : Hp) (s : Shared) (e : Value) (s' : Shared), Inv X pins σ H s → CX X.stack H s E e s' → X.xe e s'
section
variable {X : Cx} {CX : CXT} {k : Nat} {f C : Addr} {fd : FuncData} {ps : List Str} {sp : Sp} {dvs : List V} {ds : List Value} {E : XK} {x m : Str} {p pos apos : Pos} {e o : Expr} {es : List Expr} {ta : TE} {t : TA}
theorem run_fn {pins : List (Addr × Obj)} {σ : St} {H : Hp} {s : Shared} {Q : VK} {us : List Value} {vs : List V} (F : FnOk X.prog X.w X.K X.mg X.base CX k f fd ps sp) (hr : Room k X.A) (hb : Binds X.K fd ps ds) (hd : Vals dvs ds) (hx : Passes CX X E)
    (I : Inv X pins σ H s) (r : Vals vs us) (h : sp (vs ++ dvs) H Q E) : wpAny (model X.prog X.w) X.A (call (.ref f) us) (EP X pins σ Q) X.xe s := by
  have r2 : Vals (vs ++ dvs) (us ++ ds) := r.append hd
  have hl : (us ++ ds).length = ps.length := by rw [← r2.length]; exact F.len _ _ _ _ h
  refine wpAny_call (codeAny_mono (F.run X.A X.stack s H ⟨us, []⟩ (us ++ ds) (vs ++ dvs) Q E hr I.env0 (hb s us I.kIn hl) r2 h) fun r s' hq => ?_)
  cases r with
  | error e => exact hx pins σ H s e s' I hq
  | ok fl =>
    cases fl with
    | ret u => exact I.after hq
    | next => exact False.elim hq
    | brk => exact False.elim hq
    | cont => exact False.elim hq
theorem pe_call (F : FnOk X.prog X.w X.K X.mg X.base CX k f fd ps sp) (hr : Room k X.A) (hg : Gl X x) (hm : X.mg x = some (.ref f)) (hk : PySem.W.keepIn X.K (.ref f) = true) (hb : Binds X.K fd ps ds) (hd : Vals dvs ds) (hx : Passes CX X E)
    (ha : PA X (e :: es) t) (hdb : (x == ("__debug__" : Str)) = false := by decide) (he : starEach (e :: es) X.env = (false, eval e X.env) :: starEach es X.env := by rfl) (hpl : (backTo pos (starEach es X.env)).any (·.1) = false := by rfl) :
    PE X (.Call (.Name x p) (e :: es) [] pos) (tCall sp dvs E t) := by
  intro pins s σ H Q I h
  refine wpAny_Call_Name_kw (ld_glob I hg hm ?_ hdb)
  refine PySem.W.callWith_K (h₀ := X.base) I.ok.mod.kin hk (thn (ha pos pins s σ H _ I h) fun us s1 ⟨vs, H1, I1, r, q⟩ => ⟨I1.kIn, ?_⟩) he hpl
  exact run_fn F hr hb hd hx I1 r q
structure Mk (K : PySem.W.Frag) (C f : Addr) : Prop where
  makes : PySem.W.makesIn K C = true
  init : PySem.W.findIn K (.ref C) "__init__" = some (some (.ref f))
  fn : PySem.W.isFn K (.ref f) = true
  kp : PySem.W.keepIn K (.ref C) = true
end
def PK (X : Cx) (kws : List Keyword) (t : TA) : Prop :=
  ∀ (pos : Pos) (pins : List (Addr × Obj)) (s : Shared) (σ : St) (H : Hp) (Q : List V → Hp → Prop), Inv X pins σ H s → t σ H Q → wpAny (model X.prog X.w) X.A (evalAll ((backToKw pos (keywordEach kws X.env)).map (·.2))) (AP X pins σ Q) X.xe s
section
variable {X : Cx} {CX : CXT} {k : Nat} {f C : Addr} {fd : FuncData} {ps ks : List Str} {sp : Sp} {E : XK} {x m : Str} {p pos apos kpos : Pos} {e o : Expr} {es : List Expr} {kws : List Keyword} {te ta : TE} {t tk : TA} {nm : Option Str}
structure KBinds (K : PySem.W.Frag) (fd : FuncData) (ps ks : List Str) (g : List Value → List Value → List Value) (gV : List V → List V → List V) : Prop where
  to : ∀ (s : Shared) (us ws : List Value), K.In s.heap → (g us ws).length = ps.length → BindsTo s fd ⟨us, ks.zip ws⟩ (ps.zip (g us ws))
  rel : ∀ {vs : List V} {us : List Value} {zs : List V} {ws : List Value}, Vals vs us → Vals zs ws → Vals (gV vs zs) (g us ws)
variable {g : List Value → List Value → List Value} {gV : List V → List V → List V}
end
structure FnScope (N P : List Str) (sc : Scope) : Prop where
  kind : sc.kind = .function
  co : sc.isCoroutine = false
  gen : sc.isGenerator = false
  nd : N.Nodup
  pre : N.take P.length = P
  par : ∀ x ∈ P, sc.names.lookup x = some .local ∨ sc.names.lookup x = some .cell
  nofree : ∀ y ∈ sc.names, y.2 ≠ .free
theorem bindL_out {kindOf : Str → Option NameKind} {x : Str} : ∀ {binds : List (Str × Value)} {m : Str → Option Value}, (∀ v, (x, v) ∉ binds) → bindL kindOf binds m x = m x
  | [], _, _ => rfl
  | (n, v) :: r, m, h => by
    unfold bindL
    rw [bindL_out fun w hw => h w (List.mem_cons_of_mem _ hw)]
    split
    · have : x ≠ n := by rintro rfl; exact h v List.mem_cons_self
      simp [this]
    · rfl
theorem bindC_out {kindOf : Str → Option NameKind} {x : Str} : ∀ {binds : List (Str × Value)} {m : Str → Option Value}, (∀ v, (x, v) ∉ binds) → bindC kindOf binds m x = m x
  | [], _, _ => rfl
  | (n, v) :: r, m, h => by
    unfold bindC
    rw [bindC_out fun w hw => h w (List.mem_cons_of_mem _ hw)]
    split
    · rfl
    · have : x ≠ n := by rintro rfl; exact h v List.mem_cons_self
      simp [this]
theorem bindL_get {kindOf : Str → Option NameKind} {x : Str} {v : Value} : ∀ {P : List Str} {vs : List Value} {i : Nat} {m : Str → Option Value}, P.Nodup → P[i]? = some x → vs[i]? = some v → kindOf x = some .local →
    bindL kindOf (P.zip vs) m x = some v
  | [], _, _, _, _, h, _, _ => by simp at h
  | _ :: _, [], _, _, _, _, h, _ => by simp at h
  | p :: P, w :: vs, 0, m, nd, h1, h2, hk => by
    simp at h1 h2; subst h1; subst h2
    show bindL kindOf ((p, w) :: P.zip vs) m p = _
    unfold bindL
    rw [bindL_out fun v hv => (List.nodup_cons.mp nd).1 (List.of_mem_zip hv).1, if_pos hk]
    simp
  | p :: P, w :: vs, i + 1, m, nd, h1, h2, hk => by
    show bindL kindOf ((p, w) :: P.zip vs) m x = _
    unfold bindL
    exact bindL_get (i := i) (List.nodup_cons.mp nd).2 (by simpa using h1) (by simpa using h2) hk
theorem bindC_get {kindOf : Str → Option NameKind} {x : Str} {v : Value} : ∀ {P : List Str} {vs : List Value} {i : Nat} {m : Str → Option Value}, P.Nodup → P[i]? = some x → vs[i]? = some v → kindOf x ≠ some .local →
    bindC kindOf (P.zip vs) m x = some v
  | [], _, _, _, _, h, _, _ => by simp at h
  | _ :: _, [], _, _, _, _, h, _ => by simp at h
  | p :: P, w :: vs, 0, m, nd, h1, h2, hk => by
    simp at h1 h2; subst h1; subst h2
    show bindC kindOf ((p, w) :: P.zip vs) m p = _
    unfold bindC
    rw [bindC_out fun v hv => (List.nodup_cons.mp nd).1 (List.of_mem_zip hv).1, if_neg hk]
    simp
  | p :: P, w :: vs, i + 1, m, nd, h1, h2, hk => by
    show bindC kindOf ((p, w) :: P.zip vs) m x = _
    unfold bindC
    exact bindC_get (i := i) (List.nodup_cons.mp nd).2 (by simpa using h1) (by simpa using h2) hk
def start (N : List Str) (vs : List V) : St := vs.map some ++ List.replicate (N.length - vs.length) none
def cxOf (CX : CXT) (P : Program) (w : World) (K : PySem.W.Frag) (mg : Str → Option Value) (base : Heap) (N : List Str) (qual : Str) (scope : Scope) (f : Addr) (cd : Value) (A : Around) (outer : List Env) (s : Shared) (H : Hp) (E : XK) : Cx where
  prog := P
  w := w
  K := K
  mg := mg
  base := base
  A := A.deeper (envOfC qual scope s.heap.objs.size f cd)
  N := N
  s₀ := s
  H₀ := H
  env := envOfC qual scope s.heap.objs.size f cd
  outer := outer
  stack := envOfC qual scope s.heap.objs.size f cd :: outer
  ex := []
  calm := true
  fn := fun _ => true
  pn := []
  xe := fun e s' => wpAny (model P w) (A.deeper (envOfC qual scope s.heap.objs.size f cd)) (leaving (envOfC qual scope s.heap.objs.size f cd) e) (fun _ s'' => CX outer H s E e s'') (fun e' s'' => CX outer H s E e' s'') s'
theorem cell_has {sc : Scope} {n : Nat} {x : Str} (h : sc.names.lookup x = some .cell) : ∃ c, (cellsFrom n sc.names []).lookup x = some c := by
  have q := PySem.W.cellsFrom_some sc.names n [] (.inl h)
  exact Option.isSome_iff_exists.mp q
theorem inv_start {CX : CXT} {P : Program} {w : World} {K : PySem.W.Frag} {mg : Str → Option Value} {base : Heap} {N ps : List Str} {qual : Str} {scope : Scope} {f : Addr} {cd : Value} {A : Around} {outer : List Env} {s s1 : Shared} {H : Hp} {E : XK} {us : List Value} {vs : List V}
    (S : FnScope N ps scope) (hd : A.handled = none) (e0 : Env0 P w K mg base A outer s H) (hl : vs.length = ps.length) (r : Vals vs us)
    (x : InCallC s s.heap.objs.size (bindL (envOfC qual scope s.heap.objs.size f cd).kindOf (ps.zip us) fun _ => none) (cellsFrom (s.heap.objs.size + 1) scope.names []) (bindC (envOfC qual scope s.heap.objs.size f cd).kindOf (ps.zip us) fun _ => none) s1) :
    Inv (cxOf CX P w K mg base N qual scope f cd A outer s H E) [] (start N vs) H s1 := by
  have hpl : ps.length ≤ N.length := by have := congrArg List.length S.pre; rw [List.length_take] at this; omega
  obtain ⟨h1, tk, rfl, hk⟩ := x.done
  have noA : ∀ b : Addr, b ∉ (cxOf CX P w K mg base N qual scope f cd A outer s H E).ex := fun b z => absurd (show b ∈ ([] : List Addr) from z) (by simp)
  refine ⟨⟨e0.mod, S.kind, rfl, rfl, Nat.le_refl _, fun y z c h1 h2 => ?_, fun y hy => ?_, fun y c _ h => ?_, fun _ => hd, Around.frames_deeper e0.frames, .inr ⟨rfl, rfl⟩, fun b z => absurd z (noA b), e0.bs, e0.bsz, fun b _ _ => noA b, fun b z => absurd z (noA b), e0.funs, e0.frf⟩,
    rfl, e0.bare, Un.kept hk, ⟨_, x.toInCall.ns, fun i y v h1 h2 h3 => ?_⟩, fun y c h => ⟨_, x.cell y c h⟩, e0.hok.fresh (Nat.le_refl _), fun y c h => ?_, fun p hp => absurd (show p ∈ ([] : List (Addr × Obj)) from hp) (by simp), e0.hok.kept hk, ?_⟩
  · exact name_of_addr x.apart (PySem.mem_of_lookup h1) (PySem.mem_of_lookup h2)
  · have hy : scope.names.lookup y = some .cell ∨ scope.names.lookup y = some .free := hy
    rcases hy with hy | hy
    · exact cell_has hy
    · exact absurd rfl (S.nofree _ (PySem.mem_of_lookup hy))
  · exact Nat.le_of_lt (x.above y c (PySem.mem_of_lookup h))
  · have hi : i < vs.length := by
      unfold start at h2
      by_cases hi : i < vs.length
      · exact hi
      · rw [List.getElem?_append_right (by simpa using hi)] at h2
        rw [List.getElem?_replicate] at h2
        split at h2 <;> cases h2
    have ha : vs[i]? = some v := by
      unfold start at h2
      rw [List.getElem?_append_left (by simpa using hi), List.getElem?_map] at h2
      cases e : vs[i]? with
      | none => rw [e] at h2; cases h2
      | some a => rw [e] at h2; cases h2; rfl
    obtain ⟨u, hu, rv⟩ := r.get ha
    have hp : ps[i]? = some y := by
      rw [← S.pre, List.getElem?_take_of_lt (by omega)]; exact h1
    have ndP : ps.Nodup := by rw [← S.pre]; exact S.nd.sublist (List.take_sublist _ _)
    refine ⟨u, rv, ?_⟩
    rcases S.par y (List.mem_of_getElem? hp) with k | k
    · exact .inl ⟨k, bindL_get ndP hp hu k⟩
    · obtain ⟨c, e⟩ := cell_has (n := s.heap.objs.size + 1) k
      refine .inr ⟨.inl k, c, e, ?_⟩
      have q := x.cell y c e
      rw [bindC_get ndP hp hu (by show scope.names.lookup y ≠ _; rw [k]; decide)] at q
      exact q
  · exact e0.hok.fresh (Nat.le_of_lt (x.above y c (PySem.mem_of_lookup h)))
  · unfold start
    show _ = N.length
    rw [List.length_append, List.length_map, List.length_replicate]
    omega
theorem fn_of {CX : CXT} {P : Program} {w : World} {K : PySem.W.Frag} {mg : Str → Option Value} {base : Heap} {k : Nat} {f : Addr} {name qual : Str} {params : Arguments} {body : List Stmt} {scope : Scope} {dV kV doc pm cdv ct oc : Value} {an od : Option Addr}
    {osl : Array (Option Value)} {N ps : List Str} {sp : Sp} (lk : K.lookup f = some ⟨oc, od, .func (PySem.W.fnOf name qual params body scope dV kV doc pm an cdv ct), osl⟩) (hcd : PySem.W.codeIn K cdv qual = true) (S : FnScope N ps scope)
    (len : ∀ vs H Q E, sp vs H Q E → vs.length = ps.length)
    (hbody : ∀ (A : Around) (outer : List Env) (s : Shared) (H : Hp) (vs : List V) (Q : VK) (E : XK), Room k (A.deeper (envOfC qual scope s.heap.objs.size f cdv)) → sp vs H Q E →
      ∃ t, PSs (cxOf CX P w K mg base N qual scope f cdv A outer s H E) body t ∧ t { nx := fun _ H' => Q .non H', rt := Q } (start N vs) H) :
    FnOk P w K mg base CX (k + 1) f (PySem.W.fnOf name qual params body scope dV kV doc pm an cdv ct) ps sp := by
  refine ⟨len, fun A outer s H args us vs Q E hr e0 hb r hsp => ?_⟩
  have hl := len _ _ _ _ hsp
  have KX : K.In s.heap := e0.mod.kin.keeps fun b o e => (e0.bs b o e).1
  have lim : s.heap.NoLimit := e0.mod.nolimit.keeps fun b o e => (e0.bs b o e).1
  have hkind : ∀ y ∈ ps.zip us, scope.names.lookup y.1 = some .local ∨ (scope.names.lookup y.1 = some .cell ∧ ((cellsFrom (s.heap.objs.size + 1) scope.names []).lookup y.1).isSome = true) := fun ⟨n, v⟩ hy => by
    rcases S.par n (List.of_mem_zip hy).1 with q | q
    · exact .inl q
    · exact .inr ⟨q, PySem.W.cellsFrom_some _ _ _ (.inl q)⟩
  refine codeAny_call_function hr.depth (KX _ _ lk) rfl S.co S.gen rfl (PySem.W.codeRec_of KX hcd) (hb _ _ _ _ ?_)
  refine wpAny_newFunctionEnv_cells S.kind hkind fun env he s1 x => ?_
  subst he
  refine ⟨lim.keeps x.toInCall.keep, codeAny_func ?_⟩
  obtain ⟨t, ht, hq⟩ := hbody A outer s H vs Q E (hr.deeper _) hsp
  have I : Inv (cxOf CX P w K mg base N qual scope f cdv A outer s H E) [] (start N vs) H s1 := inv_start S hr.hd e0 hl r x
  refine wpAny_mono (ht [] s1 (start N vs) H _ I hq) (fun fl s' hs => ?_) fun e s' hs => hs
  have fin : ∀ {σ' : St} {H' : Hp} {v : V} {u : Value}, Inv (cxOf CX P w K mg base N qual scope f cdv A outer s H E) [] σ' H' s' → RelV v u → Q v H' → CE outer P w H s Q u s' :=
    fun {σ' H' v u} J rv q => ⟨v, H', J.os, J.bare, J.base, J.hok, rv, q⟩
  cases fl with
  | ret u =>
    obtain ⟨v, σ', H', J, rv, q⟩ := hs
    exact fin J rv q
  | next =>
    obtain ⟨σ', H', J, q⟩ := hs
    exact fin (v := V.non) (u := Value.none) J rfl q
  | brk =>
    obtain ⟨_, _, _, q⟩ := hs
    exact False.elim q
  | cont =>
    obtain ⟨_, _, _, q⟩ := hs
    exact False.elim q
end L2
namespace L2
open PySem PySem.Spec PyProof.Rows
section
variable {X : Cx} {x : Str} {p pos : Pos} {e : Expr} {es : List Expr} {t : TA} {id T : String} {r : List V → Hp → VK → Prop}
def tCB (r : List V → Hp → VK → Prop) (t : TA) : TE := fun σ H Q => t σ H fun vs H1 => r vs H1 Q
theorem pe_callB (hc : CallR X (.builtin id) r) (hg : Gl X x) (hm : X.mg x = none) (hv : bootBuiltins x = some (.builtin id)) (ha : PA X (e :: es) t) (hn : x ≠ "__name__" := by decide) (hdb : (x == ("__debug__" : Str)) = false := by decide)
    (he : starEach (e :: es) X.env = (false, eval e X.env) :: starEach es X.env := by rfl) (hpl : (backTo pos (starEach es X.env)).any (·.1) = false := by rfl) : PE X (.Call (.Name x p) (e :: es) [] pos) (tCB r t) := by
  intro pins s σ H Q I h
  refine wpAny_Call_Name_kw (ld_blt I hg hm hv ?_ hn hdb)
  exact PyProof.Rows.callWith_builtin1 (thn (ha pos pins s σ H _ I h) fun us s1 ⟨vs, H1, I1, r1, q1⟩ => hc pins s1 σ H1 vs us Q I1 r1 q1) he hpl
theorem pe_callTy (hc : CallR X (.type T) r) (hg : Gl X x) (hm : X.mg x = none) (hv : bootBuiltins x = some (.type T)) (ha : PA X (e :: es) t) (hn : x ≠ "__name__" := by decide) (hdb : (x == ("__debug__" : Str)) = false := by decide)
    (he : starEach (e :: es) X.env = (false, eval e X.env) :: starEach es X.env := by rfl) (hpl : (backTo pos (starEach es X.env)).any (·.1) = false := by rfl) : PE X (.Call (.Name x p) (e :: es) [] pos) (tCB r t) := by
  intro pins s σ H Q I h
  refine wpAny_Call_Name_kw (ld_blt I hg hm hv ?_ hn hdb)
  exact PyProof.Rows.callWith_type1 (thn (ha pos pins s σ H _ I h) fun us s1 ⟨vs, H1, I1, r1, q1⟩ => hc pins s1 σ H1 vs us Q I1 r1 q1) he hpl
end
end L2
namespace HT
open PySem PyProof.Rows
section
open PySem.SeqAt
open PySem.AutoSeq1 (wpAny_loadPart')
open PySem.MeetsSeq PySem.MeetsSeq2 PySem.MeetsSeq3
end
section
variable {prog : Program} {w : World} {A : Around} {E : Value → Shared → Prop} {s : Shared}
theorem cat_tup {t b : Addr} {vs ws : List Value} {Q : Value → Shared → Prop} (ht : IsTup s.heap t vs.toArray) (hb : IsTup s.heap b ws.toArray) (hv : vs ≠ [])
    (h1 : ws = [] → Q (.ref t) s) (h2 : ws ≠ [] → Q (.ref s.heap.objs.size) { s with heap := s.heap.push { cls := .type "tuple", data := .seq (vs ++ ws).toArray } })
    (hsz : vs.length + ws.length ≤ sizeLine) : wpAny (model prog w) A (binaryOp .Add (.ref t) (.ref b)) Q E s := by
  obtain ⟨⟨cls, dd, data, sl⟩, ho, hc, n, hd⟩ := id ht
  obtain ⟨⟨cls2, dd2, data2, sl2⟩, ho2, hc2, n2, hd2⟩ := id hb
  simp only at hc hd hc2 hd2
  subst hc hd hc2 hd2
  have e : vs.toArray ++ ws.toArray = (vs ++ ws).toArray := by simp
  by_cases hw : ws = []
  · exact concat_meets ⟨_, ho, rfl⟩ ⟨_, ho2, rfl⟩ noFill_tuple_add seq_tuple_add PySem.F.slot_tuple_add PySem.F.entry_tuple_add (PySem.F.args_tuple_add_2 _ _)
      (tuple_addW1 t b vs.toArray ws.toArray n n2 dd dd2 sl sl2 (by simpa using hv) (by simp [hw])) ⟨ho, ho2, h1 hw⟩
  · refine concat_meets ⟨_, ho, rfl⟩ ⟨_, ho2, rfl⟩ noFill_tuple_add seq_tuple_add PySem.F.slot_tuple_add PySem.F.entry_tuple_add (PySem.F.args_tuple_add_2 _ _)
      (tuple_addW2 t b vs.toArray ws.toArray n n2 dd dd2 sl sl2 (by simpa using hv) (by simpa using hw) (by rw [List.size_toArray, List.size_toArray]; exact hsz)) ⟨ho, ho2, ?_⟩
    rw [e]
    exact h2 hw
def sIx (n d : Nat) : Option Int → Nat
  | none => d
  | some v => if v < 0 then (v + (n : Int)).toNat else min v.toNat n
theorem sIx_le (n d : Nat) (hd : d ≤ n) (o : Option Int) : sIx n d o ≤ n := by
  cases o with
  | none => exact hd
  | some v =>
    show (if v < 0 then (v + (n : Int)).toNat else min v.toNat n) ≤ n
    by_cases hv : v < 0
    · rw [if_pos hv]; omega
    · rw [if_neg hv]; exact Nat.min_le_right _ _
theorem clip_eq (v : Int) (n d : Nat) : (if v < 0 then max (v + (n : Int)) 0 else min v (n : Int)) = ((sIx n d (some v) : Nat) : Int) := by
  show (if v < 0 then max (v + (n : Int)) 0 else min v (n : Int)) = (((if v < 0 then (v + (n : Int)).toNat else min v.toNat n) : Nat) : Int)
  by_cases hv : v < 0
  · simp only [if_pos hv]; omega
  · simp only [if_neg hv]; omega
theorem adjust_gen (lo hi : Option Int) (n : Nat) : Builtin.Slice.sliceAdjust lo hi 1 (n : Int) = (((sIx n 0 lo : Nat) : Int), ((sIx n n hi : Nat) : Int)) := by
  have h1 : ¬ ((1 : Int) < 0) := by omega
  unfold Builtin.Slice.sliceAdjust
  simp only [h1, if_false]
  refine Prod.ext ?_ ?_
  · cases lo with
    | none => rfl
    | some v => exact clip_eq v n 0
  · cases hi with
    | none => rfl
    | some v => exact clip_eq v n n
theorem places_gen (i j : Nat) : Builtin.Slice.slicePlaces (i : Int) (j : Int) 1 = j - i := by
  unfold Builtin.Slice.slicePlaces
  have h1 : (1 : Int) > 0 := by omega
  simp only [h1, if_true, Int.ediv_one]
  split <;> omega
theorem slicePart_ {v : Value} {o : Option Int} {Q : Option Int → Shared → Prop} (p : IsPart v o) (h : Q o s) : wpAny (model prog w) A (Builtin.Slice.slicePartIndex v) Q E s := by
  cases p with
  | none => exact slicePart_none h
  | int i t => exact slicePart_int h
theorem sliceApplied_gen {sl : Addr} {vl vu : Value} {lo hi : Option Int} {n : Nat} {Q : Int × Int × Nat → Shared → Prop} (hs : s.heap.IsSliceOf sl vl vu .none) (pl : IsPart vl lo) (pu : IsPart vu hi)
    (h : Q (((sIx n 0 lo : Nat) : Int), 1, sIx n n hi - sIx n 0 lo) s) : wpAny (model prog w) A (Builtin.Slice.sliceApplied (.ref sl) (pure (n : Int))) Q E s := by
  obtain ⟨os, hos, hcs, hds⟩ := id hs
  unfold Builtin.Slice.sliceApplied Builtin.Slice.sliceFields
  refine wpAny_bind (wpAny_bind (wpAny_field hos hds (x := vl) rfl (wpAny_bind (wpAny_field hos hds (x := vu) rfl (wpAny_bind (wpAny_field hos hds (x := .none) rfl (wpAny_pure ?_)))))))
  refine wpAny_bind (slicePart_none ?_)
  show wpAny _ _ (if ((1 : Int) == 0) = true then _ else _) _ _ s
  rw [if_neg (by decide)]
  refine wpAny_bind (slicePart_ pl (wpAny_bind (slicePart_ pu (wpAny_bind (wpAny_pure ?_)))))
  show wpAny _ _ (match Builtin.Slice.sliceAdjust lo hi 1 (n : Int) with | (lo, hi) => pure (lo, (1 : Int), Builtin.Slice.slicePlaces lo hi 1)) _ _ s
  rw [adjust_gen lo hi n]
  show wpAny _ _ (pure (((sIx n 0 lo : Nat) : Int), (1 : Int), Builtin.Slice.slicePlaces ((sIx n 0 lo : Nat) : Int) ((sIx n n hi : Nat) : Int) 1)) _ _ s
  rw [places_gen]
  exact wpAny_pure h
theorem pick_gen (xs : Array Value) (i k : Nat) : ((List.range k).filterMap fun (m : Nat) => xs[((i : Int) + (m : Int) * 1).toNat]?).toArray = ((xs.toList.drop i).take k).toArray := by
  have e : (fun (m : Nat) => xs[((i : Int) + (m : Int) * 1).toNat]?) = fun m => xs[i + m]? := by
    funext m
    have : ((i : Int) + (m : Int) * 1).toNat = i + m := by omega
    rw [this]
  rw [e]
  have := pick_run xs i k
  rw [List.filterMap_map] at this
  have e2 : ((fun x => xs[x]?) ∘ fun x => i + x) = fun m => xs[i + m]? := rfl
  rw [e2] at this
  rw [this]
theorem getItem_tuple_cut {t sl : Addr} {items : Array Value} {vl vu : Value} {lo hi : Option Int} {Q : Value → Shared → Prop} (ht : IsTup s.heap t items) (hs : s.heap.IsSliceOf sl vl vu .none) (pl : IsPart vl lo) (pu : IsPart vu hi)
    (hw : ¬ (sIx items.size 0 lo = 0 ∧ sIx items.size items.size hi = items.size))
    (h : Q (.ref s.heap.objs.size) { s with heap := s.heap.push { cls := .type "tuple", data := .seq ((items.toList.drop (sIx items.size 0 lo)).take (sIx items.size items.size hi - sIx items.size 0 lo)).toArray } })
    (hsz : items.size ≤ sizeLine) : wpAny (model prog w) A (getItem (.ref t) (.ref sl)) Q E s := by
  have htake : sizeOk (.seq ((items.toList.drop (sIx items.size 0 lo)).take (sIx items.size items.size hi - sIx items.size 0 lo)).toArray) := by
    show ((items.toList.drop (sIx items.size 0 lo)).take (sIx items.size items.size hi - sIx items.size 0 lo)).toArray.size ≤ sizeLine
    rw [List.size_toArray, List.length_take, List.length_drop, Array.length_toList]
    omega
  have hj : sIx items.size items.size hi ≤ items.size := sIx_le _ _ (Nat.le_refl _) hi
  obtain ⟨os, hos, hcs, hds⟩ := id hs
  have hTs : s.TypeIs (.ref sl) "slice" := ⟨os, hos, hcs⟩
  unfold getItem
  try with_reducible refine wpAny_holding ?_
  first | refine wpAny_bind (wpAny_pure ?_) | skip
  refine wpAny_bind (wpAny_sequenceKey ht.typeIs (by decide) ?_)
  refine wpAny_bind (wpAny_callSpecial?_slot (name := Str.ofString "__getitem__") ht.typeIs PyProof.Rows.slot_tuple_getitem
    (wpAny_call_entry PyProof.Rows.slot_tuple_getitem ht.typeIs entry_tuple_getitem ?_ (args_tuple_getitem _ _)))
  show wpAny _ _ (Builtin.Tuple.tupleItemsOf (.ref t) >>= _) _ _ s
  refine wpAny_bind (tupleItemsOf_ ht ?_)
  refine wpAny_bind (wpAny_typeOf hTs ?_)
  rw [if_pos (by decide)]
  refine wpAny_bind (sliceApplied_gen hs pl pu ?_)
  have hno : ¬ ((((sIx items.size 0 lo : Nat) : Int) == 0 && (1 : Int) == 1 && (sIx items.size items.size hi - sIx items.size 0 lo) == items.size) = true) := by
    intro q
    rw [Bool.and_eq_true, Bool.and_eq_true] at q
    have q1 : ((sIx items.size 0 lo : Nat) : Int) = 0 := eq_of_beq q.1.1
    have q2 : sIx items.size items.size hi - sIx items.size 0 lo = items.size := eq_of_beq q.2
    exact hw ⟨by omega, by omega⟩
  show wpAny _ _ (if (((sIx items.size 0 lo : Nat) : Int) == 0 && (1 : Int) == 1 && (sIx items.size items.size hi - sIx items.size 0 lo) == items.size) = true then _ else _) _ _ s
  rw [if_neg hno, pick_gen]
  first
    | exact wpAny_bind (m := Builtin.Tuple.tupleExact _) (wpAny_newObj_type (wpAny_pure ⟨_, rfl, wpAny_pure h⟩) htake)
    | exact wpAny_bind (m := Builtin.Tuple.tupleExact _) (wpAny_newObj_type (wpAny_bind (wpAny_pure (wpAny_pure ⟨_, rfl, wpAny_pure h⟩))) htake)
    | exact wpAny_bind (wpAny_bind (m := Builtin.Tuple.tupleExact _) (wpAny_newObj_type (wpAny_pure (wpAny_pure ⟨_, rfl, wpAny_pure h⟩)) htake))
    | exact wpAny_bind (wpAny_bind (m := Builtin.Tuple.tupleExact _) (wpAny_newObj_type (wpAny_pure ⟨_, rfl, wpAny_pure h⟩) htake))
end
end HT
namespace L2
open PySem PySem.Spec PyProof.Rows
abbrev TO := St → Hp → (Option Int → Hp → Prop) → Prop
def PO (X : Cx) (e : Option Expr) (t : TO) : Prop :=
  ∀ (pins : List (Addr × Obj)) (s : Shared) (σ : St) (H : Hp) (Q : Option Int → Hp → Prop), Inv X pins σ H s → t σ H Q →
    wpAny (model X.prog X.w) X.A (evalPart e X.env) (fun u s' => ∃ o H', Inv X pins σ H' s' ∧ IsPart u o ∧ Q o H') X.xe s
def tNoPart : TO := fun _ H Q => Q none H
def tPart (t : TE) : TO := fun σ H Q => t σ H fun x H1 => ∃ i, x = .int i ∧ Q (some i) H1
section
variable {X : Cx} {e : Expr} {te : TE} {lo hi : Option Expr} {tl th : TO} {pos p2 : Pos}
theorem po_none : PO X none tNoPart := by
  intro pins s σ H Q I h
  rw [evalPart_none]
  exact wpAny_pure ⟨none, H, I, .none, h⟩
theorem po_some (h : PE X e te) : PO X (some e) (tPart te) := by
  intro pins s σ H Q I hw
  rw [evalPart_some]
  refine thn (h pins s σ H _ I hw) fun u s1 ⟨x, H1, I1, r1, q1⟩ => ?_
  obtain ⟨i, rfl, q⟩ := q1
  obtain ⟨t, rfl⟩ := r1
  exact ⟨some i, H1, I1, .int i t, q⟩
def SlR (X : Cx) (r : V → Option Int → Option Int → Hp → VK → Prop) : Prop :=
  ∀ (pins : List (Addr × Obj)) (s : Shared) (σ : St) (H : Hp) (x : V) (v vl vu : Value) (lo hi : Option Int) (sl : Addr) (Q : VK), Inv X pins σ H s → RelV x v → s.heap.IsSliceOf sl vl vu .none → IsPart vl lo → IsPart vu hi → r x lo hi H Q →
    ∃ T id, typeLookup (.type T) "__getitem__" = pure (some (.builtin id)) ∧ s.TypeIs v T ∧ wpAny (model X.prog X.w) X.A (getItem v (.ref sl)) (EP X pins σ Q) X.xe s
theorem SlR.or {r r' : V → Option Int → Option Int → Hp → VK → Prop} (h : SlR X r) (h' : SlR X r') : SlR X (fun x lo hi H Q => r x lo hi H Q ∨ r' x lo hi H Q) := by
  intro pins s σ H x v vl vu lo hi sl Q I rx hs pl pu q
  rcases q with q | q
  · exact h pins s σ H x v vl vu lo hi sl Q I rx hs pl pu q
  · exact h' pins s σ H x v vl vu lo hi sl Q I rx hs pl pu q
def tSl (r : V → Option Int → Option Int → Hp → VK → Prop) (te : TE) (tl th : TO) : TE := fun σ H Q => te σ H fun x H1 => tl σ H1 fun l H2 => th σ H2 fun u H3 => r x l u H3 Q
theorem pe_slice {r : V → Option Int → Option Int → Hp → VK → Prop} (hr : SlR X r) (he : PE X e te) (hl : PO X lo tl) (hu : PO X hi th) : PE X (.Subscript e (.Slice lo hi none p2) pos) (tSl r te tl th) := by
  intro pins s σ H Q I h
  refine Subscript_ (thn (he pins s σ H _ I h) fun v s1 ⟨x, H1, I1, r1, q1⟩ => ?_)
  refine wpAny_Slice (thn (hl pins s1 σ H1 _ I1 q1) fun vl s2 ⟨l, H2, I2, pl, q2⟩ => thn (hu pins s2 σ H2 _ I2 q2) fun vu s3 ⟨u, H3, I3, pu, q3⟩ => ?_)
  rw [evalPart_none]
  refine wpAny_pure ?_
  have I4 : Inv X pins σ H3 { s3 with heap := s3.heap.push { cls := .type "slice", data := .fields #[vl, vu, .none] } } := I3.kept (t' := s3.toks) fun b ob q => Heap.get?_push_of_some _ q
  obtain ⟨T, id, hT, ht, hg⟩ := hr pins { s3 with heap := s3.heap.push { cls := .type "slice", data := .fields #[vl, vu, .none] } } σ H3 x v vl vu l u s3.heap.objs.size Q I4 r1 (Heap.IsSliceOf.new ..) pl pu q3
  show wpAny (model X.prog X.w) X.A (subscriptTail e (.Slice lo hi none p2) v (.ref s3.heap.objs.size)) (EP X pins σ Q) X.xe { s3 with heap := s3.heap.push { cls := .type "slice", data := .fields #[vl, vu, .none] } }
  exact tail_any (ops := [.ref s3.heap.objs.size, v]) ht hT hg (by with_unfolding_all rfl)
def cutV (xs : List V) (lo hi : Option Int) : List V := (xs.drop (HT.sIx xs.length 0 lo)).take (HT.sIx xs.length xs.length hi - HT.sIx xs.length 0 lo)
theorem cutV_length (xs : List V) (lo hi : Option Int) : (cutV xs lo hi).length ≤ xs.length := by
  unfold cutV
  rw [List.length_take, List.length_drop]
  omega
def rSlT (K : PySem.W.Frag) : V → Option Int → Option Int → Hp → VK → Prop := fun x lo hi H Q => ∃ a xs, x = .ref a ∧ SqT K H a xs ∧
  ¬ (HT.sIx xs.length 0 lo = 0 ∧ HT.sIx xs.length xs.length hi = xs.length) ∧ ∀ p, H p = none → Q (.ref p) (upd H p (.tup (cutV xs lo hi)))
theorem sl_tup : SlR X (rSlT X.K) := by
  intro pins s σ H x v vl vu lo hi sl Q I rx hs pl pu h
  obtain ⟨a, xs, rfl, hx, hw, q⟩ := h
  cases rx
  obtain ⟨its, r, ht, hz⟩ := I.tuple hx
  have hlen : its.toArray.size = xs.length := by rw [List.size_toArray]; exact r.length.symm
  refine ⟨"tuple", _, PyProof.Rows.slot_tuple_getitem.lookup, ht.typeIs, ?_⟩
  refine HT.getItem_tuple_cut ht hs pl pu (by rw [hlen]; exact hw) ?_ (by rw [hlen]; exact hz)
  rw [hlen]
  refine ⟨.ref s.heap.objs.size, _, I.laid (t' := s.toks) (o := .tup (cutV xs lo hi)) (fun b ob q => Heap.get?_push_of_some _ q) (Nat.le_refl _) ?_, rfl, q _ (I.hok.fresh (Nat.le_refl _))⟩
  exact ⟨Nat.le_trans (cutV_length xs lo hi) hz, _, (r.drop (HT.sIx xs.length 0 lo)).take (HT.sIx xs.length xs.length hi - HT.sIx xs.length 0 lo), IsTup.new _ _⟩
def rCatT (K : PySem.W.Frag) : R2 := fun x y H Q => ∃ a b xs ys, x = .ref a ∧ y = .ref b ∧ SqT K H a xs ∧ SqT K H b ys ∧ xs ≠ [] ∧ xs.length + ys.length ≤ sizeLine ∧
  (ys = [] → Q (.ref a) H) ∧ (ys ≠ [] → ∀ p, H p = none → Q (.ref p) (upd H p (.tup (xs ++ ys))))
theorem Vals.nil_iff {xs : List V} {us : List Value} (r : Vals xs us) : us = [] ↔ xs = [] := by
  cases r with
  | nil => simp
  | cons _ _ => simp
theorem op_catT : OpR X (binaryOp .Add) (rCatT X.K) := by
  intro pins s σ H x y v u Q I rx ry h
  obtain ⟨a, b, xs, ys, rfl, rfl, ha, hb, hx, hz, q1, q2⟩ := h
  cases rx
  cases ry
  obtain ⟨its, r1, p1, _⟩ := I.tuple ha
  obtain ⟨its2, r2, p2, _⟩ := I.tuple hb
  refine HT.cat_tup p1 p2 (fun z => hx (r1.nil_iff.mp z)) (fun z => ⟨.ref a, H, I, rfl, q1 (r2.nil_iff.mp z)⟩) (fun z => ?_) (by rw [← r1.length, ← r2.length]; exact hz)
  refine ⟨.ref s.heap.objs.size, _, I.laid (t' := s.toks) (o := .tup (xs ++ ys)) (fun b ob q => Heap.get?_push_of_some _ q) (Nat.le_refl _) ?_, rfl, q2 (fun w => z (r2.nil_iff.mpr w)) _ (I.hok.fresh (Nat.le_refl _))⟩
  exact ⟨by rw [List.length_append]; exact hz, _, r1.append r2, IsTup.new _ _⟩
end
end L2
namespace L2
open PySem PySem.Spec PyProof.Rows
def ixN (n : Nat) (i : Int) : Option Nat := if 0 ≤ i then (if i < n then some i.toNat else none) else if -(n : Int) ≤ i then some (i + n).toNat else none
def atI {α : Type} (xs : List α) (i : Int) : Option α := (ixN xs.length i).bind fun j => xs[j]?
theorem ixN_seq {n : Nat} {i : Int} {j : Nat} (h : ixN n i = some j) : seqIndex? i n = some j ∧ j < n ∧ -(n : Int) ≤ i ∧ i < n := by
  unfold ixN at h
  by_cases h0 : 0 ≤ i
  · rw [if_pos h0] at h
    by_cases h1 : i < n
    · rw [if_pos h1] at h
      have e : i.toNat = j := Option.some.inj h
      exact ⟨by rw [seqIndex_of h0 h1, e], by omega, by omega, h1⟩
    · rw [if_neg h1] at h; cases h
  · rw [if_neg h0] at h
    by_cases h1 : -(n : Int) ≤ i
    · rw [if_pos h1] at h
      have e : (i + n).toNat = j := Option.some.inj h
      exact ⟨by rw [seqIndex_neg (by omega) h1, e], by omega, h1, by omega⟩
    · rw [if_neg h1] at h; cases h
theorem atI_get {α : Type} {xs : List α} {i : Int} {v : α} (h : atI xs i = some v) : ∃ j, seqIndex? i xs.length = some j ∧ xs[j]? = some v ∧ j < xs.length ∧ -(xs.length : Int) ≤ i ∧ i < xs.length := by
  unfold atI at h
  cases e : ixN xs.length i with
  | none => rw [e] at h; cases h
  | some j =>
    rw [e] at h
    obtain ⟨h1, h2, h3, h4⟩ := ixN_seq e
    exact ⟨j, h1, h, h2, h3, h4⟩
theorem atI_nat {α : Type} {xs : List α} {j : Nat} {v : α} (h : xs[j]? = some v) : atI xs (j : Int) = some v := by
  have hj : j < xs.length := (List.getElem?_eq_some_iff.mp h).1
  have e : ixN xs.length (j : Int) = some j := by
    unfold ixN
    rw [if_pos (by omega), if_pos (by omega)]; simp
  unfold atI; rw [e]; exact h
def PlainIx (b : Expr) : Prop := ∀ o i, subscripted b false o i = operate [o, i] (getItem o i)
def IxR (X : Cx) (r : R2) : Prop :=
  ∀ (value slice : Expr) (pins : List (Addr × Obj)) (s : Shared) (σ : St) (H : Hp) (x y : V) (v u : Value) (Q : VK), Inv X pins σ H s → RelV x v → RelV y u → r x y H Q →
    subscripted slice false v u = operate [v, u] (getItem v u) → wpAny (model X.prog X.w) X.A (subscriptTail value slice v u) (EP X pins σ Q) X.xe s
def MtR (X : Cx) (id : String) (r : V → List V → Hp → VK → Prop) : Prop :=
  ∀ (pins : List (Addr × Obj)) (s : Shared) (σ : St) (H : Hp) (x : V) (xs : List V) (v : Value) (us : List Value) (Q : VK), Inv X pins σ H s → RelV x v → Vals xs us → r x xs H Q →
    wpAny (model X.prog X.w) X.A (call (.builtin id) (v :: us)) (EP X pins σ Q) X.xe s
section
variable {X : Cx} {a b : Expr} {ta tb : TE} {pos : Pos}
theorem IxR.or {r r' : R2} (h : IxR X r) (h' : IxR X r') : IxR X (fun x y H Q => r x y H Q ∨ r' x y H Q) := by
  intro value slice pins s σ H x y v u Q I rx ry q hs
  rcases q with q | q
  · exact h value slice pins s σ H x y v u Q I rx ry q hs
  · exact h' value slice pins s σ H x y v u Q I rx ry q hs
theorem MtR.or {id : String} {r r' : V → List V → Hp → VK → Prop} (h : MtR X id r) (h' : MtR X id r') : MtR X id (fun x xs H Q => r x xs H Q ∨ r' x xs H Q) := by
  intro pins s σ H x xs v us Q I rx rs q
  rcases q with q | q
  · exact h pins s σ H x xs v us Q I rx rs q
  · exact h' pins s σ H x xs v us Q I rx rs q
theorem pe_ix {r : R2} (hr : IxR X r) (ha : PE X a ta) (hb : PE X b tb) (hs : PlainIx b) : PE X (.Subscript a b pos) (tOp r ta tb) := by
  intro pins s σ H Q I h
  exact Subscript_ (binT ha hb I h fun v u s2 x y H2 I2 rx ry q => hr a b pins s2 σ H2 x y v u Q I2 rx ry q (hs _ _))
def rIxL (K : PySem.W.Frag) : R2 := fun x y H Q => ∃ p xs i v, x = .ref p ∧ y = .int i ∧ SqL K H p xs ∧ atI xs i = some v ∧ Q v H
def rIxT (K : PySem.W.Frag) : R2 := fun x y H Q => ∃ p xs i v, x = .ref p ∧ y = .int i ∧ SqT K H p xs ∧ atI xs i = some v ∧ Q v H
theorem ix_list : IxR X (rIxL X.K) := by
  intro value slice pins s σ H x y v u Q I rx ry h hs
  obtain ⟨p, xs, i, z, rfl, rfl, hq, he, q⟩ := h
  cases rx
  obtain ⟨t, rfl⟩ := ry
  obtain ⟨its, r, pl, hz⟩ := I.list hq
  obtain ⟨j, h1, h2, h3, h4, h5⟩ := atI_get he
  obtain ⟨w, ew, rw'⟩ := r.get h2
  have hl := r.length
  have hn := line63
  have fin : EP X pins σ Q w s := ⟨z, H, I, rw', q⟩
  by_cases h0 : 0 ≤ i
  · have hj : i.toNat = j := by
      rw [seqIndex_of h0 h5] at h1
      exact Option.some.inj h1
    exact item_listR pl.isList h0 (by omega) (by rw [hj]; simpa using ew) fin hs
  · have hj : (i + (its.toArray.size : Int)).toNat = j := by
      rw [seqIndex_neg (by omega) h4] at h1
      rw [List.size_toArray, ← hl]
      exact Option.some.inj h1
    exact subscriptTail_builtinR (x := w) pl.isList.typeIs slot_list_getitem.lookup
      (wpAny_getItem_list_neg (Q := fun r s' => r = w ∧ EP X pins σ Q r s') pl.isList (by omega) (by rw [List.size_toArray] <;> omega) (by omega) (by rw [hj]; simpa using ew) ⟨rfl, fin⟩) hs
theorem ix_tup : IxR X (rIxT X.K) := by
  intro value slice pins s σ H x y v u Q I rx ry h hs
  obtain ⟨p, xs, i, z, rfl, rfl, hq, he, q⟩ := h
  cases rx
  obtain ⟨t, rfl⟩ := ry
  obtain ⟨its, r, pl, hz⟩ := I.tuple hq
  obtain ⟨j, h1, h2, h3, h4, h5⟩ := atI_get he
  obtain ⟨w, ew, rw'⟩ := r.get h2
  have hl := r.length
  have hn := line63
  have fin : EP X pins σ Q w s := ⟨z, H, I, rw', q⟩
  exact subscriptTail_builtinR (x := w) pl.typeIs slot_tuple_getitem.lookup
    (getItem_tuple (j := j) (Q := fun r s' => r = w ∧ EP X pins σ Q r s') pl (by omega) (by omega) (by rw [List.size_toArray, ← hl]; exact h1) (by simpa using ew) ⟨rfl, fin⟩) hs
theorem mapSeq_set (its : List Value) (n j : Nat) (u : Value) : Obj.mapSeq (·.setIfInBounds j u) { cls := .type "list", data := .seq its.toArray n } = { cls := .type "list", data := .seq (its.set j u).toArray n } := by
  simp [Obj.mapSeq]
theorem Inv.lst {pins : List (Addr × Obj)} {σ : St} {H : Hp} {s : Shared} {p : Addr} {xs : List V} (I : Inv X pins σ H s) (h : H p = some (.lst xs)) :
    ∃ (its : List Value) (n : Nat), Vals xs its ∧ s.heap.get? p = some { cls := .type "list", data := .seq its.toArray n } ∧ xs.length ≤ sizeLine := by
  obtain ⟨z, its, n, r, e⟩ := I.hok p _ h
  exact ⟨its, n, r, e, z⟩
theorem Inv.lstUpd {pins : List (Addr × Obj)} {σ : St} {H : Hp} {s : Shared} {p : Addr} {xs ys : List V} {its its' : List Value} {n n' : Nat} {f : Obj → Obj} (I : Inv X pins σ H s) (h : H p = some (.lst xs))
    (ho : s.heap.get? p = some { cls := .type "list", data := .seq its.toArray n }) (hf : f { cls := .type "list", data := .seq its.toArray n } = { cls := .type "list", data := .seq its'.toArray n' }) (r : Vals ys its') (hz : ys.length ≤ sizeLine) (t : Nat) :
    Inv X pins σ (upd H p (.lst ys)) { s with heap := s.heap.update p f, toks := t } := by
  have e : (s.heap.update p f).get? p = some { cls := .type "list", data := .seq its'.toArray n' } := by
    rw [Heap.get?_update_self f ho (by rw [hf] <;> rfl), hf]
  refine I.write (x := p) (e := p) (by rw [h]; trivial) (.inl rfl) (fun b u hb q => (Heap.get?_update_other _ _ (Ne.symm hb)).trans q) ⟨_, e⟩ ?_
  exact ⟨hz, its', n', r, e⟩
def rSetL : V → V → V → Hp → (Hp → Prop) → Prop := fun o i v H Q => ∃ p xs k j, o = .ref p ∧ i = .int k ∧ H p = some (.lst xs) ∧ ixN xs.length k = some j ∧ Q (upd H p (.lst (xs.set j v)))
theorem set_list : PSet X rSetL := by
  intro pins s σ H o i v ov iv u Q I ro ri rv h
  obtain ⟨p, xs, k, j, rfl, rfl, hp, hj, q⟩ := h
  cases ro
  obtain ⟨t, rfl⟩ := ri
  obtain ⟨its, n, r, ho, hz⟩ := I.lst hp
  obtain ⟨h1, h2, h3, h4⟩ := ixN_seq hj
  have hl := r.length
  have hn := line63
  have I' : Inv X pins σ (upd H p (.lst (xs.set j v))) { s with heap := s.heap.update p (Obj.mapSeq (·.setIfInBounds j u)) } :=
    I.lstUpd hp ho (mapSeq_set its n j u) (r.set rv j) (by rw [List.length_set]; exact hz) s.toks
  by_cases h0 : 0 ≤ k
  · have hk : k.toNat = j := by
      rw [seqIndex_of h0 h4] at h1
      exact Option.some.inj h1
    exact PySem.W.ki_setAt ho h0 (by omega) (by rw [List.size_toArray, ← hl]; exact h4) (by rw [hk]; exact ⟨_, I', q⟩)
  · have hk : (k + (its.toArray.size : Int)).toNat = j := by
      rw [seqIndex_neg (by omega) h3] at h1
      rw [List.size_toArray, ← hl]
      exact Option.some.inj h1
    exact PySem.W.ki_setBack ho (by omega) (by rw [List.size_toArray, ← hl]; exact h3) (by omega) (by rw [hk]; exact ⟨_, I', q⟩)
theorem slice_bounds (lo hi : Option Int) (n : Nat) : (sliceBounds lo hi none n).1 = ((HT.sIx n 0 lo : Nat) : Int) ∧ (sliceBounds lo hi none n).2.1 = ((HT.sIx n n hi : Nat) : Int) ∧ (sliceBounds lo hi none n).2.2 = 1 := by
  refine ⟨?_, ?_, rfl⟩
  · cases lo with
    | none => simp [sliceBounds, HT.sIx]
    | some i =>
      simp only [sliceBounds, HT.sIx, Option.getD_none, show (1 : Int) > 0 by decide, if_true]
      by_cases h : i < 0
      · simp only [h, if_true] <;> omega
      · simp only [h, if_false] <;> omega
  · cases hi with
    | none => simp [sliceBounds, HT.sIx]
    | some i =>
      simp only [sliceBounds, HT.sIx, Option.getD_none, show (1 : Int) > 0 by decide, if_true]
      by_cases h : i < 0
      · simp only [h, if_true] <;> omega
      · simp only [h, if_false] <;> omega
theorem slicePick_cut (its : List Value) (lo hi : Option Int) : slicePick its.toArray lo hi none = ((its.drop (HT.sIx its.length 0 lo)).take (HT.sIx its.length its.length hi - HT.sIx its.length 0 lo)).toArray := by
  obtain ⟨h1, h2, h3⟩ := slice_bounds lo hi its.toArray.size
  unfold slicePick
  rw [h1, h2, h3]
  simp only [sliceRange_one, pick_run, List.size_toArray] <;> rfl
def flatV : V → Bool
  | .non => true
  | .bl _ => true
  | .int _ => true
  | .str _ => true
  | _ => false
def eqV : V → V → Bool
  | .non, .non => true
  | .bl a, .bl b => a == b
  | .bl a, .int b => (if a then 1 else 0) == b
  | .int a, .bl b => a == (if b then 1 else 0)
  | .int a, .int b => a == b
  | .str a, .str b => a == b
  | _, _ => false
theorem eqAt_V {A : Around} {s : Shared} {y x : V} {u v : Value} (ry : RelV y u) (rx : RelV x v) (fy : flatV y = true) (fx : flatV x = true) : SeqAt.EqAt A s u v (eqV y x) := by
  cases y with
  | non =>
    cases ry
    cases x with
    | non => cases rx; exact SeqAt.EqAt.same _
    | bl b => cases rx; exact SeqAt.EqAt.none_bool b
    | int b => obtain ⟨t, rfl⟩ := rx; exact SeqAt.EqAt.none_int b t
    | str b => obtain ⟨t, rfl⟩ := rx; exact SeqAt.EqAt.none_str b t
    | _ => exact absurd (show false = true from fx) Bool.false_ne_true
  | bl a =>
    cases ry
    cases x with
    | non => cases rx; exact SeqAt.EqAt.bool_none a
    | bl b => cases rx; exact SeqAt.EqAt.bool_bool a b
    | int b => obtain ⟨t, rfl⟩ := rx; exact SeqAt.EqAt.bool_int a b t
    | str b => obtain ⟨t, rfl⟩ := rx; exact SeqAt.EqAt.bool_str a b t
    | _ => exact absurd (show false = true from fx) Bool.false_ne_true
  | int a =>
    obtain ⟨t', rfl⟩ := ry
    cases x with
    | non => cases rx; exact SeqAt.EqAt.int_none a t'
    | bl b => cases rx; exact SeqAt.EqAt.int_bool a t' b
    | int b => obtain ⟨t, rfl⟩ := rx; exact SeqAt.EqAt.int_int a t' b t
    | str b => obtain ⟨t, rfl⟩ := rx; exact SeqAt.EqAt.int_str a t' b t
    | _ => exact absurd (show false = true from fx) Bool.false_ne_true
  | str a =>
    obtain ⟨t', rfl⟩ := ry
    cases x with
    | non => cases rx; exact SeqAt.EqAt.str_none a t'
    | bl b => cases rx; exact SeqAt.EqAt.str_bool a t' b
    | int b => obtain ⟨t, rfl⟩ := rx; exact SeqAt.EqAt.str_int a t' b t
    | str b => obtain ⟨t, rfl⟩ := rx; exact SeqAt.EqAt.str_str a t' b t
    | _ => exact absurd (show false = true from fx) Bool.false_ne_true
  | _ => exact absurd (show false = true from fy) Bool.false_ne_true
def eqU (x : V) (u : Value) : Bool := match u with
  | .none => eqV .non x
  | .bool b => eqV (.bl b) x
  | .int i _ => eqV (.int i) x
  | .str z _ => eqV (.str z) x
  | _ => false
theorem eqU_of {x y : V} {u : Value} (r : RelV y u) (f : flatV y = true) : eqU x u = eqV y x := by
  cases y with
  | non => cases r; rfl
  | bl b => cases r; rfl
  | int i => obtain ⟨t, rfl⟩ := r; rfl
  | str z => obtain ⟨t, rfl⟩ := r; rfl
  | _ => exact absurd (show false = true from f) Bool.false_ne_true
theorem any_eqU {x : V} : ∀ {xs : List V} {us : List Value}, Vals xs us → xs.all flatV = true → us.any (eqU x) = xs.any fun y => eqV y x
  | _, _, .nil, _ => rfl
  | y :: xs, u :: us, .cons r t, f => by
    rw [List.all_cons, Bool.and_eq_true] at f
    rw [List.any_cons, List.any_cons, eqU_of r f.1, any_eqU t f.2]
theorem mem_eqAt {A : Around} {s : Shared} {x : V} {v : Value} (rx : RelV x v) (fx : flatV x = true) : ∀ {xs : List V} {us : List Value}, Vals xs us → xs.all flatV = true → ∀ u ∈ us, SeqAt.EqAt A s u v (eqU x u)
  | _, _, .nil, _ => fun u hu => by cases hu
  | y :: xs, u :: us, .cons r t, f => fun u' hu => by
    rw [List.all_cons, Bool.and_eq_true] at f
    rcases List.mem_cons.mp hu with rfl | hu
    · rw [eqU_of r f.1]; exact eqAt_V r rx f.1 fx
    · exact mem_eqAt rx fx t f.2 u' hu
def inV (x : V) (xs : List V) : Bool := xs.any fun y => eqV y x
def rIn (K : PySem.W.Frag) (neg : Bool) : R2 := fun x y H Q => ∃ p xs, y = .ref p ∧ (SqL K H p xs ∨ SqT K H p xs) ∧ flatV x = true ∧ xs.all flatV = true ∧ Q (.bl (if neg then !inV x xs else inV x xs)) H
theorem op_in_seq : OpR X (compareOp .In) (rIn X.K false) := by
  intro pins s σ H x y v u Q I rx ry h
  obtain ⟨p, xs, rfl, hq, fx, fs, q⟩ := h
  cases ry
  rcases hq with hq | hq
  · obtain ⟨its, r, pl, hz⟩ := I.list hq
    refine SeqAt.in_listAt (eqU x) pl.isList (fun w hw => mem_eqAt rx fx r fs w (by simpa using hw)) ⟨.bl _, H, I, rfl, ?_⟩
    rw [show its.toArray.any (eqU x) = its.any (eqU x) by simp, any_eqU r fs]
    exact q
  · obtain ⟨its, r, pl, hz⟩ := I.tuple hq
    refine SeqAt.in_tupleAt (eqU x) pl (fun w hw => mem_eqAt rx fx r fs w (by simpa using hw)) ⟨.bl _, H, I, rfl, ?_⟩
    rw [show its.toArray.any (eqU x) = its.any (eqU x) by simp, any_eqU r fs]
    exact q
theorem op_notIn_seq : OpR X (compareOp .NotIn) (rIn X.K true) := by
  intro pins s σ H x y v u Q I rx ry h
  obtain ⟨p, xs, rfl, hq, fx, fs, q⟩ := h
  cases ry
  rcases hq with hq | hq
  · obtain ⟨its, r, pl, hz⟩ := I.list hq
    refine SeqAt.notIn_listAt (eqU x) pl.isList (fun w hw => mem_eqAt rx fx r fs w (by simpa using hw)) ⟨.bl _, H, I, rfl, ?_⟩
    rw [show its.toArray.any (eqU x) = its.any (eqU x) by simp, any_eqU r fs]
    exact q
  · obtain ⟨its, r, pl, hz⟩ := I.tuple hq
    refine SeqAt.notIn_tupleAt (eqU x) pl (fun w hw => mem_eqAt rx fx r fs w (by simpa using hw)) ⟨.bl _, H, I, rfl, ?_⟩
    rw [show its.toArray.any (eqU x) = its.any (eqU x) by simp, any_eqU r fs]
    exact q
theorem call_len_seq : CallR X (.builtin "len") (fun xs H Q => ∃ p ys, xs = [.ref p] ∧ (SqL X.K H p ys ∨ SqT X.K H p ys) ∧ Q (.int ys.length) H) := by
  intro pins s σ H xs us Q I r h
  obtain ⟨p, ys, rfl, hq, q⟩ := h
  obtain ⟨u, rfl, rx⟩ := vals1 r
  cases rx
  have hn := line63
  rcases hq with hq | hq
  · obtain ⟨its, r', pl, hz⟩ := I.list hq
    have hlen := r'.length
    exact Calls.call_len_list pl.isList (by simp only [List.size_toArray] <;> omega) ⟨.int ys.length, H, I.tok _, ⟨s.toks + 1, by rw [List.size_toArray, hlen]⟩, q⟩
  · obtain ⟨its, r', pl, hz⟩ := I.tuple hq
    have hlen := r'.length
    exact len_tuple pl (by simp only [List.size_toArray] <;> omega) ⟨.int ys.length, H, I.tok _, ⟨s.toks + 1, by rw [List.size_toArray, hlen]⟩, q⟩
theorem CallR.or {f : Value} {r r' : List V → Hp → VK → Prop} (h : CallR X f r) (h' : CallR X f r') : CallR X f (fun xs H Q => r xs H Q ∨ r' xs H Q) := by
  intro pins s σ H xs us Q I rs q
  rcases q with q | q
  · exact h pins s σ H xs us Q I rs q
  · exact h' pins s σ H xs us Q I rs q
theorem call_list_of : CallR X (.type "list") (fun xs H Q => ∃ p ys, xs = [.ref p] ∧ (SqL X.K H p ys ∨ SqT X.K H p ys) ∧ ∀ l, H l = none → Q (.ref l) (upd H l (.lst ys))) := by
  intro pins s σ H xs us Q I r h
  obtain ⟨p, ys, rfl, hq, q⟩ := h
  obtain ⟨u, rfl, rx⟩ := vals1 r
  cases rx
  have fin : ∀ (its : List Value), Vals ys its → ys.length ≤ sizeLine → ∀ (h' : Heap) (c' : Nat), (∀ b o', s.heap.get? b = some o' → h'.get? b = some o') →
      h'.get? s.heap.objs.size = some { cls := .type "list", dict := none, data := .seq its.toArray c', slots := #[] } → EP X pins σ Q (.ref s.heap.objs.size) { s with heap := h' } := fun its r' hz h' c' kp e =>
    ⟨.ref s.heap.objs.size, _, I.laid (t' := s.toks) kp (Nat.le_refl _) (show ObjOk X.prog X.w _ h' _ (.lst ys) from ⟨hz, its, c', r', e⟩), rfl, q _ (I.hok.fresh (Nat.le_refl _))⟩
  rcases hq with hq | hq
  · obtain ⟨its, r', pl, hz⟩ := I.list hq
    have hlen := r'.length
    obtain ⟨o, ho, hc, n, hd⟩ := pl.isList
    exact call_list_seq p (.inl rfl) ho hc hd (fun h' c' kp e => fin its r' hz h' c' kp e) (by simp only [List.size_toArray] <;> omega)
  · obtain ⟨its, r', pl, hz⟩ := I.tuple hq
    have hlen := r'.length
    obtain ⟨o, ho, hc, n, hd⟩ := pl
    exact call_list_seq p (.inr rfl) ho hc hd (fun h' c' kp e => fin its r' hz h' c' kp e) (by simp only [List.size_toArray] <;> omega)
def tyV (K : PySem.W.Frag) (T : String) (x : V) (H : Hp) : Prop := match x with
  | .str _ => T = "str"
  | .int _ => T = "int"
  | .ref p => (T = "list" ∧ ∃ xs, SqL K H p xs) ∨ (T = "tuple" ∧ ∃ o, K.lookup p = some o ∧ o.cls = .type "tuple" ∧ o.dict = none) ∨
      (T = "dict" ∧ ((∃ kvs, H p = some (.dK kvs)) ∨ ∃ kvs, H p = some (.dT kvs))) ∨ (T = "set" ∧ ∃ S n, H p = some (.set S n))
  | _ => False
theorem tyV_is {pins : List (Addr × Obj)} {σ : St} {H : Hp} {s : Shared} {T : String} {x : V} {v : Value} (I : Inv X pins σ H s) (r : RelV x v) (ty : tyV X.K T x H) :
    s.TypeIs v T ∧ ∀ a, v = .ref a → ∃ ob, s.heap.get? a = some ob ∧ ob.dict = none := by
  cases x with
  | str z =>
    obtain ⟨t, rfl⟩ := r
    cases (show T = "str" from ty)
    exact ⟨typeIs_str s z t, fun _ e => nomatch e⟩
  | int i =>
    obtain ⟨t, rfl⟩ := r
    cases (show T = "int" from ty)
    exact ⟨typeIs_int s i t, fun _ e => nomatch e⟩
  | ref p =>
    cases r
    rcases ty with ⟨rfl, xs, hq⟩ | ⟨rfl, o, hk, hc, hd⟩ | ⟨rfl, hk⟩ | ⟨rfl, S, n, hk⟩
    · obtain ⟨its, _, pl, _⟩ := I.list hq
      refine ⟨pl.isList.typeIs, fun a e => ?_⟩
      cases e
      obtain ⟨o, n, e, c, hd, _⟩ := pl
      exact ⟨o, e, hd⟩
    · refine ⟨⟨o, I.kIn p o hk, hc⟩, fun a e => ?_⟩
      cases e
      exact ⟨o, I.kIn _ o hk, hd⟩
    · have z : ∃ o, s.heap.get? p = some o ∧ o.ExactDict := by
        rcases hk with ⟨kvs, hk⟩ | ⟨kvs, hk⟩
        · obtain ⟨_, _, _, _, o, _, _, e, ex, _⟩ := I.hok p _ hk
          exact ⟨o, e, ex⟩
        · obtain ⟨_, _, _, _, o, _, _, e, ex, _⟩ := I.hok p _ hk
          exact ⟨o, e, ex⟩
      obtain ⟨o, e, ex⟩ := z
      refine ⟨⟨o, e, ex.1⟩, fun a e2 => ?_⟩
      cases e2
      exact ⟨o, e, ex.2.1⟩
    · obtain ⟨o, _, _, _, e, ex, _⟩ := I.hok p _ hk
      refine ⟨⟨o, e, ex.1⟩, fun a e2 => ?_⟩
      cases e2
      exact ⟨o, e, ex.2.1⟩
  | _ => exact False.elim ty
def tBM (K : PySem.W.Frag) (T : String) (r : V → List V → Hp → VK → Prop) (to : TE) (t : TA) : TE := fun σ H Q => to σ H fun x H1 => tyV K T x H1 ∧ t σ H1 fun xs H2 => r x xs H2 Q
variable {o e : Expr} {es : List Expr} {to : TE} {t : TA} {name : Str} {apos cpos : Pos} {T id : String} {r : V → List V → Hp → VK → Prop}
theorem pe_bm (pa : PlainAttrs T) (slot : Slot T name id) (hty : typeOf (.builtin id) = pure (.type "method_descriptor")) (hm : MtR X id r) (ho : PE X o to) (ha : PA X (e :: es) t)
    (hbase : attributeBase o name X.env (eval o X.env) = eval o X.env := by rfl)
    (hfew : ((backTo cpos (starEach (e :: es) X.env)).all (fun x => !x.1) && (backToKw cpos (keywordEach [] X.env)).all (fun x => x.1.isSome)
      && decide ((e :: es).length + ([] : List Keyword).length + (if ([] : List Keyword).isEmpty then 0 else 1) < 30)) = true := by rfl)
    (hline : (apos.endLine == cpos.line) = true := by rfl) (hs : starEach (e :: es) X.env = (false, eval e X.env) :: starEach es X.env := by rfl) (hplain : (backTo cpos (starEach es X.env)).any (·.1) = false := by rfl) :
    PE X (.Call (.Attribute o name apos) (e :: es) [] cpos) (tBM X.K T r to t) := by
  intro pins s σ H Q I h
  refine wpAny_Call_method_late hbase hfew hline rfl (thn (ho pins s σ H _ I h) fun v s1 ⟨x, H1, I1, r1, ty, q1⟩ => ?_)
  obtain ⟨h1, h2⟩ := tyV_is I1 r1 ty
  refine ⟨T, id, pa, slot, hty, h1, h2, ?_⟩
  have hA := ha cpos pins s1 σ H1 _ I1 q1
  rw [hs] at hA ⊢
  refine Calls.callWith_builtin (by show (false || (backTo cpos (starEach es X.env)).any (·.1)) = false; rw [hplain] <;> rfl) (Calls.evalArgs_plain ?_)
  exact thn hA fun us s2 ⟨vs, H2, I2, r2, q2⟩ => hm pins s2 σ H2 x vs v us Q I2 r1 r2 q2
end
end L2
namespace L2
open PySem PySem.Spec PyProof.Rows
def MtM (X : Cx) (id : String) (r : V → List V → Hp → VK → Prop) : Prop :=
  ∀ (pins : List (Addr × Obj)) (s : Shared) (σ : St) (H : Hp) (x : V) (xs : List V) (v : Value) (us : List Value) (Q : VK), Inv X pins σ H s → RelV x v → Vals xs us → r x xs H Q →
    wpAny (model X.prog X.w) X.A (call (.builtin id) (v :: us)) (EP X pins σ Q) X.xe s
theorem Vals.one : ∀ {x : V} {us : List Value}, Vals [x] us → ∃ u, us = [u] ∧ RelV x u
  | _, _, .cons r .nil => ⟨_, rfl, r⟩
section
variable {X : Cx} {pins : List (Addr × Obj)} {σ : St} {H : Hp} {s : Shared} {l b : Addr} {xs ys zs : List V}
theorem Inv.lnew {its : List Value} {t' : Nat} (I : Inv X pins σ H s) (hv : Vals ys its) (hz : ys.length ≤ sizeLine) :
    Inv X pins σ (upd H s.heap.objs.size (.lst ys)) { s with heap := s.heap.push { cls := .type "list", data := .seq its.toArray }, toks := t' } :=
  I.laid (fun _ _ q => Heap.get?_push_of_some _ q) (Nat.le_refl _) ⟨hz, its, 0, hv, Heap.get?_push_size _ rfl⟩
theorem Inv.fresh (I : Inv X pins σ H s) : H s.heap.objs.size = none := I.hok.fresh (Nat.le_refl _)
theorem Inv.lstM (I : Inv X pins σ H s) (hH : H l = some (.lst xs)) : xs.length ≤ sizeLine ∧ ∃ (its : List Value) (n : Nat), Vals xs its ∧ xs.length = its.length ∧ s.heap.get? l = some { cls := .type "list", data := .seq its.toArray n } := by
  obtain ⟨z, its, n, r, e⟩ := I.hok l _ hH
  exact ⟨z, its, n, r, r.length, e⟩
end
section
variable {X : Cx}
def rAppend : V → List V → Hp → VK → Prop := fun x vs H Q => ∃ l xs y, x = .ref l ∧ vs = [y] ∧ H l = some (.lst xs) ∧ xs.length < sizeLine ∧ Q .non (upd H l (.lst (xs ++ [y])))
end
section
variable {prog : Program} {w : World} {A : Around} {E : Value → Shared → Prop} {s : Shared}
end
section
variable {X : Cx}
end
end L2
namespace L2
open PySem PySem.Spec PyProof.Rows
section
variable {κ : Type} [DecidableEq κ]
def valV (kvs : List (κ × V)) (k : κ) : Option V := (kvs.find? fun kv => decide (kv.1 = k)).map (·.2)
def putK (kvs : List (κ × V)) (k : κ) (v : V) : List (κ × V) :=
  if (kvs.any fun kv => decide (kv.1 = k)) = true then kvs.map (fun kv => if kv.1 = k then (kv.1, v) else kv) else kvs ++ [(k, v)]
def dropK (kvs : List (κ × V)) (k : κ) : List (κ × V) := kvs.filter fun kv => decide (kv.1 ≠ k)
theorem valV_pos {p : κ × V} {r : List (κ × V)} {k : κ} (e : p.1 = k) : valV (p :: r) k = some p.2 := by simp [valV, List.find?_cons, e]
theorem valV_neg {p : κ × V} {r : List (κ × V)} {k : κ} (e : ¬ p.1 = k) : valV (p :: r) k = valV r k := by simp [valV, List.find?_cons, e]
theorem valV_any (k : κ) : ∀ kvs : List (κ × V), (kvs.any fun kv => decide (kv.1 = k)) = (valV kvs k).isSome
  | [] => rfl
  | p :: r => by
    rw [List.any_cons]
    by_cases e : p.1 = k
    · simp only [valV_pos e, decide_eq_true e, Bool.true_or, Option.isSome_some]
    · rw [valV_neg e, decide_eq_false e, Bool.false_or]; exact valV_any k r
theorem RelO.isSome_eq {o : Option V} {u : Option Value} (r : RelO o u) : o.isSome = u.isSome := by
  cases o with
  | none => cases u with
    | none => rfl
    | some _ => exact (show False from r).elim
  | some _ => cases u with
    | none => exact (show False from r).elim
    | some _ => rfl
theorem RelO.getD {o : Option V} {u : Option Value} {d : V} {d' : Value} (r : RelO o u) (rd : RelV d d') : RelV (o.getD d) (u.getD d') := by
  cases o with
  | none => cases u with
    | none => exact rd
    | some _ => exact (show False from r).elim
  | some _ => cases u with
    | none => exact (show False from r).elim
    | some _ => exact r
theorem KV.val {kvs : List (κ × V)} {vs : List (κ × Value)} (r : KV kvs vs) (k : κ) : RelO (valV kvs k) (valueAt vs k) := by
  unfold KV at r
  induction r with
  | nil => exact True.intro
  | @cons p q ps qs h t ih =>
    obtain ⟨h1, h2⟩ := h
    by_cases e : p.1 = k
    · have e' : q.1 = k := h1.symm.trans e
      have b : valueAt (q :: qs) k = some q.2 := by simp [valueAt, List.find?_cons, e']
      rw [valV_pos e, b]; exact h2
    · have e' : ¬ q.1 = k := fun z => e (h1.trans z)
      have b : valueAt (q :: qs) k = valueAt qs k := by simp [valueAt, List.find?_cons, e']
      rw [valV_neg e, b]; exact ih
theorem KV.any {kvs : List (κ × V)} {vs : List (κ × Value)} (r : KV kvs vs) (k : κ) : (kvs.any fun kv => decide (kv.1 = k)) = vs.any fun kv => decide (kv.1 = k) := by
  unfold KV at r
  induction r with
  | nil => rfl
  | cons h t ih => rw [List.any_cons, List.any_cons, ih, h.1]
theorem KV.repl {kvs : List (κ × V)} {vs : List (κ × Value)} (r : KV kvs vs) (k : κ) {y : V} {u : Value} (ry : RelV y u) :
    KV (kvs.map fun kv => if kv.1 = k then (kv.1, y) else kv) (vs.map fun kv => if kv.1 = k then (kv.1, u) else kv) := by
  unfold KV at r ⊢
  induction r with
  | nil => exact .nil
  | @cons p q ps qs h t ih =>
    rw [List.map_cons, List.map_cons]
    refine .cons ?_ ih
    obtain ⟨h1, h2⟩ := h
    by_cases e : p.1 = k
    · rw [if_pos e, if_pos (h1.symm.trans e)]; exact ⟨h1, ry⟩
    · rw [if_neg e, if_neg (fun z => e (h1.trans z))]; exact ⟨h1, h2⟩
theorem KV.put {kvs : List (κ × V)} {vs : List (κ × Value)} (r : KV kvs vs) (k : κ) {y : V} {u : Value} (ry : RelV y u) : KV (putK kvs k y) (stored vs k u) := by
  unfold putK stored
  rw [r.any k]
  by_cases e : (vs.any fun kv => decide (kv.1 = k)) = true
  · rw [if_pos e, if_pos e]; exact r.repl k ry
  · rw [if_neg e, if_neg e]; exact Paired.snoc r ⟨rfl, ry⟩
theorem KV.drop {kvs : List (κ × V)} {vs : List (κ × Value)} (r : KV kvs vs) (k : κ) : KV (dropK kvs k) (without vs k) := by
  unfold KV at r ⊢
  unfold dropK without
  induction r with
  | nil => exact .nil
  | @cons p q ps qs h t ih =>
    obtain ⟨h1, h2⟩ := h
    rw [List.filter_cons, List.filter_cons]
    by_cases e : p.1 = k
    · have a : ¬ decide (p.1 ≠ k) = true := by simp [e]
      have b : ¬ decide (q.1 ≠ k) = true := by simp [h1.symm.trans e]
      rw [if_neg a, if_neg b]; exact ih
    · have e' : ¬ q.1 = k := fun z => e (h1.trans z)
      have a : decide (p.1 ≠ k) = true := by simp [e]
      have b : decide (q.1 ≠ k) = true := by simp [e']
      rw [if_pos a, if_pos b]; exact .cons ⟨h1, h2⟩ ih
theorem KV.length {kvs : List (κ × V)} {vs : List (κ × Value)} (r : KV kvs vs) : kvs.length = vs.length := Paired.length r
end
abbrev KT (H : Hp) : List (List Key × V) → List (List Key × Addr × Value) → Prop := Paired fun p q => p.1 = q.1 ∧ H q.2.1 = some (.tup (p.1.map kV)) ∧ RelV p.2 q.2.2
theorem KT.val {H : Hp} {kvs : List (List Key × V)} {xs : List (List Key × Addr × Value)} (r : KT H kvs xs) (k : List Key) : RelO (valV kvs k) ((atKey xs k).map (·.2)) := by
  induction r with
  | nil => exact True.intro
  | @cons p q ps qs h t ih =>
    obtain ⟨h1, _, h2⟩ := h
    by_cases e : p.1 = k
    · have e' : q.1 = k := h1.symm.trans e
      have b : atKey (q :: qs) k = some q.2 := by simp [atKey, List.find?_cons, e']
      rw [valV_pos e, b]; exact h2
    · have e' : ¬ q.1 = k := fun z => e (h1.trans z)
      have b : atKey (q :: qs) k = atKey qs k := by simp [atKey, List.find?_cons, e']
      rw [valV_neg e, b]; exact ih
theorem KT.repl {H : Hp} {kvs : List (List Key × V)} {xs : List (List Key × Addr × Value)} (r : KT H kvs xs) (k : List Key) {y : V} {u : Value} (ry : RelV y u) :
    KT H (kvs.map fun kv => if kv.1 = k then (kv.1, y) else kv) (xs.map (putAt k u)) := by
  induction r with
  | nil => exact .nil
  | @cons p q ps qs h t ih =>
    rw [List.map_cons, List.map_cons]
    refine .cons ?_ ih
    obtain ⟨h1, h2, h3⟩ := h
    unfold putAt
    by_cases e : p.1 = k
    · rw [if_pos e, if_pos (h1.symm.trans e)]; exact ⟨h1, h2, ry⟩
    · rw [if_neg e, if_neg (fun z => e (h1.trans z))]; exact ⟨h1, h2, h3⟩
theorem KT.put {H : Hp} {kvs : List (List Key × V)} {xs : List (List Key × Addr × Value)} (r : KT H kvs xs) (k : List Key) {b : Addr} {y : V} {u : Value} (hb : H b = some (.tup (k.map kV))) (ry : RelV y u) :
    KT H (putK kvs k y) (storedH xs k b u) := by
  have e : (kvs.any fun kv => decide (kv.1 = k)) = (atKey xs k).isSome := by
    rw [valV_any, (r.val k).isSome_eq, Option.isSome_map]
  unfold putK storedH
  rw [e]
  by_cases q : (atKey xs k).isSome = true
  · rw [if_pos q, if_pos q]; exact r.repl k ry
  · rw [if_neg q, if_neg q]; exact Paired.snoc r ⟨rfl, hb, ry⟩
theorem KT.keeps {H H' : Hp} {kvs : List (List Key × V)} {xs : List (List Key × Addr × Value)} (r : KT H kvs xs) (ht : ∀ b ys, H b = some (.tup ys) → H' b = some (.tup ys)) : KT H' kvs xs :=
  Paired.mapP r fun _ _ z => ⟨z.1, ht _ _ z.2.1, z.2.2⟩
section
variable {P : Program} {w : World} {H : Hp} {h : Heap} {a : Addr}
end
def DGet (H : Hp) (a : Addr) (y : V) (r : Option V) : Prop :=
  (∃ kvs k, Rd H a (.dK kvs) ∧ y = kV k ∧ r = valV kvs k) ∨ ∃ kvs k b, Rd H a (.dT kvs) ∧ y = .ref b ∧ H b = some (.tup (k.map kV)) ∧ r = valV kvs k
def DPut (H : Hp) (a : Addr) (y v : V) (H' : Hp) : Prop :=
  (∃ kvs k, H a = some (.dK kvs) ∧ y = kV k ∧ kvs.length < sizeLine ∧ H' = upd H a (.dK (putK kvs k v))) ∨
  ∃ kvs k b, H a = some (.dT kvs) ∧ y = .ref b ∧ H b = some (.tup (k.map kV)) ∧ kvs.length < sizeLine ∧ H' = upd H a (.dT (putK kvs k v))
theorem DGet.k {H : Hp} {a : Addr} {kvs : List (Key × V)} {k : Key} (e : H a = some (.dK kvs)) : DGet H a (kV k) (valV kvs k) := .inl ⟨kvs, k, .inl e, rfl, rfl⟩
theorem DGet.t {H : Hp} {a b : Addr} {kvs : List (List Key × V)} {k : List Key} (e : H a = some (.dT kvs)) (eb : H b = some (.tup (k.map kV))) : DGet H a (.ref b) (valV kvs k) := .inr ⟨kvs, k, b, .inl e, rfl, eb, rfl⟩
theorem DPut.k {H : Hp} {a : Addr} {kvs : List (Key × V)} {k : Key} {v : V} (e : H a = some (.dK kvs)) (hl : kvs.length < sizeLine) : DPut H a (kV k) v (upd H a (.dK (putK kvs k v))) := .inl ⟨kvs, k, e, rfl, hl, rfl⟩
theorem DPut.t {H : Hp} {a b : Addr} {kvs : List (List Key × V)} {k : List Key} {v : V} (e : H a = some (.dT kvs)) (eb : H b = some (.tup (k.map kV))) (hl : kvs.length < sizeLine) :
    DPut H a (.ref b) v (upd H a (.dT (putK kvs k v))) := .inr ⟨kvs, k, b, e, rfl, eb, hl, rfl⟩
section
variable {X : Cx} {pins : List (Addr × Obj)} {σ : St} {H : Hp} {s : Shared} {a : Addr} {y v : V} {u r : Value} {o : Option V} {A : Around} {E : Value → Shared → Prop}
end
section
variable {X : Cx} {pins : List (Addr × Obj)} {σ : St} {H : Hp} {s : Shared} {a : Addr} {kvs : List (Key × V)} {k : Key} {u : Value} {A : Around} {E : Value → Shared → Prop}
end
section
variable {X : Cx} {o i e value : Expr} {pos pos' tpos : Pos} {td ty tv : TE}
end
section
variable {X : Cx} {pos : Pos}
end
structure M1 (X : Cx) (o : Expr) (m : Str) (apos : Pos) (e : Expr) (cpos : Pos) : Prop where
  base : attributeBase o m X.env (eval o X.env) = eval o X.env
  few : ((backTo cpos (starEach [e] X.env)).all (fun x => !x.1) && (backToKw cpos (keywordEach [] X.env)).all (fun x => x.1.isSome)
    && decide (([e] : List Expr).length + ([] : List Keyword).length + (if ([] : List Keyword).isEmpty then 0 else 1) < 30)) = true
  line : (apos.endLine == cpos.line) = true
  trees : backTo cpos (starEach [e] X.env) = [(false, eval e X.env)]
structure M2 (X : Cx) (o : Expr) (m : Str) (apos : Pos) (e f : Expr) (cpos : Pos) : Prop where
  base : attributeBase o m X.env (eval o X.env) = eval o X.env
  few : ((backTo cpos (starEach [e, f] X.env)).all (fun x => !x.1) && (backToKw cpos (keywordEach [] X.env)).all (fun x => x.1.isSome)
    && decide (([e, f] : List Expr).length + ([] : List Keyword).length + (if ([] : List Keyword).isEmpty then 0 else 1) < 30)) = true
  line : (apos.endLine == cpos.line) = true
  trees : backTo cpos (starEach [e, f] X.env) = [(false, eval e X.env), (false, eval f X.env)]
section
variable {X : Cx} {pins : List (Addr × Obj)} {σ : St} {H : Hp} {s : Shared} {a : Addr} {y d : V} {u r : Value} {o : Option V} {A : Around} {E : Value → Shared → Prop}
end
section
variable {X : Cx} {o e f : Expr} {apos cpos : Pos} {td ty tx : TE}
end
section
variable {X : Cx} {pins : List (Addr × Obj)} {σ : St} {H : Hp} {s : Shared} {a : Addr} {kvs : List (Key × V)} {A : Around} {E : Value → Shared → Prop}
end
section
variable {X : Cx} {pins : List (Addr × Obj)} {σ : St} {H : Hp} {s : Shared} {a : Addr} {y : V} {u : Value} {A : Around} {E : Value → Shared → Prop}
end
end L2
namespace Att
open PySem PySem.W PySem.Calls PyProof.Rows
theorem ints_of_wellAll {P : Params} {h : Heap} : ∀ (ns : List Int) (vs : List Value), WellAll P h vs (ns.map WData.int) → IntsAre vs ns := by
  intro ns
  induction ns with
  | nil =>
    intro vs w
    rw [List.map_nil] at w
    cases w
    exact .nil
  | cons n ns ih =>
    intro vs w
    rw [List.map_cons] at w
    cases w with
    | cons a b =>
      cases a
      exact .cons _ _ (ih _ b)
theorem script_of {l : OpenLaw} {n : Nat} (hn : l.most = some n) {P : Params} {h : Heap} {args : List WData} {vals : List Value}
    (hpre : l.row.toRowW.claim.pre args = true) (hwl : WellAll P h vals args) :
    ∃ a vs ns, vals = [Value.ref a] ∧ args = [WData.list (ns.map WData.int)] ∧ h.get? a = some { cls := .type "list", data := .seq vs.toArray } ∧ IntsAre vs ns ∧ ns.length ≤ n := by
  have hsh : WShape.hasAll [] args [.list .int] = true := (pre_splitW hpre).1
  have hc : l.pre.holds [] { args := args } = true := (pre_splitW hpre).2
  obtain ⟨d, r, rfl, h1, h2⟩ := hasAllW_cons hsh
  obtain rfl := hasAllW_nil h2
  obtain ⟨xs, rfl, h3⟩ := hasW_list h1
  obtain ⟨ns, rfl⟩ := items_int h3
  have hlen : ns.length ≤ n := by
    unfold OpenLaw.pre at hc
    have h4 : (WTm.not (.lt (.lit (.int (n : Int))) (.len (.arg 0)))).holds [] { args := [.list (ns.map .int)] } = true := by
      have h4 := (holds_andW hc).1
      rw [hn] at h4
      exact h4
    have h5 := condW_of h4 (w_not (w_lt w_lit (w_len_list (w_arg rfl))))
    rw [List.length_map] at h5
    refine Nat.le_of_not_lt fun q => ?_
    have q' : (n : Int) < ((ns.length : Nat) : Int) := by omega
    first
      | (rw [decide_eq_true q'] at h5; exact absurd h5 (by decide))
      | (simp at h5; omega)
  cases hwl with
  | cons w1 w2 =>
    cases w2
    cases w1 with
    | list ho hall => exact ⟨_, _, ns, rfl, rfl, ho, ints_of_wellAll ns _ hall, hlen⟩
theorem post_true (l : OpenLaw) (args : List WData) : l.row.toRowW.claim.post args (.bool true) args = true :=
  postW_of (r := l.row.toRowW) (X := (true == true))
    (show WShape.has [] (.bool true) .bool = true by first | rfl | decide | simp [WShape.has, WShape.arms, WShape.armsAll])
    (show (WTm.eq .res (.lit (.bool true))).value [] { args := args, res := some (.bool true), after := args } = some (.bool (true == true)) from w_eq_bool (w_res rfl) w_lit) rfl
theorem attach_call {l : OpenLaw} {n : Nat} {q : Program} {loose : List Str} {XP : (Str → Option Value) → Heap → Prop} {YP : World → Heap → Prop} {d : DefRec}
    (hn : l.most = some n) (hdf : d.params.defaults = [])
    (call : ∀ (w : World) (s₀ s₁ : Shared) (mg mb : Str → Option Value) (fa : Addr) (o : Obj) (pm cd doc : Value) (a : Addr) (vs : List Value) (ns : List Int),
      Ground q loose [] XP w s₀ mg mb s₁.heap → YP w s₁.heap →
      s₁.heap.get? fa = some o → o.data = .func (docDef d.name d.params d.body d.scope pm cd doc) → s₁.heap.CodeRec cd d.name → mg d.name = some (.ref fa) →
      s₁.heap.get? a = some { cls := .type "list", data := .seq vs.toArray } → IntsAre vs ns → ns.length ≤ n → s₁.gens = #[] →
      codeAny (model l.prog w) callerA (.call (.ref fa) ⟨[.ref a], []⟩) (fun r s' => r = .ok (.ret (.bool true)) ∧ OldK s₁.heap s'.heap ∧ s'.os = s₁.os ∧ AllBare s'.gens) s₁) :
    WalkO q loose XP YP l.row.toRowW d [] (fun f vs => PySem.call f vs) := by
  intro w s₀ s₁ mg mb G Y fa o pm cd doc dV kV ho hd hcd hD hmg hg args vals as hpre hlay hrd hwl hlo
  obtain rfl : dV = .none := Dflts.none hD hdf
  obtain rfl : kV = .none := Dflts.noKw hD
  obtain ⟨a, vs, ns, rfl, rfl, hobj, hints, hlen⟩ := script_of hn hpre hwl
  refine enter_call (codeAny_mono (call w s₀ s₁ mg mb fa o pm cd doc a vs ns G Y ho (fd_plain hd) hcd hmg hobj hints hlen hg) fun r s' hq => ?_)
  obtain ⟨rfl, h2, h3, h4⟩ := hq
  exact ⟨.inl ⟨.bool true, .bool true, [], rfl, fun _ => rfl, .bool true, post_true l _, fun _ => ⟨List.Pairwise.nil, fun _ hm => (nomatch hm)⟩⟩, h2, h3, h4⟩
section
variable {prog : Program} {w : World} {A : Around} {E : Value → Shared → Prop} {s : Shared} {K : Frag}
end
end Att
namespace L2
open PySem PySem.Spec PyProof.Rows
theorem vals_ints : ∀ {vs : List Value} {ns : List Int}, IntsAre vs ns → Vals (ns.map V.int) vs
  | _, _, .nil => .nil
  | _, _, .cons n t h => .cons ⟨t, rfl⟩ (vals_ints h)
end L2
namespace L2
open PySem PySem.Spec PyProof.Rows
end L2
namespace L2
open PySem PySem.Spec PyProof.Rows
def defArgs (s : Stmt) : Arguments := match s with
  | .FunctionDef _ a _ _ _ _ _ _ _ _ => a
  | _ => { posonlyargs := [], args := [], vararg := none, kwonlyargs := [], kw_defaults := [], kwarg := none, defaults := [] }
def defBody (s : Stmt) : List Stmt := match s with
  | .FunctionDef _ _ b _ _ _ _ _ _ _ => b
  | _ => []
def defScope (s : Stmt) : Scope := match s with
  | .FunctionDef _ _ _ _ _ _ sc _ _ _ => sc
  | _ => { kind := .function, names := [], isGenerator := false, isCoroutine := false }
abbrev CX0 : CXT := fun _ _ _ _ _ _ => False
abbrev E0 : XK := fun _ _ _ => False
theorem pass0 {X : Cx} : Passes CX0 X E0 := fun _ _ _ _ _ _ _ h => h.elim
structure Fun (K : PySem.W.Frag) (x qual : Str) (st : Stmt) (f : Addr) (fd : FuncData) : Prop where
  ex : ∃ (oc : Value) (od : Option Addr) (kV doc pm : Value) (an : Option Addr) (cdv ct : Value) (osl : Array (Option Value)),
    fd = PySem.W.fnOf x qual (defArgs st) (defBody st) (defScope st) .none kV doc pm an cdv ct ∧ K.lookup f = some ⟨oc, od, .func fd, osl⟩ ∧ PySem.W.codeIn K cdv qual = true
  kp : PySem.W.keepIn K (.ref f) = true
section
variable {P : Program} {w : World} {K : PySem.W.Frag} {mg : Str → Option Value} {base : Heap}
theorem Fun.ok {x qual : Str} {st : Stmt} {f : Addr} {fd : FuncData} {N ps : List Str} {k : Nat} {sp : Sp} (F : Fun K x qual st f fd) (S : FnScope N ps (defScope st)) (len : ∀ vs H Q E, sp vs H Q E → vs.length = ps.length)
    (hbody : ∀ (cdv : Value) (A : Around) (outer : List Env) (s : Shared) (H : Hp) (vs : List V) (Q : VK) (E : XK), Room k (A.deeper (envOfC qual (defScope st) s.heap.objs.size f cdv)) → sp vs H Q E →
      ∃ t, PSs (cxOf CX0 P w K mg base N qual (defScope st) f cdv A outer s H E).nox (defBody st) t ∧ t { nx := fun _ H' => Q .non H', rt := Q } (start N vs) H) : FnOk P w K mg base CX0 (k + 1) f fd ps sp := by
  obtain ⟨oc, od, kV, doc, pm, an, cdv, ct, osl, rfl, lk, hcd⟩ := F.ex
  refine fn_of lk hcd S len fun A outer s H vs Q E hr hsp => ?_
  obtain ⟨t, h, q⟩ := hbody cdv A outer s H vs Q E hr hsp
  exact ⟨t, h.nox, q⟩
theorem Fun.binds {x qual : Str} {st : Stmt} {f : Addr} {fd : FuncData} {ps : List Str} (F : Fun K x qual st f fd)
    (h : ∀ (kV doc pm : Value) (an : Option Addr) (cdv ct : Value) (us : List Value), us.length = ps.length → bindArgs (PySem.W.fnOf x qual (defArgs st) (defBody st) (defScope st) .none kV doc pm an cdv ct) ⟨us, []⟩ = pure (ps.zip us)) : Binds K fd ps [] := by
  obtain ⟨oc, od, kV, doc, pm, an, cdv, ct, osl, rfl, lk, hcd⟩ := F.ex
  exact .all (h kV doc pm an cdv ct)
theorem fun_mk {x qual : Str} {st : Stmt} {f : Addr} {oc : Value} {od an : Option Addr} {osl : Array (Option Value)} {kV doc pm cdv ct : Value} (l : K.lookup f = some ⟨oc, od, .func (PySem.W.fnOf x qual (defArgs st) (defBody st) (defScope st) .none kV doc pm an cdv ct), osl⟩)
    (c : PySem.W.codeIn K cdv qual = true) (k : PySem.W.keepIn K (.ref f) = true) : Fun K x qual st f (PySem.W.fnOf x qual (defArgs st) (defBody st) (defScope st) .none kV doc pm an cdv ct) := ⟨⟨oc, od, kV, doc, pm, an, cdv, ct, osl, rfl, l, c⟩, k⟩
end
theorem small1000 {n : Nat} (h : n ≤ 1000) : n < sizeLine := Nat.lt_of_le_of_lt h (by decide)
section
variable {X : Cx}
end
theorem ite2 {c A B : Prop} [Decidable c] (h1 : c → A) (h2 : ¬ c → B) : if c then A else B := by
  by_cases h : c
  · rw [if_pos h]
    exact h1 h
  · rw [if_neg h]
    exact h2 h
def Same (H H' : Hp) : Prop := ∀ b o, H b = some o → H' b = some o
theorem Same.refl (H : Hp) : Same H H := fun _ _ h => h
theorem Same.trans {H H1 H2 : Hp} (a : Same H H1) (b : Same H1 H2) : Same H H2 := fun c o h => b c o (a c o h)
theorem Same.free {H H' : Hp} (e : Same H H') {l : Addr} (h : H' l = Option.none) : H l = Option.none := by
  cases q : H l with
  | none => rfl
  | some o =>
    rw [e l o q] at h
    cases h
theorem Same.seq {K : PySem.W.Frag} {H H' : Hp} {a : Addr} {xs : List V} (e : Same H H') (h : SqL K H a xs) : SqL K H' a xs := by
  rcases h with (h | ⟨o, h⟩) | h
  · exact .inl (.inl (e _ _ h))
  · exact .inl (.inr ⟨o, e _ _ h⟩)
  · exact .inr h
section
variable {X : Cx}
end
section
variable {κ : Type} [DecidableEq κ]
end
end L2
set_option Elab.async false
set_option linter.all false
set_option maxRecDepth 100000
namespace L2
open PySem PySem.Spec PyProof.Rows
section
variable {X : Cx}
def CDv (_ j : Int) : Prop := 0 < j ∧ j < 10 ^ 100
theorem op_fdivP : OpR X (binaryOp .FloorDiv) (rI CDv fun i j => .int (i / j)) := opI fun i j _ _ _ _ _ hc q => by
  have h0 : 0 < j := hc.1
  have h1 : j < 10 ^ 100 := hc.2
  refine floordiv_int (by omega) ?_ (.inl (PyProof.noPylong_of_log2 ?_))
  · rw [Int.fdiv_eq_ediv_of_nonneg _ (by omega)]
    exact q
  · have h2 : j.natAbs < 10 ^ 100 := by omega
    have h3 : (10 : Nat) ^ 100 ≤ 2 ^ 9000 := by decide +kernel
    exact (Nat.log2_lt (by omega)).mpr (Nat.lt_of_lt_of_le h2 h3)
end
structure Callee (P : Program) (w : World) (K : PySem.W.Frag) (mg : Str → Option Value) (base : Heap) (x : Str) (k : Nat) (ps : List Str) (sp : Sp) : Prop where
  ex : ∃ (f : Addr) (fd : FuncData), FnOk P w K mg base CX0 k f fd ps sp ∧ Binds K fd ps [] ∧ PySem.W.keepIn K (.ref f) = true ∧ mg x = some (.ref f)
section
variable {X : Cx} {x : Str} {k : Nat} {ps : List Str} {sp : Sp} {e : Expr} {es : List Expr} {t : TA} {p pos : Pos}
theorem pe_callF (C : Callee X.prog X.w X.K X.mg X.base x k ps sp) (hr : Room k X.A) (hg : Gl X x) (ha : PA X (e :: es) t)
    (hdb : (x == ("__debug__" : Str)) = false := by decide) (he : starEach (e :: es) X.env = (false, eval e X.env) :: starEach es X.env := by rfl) (hpl : (backTo pos (starEach es X.env)).any (·.1) = false := by rfl) :
    PE X (.Call (.Name x p) (e :: es) [] pos) (tCall sp [] E0 t) := by
  intro pins s σ H Q I h
  obtain ⟨f, fd, F, b, kp, m⟩ := C.ex
  have G : FnOk X.prog X.w X.K X.mg X.base (fun _ _ _ _ _ _ => False) k f fd ps sp := F
  exact pe_call F hr hg m kp b .nil pass0 ha hdb he hpl pins s σ H Q I h
end
end L2
namespace L2
open PySem PySem.Spec PyProof.Rows
def tCut (t u : TS) : TS := fun D σ H => ∃ J : St → Hp → Prop, t { D with nx := J } σ H ∧ ∀ σ1 H1, J σ1 H1 → u D σ1 H1
section
variable {X : Cx} {st : Stmt} {rest : List Stmt} {t u : TS}
theorem pss_cut (h1 : PS X st t) (h2 : PSs X rest u) : PSs X (st :: rest) (tCut t u) := by
  intro pins s σ H D I h
  obtain ⟨J, h, hJ⟩ := h
  refine wpAny_execs_cons (thn (h1 pins s σ H { D with nx := J } I h) fun f s1 q => ?_)
  cases f with
  | next =>
    obtain ⟨σ', H', I', q⟩ := q
    exact h2 pins s1 σ' H' D I' (hJ _ _ q)
  | ret v => exact q
  | brk => exact q
  | cont => exact q
end
section
variable {α : Type} {a b c d : α} {r : List α}
theorem atI_0 : atI (a :: r) 0 = some a := atI_nat (j := 0) rfl
theorem atI_1 : atI (a :: b :: r) 1 = some b := atI_nat (j := 1) rfl
theorem atI_2 : atI (a :: b :: c :: r) 2 = some c := atI_nat (j := 2) rfl
theorem atI_3 : atI (a :: b :: c :: d :: r) 3 = some d := atI_nat (j := 3) rfl
end
def seqAt (H : Hp) (p : Addr) : Option (List V) := match H p with
  | some (.lst xs) => some xs
  | some (.tup xs) => some xs
  | some (.frz _ (.lst xs)) => some xs
  | _ => none
theorem seqAt_lst {H : Hp} {p : Addr} {xs : List V} (h : H p = some (.lst xs)) : seqAt H p = some xs := by unfold seqAt; rw [h]
theorem seqAt_tup {H : Hp} {p : Addr} {xs : List V} (h : H p = some (.tup xs)) : seqAt H p = some xs := by unfold seqAt; rw [h]
section
variable {X : Cx}
def rIxF : R2 := fun x y H Q => ∃ p i xs v, x = .ref p ∧ y = .int i ∧ seqAt H p = some xs ∧ atI xs i = some v ∧ Q v H
theorem call_intB : CallR X (.type "int") (fun xs H Q => ∃ k, xs = [.bl k] ∧ Q (.int (if k = true then 1 else 0)) H) := by
  intro pins s σ H xs us Q I r h
  obtain ⟨k, rfl, q⟩ := h
  exact call_int1 pins s σ H _ us Q I r (.inr ⟨k, rfl, q⟩)
end
end L2
namespace L2
open PySem PySem.Spec PyProof.Rows
theorem bt_len : bootBuiltins "len" = some (.builtin "len") := by decide +kernel
theorem bt_isinstance : bootBuiltins "isinstance" = some (.builtin "isinstance") := by decide +kernel
theorem bt_max : bootBuiltins "max" = some (.builtin "max") := by decide +kernel
theorem bt_min : bootBuiltins "min" = some (.builtin "min") := by decide +kernel
theorem bt_int : bootBuiltins "int" = some (.type "int") := by decide +kernel
theorem bt_bool : bootBuiltins "bool" = some (.type "bool") := by decide +kernel
theorem bt_str : bootBuiltins "str" = some (.type "str") := by decide +kernel
theorem bt_list : bootBuiltins "list" = some (.type "list") := by decide +kernel
theorem bt_tuple : bootBuiltins "tuple" = some (.type "tuple") := by decide +kernel
end L2
namespace L2
open PySem PySem.Spec PyProof.Rows
theorem cxK {CX : CXT} {P : Program} {w : World} {K : PySem.W.Frag} {mg : Str → Option Value} {base : Heap} {N : List Str} {qual : Str} {scope : Scope} {f : Addr} {cd : Value} {A : Around} {outer : List Env} {s : Shared} {H : Hp} {E : XK} :
    (cxOf CX P w K mg base N qual scope f cd A outer s H E).K = K := rfl
end L2
namespace L2
open PySem PySem.Spec PyProof.Rows
theorem ixN_10 : ixN 1 0 = some 0 := rfl
theorem ixN_20 : ixN 2 0 = some 0 := rfl
theorem ixN_21 : ixN 2 1 = some 1 := rfl
theorem ixN_30 : ixN 3 0 = some 0 := rfl
theorem ixN_31 : ixN 3 1 = some 1 := rfl
theorem ixN_32 : ixN 3 2 = some 2 := rfl
theorem seqAt_updL {H : Hp} {p : Addr} {xs : List V} : seqAt (upd H p (.lst xs)) p = some xs := seqAt_lst upd_same
theorem seqAt_updT {H : Hp} {p : Addr} {xs : List V} : seqAt (upd H p (.tup xs)) p = some xs := seqAt_tup upd_same
theorem atI_in {α : Type} {xs : List α} {k : Int} (h0 : 0 ≤ k) (h1 : k < (xs.length : Int)) : ∃ v, atI xs k = some v ∧ v ∈ xs := by
  have hk : k.toNat < xs.length := by omega
  have e : k = ((k.toNat : Nat) : Int) := by omega
  have q : atI xs ((k.toNat : Nat) : Int) = some xs[k.toNat] := atI_nat (List.getElem?_eq_getElem hk)
  rw [← e] at q
  exact ⟨_, q, List.getElem_mem hk⟩
theorem small_le {n : Nat} (h : n ≤ 1000) : n ≤ sizeLine := Nat.le_of_lt (small1000 h)
end L2
namespace L2
open PySem PySem.Spec PyProof.Rows
structure Shut (Q : VK) : Type where
  n : Nat
def Cal (sp : Sp) (vs : List V) (H : Hp) (Q : VK) (_ : Shut Q) (E : XK) : Prop := sp vs H Q E
theorem tCallC {sp : Sp} {dvs : List V} {E : XK} {t : TA} {σ : St} {H : Hp} {Q : VK} : tCall sp dvs E t σ H Q = t σ H (fun vs H1 => Cal sp (vs ++ dvs) H1 Q ⟨0⟩ E) := rfl
section
variable {X : Cx} {pos p1 p2 : Pos} {j1 j2 : Nat}
theorem pe_powc {a b : Int} (v : Int) (h : decide (0 ≤ b ∧ b ≤ 1000000 ∧ a.natAbs < 2 ^ 64 ∧ a ^ b.toNat = v) = true := by decide +kernel) : PE X (.BinOp (.Constant (.int a) j1 p1) .Pow (.Constant (.int b) j2 p2) pos) (tC (.int v)) := by
  intro pins s σ H Q I q
  obtain ⟨h1, h2, h3, h4⟩ := of_decide_eq_true h
  refine pe_op op_pow pe_int pe_int pins s σ H Q I ⟨a, b, rfl, rfl, ⟨h1, h2, h3⟩, ?_⟩
  show Q (V.int (a ^ b.toNat)) H
  rw [h4]
  exact q
end
end L2
namespace L2
open PySem PySem.Spec PyProof.Rows
theorem upd_none {H : Hp} {a b : Addr} {o : HO} : upd H a o b = none ↔ b ≠ a ∧ H b = none := by
  unfold upd
  by_cases h : b = a
  · simp [h]
  · simp [h]
end L2
namespace L2
open PySem PySem.Spec PyProof.Rows
def Loop (J : It) (g : TG) (tb : TS) (D : Ends) (σ : St) (H : Hp) : Prop := ∃ W : Nat → Nat → St → Hp → Prop, (∃ m, W 0 m σ H) ∧ ∀ i m σ H, W i m σ H →
  (J.stop i H ∧ D.nx σ H) ∨ (J.go i H ∧ ∃ N : St → Hp → Prop, (∀ σ' H', N σ' H' → ∃ m', m' < m ∧ W (i + 1) m' σ' H') ∧ ∀ x H', J.yld i H x H' → g x σ H' fun σ2 H2 => tb { D with nx := N, ct := N, bk := D.nx } σ2 H2)
section
variable {K : PySem.W.Frag} {ta : TA} {tl : TE} {g : TG} {tb : TS} {D : Ends} {σ : St} {H : Hp} {a : Addr} {xs : List V} {lo : Int} {n : Nat}
theorem tFor_rng1 : tFor (iRng1 ta) g tb D σ H = ta σ H (fun vs H1 => ∃ j : Int, vs = [.int j] ∧ -(2 ^ 62) ≤ j ∧ j < 2 ^ 62 ∧ Loop (Itr 0 j.toNat) g tb D σ H1) := rfl
theorem tFor_rng2 : tFor (iRng2 ta) g tb D σ H = ta σ H (fun vs H1 => ∃ i j : Int, vs = [.int i, .int j] ∧ (-(2 ^ 62) ≤ i ∧ i < 2 ^ 62 ∧ -(2 ^ 62) ≤ j ∧ j < 2 ^ 62) ∧ Loop (Itr i (j - i).toNat) g tb D σ H1) := rfl
theorem tFor_list : tFor (iList K tl) g tb D σ H = tl σ H (fun x H1 => ∃ a, x = .ref a ∧ (∃ xs, SqL K H1 a xs) ∧ Loop (Itl K a) g tb D σ H1) := rfl
theorem tFor_tup : tFor (iTup K tl) g tb D σ H = tl σ H (fun x H1 => ∃ a, x = .ref a ∧ (∃ xs, SqT K H1 a xs) ∧ Loop (Itt K a) g tb D σ H1) := rfl
theorem loop_list (Pv : Nat → St → Hp → Prop) (h0 : Pv 0 σ H) (hl : ∀ i σ H, i ≤ xs.length → Pv i σ H → SqL K H a xs)
    (hs : ∀ i x σ H, xs[i]? = some x → Pv i σ H → g x σ H fun σ2 H2 => tb { D with nx := Pv (i + 1), ct := Pv (i + 1), bk := D.nx } σ2 H2) (hd : ∀ σ H, Pv xs.length σ H → D.nx σ H) : Loop (Itl K a) g tb D σ H := for_list Pv h0 hl hs hd
end
end L2
set_option Elab.async false
set_option linter.all false
set_option maxRecDepth 100000
namespace L2
open PySem PySem.Spec PyProof.Rows
structure JE (X : Cx) (e : Expr) (t : TE) : Prop where h : PE X e t
structure JT (X : Cx) (e : Expr) (t : TT) : Prop where h : PT X e t
structure JW (X : Cx) (e : Expr) (t : TT) : Prop where h : PW X e t
structure JA (X : Cx) (es : List Expr) (t : TA) : Prop where h : PA X es t
structure JS (X : Cx) (st : Stmt) (t : TS) : Prop where h : PS X st t
structure JB (X : Cx) (st : List Stmt) (t : TS) : Prop where h : PSs X st t
structure JG (X : Cx) (e : Expr) (t : TG) : Prop where h : PG X e t
structure JGs (X : Cx) (es : List Expr) (t : TGs) : Prop where h : PGs X es t
structure JI (X : Cx) (tg e : Expr) (t : TI) : Prop where h : PI X tg e t
structure JO (X : Cx) (e : Option Expr) (t : TO) : Prop where h : PO X e t
section
variable {X : Cx} {a b c e o : Expr} {es rest : List Expr} {ta tb tc te to : TE} {t tl : TA} {tA tB' : TT} {pos p p' : Pos} {st : Stmt} {sts sts' : List Stmt} {u v : TS}
theorem ev (i : Nat) {x : Str} (hN : X.N[i]? = some x := by rfl) (hv : Vis X.env.scope x := by first | exact Or.inl rfl | exact Or.inr (Or.inl rfl) | exact Or.inr (Or.inr rfl)) (hd : (x == ("__debug__" : Str)) = false := by decide)
    (hcd : (x == ("__classdict__" : Str)) = false := by decide) : JE X (.Name x pos) (tVar i) := ⟨pe_var hN hv hd hcd⟩
theorem ei {i j} : JE X (.Constant (.int i) j pos) (tC (.int i)) := ⟨pe_int⟩
theorem ebl {b j} : JE X (.Constant (.bool b) j pos) (tC (.bl b)) := ⟨pe_bl⟩
theorem enon {j} : JE X (.Constant .none j pos) (tC .non) := ⟨pe_non⟩
theorem estr {x j} : JE X (.Constant (.str x) j pos) (tC (.str x)) := ⟨pe_str⟩
theorem eglob {x : Str} {v : V} {u : Value} (hg : Gl X x) (hm : X.mg x = some u) (r : RelV v u) (hd : (x == ("__debug__" : Str)) = false := by decide) : JE X (.Name x pos) (tC v) := ⟨pe_glob hg hm r hd⟩
theorem etyp {x : Str} {n : String} (hg : Gl X x) (hm : X.mg x = none) (hv : bootBuiltins x = some (.type n)) (hn : x ≠ "__name__" := by decide) (hd : (x == ("__debug__" : Str)) = false := by decide) : JE X (.Name x pos) (tC (.ty n)) := ⟨pe_bltn hg hm hv rfl hn hd⟩
theorem eop {op : Operator} {r : R2} (ho : OpR X (binaryOp op) r) (ha : JE X a ta) (hb : JE X b tb) : JE X (.BinOp a op b pos) (tOp r ta tb) := ⟨pe_op ho ha.h hb.h⟩
theorem epowc {a b : Int} {j1 j2 : Nat} {p1 p2 : Pos} (v : Int) (h : decide (0 ≤ b ∧ b ≤ 1000000 ∧ a.natAbs < 2 ^ 64 ∧ a ^ b.toNat = v) = true := by decide +kernel) : JE X (.BinOp (.Constant (.int a) j1 p1) .Pow (.Constant (.int b) j2 p2) pos) (tC (.int v)) := ⟨pe_powc v h⟩
theorem eun {op : UnaryOp} {r : V → Hp → VK → Prop} (ho : UnR X (unaryOp op) r) (ha : JE X a ta) : JE X (.UnaryOp op a pos) (tUn r ta) := ⟨pe_un ho ha.h⟩
theorem enot (ha : JE X a ta) : JE X (.UnaryOp .Not a pos) (tNotV ta) := ⟨pe_not ha.h⟩
theorem eone {op} (h : JE X a ta) : JE X (.BoolOp op [a] pos) ta := ⟨pe_one h.h⟩
theorem eand (ha : JE X a ta) (hb : JE X (.BoolOp .And (b :: rest) pos) tb) : JE X (.BoolOp .And (a :: b :: rest) pos) (tAndV ta tb) := ⟨pe_and ha.h hb.h⟩
theorem eor (ha : JE X a ta) (hb : JE X (.BoolOp .Or (b :: rest) pos) tb) : JE X (.BoolOp .Or (a :: b :: rest) pos) (tOrV ta tb) := ⟨pe_or ha.h hb.h⟩
theorem eif (hc : JT X c tA) (ha : JE X a ta) (hb : JE X b tb) : JE X (.IfExp c a b pos) (tIf tA ta tb) := ⟨pe_ifExp hc.h ha.h hb.h⟩
theorem ecmp {op : CmpOp} {r : R2} (ho : OpR X (compareOp op) r) (ha : JE X a ta) (hb : JE X b tb) (hm : behindInMarks op b = false) : JE X (.Compare a [op] [b] pos) (tOp r ta tb) := ⟨pe_cmpR ho ha.h hb.h hm⟩
theorem echain {op op' : CmpOp} {r r' : R2} (ho : OpR X (compareOp op) r) (ho' : OpR X (compareOp op') r') (ha : JE X a ta) (hb : JE X b tb) (hc : JE X c tc)
    (hm : lastMarks [op, op'] [b, c] = false := by with_unfolding_all rfl) : JE X (.Compare a [op, op'] [b, c] pos) (tChain r r' ta tb tc) := ⟨pe_chain ho ho' ha.h hb.h hc.h hm⟩
theorem eix {r : R2} (hr : IxR X r) (ha : JE X a ta) (hb : JE X b tb) (hs : PlainIx b) : JE X (.Subscript a b pos) (tOp r ta tb) := ⟨pe_ix hr ha.h hb.h hs⟩
theorem eslice {r : V → Option Int → Option Int → Hp → VK → Prop} {lo hi : Option Expr} {tl th : TO} (hr : SlR X r) (he : JE X e te) (hl : JO X lo tl) (hu : JO X hi th) : JE X (.Subscript e (.Slice lo hi none p) pos) (tSl r te tl th) := ⟨pe_slice hr he.h hl.h hu.h⟩
theorem ecall {x : Str} {k : Nat} {ps : List Str} {sp : Sp} (C : Callee X.prog X.w X.K X.mg X.base x k ps sp) (hr : Room k X.A) (hg : Gl X x) (ha : JA X (e :: es) t)
    (hdb : (x == ("__debug__" : Str)) = false := by decide) (he : starEach (e :: es) X.env = (false, eval e X.env) :: starEach es X.env := by rfl) (hpl : (backTo pos (starEach es X.env)).any (·.1) = false := by rfl) :
    JE X (.Call (.Name x p) (e :: es) [] pos) (tCall sp [] E0 t) := ⟨pe_callF C hr hg ha.h hdb he hpl⟩
theorem ecallB {x : Str} {id : String} {r : List V → Hp → VK → Prop} (hc : CallR X (.builtin id) r) (hg : Gl X x) (hm : X.mg x = none) (hv : bootBuiltins x = some (.builtin id)) (ha : JA X (e :: es) t) (hn : x ≠ "__name__" := by decide) (hdb : (x == ("__debug__" : Str)) = false := by decide)
    (he : starEach (e :: es) X.env = (false, eval e X.env) :: starEach es X.env := by rfl) (hpl : (backTo pos (starEach es X.env)).any (·.1) = false := by rfl) : JE X (.Call (.Name x p) (e :: es) [] pos) (tCB r t) := ⟨pe_callB hc hg hm hv ha.h hn hdb he hpl⟩
theorem ecallTy {x : Str} {T : String} {r : List V → Hp → VK → Prop} (hc : CallR X (.type T) r) (hg : Gl X x) (hm : X.mg x = none) (hv : bootBuiltins x = some (.type T)) (ha : JA X (e :: es) t) (hn : x ≠ "__name__" := by decide) (hdb : (x == ("__debug__" : Str)) = false := by decide)
    (he : starEach (e :: es) X.env = (false, eval e X.env) :: starEach es X.env := by rfl) (hpl : (backTo pos (starEach es X.env)).any (·.1) = false := by rfl) : JE X (.Call (.Name x p) (e :: es) [] pos) (tCB r t) := ⟨pe_callTy hc hg hm hv ha.h hn hdb he hpl⟩
theorem ebm {T id : String} {name : Str} {r : V → List V → Hp → VK → Prop} {apos cpos : Pos} (pa : PlainAttrs T) (slot : Slot T name id) (hty : typeOf (.builtin id) = pure (.type "method_descriptor")) (hm : MtR X id r) (ho : JE X o to) (ha : JA X (e :: es) t)
    (hbase : attributeBase o name X.env (eval o X.env) = eval o X.env := by rfl)
    (hfew : ((backTo cpos (starEach (e :: es) X.env)).all (fun x => !x.1) && (backToKw cpos (keywordEach [] X.env)).all (fun x => x.1.isSome)
      && decide ((e :: es).length + ([] : List Keyword).length + (if ([] : List Keyword).isEmpty then 0 else 1) < 30)) = true := by rfl)
    (hline : (apos.endLine == cpos.line) = true := by rfl) (hs : starEach (e :: es) X.env = (false, eval e X.env) :: starEach es X.env := by rfl) (hplain : (backTo cpos (starEach es X.env)).any (·.1) = false := by rfl) :
    JE X (.Call (.Attribute o name apos) (e :: es) [] cpos) (tBM X.K T r to t) := ⟨pe_bm pa slot hty hm ho.h ha.h hbase hfew hline hs hplain⟩
theorem anil : JA X [] tNil := ⟨pa_nil⟩
theorem acons (ha : JE X e te) (hr : JA X es t) (hs : starEach (e :: es) X.env = (false, eval e X.env) :: starEach es X.env := by rfl) : JA X (e :: es) (tCons te t) := ⟨pa_cons ha.h hr.h hs⟩
theorem tcmp {op : CmpOp} {r : R2} (ho : OpR X (compareOp op) r) (ha : JE X a ta) (hb : JE X b tb) (hm : behindInMarks op b = false) : JT X (.Compare a [op] [b] pos) (tTest (tOp r ta tb)) := ⟨pt_cmpR ho ha.h hb.h hm⟩
theorem tval (h : JE X e te) (he : ∀ whole, isTrue e X.env whole = (do let v ← whole; standAt e.pos; holding [v] (truthy v)) := by intro _; rfl) : JT X e (tB te) := ⟨pt_val h.h he⟩
theorem tnot (ha : JT X a tA) : JT X (.UnaryOp .Not a pos) (tNot tA) := ⟨pt_not ha.h⟩
theorem tw (h : JW X e tA) : JT X e tA := ⟨PW.pt h.h⟩
theorem wand1 (ha : JT X a tA) : JW X (.BoolOp .And [a] pos) tA := ⟨pw_and1 ha.h⟩
theorem wor1 (ha : JT X a tA) : JW X (.BoolOp .Or [a] pos) tA := ⟨pw_or1 ha.h⟩
theorem wand (ha : JT X a tA) (hb : JW X (.BoolOp .And (b :: rest) pos) tB') : JW X (.BoolOp .And (a :: b :: rest) pos) (tAnd tA tB') := ⟨pw_and ha.h hb.h⟩
theorem wor (ha : JT X a tA) (hb : JW X (.BoolOp .Or (b :: rest) pos) tB') : JW X (.BoolOp .Or (a :: b :: rest) pos) (tOr tA tB') := ⟨pw_or ha.h hb.h⟩
theorem bnil : JB X [] tNext := ⟨pss_nil⟩
theorem bcons (h1 : JS X st u) (h2 : JB X sts v) : JB X (st :: sts) (tSeq u v) := ⟨pss_cons h1.h h2.h⟩
theorem bone (h1 : JS X st u) : JB X [st] u := ⟨pss_one h1.h⟩
theorem bcut (h1 : JS X st u) (h2 : JB X sts v) : JB X (st :: sts) (tCut u v) := ⟨pss_cut h1.h h2.h⟩
theorem sexpr (he : JE X e te) (hs : swapsWith e none pos.line X.env = pure false := by rfl) : JS X (.Expr e pos) (tDrop te) := ⟨ps_expr he.h hs⟩
theorem sret (he : JE X e te) : JS X (.Return (some e) pos) (tRet te) := ⟨ps_ret he.h⟩
theorem sif (hc : JT X c tA) (ha : JB X sts u) (hb : JB X sts' v) : JS X (.If c sts sts' pos) (tIfS tA u v) := ⟨ps_if hc.h ha.h hb.h⟩
theorem sset {i : Nat} {x : Str} (hN : X.N.Nodup) (hi : X.N[i]? = some x) (hx : Loc X.env.scope x) (he : JE X e te) (hs : swapsWith e (some (.Name x p)) pos.line X.env = pure false := by rfl) (hf : X.fn x = true ∨ X.env.scope.names.lookup x = some .local := by first | exact .inl rfl | exact .inr rfl | assumption) :
    JS X (.Assign [.Name x p] e pos) (tAsg te (gName i)) := ⟨ps_set hN hi hx he.h hs hf⟩
theorem sasg {tg : Expr} {g : TG} (he : JE X e te) (hg : JG X tg g) (hs : swapsWithSole [tg] e pos.line X.env = pure false := by rfl) (hw : swappedStores [tg] e X.env = pure none := by rfl)
    (h1 : (assignEach [tg] X.env).map (·.2) = [assign tg X.env] := by rfl) : JS X (.Assign [tg] e pos) (tAsg te g) := ⟨ps_asg he.h hg.h hs hw h1⟩
theorem sfor {tg iter : Expr} {wi : TI} {g : TG} (hp : PassesOwn (model X.prog X.w) X.A X.env X.xe) (hc : X.calm = true) (hi : JI X tg iter wi) (hg : JG X tg g) (hb : JB X sts u)
    (hs : ∀ x, foldedSetIterable iter X.env x = pure x := by intro _; rfl) : JS X (.For tg iter sts [] pos) (tFor wi g u) := ⟨ps_for hp hc hi.h hg.h hb.h hs⟩
theorem gname {i : Nat} {x : Str} (hN : X.N.Nodup) (hi : X.N[i]? = some x) (hx : Loc X.env.scope x) (hf : X.fn x = true ∨ X.env.scope.names.lookup x = some .local := by first | exact .inl rfl | exact .inr rfl | assumption) : JG X (.Name x pos) (gName i) := ⟨pg_name hN hi hx hf⟩
theorem gsub {i : Expr} {ti : TE} {t : TSet} (ho : JE X o to) (hi : JE X i ti) (hs : PSet X t)
    (ha : ∀ v, assign (.Subscript o i pos) X.env v = (do
      let ov ← holding [v] (eval o X.env)
      let iv ← holding [v, ov] (eval i X.env)
      standAt pos
      holding [v, ov, iv] (setItem ov iv v)
      release [v, ov, iv] []) := by intro _; rfl) : JG X (.Subscript o i pos) (gSub to ti t) := ⟨pg_sub ho.h hi.h hs ha⟩
theorem gnil : JGs X [] gNil := ⟨pgs_nil⟩
theorem gcons {t : TG} {u : TGs} (h1 : JG X e t) (h2 : JGs X es u) (hs : (assignEach (e :: es) X.env).map (·.2) = assign e X.env :: (assignEach es X.env).map (·.2) := by rfl) : JGs X (e :: es) (gCons t u) := ⟨pgs_cons h1.h h2.h hs⟩
theorem ilist {tg l : Expr} (hl : JE X l te) : JI X tg l (iList X.K te) := ⟨pi_list hl.h⟩
theorem onone : JO X none tNoPart := ⟨po_none⟩
theorem osome (h : JE X e te) : JO X (some e) (tPart te) := ⟨po_some h.h⟩
end
section
variable {P : Program} {w : World} {K : PySem.W.Frag} {mg : Str → Option Value} {base : Heap}
theorem Fun.okJ {x qual : Str} {st : Stmt} {f : Addr} {fd : FuncData} {N ps : List Str} {k : Nat} {sp : Sp} (F : Fun K x qual st f fd) (S : FnScope N ps (defScope st)) (len : ∀ vs H Q E, sp vs H Q E → vs.length = ps.length)
    (hbody : ∀ (cdv : Value) (A : Around) (outer : List Env) (s : Shared) (H : Hp) (vs : List V) (Q : VK) (E : XK), Room k (A.deeper (envOfC qual (defScope st) s.heap.objs.size f cdv)) → sp vs H Q E →
      ∃ t, JB (cxOf CX0 P w K mg base N qual (defScope st) f cdv A outer s H E).nox (defBody st) t ∧ t { nx := fun _ H' => Q .non H', rt := Q } (start N vs) H) : FnOk P w K mg base CX0 (k + 1) f fd ps sp :=
  F.ok S len fun cdv A outer s H vs Q E hr h => let ⟨t, a, b⟩ := hbody cdv A outer s H vs Q E hr h; ⟨t, a.h, b⟩
end
end L2
set_option Elab.async false
set_option linter.all false
set_option maxRecDepth 100000
namespace L2
open PySem PySem.Spec PyProof.Rows
mutual
def Is (K : PySem.W.Frag) (H : Hp) : PyData → V → Prop
  | .none, v => v = .non
  | .bool b, v => v = .bl b
  | .int i, v => v = .int i
  | .str x, v => v = .str x
  | .list ds, v => ∃ a vs, v = .ref a ∧ SqL K H a vs ∧ IsAll K H ds vs
  | .tuple ds, v => ∃ a vs, v = .ref a ∧ SqT K H a vs ∧ IsAll K H ds vs
  | .dict _, _ => False
def IsAll (K : PySem.W.Frag) (H : Hp) : List PyData → List V → Prop
  | [], vs => vs = []
  | d :: ds, vs => ∃ v r, vs = v :: r ∧ Is K H d v ∧ IsAll K H ds r
end
section
variable {X : Cx} {pins : List (Addr × Obj)} {σ : St} {H : Hp} {s : Shared}
mutual
theorem Is.reads (I : Inv X pins σ H s) : ∀ {d : PyData} {v : V} {u : Value}, Is X.K H d v → RelV v u → ∃ as, Reads s.heap u d as
  | .none, v, u, h, r => by unfold Is at h; subst h; cases r; exact ⟨_, .none⟩
  | .bool b, v, u, h, r => by unfold Is at h; subst h; cases r; exact ⟨_, .bool b⟩
  | .int i, v, u, h, r => by unfold Is at h; subst h; obtain ⟨t, rfl⟩ := r; exact ⟨_, .int i t⟩
  | .str x, v, u, h, r => by unfold Is at h; subst h; obtain ⟨t, rfl⟩ := r; exact ⟨_, .str x t⟩
  | .list ds, v, u, h, r => by
    unfold Is at h
    obtain ⟨a, vs, rfl, hs, ha⟩ := h
    cases r
    obtain ⟨its, rv, ⟨o, n, e, hc, _, hd⟩, _⟩ := I.list hs
    obtain ⟨as, q⟩ := IsAll.reads I ha rv
    exact ⟨_, .list e hc hd (by simpa using q)⟩
  | .tuple ds, v, u, h, r => by
    unfold Is at h
    obtain ⟨a, vs, rfl, hs, ha⟩ := h
    cases r
    obtain ⟨its, rv, ⟨o, e, hc, n, hd⟩, _⟩ := I.tuple hs
    obtain ⟨as, q⟩ := IsAll.reads I ha rv
    exact ⟨_, .tuple e hc hd (by simpa using q)⟩
  | .dict _, v, u, h, r => by unfold Is at h; exact h.elim
theorem IsAll.reads (I : Inv X pins σ H s) : ∀ {ds : List PyData} {vs : List V} {us : List Value}, IsAll X.K H ds vs → Vals vs us → ∃ as, ReadsAll s.heap us ds as
  | [], vs, us, h, r => by unfold IsAll at h; subst h; cases r; exact ⟨_, .nil⟩
  | d :: ds, vs, us, h, r => by
    unfold IsAll at h
    obtain ⟨v, rs, rfl, h1, h2⟩ := h
    cases r with
    | cons r1 r2 =>
      obtain ⟨as, q1⟩ := Is.reads I h1 r1
      obtain ⟨bs, q2⟩ := IsAll.reads I h2 r2
      exact ⟨_, .cons q1 q2⟩
end
end
section
variable {X : Cx}
def rEqD (K : PySem.W.Frag) (neg : Bool) : R2 := fun x y H Q => ∃ d e, Is K H d x ∧ Is K H e y ∧ SeqAt.shaped d = true ∧ SeqAt.shaped e = true ∧ Q (.bl (if neg = true then !PyData.eqv d e else PyData.eqv d e)) H
theorem op_eqD (hu : X.A.units + 64 < cLine) : OpR X (compareOp .Eq) (rEqD X.K false) := by
  intro pins s σ H x y v u Q I rx ry h
  obtain ⟨d, e, hd, he, sd, se, q⟩ := h
  obtain ⟨as, ra⟩ := hd.reads I rx
  obtain ⟨bs, rb⟩ := he.reads I ry
  exact SeqAt.compareEq_shaped ra rb sd se hu ⟨.bl _, H, I, rfl, q⟩
theorem op_neD (hu : X.A.units + 64 < cLine) : OpR X (compareOp .NotEq) (rEqD X.K true) := by
  intro pins s σ H x y v u Q I rx ry h
  obtain ⟨d, e, hd, he, sd, se, q⟩ := h
  obtain ⟨as, ra⟩ := hd.reads I rx
  obtain ⟨bs, rb⟩ := he.reads I ry
  exact SeqAt.compareNe_shaped ra rb sd se hu ⟨.bl _, H, I, rfl, q⟩
end
mutual
def nob : PyData → Bool
  | .none => true
  | .bool _ => false
  | .int _ => true
  | .str _ => true
  | .list ds => nobAll ds
  | .tuple ds => nobAll ds
  | .dict _ => false
def nobAll : List PyData → Bool
  | [] => true
  | d :: ds => nob d && nobAll ds
end
mutual
theorem eqv_iff : ∀ {d e : PyData}, nob d = true → nob e = true → (PyData.eqv d e = true ↔ d = e)
  | .none, e, hd, he => by cases e <;> simp [PyData.eqv]
  | .bool _, e, hd, he => by simp [nob] at hd
  | .int i, e, hd, he => by cases e <;> simp [PyData.eqv, nob] at *
  | .str x, e, hd, he => by cases e <;> simp [PyData.eqv, nob] at *
  | .list ds, e, hd, he => by
    cases e with
    | list es =>
      simp only [nob] at hd he
      simp only [PyData.eqv, PyData.list.injEq]
      exact eqvAll_iff hd he
    | _ => simp [PyData.eqv]
  | .tuple ds, e, hd, he => by
    cases e with
    | tuple es =>
      simp only [nob] at hd he
      simp only [PyData.eqv, PyData.tuple.injEq]
      exact eqvAll_iff hd he
    | _ => simp [PyData.eqv]
  | .dict _, e, hd, he => by simp [nob] at hd
theorem eqvAll_iff : ∀ {ds es : List PyData}, nobAll ds = true → nobAll es = true → (PyData.eqvAll ds es = true ↔ ds = es)
  | [], es, _, _ => by cases es <;> simp [PyData.eqvAll]
  | d :: ds, es, hd, he => by
    cases es with
    | nil => simp [PyData.eqvAll]
    | cons e es =>
      simp only [nobAll, Bool.and_eq_true] at hd he
      simp only [PyData.eqvAll, Bool.and_eq_true, List.cons.injEq]
      rw [eqv_iff hd.1 he.1, eqvAll_iff hd.2 he.2]
end
mutual
theorem Is.same {K : PySem.W.Frag} {H H' : Hp} (h : Same H H') : ∀ {d : PyData} {v : V}, Is K H d v → Is K H' d v
  | .none, v, q => by unfold Is at q ⊢; exact q
  | .bool b, v, q => by unfold Is at q ⊢; exact q
  | .int i, v, q => by unfold Is at q ⊢; exact q
  | .str x, v, q => by unfold Is at q ⊢; exact q
  | .list ds, v, q => by
    unfold Is at q ⊢
    obtain ⟨a, vs, e, hs, ha⟩ := q
    exact ⟨a, vs, e, h.seq hs, IsAll.same h ha⟩
  | .tuple ds, v, q => by
    unfold Is at q ⊢
    obtain ⟨a, vs, e, hs, ha⟩ := q
    refine ⟨a, vs, e, ?_, IsAll.same h ha⟩
    rcases hs with (hs | ⟨o, hs⟩) | hs
    · exact .inl (.inl (h _ _ hs))
    · exact .inl (.inr ⟨o, h _ _ hs⟩)
    · exact .inr hs
  | .dict _, v, q => by unfold Is at q; exact q.elim
theorem IsAll.same {K : PySem.W.Frag} {H H' : Hp} (h : Same H H') : ∀ {ds : List PyData} {vs : List V}, IsAll K H ds vs → IsAll K H' ds vs
  | [], vs, q => by unfold IsAll at q ⊢; exact q
  | d :: ds, vs, q => by
    unfold IsAll at q ⊢
    obtain ⟨v, r, e, h1, h2⟩ := q
    exact ⟨v, r, e, Is.same h h1, IsAll.same h h2⟩
end
end L2
set_option Elab.async false
set_option linter.all false
set_option maxRecDepth 100000
namespace L2
open PySem PySem.Spec PyProof.Rows
theorem absV_rel : ∀ {u : Value} {x : V}, absV u = some x → RelV x u := by
  intro u x h
  cases u <;> simp only [absV, Option.some.injEq] at h <;> first | (subst h; first | rfl | exact ⟨_, rfl⟩) | cases h
theorem absV_all : ∀ {us : List Value} {xs : List V}, us.mapM absV = some xs → Vals xs us := by
  intro us
  induction us with
  | nil => intro xs h; simp at h; subst h; exact .nil
  | cons u us ih =>
    intro xs h
    rw [List.mapM_cons] at h
    cases e1 : absV u with
    | none => rw [e1] at h; simp at h
    | some x =>
      cases e2 : us.mapM absV with
      | none => rw [e1, e2] at h; simp at h
      | some ys =>
        rw [e1, e2] at h
        simp at h
        subst h
        exact .cons (absV_rel e1) (ih e2)
def kTup (K : PySem.W.Frag) (a : Addr) : Option (List V) := match K.lookup a with
  | some ⟨.type n, _, .seq its _, _⟩ => if n = "tuple" then (if its.size ≤ sizeLine then its.toList.mapM absV else none) else none
  | _ => none
theorem kTup_sq {K : PySem.W.Frag} {H : Hp} {a : Addr} {xs : List V} (h : kTup K a = some xs) : SqT K H a xs := by
  unfold kTup at h
  split at h
  · next n dd its k sl e =>
    by_cases h1 : n = "tuple"
    · rw [if_pos h1] at h
      by_cases h2 : its.size ≤ sizeLine
      · rw [if_pos h2] at h
        subst h1
        exact .inr ⟨_, its, k, e, rfl, rfl, h2, absV_all h⟩
      · rw [if_neg h2] at h; cases h
    · rw [if_neg h1] at h; cases h
  · cases h
def tupQ (K : PySem.W.Frag) (H : Hp) (a : Addr) : Option (List V) := match H a with
  | some (.tup xs) => some xs
  | some _ => none
  | none => kTup K a
def seqQ (K : PySem.W.Frag) (H : Hp) (a : Addr) : Option (List V) := match H a with
  | some (.lst xs) => some xs
  | some (.tup xs) => some xs
  | some (.frz _ (.lst xs)) => some xs
  | some _ => none
  | none => kTup K a
section
variable {K : PySem.W.Frag} {H H' : Hp} {a b : Addr} {xs : List V} {o : HO}
theorem tupQ_sq (h : tupQ K H a = some xs) : SqT K H a xs := by
  unfold tupQ at h
  split at h
  · next e => cases h; exact .inl (.inl e)
  · cases h
  · exact kTup_sq h
theorem seqQ_sq (h : seqQ K H a = some xs) : SqL K H a xs ∨ SqT K H a xs := by
  unfold seqQ at h
  split at h
  · next e => cases h; exact .inl (.inl (.inl e))
  · next e => cases h; exact .inr (.inl (.inl e))
  · next e => cases h; exact .inl (.inl (.inr ⟨_, e⟩))
  · cases h
  · exact .inr (kTup_sq h)
theorem seqQ_T (h : tupQ K H a = some xs) : seqQ K H a = some xs := by
  unfold tupQ at h
  unfold seqQ
  split at h
  · next e => rw [e]; exact h
  · cases h
  · next e => rw [e]; exact h
theorem seqQ_lst (h : H a = some (.lst xs)) : seqQ K H a = some xs := by unfold seqQ; rw [h]
theorem seqQ_tup (h : H a = some (.tup xs)) : seqQ K H a = some xs := by unfold seqQ; rw [h]
theorem tupQ_tup (h : H a = some (.tup xs)) : tupQ K H a = some xs := by unfold tupQ; rw [h]
theorem seqQ_updL : seqQ K (upd H a (.lst xs)) a = some xs := seqQ_lst upd_same
theorem seqQ_updT : seqQ K (upd H a (.tup xs)) a = some xs := seqQ_tup upd_same
theorem tupQ_updT : tupQ K (upd H a (.tup xs)) a = some xs := tupQ_tup upd_same
structure Ext (K : PySem.W.Frag) (H H' : Hp) : Prop where
  same : Same H H'
  mod : ∀ a xs, H a = none → kTup K a = some xs → H' a = none
theorem Ext.refl : Ext K H H := ⟨Same.refl H, fun _ _ h _ => h⟩
theorem Ext.trans {H1 H2 : Hp} (x : Ext K H H1) (y : Ext K H1 H2) : Ext K H H2 := ⟨x.same.trans y.same, fun a xs h k => y.mod a xs (x.mod a xs h k) k⟩
theorem Ext.tup (x : Ext K H H') (h : tupQ K H a = some xs) : tupQ K H' a = some xs := by
  unfold tupQ at h ⊢
  split at h
  · next e => rw [x.same _ _ e]; exact h
  · cases h
  · next e => rw [x.mod a xs e h]; exact h
end
section
variable {X : Cx}
def rIxQ (K : PySem.W.Frag) : R2 := fun x y H Q => ∃ p i xs v, x = .ref p ∧ y = .int i ∧ seqQ K H p = some xs ∧ atI xs i = some v ∧ Q v H
theorem ix_Q : IxR X (rIxQ X.K) := by
  intro value slice pins s σ H x y v u Q I rx ry h hs
  obtain ⟨p, i, xs, z, rfl, rfl, hq, he, q⟩ := h
  rcases seqQ_sq (K := X.K) hq with h1 | h1
  · exact ix_list value slice pins s σ H _ _ v u Q I rx ry ⟨p, xs, i, z, rfl, rfl, h1, he, q⟩ hs
  · exact ix_tup value slice pins s σ H _ _ v u Q I rx ry ⟨p, xs, i, z, rfl, rfl, h1, he, q⟩ hs
theorem call_lenQ : CallR X (.builtin "len") (fun xs H Q => ∃ p ys, xs = [.ref p] ∧ seqQ X.K H p = some ys ∧ Q (.int ys.length) H) := by
  intro pins s σ H xs us Q I r h
  obtain ⟨p, ys, rfl, hq, q⟩ := h
  exact call_len_seq pins s σ H _ us Q I r ⟨p, ys, rfl, seqQ_sq hq, q⟩
end
end L2
namespace L2
open PySem PySem.Spec PyProof.Rows
def new (K : PySem.W.Frag) (H : Hp) (p : Addr) : Prop := H p = none ∧ kTup K p = none
theorem new_upd {K : PySem.W.Frag} {H : Hp} {a p : Addr} {o : HO} : new K (upd H a o) p ↔ p ≠ a ∧ new K H p := by
  unfold new
  rw [upd_none, and_assoc]
theorem kTup_none {K : PySem.W.Frag} {a : Addr} (h : K.lookup a = none) : kTup K a = none := by unfold kTup; rw [h]
section
variable {X : Cx} {es : List Expr} {t : TA} {pos : Pos} {pins : List (Addr × Obj)} {σ : St} {H : Hp} {s : Shared}
theorem Inv.new (I : Inv X pins σ H s) : L2.new X.K H s.heap.objs.size := by
  refine ⟨I.hok.fresh (Nat.le_refl _), kTup_none ?_⟩
  cases e : X.K.lookup s.heap.objs.size with
  | none => rfl
  | some o => exact absurd (Heap.lt_size (I.kIn _ o e)) (Nat.lt_irrefl _)
def tTupQ (K : PySem.W.Frag) (t : TA) : TE := fun σ H Q => t σ H fun xs H1 => xs.length ≤ sizeLine ∧ ∀ p, L2.new K H1 p → Q (.ref p) (upd H1 p (.tup xs))
def tLstQ (K : PySem.W.Frag) (t : TA) : TE := fun σ H Q => t σ H fun xs H1 => xs.length ≤ sizeLine ∧ ∀ p, L2.new K H1 p → Q (.ref p) (upd H1 p (.lst xs))
theorem etupQ {k} (h : JA X es t) : JE X (.Tuple es k pos) (tTupQ X.K t) := ⟨by
  intro pins s σ H Q I hq
  refine wpAny_Tuple_spliced (thn (h.h pos pins s σ H _ I hq) fun us s1 ⟨xs, H1, I1, r, z, q⟩ => ⟨by rw [← r.length]; exact z, ?_⟩)
  refine ⟨.ref s1.heap.objs.size, upd H1 s1.heap.objs.size (.tup xs), I1.laid (t' := s1.toks) (fun b u e => Heap.get?_push_of_some _ e) (Nat.le_refl _) ?_, rfl, q _ I1.new⟩
  exact ⟨z, us, r, ⟨_, Heap.get?_push_size _ rfl, rfl, _, rfl⟩⟩⟩
theorem elstQ (h : JA X es t) : JE X (.List es pos) (tLstQ X.K t) := ⟨by
  intro pins s σ H Q I hq
  refine wpAny_List_spliced (thn (h.h pos pins s σ H _ I hq) fun us s1 ⟨xs, H1, I1, r, z, q⟩ => ⟨by rw [← r.length]; exact z, ?_⟩)
  refine ⟨.ref s1.heap.objs.size, upd H1 s1.heap.objs.size (.lst xs), I1.laid (t' := s1.toks) (fun b u e => Heap.get?_push_of_some _ e) (Nat.le_refl _) ?_, rfl, q _ I1.new⟩
  exact ⟨z, us, 0, r, Heap.get?_push_size _ rfl⟩⟩
def rCatQ (K : PySem.W.Frag) : R2 := fun x y H Q => ∃ l b xs zs, x = .ref l ∧ y = .ref b ∧ H l = some (.lst xs) ∧ H b = some (.lst zs) ∧ xs.length + zs.length ≤ sizeLine ∧ ∀ p, L2.new K H p → Q (.ref p) (upd H p (.lst (xs ++ zs)))
theorem op_catQ : OpR X (binaryOp .Add) (rCatQ X.K) := by
  intro pins s σ H x y v u Q I rx ry h
  obtain ⟨l, b, xs, zs, rfl, rfl, hH, hB, hz, q⟩ := h
  cases rx
  cases ry
  obtain ⟨z, its, n, r, hl, e⟩ := I.lstM hH
  obtain ⟨z2, its2, n2, r2, hl2, e2⟩ := I.lstM hB
  refine PySem.P.add_list e e2 ?_ (by rw [List.size_toArray, List.size_toArray]; omega)
  have ea : its.toArray ++ its2.toArray = (its ++ its2).toArray := by simp
  rw [ea]
  exact ⟨.ref _, _, I.lnew (t' := s.toks) (r.append r2) (by rw [List.length_append]; omega), rfl, q _ I.new⟩
end
structure Kp (K : PySem.W.Frag) (p : Addr) (H H' : Hp) : Prop where
  keep : ∀ q o, H q = some o → q ≠ p → H' q = some o
  mod : ∀ a xs, H a = none → kTup K a = some xs → H' a = none
section
variable {K : PySem.W.Frag} {p a : Addr} {H H' H1 H2 : Hp} {xs ys : List V} {o : HO}
theorem Kp.refl : Kp K p H H := ⟨fun _ _ h _ => h, fun _ _ h _ => h⟩
theorem Kp.trans (x : Kp K p H H1) (y : Kp K p H1 H2) : Kp K p H H2 := ⟨fun q o h n => y.keep q o (x.keep q o h n) n, fun a xs h k => y.mod a xs (x.mod a xs h k) k⟩
theorem Kp.upd (h : H p = some (.lst xs)) : Kp K p H (upd H p o) := ⟨fun q u e n => by rw [upd_ne n]; exact e, fun b ys e _ => by rw [upd_ne (fun z => by rw [z, h] at e; cases e)]; exact e⟩
theorem Kp.new {q : Addr} (h : L2.new K H q) : Kp K p H (L2.upd H q o) := ⟨fun r u e _ => by rw [upd_ne (ne_of_none e h.1)]; exact e, fun b ys e k => by rw [upd_ne (fun z => by rw [z, h.2] at k; cases k)]; exact e⟩
theorem Kp.tup (x : Kp K p H H') (hp : H p = some (.lst ys)) (h : tupQ K H a = some xs) : tupQ K H' a = some xs := by
  unfold tupQ at h ⊢
  split at h
  · next e => rw [x.keep _ _ e (ne_of e hp (by intro z; cases z))]; exact h
  · cases h
  · next e => rw [x.mod a xs e h]; exact h
theorem Ext.new {q : Addr} (h : L2.new K H q) : Ext K H (L2.upd H q o) := ⟨fun b u e => by rw [upd_ne (ne_of_none e h.1)]; exact e, fun b ys e k => by rw [upd_ne (fun z => by rw [z, h.2] at k; cases k)]; exact e⟩
theorem Kp.ext (x : Kp K p (L2.upd H p o) H') (h : L2.new K H p) : Ext K H H' := by
  refine ⟨fun b u e => ?_, fun b ys e k => ?_⟩
  · have n : b ≠ p := ne_of_none e h.1
    exact x.keep b u (by rw [upd_ne n]; exact e) n
  · exact x.mod b ys (by rw [upd_ne (fun z => by rw [z, h.2] at k; cases k)]; exact e) k
theorem Ext.kp (x : Ext K H H') : Kp K p H H' := ⟨fun q o e _ => x.same q o e, x.mod⟩
end
end L2
namespace L2
open PySem PySem.Spec PyProof.Rows
section
variable {K : PySem.W.Frag} {p a : Addr} {H H' : Hp} {xs : List V}
end
end L2
namespace L2
open PySem PySem.Spec PyProof.Rows
def TyQ (K : PySem.W.Frag) (H : Hp) (x : V) (t : Value) : Prop := TyOf K H x t ∨ ∃ a xs, x = .ref a ∧ tupQ K H a = some xs ∧ t = .type "tuple"
theorem TyQ.tup {K : PySem.W.Frag} {H : Hp} {a : Addr} {xs : List V} (h : tupQ K H a = some xs) : TyQ K H (.ref a) (.type "tuple") := .inr ⟨a, xs, rfl, h, rfl⟩
section
variable {X : Cx}
theorem call_isinstQ : CallR X (.builtin "isinstance") (fun xs H Q => ∃ x n t b, xs = [x, .ty n] ∧ TyQ X.K H x t ∧ PySem.W.kitOne X.K t (.type n) = some b ∧ Q (.bl b) H) := by
  intro pins s σ H xs us Q I r h
  obtain ⟨x, n, t, b, rfl, ty, e, q⟩ := h
  obtain ⟨u, w', rfl, ru, rw'⟩ := vals2 r
  cases rw'
  rcases ty with ty | ⟨a, ys, rfl, hq, rfl⟩
  · exact isinst_ok I ru ty e fun tk => ⟨.bl b, H, I.tok tk, rfl, q⟩
  · cases (show u = Value.ref a from ru)
    obtain ⟨its, _, ⟨o, h1, h2, _⟩, _⟩ := I.tuple (tupQ_sq hq)
    exact PySem.W.kia_one PySem.W.kitx_tuple I.kIn ⟨o, h1, h2⟩ e (fun z => nomatch z) fun tk => ⟨.bl b, H, I.tok tk, rfl, q⟩
end
end L2
namespace L2
open PySem PySem.Spec PyProof.Rows
section
variable {X : Cx}
theorem op_notB : OpR X (compareOp .IsNot) (fun x y H Q => ∃ c d, x = .bl c ∧ y = .bl d ∧ Q (.bl (c != d)) H) := by
  intro pins s σ H x y v u Q I rx ry h
  obtain ⟨c, d, rfl, rfl, q⟩ := h
  cases rx
  cases ry
  exact isnot_bool ⟨.bl _, H, I, rfl, q⟩
def rInQ (K : PySem.W.Frag) (neg : Bool) : R2 := fun x y H Q => ∃ p xs, y = .ref p ∧ seqQ K H p = some xs ∧ flatV x = true ∧ xs.all flatV = true ∧ Q (.bl (if neg = true then !inV x xs else inV x xs)) H
theorem op_inQ : OpR X (compareOp .In) (rInQ X.K false) := by
  intro pins s σ H x y v u Q I rx ry h
  obtain ⟨p, xs, rfl, hq, fx, fs, q⟩ := h
  exact op_in_seq pins s σ H x _ v u Q I rx ry ⟨p, xs, rfl, seqQ_sq hq, fx, fs, q⟩
theorem op_notInQ : OpR X (compareOp .NotIn) (rInQ X.K true) := by
  intro pins s σ H x y v u Q I rx ry h
  obtain ⟨p, xs, rfl, hq, fx, fs, q⟩ := h
  exact op_notIn_seq pins s σ H x _ v u Q I rx ry ⟨p, xs, rfl, seqQ_sq hq, fx, fs, q⟩
end
end L2
namespace L2
open PySem PySem.Spec PyProof.Rows
def ModFree (K : PySem.W.Frag) (H : Hp) : Prop := ∀ b xs, kTup K b = some xs → H b = none
theorem kTup_look {K : PySem.W.Frag} {a : Addr} {xs : List V} (h : kTup K a = some xs) : ∃ o, K.lookup a = some o := by
  cases e : K.lookup a with
  | none => rw [kTup_none e] at h; cases h
  | some o => exact ⟨o, rfl⟩
theorem FnOk.mod {P : Program} {w : World} {K : PySem.W.Frag} {mg : Str → Option Value} {base : Heap} {CX : CXT} {k : Nat} {f : Addr} {fd : FuncData} {ps : List Str} {sp : Sp} (len : ∀ vs H Q E, sp vs H Q E → vs.length = ps.length)
    (F : FnOk P w K mg base CX k f fd ps (fun vs H Q E => sp vs H Q E ∧ ModFree K H)) : FnOk P w K mg base CX k f fd ps sp :=
  ⟨len, fun A outer s H args us vs Q E hr e0 hb r h => F.run A outer s H args us vs Q E hr e0 hb r ⟨h, fun b xs hk => by
    obtain ⟨o, e⟩ := kTup_look hk
    exact (e0.bs b o (e0.mod.kin b o e)).2⟩⟩
section
variable {P : Program} {w : World} {K : PySem.W.Frag} {mg : Str → Option Value} {base : Heap}
theorem Fun.okM {x qual : Str} {st : Stmt} {f : Addr} {fd : FuncData} {N ps : List Str} {k : Nat} {sp : Sp} (F : Fun K x qual st f fd) (S : FnScope N ps (defScope st)) (len : ∀ vs H Q E, sp vs H Q E → vs.length = ps.length)
    (hbody : ∀ (cdv : Value) (A : Around) (outer : List Env) (s : Shared) (H : Hp) (vs : List V) (Q : VK) (E : XK), Room k (A.deeper (envOfC qual (defScope st) s.heap.objs.size f cdv)) → ModFree K H → sp vs H Q E →
      ∃ t, JB (cxOf CX0 P w K mg base N qual (defScope st) f cdv A outer s H E).nox (defBody st) t ∧ t { nx := fun _ H' => Q .non H', rt := Q } (start N vs) H) : FnOk P w K mg base CX0 (k + 1) f fd ps sp :=
  FnOk.mod len (F.okJ S (fun vs H Q E h => len vs H Q E h.1) fun cdv A outer s H vs Q E hr h => hbody cdv A outer s H vs Q E hr h.2 h.1)
end
theorem ModFree.tup {K : PySem.W.Frag} {H : Hp} {a : Addr} {xs : List V} (m : ModFree K H) (h : kTup K a = some xs) : tupQ K H a = some xs := by
  unfold tupQ
  rw [m a xs h]
  exact h
theorem ModFree.ext {K : PySem.W.Frag} {H H' : Hp} (m : ModFree K H) (x : Ext K H H') : ModFree K H' := fun b xs h => x.mod b xs (m b xs h) h
end L2
namespace L2
open PySem PySem.Spec PyProof.Rows
section
variable {X : Cx} {tg : Expr}
end
section
variable {K : PySem.W.Frag} {ta : TA} {g : TG} {tb : TS} {D : Ends} {σ : St} {H : Hp} {lo stp : Int} {n : Nat}
end
end L2
namespace L2
open PySem PySem.Spec PyProof.Rows
section
variable {X : Cx}
def rSlQ (K : PySem.W.Frag) : V → Option Int → Option Int → Hp → VK → Prop := fun x lo hi H Q => ∃ a xs, x = .ref a ∧ SqL K H a xs ∧ ∀ p, L2.new K H p → Q (.ref p) (upd H p (.lst (cutV xs lo hi)))
theorem sl_listQ : SlR X (rSlQ X.K) := by
  intro pins s σ H x v vl vu lo hi sl Q I rx hs pl pu h
  obtain ⟨a, xs, rfl, hx, q⟩ := h
  cases rx
  obtain ⟨its, r, ht, hz⟩ := I.list hx
  have hlen := r.length
  refine ⟨"list", _, slot_list_getitem.lookup, ht.isList.typeIs, ?_⟩
  refine wpAny_getItem_list_slice ht.isList hs pl pu .none (by simp) ?_ (by rw [List.size_toArray] <;> omega)
  rw [slicePick_cut, ← hlen]
  refine ⟨.ref s.heap.objs.size, _, I.laid (t' := s.toks) (o := .lst (cutV xs lo hi)) (fun b ob q => Heap.get?_push_of_some _ q) (Nat.le_refl _) ?_, rfl, q _ I.new⟩
  exact ⟨Nat.le_trans (cutV_length xs lo hi) hz, _, 0, (r.drop (HT.sIx xs.length 0 lo)).take (HT.sIx xs.length xs.length hi - HT.sIx xs.length 0 lo), Heap.get?_push_size _ rfl⟩
end
end L2
set_option Elab.async false
set_option linter.all false
set_option maxRecDepth 100000
namespace L2
open PySem PySem.Spec PyProof.Rows
section
variable {X : Cx} {es : List Expr} {pos : Pos}
def gTupQ (K : PySem.W.Frag) (n : Nat) (t : TGs) : TG := fun v σ H Q => ∃ a xs, v = .ref a ∧ tupQ K H a = some xs ∧ xs.length = n ∧ t xs σ H Q
theorem gtupQ {k : Nat} {t : TGs} {n : Nat} (hc : X.calm = true) (h : JGs X es t) (hn : (assignEach es X.env).length = n := by rfl) (hst : (assignEach es X.env).findIdx? (·.1) = none := by rfl) : JG X (.Tuple es k pos) (gTupQ X.K n t) :=
  ⟨fun pins s σ H v u Q I r ⟨a, xs, e, h1, h2, h3⟩ => pg_tup hc h.h hn hst pins s σ H v u Q I r ⟨a, xs, e, tupQ_sq h1, h2, h3⟩⟩
end
theorem kTup_of {K : PySem.W.Frag} {a : Addr} {d : Option Addr} {its : Array Value} {k : Nat} {sl : Array (Option Value)} {xs : List V} (h : K.lookup a = some ⟨.type "tuple", d, .seq its k, sl⟩) (hz : its.size ≤ 1000) (e : its.toList.mapM absV = some xs) : kTup K a = some xs := by
  unfold kTup
  rw [h]
  simp only [if_true]
  rw [if_pos (small_le hz)]
  exact e
end L2
namespace L2
open PySem PySem.Spec PyProof.Rows
end L2
namespace L2
open PySem PySem.Spec PyProof.Rows
theorem Ext.at {K : PySem.W.Frag} {H H' : Hp} {a : Addr} {o : HO} (x : Ext K H H') (h : H a = some o) : H' a = some o := x.same _ _ h
theorem Ext.seqQ {K : PySem.W.Frag} {H H' : Hp} {a : Addr} {xs : List V} (x : Ext K H H') (h : seqQ K H a = some xs) : seqQ K H' a = some xs := by
  unfold L2.seqQ at h ⊢
  split at h
  · next e => rw [x.same _ _ e]; exact h
  · next e => rw [x.same _ _ e]; exact h
  · next e => rw [x.same _ _ e]; exact h
  · cases h
  · next e => rw [x.mod a xs e h]; exact h
end L2
namespace L2
open PySem PySem.Spec PyProof.Rows
structure Kp2 (K : PySem.W.Frag) (p q : Addr) (H H' : Hp) : Prop where
  keep : ∀ r o, H r = some o → r ≠ p → r ≠ q → H' r = some o
  mod : ∀ a xs, H a = none → kTup K a = some xs → H' a = none
section
variable {K : PySem.W.Frag} {p q : Addr} {H H' H1 H2 : Hp} {o o' : HO}
theorem Kp.l (x : Kp K p H H') : Kp2 K p q H H' := ⟨fun r o h n _ => x.keep r o h n, x.mod⟩
theorem Kp.r (x : Kp K q H H') : Kp2 K p q H H' := ⟨fun r o h _ n => x.keep r o h n, x.mod⟩
theorem Kp2.trans (x : Kp2 K p q H H1) (y : Kp2 K p q H1 H2) : Kp2 K p q H H2 := ⟨fun r o h n m => y.keep r o (x.keep r o h n m) n m, fun a xs h k => y.mod a xs (x.mod a xs h k) k⟩
theorem Kp2.ext (x : Kp2 K p q (L2.upd (L2.upd H p o) q o') H') (hp : L2.new K H p) (hq : L2.new K (L2.upd H p o) q) : Ext K H H' := by
  have y : Ext K H (L2.upd (L2.upd H p o) q o') := (Ext.new hp).trans (Ext.new hq)
  refine ⟨fun b u e => ?_, fun b ys e k => x.mod b ys (y.mod b ys e k) k⟩
  have n : b ≠ p := ne_of_none e hp.1
  have m : b ≠ q := ne_of_none ((Ext.new hp).at e) hq.1
  exact x.keep b u (y.at e) n m
end
end L2
set_option Elab.async false
set_option linter.all false
set_option maxRecDepth 100000
namespace L2
open PySem PySem.Spec PyProof.Rows
def closL (env : Env) : List (Str × NameKind) → List (Str × Addr) → List (Str × Addr)
  | [], cs => cs
  | (n, k) :: r, cs => closL env r (if (k == NameKind.free) = true then (match env.cells.lookup n with | some a => (n, a) :: cs | none => cs) else cs)
theorem closureFor_eq {scope : Scope} {env : Env} (h : ∀ x ∈ scope.names, x.2 = .free → ∃ c, env.cells.lookup x.1 = some c) : closureFor scope env = pure (closL env scope.names []) := by
  unfold closureFor
  generalize scope.names = names at h ⊢
  generalize ([] : List (Str × Addr)) = cs
  induction names generalizing cs with
  | nil => rfl
  | cons x r ih =>
    obtain ⟨n, k⟩ := x
    have ih' := fun cs => ih (cs := cs) fun x hx => h x (List.mem_cons_of_mem _ hx)
    simp only [List.forIn_cons]
    cases hk : (k == NameKind.free) with
    | false =>
      simp only [closL, hk]
      exact ih' cs
    | true =>
      obtain ⟨c, hc⟩ := h (n, k) (List.mem_cons_self) (by simpa using hk)
      simp only [closL, hk, hc, cellOf]
      exact ih' _
theorem closL_mem {env : Env} : ∀ {names : List (Str × NameKind)} {cs : List (Str × Addr)} {n : Str} {c : Addr}, (n, c) ∈ closL env names cs → (n, c) ∈ cs ∨ env.cells.lookup n = some c
  | [], cs, n, c, h => .inl h
  | (m, k) :: r, cs, n, c, h => by
    rw [closL] at h
    rcases closL_mem h with h | h
    · split at h
      · split at h
        · next a e =>
          rcases List.mem_cons.mp h with z | z
          · cases z; exact .inr e
          · exact .inl z
        · exact .inl h
      · exact .inl h
    · exact .inr h
theorem closL_sub {env : Env} : ∀ {names : List (Str × NameKind)} {cs : List (Str × Addr)} {p : Str × Addr}, p ∈ cs → p ∈ closL env names cs
  | [], cs, p, h => h
  | (m, k) :: r, cs, p, h => by
    rw [closL]
    refine closL_sub ?_
    split
    · split
      · exact List.mem_cons_of_mem _ h
      · exact h
    · exact h
theorem closL_has {env : Env} : ∀ {names : List (Str × NameKind)} {cs : List (Str × Addr)} {n : Str} {c : Addr}, (n, NameKind.free) ∈ names → env.cells.lookup n = some c → (n, c) ∈ closL env names cs
  | (m, k) :: r, cs, n, c, h, e => by
    rw [closL]
    rcases List.mem_cons.mp h with z | z
    · cases z
      rw [if_pos (by decide), e]
      exact closL_sub List.mem_cons_self
    · exact closL_has z e
theorem lookup_mem {α : Type} : ∀ {l : List (Str × α)} {n : Str} {c : α}, l.lookup n = some c → (n, c) ∈ l
  | (m, d) :: r, n, c, h => by
    rw [List.lookup_cons] at h
    cases e : n == m with
    | true =>
      rw [e] at h
      cases h
      rw [eq_of_beq e]
      exact List.mem_cons_self
    | false =>
      rw [e] at h
      exact List.mem_cons_of_mem _ (lookup_mem h)
theorem mem_lookup {α : Type} : ∀ {l : List (Str × α)} {n : Str} {c : α}, (n, c) ∈ l → ∃ d, l.lookup n = some d
  | (m, d) :: r, n, c, h => by
    rw [List.lookup_cons]
    cases e : n == m with
    | true => exact ⟨d, rfl⟩
    | false =>
      rcases List.mem_cons.mp h with z | z
      · cases z
        rw [beq_self_eq_true] at e; cases e
      · exact mem_lookup z
theorem clos_look {env : Env} {names : List (Str × NameKind)} {n : Str} {c : Addr} (h : (closL env names []).lookup n = some c) : env.cells.lookup n = some c := by
  rcases closL_mem (lookup_mem h) with z | z
  · cases z
  · exact z
theorem clos_has {env : Env} {names : List (Str × NameKind)} {n : Str} {c : Addr} (h : (n, NameKind.free) ∈ names) (e : env.cells.lookup n = some c) : (closL env names []).lookup n = some c := by
  obtain ⟨d, hd⟩ := mem_lookup (closL_has (cs := []) h e)
  rw [hd]
  exact (clos_look hd).symm.trans e ▸ rfl
theorem relabel_mem {env : Env} : ∀ {names : List (Str × NameKind)} {x : Str} {kk : NameKind}, (∀ y ∈ names, y.2 ≠ .cell) →
    (names.map fun (n, k) => if (k == NameKind.free && env.scope.kind == .function && env.kindOf n == some .cell) then (n, NameKind.cell) else (n, k)).lookup x = some kk → kk = .cell ∨ kk = .free → (x, NameKind.free) ∈ names
  | [], _, _, _, h, _ => by simp at h
  | (n, k) :: r, x, kk, hc, h, hk => by
    have ih := @relabel_mem env r x kk fun y hy => hc y (List.mem_cons_of_mem _ hy)
    change List.lookup x ((if (k == NameKind.free && env.scope.kind == .function && env.kindOf n == some .cell) = true then (n, NameKind.cell) else (n, k)) :: _) = _ at h
    cases hx : x == n with
    | true =>
      have e := eq_of_beq hx
      subst e
      split at h
      · next q =>
        simp only [Bool.and_eq_true, beq_iff_eq] at q
        rw [q.1.1]
        exact List.mem_cons_self
      · simp only [List.lookup_cons, hx] at h
        cases h
        rcases hk with z | z
        · exact absurd z (hc _ List.mem_cons_self)
        · rw [z]; exact List.mem_cons_self
    | false =>
      refine List.mem_cons_of_mem _ (ih ?_ hk)
      split at h
      · simp only [List.lookup_cons, hx] at h; exact h
      · simp only [List.lookup_cons, hx] at h; exact h
def Cx.comp (X : Cx) (N : List Str) (scope : Scope) (C : Addr) (s : Shared) (H : Hp) (fp : List Addr) : Cx :=
  { X with N := N, s₀ := s, H₀ := H, env := compEnvC scope (closL X.env scope.names []) C X.env, outer := X.stack, ex := fp, fn := fun _ => false, pn := [], xe := fun _ _ => False }
def pick (σ : St) (src : List (Option Nat)) : St := src.map fun o => match o with | none => none | some j => (σ[j]?).join
def capOk (NX : List Str) (scX sc : Scope) (N : List Str) (src : List (Option Nat)) : Bool :=
  sc.names.all (fun x => x.2 != .cell) && sc.names.all (fun x => x.2 != .local || sc.names.lookup x.1 == some .local) &&
  sc.names.all (fun x => x.2 != .free || (scX.names.lookup x.1 == some .cell || scX.names.lookup x.1 == some .free)) && N.length == src.length &&
  (N.zip src).all (fun p => match p.2 with | none => true | some j => NX[j]? == some p.1 && (scX.names.lookup p.1 == some .cell || scX.names.lookup p.1 == some .free) && sc.names.lookup p.1 == some .free)
structure Cap (X : Cx) (sc : Scope) (N : List Str) (src : List (Option Nat)) : Prop where
  kind : sc.kind = .function
  ok : capOk X.N X.env.scope sc N src = true
section
variable {X : Cx} {sc : Scope} {N : List Str} {src : List (Option Nat)}
theorem Cap.cell (c : Cap X sc N src) : ∀ y ∈ sc.names, y.2 ≠ .cell := fun y hy => by
  have h := c.ok
  simp only [capOk, Bool.and_eq_true, List.all_eq_true] at h
  simpa using h.1.1.1.1 y hy
theorem Cap.names (c : Cap X sc N src) : ∀ y ∈ sc.names, y.2 = .local → sc.names.lookup y.1 = some .local := fun y hy e => by
  have h := c.ok
  simp only [capOk, Bool.and_eq_true, List.all_eq_true] at h
  have q := h.1.1.1.2 y hy
  rw [e] at q
  simpa using q
theorem Cap.free (c : Cap X sc N src) {x : Str} (hx : (x, NameKind.free) ∈ sc.names) : X.env.kindOf x = some .cell ∨ X.env.kindOf x = some .free := by
  have h := c.ok
  simp only [capOk, Bool.and_eq_true, List.all_eq_true] at h
  have q := h.1.1.2 _ hx
  simpa [Env.kindOf] using q
theorem Cap.len (c : Cap X sc N src) : N.length = src.length := by
  have h := c.ok
  simp only [capOk, Bool.and_eq_true, List.all_eq_true] at h
  simpa using h.1.2
theorem Cap.at_ (c : Cap X sc N src) {i j : Nat} {x : Str} (h1 : N[i]? = some x) (h2 : src[i]? = some (some j)) : X.N[j]? = some x ∧ (X.env.kindOf x = some .cell ∨ X.env.kindOf x = some .free) ∧ sc.names.lookup x = some .free := by
  have h := c.ok
  simp only [capOk, Bool.and_eq_true, List.all_eq_true] at h
  have m : (x, some j) ∈ N.zip src := by
    refine List.mem_of_getElem? (i := i) ?_
    rw [List.getElem?_zip_eq_some]
    exact ⟨h1, h2⟩
  have q := h.2 _ m
  simp only [Bool.and_eq_true, Bool.or_eq_true, beq_iff_eq] at q
  exact ⟨q.1.1, q.1.2, q.2⟩
theorem pick_some {σ : St} {i : Nat} {v : V} (h : (pick σ src)[i]? = some (some v)) : ∃ j, src[i]? = some (some j) ∧ σ[j]? = some (some v) := by
  unfold pick at h
  rw [List.getElem?_map] at h
  cases e : src[i]? with
  | none => rw [e] at h; cases h
  | some o =>
    rw [e] at h
    cases o with
    | none => simp at h
    | some j =>
      refine ⟨j, rfl, ?_⟩
      simp only [Option.map_some, Option.some.injEq] at h
      cases e2 : σ[j]? with
      | none => rw [e2] at h; cases h
      | some w =>
        rw [e2] at h
        simp only [Option.join] at h
        exact congrArg some h
theorem Cx.Ok.comp {pins : List (Addr × Obj)} {σ : St} {H : Hp} {s : Shared} {fp : List Addr} {C : Addr} (I : Inv X pins σ H s) (c : Cap X sc N src) (hf : ∀ b ∈ fp, FpOk X pins H b) (ho : ∀ b ∈ fp, ∃ o, s.heap.get? b = some o) (hC : s.heap.objs.size ≤ C) : (X.comp N sc C s H fp).Ok where
  mod := I.ok.mod
  kind := c.kind
  glob := I.ok.glob
  blt := I.ok.blt
  above := hC
  inj := fun x y a h h' => I.ok.inj x y a (clos_look h) (clos_look h')
  has := fun x h => by
    have m : (x, NameKind.free) ∈ sc.names := by
      rcases h with h | h
      · exact relabel_mem c.cell h (.inl rfl)
      · exact relabel_mem c.cell h (.inr rfl)
    obtain ⟨a, ha⟩ := I.ok.has x (c.free m)
    exact ⟨a, clos_has m ha⟩
  cab := fun _ _ h => nomatch h
  hd := I.ok.hd
  frames := I.ok.frames
  stk := .inl rfl
  exf := fun b hb => by
    obtain ⟨o, e⟩ := ho b hb
    exact ⟨Nat.ne_of_lt (Nat.lt_of_lt_of_le (Heap.lt_size e) hC), fun x a h => (hf b hb).2.2.2.2.1 x a (clos_look h)⟩
  bs := I.bs
  bsz := Nat.le_trans I.ok.bsz I.sz
  noex := fun b o e hb => by
    rcases (hf b hb).2.2.2.1 with z | z
    · exact I.ok.noex b o e z
    · exact absurd (Nat.lt_of_lt_of_le (Heap.lt_size e) (Nat.le_trans I.ok.bsz z)) (Nat.lt_irrefl _)
  exfs := fun b hb z => by
    rcases List.mem_cons.mp (I.stkSub b z) with q | q
    · exact (hf b hb).2.1 q
    · exact (hf b hb).2.2.1 q
  funs := I.stack
  frf := I.stkFree
end
section
variable {prog : Program} {w : World} {A : Around} {R : Result → Shared → Prop} {s : Shared}
end
def PF (X : Cx) (ifs : List Expr) (t : TT) : Prop :=
  ∀ (pins : List (Addr × Obj)) (s : Shared) (σ : St) (H : Hp) (Q : Bool → Hp → Prop), Inv X pins σ H s → t σ H Q →
    wpAny (model X.prog X.w) X.A (forIn ifs true fun c r => if r = true then do let ok ← isTrue c X.env (eval c X.env); pure (ForInStep.yield ok) else pure (ForInStep.yield r)) (TP X pins σ Q) X.xe s
structure JF (X : Cx) (ifs : List Expr) (t : TT) : Prop where h : PF X ifs t
section
variable {X : Cx} {sc : Scope} {N : List Str} {src : List (Option Nat)} {tg iter elt : Expr} {ifs : List Expr} {wi : TI} {g : TG} {tt : TT} {te : TE} {pos : Pos}
end
end L2
namespace L2
open PySem PySem.Spec PyProof.Rows
theorem pick_nil {σ : St} : pick σ [] = [] := rfl
theorem pick_own {σ : St} {r : List (Option Nat)} : pick σ (none :: r) = none :: pick σ r := rfl
theorem pick_cap {σ : St} {j : Nat} {r : List (Option Nat)} : pick σ (some j :: r) = (σ[j]?).join :: pick σ r := rfl
theorem join_some {α : Type} {o : Option α} : (some o).join = o := rfl
section
variable {K : PySem.W.Frag} {g : TG} {tt : TT} {te : TE} {D a : Addr} {Q : Hp → Prop} {σ : St} {H : Hp} {xs : List V} {lo : Int} {n : Nat}
end
end L2
namespace L2
open PySem PySem.Spec PyProof.Rows
section
variable {X : Cx} {es : List Expr} {t : TA} {pos : Pos} (K : PySem.W.Frag)
theorem ix_QK (hk : X.K = K := by rfl) : IxR X (rIxQ K) := by subst hk; exact ix_Q
theorem etupQK {k} (h : JA X es t) (hk : X.K = K := by rfl) : JE X (.Tuple es k pos) (tTupQ K t) := by subst hk; exact etupQ h
theorem elstQK (h : JA X es t) (hk : X.K = K := by rfl) : JE X (.List es pos) (tLstQ K t) := by subst hk; exact elstQ h
theorem op_catQK (hk : X.K = K := by rfl) : OpR X (binaryOp .Add) (rCatQ K) := by subst hk; exact op_catQ
end
end L2
namespace L2
open PySem PySem.Spec PyProof.Rows
section
variable {X : Cx} {pins : List (Addr × Obj)} {σ : St} {H : Hp} {s : Shared}
theorem Inv.notMod (I : Inv X pins σ H s) {a : Addr} {o : HO} (h : H a = some o) : kTup X.K a = none := by
  cases e : kTup X.K a with
  | none => rfl
  | some xs =>
    obtain ⟨ob, q⟩ := kTup_look e
    rw [(I.bs a ob (I.ok.mod.kin a ob q)).2] at h
    cases h
theorem call_list_ofQ : CallR X (.type "list") (fun xs H Q => ∃ p ys, xs = [.ref p] ∧ seqQ X.K H p = some ys ∧ ∀ l, L2.new X.K H l → Q (.ref l) (upd H l (.lst ys))) := by
  intro pins s σ H xs us Q I r h
  obtain ⟨p, ys, e, hq, q⟩ := h
  refine thn (call_list_of pins s σ H xs us (fun v H' => ∃ l, H l = none ∧ v = .ref l ∧ H' = upd H l (.lst ys)) I r ⟨p, ys, e, seqQ_sq hq, fun l hl => ⟨l, hl, rfl, rfl⟩⟩) fun u s' ⟨v, H', I', rv, l, hl, e1, e2⟩ => ?_
  subst e1 e2
  exact ⟨_, _, I', rv, q l ⟨hl, I'.notMod upd_same⟩⟩
end
theorem Kp2.kp {K : PySem.W.Frag} {p D : Addr} {H H' : Hp} {o : HO} (k : Kp2 K p D (upd H D o) H') (n : L2.new K H D) : Kp K p H H' := by
  refine ⟨fun q u e m => ?_, fun b ys e m => k.mod b ys ((Ext.new n).mod b ys e m) m⟩
  have d : q ≠ D := ne_of_none e n.1
  exact k.keep q u (by rw [upd_ne d]; exact e) m d
theorem Kp2.refl {K : PySem.W.Frag} {p D : Addr} {H : Hp} : Kp2 K p D H H := ⟨fun _ _ h _ _ => h, fun _ _ h _ => h⟩
end L2
set_option Elab.async false
set_option linter.all false
set_option maxRecDepth 100000
namespace L2
open PySem PySem.Spec PyProof.Rows
def gk {α : Type} (n m : Nat) (us ws : List α) : List α := if us.length = n ∧ ws.length = m then us ++ ws else []
structure JK (X : Cx) (kws : List Keyword) (t : TA) : Prop where h : PK X kws t
structure CalleeK (P : Program) (w : World) (K : PySem.W.Frag) (mg : Str → Option Value) (base : Heap) (x : Str) (k : Nat) (ps : List Str) (ks : List Str) (n m : Nat) (sp : Sp) : Prop where
  ex : ∃ (f : Addr) (fd : FuncData), FnOk P w K mg base CX0 k f fd ps sp ∧ KBinds K fd ps ks (gk n m) (gk n m) ∧ PySem.W.keepIn K (.ref f) = true ∧ mg x = some (.ref f)
structure CalleeD (P : Program) (w : World) (K : PySem.W.Frag) (mg : Str → Option Value) (base : Heap) (x : Str) (k : Nat) (ps : List Str) (dvs : List V) (sp : Sp) : Prop where
  ex : ∃ (f : Addr) (fd : FuncData) (ds : List Value), FnOk P w K mg base CX0 k f fd ps sp ∧ Binds K fd ps ds ∧ Vals dvs ds ∧ PySem.W.keepIn K (.ref f) = true ∧ mg x = some (.ref f)
section
variable {X : Cx} {x : Str} {k n m : Nat} {ps ks : List Str} {dvs : List V} {sp : Sp} {e : Expr} {es : List Expr} {kws : List Keyword} {t tk : TA} {te : TE} {p pos kpos : Pos} {nm : Option Str}
end
end L2
namespace L2
open PySem PySem.Spec PyProof.Rows
end L2
namespace L2
open PySem PySem.Spec PyProof.Rows
section
variable {K : PySem.W.Frag} {s : Shared} {fd : FuncData} {args : Args} {binds : List (Str × Value)} {d : Addr} {name : Str} {v cls : Value} {es : Array DictEntry} {ep : Nat} {od : Option Addr} {sl : Array (Option Value)} {α β : Type}
end
end L2
set_option Elab.async false
set_option linter.all false
set_option maxRecDepth 100000
namespace L2
open PySem PySem.Spec PyProof.Rows
section
variable {X : Cx} {o lo hi e : Expr} {to tl th te : TE} {p pos : Pos}
end
end L2
namespace L2
open PySem PySem.Spec PyProof.Rows
section
variable {X : Cx}
def rSlTQ (K : PySem.W.Frag) : V → Option Int → Option Int → Hp → VK → Prop := fun x lo hi H Q => ∃ a xs, x = .ref a ∧ tupQ K H a = some xs ∧
  ¬ (HT.sIx xs.length 0 lo = 0 ∧ HT.sIx xs.length xs.length hi = xs.length) ∧ ∀ p, L2.new K H p → Q (.ref p) (upd H p (.tup (cutV xs lo hi)))
theorem sl_tupQ : SlR X (rSlTQ X.K) := by
  intro pins s σ H x v vl vu lo hi sl Q I rx hs pl pu h
  obtain ⟨a, xs, rfl, hx, hw, q⟩ := h
  obtain ⟨T, id, h1, h2, h3⟩ := sl_tup pins s σ H (.ref a) v vl vu lo hi sl (fun v' H' => ∃ l, H l = none ∧ v' = .ref l ∧ H' = upd H l (.tup (cutV xs lo hi))) I rx hs pl pu ⟨a, xs, rfl, tupQ_sq hx, hw, fun l hl => ⟨l, hl, rfl, rfl⟩⟩
  refine ⟨T, id, h1, h2, thn h3 fun u s' ⟨v', H', I', rv, l, hl, e1, e2⟩ => ?_⟩
  subst e1 e2
  exact ⟨_, _, I', rv, q l ⟨hl, I'.notMod upd_same⟩⟩
end
end L2
set_option Elab.async false
set_option linter.all false
set_option maxRecDepth 100000
namespace L2
open PySem PySem.Spec PyProof.Rows
abbrev TBd := List V → St → Hp → (List V → St → Hp → Prop) → Prop
section
variable {elt tg iter tg1 iter1 : Expr} {ifs ifs1 : List Expr} {scope : Scope} {pos : Pos} {it acc : Value} {env : Env}
variable {prog : Program} {w : World} {A : Around} {R : Result → Shared → Prop} {s : Shared}
end
section
variable {Y : Cx} {elt tg iter tg1 iter1 : Expr} {ifs ifs1 : List Expr} {scope : Scope} {pos : Pos} {g : TG} {tt : TT} {te : TE}
end
section
variable {X : Cx} {sc : Scope} {N : List Str} {src : List (Option Nat)} {tg iter tg1 iter1 elt : Expr} {ifs ifs1 : List Expr} {wi wi1 : TI} {g g1 : TG} {tt tt1 : TT} {te : TE} {pos : Pos}
end
section
variable {K : PySem.W.Frag} {g : TG} {tt : TT} {body : TBd} {a : Addr} {acc0 : List V} {F : List V → St → Hp → Prop} {σ : St} {H : Hp} {xs : List V} {n : Nat}
end
end L2
set_option Elab.async false
set_option linter.all false
set_option maxRecDepth 100000
namespace L2
open PySem PySem.Spec PyProof.Rows
section
variable {X : Cx}
end
section
variable {P : Program} {w : World} {A : Around} {E : Value → Shared → Prop} {s : Shared} {b0 : Array Keyed}
end
section
variable {X : Cx}
end
end L2
set_option Elab.async false
set_option linter.all false
set_option maxRecDepth 100000
namespace L2
open PySem PySem.Spec PyProof.Rows
def Rise (xs : Array Nat) : Prop := xs.toList.Pairwise (· < ·)
structure TabOk (t : SetTable) : Prop where
  bare : t.dummies = #[]
  rise : Rise t.place
section
variable {xs : Array Nat} {j : Nat}
theorem Rise.lt (h : Rise xs) {i k : Nat} (ik : i < k) (hk : k < xs.size) : xs.getD i j < xs.getD k j := by
  have hi : i < xs.size := Nat.lt_trans ik hk
  rw [Array.getD_eq_getD_getElem?, Array.getD_eq_getD_getElem?, Array.getElem?_eq_getElem hi, Array.getElem?_eq_getElem hk]
  have q := List.pairwise_iff_getElem.mp h i k (by simpa using hi) (by simpa using hk) ik
  simpa using q
theorem low_lt (h : Rise xs) {m : Nat} (hm : xs.getD m j < j) {i : Nat} (hi : i ≤ m) : xs.getD i j < j := by
  by_cases c : m < xs.size
  · by_cases e : i = m
    · rw [e]; exact hm
    · have := h.lt (j := j) (show i < m by omega) c
      omega
  · rw [Array.getD_eq_getD_getElem?, Array.getElem?_eq_none (by omega)] at hm
    exact absurd hm (Nat.lt_irrefl _)
theorem high_ge (h : Rise xs) {m : Nat} (hm : ¬ xs.getD m j < j) {i : Nat} (hi : m ≤ i) : ¬ xs.getD i j < j := fun c => hm (low_lt h c hi)
theorem below_go (h : Rise xs) : ∀ fuel lo hi, lo ≤ hi → hi ≤ xs.size → hi - lo ≤ fuel → (∀ i, i < lo → xs.getD i j < j) → (∀ i, hi ≤ i → ¬ xs.getD i j < j) →
    SetTable.below.go xs j fuel lo hi ≤ xs.size ∧ (∀ i, i < SetTable.below.go xs j fuel lo hi → xs.getD i j < j) ∧ ∀ i, SetTable.below.go xs j fuel lo hi ≤ i → ¬ xs.getD i j < j
  | 0, lo, hi, h1, h2, h3, h4, h5 => by
    have e : lo = hi := by omega
    unfold SetTable.below.go
    exact ⟨by omega, h4, fun i hi' => h5 i (by omega)⟩
  | fuel + 1, lo, hi, h1, h2, h3, h4, h5 => by
    unfold SetTable.below.go
    by_cases c : lo < hi
    · rw [if_pos c]
      dsimp only
      by_cases d : xs.getD ((lo + hi) / 2) j < j
      · rw [if_pos d]
        exact below_go h fuel _ _ (by omega) h2 (by omega) (fun i hi' => low_lt h d (by omega)) h5
      · rw [if_neg d]
        exact below_go h fuel _ _ (by omega) (by omega) (by omega) h4 (fun i hi' => high_ge h d hi')
    · rw [if_neg c]
      exact ⟨by omega, h4, fun i hi' => h5 i (by omega)⟩
theorem below_spec (h : Rise xs) (j : Nat) : SetTable.below xs j ≤ xs.size ∧ (∀ i, i < SetTable.below xs j → xs.getD i j < j) ∧ ∀ i, SetTable.below xs j ≤ i → ¬ xs.getD i j < j := by
  unfold SetTable.below
  refine below_go h _ _ _ (Nat.zero_le _) (Nat.le_refl _) (by omega) (fun i hi => absurd hi (Nat.not_lt_zero _)) (fun i hi => ?_)
  rw [Array.getD_eq_getD_getElem?, Array.getElem?_eq_none hi]
  exact Nat.lt_irrefl _
theorem Rise.insert (h : Rise xs) {j : Nat} (free : xs[SetTable.below xs j]? ≠ some j) : Rise (SetTable.insertAt xs (SetTable.below xs j) j) := by
  obtain ⟨b1, b2, b3⟩ := below_spec h j
  generalize SetTable.below xs j = p at *
  have at_ : ∀ i (hi : i < xs.size), xs.getD i j = xs.toList[i]'(by simpa using hi) := fun i hi => by
    rw [Array.getD_eq_getD_getElem?, Array.getElem?_eq_getElem hi]; simp
  unfold Rise SetTable.insertAt
  rw [Array.toList_append, Array.toList_push, Array.toList_extract, Array.toList_extract]
  simp only [List.extract_eq_drop_take, Nat.sub_zero, List.drop_zero]
  have e1 : List.take (xs.size - p) (List.drop p xs.toList) = xs.toList.drop p := List.take_of_length_le (by rw [List.length_drop]; simp)
  rw [e1, List.append_assoc]
  refine List.pairwise_append.mpr ⟨h.sublist (List.take_sublist _ _), ?_, ?_⟩
  · refine List.pairwise_append.mpr ⟨List.pairwise_singleton _ _, h.sublist (List.drop_sublist _ _), fun a ha c hc => ?_⟩
    have ea : a = j := by simpa using ha
    subst ea
    obtain ⟨i, hi, rfl⟩ := List.mem_iff_getElem.mp hc
    rw [List.length_drop] at hi
    rw [List.getElem_drop]
    have hlt : p + i < xs.size := by simp at hi; omega
    have q := b3 (p + i) (by omega)
    rw [at_ _ hlt] at q
    by_cases z : i = 0
    · subst z
      have ne : xs.toList[p + 0]'(by simpa using hlt) ≠ a := fun e => free (by
        rw [Array.getElem?_eq_getElem (by simpa using hlt)]
        simpa using e)
      omega
    · have hp : p < xs.size := by omega
      have q0 := b3 p (Nat.le_refl _)
      have q1 := h.lt (j := a) (show p < p + i by omega) hlt
      rw [at_ _ hlt] at q1
      omega
  · intro a ha c hc
    obtain ⟨i, hi, rfl⟩ := List.mem_iff_getElem.mp ha
    rw [List.length_take] at hi
    rw [List.getElem_take]
    have hlt : i < xs.size := by simp at hi; omega
    have qa := b2 i (by omega)
    rw [at_ _ hlt] at qa
    rcases List.mem_append.mp hc with z | z
    · have e : c = j := by simpa using z
      rw [e]; exact qa
    · obtain ⟨k, hk, rfl⟩ := List.mem_iff_getElem.mp z
      rw [List.length_drop] at hk
      rw [List.getElem_drop]
      exact List.pairwise_iff_getElem.mp h i (p + k) _ _ (by omega)
end
theorem has_none (j : Nat) : SetTable.has #[] j = false := by simp [SetTable.has]
theorem TabOk.slot {t : SetTable} (h : TabOk t) {j : Nat} (e : t.slot j = .empty) : t.place[SetTable.below t.place j]? ≠ some j := by
  intro c
  unfold SetTable.slot at e
  simp only [c, beq_self_eq_true, if_true] at e
  cases e
theorem probe_free {t : SetTable} (h : TabOk t) {f : Nat → Int} {x : Int} : ∀ (fuel : Nat) (p : SetTable.Probe) {j : Nat} {d : Option Nat}, p.dummy = none → SetTable.probe.go t f x fuel p = some (.empty j d) → d = none ∧ t.slot j = .empty
  | 0, p, j, d, hp, e => by unfold SetTable.probe.go at e; cases e
  | fuel + 1, p, j, d, hp, e => by
    unfold SetTable.probe.go at e
    have adv : (t.advance p).dummy = none := by unfold SetTable.advance; split <;> exact hp
    cases c : t.slot p.j with
    | empty =>
      rw [c] at e
      dsimp only at e
      cases e
      exact ⟨hp, c⟩
    | dummy =>
      exfalso
      unfold SetTable.slot at c
      dsimp only at c
      split at c
      · cases c
      · rw [h.bare, has_none] at c
        simp at c
    | live i =>
      rw [c] at e
      dsimp only at e
      split at e
      · cases e
      · exact probe_free h fuel _ adv e
theorem TabOk.standIn {t : SetTable} (n : Nat) : TabOk (t.standIn n) := ⟨rfl, by
  show (Array.range n).toList.Pairwise (· < ·)
  rw [Array.toList_range]
  exact List.pairwise_lt_range⟩
theorem TabOk.orStandIn {t : SetTable} (h : TabOk t) (n : Nat) : TabOk (t.orStandIn n) := by
  unfold SetTable.orStandIn
  split
  · exact h
  · exact .standIn n
theorem TabOk.put {t : SetTable} (h : TabOk t) {j : Nat} (e : t.slot j = .empty) : TabOk (t.put j).1 := ⟨by
  show (if SetTable.has t.dummies j then _ else t.dummies) = #[]
  rw [h.bare, has_none]
  rfl, h.rise.insert (h.slot e)⟩
theorem layNew_tab {t : SetTable} (h : TabOk t) (es : Array (Int × Value)) (hv : Int) (x : Value) : TabOk (layNew t es hv x).2.1 ∧ (layNew t es hv x).2.1.led = t.led := by
  unfold layNew
  cases c : t.freeSlot hv with
  | none => exact ⟨.standIn _, rfl⟩
  | some q =>
    obtain ⟨sl, wd⟩ := q
    have free : t.slot sl = .empty := by
      unfold SetTable.freeSlot at c
      split at c
      · next j d e =>
        unfold SetTable.probe at e
        obtain ⟨rfl, z⟩ := probe_free h _ _ rfl e
        simp only [Option.getD_none, Option.isSome_none, Option.some.injEq, Prod.mk.injEq] at c
        rw [← c.1]; exact z
      · cases c
    dsimp only
    refine ⟨(h.put free).orStandIn _, ?_⟩
    unfold SetTable.orStandIn
    split
    · rfl
    · rfl
theorem laid_rise (f : Nat → Option Nat) : ∀ l : List Nat, l.Pairwise (· < ·) → ((l.filterMap fun j => (f j).map (j, ·)).map (·.1)).Pairwise (· < ·) ∧ ∀ a ∈ (l.filterMap fun j => (f j).map (j, ·)).map (·.1), a ∈ l
  | [], _ => ⟨List.Pairwise.nil, fun a h => nomatch h⟩
  | j :: l, h => by
    obtain ⟨i1, i2⟩ := laid_rise f l (List.pairwise_cons.mp h).2
    cases c : f j with
    | none =>
      rw [List.filterMap_cons_none (by rw [c]; rfl)]
      exact ⟨i1, fun a ha => List.mem_cons_of_mem _ (i2 a ha)⟩
    | some k =>
      rw [List.filterMap_cons_some (b := (j, k)) (by rw [c]; rfl)]
      refine ⟨List.pairwise_cons.mpr ⟨fun a ha => (List.pairwise_cons.mp h).1 a (i2 a ha), i1⟩, fun a ha => ?_⟩
      rcases List.mem_cons.mp ha with z | z
      · exact z ▸ List.mem_cons_self
      · exact List.mem_cons_of_mem _ (i2 a z)
theorem relayAll_tab {t : SetTable} (es : Array (Int × Value)) (n : Nat) : TabOk (relayAll t es n).2.1 ∧ (relayAll t es n).2.1.led = t.led := by
  unfold relayAll
  cases c : t.relaid (es.map (·.1)) n with
  | none => exact ⟨.standIn _, rfl⟩
  | some q =>
    obtain ⟨t', order⟩ := q
    dsimp only
    split
    · unfold SetTable.relaid SetTable.laid at c
      cases d : SetTable.layClean (SetTable.sizeAbove n - 1) (es.map (·.1)) with
      | none => rw [d] at c; cases c
      | some owner =>
        rw [d] at c
        simp only [Option.bind_eq_bind, Option.bind_some, Option.pure_def, Option.some.injEq, Prod.mk.injEq] at c
        rw [← c.1]
        refine ⟨⟨rfl, ?_⟩, rfl⟩
        exact (laid_rise (fun j => owner.getD j none) _ List.pairwise_lt_range).1
    · exact ⟨.standIn _, rfl⟩
def ksOf (es : Array (Int × Value)) : List Int := es.toList.map fun e => numOf e.2
structure SetAt (P : Program) (w : World) (h : Heap) (a : Addr) (L : Bool) (M : Int → Prop) (n : Nat) (es : Array (Int × Value)) (ep : Nat) (t : SetTable) : Prop where
  at_ : ∃ o, h.get? a = some o ∧ o.ExactSet ∧ o.data = .set es ep t
  elems : ElemsOf (intKind P w) es.toList
  nd : (ksOf es).Nodup
  mem : ∀ k, k ∈ ksOf es ↔ M k
  len : es.size ≤ n
  fits : t.fits es.size = true
  tab : TabOk t
  led : t.led = L
def SetI (P : Program) (w : World) (h : Heap) (a : Addr) (L : Bool) (M : Int → Prop) (n : Nat) : Prop := ∃ es ep t, SetAt P w h a L M n es ep t
section
variable {P : Program} {w : World} {A : Around} {E : Value → Shared → Prop} {s : Shared}
theorem SetI.keep {h h' : Heap} {a : Addr} {L : Bool} {M : Int → Prop} {n : Nat} (q : SetI P w h a L M n) (k : ∀ o, h.get? a = some o → h'.get? a = some o) : SetI P w h' a L M n := by
  obtain ⟨es, ep, t, x⟩ := q
  obtain ⟨o, h1, h2⟩ := x.at_
  exact ⟨es, ep, t, ⟨⟨o, k o h1, h2⟩, x.elems, x.nd, x.mem, x.len, x.fits, x.tab, x.led⟩⟩
theorem is_num {k : Int} {v : Value} (h : (intKind P w).is k v = true) : numOf v = k ∧ ∃ t, v = .int k t := by
  obtain ⟨t, rfl⟩ := Value.isInt_shape h
  exact ⟨rfl, t, rfl⟩
theorem set_stored {h : Heap} {a : Addr} {o : Obj} {es0 es : Array (Int × Value)} {ep : Nat} {t0 t : SetTable} (ho : h.get? a = some o) (hx : o.ExactSet) (hd : o.data = .set es0 ep t0) :
    ∃ o', (h.update a (Obj.putSet es t)).get? a = some o' ∧ o'.ExactSet ∧ o'.data = .set es (ep + 1) t := by
  refine ⟨{ o with data := .set es (ep + 1) t }, ?_, hx, rfl⟩
  have g := Heap.get?_update_self (Obj.putSet es t) ho (by rw [putSet_of es t hd]; rfl)
  rwa [putSet_of es t hd] at g
theorem add_end {g : Bool → Sem Unit} (hg : ∀ (b : Bool) (s1 : Shared) (R : Unit → Shared → Prop), R () s1 → wpAny (model P w) A (g b) R E s1) {a : Addr} {o : Obj} {es0 es : Array (Int × Value)} {ep : Nat} {t0 t : SetTable} {L : Bool} {M : Int → Prop} {n : Nat} {wd : Bool} {R : Option Bool → Shared → Prop}
    (ho : s.heap.get? a = some o) (hx : o.ExactSet) (hd : o.data = .set es0 ep t0) (h1 : ElemsOf (intKind P w) es.toList) (h2 : (ksOf es).Nodup) (h3 : ∀ k, k ∈ ksOf es ↔ M k) (h4 : es.size ≤ n) (h5 : t.fits es.size = true) (h6 : TabOk t) (h7 : t.led = L) (hn : n < scanBound)
    (q : ∀ h', Heap.SameBut a s.heap h' → SetI P w h' a L M n → R (some true) { s with heap := h' }) :
    wpAny (model P w) A (do
      storeSet a es t
      if (!wd && t.tooFull) = true then do
        g (relayAll t es (SetTable.grown es.size)).2.2
        storeSet a (relayAll t es (SetTable.grown es.size)).1 (relayAll t es (SetTable.grown es.size)).2.1
        pure (some true)
      else pure (some true)) R E s := by
  refine wpAny_bind (wpAny_storeSet_of ho hd ?_ (fits_of_scanBound (Nat.lt_of_le_of_lt h4 hn)))
  obtain ⟨o1, g1, x1, d1⟩ := set_stored (es := es) (t := t) ho hx hd
  have sb := Heap.SameBut.update s.heap a (Obj.putSet es t)
  split
  · have pm := relayAll_perm t es (SetTable.grown es.size)
    have ft := relayAll_fits t es (SetTable.grown es.size)
    obtain ⟨tb, ld⟩ := relayAll_tab (t := t) es (SetTable.grown es.size)
    generalize relayAll t es (SetTable.grown es.size) = W at pm ft tb ld ⊢
    have kp : (ksOf W.1).Perm (ksOf es) := pm.map _
    have sz : W.1.size = es.size := by rw [← Array.length_toList, pm.length_eq, Array.length_toList]
    refine wpAny_bind (hg _ _ _ ?_)
    refine wpAny_bind (wpAny_storeSet_of g1 d1 ?_ (fits_of_scanBound (by omega)))
    obtain ⟨o2, g2, x2, d2⟩ := set_stored (es := W.1) (t := W.2.1) g1 x1 d1
    exact wpAny_pure (q _ (sb.trans (Heap.SameBut.update _ a _)) ⟨W.1, _, W.2.1, ⟨⟨o2, g2, x2, d2⟩, h1.perm pm, kp.nodup_iff.mpr h2, fun k => kp.mem_iff.trans (h3 k), by omega, ft, tb, ld.trans h7⟩⟩)
  · exact wpAny_pure (q _ sb ⟨es, _, t, ⟨⟨o1, g1, x1, d1⟩, h1, h2, h3, h4, h5, h6, h7⟩⟩)
theorem add_int {a : Addr} {L : Bool} {M : Int → Prop} {n : Nat} {k : Int} {tk : Tok} {R : Bool → Shared → Prop} (h : SetI P w s.heap a L M n) (hn : n + 1 < scanBound)
    (q : ∀ h' b, Heap.SameBut a s.heap h' → SetI P w h' a L (fun j => M j ∨ j = k) (n + 1) → R b { s with heap := h' }) : wpAny (model P w) A (setAddHashed a (.int k tk) (hashInt k)) R E s := by
  obtain ⟨es, ep, t, x⟩ := h
  obtain ⟨o, ho, hx, hd⟩ := x.at_
  have lt : es.size < scanBound := Nat.lt_of_le_of_lt x.len (by omega)
  unfold setAddHashed setAddHashedIn
  refine wpAny_holding (wpAny_bind (wpAny_setState_of ho hd x.fits ?_))
  dsimp only
  rw [byScan_of (knd := intKind P w) (x := .int k tk) rfl lt x.elems]
  simp only [↓reduceIte]
  unfold setAddByScan
  refine wpAny_bind (wpAny_bind (wpAny_rule (wpAny_bind (wpAny_setScan_of (intKind_is P w k tk) ho hd x.fits x.elems ?_))))
  cases c : es.toList.findIdx? (fun e => (intKind P w).is k e.2) with
  | some i =>
    obtain ⟨hi, p, _⟩ := List.findIdx?_eq_some_iff_getElem.mp c
    have there : M k := (x.mem k).mp (List.mem_map.mpr ⟨_, List.getElem_mem hi, (is_num p).1⟩)
    exact wpAny_pure (wpAny_pure (q s.heap false (Heap.SameBut.refl a s.heap) ⟨es, ep, t, ⟨⟨o, ho, hx, hd⟩, x.elems, x.nd, fun j => (x.mem j).trans ⟨.inl, fun z => z.elim id fun e => e ▸ there⟩, Nat.le_succ_of_le x.len, x.fits, x.tab, x.led⟩⟩))
  | none =>
    have fresh : k ∉ ksOf es := fun m => by
      obtain ⟨e, he, ek⟩ := List.mem_map.mp m
      have no := List.findIdx?_eq_none_iff.mp c e he
      obtain ⟨⟨k', hk', _⟩, _⟩ := x.elems e he
      rw [(is_num hk').1] at ek
      subst ek
      rw [hk'] at no
      cases no
    have giving : ∀ (b : Bool) {s1 : Shared} {R' : Unit → Shared → Prop}, R' () s1 → wpAny (model P w) A (match b with | true => rule "set.scan.the-table-gave-way" | false => pure ()) R' E s1 := fun b {s1 R'} z => by
      cases b with
      | true => exact wpAny_rule z
      | false => exact wpAny_pure z
    have pm := layNew_perm t es (hashInt k) (.int k tk)
    have ft := layNew_fits t es (hashInt k) (.int k tk)
    obtain ⟨tb, ld⟩ := layNew_tab x.tab es (hashInt k) (.int k tk)
    dsimp only
    generalize layNew t es (hashInt k) (.int k tk) = W at pm ft tb ld ⊢
    obtain ⟨es1, t1, wd, gv⟩ := W
    dsimp only at pm ft tb ld ⊢
    rw [Array.toList_push] at pm
    have e1 : ElemsOf (intKind P w) es1.toList := (x.elems.push (intKind_is P w k tk) rfl).perm pm
    have kp : (ksOf es1).Perm (ksOf es ++ [k]) := by
      have z := pm.map fun e => numOf e.2
      rwa [List.map_append] at z
    have n1 : (ksOf es1).Nodup := kp.nodup_iff.mpr (List.nodup_append.mpr ⟨x.nd, by simp, fun a ha b hb => by
      have e : b = k := by simpa using hb
      subst e
      exact fun z => fresh (z ▸ ha)⟩)
    have m1 : ∀ j, j ∈ ksOf es1 ↔ (M j ∨ j = k) := fun j => by
      rw [kp.mem_iff, List.mem_append, x.mem j]
      simp
    have s1 : es1.size ≤ n + 1 := by
      rw [← Array.length_toList, pm.length_eq, List.length_append, Array.length_toList]
      exact Nat.succ_le_succ x.len
    refine wpAny_bind (giving _ ?_)
    have led1 : t1.led = L := ld.trans x.led
    split
    · refine wpAny_bind ?_
      rw [hashByValue_scannable 8 (x := .int k tk) rfl]
      refine wpAny_pure ?_
      refine add_end ?_ ho hx hd e1 n1 m1 s1 ft tb led1 hn fun h' z1 z2 => ?_
      · intro b s2 R' z
        exact giving b z
      · exact wpAny_pure (q h' true z1 z2)
    · refine wpAny_bind (wpAny_pure ?_)
      refine add_end ?_ ho hx hd e1 n1 m1 s1 ft tb led1 hn fun h' z1 z2 => ?_
      · intro b s2 R' z
        exact giving b z
      · exact wpAny_pure (q h' true z1 z2)
end
theorem SetI.to {P : Program} {w : World} {h : Heap} {a : Addr} {L : Bool} {M M' : Int → Prop} {n n' : Nat} (q : SetI P w h a L M n) (e : ∀ k, M k ↔ M' k) (le : n ≤ n') : SetI P w h a L M' n' := by
  obtain ⟨es, ep, t, x⟩ := q
  exact ⟨es, ep, t, ⟨x.at_, x.elems, x.nd, fun k => (x.mem k).trans (e k), Nat.le_trans x.len le, x.fits, x.tab, x.led⟩⟩
section
variable {P : Program} {w : World} {A : Around} {R : Result → Shared → Prop} {I S : Addr} {fp wr : List Addr} {G : Array GenState → Array GenState → Prop} {n : Nat} {Pv : Nat → Value → Prop} {St : Nat → Shared → Prop} {L : Bool}
end
section
variable {P : Program} {w : World} {A : Around} {E : Value → Shared → Prop} {s : Shared}
end
end L2
set_option Elab.async false
set_option linter.all false
set_option maxRecDepth 100000
namespace L2
open PySem PySem.Spec PyProof.Rows
def SObj (h : Heap) (S : Addr) (es : Array (Int × Value)) (ep : Nat) (t : SetTable) : Prop := ∃ o, h.get? S = some o ∧ o.data = .set es ep t
section
variable {P : Program} {w : World} {A : Around} {E : Value → Shared → Prop} {s : Shared} {it S : Addr} {es : Array (Int × Value)} {ep i n : Nat} {t : SetTable} {R : Option Value → Shared → Prop}
end
section
variable {P : Program} {w : World} {A : Around} {it S T : Addr} {es : Array (Int × Value)} {ep : Nat} {t : SetTable}
theorem SObj.keep {h h' : Heap} (x : SObj h S es ep t) (k : ∀ o, h.get? S = some o → h'.get? S = some o) : SObj h' S es ep t := by
  obtain ⟨o, g, d⟩ := x
  exact ⟨o, k o g, d⟩
end
structure SetWalk (P : Program) (w : World) (A : Around) (s s' : Shared) (S it : Addr) (fp : List Addr) (vals : Array Value) (St : Nat → Heap → Prop) : Prop where
  walk : Walks P w A it fp [it] vals.size (fun i v => vals[i]? = some v) St
  st : St 0 s'.heap
  below : ∀ b ∈ fp, b < s'.heap.objs.size
  new : ∀ b ∈ fp, b = S ∨ s.heap.objs.size ≤ b
  old : s.heap.objs.size ≤ it
  gens : s'.gens = s.gens
  os : s'.os = s.os
  keep : ∀ b o, s.heap.get? b = some o → s'.heap.get? b = some o
section
variable {P : Program} {w : World} {A : Around} {E : Value → Shared → Prop} {s : Shared} {S : Addr} {L : Bool} {M : Int → Prop} {n : Nat} {es : Array (Int × Value)} {ep : Nat} {t : SetTable}
end
end L2
set_option Elab.async false
set_option linter.all false
set_option maxRecDepth 100000
namespace L2
open PySem PySem.Spec PyProof.Rows
section
variable {P : Program} {w : World} {A : Around} {E : Value → Shared → Prop} {s : Shared} {S : Addr} {M : Int → Prop} {n : Nat}
end
section
variable {X : Cx} {pins : List (Addr × Obj)} {σ : St} {H : Hp} {s : Shared}
theorem Inv.like (I : Inv X pins σ H s) {s' : Shared} (e1 : s'.gens = s.gens) (e2 : s'.os = s.os) (e3 : s'.heap = s.heap) : Inv X pins σ H s' := by
  obtain ⟨hp, g, d, tk, os⟩ := s
  obtain ⟨hp', g', d', tk', os'⟩ := s'
  dsimp only at e1 e2 e3
  subst e1 e2 e3
  exact ⟨I.ok, I.os, I.bare, I.base, I.loc, I.cell, I.free, I.freeC, I.pin, I.hok, I.len⟩
end
end L2
set_option Elab.async false
set_option linter.all false
set_option maxRecDepth 100000
namespace L2
open PySem PySem.Spec PyProof.Rows
section
variable {X : Cx}
end
section
variable {K : PySem.W.Frag} {g : TG} {tt : TT} {te : TE} {D a : Addr} {Q : Hp → Prop} {σ : St} {H : Hp} {xs : List V}
end
section
variable {X : Cx}
end
end L2
set_option Elab.async false
set_option linter.all false
set_option maxRecDepth 100000
namespace L2
open PySem PySem.Spec PyProof.Rows
section
variable {X : Cx}
end
section
variable {K : PySem.W.Frag} {ta : TA} {g : TG} {tb : TS} {D : Ends} {σ : St} {H : Hp} {a b : Addr} {xs ys : List V}
end
section
variable {X : Cx}
end
mutual
def wt : PyData → Nat
  | .none => 1
  | .bool _ => 1
  | .int _ => 1
  | .str _ => 1
  | .list ds => wtAll ds + 1
  | .tuple ds => wtAll ds + 1
  | .dict _ => 1
def wtAll : List PyData → Nat
  | [] => 0
  | d :: ds => wt d + wtAll ds
end
mutual
def bare : PyData → Bool
  | .none => true
  | .int i => decide (i.natAbs.log2 < 1920)
  | .list ds => bareAll ds
  | .tuple ds => bareAll ds
  | _ => false
def bareAll : List PyData → Bool
  | [] => true
  | d :: ds => bare d && bareAll ds
end
theorem listText_le (ts : List Str) : (listText ts).length ≤ piled ts + 2 := by
  cases ts with
  | nil => exact Nat.le_of_eq rfl
  | cons t r =>
    have h := textFrom_length_pos r 1 (("[" : Str) ++ (if (0 : Nat) > 0 then ", " else "" : String) ++ t) (Nat.succ_pos 0)
    have e : ((("[" : Str) ++ (if (0 : Nat) > 0 then ", " else "" : String) ++ t)).length = 1 + t.length := by
      rw [strLen_append, strLen_append]; rfl
    have hX : (listText (t :: r)).length = (textFrom 0 "[" (t :: r)).length + 1 := by
      show (textFrom 0 "[" (t :: r) ++ "]").length = _
      rw [strLen_append]; rfl
    have hY : (textFrom 0 "[" (t :: r)).length = (textFrom 1 (("[" : Str) ++ (if (0 : Nat) > 0 then ", " else "" : String) ++ t) r).length := rfl
    rw [hX, hY, h, e, piled_cons]; omega
theorem tupleText_le (ts : List Str) : (tupleText ts).length ≤ piled ts + 3 := by
  unfold tupleText
  rw [strLen_append, strLen_append]
  have e1 : ((("(" : String) : Str)).length = 1 := rfl
  have e3 : (((if ts.length == 1 then ",)" else ")" : String) : Str)).length ≤ 2 := by split <;> decide
  rw [e1]
  by_cases h : ts = []
  · subst h
    have : (Str.join ", " []).length = 0 := rfl
    omega
  · have := join_length_add ts h
    omega
mutual
theorem shown_le : ∀ {d : PyData}, bare d = true → d.shown.length + 4 ≤ 1930 * wt d
  | .none, _ => by simp only [PyData.shown, wt]; decide
  | .int i, h => by
    simp only [bare, decide_eq_true_eq] at h
    have := int_text_len_1921 h
    simp only [PyData.shown, wt]
    omega
  | .list ds, h => by
    simp only [bare] at h
    have := shownAll_le h
    have l := listText_le (PyData.shownAll ds)
    simp only [PyData.shown, wt]
    omega
  | .tuple ds, h => by
    simp only [bare] at h
    have := shownAll_le h
    have l := tupleText_le (PyData.shownAll ds)
    simp only [PyData.shown, wt]
    omega
  | .bool _, h => by simp [bare] at h
  | .str _, h => by simp [bare] at h
  | .dict _, h => by simp [bare] at h
theorem shownAll_le : ∀ {ds : List PyData}, bareAll ds = true → piled (PyData.shownAll ds) ≤ 1930 * wtAll ds
  | [], _ => by simp [PyData.shownAll, piled, wtAll]
  | d :: ds, h => by
    simp only [bareAll, Bool.and_eq_true] at h
    have h1 := shown_le h.1
    have h2 := shownAll_le h.2
    simp only [PyData.shownAll, piled_cons, wtAll]
    omega
end
mutual
theorem bare_show : ∀ {d : PyData}, bare d = true → d.showable = true ∧ d.hasDict = false
  | .none, _ => by simp only [PyData.showable, PyData.hasDict]; exact ⟨trivial, trivial⟩
  | .int i, h => by
    simp only [bare] at h
    simp only [PyData.showable, PyData.hasDict]
    exact ⟨h, trivial⟩
  | .list ds, h => by
    simp only [bare] at h
    simp only [PyData.showable, PyData.hasDict]
    exact bareAll_show h
  | .tuple ds, h => by
    simp only [bare] at h
    simp only [PyData.showable, PyData.hasDict]
    exact bareAll_show h
  | .bool _, h => by simp [bare] at h
  | .str _, h => by simp [bare] at h
  | .dict _, h => by simp [bare] at h
theorem bareAll_show : ∀ {ds : List PyData}, bareAll ds = true → PyData.showableAll ds = true ∧ PyData.hasDictAll ds = false
  | [], _ => by simp [PyData.showableAll, PyData.hasDictAll]
  | d :: ds, h => by
    simp only [bareAll, Bool.and_eq_true] at h
    have h1 := bare_show h.1
    have h2 := bareAll_show h.2
    simp only [PyData.showableAll, PyData.hasDictAll, h1.1, h1.2, h2.1, h2.2, Bool.and_self, Bool.or_self]
    exact ⟨trivial, trivial⟩
end
section
variable {X : Cx}
end
end L2
set_option Elab.async false
set_option linter.all false
set_option maxRecDepth 100000
namespace PySem
open Sem (wp)
end PySem
namespace PySem
namespace F
end F
section
variable {prog : Program} {w : World} {A : Around} {E : Value → Shared → Prop} {s : Shared}
end
section
variable {prog : Program} {w : World} {A : Around} {R : Result → Shared → Prop} {I : Addr} {fp wr : List Addr} {G : Array GenState → Array GenState → Prop} {n : Nat} {P : Nat → Value → Prop} {St : Nat → Shared → Prop} {K : Type} [DecidableEq K] {knd : KeyKind prog w K}
end
end PySem
namespace PySem
section
variable {prog : Program} {w : World} {K : Type} [DecidableEq K] {knd : KeyKind prog w K} {A : Around} {E : Value → Shared → Prop} {s : Shared}
end
end PySem
namespace L2
open PySem PySem.Spec PyProof.Rows
section
variable {X : Cx}
end
end L2
set_option Elab.async false
set_option linter.all false
set_option maxRecDepth 100000
namespace L2
open PySem PySem.Spec PyProof.Rows
section
variable {X : Cx} {pins : List (Addr × Obj)} {σ : St} {H : Hp} {s : Shared}
end
section
variable {X : Cx} {sc : Scope} {N : List Str} {src : List (Option Nat)} {tg iter elt : Expr} {ifs : List Expr} {td : TE} {g : TG} {tt : TT} {te : TE} {pos : Pos}
end
section
variable {prog : Program} {w : World} {A : Around} {R : Result → Shared → Prop} {s : Shared}
end
section
variable {X : Cx} {sc : Scope} {N : List Str} {src : List (Option Nat)} {tg iter kx vx : Expr} {ifs : List Expr} {wi : TI} {g : TG} {tt : TT} {tk tv : TE} {pos : Pos}
end
end L2
set_option Elab.async false
set_option linter.all false
set_option maxRecDepth 100000
set_option maxHeartbeats 4000000
namespace L2
open PySem PySem.Spec PyProof.Rows
section
variable {P : Program} {w : World} {A : Around} {E : Value → Shared → Prop} {s : Shared} {S : Addr} {vs : List (Key × Value)} {ep : Nat}
end
section
variable {X : Cx}
end
end L2
set_option Elab.async false
set_option linter.all false
set_option maxRecDepth 100000
set_option maxHeartbeats 4000000
namespace L2
open PySem PySem.Spec PyProof.Rows
section
variable {X : Cx}
end
end L2
set_option Elab.async false
set_option linter.all false
set_option maxRecDepth 100000
set_option maxHeartbeats 4000000
namespace L2
open PySem PySem.Spec PyProof.Rows
section
variable {X : Cx}
end
end L2
set_option Elab.async false
set_option linter.all false
set_option maxRecDepth 100000
set_option maxHeartbeats 4000000
namespace L2
open PySem PySem.Spec PyProof.Rows
section
variable {X : Cx}
end
end L2
set_option Elab.async false
set_option linter.all false
set_option maxRecDepth 100000
set_option maxHeartbeats 4000000
namespace L2
open PySem PySem.Spec PyProof.Rows
end L2
namespace L2
open PySem PySem.Spec PyProof.Rows
section
variable {prog : Program} {w : World} {A : Around} {E : Value → Shared → Prop} {s : Shared}
structure ZT (g : Heap) (z ti to p1 p2 t1 t2 : Addr) (out : Value) (k1 k2 : Nat) : Prop where
  zip : IsZip g z ti to out
  its : IsPair g ti (.ref p1) (.ref p2)
  fst : IsTupIter g p1 t1 k1
  snd : IsTupIter g p2 t2 k2
end
section
variable {X : Cx}
end
section
variable {K : PySem.W.Frag} {g : TG} {tt : TT} {te : TE} {D : Addr} {σ : St} {H : Hp} {Q : Hp → Prop} {a b : Addr} {xs ys : List V}
end
section
variable {X : Cx}
end
end L2
set_option Elab.async false
set_option linter.all false
set_option maxRecDepth 100000
set_option maxHeartbeats 4000000
namespace L2
open PySem PySem.Spec PyProof.Rows
def CXO (P : Program) (w : World) : CXT := fun outer H s E e s' => ∃ (a : Addr) (cls a0 : Value) (B : Heap) (H' : Hp), e = .ref a ∧ s'.os = s.os ∧ AllBare s'.gens ∧ Heap.FlyingW B outer a cls a0 s'.heap ∧ Un (frs outer) [] H H' s.heap s'.heap ∧
  (∀ b o, s.heap.get? b = some o → H b = none → b ∉ frs outer → B.get? b = some o) ∧ (∀ b o, s.heap.get? b = some o → b ∉ frs outer → ∃ o', B.get? b = some o') ∧ HOk P w H' B ∧ s.heap.get? a = none ∧ E cls none H'
theorem no_obj {P : Program} {w : World} {H : Hp} {h : Heap} {a : Addr} {o : HO} (x : ObjOk P w H h a o) : ∃ u, h.get? a = some u := by
  cases o with
  | lst xs => obtain ⟨_, _, _, _, e⟩ := x; exact ⟨_, e⟩
  | tup xs => obtain ⟨_, _, _, u, e, _⟩ := x; exact ⟨_, e⟩
  | dK kvs => obtain ⟨_, _, _, _, o, _, _, e, _⟩ := x; exact ⟨_, e⟩
  | dT kvs => obtain ⟨_, _, _, _, o, _, _, e, _⟩ := x; exact ⟨_, e⟩
  | set S n => obtain ⟨o, _, _, _, e, _⟩ := x; exact ⟨_, e⟩
  | ins C dx fs => obtain ⟨_, _, _, e, _⟩ := x; exact ⟨_, e⟩
  | own y => exact x
  | xd fs => obtain ⟨_, ⟨_, _, _, e, _⟩, _⟩ := x; exact ⟨_, e⟩
  | rng lo hi => obtain ⟨_, _, _, e⟩ := x; exact ⟨_, e⟩
  | frz ob u => obtain ⟨e, _⟩ := x; exact ⟨_, e⟩
  | tbl ps => exact ⟨_, (show h.get? a = some _ from x)⟩
  | met f y => exact ⟨_, (show h.get? a = some _ from x)⟩
  | ext φ => exact x.2.1
section
variable {X : Cx} {E : XK}
theorem cxo_out {pins : List (Addr × Obj)} {σ : St} {H H' : Hp} {s : Shared} {h1 h2 B : Heap} {a : Addr} {cls a0 : Value} {os : OsState} {g : Array GenState} {d : Drawn} {t : Nat} (hst : X.stack = X.env :: X.outer) (hex : X.ex = [])
    (I : Inv X pins σ H s) (ho : os = s.os) (hg : AllBare g) (fl : Heap.FlyingW B X.outer a cls a0 h2) (up : h1.UpToSlots h2)
    (un : Un (frs X.stack) [] H H' s.heap h1) (kb : ∀ b o, s.heap.get? b = some o → H b = none → b ∉ frs X.stack → B.get? b = some o)
    (tb : ∀ b o, s.heap.get? b = some o → b ∉ frs X.stack → ∃ o', B.get? b = some o') (hok : HOk X.prog X.w H' B) (na : s.heap.get? a = none) (hE : E cls none H') :
    CXO X.prog X.w X.outer X.H₀ X.s₀ E (.ref a) ⟨h2, g, d, t, os⟩ := by
  have nx : ∀ b : Addr, b ∉ X.ex := fun b => by rw [hex]; simp
  have ne : ∀ b o, X.s₀.heap.get? b = some o → b ∉ frs X.outer → b ∉ frs X.stack := fun b o e n z => by
    rcases List.mem_cons.mp (I.stkSub b z) with q | q
    · have h1 := I.ok.above
      rw [← q] at h1
      exact absurd (Nat.lt_of_lt_of_le (Heap.lt_size e) h1) (Nat.lt_irrefl _)
    · exact n q
  have inS : ∀ b, b ∈ frs X.outer → b ∈ frs X.stack := fun b hb => by
    rw [hst]
    unfold frs at hb ⊢
    rw [List.filterMap_cons]
    split
    · exact hb
    · exact List.mem_cons_of_mem _ hb
  refine ⟨a, cls, a0, B, H', rfl, ho.trans I.os, hg, fl, ⟨fun b o e n hb _ => ?_, fun b o e n hb _ => ?_, fun b o e n _ => ?_, fun b o e _ => ?_, fun b xs e => un.tups b xs (I.base.tups b xs e), fun b o xs e => un.frzs b o xs (I.base.frzs b o xs e), fun b ps e => ?_⟩,
    fun b o e n hb => kb b o (I.base.keep b o e n hb (nx b)) (I.base.free b o e n (nx b)) (ne b o e hb), fun b o e hb => ?_, hok, ?_, hE⟩
  · exact fl.1 b o (kb b o (I.base.keep b o e n hb (nx b)) (I.base.free b o e n (nx b)) (ne b o e hb))
  · obtain ⟨sl, e1⟩ := I.base.slot b o e n hb (nx b)
    obtain ⟨sl', e2⟩ := un.slot b _ e1 (I.base.free b o e n (nx b)) (inS b hb) (by simp)
    obtain ⟨_, o', e3, nf⟩ := I.funs.mem hb
    rw [e1] at e3
    cases e3
    obtain ⟨sl'', e4⟩ := up b _ e2 nf
    exact ⟨sl'', e4⟩
  · obtain ⟨o', e1⟩ := I.base.there b o e (nx b)
    exact un.free b o' e1 (I.base.free b o e n (nx b)) (by simp)
  · by_cases hb : b ∈ frs X.outer
    · have n : X.H₀ b = none := I.ok.frf b hb
      obtain ⟨sl, e1⟩ := I.base.slot b o e n hb (nx b)
      obtain ⟨sl', e2⟩ := un.slot b _ e1 (I.base.free b o e n (nx b)) (inS b hb) (by simp)
      obtain ⟨_, o', e3, nf⟩ := I.funs.mem hb
      rw [e1] at e3
      cases e3
      obtain ⟨sl'', e4⟩ := up b _ e2 nf
      exact ⟨_, e4⟩
    · obtain ⟨o1, e1⟩ := I.base.there b o e (nx b)
      obtain ⟨o2, e2⟩ := tb b o1 e1 (ne b o e hb)
      exact ⟨o2, fl.1 b o2 e2⟩
  · obtain ⟨m1, e1⟩ := I.base.tbls b ps e
    obtain ⟨m2, e2⟩ := un.tbls b _ e1
    exact ⟨m1 ++ m2, by rw [e2, Array.append_assoc]⟩
  · obtain ⟨o1, e1⟩ := I.base.there b o e (nx b)
    exact tb b o1 e1 (ne b o e hb)
  · cases q : X.s₀.heap.get? a with
    | none => rfl
    | some o =>
      obtain ⟨o1, e1⟩ := I.base.there a o q (nx a)
      rw [na] at e1
      cases e1
def Cx.leaves (X : Cx) (E : XK) : Prop := X.xe = fun e s' => wpAny (model X.prog X.w) X.A (leaving X.env e) (fun _ s'' => CXO X.prog X.w X.outer X.H₀ X.s₀ E e s'') (fun e' s'' => CXO X.prog X.w X.outer X.H₀ X.s₀ E e' s'') s'
theorem pass_on (hst : X.stack = X.env :: X.outer ∧ X.env.frame = some X.env.locals) (hex : X.ex = []) (hx : X.leaves E) : Passes (CXO X.prog X.w) X E := by
  rintro pins σ H s e ⟨h', g', d', t', os'⟩ I ⟨a, cls, a0, B, H', rfl, os, bare, fl, un, kb, tb, hok, na, hE⟩
  rw [hx]
  have fr : X.A.frames = some (X.env :: X.outer) := by rw [← hst.1]; exact I.ok.frames
  have fl : Heap.FlyingW B (X.env :: X.outer) a cls a0 h' := by rw [← hst.1]; exact fl
  refine wpAny_leaves_onW (base := B) fr hst.2 fl fun h2 fl2 up => ?_
  exact cxo_out hst.1 hex I os bare fl2 up un kb tb hok na hE
end
section
variable {P : Program} {w : World} {K : PySem.W.Frag} {mg : Str → Option Value} {base : Heap} {N : List Str} {qual : Str} {scope : Scope} {f : Addr} {cd : Value} {A : Around} {outer : List Env} {s0 : Shared} {H0 : Hp} {E : XK} {CX : CXT}
theorem pass1 : Passes (CXO P w) (cxOf (CXO P w) P w K mg base N qual scope f cd A outer s0 H0 E) E := pass_on (X := cxOf (CXO P w) P w K mg base N qual scope f cd A outer s0 H0 E) ⟨rfl, rfl⟩ rfl rfl
def tRaise (E : XK) (c : Value) : TS := fun _ _ H => E c none H
structure Exc (K : PySem.W.Frag) (C : Addr) : Prop where
  is : PySem.W.excIn K C [.type "ValueError", .type "Exception", .type "BaseException", .type "object"] "ValueError.__new__" = true
theorem Exc.obj {h : Heap} {C : Addr} (X : K.In h) (e : Exc K C) : ∃ bm Nn nm q bs hdct sn sub ab col dd k0 k1 k2 k3 k5 mN, h.get? C = some (excClassObj nm q C Nn bs bm hdct sn sub ab col dd k0 k1 k2 k3 k5 "ValueError.__new__") ∧ h.Ns Nn mN ∧ mN "__init__" = none ∧ OwnTail h [.type "ValueError", .type "Exception", .type "BaseException", .type "object"] bm := by
  have q := e.is
  unfold PySem.W.excIn at q
  split at q
  · rename_i dd cd sl ho
    split at q
    · rename_i C' bm k0 k1 k2 k3 n k5 hm hs
      simp only [Bool.and_eq_true, beq_iff_eq, Bool.not_eq_true'] at q
      obtain ⟨⟨⟨⟨⟨rfl, rfl⟩, hdel⟩, ht⟩, hok⟩, hni⟩ := q
      obtain ⟨nm, bs, mro, ns, qn, hd, sn, sub, ab, col, del⟩ := cd
      have e1 : mro = .ref C' :: bm := hm
      have e2 : del = false := hdel
      subst e1 e2
      obtain ⟨l⟩ := sl
      have e3 : l = [k0, k1, k2, k3, some (.builtin "ValueError.__new__"), k5] := hs
      subst e3
      exact ⟨bm, ns, nm, qn, bs, hd, sn, sub, ab, col, dd, k0, k1, k2, k3, k5, _, X _ _ ho, .of_isNs (PySem.W.isNs_of_in X hok), PySem.W.nsMap_none_of_in X hok hni, PySem.W.tail_of_in X ht⟩
    · cases q
  · cases q
theorem sraise {C : Addr} {x y : Str} {np cpos pos sp : Pos} {j : Nat} (hC : Exc K C) (hm : mg x = some (.ref C)) (hd : A.handled = none) (hg : Gl (cxOf (CXO P w) P w K mg base N qual scope f cd A outer s0 H0 E) x) (hdb : (x == ("__debug__" : Str)) = false := by decide) :
    JS (cxOf (CXO P w) P w K mg base N qual scope f cd A outer s0 H0 E) (.Raise (some (.Call (.Name x np) [.Constant (.str y) j sp] [] cpos)) none pos) (tRaise E (.ref C)) := ⟨by
  intro pins s σ H D I h
  obtain ⟨bm, Nn, nm, q, bs, hdct, sn, sub, ab, col, dd, k0, k1, k2, k3, k5, mN, hCo, hN, hni, T⟩ := hC.obj I.mod.kin
  refine wpAny_Raise_call_subT (C := C) (nm := nm) (q := q) (N := Nn) (bs := bs) (bm := bm) (hdct := hdct) (sn := sn) (sub := sub) (ab := ab) (col := col) (dd := dd) (k0 := k0) (k1 := k1) (k2 := k2) (k3 := k3) (k5 := k5) PySem.F.excBase_ValueError (mN := mN) (T.hasType PySem.F.excBase_ValueError.hasBase) hd rfl hni (ld_glob I hg hm ⟨rfl, ?_⟩ hdb)
  have pa := pa_cons (X := cxOf (CXO P w) P w K mg base N qual scope f cd A outer s0 H0 E) (pe_str (x := y) (j := j) (pos := sp)) pa_nil
  refine Calls.evalArgs_plain (wpAny_mono (pa cpos pins s σ H (fun vs H2 => vs.length = 1 ∧ H2 = H) I ⟨rfl, rfl⟩) (fun us s2 z => ?_) fun _ _ z => z)
  obtain ⟨vs, H2, I2, r2, l2, rfl⟩ := z
  refine ⟨rfl, ?_, I2.bk _ _ hCo, hN.keeps I2.bk, T.keeps I2.bk, fun h' e hx => ?_⟩
  · show us.length ≤ _
    rw [← r2.length, l2]
    decide
  have nf : ∀ b u, H2 b = some u → b ∉ frs (cxOf (CXO P w) P w K mg base N qual scope f cd A outer s0 H0 E).stack := fun b u e z => by
    rw [I2.stkFree b z] at e
    cases e
  refine wpAny_leaves_madeW (base := PySem.W.hideAll s2.heap (frs (cxOf (CXO P w) P w K mg base N qual scope f cd A outer s0 H0 E).stack)) (h := s2.heap) I2.ok.frames rfl (fun b o q => PySem.W.of_hideAll _ q) (PySem.W.funFrames_hide I2.stack fun env he b hb => List.mem_filterMap.mpr ⟨env, he, hb⟩) hx fun h2 t fl _ _ up => ?_
  refine cxo_out (X := cxOf (CXO P w) P w K mg base N qual scope f cd A outer s0 H0 E) (H' := H2) (h1 := h') (s := s2) rfl rfl I2 rfl I2.bare fl up (Un.kept hx.keeps) (fun b o e _ n => PySem.W.hideAll_get _ e n) (fun b o e n => ⟨o, PySem.W.hideAll_get _ e n⟩) (fun b o e => (I2.hok b o e).stay (fun c u hc q => PySem.W.hideAll_get _ q ?_) (fun _ q => q) fun _ _ q => q) hx.new h
  rcases hc with z | z
  · subst z
    exact nf _ _ e
  · exact nf _ _ z⟩
end
end L2
namespace L2
open PySem PySem.Spec PyProof.Rows PySem.W PySem.Calls PySem.Builtin PySem.Builtin.ObjectAttr PySem.Builtin.Getset_descriptor
structure ExcI (K : PySem.W.Frag) (C : Addr) : Prop where
  ga : findIn K (.ref C) "__getattribute__" = some (some (.builtin "BaseException.__getattribute__"))
  gh : findIn K (.ref C) "__getattr__" = some none
  cl : findIn K (.ref C) "__class__" = some (some (.builtin "object.__class__"))
  mo : mroIn K C (.type "object") = some true
  mb : mroIn K C (.type "BaseException") = some true
  gt : specialIn K (.builtin "object.__class__") "__get__" = some (some (.builtin "getset_descriptor.__get__"))
  tk : takesIn K (.builtin "object.__class__") = some true
  is : (clsIn K C).isSome = true
def XAt (a C : Addr) (h : Heap) : Prop := ∃ o, h.get? a = some o ∧ o.cls = .ref C
section
variable {K : PySem.W.Frag} {prog : Program} {w : World} {A : Around} {E : Value → Shared → Prop} {s : Shared} {a C : Addr}
theorem XAt.ty {M : Model} {h : Heap} (x : XAt a C h) : Looks M h (typeOf (.ref a)) (.ref C) := by
  obtain ⟨o, e, c⟩ := x
  exact c ▸ (Looks.ld e).andThen .now
theorem xcls_get {R : Result → Shared → Prop} {tp : Value} (X : K.In s.heap) (x : XAt a C s.heap) (F : ExcI K C) (h : R (.ok (.ret (.ref C))) s) : codeAny (model prog w) A (.call (.builtin "getset_descriptor.__get__") ⟨[.builtin "object.__class__", .ref a, tp], []⟩) R s := by
  obtain ⟨h0, gn, dr, tk, os⟩ := s
  have l0 := x.ty (M := model prog w)
  have l1 := looks_mroIn (M := model prog w) X F.mo
  refine codeAny_call_builtin KF.slot_gs.plain KF.entry_gs (KF.slot_gs.check _ _ _ _ _ _ _ _ KF.type_class (KF.args_gs _ _ _) ?_)
  unfold Builtin.«getset_descriptor.__get__»; unfold descrGet
  rw [dga_obj]
  refine wpAny_bind (wpAny_pure ?_)
  unfold descrGetter; unfold descrCheckInstance; unfold descrNameAndClass; unfold isInstance
  simp only [KF.owner_class]
  repeat lk
  refine ⟨Code.quiet_builtin _ (by decide +kernel), codeAny_builtin KF.entry_class ?_⟩
  unfold Builtin.«object.__class__»; unfold shownTypeOf
  repeat lk
  exact h
theorem xcls_find {M : Model} {h : Heap} (X : K.In h) (F : ExcI K C) : Looks M h (find (.ref a) (.ref C) "__class__") (.bind (.builtin "getset_descriptor.__get__") (.builtin "object.__class__")) := by
  have l1 := looks_findIn (M := M) X F.cl
  have l2 := looks_specialIn (M := M) X F.gt
  have l3 := looks_takesIn (M := M) X F.tk
  exact l1.andThen (Looks.andThen (a := some (Value.builtin "getset_descriptor.__get__")) l2 ((show Looks M h (dataDescriptor? (some (.builtin "object.__class__")) (some (.builtin "getset_descriptor.__get__"))) (some (.builtin "getset_descriptor.__get__", .builtin "object.__class__")) from l3.andThen .now).andThen (Looks.tag .now)))
theorem xcls_entry {tk : Tok} {Q : Fin → Shared → Prop} (X : K.In s.heap) (x : XAt a C s.heap) (F : ExcI K C) (h : Q (.done (.ret (.ref C))) s) : wpAny (model prog w) A (Builtin.«object.__getattribute__» ⟨[.ref a, .str "__class__" tk], []⟩) Q E s := by
  obtain ⟨h0, gn, dr, tk, os⟩ := s
  have l0 := x.ty (M := model prog w)
  have l1 := xcls_find (M := model prog w) (a := a) X F
  unfold Builtin.«object.__getattribute__»
  refine wpAny_bind (wpAny_pure ?_)
  refine wpAny_bind (wpAny_pure ?_)
  refine wpAny_bind (l0.at ?_)
  refine wpAny_bind (l1.at ?_)
  show wpAny (model prog w) A (bindTo (.builtin "getset_descriptor.__get__") (.builtin "object.__class__") (.ref a) (.ref C)) _ _ _
  unfold bindTo
  show wpAny (model prog w) A (holding [.builtin "object.__class__"] (call (.builtin "getset_descriptor.__get__") [.builtin "object.__class__", .ref a, .ref C]) >>= ret) _ _ _
  exact wpAny_bind (wpAny_holding (wpAny_call (xcls_get (s := ⟨h0, gn, dr, tk, os⟩) X x F (wpAny_pure h))))
theorem xcls_call {tk : Tok} {R : Result → Shared → Prop} (X : K.In s.heap) (x : XAt a C s.heap) (F : ExcI K C) (h : R (.ok (.ret (.ref C))) s) : codeAny (model prog w) A (.call (.builtin "BaseException.__getattribute__") ⟨[.ref a, .str "__class__" tk], []⟩) R s := by
  refine codeAny_call_builtin PySem.F.attr_ValueError.ga.plain PySem.F.entry_bexc_ga ?_
  have hk : builtinKind "BaseException.__getattribute__" = some .slot := by decide +kernel
  have hp : splitId "BaseException.__getattribute__" = some ("BaseException", "__getattribute__") := by decide +kernel
  have ha := PySem.F.args_bexc_ga (.ref a) (.str "__class__" tk)
  have l0 := x.ty (M := model prog w)
  have l1 := looks_mroIn (M := model prog w) X F.mb
  have l2 : Looks (model prog w) s.heap (isInstance (.ref a) (.type "BaseException")) true := l0.andThen l1
  simp only [checkBuiltinCall, hk, hp]
  refine wpAny_bind (l2.at ?_)
  rw [if_neg (by decide)]
  exact wpAny_of_eq ha (xcls_entry X x F h)
theorem xcls_by {tk : Tok} {Q : Value → Shared → Prop} (X : K.In s.heap) (x : XAt a C s.heap) (F : ExcI K C) (h : Q (.ref C) s) : wpAny (model prog w) A (getAttrBy (.ref a) (.str "__class__" tk) false) Q E s := by
  have l0 := x.ty (M := model prog w)
  have l1 := looks_findIn (M := model prog w) X F.ga
  have l2 := looks_findIn (M := model prog w) X F.gh
  have f3 := PySem.F.attr_ValueError.ga.bind (.ref a)
  unfold getAttrBy
  refine wpAny_holding (wpAny_bind (l0.at (wpAny_bind (l1.at ?_))))
  dsimp only
  have nb : (onTheHeap (Value.ref C) && Value.builtin "BaseException.__getattribute__" == Value.builtin "object.__getattribute__") = false := by
    rw [show (Value.builtin "BaseException.__getattribute__" == Value.builtin "object.__getattribute__") = false by decide +kernel, Bool.and_false]
  rw [nb, if_neg (by decide)]
  unfold getAttrByItsOwn
  refine wpAny_bind ?_
  show wpAny (model prog w) A (typeLookup (.ref C) "__getattr__") _ _ _
  refine l2.at (wpAny_bind (wpAny_attempt (wpAny_holding ?_)))
  show wpAny (model prog w) A (boundAndCalled (.builtin "BaseException.__getattribute__") (.ref a) (.str "__class__" tk)) _ _ _
  unfold boundAndCalled
  refine wpAny_bind (wpAny_of_eq f3 ?_)
  refine wpAny_call (xcls_call (s := s) X x F ?_)
  exact wpAny_pure h
theorem xcls_attr {Q : Option Value → Shared → Prop} (X : K.In s.heap) (x : XAt a C s.heap) (F : ExcI K C) (h : Q (some (.ref C)) { s with toks := s.toks + 1 }) : wpAny (model prog w) A (getAttr? (.ref a) "__class__") Q E s := by
  unfold getAttr?; unfold getAttrBy?
  exact wpAny_bind (wpAny_mkText (wpAny_bind (wpAny_attempt (xcls_by (s := { s with toks := s.toks + 1 }) X x F (wpAny_pure h)))))
theorem kitx_exc (F : ExcI K C) : KitX K (.ref a) (.ref C) (XAt a C) where
  ty := fun _ _ _ x => x.ty
  it := fun _ _ X _ => by
    have q := F.is
    unfold clsIn at q
    split at q
    · rename_i ho
      intro A' Q' E' s' k z
      unfold isType loadHead
      exact wpAny_bind (wpAny_loadPart (k _ _ (X _ _ ho)) (wpAny_pure z))
    · cases q
  ne := fun h tp dd its n sl X e => by
    have q := F.is
    refine Bool.eq_false_iff.mpr fun z => ?_
    cases beq_iff_eq.mp z
    unfold clsIn at q
    split at q
    · rename_i ho
      have z := (X _ _ ho).symm.trans e
      cases z
    · cases q
  ca := fun X x k => xcls_attr X x F k
end
end L2
set_option Elab.async false
set_option linter.all false
set_option maxRecDepth 100000
set_option maxHeartbeats 4000000
namespace L2
open PySem PySem.Spec PyProof.Rows
def Cx.tried (X : Cx) (xe : Value → Shared → Prop) (pn : List (Addr × Obj)) : Cx := { X with xe := xe, pn := pn }
def Cx.caught (X : Cx) (a : Addr) (xe : Value → Shared → Prop) (pn : List (Addr × Obj)) : Cx := { X with A := X.A.mark (some (.ref a)), calm := false, xe := xe, pn := pn }
section
variable {X : Cx} {pins pins1 : List (Addr × Obj)} {σ : St} {H H' : Hp} {s : Shared} {xe : Value → Shared → Prop}
theorem Inv.tried (I : Inv X pins σ H s) : Inv (X.tried xe (X.pn ++ pins)) [] σ H s :=
  ⟨⟨I.ok.mod, I.ok.kind, I.ok.glob, I.ok.blt, I.ok.above, I.ok.inj, I.ok.has, I.ok.cab, I.ok.hd, I.ok.frames, I.ok.stk, I.ok.exf, I.ok.bs, I.ok.bsz, I.ok.noex, I.ok.exfs, I.ok.funs, I.ok.frf⟩, I.os, I.bare, I.base, I.loc, I.cell, I.free, I.freeC, fun p hp => I.pin p (by rw [List.append_nil] at hp; exact hp), I.hok, I.len⟩
theorem Inv.untried (I : Inv (X.tried xe (X.pn ++ pins)) pins1 σ H s) : Inv X pins σ H s :=
  ⟨⟨I.ok.mod, I.ok.kind, I.ok.glob, I.ok.blt, I.ok.above, I.ok.inj, I.ok.has, I.ok.cab, I.ok.hd, I.ok.frames, I.ok.stk, I.ok.exf, I.ok.bs, I.ok.bsz, I.ok.noex, I.ok.exfs, I.ok.funs, I.ok.frf⟩, I.os, I.bare, I.base, I.loc, I.cell, I.free, I.freeC, fun p hp => I.pin p (List.mem_append_left _ hp), I.hok, I.len⟩
theorem Inv.caught {a : Addr} (I : Inv X pins σ H s) : Inv (X.caught a xe (X.pn ++ pins)) [] σ H s :=
  ⟨⟨I.ok.mod, I.ok.kind, I.ok.glob, I.ok.blt, I.ok.above, I.ok.inj, I.ok.has, I.ok.cab, (fun z => nomatch z), I.ok.frames, I.ok.stk, I.ok.exf, I.ok.bs, I.ok.bsz, I.ok.noex, I.ok.exfs, I.ok.funs, I.ok.frf⟩, I.os, I.bare, I.base, I.loc, I.cell, I.free, I.freeC, fun p hp => I.pin p (by rw [List.append_nil] at hp; exact hp), I.hok, I.len⟩
theorem Inv.uncaught {a : Addr} (ok : X.Ok) (I : Inv (X.caught a xe (X.pn ++ pins)) pins1 σ H s) : Inv X pins σ H s :=
  ⟨ok, I.os, I.bare, I.base, I.loc, I.cell, I.free, I.freeC, fun p hp => I.pin p (List.mem_append_left _ hp), I.hok, I.len⟩
theorem Inv.track {a : Addr} {o : HO} (I : Inv X pins σ H s) (hn : H a = none) (ha : X.s₀.heap.get? a = none) (hl : a ≠ X.env.locals) (hc : ∀ x c, X.env.cells.lookup x = some c → c ≠ a) (hp : ∀ p ∈ X.pn ++ pins, p.1 ≠ a) (ok : ObjOk X.prog X.w (upd H a o) s.heap a o) : Inv X pins σ (upd H a o) s := by
  have ne : ∀ b u, H b = some u → b ≠ a := fun b u e => ne_of_none e hn
  refine ⟨I.ok, I.os, I.bare, ⟨I.base.keep, I.base.slot, fun b u e n hx => ?_, I.base.there, fun b xs e => ?_, fun b u xs e => ?_, fun b ps e => ?_⟩, I.loc, I.cell, ?_, fun x c e => ?_, fun p q => ?_, fun b u e => ?_, I.len⟩
  · rw [upd_ne (fun z => by rw [z, ha] at e; cases e)]
    exact I.base.free b u e n hx
  · have := I.base.tups b xs e
    rw [upd_ne (ne _ _ this)]
    exact this
  · have := I.base.frzs b u xs e
    rw [upd_ne (ne _ _ this)]
    exact this
  · obtain ⟨m, this⟩ := I.base.tbls b ps e
    exact ⟨m, by rw [upd_ne (ne _ _ this)]; exact this⟩
  · rw [upd_ne hl.symm]
    exact I.free
  · rw [upd_ne (hc x c e)]
    exact I.freeC x c e
  · obtain ⟨e, n, r⟩ := I.pin p q
    exact ⟨e, by rw [upd_ne (hp p q)]; exact n, r⟩
  · by_cases z : b = a
    · subst z
      rw [upd_same] at e
      cases e
      exact ok
    · rw [upd_ne z] at e
      exact (I.hok b u e).stay (fun _ _ _ q => q) (fun c q => by rw [upd_ne (ne _ _ q)]; exact q) fun c xs q => by rw [upd_ne (ne _ _ q)]; exact q
end
theorem un_up {st : List Env} {base h h1 h2 B : Heap} {H H' : Hp} (ff : h.FunFrames base st) (fr : ∀ b ∈ frs st, H b = none) (un : Un (frs st) [] H H' h h1) (kb : ∀ b o, h.get? b = some o → H b = none → b ∉ frs st → B.get? b = some o)
    (tb : ∀ b o, h.get? b = some o → b ∉ frs st → ∃ o', B.get? b = some o') (ks : B.StaysIn h2) (up : h1.UpToSlots h2) : Un (frs st) [] H H' h h2 := by
  have sl : ∀ b o, h.get? b = some o → H b = none → b ∈ frs st → ∃ sl, h2.get? b = some { o with slots := sl } := fun b o e n hb => by
    obtain ⟨s1, e1⟩ := un.slot b o e n hb (by simp)
    obtain ⟨_, o', e3, nf⟩ := ff.mem hb
    rw [e] at e3
    cases e3
    obtain ⟨s2, e2⟩ := up b _ e1 nf
    exact ⟨s2, e2⟩
  refine ⟨fun b o e n hb _ => ks b o (kb b o e n hb), fun b o e n hb _ => sl b o e n hb, un.free, fun b o e _ => ?_, un.tups, un.frzs, un.tbls⟩
  by_cases hb : b ∈ frs st
  · obtain ⟨_, e1⟩ := sl b o e (fr b hb) hb
    exact ⟨_, e1⟩
  · obtain ⟨o', e1⟩ := tb b o e hb
    exact ⟨o', ks b o' e1⟩
def Ends.gone (D : Ends) (i : Nat) : Ends := { nx := fun σ H => D.nx (σ.set i none) H, rt := D.rt, bk := fun σ H => D.bk (σ.set i none) H, ct := fun σ H => D.ct (σ.set i none) H }
theorem name_goes {X : Cx} {pins : List (Addr × Obj)} {σ : St} {H : Hp} {s : Shared} {M : Model} {A : Around} {E : Value → Shared → Prop} {Q : Unit → Shared → Prop} {n : Str} {i : Nat} {pos : Pos} (I : Inv X pins σ H s) (hN : X.N.Nodup) (hi : X.N[i]? = some n) (hl : X.env.kindOf n = some .local)
    (h : ∀ s', Inv X pins (σ.set i none) H s' → Q () s') : wpAny M A (do bindName X.env n .none; unbindBehindTheSuite X.env n pos) Q E s := by
  obtain ⟨m, hn, hv⟩ := id I.loc
  obtain ⟨oL, _, _, hoL, _⟩ := id hn
  have ne : ∀ b o, X.s₀.heap.get? b = some o → b ≠ X.env.locals := fun b o e => Nat.ne_of_lt (Nat.lt_of_lt_of_le (Heap.lt_size e) I.ok.above)
  refine wpAny_nameGoes_keeps hl hn (by rw [I.ok.kind]; rfl) fun h' v hn' hs => ?_
  refine h _ ⟨I.ok, I.os, I.bare, ⟨fun b o e n hb hx => (hs.2 b (ne b o e)).trans (I.base.keep b o e n hb hx), fun b o e n hb hx => ?_, I.base.free, fun b o e hx => ?_, I.base.tups, I.base.frzs, I.base.tbls⟩, ⟨_, hn', fun j y u e1 e2 e3 => ?_⟩, fun y c e => ?_, I.free, I.freeC, fun p hp => ?_, fun b u e => ?_, by simpa using I.len⟩
  · obtain ⟨sl, e1⟩ := I.base.slot b o e n hb hx
    exact ⟨sl, (hs.2 b (ne b o e)).trans e1⟩
  · obtain ⟨o', e1⟩ := I.base.there b o e hx
    exact ⟨o', (hs.2 b (ne b o e)).trans e1⟩
  · by_cases hj : j = i
    · subst hj
      have : j < σ.length := by rw [I.len]; exact (List.getElem?_eq_some_iff.mp hi).1
      rw [List.getElem?_set_self this] at e2
      cases e2
    · rw [List.getElem?_set_ne (Ne.symm hj)] at e2
      obtain ⟨u', r', q⟩ := hv j y u e1 e2 e3
      refine ⟨u', r', ?_⟩
      rcases q with ⟨k, e⟩ | ⟨k, c, e, z⟩
      · refine .inl ⟨k, ?_⟩
        have : y ≠ n := fun e => hj (nodup_ix hN e1 (e ▸ hi))
        show (if y = n then v else m y) = _
        rw [if_neg this]
        exact e
      · exact .inr ⟨k, c, e, z.sameBut hs (I.cne y c e)⟩
  · obtain ⟨w', z⟩ := I.cell y c e
    exact ⟨w', z.sameBut hs (I.cne y c e)⟩
  · obtain ⟨e, n, ne, r⟩ := I.pin p hp
    exact ⟨(hs.2 p.1 ne).trans e, n, ne, r⟩
  · refine (I.hok b u e).stay (fun c w' hc q => (hs.2 c ?_).trans q) (fun _ q => q) fun _ _ q => q
    rintro rfl
    rcases hc with z | z
    · rw [← z, I.free] at e
      cases e
    · rw [I.free] at z
      cases z
section
variable {X : Cx}
def tTry (K : PySem.W.Frag) (CF : Addr) (len i : Nat) (tb : XK → TS) (ts : TS) : TS := fun D σ H =>
  tb (fun cls _ H' => ∃ C, cls = .ref C ∧ ExcI K C ∧ PySem.W.exmOne K (.ref C) (.ref CF) = some true ∧ ∀ a, L2.new K H' a → ts (D.gone i) ((List.replicate len none).set i (some (.ref a))) (upd H' a (.ext (XAt a C)))) D σ H
theorem stry {x n : Str} {CF : Addr} {i : Nat} {np hp pos : Pos} {body suite : List Stmt} {b0 : Stmt} {tb : XK → TS} {ts : TS} (hN : X.N.Nodup) (hi : X.N[i]? = some n) (hl : X.env.kindOf n = some .local) (hg : Gl X x) (hm : X.mg x = some (.ref CF)) (hst : X.stack = X.env :: X.outer ∧ X.env.frame = some X.env.locals) (hex : X.ex = [])
    (hb : ∀ (E1 : XK) (xe : Value → Shared → Prop) (pn : List (Addr × Obj)), Passes (CXO X.prog X.w) (X.tried xe pn) E1 → JB (X.tried xe pn) body (tb E1)) (hs : ∀ (a : Addr) (xe : Value → Shared → Prop) (pn : List (Addr × Obj)), JB (X.caught a xe pn) (b0 :: suite) ts) (hdb : (x == ("__debug__" : Str)) = false := by decide) :
    JS X (.Try body [.ExceptHandler (some (.Name x np)) (some n) (b0 :: suite) hp] [] [] pos) (tTry X.K CF X.N.length i tb ts) := ⟨by
  intro pins s σ H D I h
  refine wpAny_Try_except (wpAny_mono ((hb _ (fun e s₁ => wpAny (model X.prog X.w) X.A (noteFrame e X.env) (fun _ s₂ => wpAny (model X.prog X.w) X.A (setFlight e none) (fun _ s₃ => wpAny (model X.prog X.w) X.A (handleBy e X.env [.ExceptHandler (some (.Name x np)) (some n) (b0 :: suite) hp]) (SP X pins D) X.xe s₃) X.xe s₂) X.xe s₁) (X.pn ++ pins) ?_).h [] s σ H D (I.tried (pins := pins)) h) (fun f s1 q => ?_) fun _ _ z => z)
  · rintro pins1 σ1 H1 s1 e ⟨h', g', d', t', os'⟩ J ⟨a, cls, a0, B, H', rfl, os, bare, fl, un, kb, tb, hok, na, C, rfl, F, hx, k⟩
    have J := J.untried
    have fr : X.A.frames = some (X.env :: X.outer) := by rw [← hst.1]; exact J.ok.frames
    have fl : Heap.FlyingW B (X.env :: X.outer) a (.ref C) a0 h' := by rw [← hst.1]; exact fl
    refine wpAny_looks_onW fr hst.2 fl fun h4 held4 up4 => wpAny_landsW held4 fun h5 fl5 up5 => ?_
    have up45 := up4.trans up5
    have mk : ∀ {h6 : Heap}, Heap.FlyingW B (X.env :: X.outer) a (.ref C) a0 h6 → h'.UpToSlots h6 → Inv X pins σ1 H' ⟨h6, g', d', t', os'⟩ := fun {h6} fl6 up6 =>
      J.call' (s' := ⟨h6, g', d', t', os'⟩) (ch := []) os (un_up J.stack J.stkFree un kb tb fl6.1 up6) (hok.kept fl6.1) bare (fun b z => absurd z (by simp))
    have J5 := mk fl5 up45
    have xa : ∀ {h6 : Heap}, Heap.FlyingW B (X.env :: X.outer) a (.ref C) a0 h6 → XAt a C h6 := fun fl6 => fl6.there
    refine wpAny_handleBy_cons (codeAny_handlers_test (Calls.Name_function_global J5.ok.kind hg (Calls.loadGlobal_global (by rw [J5.ok.glob]; exact J5.mod.glob.keeps J5.bk) hm ?_) hdb)) (by intro q; cases q)
    refine (PySem.W.exm_one J5.kIn (xa fl5).ty hx).at ?_
    show codeAny _ _ _ _ _
    refine codeAny_handlers_suite_as ?_
    refine lands_againW fl5 fun h6 fl6 up6 => ?_
    have J6 := mk fl6 (up45.trans up6)
    have ex : ∀ b o, s1.heap.get? b = some o → b ≠ a := fun b o e z => by rw [z, na] at e; cases e
    have aL : X.env.locals ≠ a := by
      obtain ⟨m, ⟨o, _, _, e, _⟩, _⟩ := J.loc
      exact ex _ o e
    have aC : ∀ y c, X.env.cells.lookup y = some c → c ≠ a := fun y c e => by
      obtain ⟨v, o, q, _⟩ := J.cell y c e
      exact ex c o q
    have hH : H' a = none := by
      cases q : H' a with
      | none => rfl
      | some u =>
        obtain ⟨o, e⟩ := no_obj (hok a u q)
        have := fl.2.1
        rw [this] at e
        cases e
    refine store_ok2 J6 hN hi (.inl hl) (v := .ref a) rfl (fun s7 J7 sm => ?_) (.inr hl)
    have x7 : XAt a C s7.heap := by
      obtain ⟨b, sb, hb⟩ := sm
      obtain ⟨o, e, c⟩ := xa fl6
      refine ⟨o, (sb.2 a ?_).trans e, c⟩
      rcases hb with rfl | hb
      · exact aL.symm
      · exact (aC _ _ hb).symm
    have J8 : Inv X pins ((List.replicate X.N.length none).set i (some (.ref a))) H' s7 := by
      refine J7.weak (by simp [J7.len]) fun j v e => ?_
      by_cases z : j = i
      · subst z
        have lt : j < X.N.length := (List.getElem?_eq_some_iff.mp hi).1
        rw [List.getElem?_set_self (by rw [List.length_replicate]; exact lt)] at e
        rw [List.getElem?_set_self (by rw [J.len]; exact lt)]
        exact e
      · rw [List.getElem?_set_ne (Ne.symm z), List.getElem?_replicate] at e
        split at e <;> cases e
    have J9 := J8.track (a := a) (o := .ext (XAt a C)) hH (by
      cases q : X.s₀.heap.get? a with
      | none => rfl
      | some o =>
        obtain ⟨o', e⟩ := J.base.there a o q (by rw [hex]; simp)
        exact absurd rfl (ex a o' e)) aL.symm aC (fun p hp => ex p.1 p.2 (J.pin p hp).1) ⟨x7, (let ⟨o, e, _⟩ := x7; ⟨o, e⟩), fun h1 h2 ⟨o, e, c⟩ k => ⟨o, k o e, c⟩⟩
    have nw := k a ⟨hH, J9.notMod upd_same⟩
    refine wpAny_mono ((hs a _ (X.pn ++ pins)).h [] s7 _ _ (D.gone i) (J9.caught (a := a)) nw) (fun f s8 q => ?_) fun _ _ z => z
    cases f with
    | next =>
      obtain ⟨σ', H2, JA, q⟩ := q
      exact name_goes (JA.uncaught J.ok) hN hi hl fun s' JB => ⟨_, _, JB, q⟩
    | brk =>
      obtain ⟨σ', H2, JA, q⟩ := q
      exact name_goes (JA.uncaught J.ok) hN hi hl fun s' JB => ⟨_, _, JB, q⟩
    | cont =>
      obtain ⟨σ', H2, JA, q⟩ := q
      exact name_goes (JA.uncaught J.ok) hN hi hl fun s' JB => ⟨_, _, JB, q⟩
    | ret u =>
      obtain ⟨v, σ', H2, JA, r, q⟩ := q
      exact name_goes (JA.uncaught J.ok) hN hi hl fun s' JB => ⟨_, _, _, JB, r, q⟩
  · cases f with
    | next =>
      obtain ⟨σ', H', J, q⟩ := q
      exact wpAny_execs_nil ⟨σ', H', J.untried, q⟩
    | brk =>
      obtain ⟨σ', H', J, q⟩ := q
      exact ⟨σ', H', J.untried, q⟩
    | cont =>
      obtain ⟨σ', H', J, q⟩ := q
      exact ⟨σ', H', J.untried, q⟩
    | ret u =>
      obtain ⟨v, σ', H', J, r, q⟩ := q
      exact ⟨v, σ', H', J.untried, r, q⟩⟩
end
end L2
set_option Elab.async false
set_option linter.all false
set_option maxRecDepth 100000
set_option maxHeartbeats 4000000
namespace L2
open PySem PySem.Spec PyProof.Rows
def lamCx (P : Program) (w : World) (K : PySem.W.Frag) (mg : Str → Option Value) (base : Heap) (N : List Str) (qual : Str) (scope : Scope) (f : Addr) (cd : Value) (A : Around) (outer : List Env) (s : Shared) (H : Hp) (E : XK) (cl : List (Str × Addr)) : Cx where
  prog := P
  w := w
  K := K
  mg := mg
  base := base
  A := A.deeper (PySem.W.envX qual scope s.heap.objs.size f cd cl)
  N := N
  s₀ := s
  H₀ := H
  env := PySem.W.envX qual scope s.heap.objs.size f cd cl
  outer := outer
  stack := PySem.W.envX qual scope s.heap.objs.size f cd cl :: outer
  ex := []
  calm := true
  fn := fun _ => false
  pn := []
  xe := fun e s' => wpAny (model P w) (A.deeper (PySem.W.envX qual scope s.heap.objs.size f cd cl)) (leaving (PySem.W.envX qual scope s.heap.objs.size f cd cl) e) (fun _ s'' => CXO P w outer H s E e s'') (fun e' s'' => CXO P w outer H s E e' s'') s'
structure Lam (K : PySem.W.Frag) (H : Hp) (h : Heap) (f : Addr) (name qual : Str) (params : Arguments) (body : Expr) (scope : Scope) (cl : List (Str × Addr)) (pm ctv : Value) (c' : Addr) (N : List Str) (σ : St) : Prop where
  obj : h.get? f = some (PySem.W.kla_obj name qual params body scope cl pm c' ctv)
  code : h.CodeRec (.ref c') qual
  free : ∀ x c, cl.lookup x = some c → H c = none ∧ ∃ v, h.IsCell c v
  inj : ∀ x y c, cl.lookup x = some c → cl.lookup y = some c → x = y
  has : ∀ x, (scope.names.lookup x = some .cell ∨ scope.names.lookup x = some .free) → ∃ c, cl.lookup x = some c
  vals : ∀ (i : Nat) (x : Str) (v : V), N[i]? = some x → σ[i]? = some (some v) → ∃ u c, RelV v u ∧ cl.lookup x = some c ∧ h.IsCell c (some u) ∧ scope.names.lookup x = some .free
  len : σ.length = N.length
section
variable {P : Program} {w : World} {K : PySem.W.Frag} {mg : Str → Option Value} {base : Heap} {N : List Str} {name qual : Str} {scope : Scope} {f c' : Addr} {A : Around} {outer : List Env} {s : Shared} {H : Hp} {E : XK} {cl : List (Str × Addr)} {params : Arguments} {body : Expr} {pm ctv : Value} {σ : St} {Q : VK} {k : Nat} {te : TE}
theorem lam_run (L : Lam K H s.heap f name qual params body scope cl pm ctv c' N σ) (e0 : Env0 P w K mg base A outer s H) (hr : Room (k + 1) A) (hk : scope.kind = .function) (hco : scope.isCoroutine = false) (hgen : scope.isGenerator = false) (hcell : ∀ x ∈ scope.names, x.2 ≠ .cell)
    (hbind : bindArgs (PySem.W.kla_fn name qual params body scope cl pm (.ref c') ctv) ⟨[], []⟩ = pure []) (hb : JE (lamCx P w K mg base N qual scope f (.ref c') A outer s H E cl) body te) (h : te σ H Q) :
    codeAny (model P w) A (.call (.ref f) ⟨[], []⟩) (CR (CXO P w) outer P w H s Q E) s := by
  have lim : s.heap.NoLimit := e0.mod.nolimit.keeps fun b o e => (e0.bs b o e).1
  refine PySem.W.kla_callFunE hr.depth L.obj rfl hco hgen rfl L.code ?_
  rw [hbind]
  refine wpAny_pure (wpAny_newFunctionEnv hcell (fun _ h => nomatch h) (fun h1 hns hsb => ⟨lim.fresh _ hsb, ?_⟩) hk)
  have hkp : ∀ b o, s.heap.get? b = some o → h1.get? b = some o := fun b o e => hsb.extBut b o (Nat.ne_of_lt (Heap.lt_size e)) (Heap.get?_push_of_some _ e)
  have ck : ∀ c v, s.heap.IsCell c v → h1.IsCell c v := fun c v ⟨o, e, d⟩ => ⟨o, hkp c o e, d⟩
  have I : Inv (lamCx P w K mg base N qual scope f (.ref c') A outer s H E cl) [] σ H { s with heap := h1, toks := s.toks + 0 } := by
    refine ⟨⟨e0.mod, hk, rfl, rfl, Nat.le_refl _, L.inj, L.has, (fun _ _ z => nomatch z), fun _ => hr.hd, Around.frames_deeper e0.frames, .inr ⟨rfl, rfl⟩, fun b z => absurd (show b ∈ ([] : List Addr) from z) (by simp), e0.bs, e0.bsz, fun b _ _ z => absurd (show b ∈ ([] : List Addr) from z) (by simp), fun b z => absurd (show b ∈ ([] : List Addr) from z) (by simp), e0.funs, e0.frf⟩,
      rfl, e0.bare, Un.kept hkp, ⟨_, hns, fun i x v e1 e2 _ => ?_⟩, fun x c e => ?_, e0.hok.fresh (Nat.le_refl _), fun x c e => (L.free x c e).1, fun p hp => absurd (show p ∈ ([] : List (Addr × Obj)) from hp) (by simp), e0.hok.kept hkp, L.len⟩
    · obtain ⟨u, c, r, e, z, y⟩ := L.vals i x v e1 e2
      exact ⟨u, r, .inr ⟨.inr y, c, e, ck _ _ z⟩⟩
    · obtain ⟨_, v, z⟩ := L.free x c e
      exact ⟨v, ck _ _ z⟩
  refine PySem.W.kla_codeExpr (wpAny_mono (hb.h [] _ σ H Q I h) (fun v s' z => ?_) fun _ _ z => z)
  obtain ⟨x, H', J, r, q⟩ := z
  exact ⟨x, H', J.os, J.bare, J.base, J.hok, r, q⟩
end
def tAsk (f : Addr) (H0 : Hp) (i : Nat) (σl : St) (te : TE) : TE := fun σ H Q => σ[i]? = some (some (.ref f)) ∧ H = H0 ∧ te σl H Q
section
variable {X : Cx} {N : List Str} {name qual : Str} {scope : Scope} {f c' : Addr} {E : XK} {cl : List (Str × Addr)} {params : Arguments} {body : Expr} {pm ctv : Value} {σl : St} {k i : Nat} {te : TE} {x : Str} {p pos : Pos}
theorem Lam.on {pins : List (Addr × Obj)} {σ : St} {s : Shared} (L : Lam X.K X.H₀ X.s₀.heap f name qual params body scope cl pm ctv c' N σl) (hf : X.H₀ f = none ∧ f ∉ X.fs) (hc : X.H₀ c' = some (.ext fun h => h.CodeRec (.ref c') qual)) (hcl : ∀ x c, cl.lookup x = some c → c ∉ X.fs) (hex : X.ex = [])
    (I : Inv X pins σ X.H₀ s) : Lam X.K X.H₀ s.heap f name qual params body scope cl pm ctv c' N σl := by
  have nx : ∀ b : Addr, b ∉ X.ex := fun b => by rw [hex]; simp
  have ck : ∀ y c v, cl.lookup y = some c → X.s₀.heap.IsCell c v → s.heap.IsCell c v := fun y c v e ⟨o, q, d⟩ => ⟨o, I.base.keep c o q (L.free y c e).1 (hcl y c e) (nx c), d⟩
  refine ⟨I.base.keep f _ L.obj hf.1 hf.2 (nx f), (I.hok c' _ hc).1, fun y c e => ?_, L.inj, L.has, fun j y v e1 e2 => ?_, L.len⟩
  · obtain ⟨n, v, z⟩ := L.free y c e
    exact ⟨n, v, ck y c v e z⟩
  · obtain ⟨u, c, r, e, z, q⟩ := L.vals j y v e1 e2
    exact ⟨u, c, r, e, ck y c _ e z, q⟩
theorem eask (L : Lam X.K X.H₀ X.s₀.heap f name qual params body scope cl pm ctv c' N σl) (hf : X.H₀ f = none ∧ f ∉ X.fs) (hc : X.H₀ c' = some (.ext fun h => h.CodeRec (.ref c') qual)) (hcl : ∀ x c, cl.lookup x = some c → c ∉ X.fs) (hex : X.ex = [])
    (hp : Passes (CXO X.prog X.w) X E) (hr : Room (k + 1) X.A) (hk : scope.kind = .function) (hco : scope.isCoroutine = false) (hgen : scope.isGenerator = false) (hcell : ∀ x ∈ scope.names, x.2 ≠ .cell)
    (hbind : bindArgs (PySem.W.kla_fn name qual params body scope cl pm (.ref c') ctv) ⟨[], []⟩ = pure []) (hb : ∀ s1 : Shared, JE (lamCx X.prog X.w X.K X.mg X.base N qual scope f (.ref c') X.A X.stack s1 X.H₀ E cl) body te)
    (hN : X.N[i]? = some x) (hv : Vis X.env.scope x) (hd : (x == ("__debug__" : Str)) = false := by decide) (hcd : (x == ("__classdict__" : Str)) = false := by decide) :
    JE X (.Call (.Name x p) [] [] pos) (tAsk f X.H₀ i σl te) := ⟨by
  rintro pins s σ H Q I ⟨e1, rfl, h⟩
  refine wpAny_Call_Name_kw (thn ((pe_var (pos := p) hN hv hd hcd) pins s σ X.H₀ (fun v H2 => v = .ref f ∧ H2 = X.H₀) I ⟨_, e1, rfl, rfl⟩) fun u s2 ⟨v, H2, I2, r, e, e'⟩ => ?_)
  subst e e'
  obtain rfl : u = Value.ref f := r
  have L2 := L.on hf hc hcl hex I2
  refine PySem.W.callWith_F0 ⟨_, _, _, _, L2.obj⟩ (wpAny_call (codeAny_mono (lam_run L2 I2.env0 hr hk hco hgen hcell hbind (hb s2) h) fun r s' hq => ?_))
  cases r with
  | error e => exact hp pins σ X.H₀ s2 e s' I2 hq
  | ok fl =>
    cases fl with
    | ret u => exact I2.after hq
    | next => exact False.elim hq
    | brk => exact False.elim hq
    | cont => exact False.elim hq⟩
end
end L2
set_option Elab.async false
set_option linter.all false
set_option maxRecDepth 100000
set_option maxHeartbeats 4000000
namespace L2
open PySem PySem.Spec PyProof.Rows
theorem among_snoc {q : Pos} {a b : Int} {c v : Value} (l : List Value) (ht : TriplesOk l) (h : codeAmong q (l ++ [rawInt a, rawInt b, c]) = some v) : codeAmong q l = some v ∨ v = c := by
  fun_induction TriplesOk l with
  | case1 =>
    right
    simp only [List.nil_append, rawInt, codeAmong] at h
    split at h
    · exact (Option.some.inj h).symm
    · cases h
  | case2 a' t b' u x rest ih =>
    simp only [List.cons_append, codeAmong] at h ⊢
    split at h
    · rename_i z
      rw [if_pos z]
      exact .inl h
    · rename_i z
      rw [if_neg z]
      exact ih ht h
  | case3 l h1 h2 => exact ht.elim
def CTab (H : Hp) (ps : Array Value) (qual : Str) : Prop := TriplesOk ps.toList ∧ ∀ q v, codeAmong q ps.toList = some v → ∃ c', v = .ref c' ∧ H c' = some (.ext fun h => h.CodeRec (.ref c') qual)
structure LawTab (X : Cx) (c P : Addr) : Prop where
  code : X.env.code = .ref c
  hd : PySem.W.CodeHd X.base c P
  bt : ∃ bm ob, X.mg "__builtins__" = some (.ref bm) ∧ bm ≠ builtinsNs ∧ X.base.get? bm = some ob ∧ ob.cls = .type "module" ∧ ob.dict = some builtinsNs ∧ ob.data = .plain
section
variable {X : Cx} {pins : List (Addr × Obj)} {σ : St} {H : Hp} {s : Shared} {c P : Addr} {ps : Array Value} {params : Arguments} {body : Expr} {scope : Scope} {pos : Pos} {A : Around} {E : Value → Shared → Prop} {Q : Value → Shared → Prop}
structure Made (X : Cx) (pins : List (Addr × Obj)) (σ : St) (H : Hp) (P : Addr) (qual : Str) (params : Arguments) (body : Expr) (scope : Scope) (H' : Hp) (s' : Shared) (f c' : Addr) (pm ctv : Value) : Prop where
  inv : Inv X pins σ H' s'
  tab : ∃ ps', H' P = some (.tbl ps') ∧ CTab H' ps' qual
  code : H' c' = some (.ext fun h => h.CodeRec (.ref c') qual)
  keep : ∀ b o, H b = some o → b ≠ P → H' b = some o
  mod : ∀ b xs, H b = none → kTup X.K b = some xs → H' b = none
  obj : s'.heap.get? f = some (PySem.W.kla_obj "<lambda>" qual params body scope (closL X.env scope.names []) pm c' ctv)
  free : H' f = none
  above : X.s₀.heap.objs.size ≤ f
theorem lam_make (I : Inv X pins σ H s) (T : LawTab X c P) (hP : H P = some (.tbl ps)) (ok : CTab H ps (X.env.qual ++ "<lambda>")) (hdef : defaultsOf params X.env = ([], [])) (hfr : ∀ x ∈ scope.names, x.2 = .free → ∃ c, X.env.cells.lookup x.1 = some c)
    (h : ∀ H' s' f c' pm ctv, Made X pins σ H P (X.env.qual ++ "<lambda>") params body scope H' s' f c' pm ctv → Q (.ref f) s') : wpAny (model X.prog X.w) A (eval (.Lambda params body scope pos) X.env) Q E s := by
  have hPs : s.heap.get? P = some (PySem.W.tabObj ps) := I.hok P _ hP
  have hgl : s.heap.Ns mainGlobals X.mg := I.mod.glob.keeps I.bk
  have hgP : mainGlobals ≠ P := fun z => by
    obtain ⟨o, _, _, e, d, _⟩ := hgl
    rw [z, hPs] at e
    cases e
    cases d
  obtain ⟨bm, ob, b1, b2, b3, b4, b5, b6⟩ := T.bt
  have bmG : bm ≠ mainGlobals := fun z => by
    obtain ⟨o, es, ep, e, d, _⟩ := I.mod.glob
    rw [← z, b3] at e
    cases e
    rw [b6] at d
    cases d
  have bmP : bm ≠ P := fun z => by
    have := (I.bs bm ob b3).2
    rw [z, hP] at this
    cases this
  have hb : s.heap.BuiltinsAt X.mg P := ⟨bm, ob, b1, b2, bmG, bmP, I.bk _ _ b3, b4, b5, b6⟩
  have C : PySem.W.CodeHd s.heap c P := T.hd.keeps I.bk
  have hcl := closureFor_eq (scope := scope) (env := X.env) hfr
  refine PySem.W.kla_eval hdef ?_
  cases hf : codeAmong pos ps.toList with
  | some v =>
    obtain ⟨c', rfl, hc⟩ := ok.2 pos v hf
    refine PySem.W.kla_makeFunctionHit hcl I.ok.glob hgl T.code C hPs ok.1 hf hb fun ctv h' tk hk hsz => ?_
    refine h H _ _ c' _ ctv ⟨I.kept (t' := tk) fun b u e => Heap.get?_push_of_some _ (hk b u e), ⟨ps, hP, ok⟩, hc, fun _ _ e _ => e, fun _ _ e _ => e, Heap.get?_push_size _ rfl, I.hok.fresh hsz, Nat.le_trans I.sz hsz⟩
  | none =>
    refine PySem.W.kla_makeFunction hcl I.ok.glob hgl T.code C hPs ok.1 hf hgP hb fun c' ctv h' tk hx h1 h2 hr hP' => ?_
    have nP : ∀ b, H b = none → b ≠ P := fun b n z => by rw [z, hP] at n; cases n
    have nQ : ∀ b u, H b = some u → (∀ q, u ≠ .tbl q) → b ≠ P := fun b u e n z => by rw [z, hP] at e; cases e; exact n _ rfl
    have I1 : Inv X pins σ (upd H P (.tbl (ps ++ #[rawInt pos.line, rawInt pos.col, .ref c']))) { s with heap := h', toks := tk } := by
      refine I.un ⟨fun b o e n _ _ => hx b o (nP b n) e, fun b o e n _ _ => ⟨o.slots, hx b o (nP b n) e⟩, fun b o e n _ => by rw [upd_ne (nP b n)]; exact n, fun b o e _ => ?_, fun b xs e => ?_, fun b o u e => ?_, fun b qs e => ?_⟩ fun b u e => ?_
      · by_cases z : b = P
        · exact ⟨_, by rw [z]; exact hP'⟩
        · exact ⟨o, hx b o z e⟩
      · rw [upd_ne (nQ b _ e fun _ => nofun)]
        exact e
      · rw [upd_ne (nQ b _ e fun _ => nofun)]
        exact e
      · by_cases z : b = P
        · subst z
          rw [hP] at e
          cases e
          exact ⟨_, upd_same⟩
        · exact ⟨#[], by rw [upd_ne z, e]; simp⟩
      · by_cases z : b = P
        · subst z
          rw [upd_same] at e
          cases e
          exact hP'
        · rw [upd_ne z] at e
          refine (I.hok b u e).stay (fun d w' hc q => hx d w' ?_ q) (fun d q => by rw [upd_ne (nQ d _ q fun _ => nofun)]; exact q) fun d xs q => by rw [upd_ne (nQ d _ q fun _ => nofun)]; exact q
          rcases hc with rfl | hc
          · exact z
          · exact nQ d _ hc fun _ => nofun
    have lt : ∀ b o, s.heap.get? b = some o → b ≠ c' := fun b o e => Nat.ne_of_lt (Nat.lt_of_lt_of_le (Heap.lt_size e) h1)
    have cP : c' ≠ P := (lt P _ hPs).symm
    have hcn : H c' = none := I.hok.fresh h1
    have I2 := I1.track (a := c') (o := .ext fun h => h.CodeRec (.ref c') (X.env.qual ++ "<lambda>")) (by rw [upd_ne cP]; exact hcn) (Heap.get?_none_of_le (Nat.le_trans I.sz h1)) (Nat.ne_of_gt (Nat.lt_of_lt_of_le I.lt h1)) (fun y d e => by
      obtain ⟨v, o, q, _⟩ := I.cell y d e
      exact lt d o q) (fun p hp => lt p.1 p.2 (I.pin p hp).1) (by
      obtain ⟨d, oc, vs, tq, e1, e2, e3, e4⟩ := id hr
      cases e1
      refine ⟨hr, ⟨oc, e2⟩, fun g1 g2 z k => ?_⟩
      obtain ⟨d', oc', vs', tq', y1, y2, y3, y4⟩ := z
      cases y1
      exact ⟨_, oc', vs', tq', rfl, k oc' y2, y3, y4⟩)
    have kp : ∀ b u, H b = some u → b ≠ P → upd (upd H P (.tbl (ps ++ #[rawInt pos.line, rawInt pos.col, .ref c']))) c' (.ext fun h => h.CodeRec (.ref c') (X.env.qual ++ "<lambda>")) b = some u := fun b u e z => by
      rw [upd_ne (ne_of_none e hcn), upd_ne z]
      exact e
    have h1' : s.heap.objs.size ≤ h'.objs.size := Nat.le_of_lt (Nat.lt_of_le_of_lt h1 h2)
    have fc : h'.objs.size ≠ c' := Nat.ne_of_gt h2
    have fP : h'.objs.size ≠ P := Nat.ne_of_gt (Heap.lt_size hP')
    refine h _ _ _ c' _ ctv ⟨I2.kept (t' := tk) fun b u e => Heap.get?_push_of_some _ e, ⟨_, by rw [upd_ne cP.symm, upd_same], ?_, fun q v e => ?_⟩, upd_same, kp, fun b xs n e => ?_, Heap.get?_push_size _ rfl, ?_, Nat.le_trans I.sz h1'⟩
    · rw [Array.toList_append]
      exact TriplesOk_snoc _ _ _ _ ok.1
    · rw [Array.toList_append] at e
      rcases among_snoc _ ok.1 e with e | rfl
      · obtain ⟨d, rfl, hd⟩ := ok.2 q v e
        exact ⟨d, rfl, kp d _ hd (nQ d _ hd fun _ => nofun)⟩
      · exact ⟨c', rfl, upd_same⟩
    · rw [upd_ne (fun z => ?_), upd_ne (nP b n)]
      · exact n
      · rw [z, I2.notMod upd_same] at e
        cases e
    · rw [upd_ne fc, upd_ne fP]
      exact I.hok.fresh h1'
end
section
variable {X : Cx} {pins : List (Addr × Obj)} {σ : St} {H H' : Hp} {s' : Shared} {P f c' : Addr} {qual : Str} {params : Arguments} {body : Expr} {scope : Scope} {pm ctv : Value} {N : List Str} {src : List (Option Nat)}
theorem Made.lam (M : Made X pins σ H P qual params body scope H' s' f c' pm ctv) (c : Cap X scope N src) : Lam X.K H' s'.heap f "<lambda>" qual params body scope (closL X.env scope.names []) pm ctv c' N (pick σ src) := by
  have I := M.inv
  refine ⟨M.obj, (I.hok c' _ M.code).1, fun x d e => ⟨I.freeC x d (clos_look e), I.cell x d (clos_look e)⟩, fun x y d e1 e2 => I.ok.inj x y d (clos_look e1) (clos_look e2), fun x h => ?_, fun i x v e1 e2 => ?_, by unfold pick; rw [List.length_map]; exact c.len.symm⟩
  · have m : (x, NameKind.free) ∈ scope.names := by
      rcases h with h | h
      · exact absurd rfl (c.cell _ (lookup_mem h))
      · exact lookup_mem h
    obtain ⟨d, hd⟩ := I.ok.has x (c.free m)
    exact ⟨d, clos_has m hd⟩
  · obtain ⟨j, e3, e4⟩ := pick_some e2
    obtain ⟨a1, a2, a3⟩ := c.at_ e1 e3
    obtain ⟨m, _, hl⟩ := I.loc
    have vis : Vis X.env.scope x := by
      rcases a2 with z | z
      · exact .inr (.inl z)
      · exact .inr (.inr z)
    obtain ⟨u, r, q⟩ := hl j x v a1 e4 vis
    rcases q with ⟨z, _⟩ | ⟨_, d, e, z⟩
    · rw [z] at a2
      rcases a2 with z | z <;> cases z
    · exact ⟨u, d, r, clos_has (lookup_mem a3) e, z, a3⟩
theorem Made.apart (M : Made X pins σ H P qual params body scope H' s' f c' pm ctv) (hfn : ∀ x, X.fn x = true) : f ∉ frs X.stack ∧ ∀ x d, (closL X.env scope.names []).lookup x = some d → d ∉ frs X.stack := by
  have I := M.inv
  have old : ∀ b, X.s₀.heap.objs.size ≤ b → b ∉ X.fs := fun b hb z => by
    obtain ⟨_, o, e, _⟩ := I.ok.funs.mem z
    exact absurd (Nat.lt_of_lt_of_le (Heap.lt_size e) hb) (Nat.lt_irrefl _)
  refine ⟨fun z => ?_, fun x d e z => ?_⟩
  · rcases List.mem_cons.mp (I.stkSub f z) with q | q
    · obtain ⟨m, ⟨o, es, ep, e, k, _⟩, _⟩ := I.loc
      rw [← q, M.obj] at e
      cases e
      cases k
    · exact old f M.above q
  · rcases List.mem_cons.mp (I.stkSub d z) with q | q
    · exact I.cne x d (clos_look e) q
    · exact old d (I.ok.cab x d (hfn x) (clos_look e)) q
end
section
variable {P : Program} {w : World} {K : PySem.W.Frag} {mg : Str → Option Value} {base : Heap} {x qual : Str} {st : Stmt} {f : Addr} {fd : FuncData} {N ps : List Str} {k : Nat}
theorem Fun.runS {A : Around} {outer : List Env} {s : Shared} {H : Hp} {us : List Value} {vs : List V} {Q : VK} {E : XK} {CX : CXT} (F : Fun K x qual st f fd) (S : FnScope N ps (defScope st)) (hr : Room (k + 1) A) (e0 : Env0 P w K mg base A outer s H) (hb : Binds K fd ps []) (hl : vs.length = ps.length) (r : Vals vs us)
    (hbody : ∀ cdv : Value, Room k (A.deeper (envOfC qual (defScope st) s.heap.objs.size f cdv)) → ∃ t, JB (cxOf CX P w K mg base N qual (defScope st) f cdv A outer s H E) (defBody st) t ∧ t { nx := fun _ H' => Q .non H', rt := Q } (start N vs) H) :
    codeAny (model P w) A (.call (.ref f) ⟨us, []⟩) (CR CX outer P w H s Q E) s := by
  obtain ⟨oc, od, kV, doc, pm, an, cdv, ct, osl, rfl, lk, hcd⟩ := F.ex
  have KX : K.In s.heap := e0.mod.kin.keeps fun b o e => (e0.bs b o e).1
  have lim : s.heap.NoLimit := e0.mod.nolimit.keeps fun b o e => (e0.bs b o e).1
  have hbd := hb s us KX (by rw [List.append_nil, ← r.length]; exact hl)
  rw [List.append_nil] at hbd
  have hkind : ∀ y ∈ ps.zip us, (defScope st).names.lookup y.1 = some .local ∨ ((defScope st).names.lookup y.1 = some .cell ∧ ((cellsFrom (s.heap.objs.size + 1) (defScope st).names []).lookup y.1).isSome = true) := fun ⟨n, v⟩ hy => by
    rcases S.par n (List.of_mem_zip hy).1 with q | q
    · exact .inl q
    · exact .inr ⟨q, PySem.W.cellsFrom_some _ _ _ (.inl q)⟩
  refine codeAny_call_function hr.depth (KX _ _ lk) rfl S.co S.gen rfl (PySem.W.codeRec_of KX hcd) (hbd _ _ _ _ ?_)
  refine wpAny_newFunctionEnv_cells S.kind hkind fun env he s1 x => ?_
  subst he
  refine ⟨lim.keeps x.toInCall.keep, codeAny_func ?_⟩
  obtain ⟨t, ht, hq⟩ := hbody cdv (hr.deeper _)
  have I : Inv (cxOf CX P w K mg base N qual (defScope st) f cdv A outer s H E) [] (start N vs) H s1 := inv_start S hr.hd e0 hl r x
  refine wpAny_mono (ht.h [] s1 (start N vs) H _ I hq) (fun fl s' hs => ?_) fun e s' hs => hs
  cases fl with
  | ret u =>
    obtain ⟨v, σ', H', J, rv, q⟩ := hs
    exact ⟨v, H', J.os, J.bare, J.base, J.hok, rv, q⟩
  | next =>
    obtain ⟨σ', H', J, q⟩ := hs
    exact ⟨.non, H', J.os, J.bare, J.base, J.hok, rfl, q⟩
  | brk =>
    obtain ⟨_, _, _, q⟩ := hs
    exact False.elim q
  | cont =>
    obtain ⟨_, _, _, q⟩ := hs
    exact False.elim q
theorem Fun.okX {sp : Sp} (F : Fun K x qual st f fd) (S : FnScope N ps (defScope st)) (len : ∀ vs H Q E, sp vs H Q E → vs.length = ps.length)
    (hbody : ∀ (cdv : Value) (A : Around) (outer : List Env) (s : Shared) (H : Hp) (vs : List V) (Q : VK) (E : XK), Room k (A.deeper (envOfC qual (defScope st) s.heap.objs.size f cdv)) → sp vs H Q E →
      ∃ t, JB (cxOf (CXO P w) P w K mg base N qual (defScope st) f cdv A outer s H E) (defBody st) t ∧ t { nx := fun _ H' => Q .non H', rt := Q } (start N vs) H) : FnOk P w K mg base (CXO P w) (k + 1) f fd ps sp := by
  obtain ⟨oc, od, kV, doc, pm, an, cdv, ct, osl, rfl, lk, hcd⟩ := F.ex
  refine fn_of lk hcd S len fun A outer s H vs Q E hr hsp => ?_
  obtain ⟨t, h, q⟩ := hbody cdv A outer s H vs Q E hr hsp
  exact ⟨t, h.h, q⟩
theorem Fun.okL {sp : Sp} {c : Addr} {oc : Value} {od an : Option Addr} {kV doc pm ct : Value} {osl : Array (Option Value)} (lk : K.lookup f = some ⟨oc, od, .func (PySem.W.fnOf x qual (defArgs st) (defBody st) (defScope st) .none kV doc pm an (.ref c) ct), osl⟩) (hcd : PySem.W.codeIn K (.ref c) qual = true) (S : FnScope N ps (defScope st)) (len : ∀ vs H Q E, sp vs H Q E → vs.length = ps.length)
    (hbody : ∀ (A : Around) (outer : List Env) (s : Shared) (H : Hp) (vs : List V) (Q : VK) (E : XK), Room k (A.deeper (envOfC qual (defScope st) s.heap.objs.size f (.ref c))) → sp vs H Q E →
      ∃ t, JB (cxOf CX0 P w K mg base N qual (defScope st) f (.ref c) A outer s H E).nox (defBody st) t ∧ t { nx := fun _ H' => Q .non H', rt := Q } (start N vs) H) : FnOk P w K mg base CX0 (k + 1) f (PySem.W.fnOf x qual (defArgs st) (defBody st) (defScope st) .none kV doc pm an (.ref c) ct) ps sp := by
  refine fn_of lk hcd S len fun A outer s H vs Q E hr hsp => ?_
  obtain ⟨t, h, q⟩ := hbody A outer s H vs Q E hr hsp
  exact ⟨t, h.h.nox, q⟩
structure CalleeX (P : Program) (w : World) (K : PySem.W.Frag) (mg : Str → Option Value) (base : Heap) (x : Str) (k : Nat) (ps : List Str) (sp : Sp) : Prop where
  ex : ∃ (f : Addr) (fd : FuncData), FnOk P w K mg base (CXO P w) k f fd ps sp ∧ Binds K fd ps [] ∧ PySem.W.keepIn K (.ref f) = true ∧ mg x = some (.ref f)
theorem ecallX {X : Cx} {E : XK} {sp : Sp} {e : Expr} {es : List Expr} {t : TA} {p pos : Pos} {y : Str} (C : CalleeX X.prog X.w X.K X.mg X.base y k ps sp) (hx : Passes (CXO X.prog X.w) X E) (hr : Room k X.A) (hg : Gl X y) (ha : JA X (e :: es) t)
    (hdb : (y == ("__debug__" : Str)) = false := by decide) (he : starEach (e :: es) X.env = (false, eval e X.env) :: starEach es X.env := by rfl) (hpl : (backTo pos (starEach es X.env)).any (·.1) = false := by rfl) :
    JE X (.Call (.Name y p) (e :: es) [] pos) (tCall sp [] E t) := ⟨by
  obtain ⟨f, fd, F, b, kp, m⟩ := C.ex
  exact pe_call F hr hg m kp b .nil hx ha.h hdb he hpl⟩
end
end L2
set_option Elab.async false
set_option linter.all false
set_option maxRecDepth 100000
set_option maxHeartbeats 4000000
namespace L2
open PySem PySem.Spec PyProof.Rows
section
variable {X : Cx}
theorem call_isexc : CallR X (.builtin "isinstance") (fun xs H Q => ∃ a C D b, xs = [.ref a, .ref D] ∧ H a = some (.ext (XAt a C)) ∧ ExcI X.K C ∧ PySem.W.kitOne X.K (.ref C) (.ref D) = some b ∧ Q (.bl b) H) := by
  rintro pins s σ H xs us Q I r ⟨a, C, D, b, rfl, hx, F, e, q⟩
  obtain ⟨u, w', rfl, ru, rw'⟩ := vals2 r
  cases (show w' = Value.ref D from rw')
  cases (show u = Value.ref a from ru)
  exact PySem.W.kia_one (kitx_exc F) I.kIn (I.hok a _ hx).1 e (fun z => nomatch z) fun tk => ⟨.bl b, H, I.tok tk, rfl, q⟩
end
def OnlyT (P : Addr) (H : Hp) : Prop := H P = some (.tbl #[]) ∧ ∀ b, b ≠ P → H b = none ∨ ∃ o xs, H b = some (.frz o (.lst xs))
def BMain (mg : Str → Option Value) (h : Heap) : Prop := ∃ bm ob, mg "__builtins__" = some (.ref bm) ∧ bm ≠ builtinsNs ∧ h.get? bm = some ob ∧ ob.cls = .type "module" ∧ ob.dict = some builtinsNs ∧ ob.data = .plain
theorem law_callT {P : Program} {w : World} {K : PySem.W.Frag} {mg mb : Str → Option Value} {CX : CXT} {k : Nat} {fa a c T : Addr} {fd : FuncData} {x : Str} {sp : Sp} {s₁ : Shared} {vs : List Value} {ns : List Int}
    (KX : K.In s₁.heap) (hns : s₁.heap.Ns mainGlobals mg) (hb : s₁.heap.Ns builtinsNs mb) (hbb : ∀ x : Str, x ≠ "__name__" → mb x = bootBuiltins x) (hlim : s₁.heap.NoLimit) (hg : s₁.gens = #[])
    (hC : PySem.W.CodeHd s₁.heap c T) (hT : s₁.heap.get? T = some (PySem.W.tabObj #[])) (hTK : K.lookup T = none) (hM : BMain mg s₁.heap)
    (ha : s₁.heap.get? a = some { cls := .type "list", data := .seq vs.toArray }) (hi : IntsAre vs ns) (hl : ns.length ≤ sizeLine) (hr : Room k callerA)
    (F : ∀ base : Heap, K.In base → base.Ns mainGlobals mg → PySem.W.CodeHd base c T → BMain mg base → FnOk P w K mg base CX k fa fd [x] sp) (hbind : ∀ (s : Shared) (u : Value), BindsTo s fd ⟨[u], []⟩ [(x, u)])
    (hsp : ∀ H : Hp, OnlyT T H → SqL K H a (ns.map V.int) → sp [.ref a] H (fun v _ => v = .bl true) fun _ _ _ => False)
    (hCX : ∀ H e s', CX [] H s₁ (fun _ _ _ => False) e s' → False) :
    codeAny (model P w) callerA (.call (.ref fa) ⟨[.ref a], []⟩) (fun r s' => r = .ok (.ret (.bool true)) ∧ OldK s₁.heap s'.heap ∧ s'.os = s₁.os ∧ AllBare s'.gens) s₁ := by
  have rv := vals_ints hi
  have lenV := hi.length
  have aT : a ≠ T := fun z => by rw [z, hT] at ha; cases ha
  have core : ∀ H : Hp, OnlyT T H → SqL K H a (ns.map V.int) → HOk P w H s₁.heap → (∀ b, H b ≠ none → b = a ∨ b = T) → (H a ≠ none → K.lookup a = none) →
      codeAny (model P w) callerA (.call (.ref fa) ⟨[.ref a], []⟩) (fun r s' => r = .ok (.ret (.bool true)) ∧ OldK s₁.heap s'.heap ∧ s'.os = s₁.os ∧ AllBare s'.gens) s₁ := by
    intro H hO hS hok hA hK
    have base_of : ∀ {b : Addr} {o : Obj}, s₁.heap.get? b = some o → H b = none → (hidT s₁.heap H).get? b = some o := fun e n => hidT_get e n
    have noA : ∀ {b : Addr} {o : Obj}, s₁.heap.get? b = some o → (∀ its n, o.data ≠ .seq its n) → b ≠ T → H b = none := fun {b o} e d t => by
      cases q : H b with
      | none => rfl
      | some u =>
        rcases hA b (by rw [q]; simp) with e' | e'
        · subst e'
          rw [ha] at e; cases e
          exact absurd rfl (d _ _)
        · exact absurd e' t
    have nsK : ∀ {b : Addr} {m : Str → Option Value}, s₁.heap.Ns b m → (hidT s₁.heap H).Ns b m := fun {b m} ⟨o, es, ep, e, d, r⟩ => ⟨o, es, ep, base_of e (noA e (fun its n z => by rw [d] at z; cases z) fun z => by rw [z, hT] at e; cases e; cases d), d, r⟩
    have hKb : K.In (hidT s₁.heap H) := fun b o e => base_of (KX b o e) (by
      cases q : H b with
      | none => rfl
      | some u =>
        rcases hA b (by rw [q]; simp) with e' | e'
        · subst e'
          rw [hK (by rw [q]; simp)] at e; cases e
        · subst e'
          rw [hTK] at e; cases e)
    have hCb : PySem.W.CodeHd (hidT s₁.heap H) c T := by
      obtain ⟨o, vs', file, tf, flags, tg, inF, text, tt, e1, e2, e3, r1, r2, r3, r4, r5, r6, n⟩ := id hC
      exact ⟨o, vs', file, tf, flags, tg, inF, text, tt, base_of e1 (noA e1 (fun its n z => by rw [e3] at z; cases z) n), e2, e3, r1, r2, r3, r4, r5, r6, n⟩
    have hMb : BMain mg (hidT s₁.heap H) := by
      obtain ⟨bm, ob, b1, b2, b3, b4, b5, b6⟩ := id hM
      exact ⟨bm, ob, b1, b2, base_of b3 (noA b3 (fun its n z => by rw [b6] at z; cases z) fun z => by rw [z, hT] at b3; cases b3; cases b6), b4, b5, b6⟩
    have hMd : Mod K mg (hidT s₁.heap H) := ⟨hKb, nsK hns, ⟨mb, nsK hb, hbb⟩, let ⟨mc, h1, h2⟩ := hlim; ⟨mc, nsK h1, h2⟩⟩
    have e0 : Env0 P w K mg (hidT s₁.heap H) callerA [] s₁ H := ⟨rfl, hMd, fun b o e => of_hidT e, Nat.le_of_eq (hidT_size _ _), trivial, fun b hb => absurd (show b ∈ ([] : List Addr) from hb) (by simp), hok, .of_eq hg⟩
    refine codeAny_mono ((F _ hKb (nsK hns) hCb hMb).run callerA [] s₁ H ⟨[.ref a], []⟩ [.ref a] [.ref a] _ _ hr e0 (hbind s₁ (.ref a)) (.cons rfl .nil) (hsp H hO hS)) fun r s' h => ?_
    cases r with
    | error e => exact (hCX H e s' h).elim
    | ok fl =>
      cases fl with
      | next => exact False.elim h
      | brk => exact False.elim h
      | cont => exact False.elim h
      | ret u =>
        obtain ⟨v, H', os, bare, un, hok', r', q⟩ := h
        have q' : v = .bl true := q
        subst q'
        obtain rfl : u = Value.bool true := r'
        have nf : ∀ b : Addr, b ∉ frs ([] : List Env) := fun b z => absurd (show b ∈ ([] : List Addr) from z) (by simp)
        refine ⟨rfl, ⟨fun b o e => ?_, fun b o e => un.there b o e (by simp)⟩, os, bare⟩
        by_cases z : b = T
        · subst z
          obtain ⟨m, e2⟩ := un.tbls b _ hO.1
          have e3 : s'.heap.get? b = some (PySem.W.tabObj (#[] ++ m)) := hok' b _ e2
          rw [hT] at e
          cases e
          obtain ⟨oc, vs', _, _, _, _, _, _, _, c1, c2, c3, c4, _⟩ := hC
          exact .inr (.inl ⟨⟨c, oc, vs', c1, c2, c3, c4⟩, rfl, #[], m, rfl, e3⟩)
        · refine .inl ?_
          rcases hO.2 b z with y | ⟨ob, xs, y⟩
          · exact un.keep b o e y (nf b) (by simp)
          · have z2 := un.frzs b ob _ y
            obtain ⟨e1, _⟩ := hok b _ y
            obtain ⟨e2, _⟩ := hok' b _ z2
            rw [e] at e1; cases e1
            exact e2
  have Ht : HOk P w (upd (fun _ => none) T (.tbl #[])) s₁.heap := fun b u z => by
    by_cases hb : b = T
    · subst hb
      rw [upd_same] at z
      cases z
      exact hT
    · rw [upd_ne hb] at z
      cases z
  cases hk : K.lookup a with
  | some o =>
    have e := KX a o hk
    rw [ha] at e
    cases e
    refine core (upd (fun _ => none) T (.tbl #[])) ⟨upd_same, fun b n => .inl (upd_ne n)⟩ (.inr ⟨_, vs.toArray, _, hk, rfl, rfl, rfl, by rw [List.size_toArray, lenV]; exact hl, by simpa using rv⟩) Ht (fun b z => .inr (Classical.byContradiction fun n => z (upd_ne n))) fun z => absurd (upd_ne aT) z
  | none =>
    have ua : upd (upd (fun _ => none) T (.tbl #[])) a (.frz { cls := .type "list", data := .seq vs.toArray } (.lst (ns.map V.int))) a = some _ := upd_same
    refine core (upd (upd (fun _ => none) T (.tbl #[])) a (.frz { cls := .type "list", data := .seq vs.toArray } (.lst (ns.map V.int)))) ⟨(upd_ne aT.symm).trans upd_same, fun b n => ?_⟩ (.inl (.inr ⟨{ cls := .type "list", data := .seq vs.toArray }, ua⟩)) (fun b u z => ?_) (fun b z => ?_) fun _ => hk
    · by_cases hb : b = a
      · subst hb
        exact .inr ⟨_, _, ua⟩
      · exact .inl ((upd_ne hb).trans (upd_ne n))
    · by_cases hb : b = a
      · subst hb
        rw [upd_same] at z
        cases z
        exact ⟨ha, by rw [List.length_map]; exact hl, vs, _, rv, ha⟩
      · rw [upd_ne hb] at z
        by_cases ht : b = T
        · subst ht
          rw [upd_same] at z
          cases z
          exact hT
        · rw [upd_ne ht] at z
          cases z
    · by_cases hb : b = a
      · exact .inl hb
      · exact .inr (Classical.byContradiction fun n => z ((upd_ne hb).trans (upd_ne n)))
theorem walk_ofT (nm : Str) {l : PySem.W.OpenLaw} {n k : Nat} {q : Program} {loose : List Str} {XP : (Str → Option Value) → Heap → Prop} {YP : World → Heap → Prop} {d : DefRec} {K : Params → PySem.W.Frag} {CX : World → CXT} {sp : World → Addr → Sp} {x : Str}
    (hn : l.most = some n) (hn2 : n ≤ sizeLine) (hdf : d.params.defaults = []) (hr : Room k callerA) (hfd : ((recsOf q).find? (fun e => e.name == nm)).isSome = true)
    (hY : ∀ (w : World) (h : Heap), YP w h → (K w.params).In h)
    (F : ∀ (w : World) (mg : Str → Option Value) (fa : Addr) (h : Heap), (K w.params).In h → h.Ns mainGlobals mg → mg d.name = some (.ref fa) →
      ∃ (fd : FuncData) (c T : Addr), PySem.W.tabIn (K w.params) nm = some (c, T) ∧ (K w.params).lookup T = none ∧ (∀ (s : Shared) (u : Value), BindsTo s fd ⟨[u], []⟩ [(x, u)]) ∧
        ∀ base : Heap, (K w.params).In base → base.Ns mainGlobals mg → PySem.W.CodeHd base c T → BMain mg base → FnOk l.prog w (K w.params) mg base (CX w) k fa fd [x] (sp w T))
    (hsp : ∀ (w : World) (H : Hp) (a T : Addr) (ns : List Int), ns.length ≤ n → OnlyT T H → SqL (K w.params) H a (ns.map V.int) → sp w T [.ref a] H (fun v _ => v = .bl true) fun _ _ _ => False)
    (hCX : ∀ (w : World) (H : Hp) (s : Shared) (e : Value) (s' : Shared), CX w [] H s (fun _ _ _ => False) e s' → False) :
    PySem.W.WalkO q loose XP YP l.row.toRowW d [] (fun f vs => PySem.call f vs) := by
  refine Att.attach_call hn hdf fun w s₀ s₁ mg mb fa o pm cd doc a vs ns G Y ho hd hcd hmg hobj hints hlen hg => ?_
  have KX := hY w _ Y
  obtain ⟨fd, c, T, ht, hTK, hb, hF⟩ := F w mg fa _ KX G.T.g hmg
  obtain ⟨d', hfd⟩ := Option.isSome_iff_exists.mp hfd
  obtain ⟨h1, h2⟩ := PySem.W.tab_of G.T KX hfd ht
  exact law_callT KX G.T.g G.T.b G.T.builtins G.T.nolimit hg h1 h2 hTK G.T.bmain hobj hints (Nat.le_trans hlen hn2) hr hF hb (fun H hO hS => hsp w H a T ns hlen hO hS) fun H e s' => hCX w H s₁ e s'
end L2
set_option Elab.async false
set_option linter.all false
set_option maxRecDepth 100000
set_option maxHeartbeats 4000000
namespace L2
open PySem PySem.Spec PyProof.Rows
structure LamSc (params : Arguments) (body : Expr) (scope : Scope) : Prop where
  kind : scope.kind = .function
  co : scope.isCoroutine = false
  gen : scope.isGenerator = false
  cell : ∀ x ∈ scope.names, x.2 ≠ .cell
  bind : ∀ (name qual : Str) (cl : List (Str × Addr)) (pm ctv : Value) (c' : Addr), bindArgs (PySem.W.kla_fn name qual params body scope cl pm (.ref c') ctv) ⟨[], []⟩ = pure []
structure LamAt (K : PySem.W.Frag) (outer : List Env) (s : Shared) (H : Hp) (f c' : Addr) (name qual : Str) (params : Arguments) (body : Expr) (scope : Scope) (cl : List (Str × Addr)) (pm ctv : Value) (N : List Str) (σl : St) : Prop where
  lam : Lam K H s.heap f name qual params body scope cl pm ctv c' N σl
  free : H f = none ∧ f ∉ frs outer
  code : H c' = some (.ext fun h => h.CodeRec (.ref c') qual)
  cls : ∀ x d, cl.lookup x = some d → d ∉ frs outer
  sc : LamSc params body scope
def lift (te : XK → TE) : XK → TE := fun E σ H Q => ∃ (E0 : XK) (Q0 : VK), (∀ c x H', E0 c x H' → E c x H') ∧ (∀ v H', Q0 v H' → Q v H') ∧ te E0 σ H Q0
theorem lift_of {te : XK → TE} {E : XK} {σ : St} {H : Hp} {Q : VK} (h : te E σ H Q) : lift te E σ H Q := ⟨E, Q, fun _ _ _ z => z, fun _ _ z => z, h⟩
theorem lift_mono {te : XK → TE} {E E' : XK} {σ : St} {H : Hp} {Q Q' : VK} (h : lift te E σ H Q) (hE : ∀ c x H', E c x H' → E' c x H') (hQ : ∀ v H', Q v H' → Q' v H') : lift te E' σ H Q' := by
  obtain ⟨E0, Q0, h1, h2, h3⟩ := h
  exact ⟨E0, Q0, fun _ _ _ z => hE _ _ _ (h1 _ _ _ z), fun _ _ z => hQ _ _ (h2 _ _ z), h3⟩
theorem cxo_mono {P : Program} {w : World} {outer : List Env} {H : Hp} {s s' : Shared} {E E' : XK} {e : Value} (hE : ∀ c x H', E c x H' → E' c x H') (h : CXO P w outer H s E e s') : CXO P w outer H s E' e s' := by
  obtain ⟨a, cls, a0, B, H', r1, r2, r3, r4, r5, r6, r7, r8, r9, q⟩ := h
  exact ⟨a, cls, a0, B, H', r1, r2, r3, r4, r5, r6, r7, r8, r9, hE _ _ _ q⟩
theorem lift_on {P : Program} {w : World} {K : PySem.W.Frag} {mg : Str → Option Value} {base : Heap} {N : List Str} {qual : Str} {scope : Scope} {f : Addr} {cd : Value} {A : Around} {outer : List Env} {s : Shared} {H : Hp} {cl : List (Str × Addr)} {body : Expr} {te : XK → TE}
    (hb : ∀ E, JE (lamCx P w K mg base N qual scope f cd A outer s H E cl) body (te E)) (E : XK) : JE (lamCx P w K mg base N qual scope f cd A outer s H E cl) body (lift te E) := ⟨by
  rintro pins s1 σ H1 Q I ⟨E0, Q0, hE, hQ, h⟩
  have I0 : Inv (lamCx P w K mg base N qual scope f cd A outer s H E0 cl) pins σ H1 s1 := (I.wish (lamCx P w K mg base N qual scope f cd A outer s H E0 cl).xe)
  refine wpAny_mono ((hb E0).h pins s1 σ H1 Q0 I0 h) (fun u s2 ⟨v, H2, J, r, q⟩ => ⟨v, H2, (J.wish (lamCx P w K mg base N qual scope f cd A outer s H E cl).xe), r, hQ _ _ q⟩) fun e s2 z => ?_
  exact wpAny_mono z (fun _ _ y => cxo_mono hE y) fun _ _ y => cxo_mono hE y⟩
structure Asker (P : Program) (w : World) (K : PySem.W.Frag) (mg : Str → Option Value) (base : Heap) (y : Str) (k : Nat) (tw : (XK → TE) → St → Hp → VK → Prop) : Prop where
  up : ∀ te te' : XK → TE, (∀ E σ H Q, te E σ H Q → te' E σ H Q) → ∀ σ H Q, tw te σ H Q → tw te' σ H Q
  ex : ∃ fW, PySem.W.keepIn K (.ref fW) = true ∧ mg y = some (.ref fW) ∧ ∀ (A : Around) (outer : List Env) (s : Shared) (H : Hp) (f c' : Addr) (name qual : Str) (params : Arguments) (body : Expr) (scope : Scope) (cl : List (Str × Addr)) (pm ctv : Value) (N : List Str) (σl : St) (te : XK → TE) (Q : VK),
    (∀ E E' σ H Q Q', te E σ H Q → (∀ c x H', E c x H' → E' c x H') → (∀ v H', Q v H' → Q' v H') → te E' σ H Q') → Room (k + 2) A → Env0 P w K mg base A outer s H → LamAt K outer s H f c' name qual params body scope cl pm ctv N σl →
    (∀ (E : XK) (A' : Around) (outer' : List Env) (s1 : Shared), Room k (A'.deeper (PySem.W.envX qual scope s1.heap.objs.size f (.ref c') cl)) → JE (lamCx P w K mg base N qual scope f (.ref c') A' outer' s1 H E cl) body (te E)) → tw te σl H Q →
    codeAny (model P w) A (.call (.ref fW) ⟨[.ref f], []⟩) (CR CX0 outer P w H s Q fun _ _ _ => False) s
structure Tabd (K : PySem.W.Frag) (T : Addr) (qual : Str) (H H' : Hp) : Prop where
  tab : ∃ ps, H' T = some (.tbl ps) ∧ CTab H' ps qual
  keep : ∀ b o, H b = some o → b ≠ T → H' b = some o
  mod : ∀ b xs, H b = none → kTup K b = some xs → H' b = none
def tWord (K : PySem.W.Frag) (T : Addr) (qual : Str) (tw : (XK → TE) → St → Hp → VK → Prop) (te : XK → TE) (src : List (Option Nat)) : TE := fun σ H Q =>
  (∃ ps, H T = some (.tbl ps) ∧ CTab H ps qual) ∧ ∀ H', Tabd K T qual H H' → tw te (pick σ src) H' Q
theorem eword {X : Cx} {y : Str} {k : Nat} {tw : (XK → TE) → St → Hp → VK → Prop} {c T : Addr} {params : Arguments} {body : Expr} {scope : Scope} {N : List Str} {src : List (Option Nat)} {te : XK → TE} {p lp pos : Pos} (C : Asker X.prog X.w X.K X.mg X.base y k tw) (L : LawTab X c T) (hr : Room (k + 2) X.A) (hg : Gl X y) (cap : Cap X scope N src) (sc : LamSc params body scope)
    (hfn : ∀ x, X.fn x = true) (hb : ∀ (E : XK) (A' : Around) (outer' : List Env) (s1 : Shared) (H1 : Hp) (f c' : Addr) (qual : Str) (cl : List (Str × Addr)), Room k (A'.deeper (PySem.W.envX qual scope s1.heap.objs.size f (.ref c') cl)) → JE (lamCx X.prog X.w X.K X.mg X.base N qual scope f (.ref c') A' outer' s1 H1 E cl) body (te E))
    (hdef : defaultsOf params X.env = ([], []) := by rfl) (hdb : (y == ("__debug__" : Str)) = false := by decide)
    (he : starEach [.Lambda params body scope lp] X.env = (false, eval (.Lambda params body scope lp) X.env) :: starEach [] X.env := by rfl) (hpl : (backTo pos (starEach [] X.env)).any (·.1) = false := by rfl) :
    JE X (.Call (.Name y p) [.Lambda params body scope lp] [] pos) (tWord X.K T (X.env.qual ++ "<lambda>") tw te src) := ⟨by
  rintro pins s σ H Q I ⟨⟨ps, hT, ok⟩, h⟩
  obtain ⟨fW, kW, mW, run⟩ := C.ex
  refine wpAny_Call_Name_kw (ld_glob I hg mW ?_ hdb)
  refine PySem.W.callWith_K (h₀ := X.base) I.ok.mod.kin kW ?_ he hpl
  rw [he]
  show wpAny _ _ (spliced ((false, eval _ X.env) :: backTo pos (starEach [] X.env))) _ _ s
  refine Calls.spliced_cons (lam_make I L hT ok hdef (fun x hx e => ?_) fun H' s' f c' pm ctv M => Calls.spliced_nil ⟨M.inv.kIn, ?_⟩)
  · obtain ⟨x, kd⟩ := x
    cases (show kd = NameKind.free from e)
    exact I.ok.has x (cap.free hx)
  have I' := M.inv
  have ap := M.apart hfn
  refine wpAny_call (codeAny_mono (run X.A X.stack s' H' f c' _ _ params body scope _ pm ctv N (pick σ src) (lift te) Q (fun _ _ _ _ _ _ => lift_mono) hr I'.env0 ⟨M.lam cap, ⟨M.free, ap.1⟩, M.code, ap.2, sc⟩ (fun E A' outer' s1 hr' => lift_on (fun E => hb E A' outer' s1 H' f c' _ _ hr') E) (C.up te _ (fun _ _ _ _ => lift_of) _ _ _ (h H' ⟨M.tab, M.keep, M.mod⟩))) fun r s'' hq => ?_)
  cases r with
  | error e => exact False.elim hq
  | ok fl =>
    cases fl with
    | ret u => exact I'.after hq
    | next => exact False.elim hq
    | brk => exact False.elim hq
    | cont => exact False.elim hq⟩
end L2
set_option Elab.async false
set_option linter.all false
set_option maxRecDepth 100000
set_option maxHeartbeats 4000000
namespace L2
open PySem PySem.Spec PyProof.Rows HT
section
variable {prog : Program} {w : World} {A : Around} {E : Value → Shared → Prop} {s : Shared}
theorem getItem_tuple_all {t sl : Addr} {items : Array Value} {vl vu : Value} {lo hi : Option Int} {Q : Value → Shared → Prop} (ht : IsTup s.heap t items) (hs : s.heap.IsSliceOf sl vl vu .none) (pl : IsPart vl lo) (pu : IsPart vu hi)
    (hw : sIx items.size 0 lo = 0 ∧ sIx items.size items.size hi = items.size) (h : Q (.ref t) s) : wpAny (model prog w) A (getItem (.ref t) (.ref sl)) Q E s := by
  obtain ⟨os, hos, hcs, hds⟩ := id hs
  have hTs : s.TypeIs (.ref sl) "slice" := ⟨os, hos, hcs⟩
  unfold getItem
  refine wpAny_holding ?_
  first | refine wpAny_bind (wpAny_pure ?_) | skip
  refine wpAny_bind (wpAny_sequenceKey ht.typeIs (by decide) ?_)
  refine wpAny_bind (wpAny_callSpecial?_slot (name := Str.ofString "__getitem__") ht.typeIs PyProof.Rows.slot_tuple_getitem
    (wpAny_call_entry PyProof.Rows.slot_tuple_getitem ht.typeIs entry_tuple_getitem ?_ (args_tuple_getitem _ _)))
  show wpAny _ _ (Builtin.Tuple.tupleItemsOf (.ref t) >>= _) _ _ s
  refine wpAny_bind (tupleItemsOf_ ht ?_)
  refine wpAny_bind (wpAny_typeOf hTs ?_)
  rw [if_pos (by decide)]
  refine wpAny_bind (sliceApplied_gen hs pl pu ?_)
  have hyes : ((((sIx items.size 0 lo : Nat) : Int) == 0 && (1 : Int) == 1 && (sIx items.size items.size hi - sIx items.size 0 lo) == items.size) = true) := by
    rw [hw.1, hw.2]
    simp
  show wpAny _ _ (if (((sIx items.size 0 lo : Nat) : Int) == 0 && (1 : Int) == 1 && (sIx items.size items.size hi - sIx items.size 0 lo) == items.size) = true then _ else _) _ _ s
  rw [if_pos hyes]
  unfold Builtin.Tuple.tupleIsExact
  refine wpAny_bind (wpAny_bind (wpAny_typeOf ht.typeIs (wpAny_pure ?_)))
  rw [if_pos (by decide)]
  exact wpAny_bind (wpAny_rule (wpAny_pure ⟨_, rfl, wpAny_pure h⟩))
end
theorem ex_seal {X : Cx} {all rest : List Stmt} {t2 : TS} {G : TS → Prop} (h2 : JB X rest t2) (k : ∀ r, JB X rest r → r = t2 → ∃ t, JB X all t ∧ G t) : ∃ t, JB X all t ∧ G t := k t2 h2 rfl
theorem cxN {CX : CXT} {P : Program} {w : World} {K : PySem.W.Frag} {mg : Str → Option Value} {base : Heap} {N : List Str} {qual : Str} {scope : Scope} {f : Addr} {cd : Value} {A : Around} {outer : List Env} {s : Shared} {H : Hp} {E : XK} : (cxOf CX P w K mg base N qual scope f cd A outer s H E).N = N := rfl
section
variable {X : Cx}
def rSlTW (K : PySem.W.Frag) : V → Option Int → Option Int → Hp → VK → Prop := fun x lo hi H Q => ∃ a xs, x = .ref a ∧ tupQ K H a = some xs ∧
  (if HT.sIx xs.length 0 lo = 0 ∧ HT.sIx xs.length xs.length hi = xs.length then Q (.ref a) H else ∀ p, L2.new K H p → Q (.ref p) (upd H p (.tup (cutV xs lo hi))))
theorem sl_tupW : SlR X (rSlTW X.K) := by
  intro pins s σ H x v vl vu lo hi sl Q I rx hs pl pu h
  obtain ⟨a, xs, rfl, hx, h⟩ := h
  split at h
  · rename_i hw
    cases rx
    obtain ⟨its, r, ht, hz⟩ := I.tuple (tupQ_sq hx)
    have hlen : its.toArray.size = xs.length := by rw [List.size_toArray]; exact r.length.symm
    refine ⟨"tuple", _, PyProof.Rows.slot_tuple_getitem.lookup, ht.typeIs, ?_⟩
    exact getItem_tuple_all ht hs pl pu (by rw [hlen]; exact hw) ⟨.ref a, H, I, rfl, h⟩
  · rename_i hw
    exact sl_tupQ pins s σ H (.ref a) v vl vu lo hi sl Q I rx hs pl pu ⟨a, xs, rfl, hx, hw, h⟩
def rCatTQ (K : PySem.W.Frag) : R2 := fun x y H Q => ∃ a b xs ys, x = .ref a ∧ y = .ref b ∧ tupQ K H a = some xs ∧ tupQ K H b = some ys ∧ xs ≠ [] ∧ xs.length + ys.length ≤ sizeLine ∧
  (if ys = [] then Q (.ref a) H else ∀ p, L2.new K H p → Q (.ref p) (upd H p (.tup (xs ++ ys))))
theorem op_catTQ : OpR X (binaryOp .Add) (rCatTQ X.K) := by
  intro pins s σ H x y v u Q I rx ry h
  obtain ⟨a, b, xs, ys, rfl, rfl, ha, hb, hx, hz, h⟩ := h
  refine thn (op_catT pins s σ H _ _ v u (fun v' H' => (ys = [] ∧ v' = .ref a ∧ H' = H) ∨ (ys ≠ [] ∧ ∃ l, H l = none ∧ v' = .ref l ∧ H' = upd H l (.tup (xs ++ ys)))) I rx ry ⟨a, b, xs, ys, rfl, rfl, tupQ_sq ha, tupQ_sq hb, hx, hz, fun e => .inl ⟨e, rfl, rfl⟩, fun e l hl => .inr ⟨e, l, hl, rfl, rfl⟩⟩) fun u' s' ⟨v', H', I', rv, q⟩ => ?_
  rcases q with ⟨e, rfl, rfl⟩ | ⟨e, l, hl, rfl, rfl⟩
  · rw [if_pos e] at h
    exact ⟨_, _, I', rv, h⟩
  · rw [if_neg e] at h
    exact ⟨_, _, I', rv, h l ⟨hl, I'.notMod upd_same⟩⟩
def rSlTX (K : PySem.W.Frag) : V → Option Int → Option Int → Hp → VK → Prop := fun x lo hi H Q => ∃ a xs, x = .ref a ∧ tupQ K H a = some xs ∧ ∀ q H', tupQ K H' q = some (cutV xs lo hi) → Ext K H H' → Q (.ref q) H'
theorem sl_tupX : SlR X (rSlTX X.K) := by
  intro pins s σ H x v vl vu lo hi sl Q I rx hs pl pu h
  obtain ⟨a, xs, rfl, hx, h⟩ := h
  refine sl_tupW pins s σ H (.ref a) v vl vu lo hi sl Q I rx hs pl pu ⟨a, xs, rfl, hx, ?_⟩
  split
  · rename_i hw
    refine h a H ?_ Ext.refl
    have : cutV xs lo hi = xs := by
      unfold cutV
      rw [hw.1, hw.2]
      simp
    rw [this]
    exact hx
  · exact fun p np => h p _ tupQ_updT (Ext.new np)
def rCatTX (K : PySem.W.Frag) : R2 := fun x y H Q => ∃ a b xs ys, x = .ref a ∧ y = .ref b ∧ tupQ K H a = some xs ∧ tupQ K H b = some ys ∧ xs ≠ [] ∧ xs.length + ys.length ≤ sizeLine ∧ ∀ q H', tupQ K H' q = some (xs ++ ys) → Ext K H H' → Q (.ref q) H'
theorem op_catTX : OpR X (binaryOp .Add) (rCatTX X.K) := by
  intro pins s σ H x y v u Q I rx ry h
  obtain ⟨a, b, xs, ys, rfl, rfl, ha, hb, hx, hz, h⟩ := h
  refine op_catTQ pins s σ H _ _ v u Q I rx ry ⟨a, b, xs, ys, rfl, rfl, ha, hb, hx, hz, ?_⟩
  split
  · rename_i e
    refine h a H ?_ Ext.refl
    rw [e, List.append_nil]
    exact ha
  · exact fun p np => h p _ tupQ_updT (Ext.new np)
theorem ewordQ {y : Str} {k : Nat} {tw : (XK → TE) → St → Hp → VK → Prop} {c T : Addr} {params : Arguments} {body : Expr} {scope : Scope} {N : List Str} {src : List (Option Nat)} {te : XK → TE} {p lp pos : Pos} (qual : Str) (C : Asker X.prog X.w X.K X.mg X.base y k tw) (L : LawTab X c T) (hr : Room (k + 2) X.A) (hg : Gl X y) (cap : Cap X scope N src) (sc : LamSc params body scope)
    (hfn : ∀ x, X.fn x = true) (hb : ∀ (E : XK) (A' : Around) (outer' : List Env) (s1 : Shared) (H1 : Hp) (f c' : Addr) (qual : Str) (cl : List (Str × Addr)), Room k (A'.deeper (PySem.W.envX qual scope s1.heap.objs.size f (.ref c') cl)) → JE (lamCx X.prog X.w X.K X.mg X.base N qual scope f (.ref c') A' outer' s1 H1 E cl) body (te E))
    (hq : X.env.qual ++ "<lambda>" = qual := by rfl) (hdef : defaultsOf params X.env = ([], []) := by rfl) (hdb : (y == ("__debug__" : Str)) = false := by decide)
    (he : starEach [.Lambda params body scope lp] X.env = (false, eval (.Lambda params body scope lp) X.env) :: starEach [] X.env := by rfl) (hpl : (backTo pos (starEach [] X.env)).any (·.1) = false := by rfl) :
    JE X (.Call (.Name y p) [.Lambda params body scope lp] [] pos) (tWord X.K T qual tw te src) := by
  subst hq
  exact eword C L hr hg cap sc hfn hb hdef hdb he hpl
theorem easkH {N : List Str} {name qual : Str} {scope : Scope} {f c' : Addr} {E : XK} {cl : List (Str × Addr)} {params : Arguments} {body : Expr} {pm ctv : Value} {σl : St} {k i : Nat} {te : TE} {x : Str} {p pos : Pos} (H0 : Hp) (L : Lam X.K H0 X.s₀.heap f name qual params body scope cl pm ctv c' N σl) (hf : H0 f = none ∧ f ∉ X.fs) (hc : H0 c' = some (.ext fun h => h.CodeRec (.ref c') qual)) (hcl : ∀ x c, cl.lookup x = some c → c ∉ X.fs) (hex : X.ex = [])
    (hp : Passes (CXO X.prog X.w) X E) (hr : Room (k + 1) X.A) (sc : LamSc params body scope) (hb : ∀ s1 : Shared, JE (lamCx X.prog X.w X.K X.mg X.base N qual scope f (.ref c') X.A X.stack s1 H0 E cl) body te)
    (hN : X.N[i]? = some x) (hv : Vis X.env.scope x) (hH : X.H₀ = H0 := by rfl) (hd : (x == ("__debug__" : Str)) = false := by decide) (hcd : (x == ("__classdict__" : Str)) = false := by decide) :
    JE X (.Call (.Name x p) [] [] pos) (tAsk f H0 i σl te) := by
  subst hH
  exact eask L hf hc hcl hex hp hr sc.kind sc.co sc.gen sc.cell (sc.bind _ _ _ _ _ _) hb hN hv hd hcd
theorem call_isexcK (K : PySem.W.Frag) (hk : X.K = K := by rfl) : CallR X (.builtin "isinstance") (fun xs H Q => ∃ a C D b, xs = [.ref a, .ref D] ∧ H a = some (.ext (XAt a C)) ∧ ExcI K C ∧ PySem.W.kitOne K (.ref C) (.ref D) = some b ∧ Q (.bl b) H) := by subst hk; exact call_isexc
end
structure XT (K : PySem.W.Frag) (T : Addr) (q : Str) (H H' : Hp) : Prop where
  was : ∃ ps, H T = some (.tbl ps)
  tab : ∃ ps, H' T = some (.tbl ps) ∧ CTab H' ps q
  keep : ∀ b o, H b = some o → b ≠ T → H' b = some o
  mod : ∀ b xs, H b = none → kTup K b = some xs → H' b = none
section
variable {K : PySem.W.Frag} {T : Addr} {q : Str} {H H1 H2 : Hp}
theorem CTab.ext {ps : Array Value} (h : CTab H ps q) (x : ∀ b o, H b = some o → (∀ ps, o ≠ .tbl ps) → H1 b = some o) : CTab H1 ps q := ⟨h.1, fun p v e => by
  obtain ⟨c, rfl, hc⟩ := h.2 p v e
  exact ⟨c, rfl, x _ _ hc nofun⟩⟩
theorem XT.refl (h : ∃ ps, H T = some (.tbl ps) ∧ CTab H ps q) : XT K T q H H := ⟨let ⟨ps, e, _⟩ := h; ⟨ps, e⟩, h, fun _ _ e _ => e, fun _ _ e _ => e⟩
theorem XT.trans (x : XT K T q H H1) (y : XT K T q H1 H2) : XT K T q H H2 := ⟨x.was, y.tab, fun b o e n => y.keep b o (x.keep b o e n) n, fun b xs e k => y.mod b xs (x.mod b xs e k) k⟩
theorem XT.ext (x : XT K T q H H1) (y : Ext K H1 H2) : XT K T q H H2 := by
  obtain ⟨ps, e, c⟩ := x.tab
  exact ⟨x.was, ⟨ps, y.same _ _ e, c.ext fun b o h _ => y.same b o h⟩, fun b o e n => y.same _ _ (x.keep b o e n), fun b xs e k => y.mod b xs (x.mod b xs e k) k⟩
theorem XT.tabd (h : ∃ ps, H T = some (.tbl ps)) (t : Tabd K T q H H1) : XT K T q H H1 := ⟨h, t.tab, t.keep, t.mod⟩
theorem XT.at (x : XT K T q H H1) {b : Addr} {o : HO} (h : H b = some o) (n : ∀ ps, o ≠ .tbl ps) : H1 b = some o := x.keep b o h fun z => by
  obtain ⟨ps, e⟩ := x.was
  rw [z, e] at h
  cases h
  exact n _ rfl
theorem XT.tup (x : XT K T q H H1) {a : Addr} {vs : List V} (h : tupQ K H a = some vs) : tupQ K H1 a = some vs := by
  unfold tupQ at h ⊢
  split at h
  · next e => rw [x.at e nofun]; exact h
  · cases h
  · next e => rw [x.mod a vs e h]; exact h
end
end L2
set_option Elab.async false
set_option linter.all false
set_option maxRecDepth 100000
set_option maxHeartbeats 4000000
namespace L2
open PySem PySem.Spec PyProof.Rows
theorem vals_bl : ∀ {bs : List Bool} {us : List Value}, Vals (bs.map V.bl) us → us = bs.map Value.bool
  | [], us, r => by cases r; rfl
  | b :: bs, us, r => by
    rw [List.map_cons] at r
    cases r with
    | cons r1 r2 =>
      cases r1
      rw [vals_bl r2]
      rfl
def eT : Value → Bool
  | .bool b => b
  | _ => false
theorem eq_bl {bs : List Bool} {A : Around} {s : Shared} : ∀ y, y ∈ (bs.map Value.bool).toArray → SeqAt.EqAt A s y (.bool true) (eT y) := fun y hy => by
  obtain ⟨b, _, rfl⟩ := List.mem_map.mp (List.mem_toArray.mp hy)
  have := eqAt_V (A := A) (s := s) (y := .bl b) (x := .bl true) (u := .bool b) (v := .bool true) rfl rfl rfl rfl
  cases b <;> exact this
section
variable {X : Cx}
def rCountT : V → List V → Hp → VK → Prop := fun x vs H Q => ∃ (l : Addr) (bs : List Bool), x = .ref l ∧ vs = [.bl true] ∧ H l = some (.lst (bs.map V.bl)) ∧ Q (.int (bs.countP id : Nat)) H
theorem mt_countT : MtM X "list.count" rCountT := by
  intro pins s σ H x vs v us Q I rx rv h
  obtain ⟨l, bs, rfl, rfl, hH, q⟩ := h
  cases rx
  obtain ⟨u, rfl, ru⟩ := rv.one
  cases ru
  obtain ⟨z, its, n, r, hl, e⟩ := I.lstM hH
  have hi := vals_bl r
  subst hi
  refine call_meets F.slot_list_count ⟨_, e, rfl⟩ F.entry_list_count (F.args_list_count_2 _ _) (SeqAt.list_countAt l (bs.map Value.bool).toArray n none #[] (.bool true) eT) ⟨e, eq_bl, ?_⟩
  have hc : List.countP eT (bs.map Value.bool).toArray.toList = bs.countP id := by
    rw [List.toList_toArray, List.countP_map]
    rfl
  rw [hc]
  exact ⟨.int (bs.countP id : Nat), H, I.tok _, ⟨_, rfl⟩, q⟩
def rIndexT : V → List V → Hp → VK → Prop := fun x vs H Q => ∃ (l : Addr) (bs : List Bool) (j : Nat), x = .ref l ∧ vs = [.bl true] ∧ H l = some (.lst (bs.map V.bl)) ∧ bs[j]? = some true ∧ (∀ m, m < j → bs[m]? = some false) ∧ Q (.int j) H
theorem mt_indexT : MtM X "list.index" rIndexT := by
  intro pins s σ H x vs v us Q I rx rv h
  obtain ⟨l, bs, j, rfl, rfl, hH, hj, hm, q⟩ := h
  cases rx
  obtain ⟨u, rfl, ru⟩ := rv.one
  cases ru
  obtain ⟨z, its, n, r, hl, e⟩ := I.lstM hH
  have hi := vals_bl r
  subst hi
  have hlt : j < bs.length := (List.getElem?_eq_some_iff.mp hj).1
  have hsz : (bs.map Value.bool).toArray.size = bs.length := by simp
  have hle : bs.length ≤ sizeLine := by simpa using z
  refine call_meets F.slot_list_index ⟨_, e, rfl⟩ F.entry_list_index (F.args_list_index_2 _ _) (SeqAt.list_indexAt l (bs.map Value.bool).toArray n none #[] (.bool true) eT j (by rw [hsz]; exact hlt) ?_ ?_ ?_) ⟨e, eq_bl, ?_⟩
  · have : (sizeLine : Int) < 2 ^ 63 - 1 := by decide
    omega
  · obtain ⟨_, e1⟩ := List.getElem?_eq_some_iff.mp hj
    simp [eT, e1]
  · intro m hm1 hm2
    obtain ⟨_, e1⟩ := List.getElem?_eq_some_iff.mp (hm m hm2)
    simp [eT, e1]
  · exact ⟨.int j, H, I.tok _, ⟨_, rfl⟩, q⟩
end
section
variable {X : Cx}
theorem ebmK (K : PySem.W.Frag) {o e : Expr} {es : List Expr} {to : TE} {t : TA} {T id : String} {name : Str} {r : V → List V → Hp → VK → Prop} {apos cpos : Pos} (pa : PlainAttrs T) (slot : Slot T name id) (hty : typeOf (.builtin id) = pure (.type "method_descriptor")) (hm : MtR X id r) (ho : JE X o to) (ha : JA X (e :: es) t)
    (hbase : attributeBase o name X.env (eval o X.env) = eval o X.env := by rfl)
    (hfew : ((backTo cpos (starEach (e :: es) X.env)).all (fun x => !x.1) && (backToKw cpos (keywordEach [] X.env)).all (fun x => x.1.isSome)
      && decide ((e :: es).length + ([] : List Keyword).length + (if ([] : List Keyword).isEmpty then 0 else 1) < 30)) = true := by rfl)
    (hline : (apos.endLine == cpos.line) = true := by rfl) (hs : starEach (e :: es) X.env = (false, eval e X.env) :: starEach es X.env := by rfl) (hplain : (backTo cpos (starEach es X.env)).any (·.1) = false := by rfl) (hk : X.K = K := by rfl) :
    JE X (.Call (.Attribute o name apos) (e :: es) [] cpos) (tBM K T r to t) := by
  subst hk
  exact ebm pa slot hty hm ho ha hbase hfew hline hs hplain
def rCatTX0 (K : PySem.W.Frag) : R2 := fun x y H Q => ∃ a b xs ys, x = .ref a ∧ y = .ref b ∧ tupQ K H a = some xs ∧ tupQ K H b = some ys ∧ xs.length + ys.length ≤ sizeLine ∧ ∀ q H', tupQ K H' q = some (xs ++ ys) → Ext K H H' → Q (.ref q) H'
theorem op_catTX0 : OpR X (binaryOp .Add) (rCatTX0 X.K) := by
  intro pins s σ H x y v u Q I rx ry h
  obtain ⟨a, b, xs, ys, rfl, rfl, ha, hb, hz, h⟩ := h
  by_cases hx : xs = []
  · subst hx
    cases rx
    cases ry
    obtain ⟨its, r1, p1, _⟩ := I.tuple (tupQ_sq ha)
    obtain ⟨its2, r2, p2, _⟩ := I.tuple (tupQ_sq hb)
    have he : its = [] := by cases r1; rfl
    subst he
    obtain ⟨⟨cls, dd, data, sl⟩, ho, hc, n, hd⟩ := id p1
    obtain ⟨⟨cls2, dd2, data2, sl2⟩, ho2, hc2, n2, hd2⟩ := id p2
    simp only at hc hd hc2 hd2
    subst hc hd hc2 hd2
    exact concat_meets ⟨_, ho, rfl⟩ ⟨_, ho2, rfl⟩ noFill_tuple_add seq_tuple_add PySem.F.slot_tuple_add PySem.F.entry_tuple_add (PySem.F.args_tuple_add_2 _ _)
      (tuple_addW0 a b #[] its2.toArray n n2 dd dd2 sl sl2 rfl) ⟨ho, ho2, ⟨.ref b, H, I, rfl, h b H (by simpa using hb) Ext.refl⟩⟩
  · exact op_catTX pins s σ H _ _ v u Q I rx ry ⟨a, b, xs, ys, rfl, rfl, ha, hb, hx, hz, h⟩
end
mutual
theorem eqv_refl : ∀ (d : PyData), d.canLay0 = true → PyData.eqv d d = true
  | .none, _ => by simp [PyData.eqv]
  | .bool b, _ => by simp [PyData.eqv]
  | .int i, _ => by simp [PyData.eqv]
  | .str x, _ => by simp [PyData.eqv]
  | .list ds, h => by
    simp only [PyData.canLay0] at h
    simp only [PyData.eqv]
    exact eqvAll_refl ds h
  | .tuple ds, h => by
    simp only [PyData.canLay0] at h
    simp only [PyData.eqv]
    exact eqvAll_refl ds h
  | .dict _, h => by simp [PyData.canLay0] at h
theorem eqvAll_refl : ∀ (ds : List PyData), PyData.canLayAll0 ds = true → PyData.eqvAll ds ds = true
  | [], _ => by simp [PyData.eqvAll]
  | d :: ds, h => by
    simp only [PyData.canLayAll0, Bool.and_eq_true] at h
    simp only [PyData.eqvAll, Bool.and_eq_true]
    exact ⟨eqv_refl d h.1, eqvAll_refl ds h.2⟩
end
end L2
set_option Elab.async false
set_option linter.all false
set_option maxRecDepth 100000
set_option maxHeartbeats 4000000
namespace K14
open PySem L2
local macro_rules | `(tactic| walk_at "rd") => `(tactic| simp only [tSeq, tNext, tIfS, tAsg, gName, gSub, tRet, tRetN, tDrop, tVar, tC, tOp, tUn, rI0, rI, rU, tTest, tB, tAndV, tOrV, tNotV, tAnd, tOr, tNot, tIf, tChain, tCB, tCons, tNil, tLst, tTup, tCallC, List.getElem?_cons_zero, List.getElem?_cons_succ, List.set_cons_zero, List.set_cons_succ, Option.some.injEq, V.int.injEq, V.bl.injEq, V.ref.injEq, V.ty.injEq, V.str.injEq, List.cons.injEq, exists_eq_left', exists_eq_left, exists_and_left, and_true, true_and, and_assoc, cxK, rIxF, rSetL, rEq, rNe, scal, HO.lst.injEq, HO.tup.injEq, upd_none, ixN_10, ixN_20, ixN_21, ixN_30, ixN_31, ixN_32, upd_same, seqAt_updL, seqAt_updT, atI_0, atI_1, atI_2, atI_3, decide_eq_true_eq, L2.start, List.map_cons, List.map_nil, List.length_cons, List.length_nil, Nat.reduceAdd, Nat.reduceSub, List.replicate_succ, List.replicate_zero, List.cons_append, List.nil_append, List.append_nil, tFor_rng1, tFor_rng2, tFor_list, tFor_tup, CDv, CMul, CPow, sizeLine_eq, Int.reduceLE, Int.reduceLT, Int.reducePow, Int.reduceToNat, Int.reduceAdd, Int.reduceSub, Int.reduceMul, Int.reduceNeg, Nat.reduceLeDiff, Nat.reducePow, Nat.reduceLT, Int.reduceEq, true_or, or_true, ite_true, ite_false, if_true, if_false, Bool.not_true, Bool.not_false, Bool.false_eq_true, decide_true, decide_false, rIxQ, seqQ_updL, seqQ_updT, tupQ_updT, tSl, tNoPart, tPart, rSlQ, rSlTX, rCatQ, rCatTX, rCatTX0, tTupQ, tLstQ, new_upd, tNever, rEqD, rInQ, gTupQ, gCons, gNil, tBM, rAppend, rCountT, rIndexT, cxN, tCall, tRaise, tTry, tAsk, tWord, Ends.gone, pick_nil, pick_own, pick_cap, join_some])
local macro_rules | `(tactic| walk_at "rn") => `(tactic| simp only [tSeq, tNext, tIfS, tAsg, gName, gSub, tRet, tRetN, tDrop, tVar, tC, tOp, tUn, rI0, rI, rU, tTest, tB, tAndV, tOrV, tNotV, tAnd, tOr, tNot, tIf, tChain, tCB, tCons, tNil, tLst, tTup, tCallC, List.getElem?_cons_zero, List.getElem?_cons_succ, List.set_cons_zero, List.set_cons_succ, Option.some.injEq, V.int.injEq, V.bl.injEq, V.ref.injEq, V.ty.injEq, V.str.injEq, List.cons.injEq, exists_eq_left', exists_eq_left, exists_and_left, and_true, true_and, and_assoc, cxK, rIxF, rSetL, rEq, rNe, scal, HO.lst.injEq, HO.tup.injEq, upd_none, ixN_10, ixN_20, ixN_21, ixN_30, ixN_31, ixN_32, upd_same, seqAt_updL, seqAt_updT, atI_0, atI_1, atI_2, atI_3, decide_eq_true_eq, L2.start, List.map_cons, List.map_nil, List.length_cons, List.length_nil, Nat.reduceAdd, Nat.reduceSub, List.replicate_succ, List.replicate_zero, List.cons_append, List.nil_append, List.append_nil, tFor_rng1, tFor_rng2, tFor_list, tFor_tup, CDv, CMul, CPow, sizeLine_eq, Int.reduceLE, Int.reduceLT, Int.reducePow, Int.reduceToNat, Int.reduceAdd, Int.reduceSub, Int.reduceMul, Int.reduceNeg, Nat.reduceLeDiff, Nat.reducePow, Nat.reduceLT, Int.reduceEq, true_or, or_true, ite_true, ite_false, if_true, if_false, Bool.not_true, Bool.not_false, Bool.false_eq_true, decide_true, decide_false, rIxQ, seqQ_updL, seqQ_updT, tupQ_updT, tSl, tNoPart, tPart, rSlQ, rSlTX, rCatQ, rCatTX, rCatTX0, tTupQ, tLstQ, tNever, rEqD, rInQ, gTupQ, gCons, gNil, tBM, rAppend, rCountT, rIndexT, cxN, tCall, tRaise, tTry, tAsk, tWord, Ends.gone, pick_nil, pick_own, pick_cap, join_some])
def top (i : Nat) : Stmt := PySem.Challenge.pw_notefall_k14_notes_known.main.body.getD i (.Pass ⟨0, 0, 0, 0⟩)
abbrev s_is_number : Stmt := top 9
abbrev s_is_whole : Stmt := top 10
abbrev s_is_whole_from : Stmt := top 11
abbrev s_is_key : Stmt := top 12
abbrev s_is_stretch : Stmt := top 13
abbrev s_check_key : Stmt := top 14
abbrev s_check_stretch : Stmt := top 15
abbrev s_is_half : Stmt := top 18
abbrev s_is_action : Stmt := top 19
abbrev s_is_note : Stmt := top 21
abbrev s_check_note : Stmt := top 22
abbrev s_has_key : Stmt := top 23
abbrev s_have_common : Stmt := top 24
abbrev s_cut : Stmt := top 25
abbrev s_touches : Stmt := top 26
abbrev s_shares : Stmt := top 27
abbrev s_part : Stmt := top 28
abbrev s__law_well : Stmt := top 30
abbrev s__law_draw : Stmt := top 31
abbrev s__law_key : Stmt := top 32
abbrev s__law_base : Stmt := top 33
abbrev s__law_amount : Stmt := top 34
abbrev s__law_stretch : Stmt := top 35
abbrev s__law_action : Stmt := top 36
abbrev s__law_note : Stmt := top 37
abbrev s__law_whole : Stmt := top 39
abbrev s__law_is_half : Stmt := top 40
abbrev s__law_is_action : Stmt := top 41
abbrev s__law_is_stretch : Stmt := top 42
abbrev s__law_is_note : Stmt := top 43
abbrev s__law_odd : Stmt := top 44
abbrev s__law_spoilt : Stmt := top 45
abbrev s__law_word : Stmt := top 46
abbrev s__law_due_part : Stmt := top 47
abbrev s__law_asked : Stmt := top 48
abbrev s_law : Stmt := top 49
structure XC (K : PySem.W.Frag) (C cF c1 c2 c3 c4 c5 : Addr) (b1 b2 b3 b4 b5 : Bool) : Prop where
  x : Exc K C
  i : ExcI K C
  m : PySem.W.exmOne K (.ref C) (.ref cF) = some true
  k1 : PySem.W.kitOne K (.ref C) (.ref c1) = some b1
  k2 : PySem.W.kitOne K (.ref C) (.ref c2) = some b2
  k3 : PySem.W.kitOne K (.ref C) (.ref c3) = some b3
  k4 : PySem.W.kitOne K (.ref C) (.ref c4) = some b4
  k5 : PySem.W.kitOne K (.ref C) (.ref c5) = some b5
structure B (K : PySem.W.Frag) (mg : Str → Option Value) (aG : Addr) (tE : Tok) (cF cA cD cN cK cS : Addr) : Prop where
  len : mg "len" = none
  isinstance : mg "isinstance" = none
  int : mg "int" = none
  bool : mg "bool" = none
  tuple : mg "tuple" = none
  str : mg "str" = none
  list : mg "list" = none
  min : mg "min" = none
  max : mg "max" = none
  GONE : mg "GONE" = some (.ref aG)
  kG : kTup K aG = some [.str "gone"]
  END : mg "END" = some (.int 1000000000000 tE)
  FallError : mg "FallError" = some (.ref cF)
  NoAction : mg "NoAction" = some (.ref cA)
  NoDeed : mg "NoDeed" = some (.ref cD)
  NoNote : mg "NoNote" = some (.ref cN)
  NoKey : mg "NoKey" = some (.ref cK)
  NoStretch : mg "NoStretch" = some (.ref cS)
  xN : XC K cN cF cN cK cS cA cD true false false false false
  xK : XC K cK cF cN cK cS cA cD false true false false false
  xS : XC K cS cF cN cK cS cA cD false false true false false
section
variable {K : PySem.W.Frag} {mg : Str → Option Value} {aG : Addr} {tE : Tok} {cF cA cD cN cK cS : Addr}
theorem B.GONE_is (_ : B K mg aG tE cF cA cD cN cK cS) : RelV (.ref aG) (.ref aG) := rfl
theorem B.END_is (_ : B K mg aG tE cF cA cD cN cK cS) : RelV (.int 1000000000000) (.int 1000000000000 tE) := ⟨tE, rfl⟩
theorem B.NoAction_is (_ : B K mg aG tE cF cA cD cN cK cS) : RelV (.ref cA) (.ref cA) := rfl
theorem B.NoDeed_is (_ : B K mg aG tE cF cA cD cN cK cS) : RelV (.ref cD) (.ref cD) := rfl
theorem B.NoNote_is (_ : B K mg aG tE cF cA cD cN cK cS) : RelV (.ref cN) (.ref cN) := rfl
theorem B.NoKey_is (_ : B K mg aG tE cF cA cD cN cK cS) : RelV (.ref cK) (.ref cK) := rfl
theorem B.NoStretch_is (_ : B K mg aG tE cF cA cD cN cK cS) : RelV (.ref cS) (.ref cS) := rfl
theorem B.x_NoNote (b : B K mg aG tE cF cA cD cN cK cS) : Exc K cN := b.xN.x
theorem B.x_NoKey (b : B K mg aG tE cF cA cD cN cK cS) : Exc K cK := b.xK.x
theorem B.x_NoStretch (b : B K mg aG tE cF cA cD cN cK cS) : Exc K cS := b.xS.x
end
inductive Half where
  | plus (n : Int) | is (n : Int) | gone
def Half.v : Half → List V
  | .plus n => [.str "plus", .int n]
  | .is n => [.str "is", .int n]
  | .gone => [.str "gone"]
def Half.noPlus : Half → Prop
  | .plus _ => False
  | _ => True
def Half.f : Half → Option Int → Option Int
  | .plus n, some i => some (i + n)
  | .plus _, none => none
  | .is n, _ => some n
  | .gone, _ => none
def Act (K : PySem.W.Frag) (H : Hp) (v : V) (t n : Half) : Prop := ∃ a r s, v = .ref a ∧ tupQ K H a = some [.ref r, .ref s] ∧ tupQ K H r = some t.v ∧ tupQ K H s = some n.v ∧ n.noPlus
theorem Act.ext {K : PySem.W.Frag} {H H' : Hp} {v : V} {t n : Half} (h : Act K H v t n) (x : Ext K H H') : Act K H' v t n := by
  obtain ⟨a, r, s, rfl, e1, e2, e3, e4⟩ := h
  exact ⟨a, r, s, rfl, x.tup e1, x.tup e2, x.tup e3, e4⟩
theorem Act.kp {K : PySem.W.Frag} {H H' : Hp} {v : V} {t n : Half} {p : Addr} {xs : List V} (h : Act K H v t n) (k : Kp K p H H') (hp : H p = some (.lst xs)) : Act K H' v t n := by
  obtain ⟨a, r, s, rfl, e1, e2, e3, e4⟩ := h
  exact ⟨a, r, s, rfl, k.tup hp e1, k.tup hp e2, k.tup hp e3, e4⟩
theorem s1 : ¬ (("plus" : Str) = "is") := by decide +kernel
theorem s2 : ¬ (("gone" : Str) = "is") := by decide +kernel
theorem s3 : ¬ (("is" : Str) = "plus") := by decide +kernel
theorem s4 : ¬ (("gone" : Str) = "plus") := by decide +kernel
def L3 (x y z : Int) : HO := .lst [.int x, .int y, .int z]
def spWell (K : PySem.W.Frag) : Sp := fun vs H Q _ => ∃ c, vs = [.int c] ∧ ∀ (p : Addr) (x y z : Int), new K H p → Q (.ref p) (upd H p (L3 x y z))
def spDraw (K : PySem.W.Frag) : Sp := fun vs H Q _ => ∃ p x y z m, vs = [.ref p, .int m] ∧ H p = some (L3 x y z) ∧ 0 < m ∧ m < 10 ^ 100 ∧
  ∀ (r x y z : Int) (H' : Hp), 0 ≤ r → r < m → H' p = some (L3 x y z) → Kp K p H H' → Q (.int r) H'
section
variable {P : Program} {w : World} {K : PySem.W.Frag} {mg : Str → Option Value} {base : Heap}
theorem sc__law_well : FnScope ["_law_cell"] ["_law_cell"] (defScope s__law_well) := ⟨rfl, rfl, rfl, by decide +kernel, rfl, by decide +kernel, by decide +kernel⟩
theorem ok__law_well {f : Addr} {fd : FuncData} (F : Fun K "_law_well" "_law_well" s__law_well f fd) {aG cF cA cD cN cK cS : Addr} {tE : Tok} (B : B K mg aG tE cF cA cD cN cK cS) : FnOk P w K mg base CX0 1 f fd ["_law_cell"] (spWell K) := by
  refine F.okJ sc__law_well (fun vs H Q E h => ?_) (fun cdv A outer s H vs Q E hr h => ?_)
  · obtain ⟨c, rfl, _⟩ := h
    rfl
  obtain ⟨c, rfl, q⟩ := h
  refine ⟨_, (bone (sret (elstQ (acons (eop op_mul (ev 0) (ecallTy call_intB rfl B.int bt_int (acons (ecmp op_ge (ev 0) (epowc 1000000000000000000) (nomark _)) anil))) (acons (ev 0) (acons ei anil)))))), ?_⟩
  try walk_at "rd"
  refine ⟨?_, fun p hp => q p _ _ _ hp⟩
  right
  split <;> decide
theorem sc__law_draw : FnScope ["_law_well_here", "_law_many", "_law_found", "_law_low"] ["_law_well_here", "_law_many"] (defScope s__law_draw) := ⟨rfl, rfl, rfl, by decide +kernel, rfl, by decide +kernel, by decide +kernel⟩
theorem ok__law_draw {f : Addr} {fd : FuncData} (F : Fun K "_law_draw" "_law_draw" s__law_draw f fd) {aG cF cA cD cN cK cS : Addr} {tE : Tok} (B : B K mg aG tE cF cA cD cN cK cS) : FnOk P w K mg base CX0 1 f fd ["_law_well_here", "_law_many"] (spDraw K) := by
  refine F.okJ sc__law_draw (fun vs H Q E h => ?_) (fun cdv A outer s H vs Q E hr h => ?_)
  · obtain ⟨p, x, y, z, m, rfl, _⟩ := h
    rfl
  obtain ⟨p, x, y, z, m, rfl, hp, h0, h1, q⟩ := h
  unfold L3 at hp
  refine ⟨_, (bcons (sif (tcmp op_gt (eix ix_Q (ev 0) ei (fun _ _ => rfl)) ei (nomark _)) (bcons (sset (i := 2) sc__law_draw.nd rfl (Or.inl rfl) (eop op_mod (eix ix_Q (ev 0) ei (fun _ _ => rfl)) (ev 1)))
      (bcons (sasg (eop op_fdivP (eix ix_Q (ev 0) ei (fun _ _ => rfl)) (ev 1)) (gsub (ev 0) ei set_list))
      (bone (sret (ev 2))))) bnil)
      (bcons (sasg (eop op_add (eix ix_Q (ev 0) ei (fun _ _ => rfl)) ei) (gsub (ev 0) ei set_list))
      (bcons (sset (i := 3) sc__law_draw.nd rfl (Or.inl rfl) (eop op_add (eop op_mod (eix ix_Q (ev 0) ei (fun _ _ => rfl)) ei) (eop op_mul (eop op_fdivP (eix ix_Q (ev 0) ei (fun _ _ => rfl)) ei) ei)))
      (bcons (sset (i := 3) sc__law_draw.nd rfl (Or.inl rfl) (eop op_mod (eop op_mul (eop op_add (eop op_add (ev 3) (eop op_mul ei (eix ix_Q (ev 0) ei (fun _ _ => rfl)))) ei) ei) ei))
      (bcons (sset (i := 3) sc__law_draw.nd rfl (Or.inl rfl) (eop op_mod (eop op_mul (ev 3) (eop op_add (eop op_add (eop op_fdivP (ev 3) ei) ei) (eix ix_Q (ev 0) ei (fun _ _ => rfl)))) ei))
      (bone (sret (eop op_mod (eop op_mod (eop op_mul (ev 3) (eop op_add (eop op_fdivP (ev 3) ei) ei)) ei) (ev 1))))))))), ?_⟩
  simp only [tSeq, tNext, tIfS, tAsg, gName, gSub, tRet, tRetN, tDrop, tVar, tC, tOp, tUn, rI0, rI, rU, tTest, tB, tAndV, tOrV, tNotV, tAnd, tOr, tNot, tIf, tChain, tCB, tCons, tNil, tLst, tTup, tCallC, List.getElem?_cons_zero, List.getElem?_cons_succ, List.set_cons_zero, List.set_cons_succ, Option.some.injEq, V.int.injEq, V.bl.injEq, V.ref.injEq, V.ty.injEq, V.str.injEq, List.cons.injEq, exists_eq_left', exists_eq_left, exists_and_left, and_true, true_and, and_assoc, cxK, rIxF, rSetL, rEq, rNe, scal, HO.lst.injEq, HO.tup.injEq, upd_none, ixN_10, ixN_20, ixN_21, ixN_30, ixN_31, ixN_32, upd_same, seqAt_updL, seqAt_updT, atI_0, atI_1, atI_2, atI_3, decide_eq_true_eq, L2.start, List.map_cons, List.map_nil, List.length_cons, List.length_nil, Nat.reduceAdd, Nat.reduceSub, List.replicate_succ, List.replicate_zero, List.cons_append, List.nil_append, List.append_nil, tFor_rng1, tFor_rng2, tFor_list, tFor_tup, CDv, CMul, CPow, sizeLine_eq, Int.reduceLE, Int.reduceLT, Int.reducePow, Int.reduceToNat, Int.reduceAdd, Int.reduceSub, Int.reduceMul, Int.reduceNeg, Nat.reduceLeDiff, Nat.reducePow, Nat.reduceLT, Int.reduceEq, true_or, or_true, ite_true, ite_false, if_true, if_false, Bool.not_true, Bool.not_false, Bool.false_eq_true, decide_true, decide_false, rIxQ, seqQ_updL, seqQ_updT, tupQ_updT, tSl, tNoPart, tPart, rSlQ, rSlTX, rCatQ, rCatTX, rCatTX0, tTupQ, tLstQ, new_upd, tNever, rEqD, rInQ, gTupQ, gCons, gNil, tBM, rAppend, rCountT, rIndexT, cxN, tCall, tRaise, tTry, tAsk, tWord, Ends.gone, pick_nil, pick_own, pick_cap, join_some, hp,  seqQ_lst hp]
  have g : ∀ (u v z : Int), Kp K p H (upd H p (L3 u v z)) := fun u v z => Kp.upd hp
  refine ite2 (fun c => ⟨h0, h0, by omega, ?_⟩) (fun c => ?_)
  · exact q _ _ _ _ _ (Int.emod_nonneg _ (by omega)) (Int.emod_lt_of_pos _ h0) upd_same (g _ _ _)
  · refine ⟨?_, ?_, h0, q _ _ _ _ _ (Int.emod_nonneg _ (by omega)) (Int.emod_lt_of_pos _ h0) upd_same (g _ _ _)⟩
    all_goals omega
def spKeyL (K : PySem.W.Frag) : Sp := fun vs H Q _ => ∃ p x y z b, vs = [.ref p, .int b] ∧ H p = some (L3 x y z) ∧ 0 ≤ b ∧ b ≤ 999999999976 ∧ ∀ (k x y z : Int) (H' : Hp), 0 ≤ k → k < 1000000000000 → H' p = some (L3 x y z) → Kp K p H H' → Q (.int k) H'
def spBaseL (K : PySem.W.Frag) : Sp := fun vs H Q _ => ∃ p x y z, vs = [.ref p] ∧ H p = some (L3 x y z) ∧ ∀ (b x y z : Int) (H' : Hp), 0 ≤ b → b ≤ 999999999976 → H' p = some (L3 x y z) → Kp K p H H' → Q (.int b) H'
def spAmountL (K : PySem.W.Frag) : Sp := fun vs H Q _ => ∃ p x y z, vs = [.ref p] ∧ H p = some (L3 x y z) ∧ ∀ (n x y z : Int) (H' : Hp), H' p = some (L3 x y z) → Kp K p H H' → Q (.int n) H'
def spStretchL (K : PySem.W.Frag) : Sp := fun vs H Q _ => ∃ p x y z b, vs = [.ref p, .int b] ∧ H p = some (L3 x y z) ∧ 0 ≤ b ∧ b ≤ 999999999976 ∧
  ∀ (a : Addr) (lo hi x y z : Int) (H' : Hp), tupQ K H' a = some [.int lo, .int hi] → 0 ≤ lo → lo < hi → hi ≤ 1000000000000 → H' p = some (L3 x y z) → Kp K p H H' → Q (.ref a) H'
def spActionL (K : PySem.W.Frag) : Sp := fun vs H Q _ => ∃ p x y z one, vs = [.ref p, .bl one] ∧ H p = some (L3 x y z) ∧
  ∀ (v : V) (t n : Half) (x y z : Int) (H' : Hp), Act K H' v t n → (one = false → n = .gone) → H' p = some (L3 x y z) → Kp K p H H' → Q v H'
structure Nt where
  n : Int
  lo : Int
  hi : Int
  t : Half
  m : Half
structure Nt.ok (e : Nt) : Prop where
  n1 : 1 ≤ e.n
  lo0 : 0 ≤ e.lo
  lt : e.lo < e.hi
  hi1 : e.hi ≤ 1000000000000
  one : e.hi - e.lo = 1 ∨ e.m = .gone
  np : e.m.noPlus
def NoteAt (K : PySem.W.Frag) (H : Hp) (v : V) (e : Nt) : Prop := ∃ a w, v = .ref a ∧ tupQ K H a = some [.int e.n, .int e.lo, .int e.hi, w] ∧ Act K H w e.t e.m
theorem NoteAt.ext {K : PySem.W.Frag} {H H' : Hp} {v : V} {e : Nt} (h : NoteAt K H v e) (x : Ext K H H') : NoteAt K H' v e := by
  obtain ⟨a, w, rfl, h1, h2⟩ := h
  exact ⟨a, w, rfl, x.tup h1, h2.ext x⟩
theorem NoteAt.kp {K : PySem.W.Frag} {H H' : Hp} {v : V} {e : Nt} {p : Addr} {xs : List V} (h : NoteAt K H v e) (k : Kp K p H H') (hp : H p = some (.lst xs)) : NoteAt K H' v e := by
  obtain ⟨a, w, rfl, h1, h2⟩ := h
  exact ⟨a, w, rfl, k.tup hp h1, h2.kp k hp⟩
def spNoteL (K : PySem.W.Frag) : Sp := fun vs H Q _ => ∃ p x y z b n, vs = [.ref p, .int b, .int n] ∧ H p = some (L3 x y z) ∧ 0 ≤ b ∧ b ≤ 999999999976 ∧ 1 ≤ n ∧
  ∀ (v : V) (e : Nt) (x y z : Int) (H' : Hp), NoteAt K H' v e → e.ok → e.n = n → H' p = some (L3 x y z) → Kp K p H H' → Q v H'
theorem sc__law_key : FnScope ["_law_well_here", "_law_base_here", "_law_way"] ["_law_well_here", "_law_base_here"] (defScope s__law_key) := ⟨rfl, rfl, rfl, by decide +kernel, rfl, by decide +kernel, by decide +kernel⟩
theorem ok__law_key {f : Addr} {fd : FuncData} (F : Fun K "_law_key" "_law_key" s__law_key f fd) {aG cF cA cD cN cK cS : Addr} {tE : Tok} (B : B K mg aG tE cF cA cD cN cK cS) (C__law_draw : Callee P w K mg base "_law_draw" 1 ["_law_well_here", "_law_many"] (spDraw K)) : FnOk P w K mg base CX0 2 f fd ["_law_well_here", "_law_base_here"] (spKeyL K) := by
  refine F.okJ sc__law_key (fun vs H Q E h => ?_) (fun cdv A outer s H vs Q E hr h => ?_)
  · obtain ⟨p, x, y, z, b, rfl, _⟩ := h
    rfl
  obtain ⟨p, x, y, z, b, rfl, hp, b0, b1, q⟩ := h
  refine ⟨_, (bcons (sset (i := 2) sc__law_key.nd rfl (Or.inl rfl) (ecall C__law_draw (hr.mono (by decide)) rfl (acons (ev 0) (acons ei anil))))
      (bcons (sif (tcmp op_eq (ev 2) ei (nomark _)) (bone (sret (eop op_add (eop op_mul (ecall C__law_draw (hr.mono (by decide)) rfl (acons (ev 0) (acons (epowc 1000000) anil))) (epowc 1000000)) (ecall C__law_draw (hr.mono (by decide)) rfl (acons (ev 0) (acons (epowc 1000000) anil)))))) bnil)
      (bone (sret (eop op_add (ev 1) (ecall C__law_draw (hr.mono (by decide)) rfl (acons (ev 0) (acons ei anil)))))))), ?_⟩
  try walk_at "rn"
  refine ⟨p, _, _, _, 6, rfl, hp, by decide, by omega, fun way x y z H1 _ _ g1 k1 => ?_⟩
  try walk_at "rn"
  refine ite2 (fun c => ?_) (fun c => ?_)
  · refine ⟨p, _, _, _, _, rfl, g1, by decide, by omega, fun r x y z H2 r0 r1 g2 k2 => ?_⟩
    try walk_at "rn"
    refine ⟨p, _, _, _, _, rfl, g2, by decide, by omega, fun r' x y z H3 r0' r1' g3 k3 => ?_⟩
    try walk_at "rn"
    exact q _ _ _ _ _ (by omega) (by omega) g3 (k1.trans (k2.trans k3))
  · refine ⟨p, _, _, _, 24, rfl, g1, by decide, by omega, fun r x y z H2 r0 r1 g2 k2 => ?_⟩
    try walk_at "rn"
    exact q _ _ _ _ _ (by omega) (by omega) g2 (k1.trans k2)
theorem sc__law_base : FnScope ["_law_well_here"] ["_law_well_here"] (defScope s__law_base) := ⟨rfl, rfl, rfl, by decide +kernel, rfl, by decide +kernel, by decide +kernel⟩
theorem ok__law_base {f : Addr} {fd : FuncData} (F : Fun K "_law_base" "_law_base" s__law_base f fd) {aG cF cA cD cN cK cS : Addr} {tE : Tok} (B : B K mg aG tE cF cA cD cN cK cS) (C__law_draw : Callee P w K mg base "_law_draw" 1 ["_law_well_here", "_law_many"] (spDraw K)) : FnOk P w K mg base CX0 2 f fd ["_law_well_here"] (spBaseL K) := by
  refine F.okJ sc__law_base (fun vs H Q E h => ?_) (fun cdv A outer s H vs Q E hr h => ?_)
  · obtain ⟨p, x, y, z, rfl, _⟩ := h
    rfl
  obtain ⟨p, x, y, z, rfl, hp, q⟩ := h
  refine ⟨_, (bone (sret (eix ix_Q (elstQ (acons ei (acons (eop op_sub (epowc 1000000000000) ei) (acons ei (acons (eop op_mul (ecall C__law_draw (hr.mono (by decide)) rfl (acons (ev 0) (acons (epowc 1000000) anil))) (epowc 100000)) anil))))) (ecall C__law_draw (hr.mono (by decide)) rfl (acons (ev 0) (acons ei anil))) (fun _ _ => rfl)))), ?_⟩
  try walk_at "rn"
  refine ⟨p, _, _, _, _, rfl, hp, by decide, by omega, fun d x y z H1 d0 d1 g1 k1 => ?_⟩
  try walk_at "rn"
  intro b1 n1
  have x1 := Ext.new (K := K) (o := .lst [.int 0, .int 999999999976, .int 1000, .int (d * 100000)]) n1
  refine ⟨p, _, _, _, 4, rfl, x1.at g1, by decide, by omega, fun r x y z H2 r0 r1 g2 k2 => ?_⟩
  have ne : b1 ≠ p := (ne_of_none g1 n1.1).symm
  simp only [tSeq, tNext, tIfS, tAsg, gName, gSub, tRet, tRetN, tDrop, tVar, tC, tOp, tUn, rI0, rI, rU, tTest, tB, tAndV, tOrV, tNotV, tAnd, tOr, tNot, tIf, tChain, tCB, tCons, tNil, tLst, tTup, tCallC, List.getElem?_cons_zero, List.getElem?_cons_succ, List.set_cons_zero, List.set_cons_succ, Option.some.injEq, V.int.injEq, V.bl.injEq, V.ref.injEq, V.ty.injEq, V.str.injEq, List.cons.injEq, exists_eq_left', exists_eq_left, exists_and_left, and_true, true_and, and_assoc, cxK, rIxF, rSetL, rEq, rNe, scal, HO.lst.injEq, HO.tup.injEq, upd_none, ixN_10, ixN_20, ixN_21, ixN_30, ixN_31, ixN_32, upd_same, seqAt_updL, seqAt_updT, atI_0, atI_1, atI_2, atI_3, decide_eq_true_eq, L2.start, List.map_cons, List.map_nil, List.length_cons, List.length_nil, Nat.reduceAdd, Nat.reduceSub, List.replicate_succ, List.replicate_zero, List.cons_append, List.nil_append, List.append_nil, tFor_rng1, tFor_rng2, tFor_list, tFor_tup, CDv, CMul, CPow, sizeLine_eq, Int.reduceLE, Int.reduceLT, Int.reducePow, Int.reduceToNat, Int.reduceAdd, Int.reduceSub, Int.reduceMul, Int.reduceNeg, Nat.reduceLeDiff, Nat.reducePow, Nat.reduceLT, Int.reduceEq, true_or, or_true, ite_true, ite_false, if_true, if_false, Bool.not_true, Bool.not_false, Bool.false_eq_true, decide_true, decide_false, rIxQ, seqQ_updL, seqQ_updT, tupQ_updT, tSl, tNoPart, tPart, rSlQ, rSlTX, rCatQ, rCatTX, rCatTX0, tTupQ, tLstQ, tNever, rEqD, rInQ, gTupQ, gCons, gNil, tBM, rAppend, rCountT, rIndexT, cxN, tCall, tRaise, tTry, tAsk, tWord, Ends.gone, pick_nil, pick_own, pick_cap, join_some, seqQ_lst (k2.keep b1 _ upd_same ne)]
  obtain ⟨v, ev, mv⟩ := atI_in (xs := [V.int 0, V.int 999999999976, V.int 1000, V.int (d * 100000)]) r0 r1
  obtain ⟨b, rfl, hb0, hb1⟩ : ∃ n : Int, v = .int n ∧ 0 ≤ n ∧ n ≤ 999999999976 := by
    simp only [List.mem_cons, List.not_mem_nil, or_false] at mv
    rcases mv with rfl | rfl | rfl | rfl <;> exact ⟨_, rfl, by omega, by omega⟩
  exact ⟨_, ev, q _ _ _ _ _ hb0 hb1 g2 (k1.trans (x1.kp.trans k2))⟩
theorem sc__law_amount : FnScope ["_law_well_here", "_law_way", "_law_sign", "_law_near"] ["_law_well_here"] (defScope s__law_amount) := ⟨rfl, rfl, rfl, by decide +kernel, rfl, by decide +kernel, by decide +kernel⟩
theorem ok__law_amount {f : Addr} {fd : FuncData} (F : Fun K "_law_amount" "_law_amount" s__law_amount f fd) {aG cF cA cD cN cK cS : Addr} {tE : Tok} (B : B K mg aG tE cF cA cD cN cK cS) (C__law_draw : Callee P w K mg base "_law_draw" 1 ["_law_well_here", "_law_many"] (spDraw K)) : FnOk P w K mg base CX0 2 f fd ["_law_well_here"] (spAmountL K) := by
  refine F.okJ sc__law_amount (fun vs H Q E h => ?_) (fun cdv A outer s H vs Q E hr h => ?_)
  · obtain ⟨p, x, y, z, rfl, _⟩ := h
    rfl
  obtain ⟨p, x, y, z, rfl, hp, q⟩ := h
  refine ⟨_, (bcons (sset (i := 1) sc__law_amount.nd rfl (Or.inl rfl) (ecall C__law_draw (hr.mono (by decide)) rfl (acons (ev 0) (acons ei anil))))
      (bcons (sset (i := 2) sc__law_amount.nd rfl (Or.inl rfl) (eix ix_Q (elstQ (acons ei (acons ei (acons (eun un_neg ei) anil)))) (ecall C__law_draw (hr.mono (by decide)) rfl (acons (ev 0) (acons ei anil))) (fun _ _ => rfl)))
      (bcons (sset (i := 3) sc__law_amount.nd rfl (Or.inl rfl) (ecall C__law_draw (hr.mono (by decide)) rfl (acons (ev 0) (acons (eix ix_Q (elstQ (acons ei (acons ei (acons (epowc 1000000000) (acons (epowc 1000000000) anil))))) (ev 1) (fun _ _ => rfl)) anil))))
      (bone (sret (eop op_mul (eop op_mul (ev 2) (ev 3)) (eix ix_Q (elstQ (acons ei (acons ei (acons ei (acons (epowc 1000000000000000000000) anil))))) (ev 1) (fun _ _ => rfl)))))))), ?_⟩
  try walk_at "rn"
  refine ⟨p, _, _, _, 4, rfl, hp, by decide, by omega, fun way x y z H1 w0 w1 g1 k1 => ?_⟩
  try walk_at "rn"
  intro b1 n1
  have x1 := Ext.new (K := K) (o := .lst [.int 1, .int 1, .int (-1)]) n1
  refine ⟨p, _, _, _, 3, rfl, x1.at g1, by decide, by omega, fun r x y z H2 r0 r1 g2 k2 => ?_⟩
  simp only [tSeq, tNext, tIfS, tAsg, gName, gSub, tRet, tRetN, tDrop, tVar, tC, tOp, tUn, rI0, rI, rU, tTest, tB, tAndV, tOrV, tNotV, tAnd, tOr, tNot, tIf, tChain, tCB, tCons, tNil, tLst, tTup, tCallC, List.getElem?_cons_zero, List.getElem?_cons_succ, List.set_cons_zero, List.set_cons_succ, Option.some.injEq, V.int.injEq, V.bl.injEq, V.ref.injEq, V.ty.injEq, V.str.injEq, List.cons.injEq, exists_eq_left', exists_eq_left, exists_and_left, and_true, true_and, and_assoc, cxK, rIxF, rSetL, rEq, rNe, scal, HO.lst.injEq, HO.tup.injEq, upd_none, ixN_10, ixN_20, ixN_21, ixN_30, ixN_31, ixN_32, upd_same, seqAt_updL, seqAt_updT, atI_0, atI_1, atI_2, atI_3, decide_eq_true_eq, L2.start, List.map_cons, List.map_nil, List.length_cons, List.length_nil, Nat.reduceAdd, Nat.reduceSub, List.replicate_succ, List.replicate_zero, List.cons_append, List.nil_append, List.append_nil, tFor_rng1, tFor_rng2, tFor_list, tFor_tup, CDv, CMul, CPow, sizeLine_eq, Int.reduceLE, Int.reduceLT, Int.reducePow, Int.reduceToNat, Int.reduceAdd, Int.reduceSub, Int.reduceMul, Int.reduceNeg, Nat.reduceLeDiff, Nat.reducePow, Nat.reduceLT, Int.reduceEq, true_or, or_true, ite_true, ite_false, if_true, if_false, Bool.not_true, Bool.not_false, Bool.false_eq_true, decide_true, decide_false, rIxQ, seqQ_updL, seqQ_updT, tupQ_updT, tSl, tNoPart, tPart, rSlQ, rSlTX, rCatQ, rCatTX, rCatTX0, tTupQ, tLstQ, tNever, rEqD, rInQ, gTupQ, gCons, gNil, tBM, rAppend, rCountT, rIndexT, cxN, tCall, tRaise, tTry, tAsk, tWord, Ends.gone, pick_nil, pick_own, pick_cap, join_some, seqQ_lst (k2.keep b1 _ upd_same (ne_of_none g1 n1.1).symm)]
  obtain ⟨v, ev, mv⟩ := atI_in (xs := [V.int 1, V.int 1, V.int (-1)]) r0 r1
  obtain ⟨sg, rfl, hsg⟩ : ∃ n, v = V.int n ∧ -2 < n ∧ n < 2 := by
    simp only [List.mem_cons, List.not_mem_nil, or_false] at mv
    rcases mv with rfl | rfl | rfl <;> exact ⟨_, rfl, by decide, by decide⟩
  refine ⟨_, ev, fun b2 n2 => ?_⟩
  have x2 := Ext.new (K := K) (o := .lst [.int 4, .int 30, .int 1000000000, .int 1000000000]) n2
  obtain ⟨u, eu, mu⟩ := atI_in (xs := [V.int 4, V.int 30, V.int 1000000000, V.int 1000000000]) w0 w1
  obtain ⟨m, rfl, hm0, hm1⟩ : ∃ n, u = V.int n ∧ 0 < n ∧ n ≤ 1000000000 := by
    simp only [List.mem_cons, List.not_mem_nil, or_false] at mu
    rcases mu with rfl | rfl | rfl | rfl <;> exact ⟨_, rfl, by decide, by decide⟩
  refine ⟨_, eu, p, _, _, _, m, rfl, x2.at g2, hm0, by omega, fun near x y z H3 e0 e1 g3 k3 => ?_⟩
  try walk_at "rn"
  obtain ⟨v4, ev4, mv4⟩ := atI_in (xs := [V.int 1, V.int 1, V.int 1, V.int 1000000000000000000000]) w0 w1
  obtain ⟨m4, rfl⟩ : ∃ n, v4 = V.int n := by
    simp only [List.mem_cons, List.not_mem_nil, or_false] at mv4
    rcases mv4 with rfl | rfl | rfl | rfl <;> exact ⟨_, rfl⟩
  have hs : -(1000000000 : Int) ≤ sg * near ∧ sg * near ≤ 1000000000 := by
    have : sg = -1 ∨ sg = 0 ∨ sg = 1 := by omega
    rcases this with rfl | rfl | rfl <;> omega
  refine ⟨.inl ⟨by omega, by omega⟩, fun b5 n5 => ⟨_, ev4, _, rfl, .inl ⟨by omega, by omega⟩, ?_⟩⟩
  exact q _ _ _ _ _ ((Ext.new n5).at g3) (k1.trans (x1.kp.trans (k2.trans (x2.kp.trans (k3.trans (Ext.new n5).kp)))))
theorem sc__law_stretch : FnScope ["_law_well_here", "_law_base_here", "_law_way", "_law_low", "_law_far"] ["_law_well_here", "_law_base_here"] (defScope s__law_stretch) := ⟨rfl, rfl, rfl, by decide +kernel, rfl, by decide +kernel, by decide +kernel⟩
theorem ok__law_stretch {f : Addr} {fd : FuncData} (F : Fun K "_law_stretch" "_law_stretch" s__law_stretch f fd) {aG cF cA cD cN cK cS : Addr} {tE : Tok} (B : B K mg aG tE cF cA cD cN cK cS) (C__law_draw : Callee P w K mg base "_law_draw" 1 ["_law_well_here", "_law_many"] (spDraw K)) (C__law_key : Callee P w K mg base "_law_key" 2 ["_law_well_here", "_law_base_here"] (spKeyL K)) : FnOk P w K mg base CX0 3 f fd ["_law_well_here", "_law_base_here"] (spStretchL K) := by
  refine F.okJ sc__law_stretch (fun vs H Q E h => ?_) (fun cdv A outer s H vs Q E hr h => ?_)
  · obtain ⟨p, x, y, z, b, rfl, _⟩ := h
    rfl
  obtain ⟨p, x, y, z, b, rfl, hp, b0, b1, q⟩ := h
  refine ⟨_, (bcons (sset (i := 2) sc__law_stretch.nd rfl (Or.inl rfl) (ecall C__law_draw (hr.mono (by decide)) rfl (acons (ev 0) (acons ei anil))))
      (bcons (sset (i := 3) sc__law_stretch.nd rfl (Or.inl rfl) (ecall C__law_key (hr.mono (by decide)) rfl (acons (ev 0) (acons (ev 1) anil))))
      (bcons (sif (tcmp op_eq (ev 2) ei (nomark _)) (bone (sret (etupQ (acons ei (acons (epowc 1000000000000) anil))))) bnil)
      (bcons (sif (tcmp op_eq (ev 2) ei (nomark _)) (bone (sret (etupQ (acons (ev 3) (acons (epowc 1000000000000) anil))))) bnil)
      (bcons (sset (i := 4) sc__law_stretch.nd rfl (Or.inl rfl) (eix ix_Q (elstQ (acons ei (acons (eop op_add ei (ecall C__law_draw (hr.mono (by decide)) rfl (acons (ev 0) (acons ei anil)))) (acons (eop op_add ei (ecall C__law_draw (hr.mono (by decide)) rfl (acons (ev 0) (acons (epowc 1000000000) anil)))) anil)))) (eop op_mod (ev 2) ei) (fun _ _ => rfl)))
      (bone (sret (etupQ (acons (ev 3) (acons (ecallB (call_min2 rfl) rfl B.min bt_min (acons (epowc 1000000000000) (acons (eop op_add (ev 3) (ev 4)) anil))) anil)))))))))), ?_⟩
  try walk_at "rn"
  refine ⟨p, _, _, _, 9, rfl, hp, by decide, by omega, fun way x y z H1 w0 w1 g1 k1 => ?_⟩
  try walk_at "rn"
  refine ⟨p, _, _, _, b, rfl, g1, b0, b1, fun k x y z H2 r0 r1 g2 k2 => ?_⟩
  have k12 := k1.trans k2
  try walk_at "rn"
  refine ite2 (fun c => fun b3 n3 => ?_) (fun c => ?_)
  · exact q b3 0 1000000000000 _ _ _ _ tupQ_updT (by omega) (by omega) (by omega) ((Ext.new n3).at g2) (k12.trans (Ext.new n3).kp)
  refine ite2 (fun c => fun b3 n3 => ?_) (fun c => ?_)
  · exact q b3 k 1000000000000 _ _ _ _ tupQ_updT (by omega) (by omega) (by omega) ((Ext.new n3).at g2) (k12.trans (Ext.new n3).kp)
  refine ⟨p, _, _, _, 20, rfl, g2, by decide, by omega, fun d x y z H3 d0 _ g3 k3 => ?_⟩
  try walk_at "rn"
  refine ⟨p, _, _, _, _, rfl, g3, by decide, by omega, fun d' x y z H4 d0' _ g4 k4 => ?_⟩
  try walk_at "rn"
  intro b5 n5
  obtain ⟨v, ev, mv⟩ := atI_in (xs := [V.int 1, V.int (1 + d), V.int (1 + d')]) (k := way % 3) (by omega) (by show way % 3 < 3; omega)
  obtain ⟨fa, rfl, hf⟩ : ∃ n : Int, v = .int n ∧ 1 ≤ n := by
    simp only [List.mem_cons, List.not_mem_nil, or_false] at mv
    rcases mv with rfl | rfl | rfl <;> exact ⟨_, rfl, by omega⟩
  refine ⟨_, ev, ?_⟩
  try walk_at "rn"
  intro b6 n6
  have x6 := (Ext.new (K := K) (o := .lst [.int 1, .int (1 + d), .int (1 + d')]) n5)
  refine q b6 k (if k + fa < 1000000000000 then k + fa else 1000000000000) _ _ _ _ tupQ_updT (by omega) ?_ ?_ ((x6.trans (Ext.new n6)).at g4) (k12.trans (k3.trans (k4.trans (x6.trans (Ext.new n6)).kp)))
  · split <;> omega
  · split <;> omega
theorem sc__law_action : FnScope ["_law_well_here", "_law_is_one", "_law_way", "_law_amount_here", "_law_there"] ["_law_well_here", "_law_is_one"] (defScope s__law_action) := ⟨rfl, rfl, rfl, by decide +kernel, rfl, by decide +kernel, by decide +kernel⟩
theorem ok__law_action {f : Addr} {fd : FuncData} (F : Fun K "_law_action" "_law_action" s__law_action f fd) {aG cF cA cD cN cK cS : Addr} {tE : Tok} (B : B K mg aG tE cF cA cD cN cK cS) (C__law_draw : Callee P w K mg base "_law_draw" 1 ["_law_well_here", "_law_many"] (spDraw K)) (C__law_amount : Callee P w K mg base "_law_amount" 2 ["_law_well_here"] (spAmountL K)) : FnOk P w K mg base CX0 3 f fd ["_law_well_here", "_law_is_one"] (spActionL K) := by
  refine F.okJ sc__law_action (fun vs H Q E h => ?_) (fun cdv A outer s H vs Q E hr h => ?_)
  · obtain ⟨p, x, y, z, one, rfl, _⟩ := h
    rfl
  obtain ⟨p, x, y, z, one, rfl, hp, q⟩ := h
  refine ⟨_, (bcons (sset (i := 2) sc__law_action.nd rfl (Or.inl rfl) (ecall C__law_draw (hr.mono (by decide)) rfl (acons (ev 0) (acons ei anil))))
      (bcons (sset (i := 3) sc__law_action.nd rfl (Or.inl rfl) (ecall C__law_amount (hr.mono (by decide)) rfl (acons (ev 0) anil)))
      (bcons (sset (i := 4) sc__law_action.nd rfl (Or.inl rfl) (eix ix_Q (elstQ (acons (etupQ (acons estr (acons (ev 3) anil))) (acons (etupQ (acons estr (acons (ev 3) anil))) (acons (etupQ (acons estr anil)) anil)))) (eop op_mod (ev 2) ei) (fun _ _ => rfl)))
      (bone (sret (etupQ (acons (ev 4) (acons (eix ix_Q (elstQ (acons (etupQ (acons estr anil)) (acons (etupQ (acons estr (acons (eop op_add (ev 3) ei) anil))) anil))) (eop op_mul (eop op_fdivP (ev 2) ei) (ecallTy call_intB rfl B.int bt_int (acons (ev 1) anil))) (fun _ _ => rfl)) anil)))))))), ?_⟩
  try walk_at "rn"
  refine ⟨p, _, _, _, 6, rfl, hp, by decide, by omega, fun way x y z H1 w0 w1 g1 k1 => ?_⟩
  try walk_at "rn"
  refine ⟨p, _, _, _, rfl, g1, fun n x y z H2 g2 k2 => ?_⟩
  try walk_at "rn"
  intro p1 n1 p2 n2 p3 n3 p4 n4
  obtain ⟨v1, hv1, mv1⟩ := atI_in (xs := [V.ref p1, V.ref p2, V.ref p3]) (k := way % 3) (by omega) (by show way % 3 < 3; omega)
  refine ⟨v1, hv1, ?_⟩
  intro p5 n5 p6 n6 p7 n7
  have x7 : Ext K H2 (upd (upd (upd (upd (upd (upd (upd H2 p1 (.tup [.str "plus", .int n])) p2 (.tup [.str "is", .int n])) p3 (.tup [.str "gone"])) p4 (.lst [.ref p1, .ref p2, .ref p3])) p5 (.tup [.str "gone"])) p6 (.tup [.str "is", .int (n + 1)])) p7 (.lst [.ref p5, .ref p6])) := (Ext.new n1).trans ((Ext.new n2).trans ((Ext.new n3).trans ((Ext.new n4).trans ((Ext.new n5).trans ((Ext.new n6).trans (Ext.new n7))))))
  have e5 : tupQ K (upd (upd (upd (upd (upd (upd (upd H2 p1 (.tup [.str "plus", .int n])) p2 (.tup [.str "is", .int n])) p3 (.tup [.str "gone"])) p4 (.lst [.ref p1, .ref p2, .ref p3])) p5 (.tup [.str "gone"])) p6 (.tup [.str "is", .int (n + 1)])) p7 (.lst [.ref p5, .ref p6])) p5 = some [.str "gone"] := ((Ext.new n6).trans (Ext.new n7)).tup tupQ_updT
  have e6 : tupQ K (upd (upd (upd (upd (upd (upd (upd H2 p1 (.tup [.str "plus", .int n])) p2 (.tup [.str "is", .int n])) p3 (.tup [.str "gone"])) p4 (.lst [.ref p1, .ref p2, .ref p3])) p5 (.tup [.str "gone"])) p6 (.tup [.str "is", .int (n + 1)])) p7 (.lst [.ref p5, .ref p6])) p6 = some [.str "is", .int (n + 1)] := (Ext.new n7).tup tupQ_updT
  obtain ⟨r1, t1, rfl, et⟩ : ∃ r1 t1, v1 = .ref r1 ∧ tupQ K (upd (upd (upd (upd (upd (upd (upd H2 p1 (.tup [.str "plus", .int n])) p2 (.tup [.str "is", .int n])) p3 (.tup [.str "gone"])) p4 (.lst [.ref p1, .ref p2, .ref p3])) p5 (.tup [.str "gone"])) p6 (.tup [.str "is", .int (n + 1)])) p7 (.lst [.ref p5, .ref p6])) r1 = some (Half.v t1) := by
    simp only [List.mem_cons, List.not_mem_nil, or_false] at mv1
    rcases mv1 with rfl | rfl | rfl
    · exact ⟨p1, .plus n, rfl, ((Ext.new n2).trans ((Ext.new n3).trans ((Ext.new n4).trans ((Ext.new n5).trans ((Ext.new n6).trans (Ext.new n7)))))).tup tupQ_updT⟩
    · exact ⟨p2, .is n, rfl, ((Ext.new n3).trans ((Ext.new n4).trans ((Ext.new n5).trans ((Ext.new n6).trans (Ext.new n7))))).tup tupQ_updT⟩
    · exact ⟨p3, .gone, rfl, ((Ext.new n4).trans ((Ext.new n5).trans ((Ext.new n6).trans (Ext.new n7)))).tup tupQ_updT⟩
  generalize upd (upd (upd (upd (upd (upd (upd H2 p1 (.tup [.str "plus", .int n])) p2 (.tup [.str "is", .int n])) p3 (.tup [.str "gone"])) p4 (.lst [.ref p1, .ref p2, .ref p3])) p5 (.tup [.str "gone"])) p6 (.tup [.str "is", .int (n + 1)])) p7 (.lst [.ref p5, .ref p6]) = G at x7 e5 e6 et ⊢
  have k2' := k1.trans (k2.trans x7.kp)
  have hw : way / 3 = 0 ∨ way / 3 = 1 := by omega
  have fin : ∀ (r2 : Addr) (t2 : Half), tupQ K G r2 = some (Half.v t2) → t2.noPlus → (one = false → t2 = .gone) → ∀ p8, new K G p8 → Q (.ref p8) (upd G p8 (.tup [.ref r1, .ref r2])) := fun r2 t2 e2 np h1 p8 n8 =>
    q _ t1 t2 _ _ _ _ ⟨p8, r1, r2, rfl, tupQ_updT, (Ext.new n8).tup et, (Ext.new n8).tup e2, np⟩ h1 ((x7.trans (Ext.new n8)).at g2) (k2'.trans (Ext.new n8).kp)
  refine ⟨by cases one <;> omega, ?_⟩
  cases one with
  | false => exact ⟨.ref p5, by rcases hw with h | h <;> rw [h] <;> rfl, fin p5 .gone e5 trivial fun _ => rfl⟩
  | true =>
    rcases hw with h | h
    · exact ⟨.ref p5, by rw [h]; rfl, fin p5 .gone e5 trivial fun z => nomatch z⟩
    · exact ⟨.ref p6, by rw [h]; rfl, fin p6 (.is (n + 1)) e6 trivial fun z => nomatch z⟩
theorem sc__law_note : FnScope ["_law_well_here", "_law_base_here", "_law_number", "_law_low", "_law_high"] ["_law_well_here", "_law_base_here", "_law_number"] (defScope s__law_note) := ⟨rfl, rfl, rfl, by decide +kernel, rfl, by decide +kernel, by decide +kernel⟩
theorem ok__law_note {f : Addr} {fd : FuncData} (F : Fun K "_law_note" "_law_note" s__law_note f fd) {aG cF cA cD cN cK cS : Addr} {tE : Tok} (B : B K mg aG tE cF cA cD cN cK cS) (C__law_stretch : Callee P w K mg base "_law_stretch" 3 ["_law_well_here", "_law_base_here"] (spStretchL K)) (C__law_action : Callee P w K mg base "_law_action" 3 ["_law_well_here", "_law_is_one"] (spActionL K)) : FnOk P w K mg base CX0 4 f fd ["_law_well_here", "_law_base_here", "_law_number"] (spNoteL K) := by
  refine F.okJ sc__law_note (fun vs H Q E h => ?_) (fun cdv A outer s H vs Q E hr h => ?_)
  · obtain ⟨p, x, y, z, b, n, rfl, _⟩ := h
    rfl
  obtain ⟨p, x, y, z, b, n, rfl, hp, b0, b1, n1, q⟩ := h
  refine ⟨_, (bcons (sasg (ecall C__law_stretch (hr.mono (by decide)) rfl (acons (ev 0) (acons (ev 1) anil))) (gtupQ (n := 2) rfl (gcons (gname (i := 3) sc__law_note.nd rfl (Or.inl rfl)) (gcons (gname (i := 4) sc__law_note.nd rfl (Or.inl rfl)) gnil))))
      (bone (sret (etupQ (acons (ev 2) (acons (ev 3) (acons (ev 4) (acons (ecall C__law_action (hr.mono (by decide)) rfl (acons (ev 0) (acons (ecmp op_eq (eop op_sub (ev 4) (ev 3)) ei (nomark _)) anil))) anil)))))))), ?_⟩
  try walk_at "rn"
  refine ⟨p, _, _, _, b, rfl, hp, b0, b1, fun a lo hi x y z H1 ea l0 lh h1 g1 k1 => ?_⟩
  simp only [tSeq, tNext, tIfS, tAsg, gName, gSub, tRet, tRetN, tDrop, tVar, tC, tOp, tUn, rI0, rI, rU, tTest, tB, tAndV, tOrV, tNotV, tAnd, tOr, tNot, tIf, tChain, tCB, tCons, tNil, tLst, tTup, tCallC, List.getElem?_cons_zero, List.getElem?_cons_succ, List.set_cons_zero, List.set_cons_succ, Option.some.injEq, V.int.injEq, V.bl.injEq, V.ref.injEq, V.ty.injEq, V.str.injEq, List.cons.injEq, exists_eq_left', exists_eq_left, exists_and_left, and_true, true_and, and_assoc, cxK, rIxF, rSetL, rEq, rNe, scal, HO.lst.injEq, HO.tup.injEq, upd_none, ixN_10, ixN_20, ixN_21, ixN_30, ixN_31, ixN_32, upd_same, seqAt_updL, seqAt_updT, atI_0, atI_1, atI_2, atI_3, decide_eq_true_eq, L2.start, List.map_cons, List.map_nil, List.length_cons, List.length_nil, Nat.reduceAdd, Nat.reduceSub, List.replicate_succ, List.replicate_zero, List.cons_append, List.nil_append, List.append_nil, tFor_rng1, tFor_rng2, tFor_list, tFor_tup, CDv, CMul, CPow, sizeLine_eq, Int.reduceLE, Int.reduceLT, Int.reducePow, Int.reduceToNat, Int.reduceAdd, Int.reduceSub, Int.reduceMul, Int.reduceNeg, Nat.reduceLeDiff, Nat.reducePow, Nat.reduceLT, Int.reduceEq, true_or, or_true, ite_true, ite_false, if_true, if_false, Bool.not_true, Bool.not_false, Bool.false_eq_true, decide_true, decide_false, rIxQ, seqQ_updL, seqQ_updT, tupQ_updT, tSl, tNoPart, tPart, rSlQ, rSlTX, rCatQ, rCatTX, rCatTX0, tTupQ, tLstQ, tNever, rEqD, rInQ, gTupQ, gCons, gNil, tBM, rAppend, rCountT, rIndexT, cxN, tCall, tRaise, tTry, tAsk, tWord, Ends.gone, pick_nil, pick_own, pick_cap, join_some, ea]
  refine ⟨p, _, _, _, _, rfl, g1, fun v t m x y z H2 A2 hone g2 k2 => ?_⟩
  try walk_at "rn"
  intro b3 n3
  have np : m.noPlus := let ⟨_, _, _, _, _, _, _, h⟩ := A2; h
  refine q _ ⟨n, lo, hi, t, m⟩ _ _ _ _ ⟨b3, v, rfl, tupQ_updT, A2.ext (Ext.new n3)⟩ ⟨n1, l0, lh, h1, ?_, np⟩ rfl ((Ext.new n3).at g2) (k1.trans (k2.trans (Ext.new n3).kp))
  by_cases c : hi - lo = 1
  · exact .inl c
  · exact .inr (hone (by simpa using c))
end
mutual
def Dt (K : PySem.W.Frag) (p : Addr → Prop) (H : Hp) : PyData → V → Prop
  | .none, v => v = .non
  | .bool b, v => v = .bl b
  | .int i, v => v = .int i
  | .str x, v => v = .str x
  | .list ds, v => ∃ a vs, v = .ref a ∧ ¬ p a ∧ H a = some (.lst vs) ∧ DtAll K p H ds vs
  | .tuple ds, v => ∃ a vs, v = .ref a ∧ tupQ K H a = some vs ∧ DtAll K p H ds vs
  | .dict _, _ => False
def DtAll (K : PySem.W.Frag) (p : Addr → Prop) (H : Hp) : List PyData → List V → Prop
  | [], vs => vs = []
  | d :: ds, vs => ∃ v r, vs = v :: r ∧ Dt K p H d v ∧ DtAll K p H ds r
end
section
variable {K : PySem.W.Frag} {p : Addr → Prop} {H H' : Hp}
mutual
theorem Dt.move (ht : ∀ a vs, tupQ K H a = some vs → tupQ K H' a = some vs) (hl : ∀ a vs, ¬ p a → H a = some (.lst vs) → H' a = some (.lst vs)) : ∀ {d : PyData} {v : V}, Dt K p H d v → Dt K p H' d v
  | .none, v, h => by unfold Dt at h ⊢; exact h
  | .bool b, v, h => by unfold Dt at h ⊢; exact h
  | .int i, v, h => by unfold Dt at h ⊢; exact h
  | .str x, v, h => by unfold Dt at h ⊢; exact h
  | .list ds, v, h => by
    unfold Dt at h ⊢
    obtain ⟨a, vs, e, n, h1, h2⟩ := h
    exact ⟨a, vs, e, n, hl a vs n h1, DtAll.move ht hl h2⟩
  | .tuple ds, v, h => by
    unfold Dt at h ⊢
    obtain ⟨a, vs, e, h1, h2⟩ := h
    exact ⟨a, vs, e, ht a vs h1, DtAll.move ht hl h2⟩
  | .dict _, v, h => by unfold Dt at h; exact h.elim
theorem DtAll.move (ht : ∀ a vs, tupQ K H a = some vs → tupQ K H' a = some vs) (hl : ∀ a vs, ¬ p a → H a = some (.lst vs) → H' a = some (.lst vs)) : ∀ {ds : List PyData} {vs : List V}, DtAll K p H ds vs → DtAll K p H' ds vs
  | [], vs, h => by unfold DtAll at h ⊢; exact h
  | d :: ds, vs, h => by
    unfold DtAll at h ⊢
    obtain ⟨v, r, e, h1, h2⟩ := h
    exact ⟨v, r, e, Dt.move ht hl h1, DtAll.move ht hl h2⟩
end
mutual
theorem Dt.is : ∀ {d : PyData} {v : V}, Dt K p H d v → Is K H d v
  | .none, v, h => by unfold Dt at h; unfold Is; exact h
  | .bool b, v, h => by unfold Dt at h; unfold Is; exact h
  | .int i, v, h => by unfold Dt at h; unfold Is; exact h
  | .str x, v, h => by unfold Dt at h; unfold Is; exact h
  | .list ds, v, h => by
    unfold Dt at h
    unfold Is
    obtain ⟨a, vs, e, n, h1, h2⟩ := h
    exact ⟨a, vs, e, .inl (.inl h1), DtAll.is h2⟩
  | .tuple ds, v, h => by
    unfold Dt at h
    unfold Is
    obtain ⟨a, vs, e, h1, h2⟩ := h
    exact ⟨a, vs, e, tupQ_sq h1, DtAll.is h2⟩
  | .dict _, v, h => by unfold Dt at h; exact h.elim
theorem DtAll.is : ∀ {ds : List PyData} {vs : List V}, DtAll K p H ds vs → IsAll K H ds vs
  | [], vs, h => by unfold DtAll at h; unfold IsAll; exact h
  | d :: ds, vs, h => by
    unfold DtAll at h
    unfold IsAll
    obtain ⟨v, r, e, h1, h2⟩ := h
    exact ⟨v, r, e, Dt.is h1, DtAll.is h2⟩
end
theorem Dt.ext {d : PyData} {v : V} (h : Dt K p H d v) (x : Ext K H H') : Dt K p H' d v := h.move (fun _ _ e => x.tup e) fun _ _ _ e => x.same _ _ e
theorem Dt.kp {d : PyData} {v : V} {xs : List V} {b : Addr} (h : Dt K p H d v) (k : Kp K b H H') (hp : H b = some (.lst xs)) (hS : p b) : Dt K p H' d v := h.move (fun _ _ e => k.tup hp e) fun a _ n e => k.keep a _ e fun z => n (z ▸ hS)
mutual
theorem Dt.weak {p' : Addr → Prop} (w : ∀ a, ¬ p a → ¬ p' a) : ∀ {d : PyData} {v : V}, Dt K p H d v → Dt K p' H d v
  | .none, v, h => by unfold Dt at h ⊢; exact h
  | .bool b, v, h => by unfold Dt at h ⊢; exact h
  | .int i, v, h => by unfold Dt at h ⊢; exact h
  | .str x, v, h => by unfold Dt at h ⊢; exact h
  | .list ds, v, h => by
    unfold Dt at h ⊢
    obtain ⟨a, vs, e, n, h1, h2⟩ := h
    exact ⟨a, vs, e, w a n, h1, DtAll.weak w h2⟩
  | .tuple ds, v, h => by
    unfold Dt at h ⊢
    obtain ⟨a, vs, e, h1, h2⟩ := h
    exact ⟨a, vs, e, h1, DtAll.weak w h2⟩
  | .dict _, v, h => by unfold Dt at h; exact h.elim
theorem DtAll.weak {p' : Addr → Prop} (w : ∀ a, ¬ p a → ¬ p' a) : ∀ {ds : List PyData} {vs : List V}, DtAll K p H ds vs → DtAll K p' H ds vs
  | [], vs, h => by unfold DtAll at h ⊢; exact h
  | d :: ds, vs, h => by
    unfold DtAll at h ⊢
    obtain ⟨v, r, e, h1, h2⟩ := h
    exact ⟨v, r, e, Dt.weak w h1, DtAll.weak w h2⟩
end
theorem DtAll.length : ∀ {ds : List PyData} {vs : List V}, DtAll K p H ds vs → vs.length = ds.length
  | [], vs, h => by unfold DtAll at h; rw [h]; rfl
  | d :: ds, vs, h => by
    unfold DtAll at h
    obtain ⟨v, r, rfl, _, h2⟩ := h
    rw [List.length_cons, List.length_cons, DtAll.length h2]
def isT : PyData → Bool
  | .tuple _ => true
  | _ => false
def isS : PyData → Bool
  | .str _ => true
  | _ => false
def isN : PyData → Bool
  | .int _ => true
  | _ => false
def isI : PyData → Bool
  | .int _ => true
  | .bool _ => true
  | _ => false
def isB : PyData → Bool
  | .bool _ => true
  | _ => false
theorem Dt.ty {d : PyData} {v : V} (h : Dt K p H d v) : ∃ t, TyQ K H v t ∧ PySem.W.kitOne K t (.type "tuple") = some (isT d) ∧ PySem.W.kitOne K t (.type "str") = some (isS d) ∧ PySem.W.kitOne K t (.type "int") = some (isI d) ∧ PySem.W.kitOne K t (.type "bool") = some (isB d) := by
  cases d with
  | none => unfold Dt at h; subst h; exact ⟨_, .inl .non, rfl, rfl, rfl, rfl⟩
  | bool b => unfold Dt at h; subst h; exact ⟨_, .inl (.bl b), rfl, rfl, rfl, rfl⟩
  | int i => unfold Dt at h; subst h; exact ⟨_, .inl (.int i), rfl, rfl, rfl, rfl⟩
  | str x => unfold Dt at h; subst h; exact ⟨_, .inl (.str x), rfl, rfl, rfl, rfl⟩
  | list ds => unfold Dt at h; obtain ⟨a, vs, rfl, _, h1, _⟩ := h; exact ⟨_, .inl (.lst h1), rfl, rfl, rfl, rfl⟩
  | tuple ds => unfold Dt at h; obtain ⟨a, vs, rfl, h1, _⟩ := h; exact ⟨_, .tup h1, rfl, rfl, rfl, rfl⟩
  | dict _ => unfold Dt at h; exact h.elim
def isHf (ws : List V) : PyData → Bool
  | .tuple [.str x] => decide (x = "gone")
  | .tuple [.str x, d] => inV (.str x) ws && isN d
  | _ => false
def isAc : PyData → Bool
  | .tuple [a, b] => isHf [.str "plus", .str "is"] a && isHf [.str "is"] b
  | _ => false
end
section
variable {P : Program} {w : World} {K : PySem.W.Frag} {mg : Str → Option Value} {base : Heap}
def spNumD (K : PySem.W.Frag) : Sp := fun vs H Q _ => ∃ v p d, vs = [v] ∧ Dt K p H d v ∧ Q (.bl (isN d)) H
def spHalfD (K : PySem.W.Frag) : Sp := fun vs H Q _ => ∃ v p d a ws, vs = [v, .ref a] ∧ Dt K p H d v ∧ tupQ K H a = some ws ∧ ws.all flatV = true ∧ ∀ H', Ext K H H' → Q (.bl (isHf ws d)) H'
def spActD (K : PySem.W.Frag) : Sp := fun vs H Q _ => ∃ v p d, vs = [v] ∧ Dt K p H d v ∧ ∀ H', Ext K H H' → Q (.bl (isAc d)) H'
theorem sc_is_number : FnScope ["thing"] ["thing"] (defScope s_is_number) := ⟨rfl, rfl, rfl, by decide +kernel, rfl, by decide +kernel, by decide +kernel⟩
theorem ok_is_number {f : Addr} {fd : FuncData} (F : Fun K "is_number" "is_number" s_is_number f fd) {aG cF cA cD cN cK cS : Addr} {tE : Tok} (B : B K mg aG tE cF cA cD cN cK cS) : FnOk P w K mg base CX0 1 f fd ["thing"] (spNumD K) := by
  refine F.okJ sc_is_number (fun vs H Q E h => ?_) (fun cdv A outer s H vs Q E hr h => ?_)
  · obtain ⟨x, p, d, rfl, _⟩ := h
    rfl
  obtain ⟨v, p, d, rfl, hd, q⟩ := h
  obtain ⟨t, ty, k1, k2, k3, k4⟩ := hd.ty
  refine ⟨_, (bone (sret (eand (ecallB call_isinstQ rfl B.isinstance bt_isinstance (acons (ev 0) (acons (etyp rfl B.int bt_int) anil))) (eone (enot (ecallB call_isinstQ rfl B.isinstance bt_isinstance (acons (ev 0) (acons (etyp rfl B.bool bt_bool) anil)))))))), ?_⟩
  try walk_at "rd"
  refine ⟨_, ty, _, k3, ?_⟩
  cases d <;> simp only [isI, isN, if_true, if_false, Bool.false_eq_true] at q ⊢
  all_goals first | exact q | exact ⟨_, ty, _, k4, q⟩
theorem sc_is_half : FnScope ["thing", "words"] ["thing", "words"] (defScope s_is_half) := ⟨rfl, rfl, rfl, by decide +kernel, rfl, by decide +kernel, by decide +kernel⟩
theorem ok_is_half {f : Addr} {fd : FuncData} (F : Fun K "is_half" "is_half" s_is_half f fd) {aG cF cA cD cN cK cS : Addr} {tE : Tok} (B : B K mg aG tE cF cA cD cN cK cS) (C_is_number : Callee P w K mg base "is_number" 1 ["thing"] (spNumD K)) : FnOk P w K mg base CX0 2 f fd ["thing", "words"] (spHalfD K) := by
  refine F.okJ sc_is_half (fun vs H Q E h => ?_) (fun cdv A outer s H vs Q E hr h => ?_)
  · obtain ⟨v, p, d, a, ws, rfl, _⟩ := h
    rfl
  obtain ⟨v, p, d, a, ws, rfl, hd, ha, hf, q⟩ := h
  obtain ⟨t, ty, k1, k2, k3, k4⟩ := hd.ty
  refine ⟨_, (bcons (sif (tw (wor (tnot (tval (ecallB call_isinstQ rfl B.isinstance bt_isinstance (acons (ev 0) (acons (etyp rfl B.tuple bt_tuple) anil))))) (wor (tcmp op_notInQ (ecallB call_lenQ rfl B.len bt_len (acons (ev 0) anil)) (etupQ (acons ei (acons ei anil))) (by with_unfolding_all rfl)) (wor1 (tnot (tval (ecallB call_isinstQ rfl B.isinstance bt_isinstance (acons (eix ix_Q (ev 0) ei (fun _ _ => rfl)) (acons (etyp rfl B.str bt_str) anil))))))))) (bone (sret ebl)) bnil)
      (bcons (sif (tcmp op_eq (ecallB call_lenQ rfl B.len bt_len (acons (ev 0) anil)) ei (nomark _)) (bone (sret (ecmp op_eq (eix ix_Q (ev 0) ei (fun _ _ => rfl)) estr (nomark _)))) bnil)
      (bone (sret (eand (ecmp op_inQ (eix ix_Q (ev 0) ei (fun _ _ => rfl)) (ev 1) (by with_unfolding_all rfl)) (eone (ecall C_is_number (hr.mono (by decide)) rfl (acons (eix ix_Q (ev 0) ei (fun _ _ => rfl)) anil)))))))), ?_⟩
  try walk_at "rn"
  refine ⟨_, ty, _, k1, ?_⟩
  cases d with
  | tuple ds =>
    unfold Dt at hd
    obtain ⟨r, us, rfl, hr1, hu⟩ := hd
    simp only [isT]
    simp only [tSeq, tNext, tIfS, tAsg, gName, gSub, tRet, tRetN, tDrop, tVar, tC, tOp, tUn, rI0, rI, rU, tTest, tB, tAndV, tOrV, tNotV, tAnd, tOr, tNot, tIf, tChain, tCB, tCons, tNil, tLst, tTup, tCallC, List.getElem?_cons_zero, List.getElem?_cons_succ, List.set_cons_zero, List.set_cons_succ, Option.some.injEq, V.int.injEq, V.bl.injEq, V.ref.injEq, V.ty.injEq, V.str.injEq, List.cons.injEq, exists_eq_left', exists_eq_left, exists_and_left, and_true, true_and, and_assoc, cxK, rIxF, rSetL, rEq, rNe, scal, HO.lst.injEq, HO.tup.injEq, upd_none, ixN_10, ixN_20, ixN_21, ixN_30, ixN_31, ixN_32, upd_same, seqAt_updL, seqAt_updT, atI_0, atI_1, atI_2, atI_3, decide_eq_true_eq, L2.start, List.map_cons, List.map_nil, List.length_cons, List.length_nil, Nat.reduceAdd, Nat.reduceSub, List.replicate_succ, List.replicate_zero, List.cons_append, List.nil_append, List.append_nil, tFor_rng1, tFor_rng2, tFor_list, tFor_tup, CDv, CMul, CPow, sizeLine_eq, Int.reduceLE, Int.reduceLT, Int.reducePow, Int.reduceToNat, Int.reduceAdd, Int.reduceSub, Int.reduceMul, Int.reduceNeg, Nat.reduceLeDiff, Nat.reducePow, Nat.reduceLT, Int.reduceEq, true_or, or_true, ite_true, ite_false, if_true, if_false, Bool.not_true, Bool.not_false, Bool.false_eq_true, decide_true, decide_false, rIxQ, seqQ_updL, seqQ_updT, tupQ_updT, tSl, tNoPart, tPart, rSlQ, rSlTX, rCatQ, rCatTX, rCatTX0, tTupQ, tLstQ, tNever, rEqD, rInQ, gTupQ, gCons, gNil, tBM, rAppend, rCountT, rIndexT, cxN, tCall, tRaise, tTry, tAsk, tWord, Ends.gone, pick_nil, pick_own, pick_cap, join_some, seqQ_T hr1]
    refine fun pp np => ⟨rfl, rfl, ?_⟩
    have x1 := Ext.new (K := K) (o := .tup [V.int 1, V.int 2]) np
    have e1 := seqQ_T (x1.tup hr1)
    have e2 := seqQ_T (x1.tup ha)
    replace q := q _ x1
    have hu := DtAll.move (fun _ _ e => x1.tup e) (fun _ _ _ e => x1.same _ _ e) hu
    generalize upd H pp (HO.tup [V.int 1, V.int 2]) = H1 at x1 e1 e2 q hu ⊢
    rcases ds with _ | ⟨d1, _ | ⟨d2, _ | ⟨d3, ds⟩⟩⟩
    · unfold DtAll at hu
      subst hu
      rw [if_pos (by decide +kernel)]
      exact q
    · simp only [DtAll] at hu
      obtain ⟨v1, _, rfl, h1, rfl⟩ := hu
      rw [if_neg (by simp only [List.length_cons, List.length_nil]; decide +kernel)]
      obtain ⟨t1, ty1, _, s1, _⟩ := h1.ty
      refine ⟨_, e1, _, rfl, _, ty1, _, s1, ?_⟩
      cases d1 with
      | str x =>
        unfold Dt at h1
        subst h1
        simp only [isS]
        simp only [tSeq, tNext, tIfS, tAsg, gName, gSub, tRet, tRetN, tDrop, tVar, tC, tOp, tUn, rI0, rI, rU, tTest, tB, tAndV, tOrV, tNotV, tAnd, tOr, tNot, tIf, tChain, tCB, tCons, tNil, tLst, tTup, tCallC, List.getElem?_cons_zero, List.getElem?_cons_succ, List.set_cons_zero, List.set_cons_succ, Option.some.injEq, V.int.injEq, V.bl.injEq, V.ref.injEq, V.ty.injEq, V.str.injEq, List.cons.injEq, exists_eq_left', exists_eq_left, exists_and_left, and_true, true_and, and_assoc, cxK, rIxF, rSetL, rEq, rNe, scal, HO.lst.injEq, HO.tup.injEq, upd_none, ixN_10, ixN_20, ixN_21, ixN_30, ixN_31, ixN_32, upd_same, seqAt_updL, seqAt_updT, atI_0, atI_1, atI_2, atI_3, decide_eq_true_eq, L2.start, List.map_cons, List.map_nil, List.length_cons, List.length_nil, Nat.reduceAdd, Nat.reduceSub, List.replicate_succ, List.replicate_zero, List.cons_append, List.nil_append, List.append_nil, tFor_rng1, tFor_rng2, tFor_list, tFor_tup, CDv, CMul, CPow, sizeLine_eq, Int.reduceLE, Int.reduceLT, Int.reducePow, Int.reduceToNat, Int.reduceAdd, Int.reduceSub, Int.reduceMul, Int.reduceNeg, Nat.reduceLeDiff, Nat.reducePow, Nat.reduceLT, Int.reduceEq, true_or, or_true, ite_true, ite_false, if_true, if_false, Bool.not_true, Bool.not_false, Bool.false_eq_true, decide_true, decide_false, rIxQ, seqQ_updL, seqQ_updT, tupQ_updT, tSl, tNoPart, tPart, rSlQ, rSlTX, rCatQ, rCatTX, rCatTX0, tTupQ, tLstQ, tNever, rEqD, rInQ, gTupQ, gCons, gNil, tBM, rAppend, rCountT, rIndexT, cxN, tCall, tRaise, tTry, tAsk, tWord, Ends.gone, pick_nil, pick_own, pick_cap, join_some, e1,  Int.cast_ofNat_Int]
        simp only [isHf] at q
        exact q
      | _ => exact q
    · simp only [DtAll] at hu
      obtain ⟨v1, _, rfl, h1, v2, _, rfl, h2, rfl⟩ := hu
      rw [if_neg (by simp only [List.length_cons, List.length_nil]; decide +kernel)]
      obtain ⟨t1, ty1, _, s1, _⟩ := h1.ty
      refine ⟨_, e1, _, rfl, _, ty1, _, s1, ?_⟩
      cases d1 with
      | str x =>
        unfold Dt at h1
        subst h1
        simp only [isS]
        simp only [tSeq, tNext, tIfS, tAsg, gName, gSub, tRet, tRetN, tDrop, tVar, tC, tOp, tUn, rI0, rI, rU, tTest, tB, tAndV, tOrV, tNotV, tAnd, tOr, tNot, tIf, tChain, tCB, tCons, tNil, tLst, tTup, tCallC, List.getElem?_cons_zero, List.getElem?_cons_succ, List.set_cons_zero, List.set_cons_succ, Option.some.injEq, V.int.injEq, V.bl.injEq, V.ref.injEq, V.ty.injEq, V.str.injEq, List.cons.injEq, exists_eq_left', exists_eq_left, exists_and_left, and_true, true_and, and_assoc, cxK, rIxF, rSetL, rEq, rNe, scal, HO.lst.injEq, HO.tup.injEq, upd_none, ixN_10, ixN_20, ixN_21, ixN_30, ixN_31, ixN_32, upd_same, seqAt_updL, seqAt_updT, atI_0, atI_1, atI_2, atI_3, decide_eq_true_eq, L2.start, List.map_cons, List.map_nil, List.length_cons, List.length_nil, Nat.reduceAdd, Nat.reduceSub, List.replicate_succ, List.replicate_zero, List.cons_append, List.nil_append, List.append_nil, tFor_rng1, tFor_rng2, tFor_list, tFor_tup, CDv, CMul, CPow, sizeLine_eq, Int.reduceLE, Int.reduceLT, Int.reducePow, Int.reduceToNat, Int.reduceAdd, Int.reduceSub, Int.reduceMul, Int.reduceNeg, Nat.reduceLeDiff, Nat.reducePow, Nat.reduceLT, Int.reduceEq, true_or, or_true, ite_true, ite_false, if_true, if_false, Bool.not_true, Bool.not_false, Bool.false_eq_true, decide_true, decide_false, rIxQ, seqQ_updL, seqQ_updT, tupQ_updT, tSl, tNoPart, tPart, rSlQ, rSlTX, rCatQ, rCatTX, rCatTX0, tTupQ, tLstQ, tNever, rEqD, rInQ, gTupQ, gCons, gNil, tBM, rAppend, rCountT, rIndexT, cxN, tCall, tRaise, tTry, tAsk, tWord, Ends.gone, pick_nil, pick_own, pick_cap, join_some, e1,  e2,  Int.cast_ofNat_Int]
        refine ⟨rfl, hf, ?_⟩
        simp only [isHf] at q
        split
        · rename_i hi
          rw [hi, Bool.true_and] at q
          exact ⟨_, p, d2, rfl, h2, q⟩
        · rename_i hi
          rw [Bool.not_eq_true] at hi
          rw [hi, Bool.false_and] at q
          exact q
      | _ => exact q
    · have hl := hu.length
      rw [if_pos ?_]
      · cases d1 <;> exact q
      · rw [hl]
        simp only [inV, List.any_cons, List.any_nil, eqV, List.length_cons, Bool.or_false, Bool.not_eq_true', Bool.or_eq_false_iff]
        constructor <;> (simp only [beq_eq_false_iff_ne, ne_eq]; omega)
  | _ => exact q _ Ext.refl
theorem sc_is_action : FnScope ["thing", "there", "none"] ["thing"] (defScope s_is_action) := ⟨rfl, rfl, rfl, by decide +kernel, rfl, by decide +kernel, by decide +kernel⟩
theorem ok_is_action {f : Addr} {fd : FuncData} (F : Fun K "is_action" "is_action" s_is_action f fd) {aG cF cA cD cN cK cS : Addr} {tE : Tok} (B : B K mg aG tE cF cA cD cN cK cS) (C_is_half : Callee P w K mg base "is_half" 2 ["thing", "words"] (spHalfD K)) : FnOk P w K mg base CX0 3 f fd ["thing"] (spActD K) := by
  refine F.okJ sc_is_action (fun vs H Q E h => ?_) (fun cdv A outer s H vs Q E hr h => ?_)
  · obtain ⟨v, p, d, rfl, _⟩ := h
    rfl
  obtain ⟨v, p, d, rfl, hd, q⟩ := h
  obtain ⟨t, ty, k1, k2, k3, k4⟩ := hd.ty
  refine ⟨_, (bcons (sif (tw (wor (tnot (tval (ecallB call_isinstQ rfl B.isinstance bt_isinstance (acons (ev 0) (acons (etyp rfl B.tuple bt_tuple) anil))))) (wor1 (tcmp op_ne (ecallB call_lenQ rfl B.len bt_len (acons (ev 0) anil)) ei (nomark _))))) (bone (sret ebl)) bnil)
      (bcons (sasg (ev 0) (gtupQ (n := 2) rfl (gcons (gname (i := 1) sc_is_action.nd rfl (Or.inl rfl)) (gcons (gname (i := 2) sc_is_action.nd rfl (Or.inl rfl)) gnil))))
      (bone (sret (eand (ecall C_is_half (hr.mono (by decide)) rfl (acons (ev 1) (acons (etupQ (acons estr (acons estr anil))) anil))) (eone (ecall C_is_half (hr.mono (by decide)) rfl (acons (ev 2) (acons (etupQ (acons estr anil)) anil))))))))), ?_⟩
  try walk_at "rn"
  refine ⟨_, ty, _, k1, ?_⟩
  cases d with
  | tuple ds =>
    unfold Dt at hd
    obtain ⟨r, us, rfl, hr1, hu⟩ := hd
    simp only [isT]
    simp only [tSeq, tNext, tIfS, tAsg, gName, gSub, tRet, tRetN, tDrop, tVar, tC, tOp, tUn, rI0, rI, rU, tTest, tB, tAndV, tOrV, tNotV, tAnd, tOr, tNot, tIf, tChain, tCB, tCons, tNil, tLst, tTup, tCallC, List.getElem?_cons_zero, List.getElem?_cons_succ, List.set_cons_zero, List.set_cons_succ, Option.some.injEq, V.int.injEq, V.bl.injEq, V.ref.injEq, V.ty.injEq, V.str.injEq, List.cons.injEq, exists_eq_left', exists_eq_left, exists_and_left, and_true, true_and, and_assoc, cxK, rIxF, rSetL, rEq, rNe, scal, HO.lst.injEq, HO.tup.injEq, upd_none, ixN_10, ixN_20, ixN_21, ixN_30, ixN_31, ixN_32, upd_same, seqAt_updL, seqAt_updT, atI_0, atI_1, atI_2, atI_3, decide_eq_true_eq, L2.start, List.map_cons, List.map_nil, List.length_cons, List.length_nil, Nat.reduceAdd, Nat.reduceSub, List.replicate_succ, List.replicate_zero, List.cons_append, List.nil_append, List.append_nil, tFor_rng1, tFor_rng2, tFor_list, tFor_tup, CDv, CMul, CPow, sizeLine_eq, Int.reduceLE, Int.reduceLT, Int.reducePow, Int.reduceToNat, Int.reduceAdd, Int.reduceSub, Int.reduceMul, Int.reduceNeg, Nat.reduceLeDiff, Nat.reducePow, Nat.reduceLT, Int.reduceEq, true_or, or_true, ite_true, ite_false, if_true, if_false, Bool.not_true, Bool.not_false, Bool.false_eq_true, decide_true, decide_false, rIxQ, seqQ_updL, seqQ_updT, tupQ_updT, tSl, tNoPart, tPart, rSlQ, rSlTX, rCatQ, rCatTX, rCatTX0, tTupQ, tLstQ, tNever, rEqD, rInQ, gTupQ, gCons, gNil, tBM, rAppend, rCountT, rIndexT, cxN, tCall, tRaise, tTry, tAsk, tWord, Ends.gone, pick_nil, pick_own, pick_cap, join_some, seqQ_T hr1,  hr1]
    rcases ds with _ | ⟨d1, _ | ⟨d2, _ | ⟨d3, ds⟩⟩⟩
    · unfold DtAll at hu
      subst hu
      exact q _ Ext.refl
    · simp only [DtAll] at hu
      obtain ⟨v1, _, rfl, h1, rfl⟩ := hu
      exact q _ Ext.refl
    · simp only [DtAll] at hu
      obtain ⟨v1, _, rfl, h1, v2, _, rfl, h2, rfl⟩ := hu
      rw [if_neg (by simp)]
      refine ⟨rfl, _, _, rfl, _, _, rfl, rfl, fun p1 n1 => ?_⟩
      have x1 := Ext.new (K := K) (o := .tup [.str "plus", .str "is"]) n1
      refine ⟨v1, p, d1, p1, _, rfl, h1.ext x1, tupQ_updT, rfl, fun H1 y1 => ⟨_, rfl, ?_⟩⟩
      split
      · rename_i hi
        intro p2 n2
        have x2 := Ext.new (K := K) (o := .tup [.str "is"]) n2
        have x3 := x1.trans (y1.trans x2)
        refine ⟨v2, p, d2, p2, _, rfl, h2.ext x3, tupQ_updT, rfl, fun H2 y2 => ?_⟩
        have := q H2 (x3.trans y2)
        simp only [isAc, hi, Bool.true_and] at this
        exact this
      · rename_i hi
        rw [Bool.not_eq_true] at hi
        have := q H1 (x1.trans y1)
        simp only [isAc, hi, Bool.false_and] at this
        exact this
    · have hl := hu.length
      rw [if_pos ?_]
      · exact q _ Ext.refl
      · rw [hl]
        simp only [List.length_cons, Bool.not_eq_true', decide_eq_false_iff_not]
        omega
  | _ => exact q _ Ext.refl
def Half.hd : Half → PyData
  | .plus n => .tuple [.str "plus", .int n]
  | .is n => .tuple [.str "is", .int n]
  | .gone => .tuple [.str "gone"]
theorem Half.is_hd {K : PySem.W.Frag} {H : Hp} {r : Addr} {h : Half} (e : tupQ K H r = some h.v) : Is K H h.hd (.ref r) := by
  cases h with
  | plus n => simp only [Half.hd, Is, IsAll]; exact ⟨r, _, rfl, tupQ_sq e, _, _, rfl, rfl, _, _, rfl, rfl, rfl⟩
  | is n => simp only [Half.hd, Is, IsAll]; exact ⟨r, _, rfl, tupQ_sq e, _, _, rfl, rfl, _, _, rfl, rfl, rfl⟩
  | gone => simp only [Half.hd, Is, IsAll]; exact ⟨r, _, rfl, tupQ_sq e, _, _, rfl, rfl, rfl⟩
theorem Half.shaped (h : Half) : SeqAt.shaped h.hd = true := by
  cases h <;> simp only [SeqAt.shaped, Half.hd, PyData.canLay0, PyData.canLayAll0, PyData.depth, PyData.depthAll] <;> decide +kernel
theorem Half.eqv_gone (h : Half) : PyData.eqv h.hd Half.gone.hd = (match h with | .gone => true | _ => false) := by
  cases h <;> simp only [Half.hd, PyData.eqv, PyData.eqvAll] <;> decide +kernel
theorem eqV_str {x y : Str} : eqV (.str x) (.str y) = true → x = y := by
  intro h
  simp only [eqV] at h
  exact eq_of_beq h
theorem isHf_plus {d : PyData} (h : isHf [.str "plus", .str "is"] d = true) : ∃ k : Half, d = k.hd := by
  unfold isHf at h
  split at h
  · exact ⟨.gone, by rw [of_decide_eq_true h]; rfl⟩
  · rename_i x d
    rw [Bool.and_eq_true] at h
    obtain ⟨h1, h2⟩ := h
    cases d <;> simp only [isN, Bool.false_eq_true] at h2
    rename_i n
    simp only [inV, List.any_cons, List.any_nil, Bool.or_false, Bool.or_eq_true] at h1
    rcases h1 with h1 | h1
    · exact ⟨.plus n, by rw [← eqV_str h1]; rfl⟩
    · exact ⟨.is n, by rw [← eqV_str h1]; rfl⟩
  · cases h
theorem isHf_is {d : PyData} (h : isHf [.str "is"] d = true) : ∃ k : Half, d = k.hd ∧ k.noPlus := by
  unfold isHf at h
  split at h
  · exact ⟨.gone, by rw [of_decide_eq_true h]; rfl, trivial⟩
  · rename_i x d
    rw [Bool.and_eq_true] at h
    obtain ⟨h1, h2⟩ := h
    cases d <;> simp only [isN, Bool.false_eq_true] at h2
    rename_i n
    simp only [inV, List.any_cons, List.any_nil, Bool.or_false] at h1
    exact ⟨.is n, by rw [← eqV_str h1]; rfl, trivial⟩
  · cases h
theorem Dt.half {p : Addr → Prop} {H : Hp} {v : V} {h : Half} (x : Dt K p H h.hd v) : ∃ r, v = .ref r ∧ tupQ K H r = some h.v := by
  cases h <;> (
    simp only [Half.hd, Dt, DtAll] at x
    first
      | (obtain ⟨r, _, rfl, e, _, _, rfl, rfl, _, _, rfl, rfl, rfl⟩ := x; exact ⟨r, rfl, e⟩)
      | (obtain ⟨r, _, rfl, e, _, _, rfl, rfl, rfl⟩ := x; exact ⟨r, rfl, e⟩))
def isW (lo hi : Int) : PyData → Bool
  | .int i => decide (lo ≤ i ∧ i ≤ hi)
  | _ => false
def isF (lo : Int) : PyData → Bool
  | .int i => decide (lo ≤ i)
  | _ => false
def isSt : PyData → PyData → Bool
  | .int i, .int j => decide (0 ≤ i ∧ i < j ∧ j ≤ 1000000000000)
  | _, _ => false
def gn : PyData := .tuple [.str "gone"]
def sec : PyData → PyData
  | .tuple [_, b] => b
  | _ => .none
def dif : PyData → PyData → Bool
  | .int i, .int j => decide (j - i = 1)
  | _, _ => false
def isNt : PyData → Bool
  | .tuple [n, l, h, a] => isF 1 n && isSt l h && isAc a && (dif l h || PyData.eqv (sec a) gn)
  | _ => false
def Nt.nd (e : Nt) : PyData := .tuple [.int e.n, .int e.lo, .int e.hi, .tuple [e.t.hd, e.m.hd]]
theorem hd_gone (h : Half) : PyData.eqv h.hd gn = true ↔ h = .gone := by
  rw [show gn = Half.gone.hd from rfl, Half.eqv_gone]
  cases h <;> simp
theorem isAc_of {a : PyData} (h : isAc a = true) : ∃ t m : Half, a = .tuple [t.hd, m.hd] ∧ m.noPlus := by
  unfold isAc at h
  split at h
  · rw [Bool.and_eq_true] at h
    obtain ⟨t, rfl⟩ := isHf_plus h.1
    obtain ⟨m, rfl, np⟩ := isHf_is h.2
    exact ⟨t, m, rfl, np⟩
  · cases h
theorem isAc_hd (t m : Half) (np : m.noPlus) : isAc (.tuple [t.hd, m.hd]) = true := by
  cases m with
  | plus k => exact np.elim
  | is k => cases t <;> simp only [isAc, Half.hd, isHf, isN, Bool.and_true] <;> decide +kernel
  | gone => cases t <;> simp only [isAc, Half.hd, isHf, isN, Bool.and_true] <;> decide +kernel
theorem isNt_of {d : PyData} (h : isNt d = true) : ∃ e : Nt, e.ok ∧ d = e.nd := by
  unfold isNt at h
  split at h
  · rename_i n l hh a
    simp only [Bool.and_eq_true] at h
    obtain ⟨⟨⟨h1, h2⟩, h3⟩, h4⟩ := h
    cases n <;> simp only [isF, Bool.false_eq_true] at h1
    cases l <;> simp only [isSt, Bool.false_eq_true] at h2
    cases hh <;> simp only [isSt, Bool.false_eq_true] at h2
    rename_i n i j
    obtain ⟨t, m, rfl, np⟩ := isAc_of h3
    have h1 := of_decide_eq_true h1
    have h2 := of_decide_eq_true h2
    refine ⟨⟨n, i, j, t, m⟩, ⟨h1, h2.1, h2.2.1, h2.2.2, ?_, np⟩, rfl⟩
    rw [Bool.or_eq_true] at h4
    rcases h4 with h4 | h4
    · exact .inl (of_decide_eq_true h4)
    · exact .inr ((hd_gone m).mp h4)
  · cases h
theorem isNt_nd {e : Nt} (h : e.ok) : isNt e.nd = true := by
  unfold isNt Nt.nd
  simp only [Bool.and_eq_true, isF, isSt, sec, dif]
  refine ⟨⟨⟨decide_eq_true h.n1, decide_eq_true ⟨h.lo0, h.lt, h.hi1⟩⟩, isAc_hd _ _ h.np⟩, ?_⟩
  rw [Bool.or_eq_true]
  rcases h.one with z | z
  · exact .inl (decide_eq_true z)
  · exact .inr ((hd_gone e.m).mpr z)
theorem Dt.ofHalf {S : Addr → Prop} {H : Hp} {r : Addr} {h : Half} (e : tupQ K H r = some h.v) : Dt K S H h.hd (.ref r) := by
  cases h with
  | plus n => simp only [Half.hd, Dt, DtAll]; exact ⟨r, _, rfl, e, _, _, rfl, rfl, _, _, rfl, rfl, rfl⟩
  | is n => simp only [Half.hd, Dt, DtAll]; exact ⟨r, _, rfl, e, _, _, rfl, rfl, _, _, rfl, rfl, rfl⟩
  | gone => simp only [Half.hd, Dt, DtAll]; exact ⟨r, _, rfl, e, _, _, rfl, rfl, rfl⟩
theorem NoteAt.dt {S : Addr → Prop} {H : Hp} {v : V} {e : Nt} (h : NoteAt K H v e) : Dt K S H e.nd v := by
  obtain ⟨a, w, rfl, h1, b, r, s, rfl, e1, e2, e3, _⟩ := h
  have g1 := Dt.ofHalf (S := S) e2
  have g2 := Dt.ofHalf (S := S) e3
  simp only [Nt.nd, Dt, DtAll]
  exact ⟨a, _, rfl, h1, _, _, rfl, rfl, _, _, rfl, rfl, _, _, rfl, rfl, _, _, rfl, ⟨b, _, rfl, e1, _, _, rfl, g1, _, _, rfl, g2, rfl⟩, rfl⟩
theorem Dt.note {S : Addr → Prop} {H : Hp} {v : V} {e : Nt} (h : Dt K S H e.nd v) (np : e.m.noPlus) : NoteAt K H v e := by
  simp only [Nt.nd, Dt, DtAll] at h
  obtain ⟨a, _, rfl, h1, _, _, rfl, rfl, _, _, rfl, rfl, _, _, rfl, rfl, _, _, rfl, ⟨b, _, rfl, e1, _, _, rfl, g1, _, _, rfl, g2, rfl⟩, rfl⟩ := h
  obtain ⟨r1, rfl, e2⟩ := g1.half
  obtain ⟨r2, rfl, e3⟩ := g2.half
  exact ⟨a, _, rfl, h1, b, r1, r2, rfl, e1, e2, e3, np⟩
theorem shaped_mem {ds : List PyData} {d : PyData} (h : SeqAt.shaped (.tuple ds) = true) (m : d ∈ ds) : SeqAt.shaped d = true := by
  simp only [SeqAt.shaped, PyData.canLay0, PyData.depth, Bool.and_eq_true] at h ⊢
  obtain ⟨h1, h2⟩ := h
  have h2 := of_decide_eq_true h2
  have key : ∀ ds : List PyData, PyData.canLayAll0 ds = true → d ∈ ds → PyData.canLay0 d = true ∧ PyData.depth d ≤ PyData.depthAll ds := by
    intro ds
    induction ds with
    | nil => exact fun _ m => nomatch m
    | cons x xs ih =>
      intro h1 m
      simp only [PyData.canLayAll0, Bool.and_eq_true] at h1
      simp only [PyData.depthAll]
      rcases List.mem_cons.mp m with rfl | m
      · exact ⟨h1.1, Nat.le_max_left _ _⟩
      · obtain ⟨a, b⟩ := ih h1.2 m
        exact ⟨a, Nat.le_trans b (Nat.le_max_right _ _)⟩
  have this := key ds h1 m
  exact ⟨this.1, decide_eq_true (by omega)⟩
def spWholeD (K : PySem.W.Frag) : Sp := fun vs H Q _ => ∃ v S d lo hi, vs = [v, .int lo, .int hi] ∧ Dt K S H d v ∧ Q (.bl (isW lo hi d)) H
def spFromD (K : PySem.W.Frag) : Sp := fun vs H Q _ => ∃ v S d lo, vs = [v, .int lo] ∧ Dt K S H d v ∧ Q (.bl (isF lo d)) H
def spIsKeyD (K : PySem.W.Frag) : Sp := fun vs H Q _ => ∃ v S d, vs = [v] ∧ Dt K S H d v ∧ Q (.bl (isW 0 999999999999 d)) H
def spIsStD (K : PySem.W.Frag) : Sp := fun vs H Q _ => ∃ v S d v' S' d', vs = [v, v'] ∧ Dt K S H d v ∧ Dt K S' H d' v' ∧ Q (.bl (isSt d d')) H
def spCKeyD (K : PySem.W.Frag) (cK : Addr) : Sp := fun vs H Q E => ∃ v S d, vs = [v] ∧ Dt K S H d v ∧ if isW 0 999999999999 d = true then Q .non H else E (.ref cK) none H
def spCStD (K : PySem.W.Frag) (cS : Addr) : Sp := fun vs H Q E => ∃ v S d v' S' d', vs = [v, v'] ∧ Dt K S H d v ∧ Dt K S' H d' v' ∧ if isSt d d' = true then Q .non H else E (.ref cS) none H
def spIsNtD (K : PySem.W.Frag) : Sp := fun vs H Q _ => ∃ v S d, vs = [v] ∧ Dt K S H d v ∧ SeqAt.shaped d = true ∧ ∀ H', Ext K H H' → Q (.bl (isNt d)) H'
def spCNtD (K : PySem.W.Frag) (cN : Addr) : Sp := fun vs H Q E => ∃ v S d, vs = [v] ∧ Dt K S H d v ∧ SeqAt.shaped d = true ∧ ∀ H', Ext K H H' → if isNt d = true then Q .non H' else E (.ref cN) none H'
theorem isW_int {lo hi : Int} {d : PyData} (h : isW lo hi d = true) : ∃ i, d = .int i ∧ lo ≤ i ∧ i ≤ hi := by
  cases d <;> simp only [isW, Bool.false_eq_true] at h
  have := of_decide_eq_true h
  exact ⟨_, rfl, this.1, this.2⟩
theorem sc_is_whole : FnScope ["thing", "low", "high"] ["thing", "low", "high"] (defScope s_is_whole) := ⟨rfl, rfl, rfl, by decide +kernel, rfl, by decide +kernel, by decide +kernel⟩
theorem ok_is_whole {f : Addr} {fd : FuncData} (F : Fun K "is_whole" "is_whole" s_is_whole f fd) {aG cF cA cD cN cK cS : Addr} {tE : Tok} (B : B K mg aG tE cF cA cD cN cK cS) (C_is_number : Callee P w K mg base "is_number" 1 ["thing"] (spNumD K)) : FnOk P w K mg base CX0 2 f fd ["thing", "low", "high"] (spWholeD K) := by
  refine F.okJ sc_is_whole (fun vs H Q E h => ?_) (fun cdv A outer s H vs Q E hr h => ?_)
  · obtain ⟨v, S, d, lo, hi, rfl, _⟩ := h
    rfl
  obtain ⟨v, S, d, lo, hi, rfl, hd, q⟩ := h
  refine ⟨_, (bone (sret (eand (ecall C_is_number (hr.mono (by decide)) rfl (acons (ev 0) anil)) (eone (echain op_le op_le (ev 1) (ev 0) (ev 2)))))), ?_⟩
  try walk_at "rn"
  refine ⟨v, S, d, rfl, hd, _, rfl, ?_⟩
  cases d <;> simp only [isN, isW, if_true, if_false, Bool.false_eq_true] at q ⊢ <;> try exact q
  unfold Dt at hd
  subst hd
  refine ⟨_, rfl, ?_⟩
  split
  · rename_i h1
    refine ⟨_, rfl, ?_⟩
    simp only [h1, true_and] at q
    exact q
  · rename_i h1
    simp only [h1, false_and, decide_false] at q
    exact q
theorem sc_is_whole_from : FnScope ["thing", "low"] ["thing", "low"] (defScope s_is_whole_from) := ⟨rfl, rfl, rfl, by decide +kernel, rfl, by decide +kernel, by decide +kernel⟩
theorem ok_is_whole_from {f : Addr} {fd : FuncData} (F : Fun K "is_whole_from" "is_whole_from" s_is_whole_from f fd) {aG cF cA cD cN cK cS : Addr} {tE : Tok} (B : B K mg aG tE cF cA cD cN cK cS) (C_is_number : Callee P w K mg base "is_number" 1 ["thing"] (spNumD K)) : FnOk P w K mg base CX0 2 f fd ["thing", "low"] (spFromD K) := by
  refine F.okJ sc_is_whole_from (fun vs H Q E h => ?_) (fun cdv A outer s H vs Q E hr h => ?_)
  · obtain ⟨v, S, d, lo, rfl, _⟩ := h
    rfl
  obtain ⟨v, S, d, lo, rfl, hd, q⟩ := h
  refine ⟨_, (bone (sret (eand (ecall C_is_number (hr.mono (by decide)) rfl (acons (ev 0) anil)) (eone (ecmp op_le (ev 1) (ev 0) (nomark _)))))), ?_⟩
  try walk_at "rn"
  refine ⟨v, S, d, rfl, hd, _, rfl, ?_⟩
  cases d <;> simp only [isN, isF, if_true, if_false, Bool.false_eq_true] at q ⊢ <;> try exact q
  unfold Dt at hd
  subst hd
  exact ⟨_, rfl, q⟩
theorem sc_is_key : FnScope ["thing"] ["thing"] (defScope s_is_key) := ⟨rfl, rfl, rfl, by decide +kernel, rfl, by decide +kernel, by decide +kernel⟩
theorem ok_is_key {f : Addr} {fd : FuncData} (F : Fun K "is_key" "is_key" s_is_key f fd) {aG cF cA cD cN cK cS : Addr} {tE : Tok} (B : B K mg aG tE cF cA cD cN cK cS) (C_is_whole : Callee P w K mg base "is_whole" 2 ["thing", "low", "high"] (spWholeD K)) : FnOk P w K mg base CX0 3 f fd ["thing"] (spIsKeyD K) := by
  refine F.okJ sc_is_key (fun vs H Q E h => ?_) (fun cdv A outer s H vs Q E hr h => ?_)
  · obtain ⟨v, S, d, rfl, _⟩ := h
    rfl
  obtain ⟨v, S, d, rfl, hd, q⟩ := h
  refine ⟨_, (bone (sret (ecall C_is_whole (hr.mono (by decide)) rfl (acons (ev 0) (acons ei (acons (eop op_sub (eglob rfl B.END B.END_is) ei) anil)))))), ?_⟩
  try walk_at "rn"
  exact ⟨v, S, d, 0, 999999999999, rfl, hd, q⟩
theorem sc_is_stretch : FnScope ["low", "high"] ["low", "high"] (defScope s_is_stretch) := ⟨rfl, rfl, rfl, by decide +kernel, rfl, by decide +kernel, by decide +kernel⟩
theorem ok_is_stretch {f : Addr} {fd : FuncData} (F : Fun K "is_stretch" "is_stretch" s_is_stretch f fd) {aG cF cA cD cN cK cS : Addr} {tE : Tok} (B : B K mg aG tE cF cA cD cN cK cS) (C_is_whole : Callee P w K mg base "is_whole" 2 ["thing", "low", "high"] (spWholeD K)) : FnOk P w K mg base CX0 3 f fd ["low", "high"] (spIsStD K) := by
  refine F.okJ sc_is_stretch (fun vs H Q E h => ?_) (fun cdv A outer s H vs Q E hr h => ?_)
  · obtain ⟨v, S, d, v', S', d', rfl, _⟩ := h
    rfl
  obtain ⟨v, S, d, v', S', d', rfl, hd, hd', q⟩ := h
  refine ⟨_, (bone (sret (eand (ecall C_is_whole (hr.mono (by decide)) rfl (acons (ev 0) (acons ei (acons (eglob rfl B.END B.END_is) anil)))) (eand (ecall C_is_whole (hr.mono (by decide)) rfl (acons (ev 1) (acons ei (acons (eglob rfl B.END B.END_is) anil)))) (eone (ecmp op_lt (ev 0) (ev 1) (nomark _))))))), ?_⟩
  try walk_at "rn"
  refine ⟨v, S, d, 0, 1000000000000, rfl, hd, _, rfl, ?_⟩
  split
  · rename_i h1
    refine ⟨v', S', d', 0, 1000000000000, rfl, hd', _, rfl, ?_⟩
    obtain ⟨i, rfl, i1, i2⟩ := isW_int h1
    unfold Dt at hd
    subst hd
    split
    · rename_i h2
      obtain ⟨j, rfl, j1, j2⟩ := isW_int h2
      unfold Dt at hd'
      subst hd'
      refine ⟨_, rfl, _, rfl, ?_⟩
      simp only [isSt] at q
      have : decide (0 ≤ i ∧ i < j ∧ j ≤ 1000000000000) = decide (i < j) := decide_eq_decide.mpr ⟨fun z => z.2.1, fun z => ⟨i1, z, j2⟩⟩
      rw [this] at q
      exact q
    · rename_i h2
      have : isSt (.int i) d' = false := by
        cases d' <;> simp only [isSt, isW] at h2 ⊢
        refine decide_eq_false fun z => h2 (decide_eq_true ⟨?_, z.2.2⟩)
        omega
      rw [this] at q
      exact q
  · rename_i h1
    have : isSt d d' = false := by
      cases d <;> simp only [isSt, isW] at h1 ⊢
      cases d' <;> simp only [isSt]
      refine decide_eq_false fun z => h1 (decide_eq_true ⟨z.1, ?_⟩)
      omega
    rw [this] at q
    exact q
theorem sc_check_key : FnScope ["thing"] ["thing"] (defScope s_check_key) := ⟨rfl, rfl, rfl, by decide +kernel, rfl, by decide +kernel, by decide +kernel⟩
theorem ok_check_key {f : Addr} {fd : FuncData} (F : Fun K "check_key" "check_key" s_check_key f fd) {aG cF cA cD cN cK cS : Addr} {tE : Tok} (B : B K mg aG tE cF cA cD cN cK cS) (C_is_key : Callee P w K mg base "is_key" 3 ["thing"] (spIsKeyD K)) : FnOk P w K mg base (CXO P w) 4 f fd ["thing"] (spCKeyD K cK) := by
  refine F.okX sc_check_key (fun vs H Q E h => ?_) (fun cdv A outer s H vs Q E hr h => ?_)
  · obtain ⟨v, S, d, rfl, _⟩ := h
    rfl
  obtain ⟨v, S, d, rfl, hd, q⟩ := h
  refine ⟨_, (bone (sif (tnot (tval (ecall C_is_key (hr.mono (by decide)) rfl (acons (ev 0) anil)))) (bone (sraise B.x_NoKey B.NoKey hr.hd rfl)) bnil)), ?_⟩
  try walk_at "rn"
  refine ⟨v, S, d, rfl, hd, _, rfl, ?_⟩
  cases h1 : isW 0 999999999999 d <;> rw [h1] at q <;> exact q
theorem sc_check_stretch : FnScope ["low", "high"] ["low", "high"] (defScope s_check_stretch) := ⟨rfl, rfl, rfl, by decide +kernel, rfl, by decide +kernel, by decide +kernel⟩
theorem ok_check_stretch {f : Addr} {fd : FuncData} (F : Fun K "check_stretch" "check_stretch" s_check_stretch f fd) {aG cF cA cD cN cK cS : Addr} {tE : Tok} (B : B K mg aG tE cF cA cD cN cK cS) (C_is_stretch : Callee P w K mg base "is_stretch" 3 ["low", "high"] (spIsStD K)) : FnOk P w K mg base (CXO P w) 4 f fd ["low", "high"] (spCStD K cS) := by
  refine F.okX sc_check_stretch (fun vs H Q E h => ?_) (fun cdv A outer s H vs Q E hr h => ?_)
  · obtain ⟨v, S, d, v', S', d', rfl, _⟩ := h
    rfl
  obtain ⟨v, S, d, v', S', d', rfl, hd, hd', q⟩ := h
  refine ⟨_, (bone (sif (tnot (tval (ecall C_is_stretch (hr.mono (by decide)) rfl (acons (ev 0) (acons (ev 1) anil))))) (bone (sraise B.x_NoStretch B.NoStretch hr.hd rfl)) bnil)), ?_⟩
  try walk_at "rn"
  refine ⟨v, S, d, v', S', d', rfl, hd, hd', _, rfl, ?_⟩
  cases h1 : isSt d d' <;> rw [h1] at q <;> exact q
theorem sc_is_note : FnScope ["thing", "number", "low", "high", "action"] ["thing"] (defScope s_is_note) := ⟨rfl, rfl, rfl, by decide +kernel, rfl, by decide +kernel, by decide +kernel⟩
theorem ok_is_note {f : Addr} {fd : FuncData} (F : Fun K "is_note" "is_note" s_is_note f fd) {aG cF cA cD cN cK cS : Addr} {tE : Tok} (B : B K mg aG tE cF cA cD cN cK cS) (C_is_whole_from : Callee P w K mg base "is_whole_from" 2 ["thing", "low"] (spFromD K)) (C_is_stretch : Callee P w K mg base "is_stretch" 3 ["low", "high"] (spIsStD K)) (C_is_action : Callee P w K mg base "is_action" 3 ["thing"] (spActD K)) : FnOk P w K mg base CX0 4 f fd ["thing"] (spIsNtD K) := by
  refine F.okM sc_is_note (fun vs H Q E h => ?_) (fun cdv A outer s H vs Q E hr hm h => ?_)
  · obtain ⟨v, S, d, rfl, _⟩ := h
    rfl
  obtain ⟨v, S, d, rfl, hd, sh, q⟩ := h
  obtain ⟨t, ty, k1, _⟩ := hd.ty
  refine ⟨_, (bcons (sif (tw (wor (tnot (tval (ecallB call_isinstQ rfl B.isinstance bt_isinstance (acons (ev 0) (acons (etyp rfl B.tuple bt_tuple) anil))))) (wor1 (tcmp op_ne (ecallB call_lenQ rfl B.len bt_len (acons (ev 0) anil)) ei (nomark _))))) (bone (sret ebl)) bnil)
      (bcons (sasg (ev 0) (gtupQ (n := 4) rfl (gcons (gname (i := 1) sc_is_note.nd rfl (Or.inl rfl)) (gcons (gname (i := 2) sc_is_note.nd rfl (Or.inl rfl)) (gcons (gname (i := 3) sc_is_note.nd rfl (Or.inl rfl)) (gcons (gname (i := 4) sc_is_note.nd rfl (Or.inl rfl)) gnil))))))
      (bcons (sif (tw (wor (tnot (tval (ecall C_is_whole_from (hr.mono (by decide)) rfl (acons (ev 1) (acons ei anil))))) (wor (tnot (tval (ecall C_is_stretch (hr.mono (by decide)) rfl (acons (ev 2) (acons (ev 3) anil))))) (wor1 (tnot (tval (ecall C_is_action (hr.mono (by decide)) rfl (acons (ev 4) anil)))))))) (bone (sret ebl)) bnil)
      (bone (sret (eor (ecmp op_eq (eop op_sub (ev 3) (ev 2)) ei (nomark _)) (eone (ecmp (op_eqD hr.units) (eix ix_Q (ev 4) ei (fun _ _ => rfl)) (eglob rfl B.GONE B.GONE_is) (nomark _))))))))), ?_⟩
  try walk_at "rn"
  refine ⟨_, ty, _, k1, ?_⟩
  cases d with
  | tuple ds =>
    unfold Dt at hd
    obtain ⟨r, us, rfl, hr1, hu⟩ := hd
    simp only [isT]
    simp only [tSeq, tNext, tIfS, tAsg, gName, gSub, tRet, tRetN, tDrop, tVar, tC, tOp, tUn, rI0, rI, rU, tTest, tB, tAndV, tOrV, tNotV, tAnd, tOr, tNot, tIf, tChain, tCB, tCons, tNil, tLst, tTup, tCallC, List.getElem?_cons_zero, List.getElem?_cons_succ, List.set_cons_zero, List.set_cons_succ, Option.some.injEq, V.int.injEq, V.bl.injEq, V.ref.injEq, V.ty.injEq, V.str.injEq, List.cons.injEq, exists_eq_left', exists_eq_left, exists_and_left, and_true, true_and, and_assoc, cxK, rIxF, rSetL, rEq, rNe, scal, HO.lst.injEq, HO.tup.injEq, upd_none, ixN_10, ixN_20, ixN_21, ixN_30, ixN_31, ixN_32, upd_same, seqAt_updL, seqAt_updT, atI_0, atI_1, atI_2, atI_3, decide_eq_true_eq, L2.start, List.map_cons, List.map_nil, List.length_cons, List.length_nil, Nat.reduceAdd, Nat.reduceSub, List.replicate_succ, List.replicate_zero, List.cons_append, List.nil_append, List.append_nil, tFor_rng1, tFor_rng2, tFor_list, tFor_tup, CDv, CMul, CPow, sizeLine_eq, Int.reduceLE, Int.reduceLT, Int.reducePow, Int.reduceToNat, Int.reduceAdd, Int.reduceSub, Int.reduceMul, Int.reduceNeg, Nat.reduceLeDiff, Nat.reducePow, Nat.reduceLT, Int.reduceEq, true_or, or_true, ite_true, ite_false, if_true, if_false, Bool.not_true, Bool.not_false, Bool.false_eq_true, decide_true, decide_false, rIxQ, seqQ_updL, seqQ_updT, tupQ_updT, tSl, tNoPart, tPart, rSlQ, rSlTX, rCatQ, rCatTX, rCatTX0, tTupQ, tLstQ, tNever, rEqD, rInQ, gTupQ, gCons, gNil, tBM, rAppend, rCountT, rIndexT, cxN, tCall, tRaise, tTry, tAsk, tWord, Ends.gone, pick_nil, pick_own, pick_cap, join_some, seqQ_T hr1,  hr1]
    have hl := hu.length
    by_cases h4 : us.length = 4
    · rw [if_neg (by rw [h4]; decide)]
      refine ⟨h4, ?_⟩
      rw [h4] at hl
      rcases ds with _ | ⟨d1, _ | ⟨d2, _ | ⟨d3, _ | ⟨d4, _ | ⟨d5, ds⟩⟩⟩⟩⟩ <;> simp only [List.length_cons, List.length_nil] at hl <;> try omega
      simp only [DtAll] at hu
      obtain ⟨v1, _, rfl, g1, v2, _, rfl, g2, v3, _, rfl, g3, v4, _, rfl, g4, rfl⟩ := hu
      refine ⟨_, _, rfl, _, _, rfl, _, _, rfl, _, _, rfl, rfl, v1, S, d1, 1, rfl, g1, _, rfl, ?_⟩
      simp only [isNt] at q
      cases c1 : isF 1 d1
      · simp only [c1, Bool.false_and] at q
        exact q _ Ext.refl
      simp only [c1, Bool.true_and] at q
      refine ⟨v2, S, d2, v3, S, d3, rfl, g2, g3, _, rfl, ?_⟩
      cases c2 : isSt d2 d3
      · simp only [c2, Bool.false_and] at q
        exact q _ Ext.refl
      simp only [c2, Bool.true_and] at q
      refine ⟨v4, S, d4, rfl, g4, fun H1 x1 => ⟨_, rfl, ?_⟩⟩
      cases c3 : isAc d4
      · simp only [c3, Bool.false_and] at q
        exact q _ x1
      simp only [c3, Bool.true_and] at q
      cases d2 <;> simp only [isSt, Bool.false_eq_true] at c2
      cases d3 <;> simp only [isSt, Bool.false_eq_true] at c2
      rename_i i j
      unfold Dt at g2 g3
      subst g2 g3
      simp only [Bool.not_true, Bool.false_eq_true, if_false]
      refine ⟨_, rfl, _, rfl, ?_⟩
      simp only [dif] at q
      split
      · rename_i c4
        simp only [c4, decide_true, Bool.true_or] at q
        exact q _ x1
      · rename_i c4
        simp only [c4, decide_false, Bool.false_or] at q
        obtain ⟨t, m, rfl, np⟩ := isAc_of c3
        have g4 := g4.ext x1
        simp only [Dt, DtAll] at g4
        obtain ⟨b, _, rfl, e1, w1, _, rfl, g41, w2, _, rfl, g42, rfl⟩ := g4
        refine ⟨_, rfl, _, seqQ_T e1, _, rfl, m.hd, g42.is, gn, ?_, m.shaped, by decide +kernel, ?_⟩
        · exact Half.is_hd (h := .gone) (x1.tup (hm.tup B.kG))
        · simp only [sec] at q
          exact q _ x1
    · rw [if_pos (by simp only [Bool.not_eq_true', decide_eq_false_iff_not]; omega)]
      have : isNt (.tuple ds) = false := by
        unfold isNt
        split
        · rename_i e
          cases e
          exact absurd hl h4
        · rfl
      rw [this] at q
      exact q _ Ext.refl
  | _ => exact q _ Ext.refl
theorem sc_check_note : FnScope ["thing"] ["thing"] (defScope s_check_note) := ⟨rfl, rfl, rfl, by decide +kernel, rfl, by decide +kernel, by decide +kernel⟩
theorem ok_check_note {f : Addr} {fd : FuncData} (F : Fun K "check_note" "check_note" s_check_note f fd) {aG cF cA cD cN cK cS : Addr} {tE : Tok} (B : B K mg aG tE cF cA cD cN cK cS) (C_is_note : Callee P w K mg base "is_note" 4 ["thing"] (spIsNtD K)) : FnOk P w K mg base (CXO P w) 5 f fd ["thing"] (spCNtD K cN) := by
  refine F.okX sc_check_note (fun vs H Q E h => ?_) (fun cdv A outer s H vs Q E hr h => ?_)
  · obtain ⟨v, S, d, rfl, _⟩ := h
    rfl
  obtain ⟨v, S, d, rfl, hd, sh, q⟩ := h
  refine ⟨_, (bone (sif (tnot (tval (ecall C_is_note (hr.mono (by decide)) rfl (acons (ev 0) anil)))) (bone (sraise B.x_NoNote B.NoNote hr.hd rfl)) bnil)), ?_⟩
  try walk_at "rn"
  refine ⟨v, S, d, rfl, hd, sh, fun H1 x1 => ⟨_, rfl, ?_⟩⟩
  have q := q _ x1
  cases h1 : isNt d <;> rw [h1] at q <;> exact q
def Nt.has (e : Nt) (k : Int) : Bool := decide (e.lo ≤ k ∧ k < e.hi)
def Nt.com (e e' : Nt) : Bool := decide (e.lo < e'.hi ∧ e'.lo < e.hi)
def mx (a b : Int) : Int := if b > a then b else a
def mn (a b : Int) : Int := if b < a then b else a
def Nt.cut (e : Nt) (lo hi : Int) : Nt := { e with lo := mx e.lo lo, hi := mn e.hi hi }
def spHasKey (K : PySem.W.Frag) : Sp := fun vs H Q _ => ∃ v e k, vs = [v, .int k] ∧ NoteAt K H v e ∧ Q (.bl (e.has k)) H
def spCommon (K : PySem.W.Frag) : Sp := fun vs H Q _ => ∃ v e v' e', vs = [v, v'] ∧ NoteAt K H v e ∧ NoteAt K H v' e' ∧ Q (.bl (e.com e')) H
def spCut (K : PySem.W.Frag) : Sp := fun vs H Q _ => ∃ v e lo hi, vs = [v, .int lo, .int hi] ∧ NoteAt K H v e ∧
  (mx e.lo lo < mn e.hi hi → ∀ b H', NoteAt K H' b (e.cut lo hi) → Ext K H H' → Q b H') ∧ (¬ mx e.lo lo < mn e.hi hi → Q .non H)
theorem sc_has_key : FnScope ["note", "key"] ["note", "key"] (defScope s_has_key) := ⟨rfl, rfl, rfl, by decide +kernel, rfl, by decide +kernel, by decide +kernel⟩
theorem ok_has_key {f : Addr} {fd : FuncData} (F : Fun K "has_key" "has_key" s_has_key f fd) {aG cF cA cD cN cK cS : Addr} {tE : Tok} (B : B K mg aG tE cF cA cD cN cK cS) : FnOk P w K mg base CX0 1 f fd ["note", "key"] (spHasKey K) := by
  refine F.okJ sc_has_key (fun vs H Q E h => ?_) (fun cdv A outer s H vs Q E hr h => ?_)
  · obtain ⟨v, e, k, rfl, _⟩ := h
    rfl
  obtain ⟨v, e, k, rfl, ⟨a, w, rfl, ha, hA⟩, q⟩ := h
  refine ⟨_, (bone (sret (echain op_le op_lt (eix ix_Q (ev 0) ei (fun _ _ => rfl)) (ev 1) (eix ix_Q (ev 0) ei (fun _ _ => rfl))))), ?_⟩
  simp only [tSeq, tNext, tIfS, tAsg, gName, gSub, tRet, tRetN, tDrop, tVar, tC, tOp, tUn, rI0, rI, rU, tTest, tB, tAndV, tOrV, tNotV, tAnd, tOr, tNot, tIf, tChain, tCB, tCons, tNil, tLst, tTup, tCallC, List.getElem?_cons_zero, List.getElem?_cons_succ, List.set_cons_zero, List.set_cons_succ, Option.some.injEq, V.int.injEq, V.bl.injEq, V.ref.injEq, V.ty.injEq, V.str.injEq, List.cons.injEq, exists_eq_left', exists_eq_left, exists_and_left, and_true, true_and, and_assoc, cxK, rIxF, rSetL, rEq, rNe, scal, HO.lst.injEq, HO.tup.injEq, upd_none, ixN_10, ixN_20, ixN_21, ixN_30, ixN_31, ixN_32, upd_same, seqAt_updL, seqAt_updT, atI_0, atI_1, atI_2, atI_3, decide_eq_true_eq, L2.start, List.map_cons, List.map_nil, List.length_cons, List.length_nil, Nat.reduceAdd, Nat.reduceSub, List.replicate_succ, List.replicate_zero, List.cons_append, List.nil_append, List.append_nil, tFor_rng1, tFor_rng2, tFor_list, tFor_tup, CDv, CMul, CPow, sizeLine_eq, Int.reduceLE, Int.reduceLT, Int.reducePow, Int.reduceToNat, Int.reduceAdd, Int.reduceSub, Int.reduceMul, Int.reduceNeg, Nat.reduceLeDiff, Nat.reducePow, Nat.reduceLT, Int.reduceEq, true_or, or_true, ite_true, ite_false, if_true, if_false, Bool.not_true, Bool.not_false, Bool.false_eq_true, decide_true, decide_false, rIxQ, seqQ_updL, seqQ_updT, tupQ_updT, tSl, tNoPart, tPart, rSlQ, rSlTX, rCatQ, rCatTX, rCatTX0, tTupQ, tLstQ, tNever, rEqD, rInQ, gTupQ, gCons, gNil, tBM, rAppend, rCountT, rIndexT, cxN, tCall, tRaise, tTry, tAsk, tWord, Ends.gone, pick_nil, pick_own, pick_cap, join_some, seqQ_T ha]
  refine ite2 (fun c => ?_) (fun c => ?_)
  · have e1 : e.has k = decide (k < e.hi) := by simp [Nt.has, c]
    rw [e1] at q
    exact q
  · have e1 : e.has k = false := by simp [Nt.has, c]
    rw [e1] at q
    exact q
theorem sc_have_common : FnScope ["note", "other"] ["note", "other"] (defScope s_have_common) := ⟨rfl, rfl, rfl, by decide +kernel, rfl, by decide +kernel, by decide +kernel⟩
theorem ok_have_common {f : Addr} {fd : FuncData} (F : Fun K "have_common" "have_common" s_have_common f fd) {aG cF cA cD cN cK cS : Addr} {tE : Tok} (B : B K mg aG tE cF cA cD cN cK cS) : FnOk P w K mg base CX0 1 f fd ["note", "other"] (spCommon K) := by
  refine F.okJ sc_have_common (fun vs H Q E h => ?_) (fun cdv A outer s H vs Q E hr h => ?_)
  · obtain ⟨v, e, v', e', rfl, _⟩ := h
    rfl
  obtain ⟨v, e, v', e', rfl, ⟨a, w, rfl, ha, hA⟩, ⟨a', w', rfl, ha', hA'⟩, q⟩ := h
  refine ⟨_, (bone (sret (eand (ecmp op_lt (eix ix_Q (ev 0) ei (fun _ _ => rfl)) (eix ix_Q (ev 1) ei (fun _ _ => rfl)) (nomark _)) (eone (ecmp op_lt (eix ix_Q (ev 1) ei (fun _ _ => rfl)) (eix ix_Q (ev 0) ei (fun _ _ => rfl)) (nomark _)))))), ?_⟩
  simp only [tSeq, tNext, tIfS, tAsg, gName, gSub, tRet, tRetN, tDrop, tVar, tC, tOp, tUn, rI0, rI, rU, tTest, tB, tAndV, tOrV, tNotV, tAnd, tOr, tNot, tIf, tChain, tCB, tCons, tNil, tLst, tTup, tCallC, List.getElem?_cons_zero, List.getElem?_cons_succ, List.set_cons_zero, List.set_cons_succ, Option.some.injEq, V.int.injEq, V.bl.injEq, V.ref.injEq, V.ty.injEq, V.str.injEq, List.cons.injEq, exists_eq_left', exists_eq_left, exists_and_left, and_true, true_and, and_assoc, cxK, rIxF, rSetL, rEq, rNe, scal, HO.lst.injEq, HO.tup.injEq, upd_none, ixN_10, ixN_20, ixN_21, ixN_30, ixN_31, ixN_32, upd_same, seqAt_updL, seqAt_updT, atI_0, atI_1, atI_2, atI_3, decide_eq_true_eq, L2.start, List.map_cons, List.map_nil, List.length_cons, List.length_nil, Nat.reduceAdd, Nat.reduceSub, List.replicate_succ, List.replicate_zero, List.cons_append, List.nil_append, List.append_nil, tFor_rng1, tFor_rng2, tFor_list, tFor_tup, CDv, CMul, CPow, sizeLine_eq, Int.reduceLE, Int.reduceLT, Int.reducePow, Int.reduceToNat, Int.reduceAdd, Int.reduceSub, Int.reduceMul, Int.reduceNeg, Nat.reduceLeDiff, Nat.reducePow, Nat.reduceLT, Int.reduceEq, true_or, or_true, ite_true, ite_false, if_true, if_false, Bool.not_true, Bool.not_false, Bool.false_eq_true, decide_true, decide_false, rIxQ, seqQ_updL, seqQ_updT, tupQ_updT, tSl, tNoPart, tPart, rSlQ, rSlTX, rCatQ, rCatTX, rCatTX0, tTupQ, tLstQ, tNever, rEqD, rInQ, gTupQ, gCons, gNil, tBM, rAppend, rCountT, rIndexT, cxN, tCall, tRaise, tTry, tAsk, tWord, Ends.gone, pick_nil, pick_own, pick_cap, join_some, seqQ_T ha,  seqQ_T ha']
  refine ite2 (fun c => ?_) (fun c => ?_)
  · have e1 : e.com e' = decide (e'.lo < e.hi) := by simp [Nt.com, c]
    rw [e1] at q
    exact q
  · have e1 : e.com e' = false := by simp [Nt.com, c]
    rw [e1] at q
    exact q
theorem sc_cut : FnScope ["note", "low", "high", "number", "note_low", "note_high", "action", "first", "end"] ["note", "low", "high"] (defScope s_cut) := ⟨rfl, rfl, rfl, by decide +kernel, rfl, by decide +kernel, by decide +kernel⟩
theorem ok_cut {f : Addr} {fd : FuncData} (F : Fun K "cut" "cut" s_cut f fd) {aG cF cA cD cN cK cS : Addr} {tE : Tok} (B : B K mg aG tE cF cA cD cN cK cS) : FnOk P w K mg base CX0 1 f fd ["note", "low", "high"] (spCut K) := by
  refine F.okJ sc_cut (fun vs H Q E h => ?_) (fun cdv A outer s H vs Q E hr h => ?_)
  · obtain ⟨v, e, lo, hi, rfl, _⟩ := h
    rfl
  obtain ⟨v, e, lo, hi, rfl, ⟨a, w, rfl, ha, hA⟩, q1, q2⟩ := h
  refine ⟨_, (bcons (sasg (ev 0) (gtupQ (n := 4) rfl (gcons (gname (i := 3) sc_cut.nd rfl (Or.inl rfl)) (gcons (gname (i := 4) sc_cut.nd rfl (Or.inl rfl)) (gcons (gname (i := 5) sc_cut.nd rfl (Or.inl rfl)) (gcons (gname (i := 6) sc_cut.nd rfl (Or.inl rfl)) gnil))))))
      (bcons (sset (i := 7) sc_cut.nd rfl (Or.inl rfl) (ecallB (call_max2 rfl) rfl B.max bt_max (acons (ev 4) (acons (ev 1) anil))))
      (bcons (sset (i := 8) sc_cut.nd rfl (Or.inl rfl) (ecallB (call_min2 rfl) rfl B.min bt_min (acons (ev 5) (acons (ev 2) anil))))
      (bone (sret (eif (tcmp op_lt (ev 7) (ev 8) (nomark _)) (etupQ (acons (ev 3) (acons (ev 7) (acons (ev 8) (acons (ev 6) anil))))) enon)))))), ?_⟩
  simp only [tSeq, tNext, tIfS, tAsg, gName, gSub, tRet, tRetN, tDrop, tVar, tC, tOp, tUn, rI0, rI, rU, tTest, tB, tAndV, tOrV, tNotV, tAnd, tOr, tNot, tIf, tChain, tCB, tCons, tNil, tLst, tTup, tCallC, List.getElem?_cons_zero, List.getElem?_cons_succ, List.set_cons_zero, List.set_cons_succ, Option.some.injEq, V.int.injEq, V.bl.injEq, V.ref.injEq, V.ty.injEq, V.str.injEq, List.cons.injEq, exists_eq_left', exists_eq_left, exists_and_left, and_true, true_and, and_assoc, cxK, rIxF, rSetL, rEq, rNe, scal, HO.lst.injEq, HO.tup.injEq, upd_none, ixN_10, ixN_20, ixN_21, ixN_30, ixN_31, ixN_32, upd_same, seqAt_updL, seqAt_updT, atI_0, atI_1, atI_2, atI_3, decide_eq_true_eq, L2.start, List.map_cons, List.map_nil, List.length_cons, List.length_nil, Nat.reduceAdd, Nat.reduceSub, List.replicate_succ, List.replicate_zero, List.cons_append, List.nil_append, List.append_nil, tFor_rng1, tFor_rng2, tFor_list, tFor_tup, CDv, CMul, CPow, sizeLine_eq, Int.reduceLE, Int.reduceLT, Int.reducePow, Int.reduceToNat, Int.reduceAdd, Int.reduceSub, Int.reduceMul, Int.reduceNeg, Nat.reduceLeDiff, Nat.reducePow, Nat.reduceLT, Int.reduceEq, true_or, or_true, ite_true, ite_false, if_true, if_false, Bool.not_true, Bool.not_false, Bool.false_eq_true, decide_true, decide_false, rIxQ, seqQ_updL, seqQ_updT, tupQ_updT, tSl, tNoPart, tPart, rSlQ, rSlTX, rCatQ, rCatTX, rCatTX0, tTupQ, tLstQ, tNever, rEqD, rInQ, gTupQ, gCons, gNil, tBM, rAppend, rCountT, rIndexT, cxN, tCall, tRaise, tTry, tAsk, tWord, Ends.gone, pick_nil, pick_own, pick_cap, join_some, ha]
  refine ite2 (fun c => fun b nb => ?_) (fun c => q2 c)
  exact q1 c _ _ ⟨b, w, rfl, tupQ_updT, hA.ext (Ext.new nb)⟩ (Ext.new nb)
def spTouchX (K : PySem.W.Frag) (cN cK : Addr) : Sp := fun vs H Q E => ∃ v S d k S' dk, vs = [v, k] ∧ Dt K S H d v ∧ SeqAt.shaped d = true ∧ Dt K S' H dk k ∧ ∀ H', Ext K H H' →
  if isNt d = true then (if isW 0 999999999999 dk = true then ∀ e kk, e.ok → d = Nt.nd e → dk = .int kk → Q (.bl (e.has kk)) H' else E (.ref cK) none H') else E (.ref cN) none H'
def spShareX (K : PySem.W.Frag) (cN : Addr) : Sp := fun vs H Q E => ∃ v S d v' S' d', vs = [v, v'] ∧ Dt K S H d v ∧ SeqAt.shaped d = true ∧ Dt K S' H d' v' ∧ SeqAt.shaped d' = true ∧ ∀ H', Ext K H H' →
  if isNt d = true ∧ isNt d' = true then ∀ e e', e.ok → e'.ok → d = Nt.nd e → d' = Nt.nd e' → Q (.bl (e.com e')) H' else E (.ref cN) none H'
def spPartX (K : PySem.W.Frag) (cN cS : Addr) : Sp := fun vs H Q E => ∃ v S d a Sa da b Sb db, vs = [v, a, b] ∧ Dt K S H d v ∧ SeqAt.shaped d = true ∧ Dt K Sa H da a ∧ Dt K Sb H db b ∧ ∀ H', Ext K H H' →
  if isNt d = true then (if isSt da db = true then ∀ e i j, e.ok → d = Nt.nd e → da = .int i → db = .int j →
    (mx e.lo i < mn e.hi j → ∀ u H'', NoteAt K H'' u (e.cut i j) → Ext K H' H'' → Q u H'') ∧ (¬ mx e.lo i < mn e.hi j → Q .non H') else E (.ref cS) none H') else E (.ref cN) none H'
theorem isSt_int {a b : PyData} (h : isSt a b = true) : ∃ i j, a = .int i ∧ b = .int j ∧ 0 ≤ i ∧ i < j ∧ j ≤ 1000000000000 := by
  cases a <;> simp only [isSt, Bool.false_eq_true] at h
  cases b <;> simp only [isSt, Bool.false_eq_true] at h
  exact ⟨_, _, rfl, rfl, of_decide_eq_true h⟩
theorem sc_touches : FnScope ["note", "key"] ["note", "key"] (defScope s_touches) := ⟨rfl, rfl, rfl, by decide +kernel, rfl, by decide +kernel, by decide +kernel⟩
theorem ok_touches {f : Addr} {fd : FuncData} (F : Fun K "touches" "touches" s_touches f fd) {aG cF cA cD cN cK cS : Addr} {tE : Tok} (B : B K mg aG tE cF cA cD cN cK cS) (C_check_note : CalleeX P w K mg base "check_note" 5 ["thing"] (spCNtD K cN)) (C_check_key : CalleeX P w K mg base "check_key" 4 ["thing"] (spCKeyD K cK)) (C_has_key : Callee P w K mg base "has_key" 1 ["note", "key"] (spHasKey K)) : FnOk P w K mg base (CXO P w) 6 f fd ["note", "key"] (spTouchX K cN cK) := by
  refine F.okX sc_touches (fun vs H Q E h => ?_) (fun cdv A outer s H vs Q E hr h => ?_)
  · obtain ⟨v, S, d, k, S', dk, rfl, _⟩ := h
    rfl
  obtain ⟨v, S, d, k, S', dk, rfl, hd, sh, hk, q⟩ := h
  refine ⟨_, (bcons (sexpr (ecallX C_check_note pass1 (hr.mono (by decide)) rfl (acons (ev 0) anil)))
      (bcons (sexpr (ecallX C_check_key pass1 (hr.mono (by decide)) rfl (acons (ev 1) anil)))
      (bone (sret (ecall C_has_key (hr.mono (by decide)) rfl (acons (ev 0) (acons (ev 1) anil))))))), ?_⟩
  try walk_at "rn"
  refine ⟨v, S, d, rfl, hd, sh, fun H1 x1 => ?_⟩
  have q := q H1 x1
  split
  · rename_i c1
    rw [if_pos c1] at q
    try walk_at "rn"
    refine ⟨k, S', dk, rfl, hk.ext x1, ?_⟩
    split
    · rename_i c2
      rw [if_pos c2] at q
      obtain ⟨e, ok, rfl⟩ := isNt_of c1
      obtain ⟨kk, rfl, _, _⟩ := isW_int c2
      unfold Dt at hk
      subst hk
      try walk_at "rn"
      exact ⟨v, e, kk, rfl, (hd.ext x1).note ok.np, q e kk ok rfl rfl⟩
    · rename_i c2
      rw [if_neg c2] at q
      exact q
  · rename_i c1
    rw [if_neg c1] at q
    exact q
theorem sc_shares : FnScope ["note", "other"] ["note", "other"] (defScope s_shares) := ⟨rfl, rfl, rfl, by decide +kernel, rfl, by decide +kernel, by decide +kernel⟩
theorem ok_shares {f : Addr} {fd : FuncData} (F : Fun K "shares" "shares" s_shares f fd) {aG cF cA cD cN cK cS : Addr} {tE : Tok} (B : B K mg aG tE cF cA cD cN cK cS) (C_check_note : CalleeX P w K mg base "check_note" 5 ["thing"] (spCNtD K cN)) (C_have_common : Callee P w K mg base "have_common" 1 ["note", "other"] (spCommon K)) : FnOk P w K mg base (CXO P w) 6 f fd ["note", "other"] (spShareX K cN) := by
  refine F.okX sc_shares (fun vs H Q E h => ?_) (fun cdv A outer s H vs Q E hr h => ?_)
  · obtain ⟨v, S, d, v', S', d', rfl, _⟩ := h
    rfl
  obtain ⟨v, S, d, v', S', d', rfl, hd, sh, hd', sh', q⟩ := h
  refine ⟨_, (bcons (sexpr (ecallX C_check_note pass1 (hr.mono (by decide)) rfl (acons (ev 0) anil)))
      (bcons (sexpr (ecallX C_check_note pass1 (hr.mono (by decide)) rfl (acons (ev 1) anil)))
      (bone (sret (ecall C_have_common (hr.mono (by decide)) rfl (acons (ev 0) (acons (ev 1) anil))))))), ?_⟩
  try walk_at "rn"
  refine ⟨v, S, d, rfl, hd, sh, fun H1 x1 => ?_⟩
  split
  · rename_i c1
    try walk_at "rn"
    refine ⟨v', S', d', rfl, hd'.ext x1, sh', fun H2 x2 => ?_⟩
    have x12 := x1.trans x2
    have q := q H2 x12
    split
    · rename_i c2
      rw [if_pos ⟨c1, c2⟩] at q
      obtain ⟨e, ok, rfl⟩ := isNt_of c1
      obtain ⟨e', ok', rfl⟩ := isNt_of c2
      try walk_at "rn"
      exact ⟨v, e, v', e', rfl, (hd.ext x12).note ok.np, (hd'.ext x12).note ok'.np, q e e' ok ok' rfl rfl⟩
    · rename_i c2
      rw [if_neg (fun z => c2 z.2)] at q
      exact q
  · rename_i c1
    have q := q H1 x1
    rw [if_neg (fun z => c1 z.1)] at q
    exact q
theorem sc_part : FnScope ["note", "low", "high"] ["note", "low", "high"] (defScope s_part) := ⟨rfl, rfl, rfl, by decide +kernel, rfl, by decide +kernel, by decide +kernel⟩
theorem ok_part {f : Addr} {fd : FuncData} (F : Fun K "part" "part" s_part f fd) {aG cF cA cD cN cK cS : Addr} {tE : Tok} (B : B K mg aG tE cF cA cD cN cK cS) (C_check_note : CalleeX P w K mg base "check_note" 5 ["thing"] (spCNtD K cN)) (C_check_stretch : CalleeX P w K mg base "check_stretch" 4 ["low", "high"] (spCStD K cS)) (C_cut : Callee P w K mg base "cut" 1 ["note", "low", "high"] (spCut K)) : FnOk P w K mg base (CXO P w) 6 f fd ["note", "low", "high"] (spPartX K cN cS) := by
  refine F.okX sc_part (fun vs H Q E h => ?_) (fun cdv A outer s H vs Q E hr h => ?_)
  · obtain ⟨v, S, d, a, Sa, da, b, Sb, db, rfl, _⟩ := h
    rfl
  obtain ⟨v, S, d, a, Sa, da, b, Sb, db, rfl, hd, sh, ha, hb, q⟩ := h
  refine ⟨_, (bcons (sexpr (ecallX C_check_note pass1 (hr.mono (by decide)) rfl (acons (ev 0) anil)))
      (bcons (sexpr (ecallX C_check_stretch pass1 (hr.mono (by decide)) rfl (acons (ev 1) (acons (ev 2) anil))))
      (bone (sret (ecall C_cut (hr.mono (by decide)) rfl (acons (ev 0) (acons (ev 1) (acons (ev 2) anil)))))))), ?_⟩
  try walk_at "rn"
  refine ⟨v, S, d, rfl, hd, sh, fun H1 x1 => ?_⟩
  have q := q H1 x1
  split
  · rename_i c1
    rw [if_pos c1] at q
    try walk_at "rn"
    refine ⟨a, Sa, da, b, Sb, db, rfl, ha.ext x1, hb.ext x1, ?_⟩
    split
    · rename_i c2
      rw [if_pos c2] at q
      obtain ⟨e, ok, rfl⟩ := isNt_of c1
      obtain ⟨i, j, rfl, rfl, _⟩ := isSt_int c2
      unfold Dt at ha hb
      subst ha hb
      have q := q e i j ok rfl rfl rfl
      try walk_at "rn"
      exact ⟨v, e, i, j, rfl, (hd.ext x1).note ok.np, fun c u H2 n2 x2 => q.1 c u H2 n2 x2, q.2⟩
    · rename_i c2
      rw [if_neg c2] at q
      exact q
  · rename_i c1
    rw [if_neg c1] at q
    exact q
def wordOf (cN cK cS : Addr) (cls : Value) (w : Str) : Prop := (cls = .ref cN ∧ w = "note") ∨ (cls = .ref cK ∧ w = "key") ∨ (cls = .ref cS ∧ w = "stretch")
def twWord (K : PySem.W.Frag) (cN cK cS : Addr) (te : XK → TE) (σl : St) (H : Hp) (Q : VK) : Prop :=
  te (fun cls _ H' => ∃ w, wordOf cN cK cS cls w ∧ ∀ q H'', Ext K H' H'' → tupQ K H'' q = some [.str w, .non] → Q (.ref q) H'') σl H (fun v H' => ∀ q H'', Ext K H' H'' → tupQ K H'' q = some [.str "told", v] → Q (.ref q) H'')
theorem sc__law_word : FnScope ["_law_ask", "_law_found", "e", "_law_kinds"] ["_law_ask"] (defScope s__law_word) := ⟨rfl, rfl, rfl, by decide +kernel, rfl, by decide +kernel, by decide +kernel⟩
theorem ok__law_word {f : Addr} {fd : FuncData} (F : Fun K "_law_word" "_law_word" s__law_word f fd) (b : Binds K fd ["_law_ask"] []) (kp : PySem.W.keepIn K (.ref f) = true) (hm : mg "_law_word" = some (.ref f)) {aG cF cA cD cN cK cS : Addr} {tE : Tok} (B : B K mg aG tE cF cA cD cN cK cS) : Asker P w K mg base "_law_word" 8 (twWord K cN cK cS) := by
  refine ⟨fun te te' h σ H Q q => h _ _ _ _ q, f, kp, hm, ?_⟩
  intro A outer s H fl c' name qual params body scope cl pm ctv N σl te Q mono hr e0 L hb q
  refine F.runS (vs := [.ref fl]) sc__law_word hr e0 b rfl (.cons rfl .nil) fun cdv hr => ?_
  refine ⟨_, (bcons (sset (i := 1) sc__law_word.nd rfl (Or.inl rfl) enon)
      (bcons (stry (i := 2) sc__law_word.nd rfl rfl rfl B.FallError ⟨rfl, rfl⟩ rfl (fun E1 xe pn hp => (bone (sset (i := 1) sc__law_word.nd rfl (Or.inl rfl) (etupQK K (acons estr (acons (easkH (i := 0) H L.lam L.free L.code L.cls rfl hp hr L.sc (fun s1 => hb E1 _ _ s1 (hr.deeper _)) rfl (Or.inl rfl)) anil))))))
        (fun a xe pn => (bcons (sset (i := 3) sc__law_word.nd rfl (Or.inl rfl) (elstQK K (acons (ecallB (call_isexcK K) rfl B.isinstance bt_isinstance (acons (ev 2) (acons (eglob rfl B.NoNote B.NoNote_is) anil))) (acons (ecallB (call_isexcK K) rfl B.isinstance bt_isinstance (acons (ev 2) (acons (eglob rfl B.NoKey B.NoKey_is) anil))) (acons (ecallB (call_isexcK K) rfl B.isinstance bt_isinstance (acons (ev 2) (acons (eglob rfl B.NoStretch B.NoStretch_is) anil))) anil)))))
      (bcons (sset (i := 3) sc__law_word.nd rfl (Or.inl rfl) (eop (op_catQK K) (ev 3) (elstQK K (acons (ecallB (call_isexcK K) rfl B.isinstance bt_isinstance (acons (ev 2) (acons (eglob rfl B.NoAction B.NoAction_is) anil))) (acons (ecallB (call_isexcK K) rfl B.isinstance bt_isinstance (acons (ev 2) (acons (eglob rfl B.NoDeed B.NoDeed_is) anil))) anil)))))
      (bcons (sset (i := 1) sc__law_word.nd rfl (Or.inl rfl) (etupQK K (acons estr (acons enon anil))))
      (bone (sif (tcmp op_eq (ebmK K PySem.F.plainAttrs_list PySem.F.slot_list_count PySem.F.type_list_count mt_countT (ev 3) (acons ebl anil)) ei (nomark _)) (bone (sset (i := 1) sc__law_word.nd rfl (Or.inl rfl) (etupQK K (acons (eix (ix_QK K) (elstQK K (acons estr (acons estr (acons estr (acons estr (acons estr anil)))))) (ebmK K PySem.F.plainAttrs_list PySem.F.slot_list_index PySem.F.type_list_index mt_indexT (ev 3) (acons ebl anil)) (fun _ _ => rfl)) (acons enon anil))))) bnil)))))))
      (bone (sret (ev 1))))), ?_⟩
  try walk_at "rn"
  refine mono _ _ _ _ _ _ q ?_ ?_
  · rintro c x H' ⟨w, hw, q⟩
    rcases hw with ⟨rfl, rfl⟩ | ⟨rfl, rfl⟩ | ⟨rfl, rfl⟩
    · have X := B.xN
      refine ⟨cN, rfl, X.i, X.m, fun a na => ⟨cN, rfl, X.i, _, X.k1, cN, rfl, X.i, _, X.k2, cN, rfl, X.i, _, X.k3, fun p1 n1 => ?_⟩⟩
      have x1 := Ext.new (K := K) (o := .lst [V.bl true, V.bl false, V.bl false]) n1
      have ha := x1.same _ _ (upd_same (H := H') (a := a) (o := .ext (XAt a cN)))
      refine ⟨cN, ha, X.i, _, X.k4, cN, ha, X.i, _, X.k5, fun p2 n2 => ?_⟩
      have x2 := Ext.new (K := K) (o := .lst [V.bl false, V.bl false]) n2
      refine ⟨_, x2.same _ _ upd_same, by decide, fun p3 n3 p4 n4 => ?_⟩
      have x3 := Ext.new (K := K) (o := .lst ([V.bl true, V.bl false, V.bl false] ++ [V.bl false, V.bl false])) n3
      have x4 := Ext.new (K := K) (o := .tup [V.str "several", V.non]) n4
      have e4 := x4.same _ _ (upd_same (H := upd (upd (upd H' a (.ext (XAt a cN))) p1 (.lst [V.bl true, V.bl false, V.bl false])) p2 (.lst [V.bl false, V.bl false])) (a := p3) (o := .lst ([V.bl true, V.bl false, V.bl false] ++ [V.bl false, V.bl false])))
      have x04 := (Ext.new (K := K) (o := .ext (XAt a cN)) na).trans (x1.trans (x2.trans (x3.trans x4)))
      generalize upd (upd (upd (upd (upd H' a (.ext (XAt a cN))) p1 (.lst [V.bl true, V.bl false, V.bl false])) p2 (.lst [V.bl false, V.bl false])) p3 (.lst ([V.bl true, V.bl false, V.bl false] ++ [V.bl false, V.bl false]))) p4 (.tup [V.str "several", V.non]) = G at e4 x04 ⊢
      refine ⟨.inl ⟨rfl, _, .inl (.inl e4)⟩, [true, false, false, false, false], e4, ?_⟩
      rw [if_pos (by decide)]
      intro p5 n5
      have x5 := Ext.new (K := K) (o := .lst [V.str "note", V.str "key", V.str "stretch", V.str "action", V.str "deed"]) n5
      have e5 := x5.same _ _ e4
      refine ⟨.inl ⟨rfl, _, .inl (.inl e5)⟩, [true, false, false, false, false], e5, 0, rfl, by decide, _, rfl, fun p6 n6 => ?_⟩
      exact q p6 _ (x04.trans (x5.trans (Ext.new n6))) tupQ_updT
    · have X := B.xK
      refine ⟨cK, rfl, X.i, X.m, fun a na => ⟨cK, rfl, X.i, _, X.k1, cK, rfl, X.i, _, X.k2, cK, rfl, X.i, _, X.k3, fun p1 n1 => ?_⟩⟩
      have x1 := Ext.new (K := K) (o := .lst [V.bl false, V.bl true, V.bl false]) n1
      have ha := x1.same _ _ (upd_same (H := H') (a := a) (o := .ext (XAt a cK)))
      refine ⟨cK, ha, X.i, _, X.k4, cK, ha, X.i, _, X.k5, fun p2 n2 => ?_⟩
      have x2 := Ext.new (K := K) (o := .lst [V.bl false, V.bl false]) n2
      refine ⟨_, x2.same _ _ upd_same, by decide, fun p3 n3 p4 n4 => ?_⟩
      have x3 := Ext.new (K := K) (o := .lst ([V.bl false, V.bl true, V.bl false] ++ [V.bl false, V.bl false])) n3
      have x4 := Ext.new (K := K) (o := .tup [V.str "several", V.non]) n4
      have e4 := x4.same _ _ (upd_same (H := upd (upd (upd H' a (.ext (XAt a cK))) p1 (.lst [V.bl false, V.bl true, V.bl false])) p2 (.lst [V.bl false, V.bl false])) (a := p3) (o := .lst ([V.bl false, V.bl true, V.bl false] ++ [V.bl false, V.bl false])))
      have x04 := (Ext.new (K := K) (o := .ext (XAt a cK)) na).trans (x1.trans (x2.trans (x3.trans x4)))
      generalize upd (upd (upd (upd (upd H' a (.ext (XAt a cK))) p1 (.lst [V.bl false, V.bl true, V.bl false])) p2 (.lst [V.bl false, V.bl false])) p3 (.lst ([V.bl false, V.bl true, V.bl false] ++ [V.bl false, V.bl false]))) p4 (.tup [V.str "several", V.non]) = G at e4 x04 ⊢
      refine ⟨.inl ⟨rfl, _, .inl (.inl e4)⟩, [false, true, false, false, false], e4, ?_⟩
      rw [if_pos (by decide)]
      intro p5 n5
      have x5 := Ext.new (K := K) (o := .lst [V.str "note", V.str "key", V.str "stretch", V.str "action", V.str "deed"]) n5
      have e5 := x5.same _ _ e4
      refine ⟨.inl ⟨rfl, _, .inl (.inl e5)⟩, [false, true, false, false, false], e5, 1, rfl, by decide, _, rfl, fun p6 n6 => ?_⟩
      exact q p6 _ (x04.trans (x5.trans (Ext.new n6))) tupQ_updT
    · have X := B.xS
      refine ⟨cS, rfl, X.i, X.m, fun a na => ⟨cS, rfl, X.i, _, X.k1, cS, rfl, X.i, _, X.k2, cS, rfl, X.i, _, X.k3, fun p1 n1 => ?_⟩⟩
      have x1 := Ext.new (K := K) (o := .lst [V.bl false, V.bl false, V.bl true]) n1
      have ha := x1.same _ _ (upd_same (H := H') (a := a) (o := .ext (XAt a cS)))
      refine ⟨cS, ha, X.i, _, X.k4, cS, ha, X.i, _, X.k5, fun p2 n2 => ?_⟩
      have x2 := Ext.new (K := K) (o := .lst [V.bl false, V.bl false]) n2
      refine ⟨_, x2.same _ _ upd_same, by decide, fun p3 n3 p4 n4 => ?_⟩
      have x3 := Ext.new (K := K) (o := .lst ([V.bl false, V.bl false, V.bl true] ++ [V.bl false, V.bl false])) n3
      have x4 := Ext.new (K := K) (o := .tup [V.str "several", V.non]) n4
      have e4 := x4.same _ _ (upd_same (H := upd (upd (upd H' a (.ext (XAt a cS))) p1 (.lst [V.bl false, V.bl false, V.bl true])) p2 (.lst [V.bl false, V.bl false])) (a := p3) (o := .lst ([V.bl false, V.bl false, V.bl true] ++ [V.bl false, V.bl false])))
      have x04 := (Ext.new (K := K) (o := .ext (XAt a cS)) na).trans (x1.trans (x2.trans (x3.trans x4)))
      generalize upd (upd (upd (upd (upd H' a (.ext (XAt a cS))) p1 (.lst [V.bl false, V.bl false, V.bl true])) p2 (.lst [V.bl false, V.bl false])) p3 (.lst ([V.bl false, V.bl false, V.bl true] ++ [V.bl false, V.bl false]))) p4 (.tup [V.str "several", V.non]) = G at e4 x04 ⊢
      refine ⟨.inl ⟨rfl, _, .inl (.inl e4)⟩, [false, false, true, false, false], e4, ?_⟩
      rw [if_pos (by decide)]
      intro p5 n5
      have x5 := Ext.new (K := K) (o := .lst [V.str "note", V.str "key", V.str "stretch", V.str "action", V.str "deed"]) n5
      have e5 := x5.same _ _ e4
      refine ⟨.inl ⟨rfl, _, .inl (.inl e5)⟩, [false, false, true, false, false], e5, 2, rfl, by decide, _, rfl, fun p6 n6 => ?_⟩
      exact q p6 _ (x04.trans (x5.trans (Ext.new n6))) tupQ_updT
  · intro v H' q p np
    exact q p _ (Ext.new np) tupQ_updT
def spLHalf (K : PySem.W.Frag) : Sp := fun vs H Q _ => ∃ v p d a ws, vs = [v, .ref a] ∧ Dt K p H d v ∧ SeqAt.shaped d = true ∧ seqQ K H a = some ws ∧ ws.all flatV = true ∧ (∀ H', Ext K H H' → seqQ K H' a = some ws) ∧ ∀ H', Ext K H H' → Q (.bl (isHf ws d)) H'
def spLAct (K : PySem.W.Frag) : Sp := fun vs H Q _ => ∃ v p d, vs = [v] ∧ Dt K p H d v ∧ SeqAt.shaped d = true ∧ ∀ H', Ext K H H' → Q (.bl (isAc d)) H'
theorem eqv_g1 (x : Str) : PyData.eqv (.tuple [.str x]) (.tuple [.str "gone"]) = decide (x = "gone") := by
  simp only [PyData.eqv, PyData.eqvAll, Bool.and_true]
  rfl
theorem eqv_g2 (a b : PyData) : PyData.eqv (.tuple [a, b]) (.tuple [.str "gone"]) = false := by
  simp only [PyData.eqv, PyData.eqvAll, Bool.and_false]
theorem sc__law_is_half : FnScope ["_law_half", "_law_words"] ["_law_half", "_law_words"] (defScope s__law_is_half) := ⟨rfl, rfl, rfl, by decide +kernel, rfl, by decide +kernel, by decide +kernel⟩
theorem ok__law_is_half {f : Addr} {fd : FuncData} (F : Fun K "_law_is_half" "_law_is_half" s__law_is_half f fd) {aG cF cA cD cN cK cS : Addr} {tE : Tok} (B : B K mg aG tE cF cA cD cN cK cS) : FnOk P w K mg base CX0 1 f fd ["_law_half", "_law_words"] (spLHalf K) := by
  refine F.okJ sc__law_is_half (fun vs H Q E h => ?_) (fun cdv A outer s H vs Q E hr h => ?_)
  · obtain ⟨v, p, d, a, ws, rfl, _⟩ := h
    rfl
  obtain ⟨v, p, d, a, ws, rfl, hd, sh, ha, hf, ha2, q⟩ := h
  obtain ⟨t, ty, k1, k2, k3, k4⟩ := hd.ty
  refine ⟨_, (bcons (sif (tw (wor (tnot (tval (ecallB call_isinstQ rfl B.isinstance bt_isinstance (acons (ev 0) (acons (etyp rfl B.tuple bt_tuple) anil))))) (wor (tcmp op_eq (ecallB call_lenQ rfl B.len bt_len (acons (ev 0) anil)) ei (nomark _)) (wor (tcmp op_gt (ecallB call_lenQ rfl B.len bt_len (acons (ev 0) anil)) ei (nomark _)) (wor1 (tnot (tval (ecallB call_isinstQ rfl B.isinstance bt_isinstance (acons (eix ix_Q (ev 0) ei (fun _ _ => rfl)) (acons (etyp rfl B.str bt_str) anil)))))))))) (bone (sret ebl)) bnil)
      (bcons (sif (tcmp (op_eqD hr.units) (ev 0) (etupQ (acons estr anil)) (nomark _)) (bone (sret ebl)) bnil)
      (bone (sret (eand (ecmp op_eq (ecallB call_lenQ rfl B.len bt_len (acons (ev 0) anil)) ei (nomark _)) (eand (ecmp op_inQ (eix ix_Q (ev 0) ei (fun _ _ => rfl)) (ev 1) (by with_unfolding_all rfl)) (eand (ecallB call_isinstQ rfl B.isinstance bt_isinstance (acons (eix ix_Q (ev 0) ei (fun _ _ => rfl)) (acons (etyp rfl B.int bt_int) anil))) (eone (enot (ecallB call_isinstQ rfl B.isinstance bt_isinstance (acons (eix ix_Q (ev 0) ei (fun _ _ => rfl)) (acons (etyp rfl B.bool bt_bool) anil)))))))))))), ?_⟩
  try walk_at "rn"
  refine ⟨_, ty, _, k1, ?_⟩
  cases d with
  | tuple ds =>
    have hdd := hd
    unfold Dt at hd
    obtain ⟨r, us, rfl, hr1, hu⟩ := hd
    simp only [isT]
    simp only [tSeq, tNext, tIfS, tAsg, gName, gSub, tRet, tRetN, tDrop, tVar, tC, tOp, tUn, rI0, rI, rU, tTest, tB, tAndV, tOrV, tNotV, tAnd, tOr, tNot, tIf, tChain, tCB, tCons, tNil, tLst, tTup, tCallC, List.getElem?_cons_zero, List.getElem?_cons_succ, List.set_cons_zero, List.set_cons_succ, Option.some.injEq, V.int.injEq, V.bl.injEq, V.ref.injEq, V.ty.injEq, V.str.injEq, List.cons.injEq, exists_eq_left', exists_eq_left, exists_and_left, and_true, true_and, and_assoc, cxK, rIxF, rSetL, rEq, rNe, scal, HO.lst.injEq, HO.tup.injEq, upd_none, ixN_10, ixN_20, ixN_21, ixN_30, ixN_31, ixN_32, upd_same, seqAt_updL, seqAt_updT, atI_0, atI_1, atI_2, atI_3, decide_eq_true_eq, L2.start, List.map_cons, List.map_nil, List.length_cons, List.length_nil, Nat.reduceAdd, Nat.reduceSub, List.replicate_succ, List.replicate_zero, List.cons_append, List.nil_append, List.append_nil, tFor_rng1, tFor_rng2, tFor_list, tFor_tup, CDv, CMul, CPow, sizeLine_eq, Int.reduceLE, Int.reduceLT, Int.reducePow, Int.reduceToNat, Int.reduceAdd, Int.reduceSub, Int.reduceMul, Int.reduceNeg, Nat.reduceLeDiff, Nat.reducePow, Nat.reduceLT, Int.reduceEq, true_or, or_true, ite_true, ite_false, if_true, if_false, Bool.not_true, Bool.not_false, Bool.false_eq_true, decide_true, decide_false, rIxQ, seqQ_updL, seqQ_updT, tupQ_updT, tSl, tNoPart, tPart, rSlQ, rSlTX, rCatQ, rCatTX, rCatTX0, tTupQ, tLstQ, tNever, rEqD, rInQ, gTupQ, gCons, gNil, tBM, rAppend, rCountT, rIndexT, cxN, tCall, tRaise, tTry, tAsk, tWord, Ends.gone, pick_nil, pick_own, pick_cap, join_some, seqQ_T hr1]
    rcases ds with _ | ⟨d1, _ | ⟨d2, _ | ⟨d3, ds⟩⟩⟩
    · unfold DtAll at hu
      subst hu
      exact q _ Ext.refl
    · simp only [DtAll] at hu
      obtain ⟨v1, _, rfl, h1, rfl⟩ := hu
      obtain ⟨t1, ty1, _, s1, _⟩ := h1.ty
      rw [if_neg (by simp), if_neg (by simp)]
      refine ⟨_, rfl, _, ty1, _, s1, ?_⟩
      cases d1 with
      | str x =>
        unfold Dt at h1
        subst h1
        simp only [isS]
        try walk_at "rn"
        intro p1 n1
        have x1 := Ext.new (K := K) (o := .tup [V.str "gone"]) n1
        have is1 := (hdd.ext x1).is
        have is2 : Is K (upd H p1 (.tup [V.str "gone"])) (.tuple [.str "gone"]) (.ref p1) := by
          simp only [Is, IsAll]
          exact ⟨p1, _, rfl, tupQ_sq tupQ_updT, _, _, rfl, rfl, rfl⟩
        refine ⟨_, is1, _, is2, sh, by decide +kernel, ?_⟩
        have q := q _ x1
        rw [eqv_g1]
        simp only [isHf] at q
        by_cases hx : x = "gone"
        · rw [decide_eq_true hx] at q ⊢
          exact q
        · rw [decide_eq_false hx] at q ⊢
          simp only [tSeq, tNext, tIfS, tAsg, gName, gSub, tRet, tRetN, tDrop, tVar, tC, tOp, tUn, rI0, rI, rU, tTest, tB, tAndV, tOrV, tNotV, tAnd, tOr, tNot, tIf, tChain, tCB, tCons, tNil, tLst, tTup, tCallC, List.getElem?_cons_zero, List.getElem?_cons_succ, List.set_cons_zero, List.set_cons_succ, Option.some.injEq, V.int.injEq, V.bl.injEq, V.ref.injEq, V.ty.injEq, V.str.injEq, List.cons.injEq, exists_eq_left', exists_eq_left, exists_and_left, and_true, true_and, and_assoc, cxK, rIxF, rSetL, rEq, rNe, scal, HO.lst.injEq, HO.tup.injEq, upd_none, ixN_10, ixN_20, ixN_21, ixN_30, ixN_31, ixN_32, upd_same, seqAt_updL, seqAt_updT, atI_0, atI_1, atI_2, atI_3, decide_eq_true_eq, L2.start, List.map_cons, List.map_nil, List.length_cons, List.length_nil, Nat.reduceAdd, Nat.reduceSub, List.replicate_succ, List.replicate_zero, List.cons_append, List.nil_append, List.append_nil, tFor_rng1, tFor_rng2, tFor_list, tFor_tup, CDv, CMul, CPow, sizeLine_eq, Int.reduceLE, Int.reduceLT, Int.reducePow, Int.reduceToNat, Int.reduceAdd, Int.reduceSub, Int.reduceMul, Int.reduceNeg, Nat.reduceLeDiff, Nat.reducePow, Nat.reduceLT, Int.reduceEq, true_or, or_true, ite_true, ite_false, if_true, if_false, Bool.not_true, Bool.not_false, Bool.false_eq_true, decide_true, decide_false, rIxQ, seqQ_updL, seqQ_updT, tupQ_updT, tSl, tNoPart, tPart, rSlQ, rSlTX, rCatQ, rCatTX, rCatTX0, tTupQ, tLstQ, tNever, rEqD, rInQ, gTupQ, gCons, gNil, tBM, rAppend, rCountT, rIndexT, cxN, tCall, tRaise, tTry, tAsk, tWord, Ends.gone, pick_nil, pick_own, pick_cap, join_some, seqQ_T (x1.tup hr1)]
          exact q
      | _ => exact q _ Ext.refl
    · simp only [DtAll] at hu
      obtain ⟨v1, _, rfl, h1, v2, _, rfl, h2, rfl⟩ := hu
      obtain ⟨t1, ty1, _, s1, _⟩ := h1.ty
      rw [if_neg (by simp), if_neg (by simp)]
      refine ⟨_, rfl, _, ty1, _, s1, ?_⟩
      cases d1 with
      | str x =>
        unfold Dt at h1
        subst h1
        simp only [isS]
        try walk_at "rn"
        intro p1 n1
        have x1 := Ext.new (K := K) (o := .tup [V.str "gone"]) n1
        have is1 := (hdd.ext x1).is
        have is2 : Is K (upd H p1 (.tup [V.str "gone"])) (.tuple [.str "gone"]) (.ref p1) := by
          simp only [Is, IsAll]
          exact ⟨p1, _, rfl, tupQ_sq tupQ_updT, _, _, rfl, rfl, rfl⟩
        refine ⟨_, is1, _, is2, sh, by decide +kernel, ?_⟩
        have q := q _ x1
        have h2 := h2.ext x1
        have e2 := seqQ_T (x1.tup hr1)
        have e3 := ha2 _ x1
        generalize upd H p1 (.tup [V.str "gone"]) = H1 at q h2 e2 e3 ⊢
        rw [eqv_g2]
        obtain ⟨t2, ty2, _, _, i2, b2⟩ := h2.ty
        simp only [isHf] at q
        simp only [tSeq, tNext, tIfS, tAsg, gName, gSub, tRet, tRetN, tDrop, tVar, tC, tOp, tUn, rI0, rI, rU, tTest, tB, tAndV, tOrV, tNotV, tAnd, tOr, tNot, tIf, tChain, tCB, tCons, tNil, tLst, tTup, tCallC, List.getElem?_cons_zero, List.getElem?_cons_succ, List.set_cons_zero, List.set_cons_succ, Option.some.injEq, V.int.injEq, V.bl.injEq, V.ref.injEq, V.ty.injEq, V.str.injEq, List.cons.injEq, exists_eq_left', exists_eq_left, exists_and_left, and_true, true_and, and_assoc, cxK, rIxF, rSetL, rEq, rNe, scal, HO.lst.injEq, HO.tup.injEq, upd_none, ixN_10, ixN_20, ixN_21, ixN_30, ixN_31, ixN_32, upd_same, seqAt_updL, seqAt_updT, atI_0, atI_1, atI_2, atI_3, decide_eq_true_eq, L2.start, List.map_cons, List.map_nil, List.length_cons, List.length_nil, Nat.reduceAdd, Nat.reduceSub, List.replicate_succ, List.replicate_zero, List.cons_append, List.nil_append, List.append_nil, tFor_rng1, tFor_rng2, tFor_list, tFor_tup, CDv, CMul, CPow, sizeLine_eq, Int.reduceLE, Int.reduceLT, Int.reducePow, Int.reduceToNat, Int.reduceAdd, Int.reduceSub, Int.reduceMul, Int.reduceNeg, Nat.reduceLeDiff, Nat.reducePow, Nat.reduceLT, Int.reduceEq, true_or, or_true, ite_true, ite_false, if_true, if_false, Bool.not_true, Bool.not_false, Bool.false_eq_true, decide_true, decide_false, rIxQ, seqQ_updL, seqQ_updT, tupQ_updT, tSl, tNoPart, tPart, rSlQ, rSlTX, rCatQ, rCatTX, rCatTX0, tTupQ, tLstQ, tNever, rEqD, rInQ, gTupQ, gCons, gNil, tBM, rAppend, rCountT, rIndexT, cxN, tCall, tRaise, tTry, tAsk, tWord, Ends.gone, pick_nil, pick_own, pick_cap, join_some, e2,  e3,  Int.cast_ofNat_Int]
        refine ⟨rfl, hf, ?_⟩
        split
        · rename_i hi
          rw [hi, Bool.true_and] at q
          refine ⟨_, ty2, _, i2, ?_⟩
          split
          · rename_i hj
            refine ⟨_, ty2, _, b2, ?_⟩
            cases d2 <;> simp only [isI, Bool.false_eq_true] at hj <;> exact q
          · rename_i hj
            cases d2 <;> simp only [isI, not_true_eq_false] at hj <;> exact q
        · rename_i hi
          rw [Bool.not_eq_true] at hi
          rw [hi, Bool.false_and] at q
          exact q
      | _ => exact q _ Ext.refl
    · have hl := hu.length
      rw [if_neg (by rw [hl, List.length_cons]; omega), if_pos (by rw [hl]; simp only [List.length_cons]; omega)]
      cases d1 <;> exact q _ Ext.refl
  | _ => exact q _ Ext.refl
theorem sc__law_is_action : FnScope ["_law_thing"] ["_law_thing"] (defScope s__law_is_action) := ⟨rfl, rfl, rfl, by decide +kernel, rfl, by decide +kernel, by decide +kernel⟩
theorem shaped_parts {a b : PyData} (h : SeqAt.shaped (.tuple [a, b]) = true) : SeqAt.shaped a = true ∧ SeqAt.shaped b = true := by
  simp only [SeqAt.shaped, PyData.canLay0, PyData.canLayAll0, PyData.depth, PyData.depthAll, Bool.and_eq_true, decide_eq_true_eq, and_true] at h ⊢
  obtain ⟨⟨h1, h2⟩, h3⟩ := h
  have h3 := of_decide_eq_true h3
  refine ⟨⟨h1, ?_⟩, h2, ?_⟩ <;> omega
theorem ok__law_is_action {f : Addr} {fd : FuncData} (F : Fun K "_law_is_action" "_law_is_action" s__law_is_action f fd) {aG cF cA cD cN cK cS : Addr} {tE : Tok} (B : B K mg aG tE cF cA cD cN cK cS) (C__law_is_half : Callee P w K mg base "_law_is_half" 1 ["_law_half", "_law_words"] (spLHalf K)) : FnOk P w K mg base CX0 2 f fd ["_law_thing"] (spLAct K) := by
  refine F.okJ sc__law_is_action (fun vs H Q E h => ?_) (fun cdv A outer s H vs Q E hr h => ?_)
  · obtain ⟨v, p, d, rfl, _⟩ := h
    rfl
  obtain ⟨v, p, d, rfl, hd, sh, q⟩ := h
  obtain ⟨t, ty, k1, k2, k3, k4⟩ := hd.ty
  refine ⟨_, (bcons (sif (tw (wor (tnot (tval (ecallB call_isinstQ rfl B.isinstance bt_isinstance (acons (ev 0) (acons (etyp rfl B.tuple bt_tuple) anil))))) (wor1 (tcmp op_ne (ecallB call_lenQ rfl B.len bt_len (acons (ev 0) anil)) ei (nomark _))))) (bone (sret ebl)) bnil)
      (bone (sret (eand (ecall C__law_is_half (hr.mono (by decide)) rfl (acons (eix ix_Q (ev 0) ei (fun _ _ => rfl)) (acons (elstQ (acons estr (acons estr anil))) anil))) (eone (ecall C__law_is_half (hr.mono (by decide)) rfl (acons (eix ix_Q (ev 0) ei (fun _ _ => rfl)) (acons (elstQ (acons estr anil)) anil)))))))), ?_⟩
  try walk_at "rn"
  refine ⟨_, ty, _, k1, ?_⟩
  cases d with
  | tuple ds =>
    unfold Dt at hd
    obtain ⟨r, us, rfl, hr1, hu⟩ := hd
    simp only [isT]
    simp only [tSeq, tNext, tIfS, tAsg, gName, gSub, tRet, tRetN, tDrop, tVar, tC, tOp, tUn, rI0, rI, rU, tTest, tB, tAndV, tOrV, tNotV, tAnd, tOr, tNot, tIf, tChain, tCB, tCons, tNil, tLst, tTup, tCallC, List.getElem?_cons_zero, List.getElem?_cons_succ, List.set_cons_zero, List.set_cons_succ, Option.some.injEq, V.int.injEq, V.bl.injEq, V.ref.injEq, V.ty.injEq, V.str.injEq, List.cons.injEq, exists_eq_left', exists_eq_left, exists_and_left, and_true, true_and, and_assoc, cxK, rIxF, rSetL, rEq, rNe, scal, HO.lst.injEq, HO.tup.injEq, upd_none, ixN_10, ixN_20, ixN_21, ixN_30, ixN_31, ixN_32, upd_same, seqAt_updL, seqAt_updT, atI_0, atI_1, atI_2, atI_3, decide_eq_true_eq, L2.start, List.map_cons, List.map_nil, List.length_cons, List.length_nil, Nat.reduceAdd, Nat.reduceSub, List.replicate_succ, List.replicate_zero, List.cons_append, List.nil_append, List.append_nil, tFor_rng1, tFor_rng2, tFor_list, tFor_tup, CDv, CMul, CPow, sizeLine_eq, Int.reduceLE, Int.reduceLT, Int.reducePow, Int.reduceToNat, Int.reduceAdd, Int.reduceSub, Int.reduceMul, Int.reduceNeg, Nat.reduceLeDiff, Nat.reducePow, Nat.reduceLT, Int.reduceEq, true_or, or_true, ite_true, ite_false, if_true, if_false, Bool.not_true, Bool.not_false, Bool.false_eq_true, decide_true, decide_false, rIxQ, seqQ_updL, seqQ_updT, tupQ_updT, tSl, tNoPart, tPart, rSlQ, rSlTX, rCatQ, rCatTX, rCatTX0, tTupQ, tLstQ, tNever, rEqD, rInQ, gTupQ, gCons, gNil, tBM, rAppend, rCountT, rIndexT, cxN, tCall, tRaise, tTry, tAsk, tWord, Ends.gone, pick_nil, pick_own, pick_cap, join_some, seqQ_T hr1,  hr1]
    rcases ds with _ | ⟨d1, _ | ⟨d2, _ | ⟨d3, ds⟩⟩⟩
    · unfold DtAll at hu
      subst hu
      exact q _ Ext.refl
    · simp only [DtAll] at hu
      obtain ⟨v1, _, rfl, h1, rfl⟩ := hu
      exact q _ Ext.refl
    · simp only [DtAll] at hu
      obtain ⟨v1, _, rfl, h1, v2, _, rfl, h2, rfl⟩ := hu
      obtain ⟨sh1, sh2⟩ := shaped_parts sh
      rw [if_neg (by simp)]
      refine ⟨_, rfl, fun p1 n1 => ?_⟩
      have x1 := Ext.new (K := K) (o := .lst [.str "plus", .str "is"]) n1
      refine ⟨v1, p, d1, p1, _, rfl, h1.ext x1, sh1, seqQ_updL, rfl, fun G y => seqQ_lst (y.same _ _ upd_same), fun H1 y1 => ⟨_, rfl, ?_⟩⟩
      split
      · rename_i hi
        refine ⟨_, seqQ_T ((x1.trans y1).tup hr1), _, rfl, fun p2 n2 => ?_⟩
        have x2 := Ext.new (K := K) (o := .lst [.str "is"]) n2
        have x3 := x1.trans (y1.trans x2)
        refine ⟨v2, p, d2, p2, _, rfl, h2.ext x3, sh2, seqQ_updL, rfl, fun G y => seqQ_lst (y.same _ _ upd_same), fun H2 y2 => ?_⟩
        have := q H2 (x3.trans y2)
        simp only [isAc, hi, Bool.true_and] at this
        exact this
      · rename_i hi
        rw [Bool.not_eq_true] at hi
        have := q H1 (x1.trans y1)
        simp only [isAc, hi, Bool.false_and] at this
        exact this
    · have hl := hu.length
      rw [if_pos ?_]
      · exact q _ Ext.refl
      · rw [hl]
        simp only [List.length_cons, Bool.not_eq_true', decide_eq_false_iff_not]
        omega
  | _ => exact q _ Ext.refl
def spLNt (K : PySem.W.Frag) : Sp := fun vs H Q _ => ∃ v S d, vs = [v] ∧ Dt K S H d v ∧ SeqAt.shaped d = true ∧ (∀ n r, d = .tuple (.int n :: r) → n ≤ 10 ^ 60) ∧ ∀ H', Ext K H H' → Q (.bl (isNt d)) H'
theorem sc__law_whole : FnScope ["_law_thing", "_law_low", "_law_high"] ["_law_thing", "_law_low", "_law_high"] (defScope s__law_whole) := ⟨rfl, rfl, rfl, by decide +kernel, rfl, by decide +kernel, by decide +kernel⟩
theorem ok__law_whole {f : Addr} {fd : FuncData} (F : Fun K "_law_whole" "_law_whole" s__law_whole f fd) {aG cF cA cD cN cK cS : Addr} {tE : Tok} (B : B K mg aG tE cF cA cD cN cK cS) : FnOk P w K mg base CX0 1 f fd ["_law_thing", "_law_low", "_law_high"] (spWholeD K) := by
  refine F.okJ sc__law_whole (fun vs H Q E h => ?_) (fun cdv A outer s H vs Q E hr h => ?_)
  · obtain ⟨v, S, d, lo, hi, rfl, _⟩ := h
    rfl
  obtain ⟨v, S, d, lo, hi, rfl, hd, q⟩ := h
  obtain ⟨t, ty, _, _, k3, k4⟩ := hd.ty
  refine ⟨_, (bone (sret (eand (ecallB call_isinstQ rfl B.isinstance bt_isinstance (acons (ev 0) (acons (etyp rfl B.int bt_int) anil))) (eand (enot (ecallB call_isinstQ rfl B.isinstance bt_isinstance (acons (ev 0) (acons (etyp rfl B.bool bt_bool) anil)))) (eone (echain op_le op_le (ev 1) (ev 0) (ev 2))))))), ?_⟩
  try walk_at "rn"
  refine ⟨_, ty, _, k3, ?_⟩
  cases d <;> simp only [isI, isW, if_true, if_false, Bool.false_eq_true] at q ⊢ <;> try exact q
  · exact ⟨_, ty, _, k4, q⟩
  · refine ⟨_, ty, _, k4, ?_⟩
    unfold Dt at hd
    subst hd
    simp only [isB, Bool.not_false, if_true]
    refine ⟨_, rfl, ?_⟩
    split
    · rename_i h1
      refine ⟨_, rfl, ?_⟩
      simp only [h1, true_and] at q
      exact q
    · rename_i h1
      simp only [h1, false_and, decide_false] at q
      exact q
theorem sc__law_is_stretch : FnScope ["_law_low", "_law_high"] ["_law_low", "_law_high"] (defScope s__law_is_stretch) := ⟨rfl, rfl, rfl, by decide +kernel, rfl, by decide +kernel, by decide +kernel⟩
theorem ok__law_is_stretch {f : Addr} {fd : FuncData} (F : Fun K "_law_is_stretch" "_law_is_stretch" s__law_is_stretch f fd) {aG cF cA cD cN cK cS : Addr} {tE : Tok} (B : B K mg aG tE cF cA cD cN cK cS) (C__law_whole : Callee P w K mg base "_law_whole" 1 ["_law_thing", "_law_low", "_law_high"] (spWholeD K)) : FnOk P w K mg base CX0 2 f fd ["_law_low", "_law_high"] (spIsStD K) := by
  refine F.okJ sc__law_is_stretch (fun vs H Q E h => ?_) (fun cdv A outer s H vs Q E hr h => ?_)
  · obtain ⟨v, S, d, v', S', d', rfl, _⟩ := h
    rfl
  obtain ⟨v, S, d, v', S', d', rfl, hd, hd', q⟩ := h
  refine ⟨_, (bone (sret (eand (ecall C__law_whole (hr.mono (by decide)) rfl (acons (ev 0) (acons ei (acons (eop op_sub (epowc 1000000000000) ei) anil)))) (eone (ecall C__law_whole (hr.mono (by decide)) rfl (acons (ev 1) (acons (eop op_add (ev 0) ei) (acons (epowc 1000000000000) anil)))))))), ?_⟩
  try walk_at "rn"
  refine ⟨v, S, d, 0, 999999999999, rfl, hd, _, rfl, ?_⟩
  split
  · rename_i h1
    obtain ⟨i, rfl, i1, i2⟩ := isW_int h1
    unfold Dt at hd
    subst hd
    refine ⟨_, rfl, v', S', d', i + 1, 1000000000000, rfl, hd', ?_⟩
    have : isW (i + 1) 1000000000000 d' = isSt (.int i) d' := by
      cases d' <;> simp only [isW, isSt]
      exact decide_eq_decide.mpr ⟨fun z => ⟨i1, by omega, z.2⟩, fun z => ⟨by omega, z.2.2⟩⟩
    rw [this]
    exact q
  · rename_i h1
    have : isSt d d' = false := by
      cases d <;> simp only [isSt, isW] at h1 ⊢
      cases d' <;> simp only [isSt]
      refine decide_eq_false fun z => h1 (decide_eq_true ⟨z.1, ?_⟩)
      omega
    rw [this] at q
    exact q
theorem sc__law_is_note : FnScope ["_law_thing"] ["_law_thing"] (defScope s__law_is_note) := ⟨rfl, rfl, rfl, by decide +kernel, rfl, by decide +kernel, by decide +kernel⟩
theorem ok__law_is_note {f : Addr} {fd : FuncData} (F : Fun K "_law_is_note" "_law_is_note" s__law_is_note f fd) {aG cF cA cD cN cK cS : Addr} {tE : Tok} (B : B K mg aG tE cF cA cD cN cK cS) (C__law_whole : Callee P w K mg base "_law_whole" 1 ["_law_thing", "_law_low", "_law_high"] (spWholeD K)) (C__law_is_stretch : Callee P w K mg base "_law_is_stretch" 2 ["_law_low", "_law_high"] (spIsStD K)) (C__law_is_action : Callee P w K mg base "_law_is_action" 2 ["_law_thing"] (spLAct K)) : FnOk P w K mg base CX0 3 f fd ["_law_thing"] (spLNt K) := by
  refine F.okJ sc__law_is_note (fun vs H Q E h => ?_) (fun cdv A outer s H vs Q E hr h => ?_)
  · obtain ⟨v, S, d, rfl, _⟩ := h
    rfl
  obtain ⟨v, S, d, rfl, hd, sh, bd, q⟩ := h
  obtain ⟨t, ty, k1, _⟩ := hd.ty
  refine ⟨_, (bcons (sif (tw (wor (tnot (tval (ecallB call_isinstQ rfl B.isinstance bt_isinstance (acons (ev 0) (acons (etyp rfl B.tuple bt_tuple) anil))))) (wor (tcmp op_ne (ecallB call_lenQ rfl B.len bt_len (acons (ev 0) anil)) ei (nomark _)) (wor1 (tnot (tval (ecall C__law_whole (hr.mono (by decide)) rfl (acons (eix ix_Q (ev 0) ei (fun _ _ => rfl)) (acons ei (acons (epowc 1000000000000000000000000000000000000000000000000000000000000) anil)))))))))) (bone (sret ebl)) bnil)
      (bcons (sif (tw (wor (tnot (tval (ecall C__law_is_stretch (hr.mono (by decide)) rfl (acons (eix ix_Q (ev 0) ei (fun _ _ => rfl)) (acons (eix ix_Q (ev 0) ei (fun _ _ => rfl)) anil))))) (wor1 (tnot (tval (ecall C__law_is_action (hr.mono (by decide)) rfl (acons (eix ix_Q (ev 0) ei (fun _ _ => rfl)) anil))))))) (bone (sret ebl)) bnil)
      (bone (sret (eor (ecmp op_eq (eop op_sub (eix ix_Q (ev 0) ei (fun _ _ => rfl)) (eix ix_Q (ev 0) ei (fun _ _ => rfl))) ei (nomark _)) (eone (ecmp (op_eqD hr.units) (eix ix_Q (eix ix_Q (ev 0) ei (fun _ _ => rfl)) ei (fun _ _ => rfl)) (etupQ (acons estr anil)) (nomark _)))))))), ?_⟩
  try walk_at "rn"
  refine ⟨_, ty, _, k1, ?_⟩
  cases d with
  | tuple ds =>
    unfold Dt at hd
    obtain ⟨r, us, rfl, hr1, hu⟩ := hd
    simp only [isT]
    simp only [tSeq, tNext, tIfS, tAsg, gName, gSub, tRet, tRetN, tDrop, tVar, tC, tOp, tUn, rI0, rI, rU, tTest, tB, tAndV, tOrV, tNotV, tAnd, tOr, tNot, tIf, tChain, tCB, tCons, tNil, tLst, tTup, tCallC, List.getElem?_cons_zero, List.getElem?_cons_succ, List.set_cons_zero, List.set_cons_succ, Option.some.injEq, V.int.injEq, V.bl.injEq, V.ref.injEq, V.ty.injEq, V.str.injEq, List.cons.injEq, exists_eq_left', exists_eq_left, exists_and_left, and_true, true_and, and_assoc, cxK, rIxF, rSetL, rEq, rNe, scal, HO.lst.injEq, HO.tup.injEq, upd_none, ixN_10, ixN_20, ixN_21, ixN_30, ixN_31, ixN_32, upd_same, seqAt_updL, seqAt_updT, atI_0, atI_1, atI_2, atI_3, decide_eq_true_eq, L2.start, List.map_cons, List.map_nil, List.length_cons, List.length_nil, Nat.reduceAdd, Nat.reduceSub, List.replicate_succ, List.replicate_zero, List.cons_append, List.nil_append, List.append_nil, tFor_rng1, tFor_rng2, tFor_list, tFor_tup, CDv, CMul, CPow, sizeLine_eq, Int.reduceLE, Int.reduceLT, Int.reducePow, Int.reduceToNat, Int.reduceAdd, Int.reduceSub, Int.reduceMul, Int.reduceNeg, Nat.reduceLeDiff, Nat.reducePow, Nat.reduceLT, Int.reduceEq, true_or, or_true, ite_true, ite_false, if_true, if_false, Bool.not_true, Bool.not_false, Bool.false_eq_true, decide_true, decide_false, rIxQ, seqQ_updL, seqQ_updT, tupQ_updT, tSl, tNoPart, tPart, rSlQ, rSlTX, rCatQ, rCatTX, rCatTX0, tTupQ, tLstQ, tNever, rEqD, rInQ, gTupQ, gCons, gNil, tBM, rAppend, rCountT, rIndexT, cxN, tCall, tRaise, tTry, tAsk, tWord, Ends.gone, pick_nil, pick_own, pick_cap, join_some, seqQ_T hr1,  hr1]
    have hl := hu.length
    by_cases h4 : us.length = 4
    · rw [if_neg (by rw [h4]; decide)]
      rw [h4] at hl
      rcases ds with _ | ⟨d1, _ | ⟨d2, _ | ⟨d3, _ | ⟨d4, _ | ⟨d5, ds⟩⟩⟩⟩⟩ <;> simp only [List.length_cons, List.length_nil] at hl <;> try omega
      simp only [DtAll] at hu
      obtain ⟨v1, _, rfl, g1, v2, _, rfl, g2, v3, _, rfl, g3, v4, _, rfl, g4, rfl⟩ := hu
      simp only [isNt] at q
      refine ⟨_, rfl, v1, S, d1, 1, 10 ^ 60, rfl, g1, _, rfl, ?_⟩
      have c0 : isW 1 (10 ^ 60) d1 = isF 1 d1 := by
        cases d1 <;> simp only [isW, isF]
        have := bd _ _ rfl
        exact decide_eq_decide.mpr ⟨fun z => z.1, fun z => ⟨z, this⟩⟩
      rw [c0]
      cases c1 : isF 1 d1
      · simp only [c1, Bool.false_and] at q
        exact q _ Ext.refl
      simp only [c1, Bool.true_and] at q
      have er := seqQ_T hr1
      simp only [Bool.not_true, Bool.false_eq_true, if_false]
      refine ⟨_, er, _, rfl, _, er, _, rfl, v2, S, d2, v3, S, d3, rfl, g2, g3, _, rfl, ?_⟩
      cases c2 : isSt d2 d3
      · simp only [c2, Bool.false_and] at q
        exact q _ Ext.refl
      simp only [c2, Bool.true_and] at q
      simp only [Bool.not_true, Bool.false_eq_true, if_false]
      refine ⟨_, er, _, rfl, v4, S, d4, rfl, g4, shaped_mem sh (by simp), fun H1 x1 => ⟨_, rfl, ?_⟩⟩
      cases c3 : isAc d4
      · simp only [c3, Bool.false_and] at q
        exact q _ x1
      simp only [c3, Bool.true_and] at q
      simp only [Bool.not_true, Bool.false_eq_true, if_false]
      obtain ⟨i, j, rfl, rfl, _⟩ := isSt_int c2
      unfold Dt at g2 g3
      subst g2 g3
      have er1 := seqQ_T (x1.tup hr1)
      refine ⟨_, er1, _, rfl, _, er1, _, rfl, _, rfl, _, rfl, ?_⟩
      simp only [dif] at q
      split
      · rename_i c4
        simp only [c4, decide_true, Bool.true_or] at q
        exact q _ x1
      · rename_i c4
        simp only [c4, decide_false, Bool.false_or] at q
        obtain ⟨t, m, rfl, np⟩ := isAc_of c3
        have g4 := g4.ext x1
        simp only [Dt, DtAll] at g4
        obtain ⟨b, _, rfl, e1, w1, _, rfl, g41, w2, _, rfl, g42, rfl⟩ := g4
        refine ⟨_, er1, _, rfl, _, rfl, _, seqQ_T e1, _, rfl, fun p2 n2 => ?_⟩
        have x2 := Ext.new (K := K) (o := .tup [V.str "gone"]) n2
        refine ⟨m.hd, (g42.ext x2).is, gn, Half.is_hd (h := .gone) tupQ_updT, m.shaped, by decide +kernel, ?_⟩
        simp only [sec] at q
        exact q _ (x1.trans x2)
    · rw [if_pos (by simp only [Bool.not_eq_true', decide_eq_false_iff_not]; omega)]
      have : isNt (.tuple ds) = false := by
        unfold isNt
        split
        · rename_i e
          cases e
          exact absurd hl h4
        · rfl
      rw [this] at q
      exact q _ Ext.refl
  | _ => exact q _ Ext.refl
def Dn (K : PySem.W.Frag) (p : Addr → Prop) (H : Hp) (n : Nat) (v : V) : Prop := ∃ d, Dt K p H d v ∧ d.canLay0 = true ∧ d.depth ≤ n
section
variable {p : Addr → Prop} {H H' : Hp} {n : Nat} {v : V}
theorem Dn.ext (h : Dn K p H n v) (x : Ext K H H') : Dn K p H' n v := let ⟨d, h1, h2⟩ := h; ⟨d, h1.ext x, h2⟩
theorem Dn.kp {xs : List V} {b : Addr} (h : Dn K p H n v) (k : Kp K b H H') (hp : H b = some (.lst xs)) (hS : p b) : Dn K p H' n v := let ⟨d, h1, h2⟩ := h; ⟨d, h1.kp k hp hS, h2⟩
def tr (H : Hp) : Addr → Prop := fun a => H a ≠ none
theorem kp_was {b a : Addr} {o o' : HO} (k : Kp K b H H') (hp : H b = some o) (hp' : H' b = some o') (hn : H' a = none) : ¬ tr H a := by
  intro z
  cases e : H a with
  | none => exact z e
  | some u =>
    by_cases hab : a = b
    · subst hab
      rw [hp'] at hn
      cases hn
    · rw [k.keep a u e hab] at hn
      cases hn
theorem Dn.mono {m : Nat} (h : Dn K p H n v) (l : n ≤ m) : Dn K p H m v := let ⟨d, h1, h2, h3⟩ := h; ⟨d, h1, h2, Nat.le_trans h3 l⟩
theorem Dn.int (i : Int) : Dn K p H 1 (.int i) := ⟨.int i, by unfold Dt; rfl, rfl, by simp only [PyData.depth]; decide⟩
theorem Dn.bl (b : Bool) : Dn K p H 1 (.bl b) := ⟨.bool b, by unfold Dt; rfl, rfl, by simp only [PyData.depth]; decide⟩
theorem Dn.non : Dn K p H 1 .non := ⟨.none, by unfold Dt; rfl, rfl, by simp only [PyData.depth]; decide⟩
theorem Dn.str {x : Str} (h : PyData.canLay0 (.str x) = true) : Dn K p H 1 (.str x) := ⟨.str x, by unfold Dt; rfl, h, by simp only [PyData.depth]; decide⟩
theorem Dn.all : ∀ (vs : List V), (∀ v ∈ vs, Dn K p H n v) → ∃ ds, DtAll K p H ds vs ∧ PyData.canLayAll0 ds = true ∧ PyData.depthAll ds ≤ n
  | [], _ => ⟨[], by unfold DtAll; rfl, by simp only [PyData.canLayAll0], by simp only [PyData.depthAll]; omega⟩
  | v :: vs, h => by
    obtain ⟨d, h1, h2, h3⟩ := h v (List.mem_cons_self ..)
    obtain ⟨ds, g1, g2, g3⟩ := Dn.all vs fun u hu => h u (List.mem_cons_of_mem _ hu)
    refine ⟨d :: ds, by unfold DtAll; exact ⟨v, vs, rfl, h1, g1⟩, by simp only [PyData.canLayAll0, h2, g2, Bool.and_self], ?_⟩
    simp only [PyData.depthAll]
    omega
theorem Dn.tup {a : Addr} {vs : List V} (e : tupQ K H a = some vs) (h : ∀ v ∈ vs, Dn K p H n v) : Dn K p H (n + 1) (.ref a) := by
  obtain ⟨ds, g1, g2, g3⟩ := Dn.all vs h
  refine ⟨.tuple ds, by unfold Dt; exact ⟨a, vs, rfl, e, g1⟩, by simp only [PyData.canLay0, g2], ?_⟩
  simp only [PyData.depth]
  omega
theorem Dn.lst {a : Addr} {vs : List V} (e : H a = some (.lst vs)) (ne : ¬ p a) (h : ∀ v ∈ vs, Dn K p H n v) : Dn K p H (n + 1) (.ref a) := by
  obtain ⟨ds, g1, g2, g3⟩ := Dn.all vs h
  refine ⟨.list ds, by unfold Dt; exact ⟨a, vs, rfl, ne, e, g1⟩, by simp only [PyData.canLay0, g2], ?_⟩
  simp only [PyData.depth]
  omega
theorem Dn.half (h : Half) : ∀ v ∈ h.v, Dn K p H 1 v := by
  intro v hv
  cases h <;> simp only [Half.v, List.mem_cons, List.not_mem_nil, or_false] at hv
  · rcases hv with rfl | rfl
    · exact .str (by decide +kernel)
    · exact .int _
  · rcases hv with rfl | rfl
    · exact .str (by decide +kernel)
    · exact .int _
  · subst hv
    exact .str (by decide +kernel)
theorem mem_cut {xs : List V} {lo hi : Option Int} (h : v ∈ cutV xs lo hi) : v ∈ xs := List.mem_of_mem_drop (List.mem_of_mem_take h)
end
def Dm (K : PySem.W.Frag) (S : Addr → Prop) (H : Hp) (n : Nat) (v : V) : Prop := ∃ d, Dt K S H d v ∧ d.canLay0 = true ∧ d.depth ≤ n ∧ ∀ i r, d = .tuple (.int i :: r) → i ≤ 10 ^ 60
section
variable {S : Addr → Prop} {H H' : Hp} {n : Nat} {v : V}
theorem Dm.mono {m : Nat} (h : Dm K S H n v) (l : n ≤ m) : Dm K S H m v := let ⟨d, h1, h2, h3, h4⟩ := h; ⟨d, h1, h2, Nat.le_trans h3 l, h4⟩
theorem Dm.ext (h : Dm K S H n v) (x : Ext K H H') : Dm K S H' n v := let ⟨d, h1, h2⟩ := h; ⟨d, h1.ext x, h2⟩
theorem Dm.kp {xs : List V} {b : Addr} (h : Dm K S H n v) (k : Kp K b H H') (hp : H b = some (.lst xs)) (hS : S b) : Dm K S H' n v := let ⟨d, h1, h2⟩ := h; ⟨d, h1.kp k hp hS, h2⟩
theorem Dm.tup {a : Addr} {vs : List V} (e : tupQ K H a = some vs) (h : ∀ v ∈ vs, Dn K S H n v) (hb : ∀ i r, vs = .int i :: r → i ≤ 10 ^ 60) : Dm K S H (n + 1) (.ref a) := by
  obtain ⟨ds, g1, g2, g3⟩ := Dn.all vs h
  refine ⟨.tuple ds, by unfold Dt; exact ⟨a, vs, rfl, e, g1⟩, by simp only [PyData.canLay0, g2], ?_, fun i r z => ?_⟩
  · simp only [PyData.depth]
    omega
  · cases z
    unfold DtAll at g1
    obtain ⟨v, r', rfl, z, _⟩ := g1
    unfold Dt at z
    subst z
    exact hb _ _ rfl
theorem Dm.lst {a : Addr} {vs : List V} (e : H a = some (.lst vs)) (ne : ¬ S a) (h : ∀ v ∈ vs, Dn K S H n v) : Dm K S H (n + 1) (.ref a) := by
  obtain ⟨ds, g1, g2, g3⟩ := Dn.all vs h
  refine ⟨.list ds, by unfold Dt; exact ⟨a, vs, rfl, ne, e, g1⟩, by simp only [PyData.canLay0, g2], ?_, fun i r z => by cases z⟩
  simp only [PyData.depth]
  omega
theorem Dm.non : Dm K S H 1 .non := ⟨.none, by unfold Dt; rfl, rfl, by simp only [PyData.depth]; decide, fun i r z => by cases z⟩
theorem Dm.int (i : Int) : Dm K S H 1 (.int i) := ⟨.int i, by unfold Dt; rfl, rfl, by simp only [PyData.depth]; decide, fun i r z => by cases z⟩
end
def spOddL (K : PySem.W.Frag) : Sp := fun vs H Q _ => ∃ p x y z, vs = [.ref p] ∧ H p = some (L3 x y z) ∧ ∀ (v : V) (x y z : Int) (H' : Hp), Dn K (tr H) H' 2 v → (∀ i, v = .int i → i ≤ 10 ^ 60) → H' p = some (L3 x y z) → Kp K p H H' → Q v H'
theorem sc__law_odd : FnScope ["_law_well_here", "_law_some"] ["_law_well_here"] (defScope s__law_odd) := ⟨rfl, rfl, rfl, by decide +kernel, rfl, by decide +kernel, by decide +kernel⟩
theorem ok__law_odd {f : Addr} {fd : FuncData} (F : Fun K "_law_odd" "_law_odd" s__law_odd f fd) {aG cF cA cD cN cK cS : Addr} {tE : Tok} (B : B K mg aG tE cF cA cD cN cK cS) (C__law_draw : Callee P w K mg base "_law_draw" 1 ["_law_well_here", "_law_many"] (spDraw K)) : FnOk P w K mg base CX0 2 f fd ["_law_well_here"] (spOddL K) := by
  refine F.okJ sc__law_odd (fun vs H Q E h => ?_) (fun cdv A outer s H vs Q E hr h => ?_)
  · obtain ⟨p, x, y, z, rfl, _⟩ := h
    rfl
  obtain ⟨p, x, y, z, rfl, hp, q⟩ := h
  refine ⟨_, (bcons (sset (i := 1) sc__law_odd.nd rfl (Or.inl rfl) (elstQ (acons ebl (acons ebl (acons enon (acons estr (acons (etupQ (acons ei anil)) (acons (elstQ (acons ei anil)) (acons ei (acons (eun un_neg ei) (acons (epowc 1000000000000) (acons (eop op_add (epowc 1000000000000) ei) (acons (epowc 10000000000000000000000000000000000000000) (acons (etupQ (acons estr anil)) (acons ei (acons estr anil))))))))))))))))
      (bone (sret (eix ix_Q (ev 1) (ecall C__law_draw (hr.mono (by decide)) rfl (acons (ev 0) (acons ei anil))) (fun _ _ => rfl))))), ?_⟩
  try walk_at "rn"
  intro p1 n1 p2 n2 p3 n3 p4 n4
  have x1 := Ext.new (K := K) (o := .tup [V.int 5]) n1
  have x2 := Ext.new (K := K) (o := .lst [V.int 5]) n2
  have x3 := Ext.new (K := K) (o := .tup [V.str "gone"]) n3
  have x4 := Ext.new (K := K) (o := .lst [V.bl true, V.bl false, V.non, V.str "5", V.ref p1, V.ref p2, V.int 0, V.int (-1), V.int 1000000000000, V.int 1000000000001, V.int 10000000000000000000000000000000000000000, V.ref p3, V.int 1, V.str ""]) n4
  have a1 := (x2.trans (x3.trans x4)).tup (tupQ_updT (K := K) (H := H) (a := p1) (xs := [V.int 5]))
  have a2 := (x3.trans x4).same _ _ (upd_same (H := upd H p1 (.tup [V.int 5])) (a := p2) (o := .lst [V.int 5]))
  have a3 := x4.tup (tupQ_updT (K := K) (H := upd (upd H p1 (.tup [V.int 5])) p2 (.lst [V.int 5])) (a := p3) (xs := [V.str "gone"]))
  have a4 := upd_same (H := upd (upd (upd H p1 (.tup [V.int 5])) p2 (.lst [V.int 5])) p3 (.tup [V.str "gone"])) (a := p4) (o := .lst [V.bl true, V.bl false, V.non, V.str "5", V.ref p1, V.ref p2, V.int 0, V.int (-1), V.int 1000000000000, V.int 1000000000001, V.int 10000000000000000000000000000000000000000, V.ref p3, V.int 1, V.str ""])
  have xx := x1.trans (x2.trans (x3.trans x4))
  have g := xx.same _ _ hp
  have w2 : ¬ tr H p2 := fun z => by
    unfold tr at z
    cases e : H p2 with
    | none => exact z e
    | some o =>
      have := n2.1
      rw [x1.same _ _ e] at this
      cases this
  have m2 : p2 ≠ p := (ne_of_none (x1.same _ _ hp) n2.1).symm
  have m4 : p4 ≠ p := (ne_of_none ((x1.trans (x2.trans x3)).same _ _ hp) n4.1).symm
  generalize upd (upd (upd (upd H p1 (.tup [V.int 5])) p2 (.lst [V.int 5])) p3 (.tup [V.str "gone"])) p4 (.lst [V.bl true, V.bl false, V.non, V.str "5", V.ref p1, V.ref p2, V.int 0, V.int (-1), V.int 1000000000000, V.int 1000000000001, V.int 10000000000000000000000000000000000000000, V.ref p3, V.int 1, V.str ""]) = G at a1 a2 a3 a4 xx g ⊢
  refine ⟨p, _, _, _, 14, rfl, g, by decide, by omega, fun o x y z H3 o0 o1 g3 k3 => ⟨_, rfl, _, seqQ_lst (k3.keep p4 _ a4 m4), ?_⟩⟩
  obtain ⟨ov, hov, mov⟩ := atI_in (xs := [V.bl true, V.bl false, V.non, V.str "5", V.ref p1, V.ref p2, V.int 0, V.int (-1), V.int 1000000000000, V.int 1000000000001, V.int 10000000000000000000000000000000000000000, V.ref p3, V.int 1, V.str ""]) o0 o1
  refine ⟨ov, hov, q ov _ _ _ _ ?_ ?_ g3 (xx.kp.trans k3)⟩
  · have five : ∀ v ∈ [V.int 5], Dn K (tr H) H3 1 v := fun v hv => by
      rw [List.mem_singleton] at hv
      subst hv
      exact .int _
    simp only [List.mem_cons, List.not_mem_nil, or_false] at mov
    rcases mov with rfl | rfl | rfl | rfl | rfl | rfl | rfl | rfl | rfl | rfl | rfl | rfl | rfl | rfl
    · exact (Dn.bl _).mono (by decide)
    · exact (Dn.bl _).mono (by decide)
    · exact Dn.non.mono (by decide)
    · exact (Dn.str (by decide +kernel)).mono (by decide)
    · exact .tup (k3.tup g a1) five
    · exact .lst (k3.keep p2 _ a2 m2) w2 five
    · exact (Dn.int _).mono (by decide)
    · exact (Dn.int _).mono (by decide)
    · exact (Dn.int _).mono (by decide)
    · exact (Dn.int _).mono (by decide)
    · exact (Dn.int _).mono (by decide)
    · exact .tup (k3.tup g a3) (Dn.half .gone)
    · exact (Dn.int _).mono (by decide)
    · exact (Dn.str (by decide +kernel)).mono (by decide)
  · intro i e
    subst e
    simp only [List.mem_cons, List.not_mem_nil, or_false, reduceCtorEq, false_or, V.int.injEq] at mov
    omega
theorem nt_all {S : Addr → Prop} {H : Hp} {n lo hi : Int} {aa ra sa : Addr} {t m : Half} (_ : True) (haa : tupQ K H aa = some [.ref ra, .ref sa]) (hra : tupQ K H ra = some t.v) (hsa : tupQ K H sa = some m.v) : ∀ v ∈ [V.int n, V.int lo, V.int hi, V.ref aa], Dn K S H 4 v := by
  intro v hv
  simp only [List.mem_cons, List.not_mem_nil, or_false] at hv
  rcases hv with rfl | rfl | rfl | rfl
  · exact (Dn.int _).mono (by decide)
  · exact (Dn.int _).mono (by decide)
  · exact (Dn.int _).mono (by decide)
  · refine Dn.mono (n := 3) (.tup haa fun v hv => ?_) (by decide)
    simp only [List.mem_cons, List.not_mem_nil, or_false] at hv
    rcases hv with rfl | rfl
    · exact .tup hra (Dn.half _)
    · exact .tup hsa (Dn.half _)
def spSpoilt (K : PySem.W.Frag) : Sp := fun vs H Q _ => ∃ p x y z v e, vs = [.ref p, v] ∧ H p = some (L3 x y z) ∧ NoteAt K H v e ∧ e.n ≤ 10 ^ 60 ∧ ∀ (u : V) (x y z : Int) (H' : Hp), Dm K (tr H) H' 12 u → H' p = some (L3 x y z) → Kp K p H H' → Q u H'
theorem sc__law_spoilt : FnScope ["_law_well_here", "_law_note_here", "_law_way", "_law_at", "_law_odd_here", "_law_number", "_law_low", "_law_high", "_law_action_here"] ["_law_well_here", "_law_note_here"] (defScope s__law_spoilt) := ⟨rfl, rfl, rfl, by decide +kernel, rfl, by decide +kernel, by decide +kernel⟩
theorem ok__law_spoilt {f : Addr} {fd : FuncData} (F : Fun K "_law_spoilt" "_law_spoilt" s__law_spoilt f fd) {aG cF cA cD cN cK cS : Addr} {tE : Tok} (B : B K mg aG tE cF cA cD cN cK cS) (C__law_draw : Callee P w K mg base "_law_draw" 1 ["_law_well_here", "_law_many"] (spDraw K)) (C__law_odd : Callee P w K mg base "_law_odd" 2 ["_law_well_here"] (spOddL K)) : FnOk P w K mg base CX0 3 f fd ["_law_well_here", "_law_note_here"] (spSpoilt K) := by
  refine F.okJ sc__law_spoilt (fun vs H Q E h => ?_) (fun cdv A outer s H vs Q E hr h => ?_)
  · obtain ⟨p, x, y, z, v, e, rfl, _⟩ := h
    rfl
  obtain ⟨p, x, y, z, v, e, rfl, hp, ⟨na, wa, rfl, hna, ⟨aa, ra, sa, rfl, haa, hra, hsa, hnp⟩⟩, bn, q⟩ := h
  refine ex_seal (rest := (defBody s__law_spoilt).drop 5) (bcons (sif (tcmp op_eq (ev 2) ei (nomark _)) (bone (sret (etupQ (acons (ev 5) (acons (ev 7) (acons (ev 6) (acons (ev 8) anil))))))) bnil)
      (bcons (sif (tcmp op_eq (ev 2) ei (nomark _)) (bone (sret (etupQ (acons (ev 5) (acons (ev 6) (acons (ev 6) (acons (ev 8) anil))))))) bnil)
      (bcons (sif (tcmp op_eq (ev 2) ei (nomark _)) (bone (sret (etupQ (acons (ev 5) (acons (ev 6) (acons (ev 7) (acons (etupQ (acons (eix ix_Q (ev 8) ei (fun _ _ => rfl)) (acons (etupQ (acons estr (acons (ev 5) anil))) anil))) anil))))))) bnil)
      (bcons (sif (tcmp op_eq (ev 2) ei (nomark _)) (bone (sret (etupQ (acons (ev 5) (acons (ev 6) (acons (ev 7) (acons (eix ix_Q (elstQ (acons (ecallTy call_list_ofQ rfl B.list bt_list (acons (ev 8) anil)) (acons (eslice sl_tupX (ev 8) onone (osome ei)) (acons (etupQ (acons (eix ix_Q (ev 8) ei (fun _ _ => rfl)) (acons (eix ix_Q (ev 8) ei (fun _ _ => rfl)) anil))) (acons (ev 4) anil))))) (ecall C__law_draw (hr.mono (by decide)) rfl (acons (ev 0) (acons ei anil))) (fun _ _ => rfl)) anil))))))) bnil)
      (bcons (sif (tcmp op_eq (ev 2) ei (nomark _)) (bone (sret (etupQ (acons (ev 5) (acons (ev 6) (acons (ev 7) (acons (etupQ (acons (eix ix_Q (ev 8) ei (fun _ _ => rfl)) (acons (etupQ (acons estr (acons ei anil))) anil))) anil))))))) bnil)
      (bone (sret (eop op_catTX (eop op_catTX0 (eslice sl_tupX (ev 1) onone (osome (ev 3))) (etupQ (acons (ev 4) anil))) (eslice sl_tupX (ev 1) (osome (eop op_add (ev 3) ei)) onone))))))))) fun r5 J5 e5 => ?_
  refine ex_seal (rest := (defBody s__law_spoilt).drop 4) (bcons (sif (tcmp op_eq (ev 2) ei (nomark _)) (bone (sret (eix ix_Q (elstQ (acons (ecallTy call_list_ofQ rfl B.list bt_list (acons (ev 1) anil)) (acons (eop op_catTX (ev 1) (etupQ (acons ei anil))) (acons (eslice sl_tupX (ev 1) onone (osome ei)) (acons (etupQ (acons (ev 1) anil)) (acons enon (acons (ev 5) (acons (etupQ anil) (acons (eop op_catTX (ev 1) (ev 1)) anil))))))))) (ecall C__law_draw (hr.mono (by decide)) rfl (acons (ev 0) (acons ei anil))) (fun _ _ => rfl)))) bnil)
      J5) fun r4 J4 e4 => ?_
  refine ⟨_, (bcons (sset (i := 2) sc__law_spoilt.nd rfl (Or.inl rfl) (ecall C__law_draw (hr.mono (by decide)) rfl (acons (ev 0) (acons ei anil))))
      (bcons (sset (i := 3) sc__law_spoilt.nd rfl (Or.inl rfl) (ecall C__law_draw (hr.mono (by decide)) rfl (acons (ev 0) (acons ei anil))))
      (bcons (sset (i := 4) sc__law_spoilt.nd rfl (Or.inl rfl) (ecall C__law_odd (hr.mono (by decide)) rfl (acons (ev 0) anil)))
      (bcons (sasg (ev 1) (gtupQ (n := 4) rfl (gcons (gname (i := 5) sc__law_spoilt.nd rfl (Or.inl rfl)) (gcons (gname (i := 6) sc__law_spoilt.nd rfl (Or.inl rfl)) (gcons (gname (i := 7) sc__law_spoilt.nd rfl (Or.inl rfl)) (gcons (gname (i := 8) sc__law_spoilt.nd rfl (Or.inl rfl)) gnil))))))
      J4)))), ?_⟩
  try walk_at "rn"
  refine ⟨p, _, _, _, 9, rfl, hp, by decide, by omega, fun way x y z H1 w0 w1 g1 k1 => ?_⟩
  try walk_at "rn"
  refine ⟨p, _, _, _, 4, rfl, g1, by decide, by omega, fun at' x y z H2 a0 a1 g2 k2 => ?_⟩
  try walk_at "rn"
  refine ⟨p, _, _, _, rfl, g2, fun ov x y z H3 dov bov g3 k3 => ?_⟩
  have kk := (k1.trans k2)
  have hna := k3.tup g2 (kk.tup hp hna)
  have haa := k3.tup g2 (kk.tup hp haa)
  have hra := k3.tup g2 (kk.tup hp hra)
  have hsa := k3.tup g2 (kk.tup hp hsa)
  have dov : Dn K (tr H) H3 2 ov := by
    obtain ⟨d, e1, e2⟩ := dov
    refine ⟨d, e1.weak (fun a n z => n ?_), e2⟩
    unfold tr at z ⊢
    cases e : H a with
    | none => exact absurd e z
    | some o =>
      by_cases hap : a = p
      · rw [hap, g2]; simp
      · rw [kk.keep a o e hap]; simp
  have kk := kk.trans k3
  simp only [tSeq, tNext, tIfS, tAsg, gName, gSub, tRet, tRetN, tDrop, tVar, tC, tOp, tUn, rI0, rI, rU, tTest, tB, tAndV, tOrV, tNotV, tAnd, tOr, tNot, tIf, tChain, tCB, tCons, tNil, tLst, tTup, tCallC, List.getElem?_cons_zero, List.getElem?_cons_succ, List.set_cons_zero, List.set_cons_succ, Option.some.injEq, V.int.injEq, V.bl.injEq, V.ref.injEq, V.ty.injEq, V.str.injEq, List.cons.injEq, exists_eq_left', exists_eq_left, exists_and_left, and_true, true_and, and_assoc, cxK, rIxF, rSetL, rEq, rNe, scal, HO.lst.injEq, HO.tup.injEq, upd_none, ixN_10, ixN_20, ixN_21, ixN_30, ixN_31, ixN_32, upd_same, seqAt_updL, seqAt_updT, atI_0, atI_1, atI_2, atI_3, decide_eq_true_eq, L2.start, List.map_cons, List.map_nil, List.length_cons, List.length_nil, Nat.reduceAdd, Nat.reduceSub, List.replicate_succ, List.replicate_zero, List.cons_append, List.nil_append, List.append_nil, tFor_rng1, tFor_rng2, tFor_list, tFor_tup, CDv, CMul, CPow, sizeLine_eq, Int.reduceLE, Int.reduceLT, Int.reducePow, Int.reduceToNat, Int.reduceAdd, Int.reduceSub, Int.reduceMul, Int.reduceNeg, Nat.reduceLeDiff, Nat.reducePow, Nat.reduceLT, Int.reduceEq, true_or, or_true, ite_true, ite_false, if_true, if_false, Bool.not_true, Bool.not_false, Bool.false_eq_true, decide_true, decide_false, rIxQ, seqQ_updL, seqQ_updT, tupQ_updT, tSl, tNoPart, tPart, rSlQ, rSlTX, rCatQ, rCatTX, rCatTX0, tTupQ, tLstQ, tNever, rEqD, rInQ, gTupQ, gCons, gNil, tBM, rAppend, rCountT, rIndexT, cxN, tCall, tRaise, tTry, tAsk, tWord, Ends.gone, pick_nil, pick_own, pick_cap, join_some, hna]
  rw [e4]
  try walk_at "rn"
  refine ite2 (fun c0 => ?_) (fun c0 => ?_)
  · refine ⟨_, seqQ_T hna, fun l1 nl1 => ?_⟩
    have wl : ¬ tr H l1 := kp_was kk hp g3 nl1.1
    have x := Ext.new (K := K) (o := .lst [V.int e.n, V.int e.lo, V.int e.hi, V.ref aa]) nl1
    have hna := x.tup hna
    have haa := x.tup haa
    have hra := x.tup hra
    have hsa := x.tup hsa
    have dov := dov.ext x
    have g3 := x.same _ _ g3
    have kk := kk.trans x.kp
    have f1 : Dm K (tr H) (upd H3 l1 (.lst [V.int e.n, V.int e.lo, V.int e.hi, V.ref aa])) 5 (.ref l1) := .lst upd_same wl (nt_all trivial haa hra hsa)
    generalize upd H3 l1 (.lst [V.int e.n, V.int e.lo, V.int e.hi, V.ref aa]) = G1 at f1 hna haa hra hsa dov g3 kk ⊢
    clear x nl1
    intro r2 nr2
    have x := Ext.new (K := K) (o := .tup [V.int 1]) nr2
    have f1 := f1.ext x
    have hna := x.tup hna
    have haa := x.tup haa
    have hra := x.tup hra
    have hsa := x.tup hsa
    have dov := dov.ext x
    have g3 := x.same _ _ g3
    have kk := kk.trans x.kp
    generalize upd G1 r2 (.tup [V.int 1]) = G2 at f1 hna haa hra hsa dov g3 kk ⊢
    clear x nr2
    refine ⟨_, hna, by simp, by simp, fun q3 G3 t3 x => ?_⟩
    have f1 := f1.ext x
    have hna := x.tup hna
    have haa := x.tup haa
    have hra := x.tup hra
    have hsa := x.tup hsa
    have dov := dov.ext x
    have g3 := x.same _ _ g3
    have kk := kk.trans x.kp
    have f2 : Dm K (tr H) G3 5 (.ref q3) := .tup t3 (fun v hv => (List.mem_append.mp hv).elim (nt_all trivial haa hra hsa v) fun hv => by rw [List.mem_singleton] at hv; subst hv; exact (Dn.int _).mono (by decide)) fun i r z => by cases z; exact bn
    clear x
    refine ⟨_, hna, fun q4 G4 t4 x => ?_⟩
    have f1 := f1.ext x
    have f2 := f2.ext x
    have hna := x.tup hna
    have haa := x.tup haa
    have hra := x.tup hra
    have hsa := x.tup hsa
    have dov := dov.ext x
    have g3 := x.same _ _ g3
    have kk := kk.trans x.kp
    have f3 : Dm K (tr H) G4 5 (.ref q4) := .tup t4 (fun v hv => nt_all trivial haa hra hsa v (mem_cut hv)) fun i r z => by cases z; exact bn
    clear x
    intro r5' nr5'
    have x := Ext.new (K := K) (o := .tup [V.ref na]) nr5'
    have f1 := f1.ext x
    have f2 := f2.ext x
    have f3 := f3.ext x
    have hna := x.tup hna
    have haa := x.tup haa
    have hra := x.tup hra
    have hsa := x.tup hsa
    have dov := dov.ext x
    have g3 := x.same _ _ g3
    have kk := kk.trans x.kp
    have f4 : Dm K (tr H) (upd G4 r5' (.tup [V.ref na])) 6 (.ref r5') := .tup tupQ_updT (fun v hv => by rw [List.mem_singleton] at hv; subst hv; exact .tup hna (nt_all trivial haa hra hsa)) fun i r z => by cases z
    generalize upd G4 r5' (.tup [V.ref na]) = G5 at f1 f2 f3 f4 hna haa hra hsa dov g3 kk ⊢
    clear x nr5'
    intro r6 nr6
    have x := Ext.new (K := K) (o := .tup []) nr6
    have f1 := f1.ext x
    have f2 := f2.ext x
    have f3 := f3.ext x
    have f4 := f4.ext x
    have hna := x.tup hna
    have haa := x.tup haa
    have hra := x.tup hra
    have hsa := x.tup hsa
    have dov := dov.ext x
    have g3 := x.same _ _ g3
    have kk := kk.trans x.kp
    have f6 : Dm K (tr H) (upd G5 r6 (.tup [])) 2 (.ref r6) := .tup tupQ_updT (fun v hv => nomatch hv) fun i r z => by cases z
    generalize upd G5 r6 (.tup []) = G6 at f1 f2 f3 f4 f6 hna haa hra hsa dov g3 kk ⊢
    clear x nr6
    refine ⟨_, hna, _, hna, by simp, by simp, fun q7 G7 t7 x => ?_⟩
    have f1 := f1.ext x
    have f2 := f2.ext x
    have f3 := f3.ext x
    have f4 := f4.ext x
    have f6 := f6.ext x
    have hna := x.tup hna
    have haa := x.tup haa
    have hra := x.tup hra
    have hsa := x.tup hsa
    have dov := dov.ext x
    have g3 := x.same _ _ g3
    have kk := kk.trans x.kp
    have f7 : Dm K (tr H) G7 5 (.ref q7) := .tup t7 (fun v hv => (List.mem_append.mp hv).elim (nt_all trivial haa hra hsa v) (nt_all trivial haa hra hsa v)) fun i r z => by cases z; exact bn
    clear x
    intro l8 nl8
    have x := Ext.new (K := K) (o := .lst [V.ref l1, V.ref q3, V.ref q4, V.ref r5', V.non, V.int e.n, V.ref r6, V.ref q7]) nl8
    have m8 : l8 ≠ p := (ne_of_none g3 nl8.1).symm
    have f1 := f1.ext x
    have f2 := f2.ext x
    have f3 := f3.ext x
    have f4 := f4.ext x
    have f6 := f6.ext x
    have f7 := f7.ext x
    have hna := x.tup hna
    have haa := x.tup haa
    have hra := x.tup hra
    have hsa := x.tup hsa
    have dov := dov.ext x
    have g3 := x.same _ _ g3
    have kk := kk.trans x.kp
    refine ⟨p, _, _, _, 8, rfl, g3, by decide, by omega, fun o x y z H9 o0 o1 g9 k9 => ⟨_, rfl, _, seqQ_lst (k9.keep l8 _ upd_same m8), ?_⟩⟩
    obtain ⟨rv, hrv, mrv⟩ := atI_in (xs := [V.ref l1, V.ref q3, V.ref q4, V.ref r5', V.non, V.int e.n, V.ref r6, V.ref q7]) o0 o1
    refine ⟨rv, hrv, q rv _ _ _ _ ?_ g9 (kk.trans k9)⟩
    have tp : tr H p := by unfold tr; rw [hp]; simp
    simp only [List.mem_cons, List.not_mem_nil, or_false] at mrv
    rcases mrv with rfl | rfl | rfl | rfl | rfl | rfl | rfl | rfl
    · exact (f1.kp k9 g3 tp).mono (by decide)
    · exact (f2.kp k9 g3 tp).mono (by decide)
    · exact (f3.kp k9 g3 tp).mono (by decide)
    · exact (f4.kp k9 g3 tp).mono (by decide)
    · exact Dm.non.mono (by decide)
    · exact (Dm.int _).mono (by decide)
    · exact (f6.kp k9 g3 tp).mono (by decide)
    · exact (f7.kp k9 g3 tp).mono (by decide)
  clear e4 J4
  have fin : ∀ (G : Hp) (x y z : Int) (b : Addr) (vs : List V), Kp K p H G → G p = some (L3 x y z) → tupQ K G b = some vs → (∀ v ∈ vs, Dn K (tr H) G 4 v) → (∀ i r, vs = .int i :: r → i ≤ 10 ^ 60) → Q (.ref b) G := fun G x y z b vs k g t h hb => q _ x y z G (Dm.mono (.tup t h hb) (by decide)) g k
  have four : ∀ {G : Hp} {u : V} (a b c : Int), Dn K (tr H) G 4 u → ∀ v ∈ [V.int a, V.int b, V.int c, u], Dn K (tr H) G 4 v := fun a b c h v hv => by
    simp only [List.mem_cons, List.not_mem_nil, or_false] at hv
    rcases hv with rfl | rfl | rfl | rfl
    · exact (Dn.int _).mono (by decide)
    · exact (Dn.int _).mono (by decide)
    · exact (Dn.int _).mono (by decide)
    · exact h
  have pair : ∀ {G : Hp} {a : Addr} {u v : V} {n : Nat}, tupQ K G a = some [u, v] → Dn K (tr H) G n u → Dn K (tr H) G n v → Dn K (tr H) G (n + 1) (.ref a) := fun t hu hv => .tup t fun v hv' => by
    simp only [List.mem_cons, List.not_mem_nil, or_false] at hv'
    rcases hv' with rfl | rfl
    · exact hu
    · exact hv
  have dra : Dn K (tr H) H3 2 (.ref ra) := .tup hra (Dn.half _)
  have dsa : Dn K (tr H) H3 2 (.ref sa) := .tup hsa (Dn.half _)
  have daa : Dn K (tr H) H3 3 (.ref aa) := pair haa dra dsa
  rw [e5]
  try walk_at "rn"
  clear e5 J5
  refine ite2 (fun _ => ?_) (fun _ => ?_)
  · intro b nb
    have x := Ext.new (K := K) (o := .tup [V.int e.n, V.int e.hi, V.int e.lo, V.ref aa]) nb
    exact fin _ _ _ _ b _ (kk.trans x.kp) (x.same _ _ g3) tupQ_updT (four _ _ _ ((daa.ext x).mono (by decide))) fun i r z => by cases z; exact bn
  refine ite2 (fun _ => ?_) (fun _ => ?_)
  · intro b nb
    have x := Ext.new (K := K) (o := .tup [V.int e.n, V.int e.lo, V.int e.lo, V.ref aa]) nb
    exact fin _ _ _ _ b _ (kk.trans x.kp) (x.same _ _ g3) tupQ_updT (four _ _ _ ((daa.ext x).mono (by decide))) fun i r z => by cases z; exact bn
  have like : ∀ (wd : Str) (k : Int), PyData.canLay0 (.str wd) = true → ∃ x, seqQ K H3 aa = some x ∧ ∃ x_1, atI x 0 = some x_1 ∧ ∀ (p : Addr), new K H3 p → ∀ (p_1 : Addr), new K (upd H3 p (HO.tup [V.str wd, V.int k])) p_1 →
      ∀ (p_2 : Addr), new K (upd (upd H3 p (HO.tup [V.str wd, V.int k])) p_1 (HO.tup [x_1, V.ref p])) p_2 →
        Q (V.ref p_2) (upd (upd (upd H3 p (HO.tup [V.str wd, V.int k])) p_1 (HO.tup [x_1, V.ref p])) p_2 (HO.tup [V.int e.n, V.int e.lo, V.int e.hi, V.ref p_1])) := by
    intro wd k hw
    refine ⟨_, seqQ_T haa, _, rfl, fun b1 n1 b2 n2 b3 n3 => ?_⟩
    have x1 := Ext.new (K := K) (o := .tup [V.str wd, V.int k]) n1
    have x2 := Ext.new (K := K) (o := .tup [V.ref ra, V.ref b1]) n2
    have x3 := Ext.new (K := K) (o := .tup [V.int e.n, V.int e.lo, V.int e.hi, V.ref b2]) n3
    have xx := x1.trans (x2.trans x3)
    have t1 := (x2.trans x3).tup (tupQ_updT (K := K) (H := H3) (a := b1) (xs := [V.str wd, V.int k]))
    have t2 := x3.tup (tupQ_updT (K := K) (H := upd H3 b1 (.tup [V.str wd, V.int k])) (a := b2) (xs := [V.ref ra, V.ref b1]))
    exact fin _ _ _ _ b3 _ (kk.trans xx.kp) (xx.same _ _ g3) tupQ_updT (four _ _ _ ((pair t2 (dra.ext xx) (pair t1 (.str hw) (.int _))).mono (by decide))) fun i r z => by cases z; exact bn
  refine ite2 (fun _ => like "is" e.n (by decide +kernel)) (fun _ => ?_)
  refine ite2 (fun _ => ?_) (fun _ => ?_)
  · refine ⟨_, seqQ_T haa, fun l nl => ?_⟩
    have wl : ¬ tr H l := kp_was kk hp g3 nl.1
    have x1 := Ext.new (K := K) (o := .lst [V.ref ra, V.ref sa]) nl
    refine ⟨_, x1.tup haa, fun qa G1 ta x2 => ?_⟩
    have x12 := x1.trans x2
    have el := x2.same _ _ (upd_same (H := H3) (a := l) (o := .lst [V.ref ra, V.ref sa]))
    refine ⟨_, seqQ_T (x12.tup haa), _, rfl, _, seqQ_T (x12.tup haa), _, rfl, fun b1 n1 b2 n2 => ?_⟩
    have x3 := Ext.new (K := K) (o := .tup [V.ref sa, V.ref ra]) n1
    have x4 := Ext.new (K := K) (o := .lst [V.ref l, V.ref qa, V.ref b1, ov]) n2
    have x34 := x3.trans x4
    have xx := x12.trans x34
    have m2 : b2 ≠ p := (ne_of_none ((x12.trans x3).same _ _ g3) n2.1).symm
    have both : ∀ v ∈ [V.ref ra, V.ref sa], Dn K (tr H) (upd (upd G1 b1 (.tup [V.ref sa, V.ref ra])) b2 (.lst [V.ref l, V.ref qa, V.ref b1, ov])) 2 v := fun v hv => by
      simp only [List.mem_cons, List.not_mem_nil, or_false] at hv
      rcases hv with rfl | rfl
      · exact dra.ext xx
      · exact dsa.ext xx
    have f1 : Dn K (tr H) (upd (upd G1 b1 (.tup [V.ref sa, V.ref ra])) b2 (.lst [V.ref l, V.ref qa, V.ref b1, ov])) 3 (.ref l) := .lst (x34.same _ _ el) wl both
    have f2 : Dn K (tr H) (upd (upd G1 b1 (.tup [V.ref sa, V.ref ra])) b2 (.lst [V.ref l, V.ref qa, V.ref b1, ov])) 3 (.ref qa) := .tup (x34.tup ta) fun v hv => both v (mem_cut hv)
    have f3 : Dn K (tr H) (upd (upd G1 b1 (.tup [V.ref sa, V.ref ra])) b2 (.lst [V.ref l, V.ref qa, V.ref b1, ov])) 3 (.ref b1) := pair (x4.tup (tupQ_updT (K := K) (H := G1) (a := b1) (xs := [V.ref sa, V.ref ra]))) (dsa.ext xx) (dra.ext xx)
    have f4 := dov.ext xx
    have g4 := xx.same _ _ g3
    have kk := kk.trans xx.kp
    have e2 := upd_same (H := upd G1 b1 (.tup [V.ref sa, V.ref ra])) (a := b2) (o := .lst [V.ref l, V.ref qa, V.ref b1, ov])
    generalize upd (upd G1 b1 (.tup [V.ref sa, V.ref ra])) b2 (.lst [V.ref l, V.ref qa, V.ref b1, ov]) = G2 at f1 f2 f3 f4 g4 kk e2 ⊢
    refine ⟨p, _, _, _, 4, rfl, g4, by decide, by omega, fun o x y z H9 o0 o1 g9 k9 => ⟨_, rfl, _, seqQ_lst (k9.keep b2 _ e2 m2), ?_⟩⟩
    obtain ⟨rv, hrv, mrv⟩ := atI_in (xs := [V.ref l, V.ref qa, V.ref b1, ov]) o0 o1
    have tp : tr H p := by unfold tr; rw [hp]; simp
    have dr : Dn K (tr H) H9 4 rv := by
      simp only [List.mem_cons, List.not_mem_nil, or_false] at mrv
      rcases mrv with rfl | rfl | rfl | rfl
      · exact (f1.kp k9 g4 tp).mono (by decide)
      · exact (f2.kp k9 g4 tp).mono (by decide)
      · exact (f3.kp k9 g4 tp).mono (by decide)
      · exact (f4.kp k9 g4 tp).mono (by decide)
    refine ⟨rv, hrv, fun b3 n3 => ?_⟩
    have x := Ext.new (K := K) (o := .tup [V.int e.n, V.int e.lo, V.int e.hi, rv]) n3
    exact fin _ _ _ _ b3 _ ((kk.trans k9).trans x.kp) (x.same _ _ g9) tupQ_updT (four _ _ _ (dr.ext x)) fun i r z => by cases z; exact bn
  refine ite2 (fun _ => like "plus" 1 (by decide +kernel)) (fun _ => ?_)
  refine ⟨_, hna, fun q1 G1 t1 x1 b2 n2 => ?_⟩
  have x2 := Ext.new (K := K) (o := .tup [ov]) n2
  have lc := fun lo hi => cutV_length [V.int e.n, V.int e.lo, V.int e.hi, V.ref aa] lo hi
  simp only [List.length_cons, List.length_nil] at lc
  refine ⟨_, x2.tup t1, by have := lc none (some at'); omega, fun q3 G3 t3 x3 => ?_⟩
  have x13 := x1.trans (x2.trans x3)
  refine ⟨_, x13.tup hna, fun q4 G4 t4 x4 => ?_⟩
  refine ⟨_, x4.tup t3, _, t4, by simp, by rw [List.length_append]; have := lc none (some at'); have := lc (some (at' + 1)) none; simp only [List.length_cons, List.length_nil]; omega, fun q5 G5 t5 x5 => ?_⟩
  have xx := x13.trans (x4.trans x5)
  have na4 : ∀ v ∈ [V.int e.n, V.int e.lo, V.int e.hi, V.ref aa], Dn K (tr H) G5 4 v := four _ _ _ ((daa.ext xx).mono (by decide))
  refine fin _ _ _ _ q5 _ (kk.trans xx.kp) (xx.same _ _ g3) t5 (fun v hv => ?_) fun i r z => ?_
  · rcases List.mem_append.mp hv with hv | hv
    · rcases List.mem_append.mp hv with hv | hv
      · exact na4 v (mem_cut hv)
      · rw [List.mem_singleton] at hv
        subst hv
        exact (dov.ext xx).mono (by decide)
    · exact na4 v (mem_cut hv)
  · rcases (by omega : at' = 0 ∨ at' = 1 ∨ at' = 2 ∨ at' = 3) with rfl | rfl | rfl | rfl
    · have : cutV [V.int e.n, V.int e.lo, V.int e.hi, V.ref aa] none (some 0) = [] := rfl
      rw [this] at z
      cases z
      exact bov _ rfl
    · have : cutV [V.int e.n, V.int e.lo, V.int e.hi, V.ref aa] none (some 1) = [V.int e.n] := rfl
      rw [this] at z
      cases z
      exact bn
    · have : cutV [V.int e.n, V.int e.lo, V.int e.hi, V.ref aa] none (some 2) = [V.int e.n, V.int e.lo] := rfl
      rw [this] at z
      cases z
      exact bn
    · have : cutV [V.int e.n, V.int e.lo, V.int e.hi, V.ref aa] none (some 3) = [V.int e.n, V.int e.lo, V.int e.hi] := rfl
      rw [this] at z
      cases z
      exact bn
local macro_rules | `(tactic| walk_at "rd") => `(tactic| simp only [tSeq, tNext, tIfS, tAsg, gName, gSub, tRet, tRetN, tDrop, tVar, tC, tOp, tUn, rI0, rI, rU, tTest, tB, tAndV, tOrV, tNotV, tAnd, tOr, tNot, tIf, tChain, tCB, tCons, tNil, tLst, tTup, tCallC, List.getElem?_cons_zero, List.getElem?_cons_succ, List.set_cons_zero, List.set_cons_succ, Option.some.injEq, V.int.injEq, V.bl.injEq, V.ref.injEq, V.ty.injEq, V.str.injEq, List.cons.injEq, exists_eq_left', exists_eq_left, exists_and_left, and_true, true_and, and_assoc, cxK, rIxF, rSetL, rEq, rNe, scal, HO.lst.injEq, HO.tup.injEq, upd_none, ixN_10, ixN_20, ixN_21, ixN_30, ixN_31, ixN_32, upd_same, seqAt_updL, seqAt_updT, atI_0, atI_1, atI_2, atI_3, decide_eq_true_eq, L2.start, List.map_cons, List.map_nil, List.length_cons, List.length_nil, Nat.reduceAdd, Nat.reduceSub, List.replicate_succ, List.replicate_zero, List.cons_append, List.nil_append, List.append_nil, tFor_rng1, tFor_rng2, tFor_list, tFor_tup, CDv, CMul, CPow, sizeLine_eq, Int.reduceLE, Int.reduceLT, Int.reducePow, Int.reduceToNat, Int.reduceAdd, Int.reduceSub, Int.reduceMul, Int.reduceNeg, Nat.reduceLeDiff, Nat.reducePow, Nat.reduceLT, Int.reduceEq, true_or, or_true, ite_true, ite_false, if_true, if_false, Bool.not_true, Bool.not_false, Bool.false_eq_true, decide_true, decide_false, rIxQ, seqQ_updL, seqQ_updT, tupQ_updT, tSl, tNoPart, tPart, rSlQ, rSlTX, rCatQ, rCatTX, rCatTX0, tTupQ, tLstQ, new_upd, tNever, rEqD, rInQ, gTupQ, gCons, gNil, tBM, rAppend, rCountT, rIndexT, cxN, tCall, tRaise, tTry, tAsk, tWord, Ends.gone, pick_nil, pick_own, pick_cap, join_some, twWord])
local macro_rules | `(tactic| walk_at "rn") => `(tactic| simp only [tSeq, tNext, tIfS, tAsg, gName, gSub, tRet, tRetN, tDrop, tVar, tC, tOp, tUn, rI0, rI, rU, tTest, tB, tAndV, tOrV, tNotV, tAnd, tOr, tNot, tIf, tChain, tCB, tCons, tNil, tLst, tTup, tCallC, List.getElem?_cons_zero, List.getElem?_cons_succ, List.set_cons_zero, List.set_cons_succ, Option.some.injEq, V.int.injEq, V.bl.injEq, V.ref.injEq, V.ty.injEq, V.str.injEq, List.cons.injEq, exists_eq_left', exists_eq_left, exists_and_left, and_true, true_and, and_assoc, cxK, rIxF, rSetL, rEq, rNe, scal, HO.lst.injEq, HO.tup.injEq, upd_none, ixN_10, ixN_20, ixN_21, ixN_30, ixN_31, ixN_32, upd_same, seqAt_updL, seqAt_updT, atI_0, atI_1, atI_2, atI_3, decide_eq_true_eq, L2.start, List.map_cons, List.map_nil, List.length_cons, List.length_nil, Nat.reduceAdd, Nat.reduceSub, List.replicate_succ, List.replicate_zero, List.cons_append, List.nil_append, List.append_nil, tFor_rng1, tFor_rng2, tFor_list, tFor_tup, CDv, CMul, CPow, sizeLine_eq, Int.reduceLE, Int.reduceLT, Int.reducePow, Int.reduceToNat, Int.reduceAdd, Int.reduceSub, Int.reduceMul, Int.reduceNeg, Nat.reduceLeDiff, Nat.reducePow, Nat.reduceLT, Int.reduceEq, true_or, or_true, ite_true, ite_false, if_true, if_false, Bool.not_true, Bool.not_false, Bool.false_eq_true, decide_true, decide_false, rIxQ, seqQ_updL, seqQ_updT, tupQ_updT, tSl, tNoPart, tPart, rSlQ, rSlTX, rCatQ, rCatTX, rCatTX0, tTupQ, tLstQ, tNever, rEqD, rInQ, gTupQ, gCons, gNil, tBM, rAppend, rCountT, rIndexT, cxN, tCall, tRaise, tTry, tAsk, tWord, Ends.gone, pick_nil, pick_own, pick_cap, join_some, twWord])
def lamQual : Str := (PyProof.Rows.envOfC "_law_asked" (defScope s__law_asked) 0 0 .none).qual ++ "<lambda>"
theorem Dt.xt {T : Addr} {q : Str} {S : Addr → Prop} {H H' : Hp} {d : PyData} {v : V} (h : Dt K S H d v) (x : XT K T q H H') : Dt K S H' d v := h.move (fun _ _ e => x.tup e) fun _ _ _ e => x.at e nofun
theorem NoteAt.xt {T : Addr} {q : Str} {H H' : Hp} {v : V} {e : Nt} (h : NoteAt K H v e) (x : XT K T q H H') : NoteAt K H' v e := by
  obtain ⟨a, w, rfl, h1, b, r, s, rfl, e1, e2, e3, np⟩ := h
  exact ⟨a, _, rfl, x.tup h1, b, r, s, rfl, x.tup e1, x.tup e2, x.tup e3, np⟩
def spDueP (K : PySem.W.Frag) : Sp := fun vs H Q _ => ∃ v e lo hi, vs = [v, .int lo, .int hi] ∧ NoteAt K H v e ∧
  (mx e.lo lo < mn e.hi hi → ∀ b H', NoteAt K H' b (e.cut lo hi) → Ext K H H' → Q b H') ∧ (¬ mx e.lo lo < mn e.hi hi → ∀ H', Ext K H H' → Q .non H')
theorem sc__law_due_part : FnScope ["_law_note_here", "_law_low", "_law_high", "_law_first", "_law_last"] ["_law_note_here", "_law_low", "_law_high"] (defScope s__law_due_part) := ⟨rfl, rfl, rfl, by decide +kernel, rfl, by decide +kernel, by decide +kernel⟩
theorem ok__law_due_part {f : Addr} {fd : FuncData} (F : Fun K "_law_due_part" "_law_due_part" s__law_due_part f fd) {aG cF cA cD cN cK cS : Addr} {tE : Tok} (B : B K mg aG tE cF cA cD cN cK cS) : FnOk P w K mg base CX0 1 f fd ["_law_note_here", "_law_low", "_law_high"] (spDueP K) := by
  refine F.okJ sc__law_due_part (fun vs H Q E h => ?_) (fun cdv A outer s H vs Q E hr h => ?_)
  · obtain ⟨v, e, lo, hi, rfl, _⟩ := h
    rfl
  obtain ⟨v, e, lo, hi, rfl, ⟨a, w, rfl, ha, hA⟩, q1, q2⟩ := h
  refine ⟨_, (bcons (sset (i := 3) sc__law_due_part.nd rfl (Or.inl rfl) (ecallB (call_max2 rfl) rfl B.max bt_max (acons (eix ix_Q (ev 0) ei (fun _ _ => rfl)) (acons (ev 1) anil))))
      (bcons (sset (i := 4) sc__law_due_part.nd rfl (Or.inl rfl) (ecallB (call_min2 rfl) rfl B.min bt_min (acons (eix ix_Q (ev 0) ei (fun _ _ => rfl)) (acons (ev 2) anil))))
      (bone (sret (eix ix_Q (elstQ (acons (etupQ (acons (eix ix_Q (ev 0) ei (fun _ _ => rfl)) (acons (ev 3) (acons (ev 4) (acons (eix ix_Q (ev 0) ei (fun _ _ => rfl)) anil))))) (acons enon anil))) (ecallTy call_intB rfl B.int bt_int (acons (ecmp op_ge (ev 3) (ev 4) (nomark _)) anil)) (fun _ _ => rfl)))))), ?_⟩
  simp only [tSeq, tNext, tIfS, tAsg, gName, gSub, tRet, tRetN, tDrop, tVar, tC, tOp, tUn, rI0, rI, rU, tTest, tB, tAndV, tOrV, tNotV, tAnd, tOr, tNot, tIf, tChain, tCB, tCons, tNil, tLst, tTup, tCallC, List.getElem?_cons_zero, List.getElem?_cons_succ, List.set_cons_zero, List.set_cons_succ, Option.some.injEq, V.int.injEq, V.bl.injEq, V.ref.injEq, V.ty.injEq, V.str.injEq, List.cons.injEq, exists_eq_left', exists_eq_left, exists_and_left, and_true, true_and, and_assoc, cxK, rIxF, rSetL, rEq, rNe, scal, HO.lst.injEq, HO.tup.injEq, upd_none, ixN_10, ixN_20, ixN_21, ixN_30, ixN_31, ixN_32, upd_same, seqAt_updL, seqAt_updT, atI_0, atI_1, atI_2, atI_3, decide_eq_true_eq, L2.start, List.map_cons, List.map_nil, List.length_cons, List.length_nil, Nat.reduceAdd, Nat.reduceSub, List.replicate_succ, List.replicate_zero, List.cons_append, List.nil_append, List.append_nil, tFor_rng1, tFor_rng2, tFor_list, tFor_tup, CDv, CMul, CPow, sizeLine_eq, Int.reduceLE, Int.reduceLT, Int.reducePow, Int.reduceToNat, Int.reduceAdd, Int.reduceSub, Int.reduceMul, Int.reduceNeg, Nat.reduceLeDiff, Nat.reducePow, Nat.reduceLT, Int.reduceEq, true_or, or_true, ite_true, ite_false, if_true, if_false, Bool.not_true, Bool.not_false, Bool.false_eq_true, decide_true, decide_false, rIxQ, seqQ_updL, seqQ_updT, tupQ_updT, tSl, tNoPart, tPart, rSlQ, rSlTX, rCatQ, rCatTX, rCatTX0, tTupQ, tLstQ, tNever, rEqD, rInQ, gTupQ, gCons, gNil, tBM, rAppend, rCountT, rIndexT, cxN, tCall, tRaise, tTry, tAsk, tWord, Ends.gone, pick_nil, pick_own, pick_cap, join_some, seqQ_T ha]
  intro b nb l nl
  have xb := Ext.new (K := K) (o := .tup [V.int e.n, V.int (mx e.lo lo), V.int (mn e.hi hi), w]) nb
  have xl := Ext.new (K := K) (o := .lst [V.ref b, V.non]) nl
  by_cases c : mx e.lo lo < mn e.hi hi
  · refine ⟨.ref b, ?_, q1 c _ _ ⟨b, w, rfl, xl.tup tupQ_updT, hA.ext (xb.trans xl)⟩ (xb.trans xl)⟩
    rw [if_neg (by simp only [mx, mn] at c; omega)]
    rfl
  · refine ⟨.non, ?_, q2 c _ (xb.trans xl)⟩
    rw [if_pos (by simp only [mx, mn] at c; omega)]
    rfl
def told (x : PyData) : PyData := .tuple [.str "told", x]
def wno (w : Str) : PyData := .tuple [.str w, .none]
def dueT (d dk : PyData) : PyData := if isNt d = true then (if isW 0 999999999999 dk = true then (match d, dk with | .tuple [_, .int l, .int h, _], .int k => told (.bool (decide (l ≤ k ∧ k < h))) | _, _ => .none) else wno "key") else wno "note"
def dueS (d d' : PyData) : PyData := if isNt d = true ∧ isNt d' = true then (match d, d' with | .tuple [_, .int l, .int h, _], .tuple [_, .int l', .int h', _] => told (.bool (decide (l < h' ∧ l' < h))) | _, _ => .none) else wno "note"
def dueP (d a b : PyData) : PyData := if isNt d = true then (if isSt a b = true then (match d, a, b with | .tuple [n, .int l, .int h, w], .int i, .int j => told (if mx l i < mn h j then .tuple [n, .int (mx l i), .int (mn h j), w] else .none) | _, _, _ => .none) else wno "stretch") else wno "note"
theorem wno_dt {S : Addr → Prop} {H : Hp} {q : Addr} {w : Str} (t : tupQ K H q = some [.str w, .non]) : Dt K S H (wno w) (.ref q) := by
  simp only [wno, Dt, DtAll]
  exact ⟨q, _, rfl, t, _, _, rfl, rfl, _, _, rfl, rfl, rfl⟩
theorem told_dt {S : Addr → Prop} {H : Hp} {q : Addr} {x : V} {dx : PyData} (t : tupQ K H q = some [.str "told", x]) (h : Dt K S H dx x) : Dt K S H (told dx) (.ref q) := by
  simp only [told, Dt, DtAll]
  exact ⟨q, _, rfl, t, _, _, rfl, rfl, _, _, rfl, h, rfl⟩
theorem bl_dt {S : Addr → Prop} {H : Hp} {b : Bool} : Dt K S H (.bool b) (.bl b) := by unfold Dt; rfl
theorem non_dt {S : Addr → Prop} {H : Hp} : Dt K S H .none .non := by unfold Dt; rfl
theorem hd_sh (e : Nt) : SeqAt.shaped e.nd = true := by
  obtain ⟨n, lo, hi, t, m⟩ := e
  cases t <;> cases m <;> simp only [SeqAt.shaped, Nt.nd, Half.hd, PyData.canLay0, PyData.canLayAll0, PyData.depth, PyData.depthAll] <;> decide +kernel
theorem told_sh (e : Nt) : SeqAt.shaped (told e.nd) = true := by
  obtain ⟨n, lo, hi, t, m⟩ := e
  cases t <;> cases m <;> simp only [told, SeqAt.shaped, Nt.nd, Half.hd, PyData.canLay0, PyData.canLayAll0, PyData.depth, PyData.depthAll] <;> decide +kernel
theorem toldb_sh (b : Bool) : SeqAt.shaped (told (.bool b)) = true := by cases b <;> decide +kernel
theorem dueT_nd {e : Nt} {k : Int} (h : e.ok) (hk : isW 0 999999999999 (.int k) = true) : dueT e.nd (.int k) = told (.bool (e.has k)) := by
  unfold dueT
  rw [if_pos (isNt_nd h), if_pos hk]
  rfl
theorem dueS_nd {e e' : Nt} (h : e.ok) (h' : e'.ok) : dueS e.nd e'.nd = told (.bool (e.com e')) := by
  unfold dueS
  rw [if_pos ⟨isNt_nd h, isNt_nd h'⟩]
  rfl
theorem dueP_nd {e : Nt} {i j : Int} (h : e.ok) (hs : isSt (.int i) (.int j) = true) : dueP e.nd (.int i) (.int j) = told (if mx e.lo i < mn e.hi j then (e.cut i j).nd else .none) := by
  unfold dueP
  rw [if_pos (isNt_nd h), if_pos hs]
  rfl
theorem dueT_sh {d dk : PyData} : SeqAt.shaped (dueT d dk) = true := by
  by_cases c1 : isNt d = true
  · obtain ⟨e, ok, rfl⟩ := isNt_of c1
    by_cases c2 : isW 0 999999999999 dk = true
    · obtain ⟨k, rfl, _⟩ := isW_int c2
      rw [dueT_nd ok c2]
      exact toldb_sh _
    · unfold dueT
      rw [if_pos c1, if_neg c2]
      decide +kernel
  · unfold dueT
    rw [if_neg c1]
    decide +kernel
theorem dueS_sh {d d' : PyData} : SeqAt.shaped (dueS d d') = true := by
  by_cases c1 : isNt d = true ∧ isNt d' = true
  · obtain ⟨e, ok, rfl⟩ := isNt_of c1.1
    obtain ⟨e', ok', rfl⟩ := isNt_of c1.2
    rw [dueS_nd ok ok']
    exact toldb_sh _
  · unfold dueS
    rw [if_neg c1]
    decide +kernel
theorem dueP_sh {d a b : PyData} (_ : SeqAt.shaped d = true) : SeqAt.shaped (dueP d a b) = true := by
  by_cases c1 : isNt d = true
  · obtain ⟨e, ok, rfl⟩ := isNt_of c1
    by_cases c2 : isSt a b = true
    · obtain ⟨i, j, rfl, rfl, _⟩ := isSt_int c2
      rw [dueP_nd ok c2]
      split
      · exact told_sh _
      · decide +kernel
    · unfold dueP
      rw [if_pos c1, if_neg c2]
      decide +kernel
  · unfold dueP
    rw [if_neg c1]
    decide +kernel
structure SpA (K : PySem.W.Frag) (T : Addr) (H : Hp) (v v' k : V) (st : Addr) (S : Addr → Prop) (d d' dk : PyData) (a b : V) (da db : PyData) : Prop where
  hd : Dt K S H d v
  sh : SeqAt.shaped d = true
  bd : ∀ n r, d = .tuple (.int n :: r) → n ≤ 10 ^ 60
  hd' : Dt K S H d' v'
  sh' : SeqAt.shaped d' = true
  bd' : ∀ n r, d' = .tuple (.int n :: r) → n ≤ 10 ^ 60
  hk : Dt K S H dk k
  hst : tupQ K H st = some [a, b]
  ha : Dt K S H da a
  hb : Dt K S H db b
  tab : ∃ ps, H T = some (.tbl ps) ∧ CTab H ps lamQual
theorem SpA.xt {T : Addr} {H H' : Hp} {v v' k : V} {st : Addr} {S : Addr → Prop} {d d' dk : PyData} {a b : V} {da db : PyData} (h : SpA K T H v v' k st S d d' dk a b da db) (x : XT K T lamQual H H') : SpA K T H' v v' k st S d d' dk a b da db :=
  ⟨h.hd.xt x, h.sh, h.bd, h.hd'.xt x, h.sh', h.bd', h.hk.xt x, x.tup h.hst, h.ha.xt x, h.hb.xt x, x.tab⟩
def spAsked (K : PySem.W.Frag) (T : Addr) : Sp := fun vs H Q _ => ∃ v v' k st S d d' dk a b da db, vs = [v, v', k, .ref st] ∧ SpA K T H v v' k st S d d' dk a b da db ∧ ∀ H', XT K T lamQual H H' → Q (.bl true) H'
theorem sc__law_asked : FnScope ["_law_thing", "_law_other", "_law_key_here", "_law_stretch_here", "_law_due"] ["_law_thing", "_law_other", "_law_key_here", "_law_stretch_here"] (defScope s__law_asked) := ⟨rfl, rfl, rfl, by decide +kernel, rfl, by decide +kernel, by decide +kernel⟩
theorem ok__law_asked {f cT aT : Addr} {oc : Value} {od an : Option Addr} {kV doc pm ct : Value} {osl : Array (Option Value)} (lk : K.lookup f = some ⟨oc, od, .func (PySem.W.fnOf "_law_asked" "_law_asked" (defArgs s__law_asked) (defBody s__law_asked) (defScope s__law_asked) .none kV doc pm an (.ref cT) ct), osl⟩) (hcd : PySem.W.codeIn K (.ref cT) "_law_asked" = true) (hC : PySem.W.CodeHd base cT aT) (hM : BMain mg base) {aG cF cA cD cN cK cS : Addr} {tE : Tok} (B : B K mg aG tE cF cA cD cN cK cS)
    (C__law_is_note : Callee P w K mg base "_law_is_note" 3 ["_law_thing"] (spLNt K))
    (C__law_whole : Callee P w K mg base "_law_whole" 1 ["_law_thing", "_law_low", "_law_high"] (spWholeD K))
    (C__law_is_stretch : Callee P w K mg base "_law_is_stretch" 2 ["_law_low", "_law_high"] (spIsStD K))
    (C__law_due_part : Callee P w K mg base "_law_due_part" 1 ["_law_note_here", "_law_low", "_law_high"] (spDueP K))
    (C__law_word : Asker P w K mg base "_law_word" 8 (twWord K cN cK cS))
    (C_touches : CalleeX P w K mg base "touches" 6 ["note", "key"] (spTouchX K cN cK))
    (C_shares : CalleeX P w K mg base "shares" 6 ["note", "other"] (spShareX K cN))
    (C_part : CalleeX P w K mg base "part" 6 ["note", "low", "high"] (spPartX K cN cS)) : FnOk P w K mg base CX0 11 f (PySem.W.fnOf "_law_asked" "_law_asked" (defArgs s__law_asked) (defBody s__law_asked) (defScope s__law_asked) .none kV doc pm an (.ref cT) ct) ["_law_thing", "_law_other", "_law_key_here", "_law_stretch_here"] (spAsked K aT) := by
  refine Fun.okL lk hcd sc__law_asked (fun vs H Q E h => ?_) (fun A outer s H vs Q E hr h => ?_)
  · obtain ⟨v, v', k, st, S, d, d', dk, a, b, da, db, rfl, _⟩ := h
    rfl
  obtain ⟨v, v', k, st, S, d, d', dk, a, b, da, db, rfl, A0, q⟩ := h
  refine ex_seal (rest := (defBody s__law_asked).drop 8) (bone (sret (ecmp (op_eqD hr.units) (ewordQ lamQual C__law_word (LawTab.mk (c := cT) (P := aT) rfl hC hM) (hr.mono (by decide)) rfl (Cap.mk (N := ["_law_thing", "_law_stretch_here"]) (src := [some 0, some 3]) rfl rfl) ⟨rfl, rfl, rfl, by decide +kernel, fun _ _ _ _ _ _ => rfl⟩ (fun _ => rfl) (fun E2 A2 o2 s2 H2 f2 c2 q2 l2 hr => (ecallX C_part (pass_on ⟨rfl, rfl⟩ rfl rfl) (hr.mono (by decide)) rfl (acons (ev 0) (acons (eix (ix_QK K) (ev 1) ei (fun _ _ => rfl)) (acons (eix (ix_QK K) (ev 1) ei (fun _ _ => rfl)) anil)))))) (ev 4) (nomark _)))) fun r8 J8 e8 => ?_
  refine ex_seal (rest := (defBody s__law_asked).drop 6) (bcons (sset (i := 4) sc__law_asked.nd rfl (Or.inl rfl) (etupQ (acons estr (acons enon anil))))
      (bcut (sif (tval (ecall C__law_is_note (hr.mono (by decide)) rfl (acons (ev 0) anil))) (bcons (sset (i := 4) sc__law_asked.nd rfl (Or.inl rfl) (etupQ (acons estr (acons enon anil))))
      (bone (sif (tval (ecall C__law_is_stretch (hr.mono (by decide)) rfl (acons (eix ix_Q (ev 3) ei (fun _ _ => rfl)) (acons (eix ix_Q (ev 3) ei (fun _ _ => rfl)) anil)))) (bone (sset (i := 4) sc__law_asked.nd rfl (Or.inl rfl) (etupQ (acons estr (acons (ecall C__law_due_part (hr.mono (by decide)) rfl (acons (ev 0) (acons (eix ix_Q (ev 3) ei (fun _ _ => rfl)) (acons (eix ix_Q (ev 3) ei (fun _ _ => rfl)) anil)))) anil))))) bnil))) bnil)
      J8)) fun r6 J6 e6 => ?_
  refine ex_seal (rest := (defBody s__law_asked).drop 5) (bcons (sif (tcmp (op_neD hr.units) (ewordQ lamQual C__law_word (LawTab.mk (c := cT) (P := aT) rfl hC hM) (hr.mono (by decide)) rfl (Cap.mk (N := ["_law_thing", "_law_other"]) (src := [some 0, some 1]) rfl rfl) ⟨rfl, rfl, rfl, by decide +kernel, fun _ _ _ _ _ _ => rfl⟩ (fun _ => rfl) (fun E2 A2 o2 s2 H2 f2 c2 q2 l2 hr => (ecallX C_shares (pass_on ⟨rfl, rfl⟩ rfl rfl) (hr.mono (by decide)) rfl (acons (ev 0) (acons (ev 1) anil))))) (ev 4) (nomark _)) (bone (sret ebl)) bnil)
      J6) fun r5 J5 e5 => ?_
  refine ex_seal (rest := (defBody s__law_asked).drop 3) (bcons (sset (i := 4) sc__law_asked.nd rfl (Or.inl rfl) (etupQ (acons estr (acons enon anil))))
      (bcut (sif (tw (wand (tval (ecall C__law_is_note (hr.mono (by decide)) rfl (acons (ev 0) anil))) (wand1 (tval (ecall C__law_is_note (hr.mono (by decide)) rfl (acons (ev 1) anil)))))) (bone (sset (i := 4) sc__law_asked.nd rfl (Or.inl rfl) (etupQ (acons estr (acons (eand (ecmp op_lt (eix ix_Q (ev 0) ei (fun _ _ => rfl)) (eix ix_Q (ev 1) ei (fun _ _ => rfl)) (nomark _)) (eone (ecmp op_lt (eix ix_Q (ev 1) ei (fun _ _ => rfl)) (eix ix_Q (ev 0) ei (fun _ _ => rfl)) (nomark _)))) anil))))) bnil)
      J5)) fun r3 J3 e3 => ?_
  refine ex_seal (rest := (defBody s__law_asked).drop 2) (bcons (sif (tcmp (op_neD hr.units) (ewordQ lamQual C__law_word (LawTab.mk (c := cT) (P := aT) rfl hC hM) (hr.mono (by decide)) rfl (Cap.mk (N := ["_law_thing", "_law_key_here"]) (src := [some 0, some 2]) rfl rfl) ⟨rfl, rfl, rfl, by decide +kernel, fun _ _ _ _ _ _ => rfl⟩ (fun _ => rfl) (fun E2 A2 o2 s2 H2 f2 c2 q2 l2 hr => (ecallX C_touches (pass_on ⟨rfl, rfl⟩ rfl rfl) (hr.mono (by decide)) rfl (acons (ev 0) (acons (ev 1) anil))))) (ev 4) (nomark _)) (bone (sret ebl)) bnil)
      J3) fun r2 J2 e2 => ?_
  refine ⟨_, (bcons (sset (i := 4) sc__law_asked.nd rfl (Or.inl rfl) (etupQ (acons estr (acons enon anil))))
      (bcut (sif (tval (ecall C__law_is_note (hr.mono (by decide)) rfl (acons (ev 0) anil))) (bcons (sset (i := 4) sc__law_asked.nd rfl (Or.inl rfl) (etupQ (acons estr (acons enon anil))))
      (bone (sif (tval (ecall C__law_whole (hr.mono (by decide)) rfl (acons (ev 2) (acons ei (acons (eop op_sub (epowc 1000000000000) ei) anil))))) (bone (sset (i := 4) sc__law_asked.nd rfl (Or.inl rfl) (etupQ (acons estr (acons (echain op_le op_lt (eix ix_Q (ev 0) ei (fun _ _ => rfl)) (ev 2) (eix ix_Q (ev 0) ei (fun _ _ => rfl))) anil))))) bnil))) bnil)
      J2)), ?_⟩
  have T0 : XT K aT lamQual H H := XT.refl A0.tab
  have N8 : ∀ (qd : Addr) (H2 : Hp), XT K aT lamQual H H2 → Dt K S H2 (dueP d da db) (.ref qd) → r8 { nx := fun x H' => Q V.non H', rt := Q } [some v, some v', some k, some (.ref st), some (.ref qd)] H2 := by
    intro qd H2 X2 t2
    have A2 := A0.xt X2
    rw [e8]
    try walk_at "rn"
    obtain ⟨ps, e, cc⟩ := A2.tab
    refine ⟨⟨ps, e, cc⟩, fun H3 t3 => ?_⟩
    have X3 := XT.tabd ⟨_, e⟩ t3
    have A3 := A2.xt X3
    simp only [tSeq, tNext, tIfS, tAsg, gName, gSub, tRet, tRetN, tDrop, tVar, tC, tOp, tUn, rI0, rI, rU, tTest, tB, tAndV, tOrV, tNotV, tAnd, tOr, tNot, tIf, tChain, tCB, tCons, tNil, tLst, tTup, tCallC, List.getElem?_cons_zero, List.getElem?_cons_succ, List.set_cons_zero, List.set_cons_succ, Option.some.injEq, V.int.injEq, V.bl.injEq, V.ref.injEq, V.ty.injEq, V.str.injEq, List.cons.injEq, exists_eq_left', exists_eq_left, exists_and_left, and_true, true_and, and_assoc, cxK, rIxF, rSetL, rEq, rNe, scal, HO.lst.injEq, HO.tup.injEq, upd_none, ixN_10, ixN_20, ixN_21, ixN_30, ixN_31, ixN_32, upd_same, seqAt_updL, seqAt_updT, atI_0, atI_1, atI_2, atI_3, decide_eq_true_eq, L2.start, List.map_cons, List.map_nil, List.length_cons, List.length_nil, Nat.reduceAdd, Nat.reduceSub, List.replicate_succ, List.replicate_zero, List.cons_append, List.nil_append, List.append_nil, tFor_rng1, tFor_rng2, tFor_list, tFor_tup, CDv, CMul, CPow, sizeLine_eq, Int.reduceLE, Int.reduceLT, Int.reducePow, Int.reduceToNat, Int.reduceAdd, Int.reduceSub, Int.reduceMul, Int.reduceNeg, Nat.reduceLeDiff, Nat.reducePow, Nat.reduceLT, Int.reduceEq, true_or, or_true, ite_true, ite_false, if_true, if_false, Bool.not_true, Bool.not_false, Bool.false_eq_true, decide_true, decide_false, rIxQ, seqQ_updL, seqQ_updT, tupQ_updT, tSl, tNoPart, tPart, rSlQ, rSlTX, rCatQ, rCatTX, rCatTX0, tTupQ, tLstQ, tNever, rEqD, rInQ, gTupQ, gCons, gNil, tBM, rAppend, rCountT, rIndexT, cxN, tCall, tRaise, tTry, tAsk, tWord, Ends.gone, pick_nil, pick_own, pick_cap, join_some, seqQ_T A3.hst]
    have fin : ∀ (qq : Addr) (H9 : Hp), XT K aT lamQual H2 H9 → Dt K S H9 (dueP d da db) (.ref qq) → ∃ dd, Is K H9 dd (.ref qq) ∧ ∃ x, Is K H9 x (.ref qd) ∧ SeqAt.shaped dd = true ∧ SeqAt.shaped x = true ∧ Q (.bl (PyData.eqv dd x)) H9 := by
      intro qq H9 X9 t9
      have sh := dueP_sh A0.sh (d := d) (a := da) (b := db)
      refine ⟨_, t9.is, _, (t2.xt X9).is, sh, sh, ?_⟩
      rw [eqv_refl _ (SeqAt.canLay_of_shaped sh)]
      exact q _ (X2.trans X9)
    refine ⟨v, S, d, a, S, da, b, S, db, rfl, A3.hd, A3.sh, A3.ha, A3.hb, fun H4 x4 => ?_⟩
    have X4 := X3.ext x4
    split
    · rename_i c1
      split
      · rename_i c2
        intro e i j ok h1 h2 h3
        subst h1 h2 h3
        have hp := dueP_nd ok c2
        refine ⟨fun c u H5 n5 x5 qq H6 x6 t6 => fin qq H6 ((X4.ext x5).ext x6) ?_, fun c qq H6 x6 t6 => fin qq H6 (X4.ext x6) ?_⟩
        · rw [hp, if_pos c]
          exact told_dt t6 (n5.ext x6).dt
        · rw [hp, if_neg c]
          exact told_dt t6 non_dt
      · rename_i c2
        refine ⟨"stretch", .inr (.inr ⟨rfl, rfl⟩), fun qq H6 x6 t6 => fin qq H6 (X4.ext x6) ?_⟩
        unfold dueP
        rw [if_pos c1, if_neg c2]
        exact wno_dt t6
    · rename_i c1
      refine ⟨"note", .inl ⟨rfl, rfl⟩, fun qq H6 x6 t6 => fin qq H6 (X4.ext x6) ?_⟩
      unfold dueP
      rw [if_neg c1]
      exact wno_dt t6
  clear e8 J8
  have N6 : ∀ (u : Option V) (H2 : Hp), XT K aT lamQual H H2 → r6 { nx := fun x H' => Q V.non H', rt := Q } [some v, some v', some k, some (.ref st), u] H2 := by
    intro u H2 X2
    have A2 := A0.xt X2
    rw [e6]
    try walk_at "rn"
    intro p np
    have x0 := Ext.new (K := K) (o := .tup [V.str "note", V.non]) np
    refine ⟨fun σ H3 => ∃ qd, σ = [some v, some v', some k, some (.ref st), some (.ref qd)] ∧ Dt K S H3 (dueP d da db) (.ref qd) ∧ Ext K H2 H3, ?_, ?_⟩
    · try walk_at "rn"
      refine ⟨v, S, d, rfl, A2.hd.ext x0, A2.sh, A2.bd, fun H3 x1 => ⟨_, rfl, ?_⟩⟩
      have x01 := x0.trans x1
      cases c1 : isNt d
      · simp only [Bool.false_eq_true, if_false]
        refine ⟨?_, x01⟩
        simp only [dueP, c1, Bool.false_eq_true, if_false]
        exact wno_dt (x1.tup tupQ_updT)
      · simp only [if_true]
        intro p2 n2
        have x2 := Ext.new (K := K) (o := .tup [V.str "stretch", V.non]) n2
        have x02 := x01.trans x2
        have es := seqQ_T (x02.tup A2.hst)
        refine ⟨_, es, _, rfl, _, es, _, rfl, a, S, da, b, S, db, rfl, A2.ha.ext x02, A2.hb.ext x02, _, rfl, ?_⟩
        cases c2 : isSt da db
        · simp only [Bool.false_eq_true, if_false]
          refine ⟨?_, x02⟩
          simp only [dueP, c1, c2, Bool.false_eq_true, if_false, if_true]
          exact wno_dt tupQ_updT
        · simp only [if_true]
          obtain ⟨e, ok, rfl⟩ := isNt_of c1
          obtain ⟨i, j, rfl, rfl, _⟩ := isSt_int c2
          have hp := dueP_nd ok c2
          have ha := A2.ha
          have hb := A2.hb
          unfold Dt at ha hb
          subst ha hb
          refine ⟨_, es, _, rfl, _, es, _, rfl, v, e, i, j, rfl, (A2.hd.ext x02).note ok.np, fun c u H5 n5 x5 p6 n6 => ?_, fun c H5 x5 p6 n6 => ?_⟩
          · have x6 := Ext.new (K := K) (o := .tup [V.str "told", u]) n6
            refine ⟨?_, x02.trans (x5.trans x6)⟩
            rw [hp, if_pos c]
            exact told_dt tupQ_updT (n5.ext x6).dt
          · have x6 := Ext.new (K := K) (o := .tup [V.str "told", V.non]) n6
            refine ⟨?_, x02.trans (x5.trans x6)⟩
            rw [hp, if_neg c]
            exact told_dt tupQ_updT non_dt
    rintro σ H3 ⟨qd, rfl, hq, x3⟩
    exact N8 qd H3 (X2.ext x3) hq
  clear e6 J6 N8
  have N5 : ∀ (qd : Addr) (H2 : Hp), XT K aT lamQual H H2 → Dt K S H2 (dueS d d') (.ref qd) → r5 { nx := fun x H' => Q V.non H', rt := Q } [some v, some v', some k, some (.ref st), some (.ref qd)] H2 := by
    intro qd H2 X2 t2
    have A2 := A0.xt X2
    rw [e5]
    try walk_at "rn"
    obtain ⟨ps, e, cc⟩ := A2.tab
    refine ⟨⟨ps, e, cc⟩, fun H3 t3 => ?_⟩
    have X3 := XT.tabd ⟨_, e⟩ t3
    have A3 := A2.xt X3
    have fin : ∀ (qq : Addr) (H9 : Hp), XT K aT lamQual H2 H9 → Dt K S H9 (dueS d d') (.ref qq) → ∃ dd, Is K H9 dd (.ref qq) ∧ ∃ x, Is K H9 x (.ref qd) ∧ SeqAt.shaped dd = true ∧ SeqAt.shaped x = true ∧ if (!PyData.eqv dd x) = true then Q (.bl false) H9 else r6 { nx := fun x H' => Q V.non H', rt := Q } [some v, some v', some k, some (.ref st), some (.ref qd)] H9 := by
      intro qq H9 X9 t9
      have sh := dueS_sh (d := d) (d' := d')
      refine ⟨_, t9.is, _, (t2.xt X9).is, sh, sh, ?_⟩
      rw [eqv_refl _ (SeqAt.canLay_of_shaped sh)]
      exact N6 _ _ (X2.trans X9)
    refine ⟨v, S, d, v', S, d', rfl, A3.hd, A3.sh, A3.hd', A3.sh', fun H4 x4 => ?_⟩
    have X4 := X3.ext x4
    split
    · rename_i c1
      intro e e' ok ok' h1 h2
      subst h1 h2
      refine fun qq H6 x6 t6 => fin qq H6 (X4.ext x6) ?_
      rw [dueS_nd ok ok']
      exact told_dt t6 bl_dt
    · rename_i c1
      refine ⟨"note", .inl ⟨rfl, rfl⟩, fun qq H6 x6 t6 => fin qq H6 (X4.ext x6) ?_⟩
      unfold dueS
      rw [if_neg c1]
      exact wno_dt t6
  clear e5 J5 N6
  have N3 : ∀ (u : Option V) (H2 : Hp), XT K aT lamQual H H2 → r3 { nx := fun x H' => Q V.non H', rt := Q } [some v, some v', some k, some (.ref st), u] H2 := by
    intro u H2 X2
    have A2 := A0.xt X2
    rw [e3]
    try walk_at "rn"
    intro p np
    have x0 := Ext.new (K := K) (o := .tup [V.str "note", V.non]) np
    refine ⟨fun σ H3 => ∃ qd, σ = [some v, some v', some k, some (.ref st), some (.ref qd)] ∧ Dt K S H3 (dueS d d') (.ref qd) ∧ Ext K H2 H3, ?_, ?_⟩
    · try walk_at "rn"
      refine ⟨v, S, d, rfl, A2.hd.ext x0, A2.sh, A2.bd, fun H3 x1 => ⟨_, rfl, ?_⟩⟩
      have x01 := x0.trans x1
      cases c1 : isNt d
      · simp only [Bool.false_eq_true, if_false]
        refine ⟨?_, x01⟩
        simp only [dueS, c1, Bool.false_eq_true, false_and, if_false]
        exact wno_dt (x1.tup tupQ_updT)
      · simp only [if_true]
        refine ⟨v', S, d', rfl, A2.hd'.ext x01, A2.sh', A2.bd', fun H4 x2 => ⟨_, rfl, ?_⟩⟩
        have x02 := x01.trans x2
        cases c2 : isNt d'
        · simp only [Bool.false_eq_true, if_false]
          refine ⟨?_, x02⟩
          simp only [dueS, c1, c2, Bool.false_eq_true, and_false, if_false]
          exact wno_dt ((x1.trans x2).tup tupQ_updT)
        · simp only [if_true]
          obtain ⟨e, ok, rfl⟩ := isNt_of c1
          obtain ⟨e', ok', rfl⟩ := isNt_of c2
          obtain ⟨na, wa, rfl, hna, _⟩ := (A2.hd.ext x02).note ok.np
          obtain ⟨nb, wb, rfl, hnb, _⟩ := (A2.hd'.ext x02).note ok'.np
          have ea := seqQ_T hna
          have eb := seqQ_T hnb
          rw [dueS_nd ok ok']
          refine ⟨_, rfl, _, ea, _, rfl, _, rfl, _, eb, _, rfl, _, rfl, _, rfl, ?_⟩
          split
          · rename_i c3
            refine ⟨_, rfl, _, eb, _, rfl, _, rfl, _, ea, _, rfl, _, rfl, _, rfl, fun p3 n3 => ⟨?_, x02.trans (Ext.new n3)⟩⟩
            have : e.com e' = decide (e'.lo < e.hi) := decide_eq_decide.mpr ⟨fun z => z.2, fun z => ⟨c3, z⟩⟩
            rw [this]
            exact told_dt tupQ_updT bl_dt
          · rename_i c3
            refine fun p3 n3 => ⟨?_, x02.trans (Ext.new n3)⟩
            have : e.com e' = false := decide_eq_false fun z => c3 z.1
            rw [this]
            exact told_dt tupQ_updT bl_dt
    rintro σ H3 ⟨qd, rfl, hq, x3⟩
    exact N5 qd H3 (X2.ext x3) hq
  clear e3 J3 N5
  have N2 : ∀ (qd : Addr) (H2 : Hp), XT K aT lamQual H H2 → Dt K S H2 (dueT d dk) (.ref qd) → r2 { nx := fun x H' => Q V.non H', rt := Q } [some v, some v', some k, some (.ref st), some (.ref qd)] H2 := by
    intro qd H2 X2 t2
    have A2 := A0.xt X2
    rw [e2]
    try walk_at "rn"
    obtain ⟨ps, e, cc⟩ := A2.tab
    refine ⟨⟨ps, e, cc⟩, fun H3 t3 => ?_⟩
    have X3 := XT.tabd ⟨_, e⟩ t3
    have A3 := A2.xt X3
    have fin : ∀ (qq : Addr) (H9 : Hp), XT K aT lamQual H2 H9 → Dt K S H9 (dueT d dk) (.ref qq) → ∃ dd, Is K H9 dd (.ref qq) ∧ ∃ x, Is K H9 x (.ref qd) ∧ SeqAt.shaped dd = true ∧ SeqAt.shaped x = true ∧ if (!PyData.eqv dd x) = true then Q (.bl false) H9 else r3 { nx := fun x H' => Q V.non H', rt := Q } [some v, some v', some k, some (.ref st), some (.ref qd)] H9 := by
      intro qq H9 X9 t9
      have sh := dueT_sh (d := d) (dk := dk)
      refine ⟨_, t9.is, _, (t2.xt X9).is, sh, sh, ?_⟩
      rw [eqv_refl _ (SeqAt.canLay_of_shaped sh)]
      exact N3 _ _ (X2.trans X9)
    refine ⟨v, S, d, k, S, dk, rfl, A3.hd, A3.sh, A3.hk, fun H4 x4 => ?_⟩
    have X4 := X3.ext x4
    split
    · rename_i c1
      split
      · rename_i c2
        intro e kk ok h1 h2
        subst h1 h2
        refine fun qq H6 x6 t6 => fin qq H6 (X4.ext x6) ?_
        rw [dueT_nd ok c2]
        exact told_dt t6 bl_dt
      · rename_i c2
        refine ⟨"key", .inr (.inl ⟨rfl, rfl⟩), fun qq H6 x6 t6 => fin qq H6 (X4.ext x6) ?_⟩
        unfold dueT
        rw [if_pos c1, if_neg c2]
        exact wno_dt t6
    · rename_i c1
      refine ⟨"note", .inl ⟨rfl, rfl⟩, fun qq H6 x6 t6 => fin qq H6 (X4.ext x6) ?_⟩
      unfold dueT
      rw [if_neg c1]
      exact wno_dt t6
  clear e2 J2 N3
  try walk_at "rn"
  intro p np
  have x0 := Ext.new (K := K) (o := .tup [V.str "note", V.non]) np
  refine ⟨fun σ H1 => ∃ qd, σ = [some v, some v', some k, some (.ref st), some (.ref qd)] ∧ Dt K S H1 (dueT d dk) (.ref qd) ∧ Ext K H H1, ?_, ?_⟩
  · try walk_at "rn"
    refine ⟨v, S, d, rfl, A0.hd.ext x0, A0.sh, A0.bd, fun H1 x1 => ⟨_, rfl, ?_⟩⟩
    have x01 := x0.trans x1
    cases c1 : isNt d
    · simp only [Bool.false_eq_true, if_false]
      refine ⟨?_, x01⟩
      simp only [dueT, c1, Bool.false_eq_true, if_false]
      exact wno_dt (x1.tup tupQ_updT)
    · simp only [if_true]
      intro p2 n2
      have x2 := Ext.new (K := K) (o := .tup [V.str "key", V.non]) n2
      have x02 := x01.trans x2
      refine ⟨k, S, dk, _, _, rfl, A0.hk.ext x02, _, rfl, ?_⟩
      cases c2 : isW 0 999999999999 dk
      · simp only [Bool.false_eq_true, if_false]
        refine ⟨?_, x02⟩
        simp only [dueT, c1, c2, Bool.false_eq_true, if_false, if_true]
        exact wno_dt tupQ_updT
      · simp only [if_true]
        obtain ⟨e, ok, rfl⟩ := isNt_of c1
        obtain ⟨kk, rfl, _⟩ := isW_int c2
        have hk := A0.hk
        unfold Dt at hk
        subst hk
        obtain ⟨na, wa, rfl, hna, _⟩ := (A0.hd.ext x02).note ok.np
        have ea := seqQ_T hna
        rw [dueT_nd ok c2]
        refine ⟨_, rfl, _, ea, _, rfl, _, rfl, _, rfl, ?_⟩
        split
        · rename_i c3
          refine ⟨_, rfl, _, ea, _, rfl, _, rfl, _, rfl, fun p3 n3 => ⟨?_, x02.trans (Ext.new n3)⟩⟩
          have : e.has kk = decide (kk < e.hi) := decide_eq_decide.mpr ⟨fun z => z.2, fun z => ⟨c3, z⟩⟩
          rw [this]
          exact told_dt tupQ_updT bl_dt
        · rename_i c3
          refine fun p3 n3 => ⟨?_, x02.trans (Ext.new n3)⟩
          have : e.has kk = false := decide_eq_false fun z => c3 z.1
          rw [this]
          exact told_dt tupQ_updT bl_dt
  rintro σ H1 ⟨qd, rfl, hq1, x1⟩
  exact N2 qd H1 (T0.ext x1) hq1
def spLaw (K : PySem.W.Frag) (T : Addr) : Sp := fun vs H Q _ => ∃ (a : Addr) (ns : List Int), vs = [.ref a] ∧ SqL K H a (ns.map V.int) ∧ ns.length ≤ 63 ∧ OnlyT T H ∧ ∀ H', Q (.bl true) H'
theorem int_dt {S : Addr → Prop} {H : Hp} {i : Int} : Dt K S H (.int i) (.int i) := by unfold Dt; rfl
theorem nd_depth (e : Nt) : e.nd.depth ≤ 12 := by
  obtain ⟨n, lo, hi, t, m⟩ := e
  cases t <;> cases m <;> simp only [Nt.nd, Half.hd, PyData.depth, PyData.depthAll] <;> decide
theorem sc_law : FnScope ["_law_script", "_law_cell", "_law_well_here", "_law_way", "_law_is_odd", "_law_base_here", "_law_number", "_law_good", "_law_other", "_law_thing", "_law_told", "_law_key_here", "_law_stretch_here"] ["_law_script"] (defScope s_law) := ⟨rfl, rfl, rfl, by decide +kernel, rfl, by decide +kernel, by decide +kernel⟩
theorem ok_law {f aT : Addr} {fd : FuncData} (F : Fun K "law" "law" s_law f fd) {aG cF cA cD cN cK cS : Addr} {tE : Tok} (B : B K mg aG tE cF cA cD cN cK cS)
    (C__law_well : Callee P w K mg base "_law_well" 1 ["_law_cell"] (spWell K))
    (C__law_draw : Callee P w K mg base "_law_draw" 1 ["_law_well_here", "_law_many"] (spDraw K))
    (C__law_base : Callee P w K mg base "_law_base" 2 ["_law_well_here"] (spBaseL K))
    (C__law_note : Callee P w K mg base "_law_note" 4 ["_law_well_here", "_law_base_here", "_law_number"] (spNoteL K))
    (C__law_spoilt : Callee P w K mg base "_law_spoilt" 3 ["_law_well_here", "_law_note_here"] (spSpoilt K))
    (C_is_note : Callee P w K mg base "is_note" 4 ["thing"] (spIsNtD K))
    (C__law_is_note : Callee P w K mg base "_law_is_note" 3 ["_law_thing"] (spLNt K))
    (C__law_key : Callee P w K mg base "_law_key" 2 ["_law_well_here", "_law_base_here"] (spKeyL K))
    (C__law_stretch : Callee P w K mg base "_law_stretch" 3 ["_law_well_here", "_law_base_here"] (spStretchL K))
    (C__law_odd : Callee P w K mg base "_law_odd" 2 ["_law_well_here"] (spOddL K))
    (C__law_asked : Callee P w K mg base "_law_asked" 11 ["_law_thing", "_law_other", "_law_key_here", "_law_stretch_here"] (spAsked K aT)) : FnOk P w K mg base CX0 12 f fd ["_law_script"] (spLaw K aT) := by
  refine F.okJ sc_law (fun vs H Q E h => ?_) (fun cdv A outer s H vs Q E hr h => ?_)
  · obtain ⟨a, ns, rfl, _⟩ := h
    rfl
  obtain ⟨a, ns, rfl, hS, h63, ho, q⟩ := h
  refine ⟨_, (bcons (sfor PassesOwn.never rfl (ilist (eop op_catQ (elstQ (acons ei (acons ei anil))) (eslice sl_listQ (ev 0) onone (osome ei)))) (gname (i := 1) sc_law.nd rfl (Or.inl rfl))
        (bcons (sset (i := 2) sc_law.nd rfl (Or.inl rfl) (ecall C__law_well (hr.mono (by decide)) rfl (acons (ev 1) anil)))
      (bcons (sset (i := 3) sc_law.nd rfl (Or.inl rfl) (ecall C__law_draw (hr.mono (by decide)) rfl (acons (ev 2) (acons ei anil))))
      (bcons (sset (i := 4) sc_law.nd rfl (Or.inl rfl) (ecall C__law_draw (hr.mono (by decide)) rfl (acons (ev 2) (acons ei anil))))
      (bcons (sset (i := 5) sc_law.nd rfl (Or.inl rfl) (ecall C__law_base (hr.mono (by decide)) rfl (acons (ev 2) anil)))
      (bcons (sset (i := 6) sc_law.nd rfl (Or.inl rfl) (eop op_add ei (ecall C__law_draw (hr.mono (by decide)) rfl (acons (ev 2) (acons (eix ix_Q (elstQ (acons ei (acons (epowc 1000000000) anil))) (ecall C__law_draw (hr.mono (by decide)) rfl (acons (ev 2) (acons ei anil))) (fun _ _ => rfl)) anil)))))
      (bcons (sset (i := 7) sc_law.nd rfl (Or.inl rfl) (ecall C__law_note (hr.mono (by decide)) rfl (acons (ev 2) (acons (ev 5) (acons (ev 6) anil)))))
      (bcons (sset (i := 8) sc_law.nd rfl (Or.inl rfl) (ecall C__law_note (hr.mono (by decide)) rfl (acons (ev 2) (acons (ev 5) (acons (eop op_add (ev 6) ei) anil)))))
      (bcons (sset (i := 9) sc_law.nd rfl (Or.inl rfl) (ev 7))
      (bcut (sif (tcmp op_gt (ev 3) ei (nomark _)) (bone (sset (i := 9) sc_law.nd rfl (Or.inl rfl) (ecall C__law_spoilt (hr.mono (by decide)) rfl (acons (ev 2) (acons (ev 7) anil))))) bnil)
      (bcons (sset (i := 10) sc_law.nd rfl (Or.inl rfl) (ecall C_is_note (hr.mono (by decide)) rfl (acons (ev 9) anil)))
      (bcons (sif (tw (wor (tnot (tval (ecallB call_isinstQ rfl B.isinstance bt_isinstance (acons (ev 10) (acons (etyp rfl B.bool bt_bool) anil))))) (wor (tcmp op_ne (ev 10) (ecall C__law_is_note (hr.mono (by decide)) rfl (acons (ev 9) anil)) (nomark _)) (wor1 (tcmp op_notB (ecall C_is_note (hr.mono (by decide)) rfl (acons (ev 8) anil)) ebl (nomark _)))))) (bone (sret ebl)) bnil)
      (bcons (sset (i := 11) sc_law.nd rfl (Or.inl rfl) (ecall C__law_key (hr.mono (by decide)) rfl (acons (ev 2) (acons (ev 5) anil))))
      (bcons (sset (i := 12) sc_law.nd rfl (Or.inl rfl) (ecall C__law_stretch (hr.mono (by decide)) rfl (acons (ev 2) (acons (ev 5) anil))))
      (bcut (sif (tcmp op_eq (ev 4) ei (nomark _)) (bcons (sset (i := 11) sc_law.nd rfl (Or.inl rfl) (ecall C__law_odd (hr.mono (by decide)) rfl (acons (ev 2) anil)))
      (bone (sset (i := 12) sc_law.nd rfl (Or.inl rfl) (eix ix_Q (elstQ (acons (etupQ (acons (ev 11) (acons (eix ix_Q (ev 12) ei (fun _ _ => rfl)) anil))) (acons (etupQ (acons (eix ix_Q (ev 12) ei (fun _ _ => rfl)) (acons (ev 11) anil))) (acons (etupQ (acons (eix ix_Q (ev 12) ei (fun _ _ => rfl)) (acons (eix ix_Q (ev 12) ei (fun _ _ => rfl)) anil))) anil)))) (eop op_mod (ev 3) ei) (fun _ _ => rfl))))) bnil)
      (bone (sif (tw (wor (tnot (tval (ecall C__law_asked (hr.mono (by decide)) rfl (acons (ev 9) (acons (ev 8) (acons (ev 11) (acons (ev 12) anil))))))) (wor1 (tnot (tval (ecall C__law_asked (hr.mono (by decide)) rfl (acons (ev 8) (acons (ev 9) (acons (ev 11) (acons (ev 12) anil)))))))))) (bone (sret ebl)) bnil)))))))))))))))))
      (bone (sret ebl))), ?_⟩
  try walk_at "rn"
  intro b0 n0
  refine ⟨_, (Ext.new n0).same.seq hS, fun b1 n1 => ⟨_, (Ext.new n1).at upd_same, ?_, fun b2 n2 => ⟨⟨_, SqL.of upd_same⟩, ?_⟩⟩⟩
  · have z1 := cutV_length (ns.map V.int) none (some 16)
    rw [List.length_map] at z1
    simp only [List.length_cons, List.length_nil]
    omega
  have xG : Ext K H (upd (upd (upd H b0 (.lst [.int 0, .int 3])) b1 (.lst (cutV (ns.map V.int) none (some 16)))) b2 (.lst ([V.int 0, V.int 3] ++ cutV (ns.map V.int) none (some 16)))) := (Ext.new n0).trans ((Ext.new n1).trans (Ext.new n2))
  have eG : (upd (upd (upd H b0 (.lst [.int 0, .int 3])) b1 (.lst (cutV (ns.map V.int) none (some 16)))) b2 (.lst ([V.int 0, V.int 3] ++ cutV (ns.map V.int) none (some 16)))) b2 = some (.lst ([V.int 0, V.int 3] ++ cutV (ns.map V.int) none (some 16))) := upd_same
  generalize (upd (upd (upd H b0 (.lst [.int 0, .int 3])) b1 (.lst (cutV (ns.map V.int) none (some 16)))) b2 (.lst ([V.int 0, V.int 3] ++ cutV (ns.map V.int) none (some 16)))) = G at xG eG ⊢
  have tG : ∃ ps, G aT = some (.tbl ps) ∧ CTab G ps lamQual := ⟨#[], xG.same _ _ ho.1, trivial, fun _ _ e => nomatch e⟩
  have allI : ∀ x ∈ ([V.int 0, V.int 3] ++ cutV (ns.map V.int) none (some 16) : List V), ∃ c : Int, x = .int c := by
    intro x hx
    rcases List.mem_append.mp hx with hx | h
    · simp only [List.mem_cons, List.not_mem_nil, or_false] at hx
      rcases hx with rfl | rfl
      · exact ⟨_, rfl⟩
      · exact ⟨_, rfl⟩
    · obtain ⟨c, _, rfl⟩ := List.mem_map.mp (List.mem_of_mem_drop (List.mem_of_mem_take h))
      exact ⟨c, rfl⟩
  refine loop_list (xs := [V.int 0, V.int 3] ++ cutV (ns.map V.int) none (some 16)) (fun i σ H2 => ∃ v1 v2 v3 v4 v5 v6 v7 v8 v9 v10 v11 v12, σ = [some (.ref a), v1, v2, v3, v4, v5, v6, v7, v8, v9, v10, v11, v12] ∧ XT K aT lamQual G H2) ⟨_, _, _, _, _, _, _, _, _, _, _, _, rfl, XT.refl tG⟩ ?_ ?_ ?_
  · rintro i σ H2 _ ⟨_, _, _, _, _, _, _, _, _, _, _, _, _, x⟩
    exact SqL.of (x.at eG nofun)
  · rintro i x σ H0 hi ⟨v1, v2, v3, v4, v5, v6, v7, v8, v9, v10, v11, v12, rfl, x0⟩
    obtain ⟨c, rfl⟩ := allI x (List.mem_of_getElem? hi)
    try walk_at "rn"
    refine ⟨c, rfl, fun p x y z np => ?_⟩
    try walk_at "rn"
    refine ⟨p, _, _, _, 4, rfl, upd_same, by decide, by omega, fun way x y z H1 w0 w1 g1 k1 => ?_⟩
    try walk_at "rn"
    refine ⟨p, _, _, _, 4, rfl, g1, by decide, by omega, fun od x y z H2 o0 o1 g2 k2 => ?_⟩
    try walk_at "rn"
    refine ⟨p, _, _, _, rfl, g2, fun bs x y z H3 bs0 bs1 g3 k3 => ?_⟩
    try walk_at "rn"
    intro b4 n4
    have x4 := Ext.new (K := K) (o := .lst [V.int 9, V.int 1000000000]) n4
    have m4 : b4 ≠ p := (ne_of_none g3 n4.1).symm
    refine ⟨p, _, _, _, 2, rfl, x4.same _ _ g3, by decide, by omega, fun i x y z H4 i0 i1 g4 k4 => ⟨_, rfl, _, seqQ_lst (k4.keep b4 _ upd_same m4), ?_⟩⟩
    obtain ⟨mm, hmm, mm0, mm1⟩ : ∃ mm : Int, atI [V.int 9, V.int 1000000000] i = some (.int mm) ∧ 0 < mm ∧ mm ≤ 1000000000 := by
      rcases (by omega : i = 0 ∨ i = 1) with rfl | rfl
      · exact ⟨9, rfl, by decide, by decide⟩
      · exact ⟨1000000000, rfl, by decide, by decide⟩
    refine ⟨_, hmm, p, _, _, _, mm, rfl, g4, mm0, by omega, fun nn x y z H5 nn0 nn1 g5 k5 => ⟨_, rfl, ?_⟩⟩
    refine ⟨p, _, _, _, bs, 1 + nn, rfl, g5, bs0, bs1, by omega, fun gd e x y z H6 hn ok en g6 k6 => ?_⟩
    refine ⟨p, _, _, _, bs, 1 + nn + 1, rfl, g6, bs0, bs1, by omega, fun ot e' x y z H7 hn' ok' en' g7 k7 => ?_⟩
    have hn := hn.kp k7 g6
    have k07 := (k1.trans (k2.trans (k3.trans (x4.kp.trans (k4.trans (k5.trans (k6.trans k7)))))))
    clear k1 k2 k3 x4 k4 k5 k6 k7 hmm
    refine ⟨fun σ H8 => ∃ (th : V) (x y z : Int), σ = [some (.ref a), some (.int c), some (.ref p), some (.int way), some (.int od), some (.int bs), some (.int (1 + nn)), some gd, some ot, some th, v10, v11, v12] ∧ Dm K (fun b => b = p) H8 12 th ∧ H8 p = some (L3 x y z) ∧ Kp K p H7 H8, ?_, ?_⟩
    · try walk_at "rn"
      refine ite2 (fun cc => ?_) (fun cc => ?_)
      · refine ⟨p, _, _, _, gd, e, rfl, g7, hn, by rw [en]; omega, fun u x y z H8 du g8 k8 => ?_⟩
        try walk_at "rn"
        refine ⟨?_, _, _, _, g8, k8⟩
        obtain ⟨d, e1, e2⟩ := du
        exact ⟨d, e1.weak (fun b nb hb => nb (by rw [hb]; unfold tr; rw [g7]; simp)), e2⟩
      · refine ⟨?_, _, _, _, g7, Kp.refl⟩
        refine ⟨e.nd, hn.dt, SeqAt.canLay_of_shaped (hd_sh e), nd_depth e, fun i r z => ?_⟩
        cases z
        rw [en]
        omega
    rintro σ H8 ⟨th, x, y, z, rfl, ⟨d, hd, cd, dd, bd⟩, g8, k8⟩
    have hn' := hn'.kp k8 g7
    have k08 := k07.trans k8
    have sh : SeqAt.shaped d = true := by
      simp only [SeqAt.shaped, cd, Bool.true_and]
      exact decide_eq_true (by omega)
    clear hn k07 k8 g7
    try walk_at "rn"
    refine ⟨th, _, d, rfl, hd, sh, fun H9 x9 => ⟨_, .inl (.bl _), true, rfl, ?_⟩⟩
    simp only [Bool.not_true, Bool.false_eq_true, if_false]
    refine ⟨th, _, d, rfl, hd.ext x9, sh, bd, fun HA xA => ?_⟩
    simp only [decide_true, Bool.not_true, Bool.false_eq_true, if_false, true_and]
    have x9A := x9.trans xA
    refine ⟨ot, (fun b => b = p), e'.nd, rfl, (hn'.ext x9A).dt, hd_sh e', fun HB xB => ⟨_, rfl, ?_⟩⟩
    rw [isNt_nd ok']
    simp only [bne_self_eq_false, Bool.false_eq_true, if_false]
    have x8B := x9A.trans xB
    have hd := hd.ext x8B
    have hn' := hn'.ext x8B
    have g8 := x8B.same _ _ g8
    have k08 := k08.trans x8B.kp
    clear x9 xA x9A xB x8B
    refine ⟨p, _, _, _, bs, rfl, g8, bs0, bs1, fun kk x y z HC kk0 kk1 gC kC => ?_⟩
    try walk_at "rn"
    refine ⟨p, _, _, _, bs, rfl, gC, bs0, bs1, fun sa lo hi x y z HD hsa l0 l1 l2 gD kD => ?_⟩
    try walk_at "rn"
    have hd := (hd.kp kC g8 rfl).kp kD gC rfl
    have hn' := (hn'.kp kC g8).kp kD gC
    have k0D := k08.trans (kC.trans kD)
    clear kC kD k08 g8 gC
    refine ⟨fun σ HE => ∃ (kv : V) (st : Addr) (dk da db : PyData) (sa sb : V), σ = [some (.ref a), some (.int c), some (.ref p), some (.int way), some (.int od), some (.int bs), some (.int (1 + nn)), some gd, some ot, some th, some (.bl (isNt d)), some kv, some (.ref st)] ∧ Dt K (fun b => b = p) HE dk kv ∧ tupQ K HE st = some [sa, sb] ∧ Dt K (fun b => b = p) HE da sa ∧ Dt K (fun b => b = p) HE db sb ∧ Kp K p HD HE ∧ Dt K (fun b => b = p) HE d th ∧ NoteAt K HE ot e', ?_, ?_⟩
    · try walk_at "rn"
      refine ite2 (fun cc => ?_) (fun cc => ?_)
      · refine ⟨p, _, _, _, rfl, gD, fun kv x y z HE dkv _ gE kE => ?_⟩
        have hs := kE.tup gD hsa
        simp only [tSeq, tNext, tIfS, tAsg, gName, gSub, tRet, tRetN, tDrop, tVar, tC, tOp, tUn, rI0, rI, rU, tTest, tB, tAndV, tOrV, tNotV, tAnd, tOr, tNot, tIf, tChain, tCB, tCons, tNil, tLst, tTup, tCallC, List.getElem?_cons_zero, List.getElem?_cons_succ, List.set_cons_zero, List.set_cons_succ, Option.some.injEq, V.int.injEq, V.bl.injEq, V.ref.injEq, V.ty.injEq, V.str.injEq, List.cons.injEq, exists_eq_left', exists_eq_left, exists_and_left, and_true, true_and, and_assoc, cxK, rIxF, rSetL, rEq, rNe, scal, HO.lst.injEq, HO.tup.injEq, upd_none, ixN_10, ixN_20, ixN_21, ixN_30, ixN_31, ixN_32, upd_same, seqAt_updL, seqAt_updT, atI_0, atI_1, atI_2, atI_3, decide_eq_true_eq, L2.start, List.map_cons, List.map_nil, List.length_cons, List.length_nil, Nat.reduceAdd, Nat.reduceSub, List.replicate_succ, List.replicate_zero, List.cons_append, List.nil_append, List.append_nil, tFor_rng1, tFor_rng2, tFor_list, tFor_tup, CDv, CMul, CPow, sizeLine_eq, Int.reduceLE, Int.reduceLT, Int.reducePow, Int.reduceToNat, Int.reduceAdd, Int.reduceSub, Int.reduceMul, Int.reduceNeg, Nat.reduceLeDiff, Nat.reducePow, Nat.reduceLT, Int.reduceEq, true_or, or_true, ite_true, ite_false, if_true, if_false, Bool.not_true, Bool.not_false, Bool.false_eq_true, decide_true, decide_false, rIxQ, seqQ_updL, seqQ_updT, tupQ_updT, tSl, tNoPart, tPart, rSlQ, rSlTX, rCatQ, rCatTX, rCatTX0, tTupQ, tLstQ, tNever, rEqD, rInQ, gTupQ, gCons, gNil, tBM, rAppend, rCountT, rIndexT, cxN, tCall, tRaise, tTry, tAsk, tWord, Ends.gone, pick_nil, pick_own, pick_cap, join_some, seqQ_T hs]
        intro p1 n1
        have x1 := Ext.new (K := K) (o := .tup [kv, V.int hi]) n1
        refine ⟨_, seqQ_T (x1.tup hs), _, rfl, fun p2 n2 => ?_⟩
        have x2 := Ext.new (K := K) (o := .tup [V.int lo, kv]) n2
        have x12 := x1.trans x2
        refine ⟨_, seqQ_T (x12.tup hs), _, rfl, _, seqQ_T (x12.tup hs), _, rfl, fun p3 n3 p4 n4 => ?_⟩
        have x3 := Ext.new (K := K) (o := .tup [V.int hi, V.int lo]) n3
        have x4 := Ext.new (K := K) (o := .lst [V.ref p1, V.ref p2, V.ref p3]) n4
        have xx := x12.trans (x3.trans x4)
        have t1 := (x2.trans (x3.trans x4)).tup (tupQ_updT (K := K) (H := HE) (a := p1) (xs := [kv, V.int hi]))
        have t2 := (x3.trans x4).tup (tupQ_updT (K := K) (H := upd HE p1 (.tup [kv, V.int hi])) (a := p2) (xs := [V.int lo, kv]))
        have t3 := x4.tup (tupQ_updT (K := K) (H := upd (upd HE p1 (.tup [kv, V.int hi])) p2 (.tup [V.int lo, kv])) (a := p3) (xs := [V.int hi, V.int lo]))
        obtain ⟨dk, hdk, _⟩ := dkv
        have hdk := (hdk.weak (p' := fun b => b = p) (fun b nb hb => nb (by rw [hb]; unfold tr; rw [gD]; simp))).ext xx
        have hd := (hd.kp kE gD rfl).ext xx
        have hn' := (hn'.kp kE gD).ext xx
        have kk' := kE.trans xx.kp
        rcases (by omega : way % 3 = 0 ∨ way % 3 = 1 ∨ way % 3 = 2) with e | e | e
        · exact ⟨.ref p1, by rw [e]; rfl, p1, rfl, dk, hdk, dk, .int hi, _, _, t1, hdk, int_dt, kk', hd, hn'⟩
        · exact ⟨.ref p2, by rw [e]; rfl, p2, rfl, dk, hdk, .int lo, dk, _, _, t2, int_dt, hdk, kk', hd, hn'⟩
        · exact ⟨.ref p3, by rw [e]; rfl, p3, rfl, dk, hdk, .int hi, .int lo, _, _, t3, int_dt, int_dt, kk', hd, hn'⟩
      · exact ⟨.int kk, int_dt, .int lo, .int hi, _, _, hsa, int_dt, int_dt, Kp.refl, hd, hn'⟩
    rintro σ HE ⟨kv, st, dk, da, db, sa, sb, rfl, hdk, hst, hda, hdb, kE, hd, hn'⟩
    have xE := (k0D.trans kE).ext np
    have XE := x0.ext xE
    try walk_at "rn"
    have bn' : ∀ n r, e'.nd = .tuple (.int n :: r) → n ≤ 10 ^ 60 := fun n r z => by
      cases z
      rw [en']
      omega
    have A1 : SpA K aT HE th ot kv st (fun b => b = p) d e'.nd dk sa sb da db := ⟨hd, sh, bd, hn'.dt, hd_sh e', bn', hdk, hst, hda, hdb, XE.tab⟩
    refine ⟨th, ot, kv, st, _, d, e'.nd, dk, sa, sb, da, db, rfl, A1, fun HF XF => ⟨_, rfl, ?_⟩⟩
    simp only [Bool.not_true, Bool.false_eq_true, if_false]
    have A2 := A1.xt XF
    refine ⟨ot, th, kv, st, _, e'.nd, d, dk, sa, sb, da, db, rfl, ⟨A2.hd', A2.sh', A2.bd', A2.hd, A2.sh, A2.bd, A2.hk, A2.hst, A2.ha, A2.hb, A2.tab⟩, fun HG XG => ⟨_, rfl, ?_⟩⟩
    simp only [Bool.not_true, Bool.false_eq_true, if_false]
    exact XE.trans (XF.trans XG)
  · rintro σ H2 ⟨_, _, _, _, _, _, _, _, _, _, _, _, rfl, _⟩
    exact q H2
end
def tabOf (K : PySem.W.Frag) : Addr := match PySem.W.tabIn K "_law_asked" with
  | some (_, T) => T
  | none => 0
theorem all_mk {l : PySem.W.OpenLaw} {w : World} {K : PySem.W.Frag} {h : Heap} {mg : Str → Option Value} {fa f1 f2 f3 f4 f5 f6 f7 f8 f9 f10 f11 f12 f13 f14 f15 f16 f17 f18 f19 f20 f21 f22 f23 f24 f25 f26 f27 f28 f29 f30 f31 f32 f33 f34 f35 f36 : Addr} {od1 an1 od2 an2 od3 an3 od4 an4 od5 an5 od6 an6 od7 an7 od8 an8 od9 an9 od10 an10 od11 an11 od12 an12 od13 an13 od14 an14 od15 an15 od16 an16 od17 an17 od18 an18 od19 an19 od20 an20 od21 an21 od22 an22 od23 an23 od24 an24 od25 an25 od26 an26 od27 an27 od28 an28 od29 an29 od30 an30 od31 an31 od32 an32 od33 an33 od34 an34 od35 an35 od36 an36 : Option Addr} {sl1 sl2 sl3 sl4 sl5 sl6 sl7 sl8 sl9 sl10 sl11 sl12 sl13 sl14 sl15 sl16 sl17 sl18 sl19 sl20 sl21 sl22 sl23 sl24 sl25 sl26 sl27 sl28 sl29 sl30 sl31 sl32 sl33 sl34 sl35 sl36 : Array (Option Value)} {oc1 kV1 dc1 pm1 cd1 ct1 oc2 kV2 dc2 pm2 cd2 ct2 oc3 kV3 dc3 pm3 cd3 ct3 oc4 kV4 dc4 pm4 cd4 ct4 oc5 kV5 dc5 pm5 cd5 ct5 oc6 kV6 dc6 pm6 cd6 ct6 oc7 kV7 dc7 pm7 cd7 ct7 oc8 kV8 dc8 pm8 cd8 ct8 oc9 kV9 dc9 pm9 cd9 ct9 oc10 kV10 dc10 pm10 cd10 ct10 oc11 kV11 dc11 pm11 cd11 ct11 oc12 kV12 dc12 pm12 cd12 ct12 oc13 kV13 dc13 pm13 cd13 ct13 oc14 kV14 dc14 pm14 cd14 ct14 oc15 kV15 dc15 pm15 cd15 ct15 oc16 kV16 dc16 pm16 cd16 ct16 oc17 kV17 dc17 pm17 cd17 ct17 oc18 kV18 dc18 pm18 cd18 ct18 oc19 kV19 dc19 pm19 cd19 ct19 oc20 kV20 dc20 pm20 cd20 ct20 oc21 kV21 dc21 pm21 cd21 ct21 oc22 kV22 dc22 pm22 cd22 ct22 oc23 kV23 dc23 pm23 cd23 ct23 oc24 kV24 dc24 pm24 cd24 ct24 oc25 kV25 dc25 pm25 cd25 ct25 oc26 kV26 dc26 pm26 cd26 ct26 oc27 kV27 dc27 pm27 cd27 ct27 oc28 kV28 dc28 pm28 cd28 ct28 oc29 kV29 dc29 pm29 cd29 ct29 oc30 kV30 dc30 pm30 cd30 ct30 oc31 kV31 dc31 pm31 cd31 ct31 oc32 kV32 dc32 pm32 cd32 ct32 oc33 kV33 dc33 pm33 cd33 ct33 oc34 kV34 dc34 pm34 cd34 ct34 oc35 kV35 dc35 pm35 ct35 oc36 kV36 dc36 pm36 cd36 ct36 : Value} {aG : Addr} {tE : Tok} {cF : Addr} {cA : Addr} {cD : Addr} {cN : Addr} {cK : Addr} {cS : Addr} {dG : Option Addr} {tG : Tok} {nG : Nat} {slG : Array (Option Value)} {coN : Value} {doN : Option Addr} {cdN : ClassData} {slN : Array (Option Value)} {coK : Value} {doK : Option Addr} {cdK : ClassData} {slK : Array (Option Value)} {coS : Value} {doS : Option Addr} {cdS : ClassData} {slS : Array (Option Value)} {cT : Addr} (X : K.In h) (G : h.Ns mainGlobals mg) (hfa : mg "law" = some (.ref fa))
    (a1 : PySem.W.nsIn K mainGlobals "is_number" = some (some (.ref f1))) (l1 : K.lookup f1 = some ⟨oc1, od1, .func (PySem.W.fnOf "is_number" "is_number" (defArgs s_is_number) (defBody s_is_number) (defScope s_is_number) .none kV1 dc1 pm1 an1 cd1 ct1), sl1⟩) (c1 : PySem.W.codeIn K cd1 "is_number" = true) (k1 : PySem.W.keepIn K (.ref f1) = true)
    (a2 : PySem.W.nsIn K mainGlobals "is_whole" = some (some (.ref f2))) (l2 : K.lookup f2 = some ⟨oc2, od2, .func (PySem.W.fnOf "is_whole" "is_whole" (defArgs s_is_whole) (defBody s_is_whole) (defScope s_is_whole) .none kV2 dc2 pm2 an2 cd2 ct2), sl2⟩) (c2 : PySem.W.codeIn K cd2 "is_whole" = true) (k2 : PySem.W.keepIn K (.ref f2) = true)
    (a3 : PySem.W.nsIn K mainGlobals "is_whole_from" = some (some (.ref f3))) (l3 : K.lookup f3 = some ⟨oc3, od3, .func (PySem.W.fnOf "is_whole_from" "is_whole_from" (defArgs s_is_whole_from) (defBody s_is_whole_from) (defScope s_is_whole_from) .none kV3 dc3 pm3 an3 cd3 ct3), sl3⟩) (c3 : PySem.W.codeIn K cd3 "is_whole_from" = true) (k3 : PySem.W.keepIn K (.ref f3) = true)
    (a4 : PySem.W.nsIn K mainGlobals "is_key" = some (some (.ref f4))) (l4 : K.lookup f4 = some ⟨oc4, od4, .func (PySem.W.fnOf "is_key" "is_key" (defArgs s_is_key) (defBody s_is_key) (defScope s_is_key) .none kV4 dc4 pm4 an4 cd4 ct4), sl4⟩) (c4 : PySem.W.codeIn K cd4 "is_key" = true) (k4 : PySem.W.keepIn K (.ref f4) = true)
    (a5 : PySem.W.nsIn K mainGlobals "is_stretch" = some (some (.ref f5))) (l5 : K.lookup f5 = some ⟨oc5, od5, .func (PySem.W.fnOf "is_stretch" "is_stretch" (defArgs s_is_stretch) (defBody s_is_stretch) (defScope s_is_stretch) .none kV5 dc5 pm5 an5 cd5 ct5), sl5⟩) (c5 : PySem.W.codeIn K cd5 "is_stretch" = true) (k5 : PySem.W.keepIn K (.ref f5) = true)
    (a6 : PySem.W.nsIn K mainGlobals "check_key" = some (some (.ref f6))) (l6 : K.lookup f6 = some ⟨oc6, od6, .func (PySem.W.fnOf "check_key" "check_key" (defArgs s_check_key) (defBody s_check_key) (defScope s_check_key) .none kV6 dc6 pm6 an6 cd6 ct6), sl6⟩) (c6 : PySem.W.codeIn K cd6 "check_key" = true) (k6 : PySem.W.keepIn K (.ref f6) = true)
    (a7 : PySem.W.nsIn K mainGlobals "check_stretch" = some (some (.ref f7))) (l7 : K.lookup f7 = some ⟨oc7, od7, .func (PySem.W.fnOf "check_stretch" "check_stretch" (defArgs s_check_stretch) (defBody s_check_stretch) (defScope s_check_stretch) .none kV7 dc7 pm7 an7 cd7 ct7), sl7⟩) (c7 : PySem.W.codeIn K cd7 "check_stretch" = true) (k7 : PySem.W.keepIn K (.ref f7) = true)
    (a8 : PySem.W.nsIn K mainGlobals "is_half" = some (some (.ref f8))) (l8 : K.lookup f8 = some ⟨oc8, od8, .func (PySem.W.fnOf "is_half" "is_half" (defArgs s_is_half) (defBody s_is_half) (defScope s_is_half) .none kV8 dc8 pm8 an8 cd8 ct8), sl8⟩) (c8 : PySem.W.codeIn K cd8 "is_half" = true) (k8 : PySem.W.keepIn K (.ref f8) = true)
    (a9 : PySem.W.nsIn K mainGlobals "is_action" = some (some (.ref f9))) (l9 : K.lookup f9 = some ⟨oc9, od9, .func (PySem.W.fnOf "is_action" "is_action" (defArgs s_is_action) (defBody s_is_action) (defScope s_is_action) .none kV9 dc9 pm9 an9 cd9 ct9), sl9⟩) (c9 : PySem.W.codeIn K cd9 "is_action" = true) (k9 : PySem.W.keepIn K (.ref f9) = true)
    (a10 : PySem.W.nsIn K mainGlobals "is_note" = some (some (.ref f10))) (l10 : K.lookup f10 = some ⟨oc10, od10, .func (PySem.W.fnOf "is_note" "is_note" (defArgs s_is_note) (defBody s_is_note) (defScope s_is_note) .none kV10 dc10 pm10 an10 cd10 ct10), sl10⟩) (c10 : PySem.W.codeIn K cd10 "is_note" = true) (k10 : PySem.W.keepIn K (.ref f10) = true)
    (a11 : PySem.W.nsIn K mainGlobals "check_note" = some (some (.ref f11))) (l11 : K.lookup f11 = some ⟨oc11, od11, .func (PySem.W.fnOf "check_note" "check_note" (defArgs s_check_note) (defBody s_check_note) (defScope s_check_note) .none kV11 dc11 pm11 an11 cd11 ct11), sl11⟩) (c11 : PySem.W.codeIn K cd11 "check_note" = true) (k11 : PySem.W.keepIn K (.ref f11) = true)
    (a12 : PySem.W.nsIn K mainGlobals "has_key" = some (some (.ref f12))) (l12 : K.lookup f12 = some ⟨oc12, od12, .func (PySem.W.fnOf "has_key" "has_key" (defArgs s_has_key) (defBody s_has_key) (defScope s_has_key) .none kV12 dc12 pm12 an12 cd12 ct12), sl12⟩) (c12 : PySem.W.codeIn K cd12 "has_key" = true) (k12 : PySem.W.keepIn K (.ref f12) = true)
    (a13 : PySem.W.nsIn K mainGlobals "have_common" = some (some (.ref f13))) (l13 : K.lookup f13 = some ⟨oc13, od13, .func (PySem.W.fnOf "have_common" "have_common" (defArgs s_have_common) (defBody s_have_common) (defScope s_have_common) .none kV13 dc13 pm13 an13 cd13 ct13), sl13⟩) (c13 : PySem.W.codeIn K cd13 "have_common" = true) (k13 : PySem.W.keepIn K (.ref f13) = true)
    (a14 : PySem.W.nsIn K mainGlobals "cut" = some (some (.ref f14))) (l14 : K.lookup f14 = some ⟨oc14, od14, .func (PySem.W.fnOf "cut" "cut" (defArgs s_cut) (defBody s_cut) (defScope s_cut) .none kV14 dc14 pm14 an14 cd14 ct14), sl14⟩) (c14 : PySem.W.codeIn K cd14 "cut" = true) (k14 : PySem.W.keepIn K (.ref f14) = true)
    (a15 : PySem.W.nsIn K mainGlobals "touches" = some (some (.ref f15))) (l15 : K.lookup f15 = some ⟨oc15, od15, .func (PySem.W.fnOf "touches" "touches" (defArgs s_touches) (defBody s_touches) (defScope s_touches) .none kV15 dc15 pm15 an15 cd15 ct15), sl15⟩) (c15 : PySem.W.codeIn K cd15 "touches" = true) (k15 : PySem.W.keepIn K (.ref f15) = true)
    (a16 : PySem.W.nsIn K mainGlobals "shares" = some (some (.ref f16))) (l16 : K.lookup f16 = some ⟨oc16, od16, .func (PySem.W.fnOf "shares" "shares" (defArgs s_shares) (defBody s_shares) (defScope s_shares) .none kV16 dc16 pm16 an16 cd16 ct16), sl16⟩) (c16 : PySem.W.codeIn K cd16 "shares" = true) (k16 : PySem.W.keepIn K (.ref f16) = true)
    (a17 : PySem.W.nsIn K mainGlobals "part" = some (some (.ref f17))) (l17 : K.lookup f17 = some ⟨oc17, od17, .func (PySem.W.fnOf "part" "part" (defArgs s_part) (defBody s_part) (defScope s_part) .none kV17 dc17 pm17 an17 cd17 ct17), sl17⟩) (c17 : PySem.W.codeIn K cd17 "part" = true) (k17 : PySem.W.keepIn K (.ref f17) = true)
    (a18 : PySem.W.nsIn K mainGlobals "_law_well" = some (some (.ref f18))) (l18 : K.lookup f18 = some ⟨oc18, od18, .func (PySem.W.fnOf "_law_well" "_law_well" (defArgs s__law_well) (defBody s__law_well) (defScope s__law_well) .none kV18 dc18 pm18 an18 cd18 ct18), sl18⟩) (c18 : PySem.W.codeIn K cd18 "_law_well" = true) (k18 : PySem.W.keepIn K (.ref f18) = true)
    (a19 : PySem.W.nsIn K mainGlobals "_law_draw" = some (some (.ref f19))) (l19 : K.lookup f19 = some ⟨oc19, od19, .func (PySem.W.fnOf "_law_draw" "_law_draw" (defArgs s__law_draw) (defBody s__law_draw) (defScope s__law_draw) .none kV19 dc19 pm19 an19 cd19 ct19), sl19⟩) (c19 : PySem.W.codeIn K cd19 "_law_draw" = true) (k19 : PySem.W.keepIn K (.ref f19) = true)
    (a20 : PySem.W.nsIn K mainGlobals "_law_key" = some (some (.ref f20))) (l20 : K.lookup f20 = some ⟨oc20, od20, .func (PySem.W.fnOf "_law_key" "_law_key" (defArgs s__law_key) (defBody s__law_key) (defScope s__law_key) .none kV20 dc20 pm20 an20 cd20 ct20), sl20⟩) (c20 : PySem.W.codeIn K cd20 "_law_key" = true) (k20 : PySem.W.keepIn K (.ref f20) = true)
    (a21 : PySem.W.nsIn K mainGlobals "_law_base" = some (some (.ref f21))) (l21 : K.lookup f21 = some ⟨oc21, od21, .func (PySem.W.fnOf "_law_base" "_law_base" (defArgs s__law_base) (defBody s__law_base) (defScope s__law_base) .none kV21 dc21 pm21 an21 cd21 ct21), sl21⟩) (c21 : PySem.W.codeIn K cd21 "_law_base" = true) (k21 : PySem.W.keepIn K (.ref f21) = true)
    (a22 : PySem.W.nsIn K mainGlobals "_law_amount" = some (some (.ref f22))) (l22 : K.lookup f22 = some ⟨oc22, od22, .func (PySem.W.fnOf "_law_amount" "_law_amount" (defArgs s__law_amount) (defBody s__law_amount) (defScope s__law_amount) .none kV22 dc22 pm22 an22 cd22 ct22), sl22⟩) (c22 : PySem.W.codeIn K cd22 "_law_amount" = true) (k22 : PySem.W.keepIn K (.ref f22) = true)
    (a23 : PySem.W.nsIn K mainGlobals "_law_stretch" = some (some (.ref f23))) (l23 : K.lookup f23 = some ⟨oc23, od23, .func (PySem.W.fnOf "_law_stretch" "_law_stretch" (defArgs s__law_stretch) (defBody s__law_stretch) (defScope s__law_stretch) .none kV23 dc23 pm23 an23 cd23 ct23), sl23⟩) (c23 : PySem.W.codeIn K cd23 "_law_stretch" = true) (k23 : PySem.W.keepIn K (.ref f23) = true)
    (a24 : PySem.W.nsIn K mainGlobals "_law_action" = some (some (.ref f24))) (l24 : K.lookup f24 = some ⟨oc24, od24, .func (PySem.W.fnOf "_law_action" "_law_action" (defArgs s__law_action) (defBody s__law_action) (defScope s__law_action) .none kV24 dc24 pm24 an24 cd24 ct24), sl24⟩) (c24 : PySem.W.codeIn K cd24 "_law_action" = true) (k24 : PySem.W.keepIn K (.ref f24) = true)
    (a25 : PySem.W.nsIn K mainGlobals "_law_note" = some (some (.ref f25))) (l25 : K.lookup f25 = some ⟨oc25, od25, .func (PySem.W.fnOf "_law_note" "_law_note" (defArgs s__law_note) (defBody s__law_note) (defScope s__law_note) .none kV25 dc25 pm25 an25 cd25 ct25), sl25⟩) (c25 : PySem.W.codeIn K cd25 "_law_note" = true) (k25 : PySem.W.keepIn K (.ref f25) = true)
    (a26 : PySem.W.nsIn K mainGlobals "_law_whole" = some (some (.ref f26))) (l26 : K.lookup f26 = some ⟨oc26, od26, .func (PySem.W.fnOf "_law_whole" "_law_whole" (defArgs s__law_whole) (defBody s__law_whole) (defScope s__law_whole) .none kV26 dc26 pm26 an26 cd26 ct26), sl26⟩) (c26 : PySem.W.codeIn K cd26 "_law_whole" = true) (k26 : PySem.W.keepIn K (.ref f26) = true)
    (a27 : PySem.W.nsIn K mainGlobals "_law_is_half" = some (some (.ref f27))) (l27 : K.lookup f27 = some ⟨oc27, od27, .func (PySem.W.fnOf "_law_is_half" "_law_is_half" (defArgs s__law_is_half) (defBody s__law_is_half) (defScope s__law_is_half) .none kV27 dc27 pm27 an27 cd27 ct27), sl27⟩) (c27 : PySem.W.codeIn K cd27 "_law_is_half" = true) (k27 : PySem.W.keepIn K (.ref f27) = true)
    (a28 : PySem.W.nsIn K mainGlobals "_law_is_action" = some (some (.ref f28))) (l28 : K.lookup f28 = some ⟨oc28, od28, .func (PySem.W.fnOf "_law_is_action" "_law_is_action" (defArgs s__law_is_action) (defBody s__law_is_action) (defScope s__law_is_action) .none kV28 dc28 pm28 an28 cd28 ct28), sl28⟩) (c28 : PySem.W.codeIn K cd28 "_law_is_action" = true) (k28 : PySem.W.keepIn K (.ref f28) = true)
    (a29 : PySem.W.nsIn K mainGlobals "_law_is_stretch" = some (some (.ref f29))) (l29 : K.lookup f29 = some ⟨oc29, od29, .func (PySem.W.fnOf "_law_is_stretch" "_law_is_stretch" (defArgs s__law_is_stretch) (defBody s__law_is_stretch) (defScope s__law_is_stretch) .none kV29 dc29 pm29 an29 cd29 ct29), sl29⟩) (c29 : PySem.W.codeIn K cd29 "_law_is_stretch" = true) (k29 : PySem.W.keepIn K (.ref f29) = true)
    (a30 : PySem.W.nsIn K mainGlobals "_law_is_note" = some (some (.ref f30))) (l30 : K.lookup f30 = some ⟨oc30, od30, .func (PySem.W.fnOf "_law_is_note" "_law_is_note" (defArgs s__law_is_note) (defBody s__law_is_note) (defScope s__law_is_note) .none kV30 dc30 pm30 an30 cd30 ct30), sl30⟩) (c30 : PySem.W.codeIn K cd30 "_law_is_note" = true) (k30 : PySem.W.keepIn K (.ref f30) = true)
    (a31 : PySem.W.nsIn K mainGlobals "_law_odd" = some (some (.ref f31))) (l31 : K.lookup f31 = some ⟨oc31, od31, .func (PySem.W.fnOf "_law_odd" "_law_odd" (defArgs s__law_odd) (defBody s__law_odd) (defScope s__law_odd) .none kV31 dc31 pm31 an31 cd31 ct31), sl31⟩) (c31 : PySem.W.codeIn K cd31 "_law_odd" = true) (k31 : PySem.W.keepIn K (.ref f31) = true)
    (a32 : PySem.W.nsIn K mainGlobals "_law_spoilt" = some (some (.ref f32))) (l32 : K.lookup f32 = some ⟨oc32, od32, .func (PySem.W.fnOf "_law_spoilt" "_law_spoilt" (defArgs s__law_spoilt) (defBody s__law_spoilt) (defScope s__law_spoilt) .none kV32 dc32 pm32 an32 cd32 ct32), sl32⟩) (c32 : PySem.W.codeIn K cd32 "_law_spoilt" = true) (k32 : PySem.W.keepIn K (.ref f32) = true)
    (a33 : PySem.W.nsIn K mainGlobals "_law_word" = some (some (.ref f33))) (l33 : K.lookup f33 = some ⟨oc33, od33, .func (PySem.W.fnOf "_law_word" "_law_word" (defArgs s__law_word) (defBody s__law_word) (defScope s__law_word) .none kV33 dc33 pm33 an33 cd33 ct33), sl33⟩) (c33 : PySem.W.codeIn K cd33 "_law_word" = true) (k33 : PySem.W.keepIn K (.ref f33) = true)
    (a34 : PySem.W.nsIn K mainGlobals "_law_due_part" = some (some (.ref f34))) (l34 : K.lookup f34 = some ⟨oc34, od34, .func (PySem.W.fnOf "_law_due_part" "_law_due_part" (defArgs s__law_due_part) (defBody s__law_due_part) (defScope s__law_due_part) .none kV34 dc34 pm34 an34 cd34 ct34), sl34⟩) (c34 : PySem.W.codeIn K cd34 "_law_due_part" = true) (k34 : PySem.W.keepIn K (.ref f34) = true)
    (a35 : PySem.W.nsIn K mainGlobals "_law_asked" = some (some (.ref f35))) (l35 : K.lookup f35 = some ⟨oc35, od35, .func (PySem.W.fnOf "_law_asked" "_law_asked" (defArgs s__law_asked) (defBody s__law_asked) (defScope s__law_asked) .none kV35 dc35 pm35 an35 (.ref cT) ct35), sl35⟩) (c35 : PySem.W.codeIn K (.ref cT) "_law_asked" = true) (k35 : PySem.W.keepIn K (.ref f35) = true)
    (a36 : PySem.W.nsIn K mainGlobals "law" = some (some (.ref f36))) (l36 : K.lookup f36 = some ⟨oc36, od36, .func (PySem.W.fnOf "law" "law" (defArgs s_law) (defBody s_law) (defScope s_law) .none kV36 dc36 pm36 an36 cd36 ct36), sl36⟩) (c36 : PySem.W.codeIn K cd36 "law" = true) (k36 : PySem.W.keepIn K (.ref f36) = true)
    (z_len : PySem.W.nsIn K mainGlobals "len" = some none)
    (z_isinstance : PySem.W.nsIn K mainGlobals "isinstance" = some none)
    (z_int : PySem.W.nsIn K mainGlobals "int" = some none)
    (z_bool : PySem.W.nsIn K mainGlobals "bool" = some none)
    (z_tuple : PySem.W.nsIn K mainGlobals "tuple" = some none)
    (z_str : PySem.W.nsIn K mainGlobals "str" = some none)
    (z_list : PySem.W.nsIn K mainGlobals "list" = some none)
    (z_min : PySem.W.nsIn K mainGlobals "min" = some none)
    (z_max : PySem.W.nsIn K mainGlobals "max" = some none)
    (z_GONE : PySem.W.nsIn K mainGlobals "GONE" = some (some (.ref aG)))
    (z_END : PySem.W.nsIn K mainGlobals "END" = some (some (.int 1000000000000 tE)))
    (z_FallError : PySem.W.nsIn K mainGlobals "FallError" = some (some (.ref cF)))
    (z_NoAction : PySem.W.nsIn K mainGlobals "NoAction" = some (some (.ref cA)))
    (z_NoDeed : PySem.W.nsIn K mainGlobals "NoDeed" = some (some (.ref cD)))
    (z_NoNote : PySem.W.nsIn K mainGlobals "NoNote" = some (some (.ref cN)))
    (z_NoKey : PySem.W.nsIn K mainGlobals "NoKey" = some (some (.ref cK)))
    (z_NoStretch : PySem.W.nsIn K mainGlobals "NoStretch" = some (some (.ref cS)))
    (z_kG : K.lookup aG = some ⟨.type "tuple", dG, .seq #[.str "gone" tG] nG, slG⟩)
    (z_gt : PySem.W.specialIn K (.builtin "object.__class__") "__get__" = some (some (.builtin "getset_descriptor.__get__")))
    (z_tk : PySem.W.takesIn K (.builtin "object.__class__") = some true)
    (z_xN : PySem.W.excIn K cN [.type "ValueError", .type "Exception", .type "BaseException", .type "object"] "ValueError.__new__" = true)
    (z_gaN : PySem.W.findIn K (.ref cN) "__getattribute__" = some (some (.builtin "BaseException.__getattribute__")))
    (z_ghN : PySem.W.findIn K (.ref cN) "__getattr__" = some none)
    (z_clN : PySem.W.findIn K (.ref cN) "__class__" = some (some (.builtin "object.__class__")))
    (z_moN : PySem.W.mroIn K cN (.type "object") = some true)
    (z_mbN : PySem.W.mroIn K cN (.type "BaseException") = some true)
    (z_isN : K.lookup cN = some ⟨coN, doN, .cls cdN, slN⟩)
    (z_mN : PySem.W.exmOne K (.ref cN) (.ref cF) = some true)
    (z_kN1 : PySem.W.kitOne K (.ref cN) (.ref cN) = some true)
    (z_kN2 : PySem.W.kitOne K (.ref cN) (.ref cK) = some false)
    (z_kN3 : PySem.W.kitOne K (.ref cN) (.ref cS) = some false)
    (z_kN4 : PySem.W.kitOne K (.ref cN) (.ref cA) = some false)
    (z_kN5 : PySem.W.kitOne K (.ref cN) (.ref cD) = some false)
    (z_xK : PySem.W.excIn K cK [.type "ValueError", .type "Exception", .type "BaseException", .type "object"] "ValueError.__new__" = true)
    (z_gaK : PySem.W.findIn K (.ref cK) "__getattribute__" = some (some (.builtin "BaseException.__getattribute__")))
    (z_ghK : PySem.W.findIn K (.ref cK) "__getattr__" = some none)
    (z_clK : PySem.W.findIn K (.ref cK) "__class__" = some (some (.builtin "object.__class__")))
    (z_moK : PySem.W.mroIn K cK (.type "object") = some true)
    (z_mbK : PySem.W.mroIn K cK (.type "BaseException") = some true)
    (z_isK : K.lookup cK = some ⟨coK, doK, .cls cdK, slK⟩)
    (z_mK : PySem.W.exmOne K (.ref cK) (.ref cF) = some true)
    (z_kK1 : PySem.W.kitOne K (.ref cK) (.ref cN) = some false)
    (z_kK2 : PySem.W.kitOne K (.ref cK) (.ref cK) = some true)
    (z_kK3 : PySem.W.kitOne K (.ref cK) (.ref cS) = some false)
    (z_kK4 : PySem.W.kitOne K (.ref cK) (.ref cA) = some false)
    (z_kK5 : PySem.W.kitOne K (.ref cK) (.ref cD) = some false)
    (z_xS : PySem.W.excIn K cS [.type "ValueError", .type "Exception", .type "BaseException", .type "object"] "ValueError.__new__" = true)
    (z_gaS : PySem.W.findIn K (.ref cS) "__getattribute__" = some (some (.builtin "BaseException.__getattribute__")))
    (z_ghS : PySem.W.findIn K (.ref cS) "__getattr__" = some none)
    (z_clS : PySem.W.findIn K (.ref cS) "__class__" = some (some (.builtin "object.__class__")))
    (z_moS : PySem.W.mroIn K cS (.type "object") = some true)
    (z_mbS : PySem.W.mroIn K cS (.type "BaseException") = some true)
    (z_isS : K.lookup cS = some ⟨coS, doS, .cls cdS, slS⟩)
    (z_mS : PySem.W.exmOne K (.ref cS) (.ref cF) = some true)
    (z_kS1 : PySem.W.kitOne K (.ref cS) (.ref cN) = some false)
    (z_kS2 : PySem.W.kitOne K (.ref cS) (.ref cK) = some false)
    (z_kS3 : PySem.W.kitOne K (.ref cS) (.ref cS) = some true)
    (z_kS4 : PySem.W.kitOne K (.ref cS) (.ref cA) = some false)
    (z_kS5 : PySem.W.kitOne K (.ref cS) (.ref cD) = some false)
    (ht : PySem.W.tabIn K "_law_asked" = some (cT, tabOf K)) (hk : K.lookup (tabOf K) = none) :
    ∃ (fd : FuncData) (c T : Addr), PySem.W.tabIn K "_law_asked" = some (c, T) ∧ K.lookup T = none ∧ (∀ (s : Shared) (v : Value), BindsTo s fd ⟨[v], []⟩ [("_law_script", v)]) ∧ ∀ base : Heap, K.In base → base.Ns mainGlobals mg → PySem.W.CodeHd base c T → BMain mg base → FnOk l.prog w K mg base CX0 12 fa fd ["_law_script"] (spLaw K T) := by
  have e := hfa.symm.trans (PySem.W.mg_of X G a36)
  cases e
  have B := (B.mk (PySem.W.mg_none_of X G z_len) (PySem.W.mg_none_of X G z_isinstance) (PySem.W.mg_none_of X G z_int) (PySem.W.mg_none_of X G z_bool) (PySem.W.mg_none_of X G z_tuple) (PySem.W.mg_none_of X G z_str) (PySem.W.mg_none_of X G z_list) (PySem.W.mg_none_of X G z_min) (PySem.W.mg_none_of X G z_max) (PySem.W.mg_of X G z_GONE) (kTup_of z_kG (by simp) rfl) (PySem.W.mg_of X G z_END) (PySem.W.mg_of X G z_FallError) (PySem.W.mg_of X G z_NoAction) (PySem.W.mg_of X G z_NoDeed) (PySem.W.mg_of X G z_NoNote) (PySem.W.mg_of X G z_NoKey) (PySem.W.mg_of X G z_NoStretch) ⟨⟨z_xN⟩, ⟨z_gaN, z_ghN, z_clN, z_moN, z_mbN, z_gt, z_tk, by unfold PySem.W.clsIn; rw [z_isN]; rfl⟩, z_mN, z_kN1, z_kN2, z_kN3, z_kN4, z_kN5⟩ ⟨⟨z_xK⟩, ⟨z_gaK, z_ghK, z_clK, z_moK, z_mbK, z_gt, z_tk, by unfold PySem.W.clsIn; rw [z_isK]; rfl⟩, z_mK, z_kK1, z_kK2, z_kK3, z_kK4, z_kK5⟩ ⟨⟨z_xS⟩, ⟨z_gaS, z_ghS, z_clS, z_moS, z_mbS, z_gt, z_tk, by unfold PySem.W.clsIn; rw [z_isS]; rfl⟩, z_mS, z_kS1, z_kS2, z_kS3, z_kS4, z_kS5⟩ : B K mg aG tE cF cA cD cN cK cS)
  have F1 := fun_mk (st := s_is_number) l1 c1 k1
  have b1 := F1.binds (ps := ["thing"]) fun _ _ _ _ _ _ us hl => match us, hl with | [_], _ => rfl
  have F2 := fun_mk (st := s_is_whole) l2 c2 k2
  have b2 := F2.binds (ps := ["thing", "low", "high"]) fun _ _ _ _ _ _ us hl => match us, hl with | [_, _, _], _ => rfl
  have F3 := fun_mk (st := s_is_whole_from) l3 c3 k3
  have b3 := F3.binds (ps := ["thing", "low"]) fun _ _ _ _ _ _ us hl => match us, hl with | [_, _], _ => rfl
  have F4 := fun_mk (st := s_is_key) l4 c4 k4
  have b4 := F4.binds (ps := ["thing"]) fun _ _ _ _ _ _ us hl => match us, hl with | [_], _ => rfl
  have F5 := fun_mk (st := s_is_stretch) l5 c5 k5
  have b5 := F5.binds (ps := ["low", "high"]) fun _ _ _ _ _ _ us hl => match us, hl with | [_, _], _ => rfl
  have F6 := fun_mk (st := s_check_key) l6 c6 k6
  have b6 := F6.binds (ps := ["thing"]) fun _ _ _ _ _ _ us hl => match us, hl with | [_], _ => rfl
  have F7 := fun_mk (st := s_check_stretch) l7 c7 k7
  have b7 := F7.binds (ps := ["low", "high"]) fun _ _ _ _ _ _ us hl => match us, hl with | [_, _], _ => rfl
  have F8 := fun_mk (st := s_is_half) l8 c8 k8
  have b8 := F8.binds (ps := ["thing", "words"]) fun _ _ _ _ _ _ us hl => match us, hl with | [_, _], _ => rfl
  have F9 := fun_mk (st := s_is_action) l9 c9 k9
  have b9 := F9.binds (ps := ["thing"]) fun _ _ _ _ _ _ us hl => match us, hl with | [_], _ => rfl
  have F10 := fun_mk (st := s_is_note) l10 c10 k10
  have b10 := F10.binds (ps := ["thing"]) fun _ _ _ _ _ _ us hl => match us, hl with | [_], _ => rfl
  have F11 := fun_mk (st := s_check_note) l11 c11 k11
  have b11 := F11.binds (ps := ["thing"]) fun _ _ _ _ _ _ us hl => match us, hl with | [_], _ => rfl
  have F12 := fun_mk (st := s_has_key) l12 c12 k12
  have b12 := F12.binds (ps := ["note", "key"]) fun _ _ _ _ _ _ us hl => match us, hl with | [_, _], _ => rfl
  have F13 := fun_mk (st := s_have_common) l13 c13 k13
  have b13 := F13.binds (ps := ["note", "other"]) fun _ _ _ _ _ _ us hl => match us, hl with | [_, _], _ => rfl
  have F14 := fun_mk (st := s_cut) l14 c14 k14
  have b14 := F14.binds (ps := ["note", "low", "high"]) fun _ _ _ _ _ _ us hl => match us, hl with | [_, _, _], _ => rfl
  have F15 := fun_mk (st := s_touches) l15 c15 k15
  have b15 := F15.binds (ps := ["note", "key"]) fun _ _ _ _ _ _ us hl => match us, hl with | [_, _], _ => rfl
  have F16 := fun_mk (st := s_shares) l16 c16 k16
  have b16 := F16.binds (ps := ["note", "other"]) fun _ _ _ _ _ _ us hl => match us, hl with | [_, _], _ => rfl
  have F17 := fun_mk (st := s_part) l17 c17 k17
  have b17 := F17.binds (ps := ["note", "low", "high"]) fun _ _ _ _ _ _ us hl => match us, hl with | [_, _, _], _ => rfl
  have F18 := fun_mk (st := s__law_well) l18 c18 k18
  have b18 := F18.binds (ps := ["_law_cell"]) fun _ _ _ _ _ _ us hl => match us, hl with | [_], _ => rfl
  have F19 := fun_mk (st := s__law_draw) l19 c19 k19
  have b19 := F19.binds (ps := ["_law_well_here", "_law_many"]) fun _ _ _ _ _ _ us hl => match us, hl with | [_, _], _ => rfl
  have F20 := fun_mk (st := s__law_key) l20 c20 k20
  have b20 := F20.binds (ps := ["_law_well_here", "_law_base_here"]) fun _ _ _ _ _ _ us hl => match us, hl with | [_, _], _ => rfl
  have F21 := fun_mk (st := s__law_base) l21 c21 k21
  have b21 := F21.binds (ps := ["_law_well_here"]) fun _ _ _ _ _ _ us hl => match us, hl with | [_], _ => rfl
  have F22 := fun_mk (st := s__law_amount) l22 c22 k22
  have b22 := F22.binds (ps := ["_law_well_here"]) fun _ _ _ _ _ _ us hl => match us, hl with | [_], _ => rfl
  have F23 := fun_mk (st := s__law_stretch) l23 c23 k23
  have b23 := F23.binds (ps := ["_law_well_here", "_law_base_here"]) fun _ _ _ _ _ _ us hl => match us, hl with | [_, _], _ => rfl
  have F24 := fun_mk (st := s__law_action) l24 c24 k24
  have b24 := F24.binds (ps := ["_law_well_here", "_law_is_one"]) fun _ _ _ _ _ _ us hl => match us, hl with | [_, _], _ => rfl
  have F25 := fun_mk (st := s__law_note) l25 c25 k25
  have b25 := F25.binds (ps := ["_law_well_here", "_law_base_here", "_law_number"]) fun _ _ _ _ _ _ us hl => match us, hl with | [_, _, _], _ => rfl
  have F26 := fun_mk (st := s__law_whole) l26 c26 k26
  have b26 := F26.binds (ps := ["_law_thing", "_law_low", "_law_high"]) fun _ _ _ _ _ _ us hl => match us, hl with | [_, _, _], _ => rfl
  have F27 := fun_mk (st := s__law_is_half) l27 c27 k27
  have b27 := F27.binds (ps := ["_law_half", "_law_words"]) fun _ _ _ _ _ _ us hl => match us, hl with | [_, _], _ => rfl
  have F28 := fun_mk (st := s__law_is_action) l28 c28 k28
  have b28 := F28.binds (ps := ["_law_thing"]) fun _ _ _ _ _ _ us hl => match us, hl with | [_], _ => rfl
  have F29 := fun_mk (st := s__law_is_stretch) l29 c29 k29
  have b29 := F29.binds (ps := ["_law_low", "_law_high"]) fun _ _ _ _ _ _ us hl => match us, hl with | [_, _], _ => rfl
  have F30 := fun_mk (st := s__law_is_note) l30 c30 k30
  have b30 := F30.binds (ps := ["_law_thing"]) fun _ _ _ _ _ _ us hl => match us, hl with | [_], _ => rfl
  have F31 := fun_mk (st := s__law_odd) l31 c31 k31
  have b31 := F31.binds (ps := ["_law_well_here"]) fun _ _ _ _ _ _ us hl => match us, hl with | [_], _ => rfl
  have F32 := fun_mk (st := s__law_spoilt) l32 c32 k32
  have b32 := F32.binds (ps := ["_law_well_here", "_law_note_here"]) fun _ _ _ _ _ _ us hl => match us, hl with | [_, _], _ => rfl
  have F33 := fun_mk (st := s__law_word) l33 c33 k33
  have b33 := F33.binds (ps := ["_law_ask"]) fun _ _ _ _ _ _ us hl => match us, hl with | [_], _ => rfl
  have F34 := fun_mk (st := s__law_due_part) l34 c34 k34
  have b34 := F34.binds (ps := ["_law_note_here", "_law_low", "_law_high"]) fun _ _ _ _ _ _ us hl => match us, hl with | [_, _, _], _ => rfl
  have F35 := fun_mk (st := s__law_asked) l35 c35 k35
  have b35 := F35.binds (ps := ["_law_thing", "_law_other", "_law_key_here", "_law_stretch_here"]) fun _ _ _ _ _ _ us hl => match us, hl with | [_, _, _, _], _ => rfl
  have F36 := fun_mk (st := s_law) l36 c36 k36
  refine ⟨PySem.W.fnOf "law" "law" (defArgs s_law) (defBody s_law) (defScope s_law) .none kV36 dc36 pm36 an36 cd36 ct36, cT, tabOf K, ht, hk, fun s v => .of_eq rfl, fun base _ _ hC hM => ?_⟩
  have C_is_number : Callee l.prog w K mg base "is_number" 1 ["thing"] (spNumD K) := ⟨f1, _, ok_is_number F1 B , b1, k1, PySem.W.mg_of X G a1⟩
  have C_is_whole : Callee l.prog w K mg base "is_whole" 2 ["thing", "low", "high"] (spWholeD K) := ⟨f2, _, ok_is_whole F2 B (C_is_number := C_is_number), b2, k2, PySem.W.mg_of X G a2⟩
  have C_is_whole_from : Callee l.prog w K mg base "is_whole_from" 2 ["thing", "low"] (spFromD K) := ⟨f3, _, ok_is_whole_from F3 B (C_is_number := C_is_number), b3, k3, PySem.W.mg_of X G a3⟩
  have C_is_key : Callee l.prog w K mg base "is_key" 3 ["thing"] (spIsKeyD K) := ⟨f4, _, ok_is_key F4 B (C_is_whole := C_is_whole), b4, k4, PySem.W.mg_of X G a4⟩
  have C_is_stretch : Callee l.prog w K mg base "is_stretch" 3 ["low", "high"] (spIsStD K) := ⟨f5, _, ok_is_stretch F5 B (C_is_whole := C_is_whole), b5, k5, PySem.W.mg_of X G a5⟩
  have C_check_key : CalleeX l.prog w K mg base "check_key" 4 ["thing"] (spCKeyD K cK) := ⟨f6, _, ok_check_key F6 B (C_is_key := C_is_key), b6, k6, PySem.W.mg_of X G a6⟩
  have C_check_stretch : CalleeX l.prog w K mg base "check_stretch" 4 ["low", "high"] (spCStD K cS) := ⟨f7, _, ok_check_stretch F7 B (C_is_stretch := C_is_stretch), b7, k7, PySem.W.mg_of X G a7⟩
  have C_is_half : Callee l.prog w K mg base "is_half" 2 ["thing", "words"] (spHalfD K) := ⟨f8, _, ok_is_half F8 B (C_is_number := C_is_number), b8, k8, PySem.W.mg_of X G a8⟩
  have C_is_action : Callee l.prog w K mg base "is_action" 3 ["thing"] (spActD K) := ⟨f9, _, ok_is_action F9 B (C_is_half := C_is_half), b9, k9, PySem.W.mg_of X G a9⟩
  have C_is_note : Callee l.prog w K mg base "is_note" 4 ["thing"] (spIsNtD K) := ⟨f10, _, ok_is_note F10 B (C_is_whole_from := C_is_whole_from) (C_is_stretch := C_is_stretch) (C_is_action := C_is_action), b10, k10, PySem.W.mg_of X G a10⟩
  have C_check_note : CalleeX l.prog w K mg base "check_note" 5 ["thing"] (spCNtD K cN) := ⟨f11, _, ok_check_note F11 B (C_is_note := C_is_note), b11, k11, PySem.W.mg_of X G a11⟩
  have C_has_key : Callee l.prog w K mg base "has_key" 1 ["note", "key"] (spHasKey K) := ⟨f12, _, ok_has_key F12 B , b12, k12, PySem.W.mg_of X G a12⟩
  have C_have_common : Callee l.prog w K mg base "have_common" 1 ["note", "other"] (spCommon K) := ⟨f13, _, ok_have_common F13 B , b13, k13, PySem.W.mg_of X G a13⟩
  have C_cut : Callee l.prog w K mg base "cut" 1 ["note", "low", "high"] (spCut K) := ⟨f14, _, ok_cut F14 B , b14, k14, PySem.W.mg_of X G a14⟩
  have C_touches : CalleeX l.prog w K mg base "touches" 6 ["note", "key"] (spTouchX K cN cK) := ⟨f15, _, ok_touches F15 B (C_check_note := C_check_note) (C_check_key := C_check_key) (C_has_key := C_has_key), b15, k15, PySem.W.mg_of X G a15⟩
  have C_shares : CalleeX l.prog w K mg base "shares" 6 ["note", "other"] (spShareX K cN) := ⟨f16, _, ok_shares F16 B (C_check_note := C_check_note) (C_have_common := C_have_common), b16, k16, PySem.W.mg_of X G a16⟩
  have C_part : CalleeX l.prog w K mg base "part" 6 ["note", "low", "high"] (spPartX K cN cS) := ⟨f17, _, ok_part F17 B (C_check_note := C_check_note) (C_check_stretch := C_check_stretch) (C_cut := C_cut), b17, k17, PySem.W.mg_of X G a17⟩
  have C__law_well : Callee l.prog w K mg base "_law_well" 1 ["_law_cell"] (spWell K) := ⟨f18, _, ok__law_well F18 B , b18, k18, PySem.W.mg_of X G a18⟩
  have C__law_draw : Callee l.prog w K mg base "_law_draw" 1 ["_law_well_here", "_law_many"] (spDraw K) := ⟨f19, _, ok__law_draw F19 B , b19, k19, PySem.W.mg_of X G a19⟩
  have C__law_key : Callee l.prog w K mg base "_law_key" 2 ["_law_well_here", "_law_base_here"] (spKeyL K) := ⟨f20, _, ok__law_key F20 B (C__law_draw := C__law_draw), b20, k20, PySem.W.mg_of X G a20⟩
  have C__law_base : Callee l.prog w K mg base "_law_base" 2 ["_law_well_here"] (spBaseL K) := ⟨f21, _, ok__law_base F21 B (C__law_draw := C__law_draw), b21, k21, PySem.W.mg_of X G a21⟩
  have C__law_amount : Callee l.prog w K mg base "_law_amount" 2 ["_law_well_here"] (spAmountL K) := ⟨f22, _, ok__law_amount F22 B (C__law_draw := C__law_draw), b22, k22, PySem.W.mg_of X G a22⟩
  have C__law_stretch : Callee l.prog w K mg base "_law_stretch" 3 ["_law_well_here", "_law_base_here"] (spStretchL K) := ⟨f23, _, ok__law_stretch F23 B (C__law_draw := C__law_draw) (C__law_key := C__law_key), b23, k23, PySem.W.mg_of X G a23⟩
  have C__law_action : Callee l.prog w K mg base "_law_action" 3 ["_law_well_here", "_law_is_one"] (spActionL K) := ⟨f24, _, ok__law_action F24 B (C__law_draw := C__law_draw) (C__law_amount := C__law_amount), b24, k24, PySem.W.mg_of X G a24⟩
  have C__law_note : Callee l.prog w K mg base "_law_note" 4 ["_law_well_here", "_law_base_here", "_law_number"] (spNoteL K) := ⟨f25, _, ok__law_note F25 B (C__law_stretch := C__law_stretch) (C__law_action := C__law_action), b25, k25, PySem.W.mg_of X G a25⟩
  have C__law_whole : Callee l.prog w K mg base "_law_whole" 1 ["_law_thing", "_law_low", "_law_high"] (spWholeD K) := ⟨f26, _, ok__law_whole F26 B , b26, k26, PySem.W.mg_of X G a26⟩
  have C__law_is_half : Callee l.prog w K mg base "_law_is_half" 1 ["_law_half", "_law_words"] (spLHalf K) := ⟨f27, _, ok__law_is_half F27 B , b27, k27, PySem.W.mg_of X G a27⟩
  have C__law_is_action : Callee l.prog w K mg base "_law_is_action" 2 ["_law_thing"] (spLAct K) := ⟨f28, _, ok__law_is_action F28 B (C__law_is_half := C__law_is_half), b28, k28, PySem.W.mg_of X G a28⟩
  have C__law_is_stretch : Callee l.prog w K mg base "_law_is_stretch" 2 ["_law_low", "_law_high"] (spIsStD K) := ⟨f29, _, ok__law_is_stretch F29 B (C__law_whole := C__law_whole), b29, k29, PySem.W.mg_of X G a29⟩
  have C__law_is_note : Callee l.prog w K mg base "_law_is_note" 3 ["_law_thing"] (spLNt K) := ⟨f30, _, ok__law_is_note F30 B (C__law_whole := C__law_whole) (C__law_is_stretch := C__law_is_stretch) (C__law_is_action := C__law_is_action), b30, k30, PySem.W.mg_of X G a30⟩
  have C__law_odd : Callee l.prog w K mg base "_law_odd" 2 ["_law_well_here"] (spOddL K) := ⟨f31, _, ok__law_odd F31 B (C__law_draw := C__law_draw), b31, k31, PySem.W.mg_of X G a31⟩
  have C__law_spoilt : Callee l.prog w K mg base "_law_spoilt" 3 ["_law_well_here", "_law_note_here"] (spSpoilt K) := ⟨f32, _, ok__law_spoilt F32 B (C__law_draw := C__law_draw) (C__law_odd := C__law_odd), b32, k32, PySem.W.mg_of X G a32⟩
  have C__law_word : Asker l.prog w K mg base "_law_word" 8 (twWord K cN cK cS) := ok__law_word F33 b33 k33 (PySem.W.mg_of X G a33) B
  have C__law_due_part : Callee l.prog w K mg base "_law_due_part" 1 ["_law_note_here", "_law_low", "_law_high"] (spDueP K) := ⟨f34, _, ok__law_due_part F34 B , b34, k34, PySem.W.mg_of X G a34⟩
  have C__law_asked : Callee l.prog w K mg base "_law_asked" 11 ["_law_thing", "_law_other", "_law_key_here", "_law_stretch_here"] (spAsked K (tabOf K)) := ⟨f35, _, ok__law_asked l35 c35 hC hM B (C__law_is_note := C__law_is_note) (C__law_whole := C__law_whole) (C__law_word := C__law_word) (C__law_is_stretch := C__law_is_stretch) (C_touches := C_touches) (C_shares := C_shares) (C__law_due_part := C__law_due_part) (C_part := C_part), b35, k35, PySem.W.mg_of X G a35⟩
  exact ok_law F36 B (C__law_well := C__law_well) (C__law_draw := C__law_draw) (C__law_base := C__law_base) (C__law_note := C__law_note) (C_is_note := C_is_note) (C__law_key := C__law_key) (C__law_stretch := C__law_stretch) (C__law_spoilt := C__law_spoilt) (C__law_odd := C__law_odd) (C__law_is_note := C__law_is_note) (C__law_asked := C__law_asked)
theorem walk {l : PySem.W.OpenLaw} {q : Program} {loose : List Str} {XP : (Str → Option Value) → Heap → Prop} {YP : World → Heap → Prop} {d : DefRec} {K : Params → PySem.W.Frag} (hn : l.most = some 63) (hdf : d.params.defaults = [])
    (hfd : ((PyProof.Rows.recsOf q).find? (fun e => e.name == ("_law_asked" : Str))).isSome = true) (hY : ∀ (w : World) (h : Heap), YP w h → (K w.params).In h)
    (F : ∀ (w : World) (mg : Str → Option Value) (fa : Addr) (h : Heap), (K w.params).In h → h.Ns mainGlobals mg → mg d.name = some (.ref fa) →
      ∃ (fd : FuncData) (c T : Addr), PySem.W.tabIn (K w.params) "_law_asked" = some (c, T) ∧ (K w.params).lookup T = none ∧ (∀ (s : Shared) (u : Value), BindsTo s fd ⟨[u], []⟩ [("_law_script", u)]) ∧ ∀ base : Heap, (K w.params).In base → base.Ns mainGlobals mg → PySem.W.CodeHd base c T → BMain mg base → FnOk l.prog w (K w.params) mg base CX0 12 fa fd ["_law_script"] (spLaw (K w.params) T)) :
    PySem.W.WalkO q loose XP YP l.row.toRowW d [] (fun f vs => PySem.call f vs) :=
  L2.walk_ofT "_law_asked" (n := 63) (k := 12) (x := "_law_script") (CX := fun _ => CX0) (sp := fun w T => spLaw (K w.params) T) hn (by decide) hdf ⟨rfl, by decide, by decide, rfl⟩ hfd hY F (fun _ _ a T ns hl ho hS => ⟨a, ns, rfl, hS, hl, ho, fun _ => rfl⟩) fun _ _ _ _ _ z => z
abbrev kh (P : Params) (x : Str) : Int := PyData.keyHash P x
def hK (P : Params) : PySem.W.Frag :=
 (nat_lit 2, ⟨.none, none, (.dict (List.toArray ( [])) 0), #[]⟩) ::
 (nat_lit 3, ⟨(.type "dict"), none, (.dict (List.toArray (⟨kh P "__name__", (.str "__name__" 165), (.str "law_notefall_k14_notes_known" 444)⟩ :: ⟨kh P "__doc__", (.str "__doc__" 166), .none⟩ :: ⟨kh P "__package__", (.str "__package__" 167), .none⟩ :: ⟨kh P "__loader__", (.str "__loader__" 168), (.builtin "__main__.__loader__#opaque")⟩ :: ⟨kh P "__spec__", (.str "__spec__" 169), .none⟩ :: ⟨kh P "__annotations__", (.str "__annotations__" 170), (.ref 6)⟩ :: ⟨kh P "__builtins__", (.str "__builtins__" 171), (.ref 4)⟩ :: ⟨kh P "__file__", (.str "__file__" 173), (.str "/claim/cut.py" 172)⟩ :: ⟨kh P "__cached__", (.str "__cached__" 174), .none⟩ :: ⟨kh P "FallError", (.str "FallError" 206), (.ref 24)⟩ :: ⟨kh P "NoAction", (.str "NoAction" 222), (.ref 37)⟩ :: ⟨kh P "NoDeed", (.str "NoDeed" 238), (.ref 49)⟩ :: ⟨kh P "NoNote", (.str "NoNote" 254), (.ref 61)⟩ :: ⟨kh P "NoKey", (.str "NoKey" 270), (.ref 73)⟩ :: ⟨kh P "NoStretch", (.str "NoStretch" 286), (.ref 85)⟩ :: ⟨kh P "END", (.str "END" 292), (.int 1000000000000 291)⟩ :: ⟨kh P "is_number", (.str "is_number" 299), (.ref 94)⟩ :: ⟨kh P "is_whole", (.str "is_whole" 308), (.ref 101)⟩ :: ⟨kh P "is_whole_from", (.str "is_whole_from" 316), (.ref 108)⟩ :: ⟨kh P "is_key", (.str "is_key" 323), (.ref 115)⟩ :: ⟨kh P "is_stretch", (.str "is_stretch" 331), (.ref 122)⟩ :: ⟨kh P "check_key", (.str "check_key" 338), (.ref 129)⟩ :: ⟨kh P "check_stretch", (.str "check_stretch" 346), (.ref 136)⟩ :: ⟨kh P "GONE", (.str "GONE" 350), (.ref 137)⟩ :: ⟨kh P "is_half", (.str "is_half" 358), (.ref 144)⟩ :: ⟨kh P "is_action", (.str "is_action" 367), (.ref 151)⟩ :: ⟨kh P "is_note", (.str "is_note" 380), (.ref 158)⟩ :: ⟨kh P "check_note", (.str "check_note" 387), (.ref 165)⟩ :: ⟨kh P "has_key", (.str "has_key" 395), (.ref 172)⟩ :: ⟨kh P "have_common", (.str "have_common" 403), (.ref 179)⟩ :: ⟨kh P "cut", (.str "cut" 418), (.ref 186)⟩ :: ⟨kh P "touches", (.str "touches" 426), (.ref 193)⟩ :: ⟨kh P "shares", (.str "shares" 434), (.ref 200)⟩ :: ⟨kh P "part", (.str "part" 443), (.ref 207)⟩ :: ⟨kh P "_law_well", (.str "_law_well" 452), (.ref 214)⟩ :: ⟨kh P "_law_draw", (.str "_law_draw" 462), (.ref 221)⟩ :: ⟨kh P "_law_key", (.str "_law_key" 471), (.ref 228)⟩ :: ⟨kh P "_law_base", (.str "_law_base" 478), (.ref 235)⟩ :: ⟨kh P "_law_amount", (.str "_law_amount" 488), (.ref 242)⟩ :: ⟨kh P "_law_stretch", (.str "_law_stretch" 499), (.ref 249)⟩ :: ⟨kh P "_law_action", (.str "_law_action" 510), (.ref 256)⟩ :: ⟨kh P "_law_note", (.str "_law_note" 521), (.ref 263)⟩ :: ⟨kh P "_law_done", (.str "_law_done" 530), (.ref 270)⟩ :: ⟨kh P "_law_whole", (.str "_law_whole" 539), (.ref 277)⟩ :: ⟨kh P "_law_is_half", (.str "_law_is_half" 547), (.ref 284)⟩ :: ⟨kh P "_law_is_action", (.str "_law_is_action" 554), (.ref 291)⟩ :: ⟨kh P "_law_is_stretch", (.str "_law_is_stretch" 562), (.ref 298)⟩ :: ⟨kh P "_law_is_note", (.str "_law_is_note" 569), (.ref 305)⟩ :: ⟨kh P "_law_odd", (.str "_law_odd" 577), (.ref 312)⟩ :: ⟨kh P "_law_spoilt", (.str "_law_spoilt" 592), (.ref 319)⟩ :: ⟨kh P "_law_word", (.str "_law_word" 602), (.ref 326)⟩ :: ⟨kh P "_law_due_part", (.str "_law_due_part" 613), (.ref 333)⟩ :: ⟨kh P "_law_asked", (.str "_law_asked" 628), (.ref 340)⟩ :: ⟨kh P "law", (.str "law" 647), (.ref 347)⟩ :: [])) 54), #[]⟩) ::
 (nat_lit 15, ⟨(.type "tuple"), none, (.seq #[(.type "ValueError")] 0), #[]⟩) ::
 (nat_lit 22, ⟨(.type "tuple"), none, (.seq #[] 0), #[]⟩) ::
 (nat_lit 23, ⟨(.type "dict"), none, (.dict (List.toArray (⟨kh P "__module__", (.str "__module__" 196), (.str "notefall.errors" 187)⟩ :: ⟨kh P "__firstlineno__", (.str "__firstlineno__" 200), (.int 2 199)⟩ :: ⟨kh P "__static_attributes__", (.str "__static_attributes__" 201), (.ref 22)⟩ :: ⟨kh P "__weakref__", (.str "__weakref__" 203), (.ref 25)⟩ :: ⟨kh P "__doc__", (.str "__doc__" 204), .none⟩ :: [])) 3), #[]⟩) ::
 (nat_lit 24, ⟨(.type "type"), none, (.cls ⟨"FallError", [(.type "ValueError")], [(.ref 24), (.type "ValueError"), (.type "Exception"), (.type "BaseException"), (.type "object")], 23, "FallError", true, [], [(.ref 37), (.ref 49), (.ref 61), (.ref 73), (.ref 85)], false, none, false⟩), #[(some (.ref 15)), none, (some (.str "FallError" 189)), (some (.str "FallError" 197)), (some (.builtin "ValueError.__new__")), (some (.bool true))]⟩) ::
 (nat_lit 25, ⟨(.type "getset_descriptor"), none, (.fields #[(.str "__weakref__" 202), (.ref 24), (.builtin "ExceptionGroup.__weakref__"), .none]), #[]⟩) ::
 (nat_lit 28, ⟨(.type "tuple"), none, (.seq #[(.ref 24)] 0), #[]⟩) ::
 (nat_lit 35, ⟨(.type "tuple"), none, (.seq #[] 0), #[]⟩) ::
 (nat_lit 36, ⟨(.type "dict"), none, (.dict (List.toArray (⟨kh P "__module__", (.str "__module__" 214), (.str "notefall.errors" 187)⟩ :: ⟨kh P "__firstlineno__", (.str "__firstlineno__" 218), (.int 4 217)⟩ :: ⟨kh P "__static_attributes__", (.str "__static_attributes__" 219), (.ref 35)⟩ :: ⟨kh P "__doc__", (.str "__doc__" 220), .none⟩ :: [])) 2), #[]⟩) ::
 (nat_lit 37, ⟨(.type "type"), none, (.cls ⟨"NoAction", [(.ref 24)], [(.ref 37), (.ref 24), (.type "ValueError"), (.type "Exception"), (.type "BaseException"), (.type "object")], 36, "NoAction", true, [], [], false, none, false⟩), #[(some (.ref 28)), none, (some (.str "NoAction" 207)), (some (.str "NoAction" 215)), (some (.builtin "ValueError.__new__")), (some (.bool true))]⟩) ::
 (nat_lit 40, ⟨(.type "tuple"), none, (.seq #[(.ref 24)] 0), #[]⟩) ::
 (nat_lit 47, ⟨(.type "tuple"), none, (.seq #[] 0), #[]⟩) ::
 (nat_lit 48, ⟨(.type "dict"), none, (.dict (List.toArray (⟨kh P "__module__", (.str "__module__" 230), (.str "notefall.errors" 187)⟩ :: ⟨kh P "__firstlineno__", (.str "__firstlineno__" 234), (.int 6 233)⟩ :: ⟨kh P "__static_attributes__", (.str "__static_attributes__" 235), (.ref 47)⟩ :: ⟨kh P "__doc__", (.str "__doc__" 236), .none⟩ :: [])) 2), #[]⟩) ::
 (nat_lit 49, ⟨(.type "type"), none, (.cls ⟨"NoDeed", [(.ref 24)], [(.ref 49), (.ref 24), (.type "ValueError"), (.type "Exception"), (.type "BaseException"), (.type "object")], 48, "NoDeed", true, [], [], false, none, false⟩), #[(some (.ref 40)), none, (some (.str "NoDeed" 223)), (some (.str "NoDeed" 231)), (some (.builtin "ValueError.__new__")), (some (.bool true))]⟩) ::
 (nat_lit 52, ⟨(.type "tuple"), none, (.seq #[(.ref 24)] 0), #[]⟩) ::
 (nat_lit 59, ⟨(.type "tuple"), none, (.seq #[] 0), #[]⟩) ::
 (nat_lit 60, ⟨(.type "dict"), none, (.dict (List.toArray (⟨kh P "__module__", (.str "__module__" 246), (.str "notefall.errors" 187)⟩ :: ⟨kh P "__firstlineno__", (.str "__firstlineno__" 250), (.int 8 249)⟩ :: ⟨kh P "__static_attributes__", (.str "__static_attributes__" 251), (.ref 59)⟩ :: ⟨kh P "__doc__", (.str "__doc__" 252), .none⟩ :: [])) 2), #[]⟩) ::
 (nat_lit 61, ⟨(.type "type"), none, (.cls ⟨"NoNote", [(.ref 24)], [(.ref 61), (.ref 24), (.type "ValueError"), (.type "Exception"), (.type "BaseException"), (.type "object")], 60, "NoNote", true, [], [], false, none, false⟩), #[(some (.ref 52)), none, (some (.str "NoNote" 239)), (some (.str "NoNote" 247)), (some (.builtin "ValueError.__new__")), (some (.bool true))]⟩) ::
 (nat_lit 64, ⟨(.type "tuple"), none, (.seq #[(.ref 24)] 0), #[]⟩) ::
 (nat_lit 71, ⟨(.type "tuple"), none, (.seq #[] 0), #[]⟩) ::
 (nat_lit 72, ⟨(.type "dict"), none, (.dict (List.toArray (⟨kh P "__module__", (.str "__module__" 262), (.str "notefall.errors" 187)⟩ :: ⟨kh P "__firstlineno__", (.str "__firstlineno__" 266), (.int 10 265)⟩ :: ⟨kh P "__static_attributes__", (.str "__static_attributes__" 267), (.ref 71)⟩ :: ⟨kh P "__doc__", (.str "__doc__" 268), .none⟩ :: [])) 2), #[]⟩) ::
 (nat_lit 73, ⟨(.type "type"), none, (.cls ⟨"NoKey", [(.ref 24)], [(.ref 73), (.ref 24), (.type "ValueError"), (.type "Exception"), (.type "BaseException"), (.type "object")], 72, "NoKey", true, [], [], false, none, false⟩), #[(some (.ref 64)), none, (some (.str "NoKey" 255)), (some (.str "NoKey" 263)), (some (.builtin "ValueError.__new__")), (some (.bool true))]⟩) ::
 (nat_lit 76, ⟨(.type "tuple"), none, (.seq #[(.ref 24)] 0), #[]⟩) ::
 (nat_lit 83, ⟨(.type "tuple"), none, (.seq #[] 0), #[]⟩) ::
 (nat_lit 84, ⟨(.type "dict"), none, (.dict (List.toArray (⟨kh P "__module__", (.str "__module__" 278), (.str "notefall.errors" 187)⟩ :: ⟨kh P "__firstlineno__", (.str "__firstlineno__" 282), (.int 12 281)⟩ :: ⟨kh P "__static_attributes__", (.str "__static_attributes__" 283), (.ref 83)⟩ :: ⟨kh P "__doc__", (.str "__doc__" 284), .none⟩ :: [])) 2), #[]⟩) ::
 (nat_lit 85, ⟨(.type "type"), none, (.cls ⟨"NoStretch", [(.ref 24)], [(.ref 85), (.ref 24), (.type "ValueError"), (.type "Exception"), (.type "BaseException"), (.type "object")], 84, "NoStretch", true, [], [], false, none, false⟩), #[(some (.ref 76)), none, (some (.str "NoStretch" 271)), (some (.str "NoStretch" 279)), (some (.builtin "ValueError.__new__")), (some (.bool true))]⟩) ::
 (nat_lit 88, ⟨(.type "tuple"), none, (.seq #[] 0), #[]⟩) ::
 (nat_lit 90, ⟨(.type "tuple"), none, (.seq #[(.str "thing" 296)] 0), #[]⟩) ::
 (nat_lit 91, ⟨(.type "tuple"), none, (.seq #[] 0), #[]⟩) ::
 (nat_lit 93, ⟨(.type "code"), none, (.fields #[(.str "is_number" 293), (.str "is_number" 294), (.str "/claim/cut.py" 295), (.int 16 0), (.int 1 0), (.int 0 0), (.int 0 0), (.int 3 0), (.ref 88), (.bool true), (.int 181 0), (.ref 89), .none, (.ref 90), (.ref 91), (.ref 92), (.int 297 0), (.int 16 0), (.str "/claim/cut.py" 298)]), #[]⟩) ::
 (nat_lit 94, ⟨(.type "function"), none, (.func ⟨"is_number", "is_number", defArgs (top 9), .stmts (defBody (top 9)), defScope (top 9), 3, [], .none, .none, .none, (.str "notefall.wholes" 287), none, (.ref 93), .none, 0⟩), #[]⟩) ::
 (nat_lit 95, ⟨(.type "tuple"), none, (.seq #[] 0), #[]⟩) ::
 (nat_lit 97, ⟨(.type "tuple"), none, (.seq #[(.str "thing" 303), (.str "low" 304), (.str "high" 305)] 0), #[]⟩) ::
 (nat_lit 98, ⟨(.type "tuple"), none, (.seq #[] 0), #[]⟩) ::
 (nat_lit 100, ⟨(.type "code"), none, (.fields #[(.str "is_whole" 300), (.str "is_whole" 301), (.str "/claim/cut.py" 302), (.int 18 0), (.int 3 0), (.int 0 0), (.int 0 0), (.int 3 0), (.ref 95), (.bool true), (.int 181 0), (.ref 96), .none, (.ref 97), (.ref 98), (.ref 99), (.int 306 0), (.int 18 0), (.str "/claim/cut.py" 307)]), #[]⟩) ::
 (nat_lit 101, ⟨(.type "function"), none, (.func ⟨"is_whole", "is_whole", defArgs (top 10), .stmts (defBody (top 10)), defScope (top 10), 3, [], .none, .none, .none, (.str "notefall.wholes" 287), none, (.ref 100), .none, 0⟩), #[]⟩) ::
 (nat_lit 102, ⟨(.type "tuple"), none, (.seq #[] 0), #[]⟩) ::
 (nat_lit 104, ⟨(.type "tuple"), none, (.seq #[(.str "thing" 312), (.str "low" 313)] 0), #[]⟩) ::
 (nat_lit 105, ⟨(.type "tuple"), none, (.seq #[] 0), #[]⟩) ::
 (nat_lit 107, ⟨(.type "code"), none, (.fields #[(.str "is_whole_from" 309), (.str "is_whole_from" 310), (.str "/claim/cut.py" 311), (.int 20 0), (.int 2 0), (.int 0 0), (.int 0 0), (.int 3 0), (.ref 102), (.bool true), (.int 181 0), (.ref 103), .none, (.ref 104), (.ref 105), (.ref 106), (.int 314 0), (.int 20 0), (.str "/claim/cut.py" 315)]), #[]⟩) ::
 (nat_lit 108, ⟨(.type "function"), none, (.func ⟨"is_whole_from", "is_whole_from", defArgs (top 11), .stmts (defBody (top 11)), defScope (top 11), 3, [], .none, .none, .none, (.str "notefall.wholes" 287), none, (.ref 107), .none, 0⟩), #[]⟩) ::
 (nat_lit 109, ⟨(.type "tuple"), none, (.seq #[] 0), #[]⟩) ::
 (nat_lit 111, ⟨(.type "tuple"), none, (.seq #[(.str "thing" 320)] 0), #[]⟩) ::
 (nat_lit 112, ⟨(.type "tuple"), none, (.seq #[] 0), #[]⟩) ::
 (nat_lit 114, ⟨(.type "code"), none, (.fields #[(.str "is_key" 317), (.str "is_key" 318), (.str "/claim/cut.py" 319), (.int 22 0), (.int 1 0), (.int 0 0), (.int 0 0), (.int 3 0), (.ref 109), (.bool true), (.int 181 0), (.ref 110), .none, (.ref 111), (.ref 112), (.ref 113), (.int 321 0), (.int 22 0), (.str "/claim/cut.py" 322)]), #[]⟩) ::
 (nat_lit 115, ⟨(.type "function"), none, (.func ⟨"is_key", "is_key", defArgs (top 12), .stmts (defBody (top 12)), defScope (top 12), 3, [], .none, .none, .none, (.str "notefall.wholes" 287), none, (.ref 114), .none, 0⟩), #[]⟩) ::
 (nat_lit 116, ⟨(.type "tuple"), none, (.seq #[] 0), #[]⟩) ::
 (nat_lit 118, ⟨(.type "tuple"), none, (.seq #[(.str "low" 327), (.str "high" 328)] 0), #[]⟩) ::
 (nat_lit 119, ⟨(.type "tuple"), none, (.seq #[] 0), #[]⟩) ::
 (nat_lit 121, ⟨(.type "code"), none, (.fields #[(.str "is_stretch" 324), (.str "is_stretch" 325), (.str "/claim/cut.py" 326), (.int 24 0), (.int 2 0), (.int 0 0), (.int 0 0), (.int 3 0), (.ref 116), (.bool true), (.int 181 0), (.ref 117), .none, (.ref 118), (.ref 119), (.ref 120), (.int 329 0), (.int 24 0), (.str "/claim/cut.py" 330)]), #[]⟩) ::
 (nat_lit 122, ⟨(.type "function"), none, (.func ⟨"is_stretch", "is_stretch", defArgs (top 13), .stmts (defBody (top 13)), defScope (top 13), 3, [], .none, .none, .none, (.str "notefall.wholes" 287), none, (.ref 121), .none, 0⟩), #[]⟩) ::
 (nat_lit 123, ⟨(.type "tuple"), none, (.seq #[] 0), #[]⟩) ::
 (nat_lit 125, ⟨(.type "tuple"), none, (.seq #[(.str "thing" 335)] 0), #[]⟩) ::
 (nat_lit 126, ⟨(.type "tuple"), none, (.seq #[] 0), #[]⟩) ::
 (nat_lit 128, ⟨(.type "code"), none, (.fields #[(.str "check_key" 332), (.str "check_key" 333), (.str "/claim/cut.py" 334), (.int 26 0), (.int 1 0), (.int 0 0), (.int 0 0), (.int 3 0), (.ref 123), (.bool true), (.int 181 0), (.ref 124), .none, (.ref 125), (.ref 126), (.ref 127), (.int 336 0), (.int 26 0), (.str "/claim/cut.py" 337)]), #[]⟩) ::
 (nat_lit 129, ⟨(.type "function"), none, (.func ⟨"check_key", "check_key", defArgs (top 14), .stmts (defBody (top 14)), defScope (top 14), 3, [], .none, .none, .none, (.str "notefall.wholes" 287), none, (.ref 128), .none, 0⟩), #[]⟩) ::
 (nat_lit 130, ⟨(.type "tuple"), none, (.seq #[] 0), #[]⟩) ::
 (nat_lit 132, ⟨(.type "tuple"), none, (.seq #[(.str "low" 342), (.str "high" 343)] 0), #[]⟩) ::
 (nat_lit 133, ⟨(.type "tuple"), none, (.seq #[] 0), #[]⟩) ::
 (nat_lit 135, ⟨(.type "code"), none, (.fields #[(.str "check_stretch" 339), (.str "check_stretch" 340), (.str "/claim/cut.py" 341), (.int 29 0), (.int 2 0), (.int 0 0), (.int 0 0), (.int 3 0), (.ref 130), (.bool true), (.int 181 0), (.ref 131), .none, (.ref 132), (.ref 133), (.ref 134), (.int 344 0), (.int 29 0), (.str "/claim/cut.py" 345)]), #[]⟩) ::
 (nat_lit 136, ⟨(.type "function"), none, (.func ⟨"check_stretch", "check_stretch", defArgs (top 15), .stmts (defBody (top 15)), defScope (top 15), 3, [], .none, .none, .none, (.str "notefall.wholes" 287), none, (.ref 135), .none, 0⟩), #[]⟩) ::
 (nat_lit 137, ⟨(.type "tuple"), none, (.seq #[(.str "gone" 349)] 0), #[]⟩) ::
 (nat_lit 138, ⟨(.type "tuple"), none, (.seq #[] 0), #[]⟩) ::
 (nat_lit 140, ⟨(.type "tuple"), none, (.seq #[(.str "thing" 354), (.str "words" 355)] 0), #[]⟩) ::
 (nat_lit 141, ⟨(.type "tuple"), none, (.seq #[] 0), #[]⟩) ::
 (nat_lit 143, ⟨(.type "code"), none, (.fields #[(.str "is_half" 351), (.str "is_half" 352), (.str "/claim/cut.py" 353), (.int 34 0), (.int 2 0), (.int 0 0), (.int 0 0), (.int 3 0), (.ref 138), (.bool true), (.int 181 0), (.ref 139), .none, (.ref 140), (.ref 141), (.ref 142), (.int 356 0), (.int 34 0), (.str "/claim/cut.py" 357)]), #[]⟩) ::
 (nat_lit 144, ⟨(.type "function"), none, (.func ⟨"is_half", "is_half", defArgs (top 18), .stmts (defBody (top 18)), defScope (top 18), 3, [], .none, .none, .none, (.str "notefall.actions" 347), none, (.ref 143), .none, 0⟩), #[]⟩) ::
 (nat_lit 145, ⟨(.type "tuple"), none, (.seq #[] 0), #[]⟩) ::
 (nat_lit 147, ⟨(.type "tuple"), none, (.seq #[(.str "thing" 362), (.str "there" 363), (.str "none" 364)] 0), #[]⟩) ::
 (nat_lit 148, ⟨(.type "tuple"), none, (.seq #[] 0), #[]⟩) ::
 (nat_lit 150, ⟨(.type "code"), none, (.fields #[(.str "is_action" 359), (.str "is_action" 360), (.str "/claim/cut.py" 361), (.int 40 0), (.int 1 0), (.int 0 0), (.int 0 0), (.int 3 0), (.ref 145), (.bool true), (.int 181 0), (.ref 146), .none, (.ref 147), (.ref 148), (.ref 149), (.int 365 0), (.int 40 0), (.str "/claim/cut.py" 366)]), #[]⟩) ::
 (nat_lit 151, ⟨(.type "function"), none, (.func ⟨"is_action", "is_action", defArgs (top 19), .stmts (defBody (top 19)), defScope (top 19), 3, [], .none, .none, .none, (.str "notefall.actions" 347), none, (.ref 150), .none, 0⟩), #[]⟩) ::
 (nat_lit 152, ⟨(.type "tuple"), none, (.seq #[] 0), #[]⟩) ::
 (nat_lit 154, ⟨(.type "tuple"), none, (.seq #[(.str "thing" 373), (.str "number" 374), (.str "low" 375), (.str "high" 376), (.str "action" 377)] 0), #[]⟩) ::
 (nat_lit 155, ⟨(.type "tuple"), none, (.seq #[] 0), #[]⟩) ::
 (nat_lit 157, ⟨(.type "code"), none, (.fields #[(.str "is_note" 370), (.str "is_note" 371), (.str "/claim/cut.py" 372), (.int 46 0), (.int 1 0), (.int 0 0), (.int 0 0), (.int 3 0), (.ref 152), (.bool true), (.int 181 0), (.ref 153), .none, (.ref 154), (.ref 155), (.ref 156), (.int 378 0), (.int 46 0), (.str "/claim/cut.py" 379)]), #[]⟩) ::
 (nat_lit 158, ⟨(.type "function"), none, (.func ⟨"is_note", "is_note", defArgs (top 21), .stmts (defBody (top 21)), defScope (top 21), 3, [], .none, .none, .none, (.str "notefall.notes" 368), none, (.ref 157), .none, 0⟩), #[]⟩) ::
 (nat_lit 159, ⟨(.type "tuple"), none, (.seq #[] 0), #[]⟩) ::
 (nat_lit 161, ⟨(.type "tuple"), none, (.seq #[(.str "thing" 384)] 0), #[]⟩) ::
 (nat_lit 162, ⟨(.type "tuple"), none, (.seq #[] 0), #[]⟩) ::
 (nat_lit 164, ⟨(.type "code"), none, (.fields #[(.str "check_note" 381), (.str "check_note" 382), (.str "/claim/cut.py" 383), (.int 53 0), (.int 1 0), (.int 0 0), (.int 0 0), (.int 3 0), (.ref 159), (.bool true), (.int 181 0), (.ref 160), .none, (.ref 161), (.ref 162), (.ref 163), (.int 385 0), (.int 53 0), (.str "/claim/cut.py" 386)]), #[]⟩) ::
 (nat_lit 165, ⟨(.type "function"), none, (.func ⟨"check_note", "check_note", defArgs (top 22), .stmts (defBody (top 22)), defScope (top 22), 3, [], .none, .none, .none, (.str "notefall.notes" 368), none, (.ref 164), .none, 0⟩), #[]⟩) ::
 (nat_lit 166, ⟨(.type "tuple"), none, (.seq #[] 0), #[]⟩) ::
 (nat_lit 168, ⟨(.type "tuple"), none, (.seq #[(.str "note" 391), (.str "key" 392)] 0), #[]⟩) ::
 (nat_lit 169, ⟨(.type "tuple"), none, (.seq #[] 0), #[]⟩) ::
 (nat_lit 171, ⟨(.type "code"), none, (.fields #[(.str "has_key" 388), (.str "has_key" 389), (.str "/claim/cut.py" 390), (.int 56 0), (.int 2 0), (.int 0 0), (.int 0 0), (.int 3 0), (.ref 166), (.bool true), (.int 181 0), (.ref 167), .none, (.ref 168), (.ref 169), (.ref 170), (.int 393 0), (.int 56 0), (.str "/claim/cut.py" 394)]), #[]⟩) ::
 (nat_lit 172, ⟨(.type "function"), none, (.func ⟨"has_key", "has_key", defArgs (top 23), .stmts (defBody (top 23)), defScope (top 23), 3, [], .none, .none, .none, (.str "notefall.notes" 368), none, (.ref 171), .none, 0⟩), #[]⟩) ::
 (nat_lit 173, ⟨(.type "tuple"), none, (.seq #[] 0), #[]⟩) ::
 (nat_lit 175, ⟨(.type "tuple"), none, (.seq #[(.str "note" 399), (.str "other" 400)] 0), #[]⟩) ::
 (nat_lit 176, ⟨(.type "tuple"), none, (.seq #[] 0), #[]⟩) ::
 (nat_lit 178, ⟨(.type "code"), none, (.fields #[(.str "have_common" 396), (.str "have_common" 397), (.str "/claim/cut.py" 398), (.int 58 0), (.int 2 0), (.int 0 0), (.int 0 0), (.int 3 0), (.ref 173), (.bool true), (.int 181 0), (.ref 174), .none, (.ref 175), (.ref 176), (.ref 177), (.int 401 0), (.int 58 0), (.str "/claim/cut.py" 402)]), #[]⟩) ::
 (nat_lit 179, ⟨(.type "function"), none, (.func ⟨"have_common", "have_common", defArgs (top 24), .stmts (defBody (top 24)), defScope (top 24), 3, [], .none, .none, .none, (.str "notefall.notes" 368), none, (.ref 178), .none, 0⟩), #[]⟩) ::
 (nat_lit 180, ⟨(.type "tuple"), none, (.seq #[] 0), #[]⟩) ::
 (nat_lit 182, ⟨(.type "tuple"), none, (.seq #[(.str "note" 407), (.str "low" 408), (.str "high" 409), (.str "number" 410), (.str "note_low" 411), (.str "note_high" 412), (.str "action" 413), (.str "first" 414), (.str "end" 415)] 0), #[]⟩) ::
 (nat_lit 183, ⟨(.type "tuple"), none, (.seq #[] 0), #[]⟩) ::
 (nat_lit 185, ⟨(.type "code"), none, (.fields #[(.str "cut" 404), (.str "cut" 405), (.str "/claim/cut.py" 406), (.int 60 0), (.int 3 0), (.int 0 0), (.int 0 0), (.int 3 0), (.ref 180), (.bool true), (.int 181 0), (.ref 181), .none, (.ref 182), (.ref 183), (.ref 184), (.int 416 0), (.int 60 0), (.str "/claim/cut.py" 417)]), #[]⟩) ::
 (nat_lit 186, ⟨(.type "function"), none, (.func ⟨"cut", "cut", defArgs (top 25), .stmts (defBody (top 25)), defScope (top 25), 3, [], .none, .none, .none, (.str "notefall.notes" 368), none, (.ref 185), .none, 0⟩), #[]⟩) ::
 (nat_lit 187, ⟨(.type "tuple"), none, (.seq #[] 0), #[]⟩) ::
 (nat_lit 189, ⟨(.type "tuple"), none, (.seq #[(.str "note" 422), (.str "key" 423)] 0), #[]⟩) ::
 (nat_lit 190, ⟨(.type "tuple"), none, (.seq #[] 0), #[]⟩) ::
 (nat_lit 192, ⟨(.type "code"), none, (.fields #[(.str "touches" 419), (.str "touches" 420), (.str "/claim/cut.py" 421), (.int 65 0), (.int 2 0), (.int 0 0), (.int 0 0), (.int 3 0), (.ref 187), (.bool true), (.int 181 0), (.ref 188), .none, (.ref 189), (.ref 190), (.ref 191), (.int 424 0), (.int 65 0), (.str "/claim/cut.py" 425)]), #[]⟩) ::
 (nat_lit 193, ⟨(.type "function"), none, (.func ⟨"touches", "touches", defArgs (top 26), .stmts (defBody (top 26)), defScope (top 26), 3, [], .none, .none, .none, (.str "notefall.notes" 368), none, (.ref 192), .none, 0⟩), #[]⟩) ::
 (nat_lit 194, ⟨(.type "tuple"), none, (.seq #[] 0), #[]⟩) ::
 (nat_lit 196, ⟨(.type "tuple"), none, (.seq #[(.str "note" 430), (.str "other" 431)] 0), #[]⟩) ::
 (nat_lit 197, ⟨(.type "tuple"), none, (.seq #[] 0), #[]⟩) ::
 (nat_lit 199, ⟨(.type "code"), none, (.fields #[(.str "shares" 427), (.str "shares" 428), (.str "/claim/cut.py" 429), (.int 69 0), (.int 2 0), (.int 0 0), (.int 0 0), (.int 3 0), (.ref 194), (.bool true), (.int 181 0), (.ref 195), .none, (.ref 196), (.ref 197), (.ref 198), (.int 432 0), (.int 69 0), (.str "/claim/cut.py" 433)]), #[]⟩) ::
 (nat_lit 200, ⟨(.type "function"), none, (.func ⟨"shares", "shares", defArgs (top 27), .stmts (defBody (top 27)), defScope (top 27), 3, [], .none, .none, .none, (.str "notefall.notes" 368), none, (.ref 199), .none, 0⟩), #[]⟩) ::
 (nat_lit 201, ⟨(.type "tuple"), none, (.seq #[] 0), #[]⟩) ::
 (nat_lit 203, ⟨(.type "tuple"), none, (.seq #[(.str "note" 438), (.str "low" 439), (.str "high" 440)] 0), #[]⟩) ::
 (nat_lit 204, ⟨(.type "tuple"), none, (.seq #[] 0), #[]⟩) ::
 (nat_lit 206, ⟨(.type "code"), none, (.fields #[(.str "part" 435), (.str "part" 436), (.str "/claim/cut.py" 437), (.int 73 0), (.int 3 0), (.int 0 0), (.int 0 0), (.int 3 0), (.ref 201), (.bool true), (.int 181 0), (.ref 202), .none, (.ref 203), (.ref 204), (.ref 205), (.int 441 0), (.int 73 0), (.str "/claim/cut.py" 442)]), #[]⟩) ::
 (nat_lit 207, ⟨(.type "function"), none, (.func ⟨"part", "part", defArgs (top 28), .stmts (defBody (top 28)), defScope (top 28), 3, [], .none, .none, .none, (.str "notefall.notes" 368), none, (.ref 206), .none, 0⟩), #[]⟩) ::
 (nat_lit 208, ⟨(.type "tuple"), none, (.seq #[] 0), #[]⟩) ::
 (nat_lit 210, ⟨(.type "tuple"), none, (.seq #[(.str "_law_cell" 449)] 0), #[]⟩) ::
 (nat_lit 211, ⟨(.type "tuple"), none, (.seq #[] 0), #[]⟩) ::
 (nat_lit 213, ⟨(.type "code"), none, (.fields #[(.str "_law_well" 446), (.str "_law_well" 447), (.str "/claim/cut.py" 448), (.int 78 0), (.int 1 0), (.int 0 0), (.int 0 0), (.int 3 0), (.ref 208), (.bool true), (.int 181 0), (.ref 209), .none, (.ref 210), (.ref 211), (.ref 212), (.int 450 0), (.int 78 0), (.str "/claim/cut.py" 451)]), #[]⟩) ::
 (nat_lit 214, ⟨(.type "function"), none, (.func ⟨"_law_well", "_law_well", defArgs (top 30), .stmts (defBody (top 30)), defScope (top 30), 3, [], .none, .none, .none, (.str "law_notefall_k14_notes_known" 444), none, (.ref 213), .none, 0⟩), #[]⟩) ::
 (nat_lit 215, ⟨(.type "tuple"), none, (.seq #[] 0), #[]⟩) ::
 (nat_lit 217, ⟨(.type "tuple"), none, (.seq #[(.str "_law_well_here" 456), (.str "_law_many" 457), (.str "_law_found" 458), (.str "_law_low" 459)] 0), #[]⟩) ::
 (nat_lit 218, ⟨(.type "tuple"), none, (.seq #[] 0), #[]⟩) ::
 (nat_lit 220, ⟨(.type "code"), none, (.fields #[(.str "_law_draw" 453), (.str "_law_draw" 454), (.str "/claim/cut.py" 455), (.int 80 0), (.int 2 0), (.int 0 0), (.int 0 0), (.int 3 0), (.ref 215), (.bool true), (.int 181 0), (.ref 216), .none, (.ref 217), (.ref 218), (.ref 219), (.int 460 0), (.int 80 0), (.str "/claim/cut.py" 461)]), #[]⟩) ::
 (nat_lit 221, ⟨(.type "function"), none, (.func ⟨"_law_draw", "_law_draw", defArgs (top 31), .stmts (defBody (top 31)), defScope (top 31), 3, [], .none, .none, .none, (.str "law_notefall_k14_notes_known" 444), none, (.ref 220), .none, 0⟩), #[]⟩) ::
 (nat_lit 222, ⟨(.type "tuple"), none, (.seq #[] 0), #[]⟩) ::
 (nat_lit 224, ⟨(.type "tuple"), none, (.seq #[(.str "_law_well_here" 466), (.str "_law_base_here" 467), (.str "_law_way" 468)] 0), #[]⟩) ::
 (nat_lit 225, ⟨(.type "tuple"), none, (.seq #[] 0), #[]⟩) ::
 (nat_lit 227, ⟨(.type "code"), none, (.fields #[(.str "_law_key" 463), (.str "_law_key" 464), (.str "/claim/cut.py" 465), (.int 90 0), (.int 2 0), (.int 0 0), (.int 0 0), (.int 3 0), (.ref 222), (.bool true), (.int 181 0), (.ref 223), .none, (.ref 224), (.ref 225), (.ref 226), (.int 469 0), (.int 90 0), (.str "/claim/cut.py" 470)]), #[]⟩) ::
 (nat_lit 228, ⟨(.type "function"), none, (.func ⟨"_law_key", "_law_key", defArgs (top 32), .stmts (defBody (top 32)), defScope (top 32), 3, [], .none, .none, .none, (.str "law_notefall_k14_notes_known" 444), none, (.ref 227), .none, 0⟩), #[]⟩) ::
 (nat_lit 229, ⟨(.type "tuple"), none, (.seq #[] 0), #[]⟩) ::
 (nat_lit 231, ⟨(.type "tuple"), none, (.seq #[(.str "_law_well_here" 475)] 0), #[]⟩) ::
 (nat_lit 232, ⟨(.type "tuple"), none, (.seq #[] 0), #[]⟩) ::
 (nat_lit 234, ⟨(.type "code"), none, (.fields #[(.str "_law_base" 472), (.str "_law_base" 473), (.str "/claim/cut.py" 474), (.int 95 0), (.int 1 0), (.int 0 0), (.int 0 0), (.int 3 0), (.ref 229), (.bool true), (.int 181 0), (.ref 230), .none, (.ref 231), (.ref 232), (.ref 233), (.int 476 0), (.int 95 0), (.str "/claim/cut.py" 477)]), #[]⟩) ::
 (nat_lit 235, ⟨(.type "function"), none, (.func ⟨"_law_base", "_law_base", defArgs (top 33), .stmts (defBody (top 33)), defScope (top 33), 3, [], .none, .none, .none, (.str "law_notefall_k14_notes_known" 444), none, (.ref 234), .none, 0⟩), #[]⟩) ::
 (nat_lit 236, ⟨(.type "tuple"), none, (.seq #[] 0), #[]⟩) ::
 (nat_lit 238, ⟨(.type "tuple"), none, (.seq #[(.str "_law_well_here" 482), (.str "_law_way" 483), (.str "_law_sign" 484), (.str "_law_near" 485)] 0), #[]⟩) ::
 (nat_lit 239, ⟨(.type "tuple"), none, (.seq #[] 0), #[]⟩) ::
 (nat_lit 241, ⟨(.type "code"), none, (.fields #[(.str "_law_amount" 479), (.str "_law_amount" 480), (.str "/claim/cut.py" 481), (.int 97 0), (.int 1 0), (.int 0 0), (.int 0 0), (.int 3 0), (.ref 236), (.bool true), (.int 181 0), (.ref 237), .none, (.ref 238), (.ref 239), (.ref 240), (.int 486 0), (.int 97 0), (.str "/claim/cut.py" 487)]), #[]⟩) ::
 (nat_lit 242, ⟨(.type "function"), none, (.func ⟨"_law_amount", "_law_amount", defArgs (top 34), .stmts (defBody (top 34)), defScope (top 34), 3, [], .none, .none, .none, (.str "law_notefall_k14_notes_known" 444), none, (.ref 241), .none, 0⟩), #[]⟩) ::
 (nat_lit 243, ⟨(.type "tuple"), none, (.seq #[] 0), #[]⟩) ::
 (nat_lit 245, ⟨(.type "tuple"), none, (.seq #[(.str "_law_well_here" 492), (.str "_law_base_here" 493), (.str "_law_way" 494), (.str "_law_low" 495), (.str "_law_far" 496)] 0), #[]⟩) ::
 (nat_lit 246, ⟨(.type "tuple"), none, (.seq #[] 0), #[]⟩) ::
 (nat_lit 248, ⟨(.type "code"), none, (.fields #[(.str "_law_stretch" 489), (.str "_law_stretch" 490), (.str "/claim/cut.py" 491), (.int 102 0), (.int 2 0), (.int 0 0), (.int 0 0), (.int 3 0), (.ref 243), (.bool true), (.int 181 0), (.ref 244), .none, (.ref 245), (.ref 246), (.ref 247), (.int 497 0), (.int 102 0), (.str "/claim/cut.py" 498)]), #[]⟩) ::
 (nat_lit 249, ⟨(.type "function"), none, (.func ⟨"_law_stretch", "_law_stretch", defArgs (top 35), .stmts (defBody (top 35)), defScope (top 35), 3, [], .none, .none, .none, (.str "law_notefall_k14_notes_known" 444), none, (.ref 248), .none, 0⟩), #[]⟩) ::
 (nat_lit 250, ⟨(.type "tuple"), none, (.seq #[] 0), #[]⟩) ::
 (nat_lit 252, ⟨(.type "tuple"), none, (.seq #[(.str "_law_well_here" 503), (.str "_law_is_one" 504), (.str "_law_way" 505), (.str "_law_amount_here" 506), (.str "_law_there" 507)] 0), #[]⟩) ::
 (nat_lit 253, ⟨(.type "tuple"), none, (.seq #[] 0), #[]⟩) ::
 (nat_lit 255, ⟨(.type "code"), none, (.fields #[(.str "_law_action" 500), (.str "_law_action" 501), (.str "/claim/cut.py" 502), (.int 111 0), (.int 2 0), (.int 0 0), (.int 0 0), (.int 3 0), (.ref 250), (.bool true), (.int 181 0), (.ref 251), .none, (.ref 252), (.ref 253), (.ref 254), (.int 508 0), (.int 111 0), (.str "/claim/cut.py" 509)]), #[]⟩) ::
 (nat_lit 256, ⟨(.type "function"), none, (.func ⟨"_law_action", "_law_action", defArgs (top 36), .stmts (defBody (top 36)), defScope (top 36), 3, [], .none, .none, .none, (.str "law_notefall_k14_notes_known" 444), none, (.ref 255), .none, 0⟩), #[]⟩) ::
 (nat_lit 257, ⟨(.type "tuple"), none, (.seq #[] 0), #[]⟩) ::
 (nat_lit 259, ⟨(.type "tuple"), none, (.seq #[(.str "_law_well_here" 514), (.str "_law_base_here" 515), (.str "_law_number" 516), (.str "_law_low" 517), (.str "_law_high" 518)] 0), #[]⟩) ::
 (nat_lit 260, ⟨(.type "tuple"), none, (.seq #[] 0), #[]⟩) ::
 (nat_lit 262, ⟨(.type "code"), none, (.fields #[(.str "_law_note" 511), (.str "_law_note" 512), (.str "/claim/cut.py" 513), (.int 116 0), (.int 3 0), (.int 0 0), (.int 0 0), (.int 3 0), (.ref 257), (.bool true), (.int 181 0), (.ref 258), .none, (.ref 259), (.ref 260), (.ref 261), (.int 519 0), (.int 116 0), (.str "/claim/cut.py" 520)]), #[]⟩) ::
 (nat_lit 263, ⟨(.type "function"), none, (.func ⟨"_law_note", "_law_note", defArgs (top 37), .stmts (defBody (top 37)), defScope (top 37), 3, [], .none, .none, .none, (.str "law_notefall_k14_notes_known" 444), none, (.ref 262), .none, 0⟩), #[]⟩) ::
 (nat_lit 271, ⟨(.type "tuple"), none, (.seq #[] 0), #[]⟩) ::
 (nat_lit 273, ⟨(.type "tuple"), none, (.seq #[(.str "_law_thing" 534), (.str "_law_low" 535), (.str "_law_high" 536)] 0), #[]⟩) ::
 (nat_lit 274, ⟨(.type "tuple"), none, (.seq #[] 0), #[]⟩) ::
 (nat_lit 276, ⟨(.type "code"), none, (.fields #[(.str "_law_whole" 531), (.str "_law_whole" 532), (.str "/claim/cut.py" 533), (.int 124 0), (.int 3 0), (.int 0 0), (.int 0 0), (.int 3 0), (.ref 271), (.bool true), (.int 181 0), (.ref 272), .none, (.ref 273), (.ref 274), (.ref 275), (.int 537 0), (.int 124 0), (.str "/claim/cut.py" 538)]), #[]⟩) ::
 (nat_lit 277, ⟨(.type "function"), none, (.func ⟨"_law_whole", "_law_whole", defArgs (top 39), .stmts (defBody (top 39)), defScope (top 39), 3, [], .none, .none, .none, (.str "law_notefall_k14_notes_known" 444), none, (.ref 276), .none, 0⟩), #[]⟩) ::
 (nat_lit 278, ⟨(.type "tuple"), none, (.seq #[] 0), #[]⟩) ::
 (nat_lit 280, ⟨(.type "tuple"), none, (.seq #[(.str "_law_half" 543), (.str "_law_words" 544)] 0), #[]⟩) ::
 (nat_lit 281, ⟨(.type "tuple"), none, (.seq #[] 0), #[]⟩) ::
 (nat_lit 283, ⟨(.type "code"), none, (.fields #[(.str "_law_is_half" 540), (.str "_law_is_half" 541), (.str "/claim/cut.py" 542), (.int 126 0), (.int 2 0), (.int 0 0), (.int 0 0), (.int 3 0), (.ref 278), (.bool true), (.int 181 0), (.ref 279), .none, (.ref 280), (.ref 281), (.ref 282), (.int 545 0), (.int 126 0), (.str "/claim/cut.py" 546)]), #[]⟩) ::
 (nat_lit 284, ⟨(.type "function"), none, (.func ⟨"_law_is_half", "_law_is_half", defArgs (top 40), .stmts (defBody (top 40)), defScope (top 40), 3, [], .none, .none, .none, (.str "law_notefall_k14_notes_known" 444), none, (.ref 283), .none, 0⟩), #[]⟩) ::
 (nat_lit 285, ⟨(.type "tuple"), none, (.seq #[] 0), #[]⟩) ::
 (nat_lit 287, ⟨(.type "tuple"), none, (.seq #[(.str "_law_thing" 551)] 0), #[]⟩) ::
 (nat_lit 288, ⟨(.type "tuple"), none, (.seq #[] 0), #[]⟩) ::
 (nat_lit 290, ⟨(.type "code"), none, (.fields #[(.str "_law_is_action" 548), (.str "_law_is_action" 549), (.str "/claim/cut.py" 550), (.int 132 0), (.int 1 0), (.int 0 0), (.int 0 0), (.int 3 0), (.ref 285), (.bool true), (.int 181 0), (.ref 286), .none, (.ref 287), (.ref 288), (.ref 289), (.int 552 0), (.int 132 0), (.str "/claim/cut.py" 553)]), #[]⟩) ::
 (nat_lit 291, ⟨(.type "function"), none, (.func ⟨"_law_is_action", "_law_is_action", defArgs (top 41), .stmts (defBody (top 41)), defScope (top 41), 3, [], .none, .none, .none, (.str "law_notefall_k14_notes_known" 444), none, (.ref 290), .none, 0⟩), #[]⟩) ::
 (nat_lit 292, ⟨(.type "tuple"), none, (.seq #[] 0), #[]⟩) ::
 (nat_lit 294, ⟨(.type "tuple"), none, (.seq #[(.str "_law_low" 558), (.str "_law_high" 559)] 0), #[]⟩) ::
 (nat_lit 295, ⟨(.type "tuple"), none, (.seq #[] 0), #[]⟩) ::
 (nat_lit 297, ⟨(.type "code"), none, (.fields #[(.str "_law_is_stretch" 555), (.str "_law_is_stretch" 556), (.str "/claim/cut.py" 557), (.int 136 0), (.int 2 0), (.int 0 0), (.int 0 0), (.int 3 0), (.ref 292), (.bool true), (.int 181 0), (.ref 293), .none, (.ref 294), (.ref 295), (.ref 296), (.int 560 0), (.int 136 0), (.str "/claim/cut.py" 561)]), #[]⟩) ::
 (nat_lit 298, ⟨(.type "function"), none, (.func ⟨"_law_is_stretch", "_law_is_stretch", defArgs (top 42), .stmts (defBody (top 42)), defScope (top 42), 3, [], .none, .none, .none, (.str "law_notefall_k14_notes_known" 444), none, (.ref 297), .none, 0⟩), #[]⟩) ::
 (nat_lit 299, ⟨(.type "tuple"), none, (.seq #[] 0), #[]⟩) ::
 (nat_lit 301, ⟨(.type "tuple"), none, (.seq #[(.str "_law_thing" 566)] 0), #[]⟩) ::
 (nat_lit 302, ⟨(.type "tuple"), none, (.seq #[] 0), #[]⟩) ::
 (nat_lit 304, ⟨(.type "code"), none, (.fields #[(.str "_law_is_note" 563), (.str "_law_is_note" 564), (.str "/claim/cut.py" 565), (.int 138 0), (.int 1 0), (.int 0 0), (.int 0 0), (.int 3 0), (.ref 299), (.bool true), (.int 181 0), (.ref 300), .none, (.ref 301), (.ref 302), (.ref 303), (.int 567 0), (.int 138 0), (.str "/claim/cut.py" 568)]), #[]⟩) ::
 (nat_lit 305, ⟨(.type "function"), none, (.func ⟨"_law_is_note", "_law_is_note", defArgs (top 43), .stmts (defBody (top 43)), defScope (top 43), 3, [], .none, .none, .none, (.str "law_notefall_k14_notes_known" 444), none, (.ref 304), .none, 0⟩), #[]⟩) ::
 (nat_lit 306, ⟨(.type "tuple"), none, (.seq #[] 0), #[]⟩) ::
 (nat_lit 308, ⟨(.type "tuple"), none, (.seq #[(.str "_law_well_here" 573), (.str "_law_some" 574)] 0), #[]⟩) ::
 (nat_lit 309, ⟨(.type "tuple"), none, (.seq #[] 0), #[]⟩) ::
 (nat_lit 311, ⟨(.type "code"), none, (.fields #[(.str "_law_odd" 570), (.str "_law_odd" 571), (.str "/claim/cut.py" 572), (.int 144 0), (.int 1 0), (.int 0 0), (.int 0 0), (.int 3 0), (.ref 306), (.bool true), (.int 181 0), (.ref 307), .none, (.ref 308), (.ref 309), (.ref 310), (.int 575 0), (.int 144 0), (.str "/claim/cut.py" 576)]), #[]⟩) ::
 (nat_lit 312, ⟨(.type "function"), none, (.func ⟨"_law_odd", "_law_odd", defArgs (top 44), .stmts (defBody (top 44)), defScope (top 44), 3, [], .none, .none, .none, (.str "law_notefall_k14_notes_known" 444), none, (.ref 311), .none, 0⟩), #[]⟩) ::
 (nat_lit 313, ⟨(.type "tuple"), none, (.seq #[] 0), #[]⟩) ::
 (nat_lit 315, ⟨(.type "tuple"), none, (.seq #[(.str "_law_well_here" 581), (.str "_law_note_here" 582), (.str "_law_way" 583), (.str "_law_at" 584), (.str "_law_odd_here" 585), (.str "_law_number" 586), (.str "_law_low" 587), (.str "_law_high" 588), (.str "_law_action_here" 589)] 0), #[]⟩) ::
 (nat_lit 316, ⟨(.type "tuple"), none, (.seq #[] 0), #[]⟩) ::
 (nat_lit 318, ⟨(.type "code"), none, (.fields #[(.str "_law_spoilt" 578), (.str "_law_spoilt" 579), (.str "/claim/cut.py" 580), (.int 147 0), (.int 2 0), (.int 0 0), (.int 0 0), (.int 3 0), (.ref 313), (.bool true), (.int 181 0), (.ref 314), .none, (.ref 315), (.ref 316), (.ref 317), (.int 590 0), (.int 147 0), (.str "/claim/cut.py" 591)]), #[]⟩) ::
 (nat_lit 319, ⟨(.type "function"), none, (.func ⟨"_law_spoilt", "_law_spoilt", defArgs (top 45), .stmts (defBody (top 45)), defScope (top 45), 3, [], .none, .none, .none, (.str "law_notefall_k14_notes_known" 444), none, (.ref 318), .none, 0⟩), #[]⟩) ::
 (nat_lit 320, ⟨(.type "tuple"), none, (.seq #[] 0), #[]⟩) ::
 (nat_lit 322, ⟨(.type "tuple"), none, (.seq #[(.str "_law_ask" 596), (.str "_law_found" 597), (.str "e" 598), (.str "_law_kinds" 599)] 0), #[]⟩) ::
 (nat_lit 323, ⟨(.type "tuple"), none, (.seq #[] 0), #[]⟩) ::
 (nat_lit 325, ⟨(.type "code"), none, (.fields #[(.str "_law_word" 593), (.str "_law_word" 594), (.str "/claim/cut.py" 595), (.int 165 0), (.int 1 0), (.int 0 0), (.int 0 0), (.int 3 0), (.ref 320), (.bool true), (.int 181 0), (.ref 321), .none, (.ref 322), (.ref 323), (.ref 324), (.int 600 0), (.int 165 0), (.str "/claim/cut.py" 601)]), #[]⟩) ::
 (nat_lit 326, ⟨(.type "function"), none, (.func ⟨"_law_word", "_law_word", defArgs (top 46), .stmts (defBody (top 46)), defScope (top 46), 3, [], .none, .none, .none, (.str "law_notefall_k14_notes_known" 444), none, (.ref 325), .none, 0⟩), #[]⟩) ::
 (nat_lit 327, ⟨(.type "tuple"), none, (.seq #[] 0), #[]⟩) ::
 (nat_lit 329, ⟨(.type "tuple"), none, (.seq #[(.str "_law_note_here" 606), (.str "_law_low" 607), (.str "_law_high" 608), (.str "_law_first" 609), (.str "_law_last" 610)] 0), #[]⟩) ::
 (nat_lit 330, ⟨(.type "tuple"), none, (.seq #[] 0), #[]⟩) ::
 (nat_lit 332, ⟨(.type "code"), none, (.fields #[(.str "_law_due_part" 603), (.str "_law_due_part" 604), (.str "/claim/cut.py" 605), (.int 176 0), (.int 3 0), (.int 0 0), (.int 0 0), (.int 3 0), (.ref 327), (.bool true), (.int 181 0), (.ref 328), .none, (.ref 329), (.ref 330), (.ref 331), (.int 611 0), (.int 176 0), (.str "/claim/cut.py" 612)]), #[]⟩) ::
 (nat_lit 333, ⟨(.type "function"), none, (.func ⟨"_law_due_part", "_law_due_part", defArgs (top 47), .stmts (defBody (top 47)), defScope (top 47), 3, [], .none, .none, .none, (.str "law_notefall_k14_notes_known" 444), none, (.ref 332), .none, 0⟩), #[]⟩) ::
 (nat_lit 334, ⟨(.type "tuple"), none, (.seq #[] 0), #[]⟩) ::
 (nat_lit 336, ⟨(.type "tuple"), none, (.seq #[(.str "_law_thing" 617), (.str "_law_other" 618), (.str "_law_key_here" 619), (.str "_law_stretch_here" 620), (.str "_law_due" 621)] 0), #[]⟩) ::
 (nat_lit 337, ⟨(.type "tuple"), none, (.seq #[(.str "_law_thing" 622), (.str "_law_other" 623), (.str "_law_key_here" 624), (.str "_law_stretch_here" 625)] 0), #[]⟩) ::
 (nat_lit 339, ⟨(.type "code"), none, (.fields #[(.str "_law_asked" 614), (.str "_law_asked" 615), (.str "/claim/cut.py" 616), (.int 180 0), (.int 4 0), (.int 0 0), (.int 0 0), (.int 3 0), (.ref 334), (.bool true), (.int 181 0), (.ref 335), .none, (.ref 336), (.ref 337), (.ref 338), (.int 626 0), (.int 180 0), (.str "/claim/cut.py" 627)]), #[]⟩) ::
 (nat_lit 340, ⟨(.type "function"), none, (.func ⟨"_law_asked", "_law_asked", defArgs (top 48), .stmts (defBody (top 48)), defScope (top 48), 3, [], .none, .none, .none, (.str "law_notefall_k14_notes_known" 444), none, (.ref 339), .none, 0⟩), #[]⟩) ::
 (nat_lit 341, ⟨(.type "tuple"), none, (.seq #[] 0), #[]⟩) ::
 (nat_lit 343, ⟨(.type "tuple"), none, (.seq #[(.str "_law_script" 632), (.str "_law_cell" 633), (.str "_law_well_here" 634), (.str "_law_way" 635), (.str "_law_is_odd" 636), (.str "_law_base_here" 637), (.str "_law_number" 638), (.str "_law_good" 639), (.str "_law_other" 640), (.str "_law_thing" 641), (.str "_law_told" 642), (.str "_law_key_here" 643), (.str "_law_stretch_here" 644)] 0), #[]⟩) ::
 (nat_lit 344, ⟨(.type "tuple"), none, (.seq #[] 0), #[]⟩) ::
 (nat_lit 346, ⟨(.type "code"), none, (.fields #[(.str "law" 629), (.str "law" 630), (.str "/claim/cut.py" 631), (.int 199 0), (.int 1 0), (.int 0 0), (.int 0 0), (.int 3 0), (.ref 341), (.bool true), (.int 181 0), (.ref 342), .none, (.ref 343), (.ref 344), (.ref 345), (.int 645 0), (.int 199 0), (.str "/claim/cut.py" 646)]), #[]⟩) ::
 (nat_lit 347, ⟨(.type "function"), none, (.func ⟨"law", "law", defArgs (top 49), .stmts (defBody (top 49)), defScope (top 49), 3, [], .none, .none, .none, (.str "law_notefall_k14_notes_known" 444), none, (.ref 346), .none, 0⟩), #[]⟩) :: []
def hAs : List Addr := nat_lit 2 :: nat_lit 3 :: nat_lit 15 :: nat_lit 22 :: nat_lit 23 :: nat_lit 24 :: nat_lit 25 :: nat_lit 28 :: nat_lit 35 :: nat_lit 36 :: nat_lit 37 :: nat_lit 40 :: nat_lit 47 :: nat_lit 48 :: nat_lit 49 :: nat_lit 52 :: nat_lit 59 :: nat_lit 60 :: nat_lit 61 :: nat_lit 64 :: nat_lit 71 :: nat_lit 72 :: nat_lit 73 :: nat_lit 76 :: nat_lit 83 :: nat_lit 84 :: nat_lit 85 :: nat_lit 88 :: nat_lit 90 :: nat_lit 91 :: nat_lit 93 :: nat_lit 94 :: nat_lit 95 :: nat_lit 97 :: nat_lit 98 :: nat_lit 100 :: nat_lit 101 :: nat_lit 102 :: nat_lit 104 :: nat_lit 105 :: nat_lit 107 :: nat_lit 108 :: nat_lit 109 :: nat_lit 111 :: nat_lit 112 :: nat_lit 114 :: nat_lit 115 :: nat_lit 116 :: nat_lit 118 :: nat_lit 119 :: nat_lit 121 :: nat_lit 122 :: nat_lit 123 :: nat_lit 125 :: nat_lit 126 :: nat_lit 128 :: nat_lit 129 :: nat_lit 130 :: nat_lit 132 :: nat_lit 133 :: nat_lit 135 :: nat_lit 136 :: nat_lit 137 :: nat_lit 138 :: nat_lit 140 :: nat_lit 141 :: nat_lit 143 :: nat_lit 144 :: nat_lit 145 :: nat_lit 147 :: nat_lit 148 :: nat_lit 150 :: nat_lit 151 :: nat_lit 152 :: nat_lit 154 :: nat_lit 155 :: nat_lit 157 :: nat_lit 158 :: nat_lit 159 :: nat_lit 161 :: nat_lit 162 :: nat_lit 164 :: nat_lit 165 :: nat_lit 166 :: nat_lit 168 :: nat_lit 169 :: nat_lit 171 :: nat_lit 172 :: nat_lit 173 :: nat_lit 175 :: nat_lit 176 :: nat_lit 178 :: nat_lit 179 :: nat_lit 180 :: nat_lit 182 :: nat_lit 183 :: nat_lit 185 :: nat_lit 186 :: nat_lit 187 :: nat_lit 189 :: nat_lit 190 :: nat_lit 192 :: nat_lit 193 :: nat_lit 194 :: nat_lit 196 :: nat_lit 197 :: nat_lit 199 :: nat_lit 200 :: nat_lit 201 :: nat_lit 203 :: nat_lit 204 :: nat_lit 206 :: nat_lit 207 :: nat_lit 208 :: nat_lit 210 :: nat_lit 211 :: nat_lit 213 :: nat_lit 214 :: nat_lit 215 :: nat_lit 217 :: nat_lit 218 :: nat_lit 220 :: nat_lit 221 :: nat_lit 222 :: nat_lit 224 :: nat_lit 225 :: nat_lit 227 :: nat_lit 228 :: nat_lit 229 :: nat_lit 231 :: nat_lit 232 :: nat_lit 234 :: nat_lit 235 :: nat_lit 236 :: nat_lit 238 :: nat_lit 239 :: nat_lit 241 :: nat_lit 242 :: nat_lit 243 :: nat_lit 245 :: nat_lit 246 :: nat_lit 248 :: nat_lit 249 :: nat_lit 250 :: nat_lit 252 :: nat_lit 253 :: nat_lit 255 :: nat_lit 256 :: nat_lit 257 :: nat_lit 259 :: nat_lit 260 :: nat_lit 262 :: nat_lit 263 :: nat_lit 271 :: nat_lit 273 :: nat_lit 274 :: nat_lit 276 :: nat_lit 277 :: nat_lit 278 :: nat_lit 280 :: nat_lit 281 :: nat_lit 283 :: nat_lit 284 :: nat_lit 285 :: nat_lit 287 :: nat_lit 288 :: nat_lit 290 :: nat_lit 291 :: nat_lit 292 :: nat_lit 294 :: nat_lit 295 :: nat_lit 297 :: nat_lit 298 :: nat_lit 299 :: nat_lit 301 :: nat_lit 302 :: nat_lit 304 :: nat_lit 305 :: nat_lit 306 :: nat_lit 308 :: nat_lit 309 :: nat_lit 311 :: nat_lit 312 :: nat_lit 313 :: nat_lit 315 :: nat_lit 316 :: nat_lit 318 :: nat_lit 319 :: nat_lit 320 :: nat_lit 322 :: nat_lit 323 :: nat_lit 325 :: nat_lit 326 :: nat_lit 327 :: nat_lit 329 :: nat_lit 330 :: nat_lit 332 :: nat_lit 333 :: nat_lit 334 :: nat_lit 336 :: nat_lit 337 :: nat_lit 339 :: nat_lit 340 :: nat_lit 341 :: nat_lit 343 :: nat_lit 344 :: nat_lit 346 :: nat_lit 347 :: []
def hQ : Program := { PySem.Challenge.pw_notefall_k14_notes_known with main := { PySem.Challenge.pw_notefall_k14_notes_known.main with body := top 1 :: top 2 :: top 3 :: top 4 :: top 5 :: top 6 :: top 8 :: top 9 :: top 10 :: top 11 :: top 12 :: top 13 :: top 14 :: top 15 :: top 17 :: top 18 :: top 19 :: top 21 :: top 22 :: top 23 :: top 24 :: top 25 :: top 26 :: top 27 :: top 28 :: top 30 :: top 31 :: top 32 :: top 33 :: top 34 :: top 35 :: top 36 :: top 37 :: top 38 :: top 39 :: top 40 :: top 41 :: top 42 :: top 43 :: top 44 :: top 45 :: top 46 :: top 47 :: top 48 :: top 49 :: [] } }
def hLv : List (Str × PySem.W.WData) := [((Str.ofString "END"), PySem.W.WData.int 1000000000000)]
def hLo : List Str := [(Str.ofString "END")]
theorem z_hK : K14.hK = K14.hK := rfl
name_quick K14_hK for K14.hK by K14.z_hK
theorem z_hQ : K14.hQ = K14.hQ := rfl
name_quick K14_hQ for K14.hQ by K14.z_hQ
theorem z_pw : PySem.Challenge.pw_notefall_k14_notes_known = PySem.Challenge.pw_notefall_k14_notes_known := rfl
name_quick K14_pw for PySem.Challenge.pw_notefall_k14_notes_known by K14.z_pw
theorem z_hLv : K14.hLv = K14.hLv := rfl
name_quick K14_hLv for K14.hLv by K14.z_hLv
theorem z_hLo : K14.hLo = K14.hLo := rfl
name_quick K14_hLo for K14.hLo by K14.z_hLo
def hYf (s : Shared) : List (Option Obj) × List (Option Obj) := (hAs.map s.heap.get?, ([335] : List Addr).map s.heap.get?)
def hYa (K : Params → PySem.W.Frag) (w : World) : List (Option Obj) × List (Option Obj) := ((K w.params).map fun p => some p.2, ([335] : List Addr).map fun _ => some (PySem.W.tabObj #[]))
theorem hE (P : Params) : hAs = (hK P).map (·.1) := by kernel_rfl
abbrev hXt (q : Program) (lv : List (Str × PySem.W.WData)) (s : Shared) : Bool := PySem.W.xlAt q lv s && PySem.W.recOk (PySem.W.RowW.records (PySem.W.OpenRow.toRowW PySem.Challenge.rw_notefall_k14_notes_known.row)) s
abbrev hF {t : Type} (tb : String → Option Builtin) (p q : Program) (lo : List Str) (lv : List (Str × PySem.W.WData)) (K : Params → PySem.W.Frag) (sn : Program → List Str → List Str → (Shared → Bool) → Bool → Shared → t) (gd : Program → List Str → t) (im : List Stmt → List Str) (w : World) : Prop :=
  (PySem.W.openEnds tb p w 5092).map (fun s => (sn q lo (im p.main.body) (hXt q lv) true s, hYf s)) = some (gd q lo, hYa K w)
noncomputable def hOth (P : Params) : PySem.W.Frag :=
 (nat_lit 0, PySem.W.boot_o_0 P) ::
 (nat_lit 1, PySem.W.boot_o_1 P) ::
 (nat_lit 4, PySem.W.boot_o_4 P) ::
 (nat_lit 5, PySem.W.boot_o_5 P) ::
 (nat_lit 6, PySem.W.boot_o_6 P) ::
 (nat_lit 7, PySem.W.boot_o_7 P) ::
 (nat_lit 8, PySem.W.boot_o_8 P) ::
 (nat_lit 9, PySem.W.boot_o_9 P) ::
 (nat_lit 10, PySem.W.boot_o_10 P) ::
 (nat_lit 11, ⟨(.type "tuple"), none, (.seq #[] 0), #[]⟩) ::
 (nat_lit 12, ⟨.none, none, (.fields #[(.int 2 0), (.int 0 0), (.ref 20), (.int 4 0), (.int 0 0), (.ref 33), (.int 6 0), (.int 0 0), (.ref 45), (.int 8 0), (.int 0 0), (.ref 57), (.int 10 0), (.int 0 0), (.ref 69), (.int 12 0), (.int 0 0), (.ref 81), (.int 16 0), (.int 0 0), (.ref 93), (.int 18 0), (.int 0 0), (.ref 100), (.int 20 0), (.int 0 0), (.ref 107), (.int 22 0), (.int 0 0), (.ref 114), (.int 24 0), (.int 0 0), (.ref 121), (.int 26 0), (.int 0 0), (.ref 128), (.int 29 0), (.int 0 0), (.ref 135), (.int 34 0), (.int 0 0), (.ref 143), (.int 40 0), (.int 0 0), (.ref 150), (.int 46 0), (.int 0 0), (.ref 157), (.int 53 0), (.int 0 0), (.ref 164), (.int 56 0), (.int 0 0), (.ref 171), (.int 58 0), (.int 0 0), (.ref 178), (.int 60 0), (.int 0 0), (.ref 185), (.int 65 0), (.int 0 0), (.ref 192), (.int 69 0), (.int 0 0), (.ref 199), (.int 73 0), (.int 0 0), (.ref 206), (.int 78 0), (.int 0 0), (.ref 213), (.int 80 0), (.int 0 0), (.ref 220), (.int 90 0), (.int 0 0), (.ref 227), (.int 95 0), (.int 0 0), (.ref 234), (.int 97 0), (.int 0 0), (.ref 241), (.int 102 0), (.int 0 0), (.ref 248), (.int 111 0), (.int 0 0), (.ref 255), (.int 116 0), (.int 0 0), (.ref 262), (.int 119 0), (.int 0 0), (.ref 269), (.int 124 0), (.int 0 0), (.ref 276), (.int 126 0), (.int 0 0), (.ref 283), (.int 132 0), (.int 0 0), (.ref 290), (.int 136 0), (.int 0 0), (.ref 297), (.int 138 0), (.int 0 0), (.ref 304), (.int 144 0), (.int 0 0), (.ref 311), (.int 147 0), (.int 0 0), (.ref 318), (.int 165 0), (.int 0 0), (.ref 325), (.int 176 0), (.int 0 0), (.ref 332), (.int 180 0), (.int 0 0), (.ref 339), (.int 199 0), (.int 0 0), (.ref 346)]), #[]⟩) ::
 (nat_lit 13, ⟨(.type "code"), none, (.fields #[(.str "<module>" 182), (.str "<module>" 183), (.str "/claim/cut.py" 184), (.int 1 0), (.int 0 0), (.int 0 0), (.int 0 0), (.int 0 0), (.ref 11), (.bool false), (.int 181 0), (.ref 12), .none, .none, .none, .none, (.int 185 0), (.int 1 0), (.str "/claim/cut.py" 186)]), #[]⟩) ::
 (nat_lit 14, ⟨(.type "frame"), none, .plain, #[(some (.ref 13)), (some (.ref 3)), (some (.ref 3)), none, (some (.str "__main__" 164)), none, (some (.ref 0))]⟩) ::
 (nat_lit 16, ⟨(.type "builtin_function_or_method"), none, (.fields #[(.builtin "type.__prepare__"), (.type "type")]), #[]⟩) ::
 (nat_lit 17, ⟨(.type "dict"), none, (.dict (List.toArray (⟨kh P "__module__", (.str "__module__" 196), (.str "notefall.errors" 187)⟩ :: ⟨kh P "__qualname__", (.str "__qualname__" 198), (.str "FallError" 197)⟩ :: ⟨kh P "__firstlineno__", (.str "__firstlineno__" 200), (.int 2 199)⟩ :: ⟨kh P "__static_attributes__", (.str "__static_attributes__" 201), (.ref 22)⟩ :: [])) 4), #[]⟩) ::
 (nat_lit 18, ⟨(.type "tuple"), none, (.seq #[] 0), #[]⟩) ::
 (nat_lit 19, ⟨.none, none, (.fields #[]), #[]⟩) ::
 (nat_lit 20, ⟨(.type "code"), none, (.fields #[(.str "FallError" 191), (.str "FallError" 192), (.str "/claim/cut.py" 193), (.int 2 0), (.int 0 0), (.int 0 0), (.int 0 0), (.int 0 0), (.ref 18), (.bool false), (.int 181 0), (.ref 19), .none, .none, .none, .none, (.int 194 0), (.int 2 0), (.str "/claim/cut.py" 195)]), #[]⟩) ::
 (nat_lit 21, ⟨(.type "frame"), none, .plain, #[(some (.ref 20)), (some (.ref 3)), (some (.ref 17)), none, (some (.str "notefall.errors" 187)), none, (some (.ref 0))]⟩) ::
 (nat_lit 26, ⟨(.type "super"), none, (.fields #[(.ref 24), (.ref 24), (.ref 24)]), #[]⟩) ::
 (nat_lit 27, ⟨(.type "builtin_function_or_method"), none, (.fields #[(.builtin "object.__init_subclass__"), (.ref 24)]), #[]⟩) ::
 (nat_lit 29, ⟨(.type "builtin_function_or_method"), none, (.fields #[(.builtin "type.__prepare__"), (.type "type")]), #[]⟩) ::
 (nat_lit 30, ⟨(.type "dict"), none, (.dict (List.toArray (⟨kh P "__module__", (.str "__module__" 214), (.str "notefall.errors" 187)⟩ :: ⟨kh P "__qualname__", (.str "__qualname__" 216), (.str "NoAction" 215)⟩ :: ⟨kh P "__firstlineno__", (.str "__firstlineno__" 218), (.int 4 217)⟩ :: ⟨kh P "__static_attributes__", (.str "__static_attributes__" 219), (.ref 35)⟩ :: [])) 4), #[]⟩) ::
 (nat_lit 31, ⟨(.type "tuple"), none, (.seq #[] 0), #[]⟩) ::
 (nat_lit 32, ⟨.none, none, (.fields #[]), #[]⟩) ::
 (nat_lit 33, ⟨(.type "code"), none, (.fields #[(.str "NoAction" 209), (.str "NoAction" 210), (.str "/claim/cut.py" 211), (.int 4 0), (.int 0 0), (.int 0 0), (.int 0 0), (.int 0 0), (.ref 31), (.bool false), (.int 181 0), (.ref 32), .none, .none, .none, .none, (.int 212 0), (.int 4 0), (.str "/claim/cut.py" 213)]), #[]⟩) ::
 (nat_lit 34, ⟨(.type "frame"), none, .plain, #[(some (.ref 33)), (some (.ref 3)), (some (.ref 30)), none, (some (.str "notefall.errors" 187)), none, (some (.ref 0))]⟩) ::
 (nat_lit 38, ⟨(.type "super"), none, (.fields #[(.ref 37), (.ref 37), (.ref 37)]), #[]⟩) ::
 (nat_lit 39, ⟨(.type "builtin_function_or_method"), none, (.fields #[(.builtin "object.__init_subclass__"), (.ref 37)]), #[]⟩) ::
 (nat_lit 41, ⟨(.type "builtin_function_or_method"), none, (.fields #[(.builtin "type.__prepare__"), (.type "type")]), #[]⟩) ::
 (nat_lit 42, ⟨(.type "dict"), none, (.dict (List.toArray (⟨kh P "__module__", (.str "__module__" 230), (.str "notefall.errors" 187)⟩ :: ⟨kh P "__qualname__", (.str "__qualname__" 232), (.str "NoDeed" 231)⟩ :: ⟨kh P "__firstlineno__", (.str "__firstlineno__" 234), (.int 6 233)⟩ :: ⟨kh P "__static_attributes__", (.str "__static_attributes__" 235), (.ref 47)⟩ :: [])) 4), #[]⟩) ::
 (nat_lit 43, ⟨(.type "tuple"), none, (.seq #[] 0), #[]⟩) ::
 (nat_lit 44, ⟨.none, none, (.fields #[]), #[]⟩) ::
 (nat_lit 45, ⟨(.type "code"), none, (.fields #[(.str "NoDeed" 225), (.str "NoDeed" 226), (.str "/claim/cut.py" 227), (.int 6 0), (.int 0 0), (.int 0 0), (.int 0 0), (.int 0 0), (.ref 43), (.bool false), (.int 181 0), (.ref 44), .none, .none, .none, .none, (.int 228 0), (.int 6 0), (.str "/claim/cut.py" 229)]), #[]⟩) ::
 (nat_lit 46, ⟨(.type "frame"), none, .plain, #[(some (.ref 45)), (some (.ref 3)), (some (.ref 42)), none, (some (.str "notefall.errors" 187)), none, (some (.ref 0))]⟩) ::
 (nat_lit 50, ⟨(.type "super"), none, (.fields #[(.ref 49), (.ref 49), (.ref 49)]), #[]⟩) ::
 (nat_lit 51, ⟨(.type "builtin_function_or_method"), none, (.fields #[(.builtin "object.__init_subclass__"), (.ref 49)]), #[]⟩) ::
 (nat_lit 53, ⟨(.type "builtin_function_or_method"), none, (.fields #[(.builtin "type.__prepare__"), (.type "type")]), #[]⟩) ::
 (nat_lit 54, ⟨(.type "dict"), none, (.dict (List.toArray (⟨kh P "__module__", (.str "__module__" 246), (.str "notefall.errors" 187)⟩ :: ⟨kh P "__qualname__", (.str "__qualname__" 248), (.str "NoNote" 247)⟩ :: ⟨kh P "__firstlineno__", (.str "__firstlineno__" 250), (.int 8 249)⟩ :: ⟨kh P "__static_attributes__", (.str "__static_attributes__" 251), (.ref 59)⟩ :: [])) 4), #[]⟩) ::
 (nat_lit 55, ⟨(.type "tuple"), none, (.seq #[] 0), #[]⟩) ::
 (nat_lit 56, ⟨.none, none, (.fields #[]), #[]⟩) ::
 (nat_lit 57, ⟨(.type "code"), none, (.fields #[(.str "NoNote" 241), (.str "NoNote" 242), (.str "/claim/cut.py" 243), (.int 8 0), (.int 0 0), (.int 0 0), (.int 0 0), (.int 0 0), (.ref 55), (.bool false), (.int 181 0), (.ref 56), .none, .none, .none, .none, (.int 244 0), (.int 8 0), (.str "/claim/cut.py" 245)]), #[]⟩) ::
 (nat_lit 58, ⟨(.type "frame"), none, .plain, #[(some (.ref 57)), (some (.ref 3)), (some (.ref 54)), none, (some (.str "notefall.errors" 187)), none, (some (.ref 0))]⟩) ::
 (nat_lit 62, ⟨(.type "super"), none, (.fields #[(.ref 61), (.ref 61), (.ref 61)]), #[]⟩) ::
 (nat_lit 63, ⟨(.type "builtin_function_or_method"), none, (.fields #[(.builtin "object.__init_subclass__"), (.ref 61)]), #[]⟩) ::
 (nat_lit 65, ⟨(.type "builtin_function_or_method"), none, (.fields #[(.builtin "type.__prepare__"), (.type "type")]), #[]⟩) ::
 (nat_lit 66, ⟨(.type "dict"), none, (.dict (List.toArray (⟨kh P "__module__", (.str "__module__" 262), (.str "notefall.errors" 187)⟩ :: ⟨kh P "__qualname__", (.str "__qualname__" 264), (.str "NoKey" 263)⟩ :: ⟨kh P "__firstlineno__", (.str "__firstlineno__" 266), (.int 10 265)⟩ :: ⟨kh P "__static_attributes__", (.str "__static_attributes__" 267), (.ref 71)⟩ :: [])) 4), #[]⟩) ::
 (nat_lit 67, ⟨(.type "tuple"), none, (.seq #[] 0), #[]⟩) ::
 (nat_lit 68, ⟨.none, none, (.fields #[]), #[]⟩) ::
 (nat_lit 69, ⟨(.type "code"), none, (.fields #[(.str "NoKey" 257), (.str "NoKey" 258), (.str "/claim/cut.py" 259), (.int 10 0), (.int 0 0), (.int 0 0), (.int 0 0), (.int 0 0), (.ref 67), (.bool false), (.int 181 0), (.ref 68), .none, .none, .none, .none, (.int 260 0), (.int 10 0), (.str "/claim/cut.py" 261)]), #[]⟩) ::
 (nat_lit 70, ⟨(.type "frame"), none, .plain, #[(some (.ref 69)), (some (.ref 3)), (some (.ref 66)), none, (some (.str "notefall.errors" 187)), none, (some (.ref 0))]⟩) ::
 (nat_lit 74, ⟨(.type "super"), none, (.fields #[(.ref 73), (.ref 73), (.ref 73)]), #[]⟩) ::
 (nat_lit 75, ⟨(.type "builtin_function_or_method"), none, (.fields #[(.builtin "object.__init_subclass__"), (.ref 73)]), #[]⟩) ::
 (nat_lit 77, ⟨(.type "builtin_function_or_method"), none, (.fields #[(.builtin "type.__prepare__"), (.type "type")]), #[]⟩) ::
 (nat_lit 78, ⟨(.type "dict"), none, (.dict (List.toArray (⟨kh P "__module__", (.str "__module__" 278), (.str "notefall.errors" 187)⟩ :: ⟨kh P "__qualname__", (.str "__qualname__" 280), (.str "NoStretch" 279)⟩ :: ⟨kh P "__firstlineno__", (.str "__firstlineno__" 282), (.int 12 281)⟩ :: ⟨kh P "__static_attributes__", (.str "__static_attributes__" 283), (.ref 83)⟩ :: [])) 4), #[]⟩) ::
 (nat_lit 79, ⟨(.type "tuple"), none, (.seq #[] 0), #[]⟩) ::
 (nat_lit 80, ⟨.none, none, (.fields #[]), #[]⟩) ::
 (nat_lit 81, ⟨(.type "code"), none, (.fields #[(.str "NoStretch" 273), (.str "NoStretch" 274), (.str "/claim/cut.py" 275), (.int 12 0), (.int 0 0), (.int 0 0), (.int 0 0), (.int 0 0), (.ref 79), (.bool false), (.int 181 0), (.ref 80), .none, .none, .none, .none, (.int 276 0), (.int 12 0), (.str "/claim/cut.py" 277)]), #[]⟩) ::
 (nat_lit 82, ⟨(.type "frame"), none, .plain, #[(some (.ref 81)), (some (.ref 3)), (some (.ref 78)), none, (some (.str "notefall.errors" 187)), none, (some (.ref 0))]⟩) ::
 (nat_lit 86, ⟨(.type "super"), none, (.fields #[(.ref 85), (.ref 85), (.ref 85)]), #[]⟩) ::
 (nat_lit 87, ⟨(.type "builtin_function_or_method"), none, (.fields #[(.builtin "object.__init_subclass__"), (.ref 85)]), #[]⟩) ::
 (nat_lit 89, ⟨.none, none, (.fields #[]), #[]⟩) ::
 (nat_lit 92, ⟨.none, none, (.func ⟨"is_number", "is_number", defArgs (top 9), .stmts (defBody (top 9)), defScope (top 9), 0, [], .none, .none, .none, .none, none, .none, .none, 0⟩), #[]⟩) ::
 (nat_lit 96, ⟨.none, none, (.fields #[]), #[]⟩) ::
 (nat_lit 99, ⟨.none, none, (.func ⟨"is_whole", "is_whole", defArgs (top 10), .stmts (defBody (top 10)), defScope (top 10), 0, [], .none, .none, .none, .none, none, .none, .none, 0⟩), #[]⟩) ::
 (nat_lit 103, ⟨.none, none, (.fields #[]), #[]⟩) ::
 (nat_lit 106, ⟨.none, none, (.func ⟨"is_whole_from", "is_whole_from", defArgs (top 11), .stmts (defBody (top 11)), defScope (top 11), 0, [], .none, .none, .none, .none, none, .none, .none, 0⟩), #[]⟩) ::
 (nat_lit 110, ⟨.none, none, (.fields #[]), #[]⟩) ::
 (nat_lit 113, ⟨.none, none, (.func ⟨"is_key", "is_key", defArgs (top 12), .stmts (defBody (top 12)), defScope (top 12), 0, [], .none, .none, .none, .none, none, .none, .none, 0⟩), #[]⟩) ::
 (nat_lit 117, ⟨.none, none, (.fields #[]), #[]⟩) ::
 (nat_lit 120, ⟨.none, none, (.func ⟨"is_stretch", "is_stretch", defArgs (top 13), .stmts (defBody (top 13)), defScope (top 13), 0, [], .none, .none, .none, .none, none, .none, .none, 0⟩), #[]⟩) ::
 (nat_lit 124, ⟨.none, none, (.fields #[]), #[]⟩) ::
 (nat_lit 127, ⟨.none, none, (.func ⟨"check_key", "check_key", defArgs (top 14), .stmts (defBody (top 14)), defScope (top 14), 0, [], .none, .none, .none, .none, none, .none, .none, 0⟩), #[]⟩) ::
 (nat_lit 131, ⟨.none, none, (.fields #[]), #[]⟩) ::
 (nat_lit 134, ⟨.none, none, (.func ⟨"check_stretch", "check_stretch", defArgs (top 15), .stmts (defBody (top 15)), defScope (top 15), 0, [], .none, .none, .none, .none, none, .none, .none, 0⟩), #[]⟩) ::
 (nat_lit 139, ⟨.none, none, (.fields #[]), #[]⟩) ::
 (nat_lit 142, ⟨.none, none, (.func ⟨"is_half", "is_half", defArgs (top 18), .stmts (defBody (top 18)), defScope (top 18), 0, [], .none, .none, .none, .none, none, .none, .none, 0⟩), #[]⟩) ::
 (nat_lit 146, ⟨.none, none, (.fields #[]), #[]⟩) ::
 (nat_lit 149, ⟨.none, none, (.func ⟨"is_action", "is_action", defArgs (top 19), .stmts (defBody (top 19)), defScope (top 19), 0, [], .none, .none, .none, .none, none, .none, .none, 0⟩), #[]⟩) ::
 (nat_lit 153, ⟨.none, none, (.fields #[]), #[]⟩) ::
 (nat_lit 156, ⟨.none, none, (.func ⟨"is_note", "is_note", defArgs (top 21), .stmts (defBody (top 21)), defScope (top 21), 0, [], .none, .none, .none, .none, none, .none, .none, 0⟩), #[]⟩) ::
 (nat_lit 160, ⟨.none, none, (.fields #[]), #[]⟩) ::
 (nat_lit 163, ⟨.none, none, (.func ⟨"check_note", "check_note", defArgs (top 22), .stmts (defBody (top 22)), defScope (top 22), 0, [], .none, .none, .none, .none, none, .none, .none, 0⟩), #[]⟩) ::
 (nat_lit 167, ⟨.none, none, (.fields #[]), #[]⟩) ::
 (nat_lit 170, ⟨.none, none, (.func ⟨"has_key", "has_key", defArgs (top 23), .stmts (defBody (top 23)), defScope (top 23), 0, [], .none, .none, .none, .none, none, .none, .none, 0⟩), #[]⟩) ::
 (nat_lit 174, ⟨.none, none, (.fields #[]), #[]⟩) ::
 (nat_lit 177, ⟨.none, none, (.func ⟨"have_common", "have_common", defArgs (top 24), .stmts (defBody (top 24)), defScope (top 24), 0, [], .none, .none, .none, .none, none, .none, .none, 0⟩), #[]⟩) ::
 (nat_lit 181, ⟨.none, none, (.fields #[]), #[]⟩) ::
 (nat_lit 184, ⟨.none, none, (.func ⟨"cut", "cut", defArgs (top 25), .stmts (defBody (top 25)), defScope (top 25), 0, [], .none, .none, .none, .none, none, .none, .none, 0⟩), #[]⟩) ::
 (nat_lit 188, ⟨.none, none, (.fields #[]), #[]⟩) ::
 (nat_lit 191, ⟨.none, none, (.func ⟨"touches", "touches", defArgs (top 26), .stmts (defBody (top 26)), defScope (top 26), 0, [], .none, .none, .none, .none, none, .none, .none, 0⟩), #[]⟩) ::
 (nat_lit 195, ⟨.none, none, (.fields #[]), #[]⟩) ::
 (nat_lit 198, ⟨.none, none, (.func ⟨"shares", "shares", defArgs (top 27), .stmts (defBody (top 27)), defScope (top 27), 0, [], .none, .none, .none, .none, none, .none, .none, 0⟩), #[]⟩) ::
 (nat_lit 202, ⟨.none, none, (.fields #[]), #[]⟩) ::
 (nat_lit 205, ⟨.none, none, (.func ⟨"part", "part", defArgs (top 28), .stmts (defBody (top 28)), defScope (top 28), 0, [], .none, .none, .none, .none, none, .none, .none, 0⟩), #[]⟩) ::
 (nat_lit 209, ⟨.none, none, (.fields #[]), #[]⟩) ::
 (nat_lit 212, ⟨.none, none, (.func ⟨"_law_well", "_law_well", defArgs (top 30), .stmts (defBody (top 30)), defScope (top 30), 0, [], .none, .none, .none, .none, none, .none, .none, 0⟩), #[]⟩) ::
 (nat_lit 216, ⟨.none, none, (.fields #[]), #[]⟩) ::
 (nat_lit 219, ⟨.none, none, (.func ⟨"_law_draw", "_law_draw", defArgs (top 31), .stmts (defBody (top 31)), defScope (top 31), 0, [], .none, .none, .none, .none, none, .none, .none, 0⟩), #[]⟩) ::
 (nat_lit 223, ⟨.none, none, (.fields #[]), #[]⟩) ::
 (nat_lit 226, ⟨.none, none, (.func ⟨"_law_key", "_law_key", defArgs (top 32), .stmts (defBody (top 32)), defScope (top 32), 0, [], .none, .none, .none, .none, none, .none, .none, 0⟩), #[]⟩) ::
 (nat_lit 230, ⟨.none, none, (.fields #[]), #[]⟩) ::
 (nat_lit 233, ⟨.none, none, (.func ⟨"_law_base", "_law_base", defArgs (top 33), .stmts (defBody (top 33)), defScope (top 33), 0, [], .none, .none, .none, .none, none, .none, .none, 0⟩), #[]⟩) ::
 (nat_lit 237, ⟨.none, none, (.fields #[]), #[]⟩) ::
 (nat_lit 240, ⟨.none, none, (.func ⟨"_law_amount", "_law_amount", defArgs (top 34), .stmts (defBody (top 34)), defScope (top 34), 0, [], .none, .none, .none, .none, none, .none, .none, 0⟩), #[]⟩) ::
 (nat_lit 244, ⟨.none, none, (.fields #[]), #[]⟩) ::
 (nat_lit 247, ⟨.none, none, (.func ⟨"_law_stretch", "_law_stretch", defArgs (top 35), .stmts (defBody (top 35)), defScope (top 35), 0, [], .none, .none, .none, .none, none, .none, .none, 0⟩), #[]⟩) ::
 (nat_lit 251, ⟨.none, none, (.fields #[]), #[]⟩) ::
 (nat_lit 254, ⟨.none, none, (.func ⟨"_law_action", "_law_action", defArgs (top 36), .stmts (defBody (top 36)), defScope (top 36), 0, [], .none, .none, .none, .none, none, .none, .none, 0⟩), #[]⟩) ::
 (nat_lit 258, ⟨.none, none, (.fields #[]), #[]⟩) ::
 (nat_lit 261, ⟨.none, none, (.func ⟨"_law_note", "_law_note", defArgs (top 37), .stmts (defBody (top 37)), defScope (top 37), 0, [], .none, .none, .none, .none, none, .none, .none, 0⟩), #[]⟩) ::
 (nat_lit 264, ⟨(.type "tuple"), none, (.seq #[] 0), #[]⟩) ::
 (nat_lit 265, ⟨.none, none, (.fields #[]), #[]⟩) ::
 (nat_lit 266, ⟨(.type "tuple"), none, (.seq #[(.str "_law_action_here" 525), (.str "_law_value" 526), (.str "_law_half" 527)] 0), #[]⟩) ::
 (nat_lit 267, ⟨(.type "tuple"), none, (.seq #[] 0), #[]⟩) ::
 (nat_lit 268, ⟨.none, none, (.func ⟨"_law_done", "_law_done", defArgs (top 38), .stmts (defBody (top 38)), defScope (top 38), 0, [], .none, .none, .none, .none, none, .none, .none, 0⟩), #[]⟩) ::
 (nat_lit 269, ⟨(.type "code"), none, (.fields #[(.str "_law_done" 522), (.str "_law_done" 523), (.str "/claim/cut.py" 524), (.int 119 0), (.int 2 0), (.int 0 0), (.int 0 0), (.int 3 0), (.ref 264), (.bool true), (.int 181 0), (.ref 265), .none, (.ref 266), (.ref 267), (.ref 268), (.int 528 0), (.int 119 0), (.str "/claim/cut.py" 529)]), #[]⟩) ::
 (nat_lit 270, ⟨(.type "function"), none, (.func ⟨"_law_done", "_law_done", defArgs (top 38), .stmts (defBody (top 38)), defScope (top 38), 3, [], .none, .none, .none, (.str "law_notefall_k14_notes_known" 444), none, (.ref 269), .none, 0⟩), #[]⟩) ::
 (nat_lit 272, ⟨.none, none, (.fields #[]), #[]⟩) ::
 (nat_lit 275, ⟨.none, none, (.func ⟨"_law_whole", "_law_whole", defArgs (top 39), .stmts (defBody (top 39)), defScope (top 39), 0, [], .none, .none, .none, .none, none, .none, .none, 0⟩), #[]⟩) ::
 (nat_lit 279, ⟨.none, none, (.fields #[]), #[]⟩) ::
 (nat_lit 282, ⟨.none, none, (.func ⟨"_law_is_half", "_law_is_half", defArgs (top 40), .stmts (defBody (top 40)), defScope (top 40), 0, [], .none, .none, .none, .none, none, .none, .none, 0⟩), #[]⟩) ::
 (nat_lit 286, ⟨.none, none, (.fields #[]), #[]⟩) ::
 (nat_lit 289, ⟨.none, none, (.func ⟨"_law_is_action", "_law_is_action", defArgs (top 41), .stmts (defBody (top 41)), defScope (top 41), 0, [], .none, .none, .none, .none, none, .none, .none, 0⟩), #[]⟩) ::
 (nat_lit 293, ⟨.none, none, (.fields #[]), #[]⟩) ::
 (nat_lit 296, ⟨.none, none, (.func ⟨"_law_is_stretch", "_law_is_stretch", defArgs (top 42), .stmts (defBody (top 42)), defScope (top 42), 0, [], .none, .none, .none, .none, none, .none, .none, 0⟩), #[]⟩) ::
 (nat_lit 300, ⟨.none, none, (.fields #[]), #[]⟩) ::
 (nat_lit 303, ⟨.none, none, (.func ⟨"_law_is_note", "_law_is_note", defArgs (top 43), .stmts (defBody (top 43)), defScope (top 43), 0, [], .none, .none, .none, .none, none, .none, .none, 0⟩), #[]⟩) ::
 (nat_lit 307, ⟨.none, none, (.fields #[]), #[]⟩) ::
 (nat_lit 310, ⟨.none, none, (.func ⟨"_law_odd", "_law_odd", defArgs (top 44), .stmts (defBody (top 44)), defScope (top 44), 0, [], .none, .none, .none, .none, none, .none, .none, 0⟩), #[]⟩) ::
 (nat_lit 314, ⟨.none, none, (.fields #[]), #[]⟩) ::
 (nat_lit 317, ⟨.none, none, (.func ⟨"_law_spoilt", "_law_spoilt", defArgs (top 45), .stmts (defBody (top 45)), defScope (top 45), 0, [], .none, .none, .none, .none, none, .none, .none, 0⟩), #[]⟩) ::
 (nat_lit 321, ⟨.none, none, (.fields #[]), #[]⟩) ::
 (nat_lit 324, ⟨.none, none, (.func ⟨"_law_word", "_law_word", defArgs (top 46), .stmts (defBody (top 46)), defScope (top 46), 0, [], .none, .none, .none, .none, none, .none, .none, 0⟩), #[]⟩) ::
 (nat_lit 328, ⟨.none, none, (.fields #[]), #[]⟩) ::
 (nat_lit 331, ⟨.none, none, (.func ⟨"_law_due_part", "_law_due_part", defArgs (top 47), .stmts (defBody (top 47)), defScope (top 47), 0, [], .none, .none, .none, .none, none, .none, .none, 0⟩), #[]⟩) ::
 (nat_lit 335, ⟨.none, none, (.fields #[]), #[]⟩) ::
 (nat_lit 338, ⟨.none, none, (.func ⟨"_law_asked", "_law_asked", defArgs (top 48), .stmts (defBody (top 48)), defScope (top 48), 0, [], .none, .none, .none, .none, none, .none, .none, 0⟩), #[]⟩) ::
 (nat_lit 342, ⟨.none, none, (.fields #[]), #[]⟩) ::
 (nat_lit 345, ⟨.none, none, (.func ⟨"law", "law", defArgs (top 49), .stmts (defBody (top 49)), defScope (top 49), 0, [], .none, .none, .none, .none, none, .none, .none, 0⟩), #[]⟩) :: []
noncomputable def hAo (P : Params) : List Obj :=
 (PySem.W.boot_o_0 P) ::
 (PySem.W.boot_o_1 P) ::
 (PySem.W.boot_o_2 P) ::
 (PySem.W.boot_o_3 P) ::
 (PySem.W.boot_o_4 P) ::
 (PySem.W.boot_o_5 P) ::
 (PySem.W.boot_o_6 P) ::
 (PySem.W.boot_o_7 P) ::
 (PySem.W.boot_o_8 P) ::
 (PySem.W.boot_o_9 P) ::
 (PySem.W.boot_o_10 P) ::
 (⟨(.type "tuple"), none, (.seq #[] 0), #[]⟩) ::
 (⟨.none, none, (.fields #[]), #[]⟩) ::
 (⟨(.type "code"), none, (.fields #[(.str "<module>" 182), (.str "<module>" 183), (.str "/claim/cut.py" 184), (.int 1 0), (.int 0 0), (.int 0 0), (.int 0 0), (.int 0 0), (.ref 11), (.bool false), (.int 181 0), (.ref 12), .none, .none, .none, .none, (.int 185 0), (.int 1 0), (.str "/claim/cut.py" 186)]), #[]⟩) ::
 (⟨(.type "frame"), none, .plain, #[(some (.ref 13)), (some (.ref 3)), (some (.ref 3)), none, (some (.str "__main__" 164)), none, (some (.ref 0))]⟩) :: []
theorem z_hOth : K14.hOth = K14.hOth := rfl
name_quick K14_hOth for K14.hOth by K14.z_hOth
theorem z_hAo : K14.hAo = K14.hAo := rfl
name_quick K14_hAo for K14.hAo by K14.z_hAo
def hMrg : Nat → PySem.W.Frag → PySem.W.Frag → List Obj
  | 0, _, _ => []
  | n + 1, (a, o) :: r, (b, p) :: s => match Nat.blt a b with
    | true => o :: hMrg n r ((b, p) :: s)
    | false => p :: hMrg n ((a, o) :: r) s
  | n + 1, (_, o) :: r, [] => o :: hMrg n r []
  | n + 1, [], (_, p) :: s => p :: hMrg n [] s
  | _ + 1, [], [] => []
def hIns : List Obj → Nat → PySem.W.BT → PySem.W.BT
  | [], _, t => t
  | o :: r, n, t => hIns r (n + 1) (t.ins n o)
noncomputable def hTr (P : Params) : PySem.W.BT := hIns (hMrg 348 (PySem.W.Fast.K14_hK P) (PySem.W.Fast.K14_hOth P)) 0 .nil
noncomputable def hEnv : Env := { scope := PySem.W.Fast.K14_pw.main.scope, locals := mainNs, globals := mainNs, cells := [], code := (.ref 13), frame := some 14 }
noncomputable abbrev hCd : Code := Code.body (PySem.W.behindTheImports PySem.W.Fast.K14_pw) hEnv
noncomputable abbrev hSa (P : Params) (os : OsState) : PySem.W.SharedT := ⟨hIns (PySem.W.Fast.K14_hAo P) 0 .nil, 15, {}, Array.mk [], ⟨0, 0, 0, 0⟩, 187, os⟩
noncomputable abbrev hSm (P : Params) (os : OsState) : PySem.W.SharedT := ⟨hTr P, 348, {}, Array.mk [], ⟨0, 0, 0, 0⟩, 648, os⟩
set_option maxRecDepth 100000 in
set_option maxHeartbeats 0 in
theorem hPre (w : World) (os : OsState) : PySem.W.topGo PySem.W.Fast.tw14364793385576792824 PySem.W.Fast.K14_pw w 11 (some (.ref 6)) 12 ⟨PySem.W.boot_heap w.params, Array.mk [], PySem.W.boot_drawn, PySem.W.boot_toks, os⟩ (PySem.W.topStub PySem.W.Fast.K14_pw) = some ((hSa w.params os).abs, ⟨denote PySem.W.Fast.tw14364793385576792824 hCd, hCd, ⟨0, 0, 0, 0⟩, [PySem.W.topFrame ⟨0, 0, 0, 0⟩]⟩) := by kernel_rfl
set_option maxRecDepth 100000 in
set_option maxHeartbeats 0 in
theorem hBlk (w : World) (os : OsState) : PySem.W.segRun PySem.W.Fast.tw14364793385576792824 PySem.W.Fast.K14_pw w 11 (some (.ref 6)) 1 1 (hSa w.params os).abs (PySem.W.blockOf (PySem.W.behindTheImports PySem.W.Fast.K14_pw) hEnv hCd ⟨0, 0, 0, 0⟩ [PySem.W.topFrame ⟨0, 0, 0, 0⟩]) = some (.next, (hSa w.params os).abs, hCd, ⟨0, 0, 0, 0⟩) := by kernel_rfl
noncomputable abbrev hH1 (P : Params) : Heap := PySem.W.absHeap (hTr P) 348 {}
set_option maxRecDepth 100000 in
set_option maxHeartbeats 0 in
theorem hAllq (w : World) (os : OsState) : PySem.W.Fast.tw10110043849684766642 PySem.W.Fast.tw14364793385576792824 PySem.W.Fast.K14_pw w 11 (some (.ref 6)) 1 2493 (hSa w.params os) ⟨(PySem.W.Fast.tw12563942051412417395 (PySem.W.behindTheImports PySem.W.Fast.K14_pw) hEnv).wrap PySem.W.doneF PySem.W.deadEnd id id, hCd, ⟨0, 0, 0, 0⟩, [PySem.W.topFrame ⟨0, 0, 0, 0⟩]⟩ = some (.next, hSm w.params os, hCd, ⟨199, 0, 221, 15⟩) := by kernel_rfl
set_option maxRecDepth 100000 in
set_option maxHeartbeats 0 in
theorem hFin (w : World) (os : OsState) : PySem.W.topRun PySem.W.Fast.tw14364793385576792824 PySem.W.Fast.K14_pw w 11 (some (.ref 6)) 2 (hSm w.params os).abs (PySem.W.restOf [] hEnv hCd ⟨199, 0, 221, 15⟩ [PySem.W.topFrame ⟨0, 0, 0, 0⟩]) = some ⟨hH1 w.params, Array.mk [], ⟨0, 0, 0, 0⟩, 648, os⟩ := by kernel_rfl
theorem all_of {F F' : (String → Option Builtin) → Program → World → Nat → Option Value → Nat → Nat → PySem.W.SharedT → Thread → Option (Flow × PySem.W.SharedT × Code × Pos)} {G G' : List Stmt → Env → Sem Flow} {tb : String → Option Builtin} {p : Program} {w : World} {m n : Nat} {ann : Option Value} {S : PySem.W.SharedT} {l : List Stmt} {env : Env} {c : Code} {pos : Pos} {B : List Frame} {r : Option (Flow × PySem.W.SharedT × Code × Pos)}
    (h : F' tb p w m ann 1 n S ⟨(G' l env).wrap PySem.W.doneF PySem.W.deadEnd id id, c, pos, B⟩ = r) (eF : F = F') (eG : G = G') : F tb p w m ann 1 n S ⟨(G l env).wrap PySem.W.doneF PySem.W.deadEnd id id, c, pos, B⟩ = r := by
  subst eF eG; exact h
theorem run_chain {tb : String → Option Builtin} {p : Program} {w : World} {m n0 n1 n2 n3 : Nat} {ann : Option Value} {env : Env} {q : Pos} {b : List Stmt} {S0 Sa R : Shared} {SA SM : PySem.W.SharedT} {stub : Thread} {pos0 pos1 pos2 : Pos} (ea : SA.abs = Sa)
    (h1 : PySem.W.topGo tb p w m ann n0 S0 stub = some (Sa, ⟨denote tb (Code.body b env), Code.body b env, pos0, [PySem.W.topFrame q]⟩))
    (h2 : PySem.W.segRun tb p w m ann 1 n1 Sa (PySem.W.blockOf b env (Code.body b env) pos0 [PySem.W.topFrame q]) = some (.next, Sa, Code.body b env, pos1))
    (h3 : PySem.W.segRunT tb p w m ann 1 n2 SA (PySem.W.piecesOf b env (Code.body b env) pos1 [PySem.W.topFrame q]) = some (.next, SM, Code.body b env, pos2))
    (h4 : PySem.W.topRun tb p w m ann n3 SM.abs (PySem.W.restOf [] env (Code.body b env) pos2 [PySem.W.topFrame q]) = some R) : PySem.W.topRun tb p w m ann (n0 + (n1 + (n2 + n3))) S0 stub = some R := by
  subst ea
  refine PySem.W.go_top h1 (PySem.W.piece_block h2 ?_)
  have h := PySem.W.piece_app (rest := []) (PySem.W.segRun_of h3) h4
  rw [List.append_nil] at h
  exact h
set_option maxRecDepth 100000 in
set_option maxHeartbeats 0 in
theorem hRun (w : World) (os : OsState) : PySem.W.topRun PySem.W.Fast.tw14364793385576792824 PySem.W.Fast.K14_pw w 11 (some (.ref 6)) (12 + (1 + (2493 + 2))) ⟨PySem.W.boot_heap w.params, Array.mk [], PySem.W.boot_drawn, PySem.W.boot_toks, os⟩ (PySem.W.topStub PySem.W.Fast.K14_pw) = some ⟨hH1 w.params, Array.mk [], ⟨0, 0, 0, 0⟩, 648, os⟩ :=
  run_chain rfl (hPre w os) (hBlk w os) (all_of (hAllq w os) PySem.W.Fast.te10110043849684766642 PySem.W.Fast.te12563942051412417395) (hFin w os)
abbrev hG {t : Type} (p q : Program) (lo : List Str) (lv : List (Str × PySem.W.WData)) (K : Params → PySem.W.Frag) (sn : Program → List Str → List Str → (Shared → Bool) → Bool → Shared → t) (gd : Program → List Str → t) (im : List Stmt → List Str) (w : World) : Prop :=
  (fun os : OsState => ((PySem.W.staticsOk (im p.main.body) (PySem.W.boot_heap w.params) (hH1 w.params) && PySem.W.namesBound p (hH1 w.params) && PySem.W.gensDone ⟨hH1 w.params, Array.mk [], ⟨0, 0, 0, 0⟩, 648, os⟩ && PySem.W.laidKept (PySem.W.boot_heap w.params) (hH1 w.params)), sn q lo (im p.main.body) (hXt q lv) true ⟨hH1 w.params, Array.mk [], ⟨0, 0, 0, 0⟩, 648, os⟩, hYf ⟨hH1 w.params, Array.mk [], ⟨0, 0, 0, 0⟩, 648, os⟩)) = fun _ => (true, gd q lo, hYa K w)
theorem hG_of {t : Type} {p p' q q' : Program} {lo lo' : List Str} {lv lv' : List (Str × PySem.W.WData)} {K K' : Params → PySem.W.Frag} {sn sn' : Program → List Str → List Str → (Shared → Bool) → Bool → Shared → t} {gd : Program → List Str → t} {im im' : List Stmt → List Str} {w : World}
    (h : hG p' q' lo' lv' K' sn' gd im' w) (e2 : p = p') (e3 : q = q') (e4 : lo = lo') (e5 : lv = lv') (e6 : K = K') (e7 : sn = sn') (e8 : im = im') : hG p q lo lv K sn gd im w := by
  subst e2 e3 e4 e5 e6 e7 e8; exact h
set_option maxRecDepth 100000 in
set_option maxHeartbeats 0 in
theorem hLk (w : World) : hG PySem.W.Fast.K14_pw PySem.W.Fast.K14_hQ PySem.W.Fast.K14_hLo PySem.W.Fast.K14_hLv PySem.W.Fast.K14_hK PySem.W.Fast.tw4187177175401517315 PySem.W.openGood PySem.W.Fast.tw5923862056798008813 w := by kernel_rfl
theorem hR_of {tb tb' : String → Option Builtin} {p p' : Program} {M : Nat} {S R : World → OsState → Shared} (h : ∀ w os, PySem.W.topRun tb' p' w 11 (some (.ref 6)) M (S w os) (PySem.W.topStub p') = some (R w os)) (e1 : tb = tb') (e2 : p = p') : ∀ w os, PySem.W.topRun tb p w 11 (some (.ref 6)) M (S w os) (PySem.W.topStub p) = some (R w os) := by
  subst e1 e2; exact h
set_option maxRecDepth 100000 in
set_option maxHeartbeats 0 in
theorem hSz (w : World) : ((PySem.W.boot_heap w.params).isNs mainGlobals && (Array.mk [] : Array GenState).size == 0, (PySem.W.boot_heap w.params).objs.size, (PySem.W.boot_heap w.params).nsMap mainGlobals "__annotations__") = (true, 11, (some (.ref 6))) := by kernel_rfl
set_option maxRecDepth 100000 in
set_option maxHeartbeats 0 in
theorem hl : PySem.W.LeftO PySem.Challenge.pw_notefall_k14_notes_known hQ hLo (hXt hQ hLv) hYf (hYa hK) 5092 :=
  PySem.W.LeftO.of_pieces (H₁ := hH1) (gs₁ := Array.mk []) (d₁ := ⟨0, 0, 0, 0⟩) (k₁ := 648) (PySem.W.boot_open (by kernel_rfl) (by decide +kernel) (fun s => by kernel_rfl)) hSz (hR_of (M := (12 + (1 + (2493 + 2)))) hRun PySem.W.Fast.te14364793385576792824 PySem.W.Fast.K14_pw_eq) (by decide +kernel)
    (fun w => hG_of (hLk w) PySem.W.Fast.K14_pw_eq PySem.W.Fast.K14_hQ_eq PySem.W.Fast.K14_hLo_eq PySem.W.Fast.K14_hLv_eq PySem.W.Fast.K14_hK_eq PySem.W.Fast.te4187177175401517315 PySem.W.Fast.te5923862056798008813)
end K14
open PySem PySem.W PyProof.Rows
set_option maxRecDepth 100000 in
set_option maxHeartbeats 0 in
theorem PySem.Challenge.cw_notefall_k14_notes_known_holds : PySem.Challenge.rw_notefall_k14_notes_known.Holds := by
  w_on; o_law
  refine holds_open (q := K14.hQ) (loose := K14.hLo) (Xt := K14.hXt K14.hQ K14.hLv) (XP := XL K14.hQ K14.hLv) (Yf := K14.hYf) (Ya := K14.hYa K14.hK) (YP := Hook.says (PySem.W.kmHook K14.hK K14.hAs K14.hE ([335] : List Addr))) (N := 5092) K14.hl (Hook.of (PySem.W.kmHook K14.hK K14.hAs K14.hE ([335] : List Addr))) (Hook.keeps (PySem.W.kmHook K14.hK K14.hAs K14.hE ([335] : List Addr))) (fun s e => xl_of s (Bool.and_eq_true_iff.mp e).1) XL.keeps (by rfl) (by rfl) (by rfl) (fun s e => recFacts_of (Bool.and_eq_true_iff.mp e).2) (by rfl) (by first | assumption | decide +kernel) (by decide +kernel) ⟨rfl, rfl, rfl, rfl, rfl, by decide +kernel⟩ ?hw ?hc
  case hw => w_witness2
  k_fill
  refine K14.walk (l := PySem.Challenge.rw_notefall_k14_notes_known) rfl rfl (by decide +kernel) (fun w h Y => by first | exact PySem.W.kIn_of Y | exact PySem.W.km_in_of Y) ?F
  case F =>
    intro w mg fa h KX G hmg
    refine' K14.all_mk KX G hmg ?a1 ?l1 ?c1 ?k1 ?a2 ?l2 ?c2 ?k2 ?a3 ?l3 ?c3 ?k3 ?a4 ?l4 ?c4 ?k4 ?a5 ?l5 ?c5 ?k5 ?a6 ?l6 ?c6 ?k6 ?a7 ?l7 ?c7 ?k7 ?a8 ?l8 ?c8 ?k8 ?a9 ?l9 ?c9 ?k9 ?a10 ?l10 ?c10 ?k10 ?a11 ?l11 ?c11 ?k11 ?a12 ?l12 ?c12 ?k12 ?a13 ?l13 ?c13 ?k13 ?a14 ?l14 ?c14 ?k14 ?a15 ?l15 ?c15 ?k15 ?a16 ?l16 ?c16 ?k16 ?a17 ?l17 ?c17 ?k17 ?a18 ?l18 ?c18 ?k18 ?a19 ?l19 ?c19 ?k19 ?a20 ?l20 ?c20 ?k20 ?a21 ?l21 ?c21 ?k21 ?a22 ?l22 ?c22 ?k22 ?a23 ?l23 ?c23 ?k23 ?a24 ?l24 ?c24 ?k24 ?a25 ?l25 ?c25 ?k25 ?a26 ?l26 ?c26 ?k26 ?a27 ?l27 ?c27 ?k27 ?a28 ?l28 ?c28 ?k28 ?a29 ?l29 ?c29 ?k29 ?a30 ?l30 ?c30 ?k30 ?a31 ?l31 ?c31 ?k31 ?a32 ?l32 ?c32 ?k32 ?a33 ?l33 ?c33 ?k33 ?a34 ?l34 ?c34 ?k34 ?a35 ?l35 ?c35 ?k35 ?a36 ?l36 ?c36 ?k36 ?z_len ?z_isinstance ?z_int ?z_bool ?z_tuple ?z_str ?z_list ?z_min ?z_max ?z_GONE ?z_END ?z_FallError ?z_NoAction ?z_NoDeed ?z_NoNote ?z_NoKey ?z_NoStretch ?z_kG ?z_gt ?z_tk ?z_xN ?z_gaN ?z_ghN ?z_clN ?z_moN ?z_mbN ?z_isN ?z_mN ?z_kN1 ?z_kN2 ?z_kN3 ?z_kN4 ?z_kN5 ?z_xK ?z_gaK ?z_ghK ?z_clK ?z_moK ?z_mbK ?z_isK ?z_mK ?z_kK1 ?z_kK2 ?z_kK3 ?z_kK4 ?z_kK5 ?z_xS ?z_gaS ?z_ghS ?z_clS ?z_moS ?z_mbS ?z_isS ?z_mS ?z_kS1 ?z_kS2 ?z_kS3 ?z_kS4 ?z_kS5 ?ht ?hk
    (case z_GONE => k_is)
    (case z_END => k_is)
    (case z_FallError => k_is)
    (case z_NoAction => k_is)
    (case z_NoDeed => k_is)
    (case z_NoNote => k_is)
    (case z_NoKey => k_is)
    (case z_NoStretch => k_is)
    (case a1 => k_is)
    (case l1 => k_is)
    (case c1 => k_is)
    (case k1 => k_is)
    (case a2 => k_is)
    (case l2 => k_is)
    (case c2 => k_is)
    (case k2 => k_is)
    (case a3 => k_is)
    (case l3 => k_is)
    (case c3 => k_is)
    (case k3 => k_is)
    (case a4 => k_is)
    (case l4 => k_is)
    (case c4 => k_is)
    (case k4 => k_is)
    (case a5 => k_is)
    (case l5 => k_is)
    (case c5 => k_is)
    (case k5 => k_is)
    (case a6 => k_is)
    (case l6 => k_is)
    (case c6 => k_is)
    (case k6 => k_is)
    (case a7 => k_is)
    (case l7 => k_is)
    (case c7 => k_is)
    (case k7 => k_is)
    (case a8 => k_is)
    (case l8 => k_is)
    (case c8 => k_is)
    (case k8 => k_is)
    (case a9 => k_is)
    (case l9 => k_is)
    (case c9 => k_is)
    (case k9 => k_is)
    (case a10 => k_is)
    (case l10 => k_is)
    (case c10 => k_is)
    (case k10 => k_is)
    (case a11 => k_is)
    (case l11 => k_is)
    (case c11 => k_is)
    (case k11 => k_is)
    (case a12 => k_is)
    (case l12 => k_is)
    (case c12 => k_is)
    (case k12 => k_is)
    (case a13 => k_is)
    (case l13 => k_is)
    (case c13 => k_is)
    (case k13 => k_is)
    (case a14 => k_is)
    (case l14 => k_is)
    (case c14 => k_is)
    (case k14 => k_is)
    (case a15 => k_is)
    (case l15 => k_is)
    (case c15 => k_is)
    (case k15 => k_is)
    (case a16 => k_is)
    (case l16 => k_is)
    (case c16 => k_is)
    (case k16 => k_is)
    (case a17 => k_is)
    (case l17 => k_is)
    (case c17 => k_is)
    (case k17 => k_is)
    (case a18 => k_is)
    (case l18 => k_is)
    (case c18 => k_is)
    (case k18 => k_is)
    (case a19 => k_is)
    (case l19 => k_is)
    (case c19 => k_is)
    (case k19 => k_is)
    (case a20 => k_is)
    (case l20 => k_is)
    (case c20 => k_is)
    (case k20 => k_is)
    (case a21 => k_is)
    (case l21 => k_is)
    (case c21 => k_is)
    (case k21 => k_is)
    (case a22 => k_is)
    (case l22 => k_is)
    (case c22 => k_is)
    (case k22 => k_is)
    (case a23 => k_is)
    (case l23 => k_is)
    (case c23 => k_is)
    (case k23 => k_is)
    (case a24 => k_is)
    (case l24 => k_is)
    (case c24 => k_is)
    (case k24 => k_is)
    (case a25 => k_is)
    (case l25 => k_is)
    (case c25 => k_is)
    (case k25 => k_is)
    (case a26 => k_is)
    (case l26 => k_is)
    (case c26 => k_is)
    (case k26 => k_is)
    (case a27 => k_is)
    (case l27 => k_is)
    (case c27 => k_is)
    (case k27 => k_is)
    (case a28 => k_is)
    (case l28 => k_is)
    (case c28 => k_is)
    (case k28 => k_is)
    (case a29 => k_is)
    (case l29 => k_is)
    (case c29 => k_is)
    (case k29 => k_is)
    (case a30 => k_is)
    (case l30 => k_is)
    (case c30 => k_is)
    (case k30 => k_is)
    (case a31 => k_is)
    (case l31 => k_is)
    (case c31 => k_is)
    (case k31 => k_is)
    (case a32 => k_is)
    (case l32 => k_is)
    (case c32 => k_is)
    (case k32 => k_is)
    (case a33 => k_is)
    (case l33 => k_is)
    (case c33 => k_is)
    (case k33 => k_is)
    (case a34 => k_is)
    (case l34 => k_is)
    (case c34 => k_is)
    (case k34 => k_is)
    (case a35 => k_is)
    (case l35 => k_is)
    (case c35 => k_is)
    (case k35 => k_is)
    (case a36 => k_is)
    (case l36 => k_is)
    (case c36 => k_is)
    (case k36 => k_is)
    (case z_len => k_is)
    (case z_isinstance => k_is)
    (case z_int => k_is)
    (case z_bool => k_is)
    (case z_tuple => k_is)
    (case z_str => k_is)
    (case z_list => k_is)
    (case z_min => k_is)
    (case z_max => k_is)
    (case z_kG => k_is)
    (case z_gt => k_is)
    (case z_tk => k_is)
    (case z_xN => k_exc)
    (case z_gaN => k_is)
    (case z_ghN => k_is)
    (case z_clN => k_is)
    (case z_moN => k_is)
    (case z_mbN => k_is)
    (case z_isN => k_is)
    (case z_mN => kts_exm)
    (case z_kN1 => kit_is)
    (case z_kN2 => kit_is)
    (case z_kN3 => kit_is)
    (case z_kN4 => kit_is)
    (case z_kN5 => kit_is)
    (case z_xK => k_exc)
    (case z_gaK => k_is)
    (case z_ghK => k_is)
    (case z_clK => k_is)
    (case z_moK => k_is)
    (case z_mbK => k_is)
    (case z_isK => k_is)
    (case z_mK => kts_exm)
    (case z_kK1 => kit_is)
    (case z_kK2 => kit_is)
    (case z_kK3 => kit_is)
    (case z_kK4 => kit_is)
    (case z_kK5 => kit_is)
    (case z_xS => k_exc)
    (case z_gaS => k_is)
    (case z_ghS => k_is)
    (case z_clS => k_is)
    (case z_moS => k_is)
    (case z_mbS => k_is)
    (case z_isS => k_is)
    (case z_mS => kts_exm)
    (case z_kS1 => kit_is)
    (case z_kS2 => kit_is)
    (case z_kS3 => kit_is)
    (case z_kS4 => kit_is)
    (case z_kS5 => kit_is)
    (case ht => kernel_rfl)
    (case hk => kernel_rfl)
