import PyProof.Rows.All
import Wide.All
import OpenK.AllK
import Wide.FinOn
import Lean
import PyProof.EqAt
import PyProof.EqKinds
import PyProof.TupleCall
import PySem.Challenge.RW_emptyhall_k11_texts_read
set_option Elab.async false
set_option linter.all false
set_option maxRecDepth 100000
set_option maxHeartbeats 4000000
set_option bootstrap.genMatcherCode false
noncomputable section
namespace L2
open PySem PySem.Spec PyProof.Rows
abbrev Key := Sum Int Str
noncomputable def keyIs : Key → Value → Bool
  | .inl k, v => Value.isInt k v
  | .inr x, v => Value.isStrOf x v
noncomputable def keyH (w : World) : Key → Int
  | .inl k => hashInt k
  | .inr x => hashStr w x
theorem keyIs_shape : ∀ {k : Key} {v : Value}, keyIs k v = true → (∃ i t, k = Sum.inl i ∧ v = Value.int i t) ∨ (∃ x t, k = Sum.inr x ∧ v = Value.str x t)
  | .inl i, v, h => by
    obtain ⟨t, e⟩ := Value.isInt_shape (k := i) (v := v) h
    exact .inl ⟨i, t, rfl, e⟩
  | .inr x, v, h => by
    obtain ⟨t, e⟩ := Value.isStrOf_shape (x := x) (v := v) h
    exact .inr ⟨x, t, rfl, e⟩
theorem key_ll (a b : Int) : decide ((Sum.inl a : Key) = Sum.inl b) = (a == b) := by
  by_cases e : a = b
  · subst e; simp
  · have h : ¬ (Sum.inl a : Key) = Sum.inl b := fun q => e (Sum.inl.inj q)
    rw [decide_eq_false h]
    exact (beq_eq_false_iff_ne.mpr e).symm
theorem key_rr (a b : Str) : decide ((Sum.inr a : Key) = Sum.inr b) = decide (a = b) := by
  by_cases e : a = b
  · subst e; simp
  · have h : ¬ (Sum.inr a : Key) = Sum.inr b := fun q => e (Sum.inr.inj q)
    rw [decide_eq_false h, decide_eq_false e]
theorem key_lr (a : Int) (b : Str) : decide ((Sum.inl a : Key) = Sum.inr b) = false := decide_eq_false (fun q => nomatch q)
theorem key_rl (a : Str) (b : Int) : decide ((Sum.inr a : Key) = Sum.inl b) = false := decide_eq_false (fun q => nomatch q)
noncomputable def mixKind (prog : Program) (w : World) : PySem.KeyKind prog w Key where
  is := keyIs
  hash := keyH w
  inj := fun v a b ha hb => by
    rcases keyIs_shape ha with ⟨i, t, rfl, rfl⟩ | ⟨x, t, rfl, rfl⟩
    · rcases keyIs_shape hb with ⟨j, u, rfl, e⟩ | ⟨y, u, rfl, e⟩
      · injection e with e1 _; rw [e1]
      · exact nomatch e
    · rcases keyIs_shape hb with ⟨j, u, rfl, e⟩ | ⟨y, u, rfl, e⟩
      · exact nomatch e
      · injection e with e1 _; rw [e1]
  byValue := fun k v h => by
    rcases keyIs_shape h with ⟨i, t, rfl, rfl⟩ | ⟨x, t, rfl, rfl⟩ <;> rfl
  pyHash := fun hv h => by
    rcases keyIs_shape hv with ⟨i, t, rfl, rfl⟩ | ⟨x, t, rfl, rfl⟩
    · exact wpAny_pyHash_int h
    · exact wpAny_pyHash_str h
  eqBool := fun hu hv h => by
    rcases keyIs_shape hu with ⟨i, t, rfl, rfl⟩ | ⟨x, t, rfl, rfl⟩
    · rcases keyIs_shape hv with ⟨j, u, rfl, rfl⟩ | ⟨y, u, rfl, rfl⟩
      · rw [key_ll] at h; exact wpAny_eqBool_int h
      · rw [key_lr] at h; exact SeqAt.EqAt.int_str i t y u _ _ _ _ h
    · rcases keyIs_shape hv with ⟨j, u, rfl, rfl⟩ | ⟨y, u, rfl, rfl⟩
      · rw [key_rl] at h; exact SeqAt.EqAt.str_int x t j u _ _ _ _ h
      · rw [key_rr] at h; exact wpAny_eqBool_str h
  «strs» := fun k x t v h => by
    rcases keyIs_shape h with ⟨i, u, rfl, e⟩ | ⟨y, u, rfl, e⟩
    · exact nomatch e
    · injection e with e1 _
      subst e1
      cases v <;> rfl
end L2
namespace L2
open PySem PySem.Spec PyProof.Rows
inductive V where
  | non | bl (b : Bool) | int (i : Int) | str (x : Str) | byt (b : Array UInt8) | flt (b : UInt64) | ref (a : Addr) | ty (n : String)
  deriving DecidableEq
noncomputable def RelV : V → Value → Prop
  | .non, u => u = Value.none
  | .bl b, u => u = Value.bool b
  | .int i, u => ∃ t, u = Value.int i t
  | .str x, u => ∃ t, u = Value.str x t
  | .byt b, u => ∃ t, u = Value.bytes b t
  | .flt b, u => ∃ t, u = Value.float b t
  | .ref a, u => u = Value.ref a
  | .ty n, u => u = Value.type n
abbrev Vals : List V → List Value → Prop := Paired RelV
theorem Vals.length {xs : List V} {us : List Value} (r : Vals xs us) : xs.length = us.length := Paired.length r
theorem Vals.get : ∀ {xs : List V} {us : List Value} {i : Nat} {x : V}, Vals xs us → xs[i]? = some x → ∃ u, us[i]? = some u ∧ RelV x u
  | _, _, _, _, .nil, e => by simp at e
  | _, _, 0, _, .cons r _, e => by simp at e; subst e; exact ⟨_, rfl, r⟩
  | _, _, i + 1, x, .cons _ t, e => by
    obtain ⟨u, h1, h2⟩ := Vals.get (i := i) (x := x) t (by simpa using e)
    exact ⟨u, by simpa using h1, h2⟩
theorem Vals.set {x : V} {u : Value} (r : RelV x u) : ∀ {xs : List V} {us : List Value} (i : Nat), Vals xs us → Vals (xs.set i x) (us.set i u)
  | _, _, _, .nil => .nil
  | _, _, 0, .cons _ t => .cons r t
  | _, _, i + 1, .cons q t => .cons q (Vals.set r i t)
theorem Vals.append : ∀ {xs ys : List V} {us ws : List Value}, Vals xs us → Vals ys ws → Vals (xs ++ ys) (us ++ ws)
  | _, _, _, _, .nil, s => s
  | _, _, _, _, .cons r t, s => .cons r (Vals.append t s)
theorem Vals.take : ∀ {xs : List V} {us : List Value} (n : Nat), Vals xs us → Vals (xs.take n) (us.take n)
  | _, _, 0, _ => .nil
  | _, _, _ + 1, .nil => .nil
  | _, _, n + 1, .cons r t => .cons r (Vals.take n t)
theorem Vals.drop : ∀ {xs : List V} {us : List Value} (n : Nat), Vals xs us → Vals (xs.drop n) (us.drop n)
  | _, _, 0, r => r
  | _, _, _ + 1, .nil => .nil
  | _, _, n + 1, .cons _ t => Vals.drop n t
noncomputable def RelO : Option V → Option Value → Prop
  | some v, some u => RelV v u
  | none, none => True
  | _, _ => False
noncomputable def KV {κ : Type} : List (κ × V) → List (κ × Value) → Prop := Paired fun (p : κ × V) (q : κ × Value) => p.1 = q.1 ∧ RelV p.2 q.2
noncomputable def kV : Key → V
  | .inl i => .int i
  | .inr x => .str x
inductive HO where
  | lst (xs : List V)
  | tup (xs : List V)
  | dK (kvs : List (Key × V)) | dT (kvs : List (List Key × V))
  | set (S : Int → Bool) (n : Nat)
  | ins (C dx : Addr) (fs : List (Str × V))
  | own (x : Addr)
  | xd (fs : List (Str × V))
  | met (f x : Addr)
  | rng (lo hi : Int)
  | frz (o : Obj) (u : HO)
  | tbl (ps : Array Value)
  | ext (φ : Heap → Prop)
abbrev Hp := Addr → Option HO
noncomputable def upd (H : Hp) (a : Addr) (o : HO) : Hp := fun b => if b = a then some o else H b
theorem upd_same {H : Hp} {a : Addr} {o : HO} : upd H a o a = some o := by unfold upd; rw [if_pos rfl]
theorem upd_ne {H : Hp} {a b : Addr} {o : HO} (h : b ≠ a) : upd H a o b = H b := by unfold upd; rw [if_neg h]
theorem upd_upd {H : Hp} {a : Addr} {o u : HO} : upd (upd H a o) a u = upd H a u := by
  funext b; unfold upd; split <;> rfl
theorem ne_of {H : Hp} {a b : Addr} {o u : HO} (h : H a = some o) (h' : H b = some u) (d : o ≠ u) : a ≠ b := by
  intro e; subst e; rw [h] at h'; exact d (Option.some.inj h')
theorem ne_of_none {H : Hp} {a b : Addr} {o : HO} (h : H a = some o) (h' : H b = none) : a ≠ b := by
  intro e; subst e; rw [h] at h'; cases h'
section
variable (P : Program) (w : World)
noncomputable def ObjOk (H : Hp) (h : Heap) (a : Addr) : HO → Prop
  | .lst xs => xs.length ≤ sizeLine ∧ ∃ (its : List Value) (n : Nat), Vals xs its ∧ h.get? a = some { cls := .type "list", data := .seq its.toArray n }
  | .tup xs => xs.length ≤ sizeLine ∧ ∃ its : List Value, Vals xs its ∧ IsTup h a its.toArray
  | .dK kvs => kvs.length ≤ sizeLine ∧ (a == sysModules) = false ∧ ∃ vs, KV kvs vs ∧ h.DictOf (mixKind P w) a vs
  | .dT kvs => kvs.length ≤ sizeLine ∧ (a == sysModules) = false ∧ ∃ xs : List (List Key × Addr × Value),
      Paired (fun (p : List Key × V) (q : List Key × Addr × Value) => p.1 = q.1 ∧ H q.2.1 = some (.tup (p.1.map kV)) ∧ RelV p.2 q.2.2) kvs xs ∧
      ∃ o es ep, h.get? a = some o ∧ o.ExactDict ∧ o.data = .dict es ep ∧ es.toList = xs.map (entryOfKey (tupleKind (mixKind P w))) ∧ (xs.map (·.1)).Nodup
  | .set S n => h.SetOf (intKind P w) a S n
  | .ins C dx fs => H dx = some (.own a) ∧ fs.length ≤ 1000 ∧ dx ≠ a ∧ h.get? a = some (PySem.W.instObj C dx) ∧
      ∃ mA, h.Ns1 dx mA ∧ (∀ f, RelO (fs.lookup f) (mA f)) ∧ PySem.Within mA (fs.map (·.1))
  | .own _ => ∃ o, h.get? a = some o
  | .xd fs => ∃ mA, h.Ns1 a mA ∧ ∀ f, RelO (fs.lookup f) (mA f)
  | .rng lo hi => ∃ t u v, h.get? a = some { cls := .type "range", data := .fields #[.int lo t, .int hi u, .int 1 v] }
  | .frz o u => h.get? a = some o ∧ ObjOk H h a u
  | .tbl ps => h.get? a = some { cls := .none, data := .fields ps }
  | .met f x => h.get? a = some (PySem.W.methodObj (.ref f) (.ref x))
  | .ext φ => φ h ∧ (∃ o, h.get? a = some o) ∧ ∀ h1 h2 : Heap, φ h1 → (∀ o, h1.get? a = some o → h2.get? a = some o) → φ h2
noncomputable def HOk (H : Hp) (h : Heap) : Prop := ∀ a o, H a = some o → ObjOk P w H h a o
end
section
variable {P : Program} {w : World} {H H' : Hp} {h h' : Heap} {a : Addr} {o : HO}
theorem ObjOk.lt (x : ObjOk P w H h a o) : a < h.objs.size := by
  cases o with
  | lst xs => obtain ⟨_, _, _, _, e⟩ := x; exact Heap.lt_size e
  | tup xs => obtain ⟨_, _, _, p⟩ := x; exact p.lt
  | dK kvs => obtain ⟨_, _, _, _, o, _, _, e, _⟩ := x; exact Heap.lt_size e
  | dT kvs => obtain ⟨_, _, _, _, o, _, _, e, _⟩ := x; exact Heap.lt_size e
  | set S n => obtain ⟨o, _, _, _, e, _⟩ := x; exact Heap.lt_size e
  | ins C dx fs => obtain ⟨_, _, _, e, _⟩ := x; exact Heap.lt_size e
  | own y => obtain ⟨_, e⟩ := x; exact Heap.lt_size e
  | xd fs => obtain ⟨_, ⟨_, _, _, e, _⟩, _⟩ := x; exact Heap.lt_size e
  | rng lo hi => obtain ⟨_, _, _, e⟩ := x; exact Heap.lt_size e
  | frz ob u => obtain ⟨e, _⟩ := x; exact Heap.lt_size e
  | tbl ps => exact Heap.lt_size (show h.get? a = some _ from x)
  | met f y => exact Heap.lt_size (show h.get? a = some _ from x)
  | ext φ => obtain ⟨_, ⟨_, e⟩, _⟩ := x; exact Heap.lt_size e
theorem Paired.mapP {α β : Type} {F G : α → β → Prop} : ∀ {l₁ : List α} {l₂ : List β}, Paired F l₁ l₂ → (∀ a b, F a b → G a b) → Paired G l₁ l₂
  | _, _, .nil, _ => .nil
  | _, _, .cons r t, f => .cons (f _ _ r) (Paired.mapP t f)
theorem ObjOk.stay (x : ObjOk P w H h a o) (k : ∀ b u, (b = a ∨ H b = some (.own a)) → h.get? b = some u → h'.get? b = some u)
    (ho : ∀ b, H b = some (.own a) → H' b = some (.own a)) (ht : ∀ b xs, H b = some (.tup xs) → H' b = some (.tup xs)) : ObjOk P w H' h' a o := by
  induction o with
  | lst xs => obtain ⟨z, its, n, r, e⟩ := x; exact ⟨z, its, n, r, k _ _ (.inl rfl) e⟩
  | tup xs => obtain ⟨z, its, r, ob, e, c⟩ := x; exact ⟨z, its, r, ob, k _ _ (.inl rfl) e, c⟩
  | dK kvs => obtain ⟨z, y, vs, r, ob, es, ep, e, c⟩ := x; exact ⟨z, y, vs, r, ob, es, ep, k _ _ (.inl rfl) e, c⟩
  | dT kvs =>
    obtain ⟨z, y, xs, r, ob, es, ep, e, c⟩ := x
    exact ⟨z, y, xs, Paired.mapP r fun p q z => ⟨z.1, ht _ _ z.2.1, z.2.2⟩, ob, es, ep, k _ _ (.inl rfl) e, c⟩
  | set S n => obtain ⟨ob, es, ep, t, e, c⟩ := x; exact ⟨ob, es, ep, t, k _ _ (.inl rfl) e, c⟩
  | ins C dx fs =>
    obtain ⟨d, z, ne, e, mA, ⟨od, es, ep, e2, c⟩, r⟩ := x
    exact ⟨ho _ d, z, ne, k _ _ (.inl rfl) e, mA, ⟨od, es, ep, k _ _ (.inr d) e2, c⟩, r⟩
  | own y => obtain ⟨ob, e⟩ := x; exact ⟨ob, k _ _ (.inl rfl) e⟩
  | xd fs => obtain ⟨mA, ⟨od, es, ep, e, c⟩, r⟩ := x; exact ⟨mA, ⟨od, es, ep, k _ _ (.inl rfl) e, c⟩, r⟩
  | rng lo hi => obtain ⟨t, u, v, e⟩ := x; exact ⟨t, u, v, k _ _ (.inl rfl) e⟩
  | frz ob u ih => obtain ⟨e, q⟩ := x; exact ⟨k _ _ (.inl rfl) e, ih q⟩
  | tbl ps =>
    have e : h.get? a = some { cls := .none, data := .fields ps } := x
    show h'.get? a = some { cls := .none, data := .fields ps }
    exact k a _ (.inl rfl) e
  | met f y =>
    have e : h.get? a = some (PySem.W.methodObj (.ref f) (.ref y)) := x
    show h'.get? a = some (PySem.W.methodObj (.ref f) (.ref y))
    exact k a _ (.inl rfl) e
  | ext φ => obtain ⟨p, ⟨o, e⟩, st⟩ := x; exact ⟨st _ _ p fun o q => k _ _ (.inl rfl) q, ⟨o, k _ _ (.inl rfl) e⟩, st⟩
theorem HOk.lt (x : HOk P w H h) (e : H a = some o) : a < h.objs.size := (x a o e).lt
theorem HOk.fresh (x : HOk P w H h) (e : h.objs.size ≤ a) : H a = none := by
  cases q : H a with
  | none => rfl
  | some u => exact absurd (Nat.lt_of_lt_of_le (x.lt q) e) (Nat.lt_irrefl _)
theorem HOk.kept (x : HOk P w H h) (k : ∀ b u, h.get? b = some u → h'.get? b = some u) : HOk P w H h' := fun a o e =>
  (x a o e).stay (fun b u _ q => k b u q) (fun _ q => q) fun _ _ q => q
theorem HOk.laid (x : HOk P w H h) (k : ∀ b u, h.get? b = some u → h'.get? b = some u) (hp : h.objs.size ≤ a) (new : ObjOk P w (upd H a o) h' a o) : HOk P w (upd H a o) h' := fun b u e => by
  have hn := x.fresh hp
  by_cases hb : b = a
  · subst hb; rw [upd_same] at e; cases e; exact new
  · rw [upd_ne hb] at e
    exact (x b u e).stay (fun c v _ q => k c v q) (fun c q => by rw [upd_ne (ne_of_none q hn)]; exact q) fun c xs q => by rw [upd_ne (ne_of_none q hn)]; exact q
end
noncomputable def Rd (H : Hp) (a : Addr) (u : HO) : Prop := H a = some u ∨ ∃ o, H a = some (.frz o u)
theorem Rd.ok {P : Program} {w : World} {H : Hp} {h : Heap} {a : Addr} {u : HO} (r : Rd H a u) (x : HOk P w H h) : ObjOk P w H h a u := by
  rcases r with r | ⟨o, r⟩
  · exact x a u r
  · obtain ⟨_, q⟩ := x a _ r
    exact q
noncomputable def Mut : Option HO → Prop
  | some (.lst _) => True
  | some (.dK _) => True
  | some (.dT _) => True
  | some (.set _ _) => True
  | some (.ins _ _ _) => True
  | some (.ext _) => True
  | _ => False
section
variable {P : Program} {w : World} {H : Hp} {h h' : Heap} {x e : Addr} {o' : HO}
theorem HOk.write (ok : HOk P w H h) (mu : Mut (H x)) (he : e = x ∨ H e = some (.own x)) (k : ∀ b u, b ≠ e → h.get? b = some u → h'.get? b = some u) (heo : ∃ u, h'.get? e = some u)
    (new : ObjOk P w (upd H x o') h' x o') : HOk P w (upd H x o') h' := fun b u q => by
  have nown : ∀ c y, H c = some (.own y) → c ≠ x := fun c y r z => by subst z; rw [r] at mu; exact mu
  have ntup : ∀ c xs, H c = some (.tup xs) → c ≠ x := fun c xs r z => by subst z; rw [r] at mu; exact mu
  by_cases hb : b = x
  · subst hb; rw [upd_same] at q; cases q; exact new
  · rw [upd_ne hb] at q
    by_cases hbe : b = e
    · have q' : H b = some (.own x) := by
        rcases he with z | z
        · exact absurd (hbe.trans z) hb
        · rw [hbe]; exact z
      rw [q] at q'; cases q'
      obtain ⟨v, hv⟩ := heo
      exact ⟨v, by rw [hbe]; exact hv⟩
    · refine (ok b u q).stay (fun c v hc r => k c v ?_ r) (fun c r => by rw [upd_ne (nown c b r)]; exact r) fun c xs r => by rw [upd_ne (ntup c xs r)]; exact r
      rcases hc with rfl | hc
      · exact hbe
      · rintro rfl
        rcases he with z | z
        · exact nown c b hc z
        · rw [hc] at z; cases z; exact hb rfl
end
structure Un (fs ex : List Addr) (H H' : Hp) (h h' : Heap) : Prop where
  keep : ∀ b o, h.get? b = some o → H b = none → b ∉ fs → b ∉ ex → h'.get? b = some o
  slot : ∀ b o, h.get? b = some o → H b = none → b ∈ fs → b ∉ ex → ∃ sl, h'.get? b = some { o with slots := sl }
  free : ∀ b o, h.get? b = some o → H b = none → b ∉ ex → H' b = none
  there : ∀ b o, h.get? b = some o → b ∉ ex → ∃ o', h'.get? b = some o'
  tups : ∀ b xs, H b = some (.tup xs) → H' b = some (.tup xs)
  frzs : ∀ b o u, H b = some (.frz o u) → H' b = some (.frz o u)
  tbls : ∀ b ps, H b = some (.tbl ps) → ∃ more, H' b = some (.tbl (ps ++ more))
section
variable {fs fs' ex ex' : List Addr} {H H1 H2 : Hp} {h h1 h2 h' : Heap} {a x e : Addr} {o : HO}
theorem Un.any (u : Un fs ex H H1 h h1) {b : Addr} {ob : Obj} (q : h.get? b = some ob) (n : H b = none) (hx : b ∉ ex) : ∃ sl, h1.get? b = some { ob with slots := sl } := by
  by_cases hb : b ∈ fs
  · exact u.slot b ob q n hb hx
  · exact ⟨ob.slots, u.keep b ob q n hb hx⟩
theorem Un.kept (k : ∀ b u, h.get? b = some u → h'.get? b = some u) : Un fs ex H H h h' :=
  ⟨fun b ob q _ _ _ => k b ob q, fun b ob q _ _ _ => ⟨ob.slots, k b ob q⟩, fun _ _ _ n _ => n, fun b ob q _ => ⟨ob, k b ob q⟩, fun _ _ q => q, fun _ _ _ q => q, fun _ ps q => ⟨#[], by rw [q]; simp⟩⟩
theorem Un.refl : Un fs ex H H h h := Un.kept fun _ _ q => q
theorem Un.laid (k : ∀ b u, h.get? b = some u → h'.get? b = some u) (hp : h.objs.size ≤ a) (hn : H a = none) : Un fs ex H (upd H a o) h h' where
  keep := fun b u q _ _ _ => k b u q
  slot := fun b u q _ _ _ => ⟨u.slots, k b u q⟩
  free := fun b u q n _ => by rw [upd_ne (Nat.ne_of_lt (Nat.lt_of_lt_of_le (Heap.lt_size q) hp))]; exact n
  there := fun b u q _ => ⟨u, k b u q⟩
  tups := fun b xs q => by rw [upd_ne (ne_of_none q hn)]; exact q
  frzs := fun b u xs q => by rw [upd_ne (ne_of_none q hn)]; exact q
  tbls := fun b ps q => ⟨#[], by rw [upd_ne (ne_of_none q hn), q]; simp⟩
theorem Un.write (mu : Mut (H x)) (he : e = x ∨ H e = some (.own x)) (k : ∀ b u, b ≠ e → h.get? b = some u → h'.get? b = some u) (heo : ∃ u, h'.get? e = some u) : Un fs ex H (upd H x o) h h' := by
  have hx : ∀ b, H b = none → b ≠ x := fun b n z => by subst z; rw [n] at mu; exact mu
  have hb : ∀ b, H b = none → b ≠ e := fun b n z => by
    subst z
    rcases he with r | r
    · exact hx b n r
    · rw [n] at r; cases r
  have hm : ∀ b u, H b = some u → ¬ Mut (some u) → b ≠ x := fun b u q nm z => by subst z; rw [q] at mu; exact nm mu
  refine ⟨fun b u q n _ _ => k b u (hb b n) q, fun b u q n _ _ => ⟨u.slots, k b u (hb b n) q⟩, fun b u q n _ => by rw [upd_ne (hx b n)]; exact n, fun b u q _ => ?_,
    fun b xs q => by rw [upd_ne (hm b _ q fun z => z)]; exact q, fun b u xs q => by rw [upd_ne (hm b _ q fun z => z)]; exact q, fun b ps q => ⟨#[], by rw [upd_ne (hm b _ q fun z => z), q]; simp⟩⟩
  by_cases hbe : b = e
  · subst hbe; exact heo
  · exact ⟨u, k b u hbe q⟩
end
noncomputable def trk (h : Heap) (H : Hp) : List Addr := (List.range h.objs.size).filter fun a => (H a).isSome
noncomputable def hidT (h : Heap) (H : Hp) : Heap := PySem.W.hideAll h (trk h H)
theorem hidT_size (h : Heap) (H : Hp) : (hidT h H).objs.size = h.objs.size := PySem.W.hideAll_size _ _
theorem hidT_get {h : Heap} {H : Hp} {b : Addr} {o : Obj} (e : h.get? b = some o) (n : H b = none) : (hidT h H).get? b = some o :=
  PySem.W.hideAll_get _ e fun hm => by
    have q : (H b).isSome = true := (List.mem_filter.mp hm).2
    rw [n] at q; simp at q
theorem of_hidT {h : Heap} {H : Hp} {b : Addr} {o : Obj} (e : (hidT h H).get? b = some o) : h.get? b = some o ∧ H b = none := by
  have e' : h.get? b = some o := PySem.W.of_hideAll (trk h H) e
  refine ⟨e', ?_⟩
  cases q : H b with
  | none => rfl
  | some x =>
    have hm : b ∈ trk h H := List.mem_filter.mpr ⟨List.mem_range.mpr (Heap.lt_size e'), by simp [q]⟩
    have z : (hidT h H).get? b = none := PySem.W.hideAll_none (trk h H) hm
    rw [z] at e; cases e
noncomputable def allNews (g h : Heap) (L : Addr) : List (Addr × Obj) := (List.range h.objs.size).filterMap fun a => if a = L ∨ (g.get? a).isSome = true then none else (h.get? a).map fun o => (a, o)
noncomputable def rest (g h : Heap) (L d : Addr) : List (Addr × Obj) := (allNews g h L).filter fun p => decide (p.1 ≠ d)
end L2
namespace L2
open PySem PySem.Spec PyProof.Rows
structure Mod (K : PySem.W.Frag) (mg : Str → Option Value) (base : Heap) : Prop where
  kin : K.In base
  glob : base.Ns mainGlobals mg
  blt : ∃ mb, base.Ns builtinsNs mb ∧ ∀ x : Str, x ≠ "__name__" → mb x = bootBuiltins x
  nolimit : base.NoLimit
structure Cx where
  prog : Program
  w : World
  K : PySem.W.Frag
  mg : Str → Option Value
  base : Heap
  A : Around
  N : List Str
  s₀ : Shared
  H₀ : Hp
  env : Env
  outer : List Env
  stack : List Env
  ex : List Addr
  fn : Str → Bool
  calm : Bool
  pn : List (Addr × Obj)
  xe : Value → Shared → Prop
noncomputable def frs (l : List Env) : List Addr := l.filterMap (·.frame)
abbrev Cx.fs (X : Cx) : List Addr := frs X.outer
noncomputable def Vis (sc : Scope) (x : Str) : Prop := sc.names.lookup x = some .local ∨ sc.names.lookup x = some .cell ∨ sc.names.lookup x = some .free
noncomputable def Loc (sc : Scope) (x : Str) : Prop := sc.names.lookup x = some .local ∨ sc.names.lookup x = some .cell
noncomputable def Look (env : Env) (h : Heap) (m : Str → Option Value) (x : Str) (u : Value) : Prop :=
  (env.kindOf x = some .local ∧ m x = some u) ∨ ((env.kindOf x = some .cell ∨ env.kindOf x = some .free) ∧ ∃ c, env.cells.lookup x = some c ∧ h.IsCell c (some u))
structure Cx.Ok (X : Cx) : Prop where
  mod : Mod X.K X.mg X.base
  kind : X.env.scope.kind = .function
  glob : X.env.globals = mainGlobals
  blt : X.env.builtins = builtinsNs
  above : X.s₀.heap.objs.size ≤ X.env.locals
  inj : ∀ x y c, X.env.cells.lookup x = some c → X.env.cells.lookup y = some c → x = y
  has : ∀ x, (X.env.kindOf x = some .cell ∨ X.env.kindOf x = some .free) → ∃ c, X.env.cells.lookup x = some c
  cab : ∀ x c, X.fn x = true → X.env.cells.lookup x = some c → X.s₀.heap.objs.size ≤ c
  hd : X.calm = true → X.A.handled = none
  frames : X.A.frames = some X.stack
  stk : X.stack = X.outer ∨ (X.stack = X.env :: X.outer ∧ X.env.frame = some X.env.locals)
  exf : ∀ b ∈ X.ex, b ≠ X.env.locals ∧ ∀ x c, X.env.cells.lookup x = some c → c ≠ b
  bs : ∀ b o, X.base.get? b = some o → X.s₀.heap.get? b = some o ∧ X.H₀ b = none
  bsz : X.base.objs.size ≤ X.s₀.heap.objs.size
  noex : ∀ b o, X.base.get? b = some o → b ∉ X.ex
  exfs : ∀ b ∈ X.ex, b ∉ X.fs
  funs : X.s₀.heap.FunFrames X.base X.outer
  frf : ∀ b ∈ X.fs, X.H₀ b = none
structure Inv (X : Cx) (pins : List (Addr × Obj)) (σ : List (Option V)) (H : Hp) (s : Shared) : Prop where
  ok : X.Ok
  os : s.os = X.s₀.os
  bare : AllBare s.gens
  base : Un X.fs X.ex X.H₀ H X.s₀.heap s.heap
  loc : ∃ m, s.heap.Ns X.env.locals m ∧ ∀ (i : Nat) (x : Str) (v : V), X.N[i]? = some x → σ[i]? = some (some v) → Vis X.env.scope x → ∃ u, RelV v u ∧ Look X.env s.heap m x u
  cell : ∀ x c, X.env.cells.lookup x = some c → ∃ v, s.heap.IsCell c v
  free : H X.env.locals = none
  freeC : ∀ x c, X.env.cells.lookup x = some c → H c = none
  pin : ∀ p ∈ X.pn ++ pins, s.heap.get? p.1 = some p.2 ∧ H p.1 = none ∧ p.1 ≠ X.env.locals ∧ p.1 ∉ X.fs ∧ ∀ v, p.2.data ≠ .cell v
  hok : HOk X.prog X.w H s.heap
  len : σ.length = X.N.length
section
variable {X : Cx} {pins : List (Addr × Obj)} {σ : List (Option V)} {H H' : Hp} {s : Shared} {h' : Heap}
theorem Cx.Ok.nofr (ok : X.Ok) {b : Addr} {o : Obj} (e : X.base.get? b = some o) : b ∉ X.fs := fun hb => by
  have := (ok.funs.mem hb).1
  rw [e] at this; cases this
theorem Inv.bs (I : Inv X pins σ H s) : ∀ b o, X.base.get? b = some o → s.heap.get? b = some o ∧ H b = none := fun b o e =>
  ⟨I.base.keep b o (I.ok.bs b o e).1 (I.ok.bs b o e).2 (I.ok.nofr e) (I.ok.noex b o e), I.base.free b o (I.ok.bs b o e).1 (I.ok.bs b o e).2 (I.ok.noex b o e)⟩
theorem Inv.bk (I : Inv X pins σ H s) : ∀ b o, X.base.get? b = some o → s.heap.get? b = some o := fun b o e => (I.bs b o e).1
theorem Inv.mod (I : Inv X pins σ H s) : Mod X.K X.mg X.base := I.ok.mod
theorem Inv.kIn (I : Inv X pins σ H s) : X.K.In s.heap := I.ok.mod.kin.keeps I.bk
theorem Inv.lt (I : Inv X pins σ H s) : X.env.locals < s.heap.objs.size := let ⟨_, hn, _⟩ := I.loc; hn.lt
theorem Inv.sz (I : Inv X pins σ H s) : X.s₀.heap.objs.size ≤ s.heap.objs.size := Nat.le_trans I.ok.above (Nat.le_of_lt I.lt)
theorem Inv.nofs (I : Inv X pins σ H s) {a : Addr} (h : s.heap.objs.size ≤ a) : a ∉ X.fs := fun hb => by
  obtain ⟨_, o, ho, _⟩ := I.ok.funs.mem hb
  exact absurd (Nat.lt_of_lt_of_le (Heap.lt_size ho) (Nat.le_trans I.sz h)) (Nat.lt_irrefl _)
theorem Inv.cne (I : Inv X pins σ H s) : ∀ x c, X.env.cells.lookup x = some c → c ≠ X.env.locals := fun x c e z => by
  obtain ⟨v, o, ho, hd⟩ := I.cell x c e
  obtain ⟨m, ⟨o', es, ep, ho', hd', _⟩, _⟩ := I.loc
  rw [z, ho'] at ho; cases ho; rw [hd'] at hd; cases hd
theorem Inv.funs (I : Inv X pins σ H s) : s.heap.FunFrames X.base X.outer := by
  have all : ∀ (l : List Env), (∀ b ∈ frs l, b ∈ X.fs) → X.s₀.heap.FunFrames X.base l → s.heap.FunFrames X.base l := by
    intro l
    induction l with
    | nil => intro _ _; trivial
    | cons env r ih =>
      intro hs hl
      obtain ⟨hk, ⟨L, o, hf, hn, ho, hd⟩, hr⟩ := hl
      have hL : L ∈ X.fs := hs L (by unfold frs; rw [List.filterMap_cons, hf]; exact List.mem_cons_self)
      obtain ⟨sl, e⟩ := I.base.slot L o ho (I.ok.frf L hL) hL fun z => I.ok.exfs L z hL
      exact ⟨hk, ⟨L, _, hf, hn, e, hd⟩, ih (fun b hb => hs b (by unfold frs; rw [List.filterMap_cons, hf]; exact List.mem_cons_of_mem _ hb)) hr⟩
  exact all X.outer (fun _ hb => hb) I.ok.funs
theorem Inv.stack (I : Inv X pins σ H s) : s.heap.FunFrames X.base X.stack := by
  rcases I.ok.stk with e | ⟨e, hf⟩
  · rw [e]; exact I.funs
  · rw [e]
    obtain ⟨m, hn, _⟩ := I.loc
    refine .cons (by rw [I.ok.kind]; decide) hf hn ?_ I.funs
    exact Heap.get?_none_of_le (Nat.le_trans I.ok.bsz I.ok.above)
theorem Inv.stkSub (I : Inv X pins σ H s) : ∀ b ∈ frs X.stack, b ∈ X.env.locals :: X.fs := fun b hb => by
  rcases I.ok.stk with e | ⟨e, hf⟩
  · rw [e] at hb; exact List.mem_cons_of_mem _ hb
  · rw [e] at hb
    unfold frs at hb
    rw [List.filterMap_cons, hf] at hb
    exact hb
theorem Inv.stkFree (I : Inv X pins σ H s) : ∀ b ∈ frs X.stack, H b = none := fun b hb => by
  rcases List.mem_cons.mp (I.stkSub b hb) with e | hb
  · rw [e]; exact I.free
  · obtain ⟨_, o, ho, _⟩ := I.ok.funs.mem hb
    exact I.base.free b o ho (I.ok.frf b hb) fun z => I.ok.exfs b z hb
theorem Inv.step {g' : Array GenState} {t' : Nat} {d' : Drawn} {ch : List Addr} (I : Inv X pins σ H s)
    (hch : ∀ b ∈ ch, (b ∈ X.ex ∨ X.s₀.heap.objs.size ≤ b) ∧ b ≠ X.env.locals ∧ (∀ x c, X.env.cells.lookup x = some c → c ≠ b) ∧ ∀ p ∈ X.pn ++ pins, p.1 ≠ b)
    (keep : ∀ b o, b ≠ X.env.locals → b ∉ X.fs → b ∉ ch → s.heap.get? b = some o → H b = none → h'.get? b = some o)
    (slot : ∀ b o, b ≠ X.env.locals → b ∈ X.fs → b ∉ ch → s.heap.get? b = some o → H b = none → ∃ sl, h'.get? b = some { o with slots := sl }) (free : ∀ b o, b ∉ ch → s.heap.get? b = some o → H b = none → H' b = none)
    (there : ∀ b o, b ∉ ch → s.heap.get? b = some o → ∃ o', h'.get? b = some o')
    (tups : ∀ b xs, H b = some (.tup xs) → H' b = some (.tup xs)) (frzs : ∀ b o u, H b = some (.frz o u) → H' b = some (.frz o u)) (tbls : ∀ b ps, H b = some (.tbl ps) → ∃ more, H' b = some (.tbl (ps ++ more)))
    (ns : ∀ m, s.heap.Ns X.env.locals m → h'.Ns X.env.locals m) (hok : HOk X.prog X.w H' h') (hg : AllBare g') :
    Inv X pins σ H' { s with heap := h', gens := g', drawn := d', toks := t' } := by
  have neL : ∀ b o, X.s₀.heap.get? b = some o → b ≠ X.env.locals := fun b o e => Nat.ne_of_lt (Nat.lt_of_lt_of_le (Heap.lt_size e) I.ok.above)
  have neC : ∀ b o, X.s₀.heap.get? b = some o → b ∉ X.ex → b ∉ ch := fun b o e hx hb => by
    rcases (hch b hb).1 with z | z
    · exact hx z
    · exact absurd (Nat.lt_of_lt_of_le (Heap.lt_size e) z) (Nat.lt_irrefl _)
  have cellK : ∀ x c, X.env.cells.lookup x = some c → ∀ v, s.heap.IsCell c v → h'.IsCell c v := fun x c e v ⟨o, ho, hd⟩ => by
    have nch : c ∉ ch := fun z => (hch c z).2.2.1 x c e rfl
    by_cases hc : c ∈ X.fs
    · obtain ⟨sl, q⟩ := slot c o (I.cne x c e) hc nch ho (I.freeC x c e)
      exact ⟨_, q, hd⟩
    · exact ⟨o, keep c o (I.cne x c e) hc nch ho (I.freeC x c e), hd⟩
  refine ⟨I.ok, I.os, hg, ⟨fun b o e n hb hx => ?_, fun b o e n hb hx => ?_, fun b o e n hx => ?_, fun b o e hx => ?_, fun b xs e => tups b xs (I.base.tups b xs e), fun b o xs e => frzs b o xs (I.base.frzs b o xs e), fun b ps e => ?_⟩, ?_, fun x c e => ?_, ?_, fun x c e => ?_, fun p hp => ?_, hok, I.len⟩
  · exact keep b o (neL b o e) hb (neC b o e hx) (I.base.keep b o e n hb hx) (I.base.free b o e n hx)
  · obtain ⟨sl, e1⟩ := I.base.slot b o e n hb hx
    obtain ⟨sl', e2⟩ := slot b _ (neL b o e) hb (neC b o e hx) e1 (I.base.free b o e n hx)
    exact ⟨sl', e2⟩
  · obtain ⟨o', e1⟩ := I.base.there b o e hx
    exact free b o' (neC b o e hx) e1 (I.base.free b o e n hx)
  · obtain ⟨o', e1⟩ := I.base.there b o e hx
    exact there b o' (neC b o e hx) e1
  · obtain ⟨m1, e1⟩ := I.base.tbls b ps e
    obtain ⟨m2, e2⟩ := tbls b _ e1
    exact ⟨m1 ++ m2, by rw [e2, Array.append_assoc]⟩
  · obtain ⟨m, hn, hl⟩ := I.loc
    refine ⟨m, ns m hn, fun i x v e1 e2 e3 => ?_⟩
    obtain ⟨u, r, l⟩ := hl i x v e1 e2 e3
    refine ⟨u, r, ?_⟩
    rcases l with l | ⟨k, c, e, z⟩
    · exact .inl l
    · exact .inr ⟨k, c, e, cellK x c e _ z⟩
  · obtain ⟨v, z⟩ := I.cell x c e
    exact ⟨v, cellK x c e v z⟩
  · obtain ⟨m, ⟨o, _, _, ho, _⟩, _⟩ := I.loc
    exact free _ o (fun z => (hch _ z).2.1 rfl) ho I.free
  · obtain ⟨v, o, ho, hd⟩ := I.cell x c e
    exact free c o (fun z => (hch c z).2.2.1 x c e rfl) ho (I.freeC x c e)
  · obtain ⟨e, n, ne, nf, d⟩ := I.pin p hp
    have nch : p.1 ∉ ch := fun z => (hch p.1 z).2.2.2 p hp rfl
    exact ⟨keep p.1 p.2 ne nf nch e n, free p.1 p.2 nch e n, ne, nf, d⟩
theorem Inv.un {t' : Nat} (I : Inv X pins σ H s) (u : Un X.fs [] H H' s.heap h') (hok : HOk X.prog X.w H' h') : Inv X pins σ H' { s with heap := h', toks := t' } := by
  obtain ⟨m, ⟨o, es, ep, ho, r⟩, _⟩ := id I.loc
  obtain ⟨sl, hL⟩ := u.any ho I.free (by simp)
  exact I.step (g' := s.gens) (d' := s.drawn) (ch := []) (fun _ z => nomatch z) (fun b o _ hb _ e n => u.keep b o e n hb (by simp)) (fun b o _ hb _ e n => u.slot b o e n hb (by simp)) (fun b o _ e n => u.free b o e n (by simp)) (fun b o _ e => u.there b o e (by simp)) u.tups u.frzs u.tbls (fun m' hm => by
    obtain ⟨o', es', ep', ho', r'⟩ := hm
    rw [ho] at ho'; cases ho'
    exact ⟨_, es', ep', hL, r'⟩) hok I.bare
theorem Inv.call {g' : Array GenState} {t' : Nat} {d' : Drawn} {ch : List Addr} (I : Inv X pins σ H s) (u : Un (frs X.stack) ch H H' s.heap h') (hok : HOk X.prog X.w H' h') (hg : AllBare g')
    (hch : ∀ b ∈ ch, (b ∈ X.ex ∨ X.s₀.heap.objs.size ≤ b) ∧ b ≠ X.env.locals ∧ (∀ x c, X.env.cells.lookup x = some c → c ≠ b) ∧ ∀ p ∈ X.pn ++ pins, p.1 ≠ b) :
    Inv X pins σ H' { s with heap := h', gens := g', drawn := d', toks := t' } := by
  obtain ⟨m, ⟨o, es, ep, ho, r⟩, _⟩ := id I.loc
  obtain ⟨sl, hL⟩ := u.any ho I.free fun z => (hch _ z).2.1 rfl
  exact I.step (ch := ch) hch (fun b o hL hb hc e n => u.keep b o e n (fun z => (List.mem_cons.mp (I.stkSub b z)).elim hL hb) hc) (fun b o _ _ hc e n => u.any e n hc) (fun b o hc e n => u.free b o e n hc) (fun b o hc e => u.there b o e hc) u.tups u.frzs u.tbls (fun m' hm => by
    obtain ⟨o', es', ep', ho', r'⟩ := hm
    rw [ho] at ho'; cases ho'
    exact ⟨_, es', ep', hL, r'⟩) hok hg
theorem Inv.turned {t' : Nat} {it : Addr} (I : Inv X pins σ H s) (k : ∀ b o, b ≠ it → s.heap.get? b = some o → h'.get? b = some o) (hn : H it = none) (hL : it ≠ X.env.locals)
    (h1 : it ∈ X.ex ∨ X.s₀.heap.objs.size ≤ it) (h2 : ∀ x c, X.env.cells.lookup x = some c → c ≠ it) (h3 : ∀ p ∈ X.pn ++ pins, p.1 ≠ it) : Inv X pins σ H { s with heap := h', toks := t' } := by
  have nit : ∀ b u, H b = some u → b ≠ it := fun b u e z => by rw [z, hn] at e; cases e
  refine I.step (g' := s.gens) (d' := s.drawn) (ch := [it]) (fun b hb => ?_) (fun b o _ _ hc e _ => k b o (fun z => hc (by simp [z])) e) (fun b o _ _ hc e _ => ⟨o.slots, k b o (fun z => hc (by simp [z])) e⟩) (fun _ _ _ _ n => n)
    (fun b o hc e => ⟨o, k b o (fun z => hc (by simp [z])) e⟩) (fun _ _ e => e) (fun _ _ _ e => e) (fun b ps e => ⟨#[], by rw [e]; simp⟩) (fun m hm => ?_) (fun b u e => ?_) I.bare
  · have e : b = it := by simpa using hb
    subst e
    exact ⟨h1, hL, h2, h3⟩
  · obtain ⟨o, es, ep, ho, r⟩ := hm
    exact ⟨o, es, ep, k _ o (Ne.symm hL) ho, r⟩
  · refine (I.hok b u e).stay (fun c v hc q => k c v ?_ q) (fun _ q => q) fun _ _ q => q
    rcases hc with z | z
    · rw [z]; exact nit b u e
    · exact nit c _ z
theorem Inv.tok (I : Inv X pins σ H s) (t : Nat) : Inv X pins σ H { s with toks := t } := I.un (h' := s.heap) (t' := t) Un.refl I.hok
theorem Inv.kept {t' : Nat} (I : Inv X pins σ H s) (k : ∀ b u, s.heap.get? b = some u → h'.get? b = some u) : Inv X pins σ H { s with heap := h', toks := t' } := I.un (Un.kept k) (I.hok.kept k)
theorem Inv.laid {a : Addr} {o : HO} {t' : Nat} (I : Inv X pins σ H s) (k : ∀ b u, s.heap.get? b = some u → h'.get? b = some u) (hp : s.heap.objs.size ≤ a) (new : ObjOk X.prog X.w (upd H a o) h' a o) :
    Inv X pins σ (upd H a o) { s with heap := h', toks := t' } := I.un (Un.laid k hp (I.hok.fresh hp)) (I.hok.laid k hp new)
theorem Inv.write {x e : Addr} {o : HO} {t' : Nat} (I : Inv X pins σ H s) (mu : Mut (H x)) (he : e = x ∨ H e = some (.own x)) (k : ∀ b u, b ≠ e → s.heap.get? b = some u → h'.get? b = some u) (heo : ∃ u, h'.get? e = some u)
    (new : ObjOk X.prog X.w (upd H x o) h' x o) : Inv X pins σ (upd H x o) { s with heap := h', toks := t' } := I.un (Un.write mu he k heo) (I.hok.write mu he k heo new)
theorem Inv.pins_of {pins' : List (Addr × Obj)} (I : Inv X pins σ H s) (h : ∀ p ∈ pins', s.heap.get? p.1 = some p.2 ∧ H p.1 = none ∧ p.1 ≠ X.env.locals ∧ p.1 ∉ X.fs ∧ ∀ v, p.2.data ≠ .cell v) : Inv X pins' σ H s :=
  ⟨I.ok, I.os, I.bare, I.base, I.loc, I.cell, I.free, I.freeC, fun p hp => (List.mem_append.mp hp).elim (fun z => I.pin p (List.mem_append_left _ z)) (h p), I.hok, I.len⟩
theorem nodup_ix {N : List Str} (hN : N.Nodup) {i j : Nat} {x : Str} (a : N[i]? = some x) (b : N[j]? = some x) : i = j := by
  obtain ⟨h1, e1⟩ := List.getElem?_eq_some_iff.mp a
  obtain ⟨h2, e2⟩ := List.getElem?_eq_some_iff.mp b
  exact (List.getElem_inj hN).mp (e1.trans e2.symm)
theorem store_ok2 {M : Model} {A : Around} {E : Value → Shared → Prop} {i : Nat} {x : Str} {v : V} {u : Value} {Q : Unit → Shared → Prop} (I : Inv X pins σ H s) (hN : X.N.Nodup) (hi : X.N[i]? = some x) (hx : Loc X.env.scope x) (r : RelV v u)
    (h : ∀ s', Inv X pins (σ.set i (some v)) H s' → (∃ a, Heap.SameBut a s.heap s'.heap ∧ (a = X.env.locals ∨ X.env.cells.lookup x = some a)) → Q () s') (hf : X.fn x = true ∨ X.env.scope.names.lookup x = some .local := by first | exact .inl rfl | exact .inr rfl | assumption) : wpAny M A (storeName X.env x u) Q E s := by
  obtain ⟨m, hn, hl⟩ := id I.loc
  have hcls : (X.env.scope.kind == .class || (X.env.scope.kind == .module && X.env.locals != X.env.globals)) = false := by rw [I.ok.kind]; rfl
  have hiσ : i < σ.length := by rw [I.len]; exact (List.getElem?_eq_some_iff.mp hi).1
  have cne := I.cne
  have tracked : ∀ {a : Addr} {h' : Heap}, (∃ o, s.heap.get? a = some o ∧ H a = none) → Heap.SameBut a s.heap h' → HOk X.prog X.w H h' := fun {a h'} ha hs b ob e => by
    obtain ⟨_, _, hfree⟩ := ha
    refine (I.hok b ob e).stay (fun c w' hc q => (hs.2 c ?_).trans q) (fun _ q => q) fun _ _ q => q
    rintro rfl
    rcases hc with rfl | hc
    · rw [hfree] at e; cases e
    · rw [hfree] at hc; cases hc
  rcases hx with hk | hk
  · refine wpAny_storeName_local hk hn (fun h' hn' hs => ?_) hcls
    obtain ⟨oL, _, _, hoL, _⟩ := id hn
    refine h _ ⟨I.ok, I.os, I.bare, ⟨fun b o e n hb hx => ?_, fun b o e n hb hx => ?_, I.base.free, fun b o e hx => ?_, I.base.tups, I.base.frzs, I.base.tbls⟩, ⟨_, hn', fun j y v' e1 e2 e3 => ?_⟩, fun y c e => ?_, I.free, I.freeC, fun p hp => ?_, tracked ⟨oL, hoL, I.free⟩ hs, by simpa using I.len⟩ ⟨_, hs, .inl rfl⟩
    · exact (hs.2 b (Nat.ne_of_lt (Nat.lt_of_lt_of_le (Heap.lt_size e) I.ok.above))).trans (I.base.keep b o e n hb hx)
    · obtain ⟨sl, e1⟩ := I.base.slot b o e n hb hx
      exact ⟨sl, (hs.2 b (Nat.ne_of_lt (Nat.lt_of_lt_of_le (Heap.lt_size e) I.ok.above))).trans e1⟩
    · obtain ⟨o', e1⟩ := I.base.there b o e hx
      exact ⟨o', (hs.2 b (Nat.ne_of_lt (Nat.lt_of_lt_of_le (Heap.lt_size e) I.ok.above))).trans e1⟩
    · by_cases hj : j = i
      · subst hj
        rw [hi] at e1; cases e1
        rw [List.getElem?_set_self hiσ] at e2
        cases e2
        exact ⟨u, r, .inl ⟨hk, by simp⟩⟩
      · rw [List.getElem?_set_ne (Ne.symm hj)] at e2
        obtain ⟨u', r', q⟩ := hl j y v' e1 e2 e3
        refine ⟨u', r', ?_⟩
        rcases q with ⟨k, e⟩ | ⟨k, c, e, z⟩
        · refine .inl ⟨k, ?_⟩
          have : y ≠ x := fun e => hj (nodup_ix hN e1 (e ▸ hi))
          simp [this, e]
        · exact .inr ⟨k, c, e, z.sameBut hs (cne y c e)⟩
    · obtain ⟨w', z⟩ := I.cell y c e
      exact ⟨w', z.sameBut hs (cne y c e)⟩
    · obtain ⟨e, n, ne, nf, d⟩ := I.pin p hp
      exact ⟨(hs.2 p.1 ne).trans e, n, ne, nf, d⟩
  · have hfn : X.fn x = true := by
      rcases hf with z | z
      · exact z
      · rw [z] at hk; cases hk
    obtain ⟨c, hc⟩ := I.ok.has x (.inl hk)
    obtain ⟨w', z⟩ := I.cell x c hc
    refine wpAny_storeName_cell I.ok.kind hk hc z (fun h' hc' hs => ?_)
    obtain ⟨oc, hoc, hocd⟩ := id z
    refine h { s with heap := h' } ⟨I.ok, I.os, I.bare, ⟨fun b o e n hb hx => ?_, fun b o e n hb hx => ?_, I.base.free, fun b o e hx => ?_, I.base.tups, I.base.frzs, I.base.tbls⟩, ⟨m, hn.sameBut hs (Ne.symm (cne x c hc)), fun j y v' e1 e2 e3 => ?_⟩, fun y c' e => ?_, I.free, I.freeC, fun p hp => ?_, tracked ⟨oc, hoc, I.freeC x c hc⟩ hs, by simpa using I.len⟩ ⟨c, hs, .inr hc⟩
    · exact (hs.2 b (Nat.ne_of_lt (Nat.lt_of_lt_of_le (Heap.lt_size e) (I.ok.cab x c hfn hc)))).trans (I.base.keep b o e n hb hx)
    · obtain ⟨sl, e1⟩ := I.base.slot b o e n hb hx
      exact ⟨sl, (hs.2 b (Nat.ne_of_lt (Nat.lt_of_lt_of_le (Heap.lt_size e) (I.ok.cab x c hfn hc)))).trans e1⟩
    · obtain ⟨o', e1⟩ := I.base.there b o e hx
      exact ⟨o', (hs.2 b (Nat.ne_of_lt (Nat.lt_of_lt_of_le (Heap.lt_size e) (I.ok.cab x c hfn hc)))).trans e1⟩
    · by_cases hj : j = i
      · subst hj
        rw [hi] at e1; cases e1
        rw [List.getElem?_set_self hiσ] at e2
        cases e2
        exact ⟨u, r, .inr ⟨.inl hk, c, hc, hc'⟩⟩
      · rw [List.getElem?_set_ne (Ne.symm hj)] at e2
        obtain ⟨u', r', q⟩ := hl j y v' e1 e2 e3
        refine ⟨u', r', ?_⟩
        rcases q with q | ⟨k, c', e, z'⟩
        · exact .inl q
        · refine .inr ⟨k, c', e, z'.sameBut hs ?_⟩
          rintro rfl
          exact hj (nodup_ix hN e1 (I.ok.inj _ _ _ e hc ▸ hi))
    · by_cases hcc : c' = c
      · subst hcc; exact ⟨_, hc'⟩
      · obtain ⟨w2, z2⟩ := I.cell y c' e
        exact ⟨w2, z2.sameBut hs hcc⟩
    · obtain ⟨e, n, ne, nf, d⟩ := I.pin p hp
      refine ⟨(hs.2 p.1 ?_).trans e, n, ne, nf, d⟩
      intro q
      rw [q, hoc] at e
      have q' : oc = p.2 := Option.some.inj e
      exact d w' (by rw [← q']; exact hocd)
theorem store_ok {M : Model} {A : Around} {E : Value → Shared → Prop} {i : Nat} {x : Str} {v : V} {u : Value} {Q : Unit → Shared → Prop} (I : Inv X pins σ H s) (hN : X.N.Nodup) (hi : X.N[i]? = some x) (hx : Loc X.env.scope x) (r : RelV v u)
    (h : ∀ s', Inv X pins (σ.set i (some v)) H s' → Q () s') (hf : X.fn x = true ∨ X.env.scope.names.lookup x = some .local := by first | exact .inl rfl | exact .inr rfl | assumption) : wpAny M A (storeName X.env x u) Q E s :=
  store_ok2 I hN hi hx r (fun s' I' _ => h s' I') hf
theorem Inv.call' {s' : Shared} {ch : List Addr} (I : Inv X pins σ H s) (ho : s'.os = s.os) (u : Un (frs X.stack) ch H H' s.heap s'.heap) (hok : HOk X.prog X.w H' s'.heap) (hg : AllBare s'.gens)
    (hch : ∀ b ∈ ch, (b ∈ X.ex ∨ X.s₀.heap.objs.size ≤ b) ∧ b ≠ X.env.locals ∧ (∀ x c, X.env.cells.lookup x = some c → c ≠ b) ∧ ∀ p ∈ X.pn ++ pins, p.1 ≠ b) : Inv X pins σ H' s' := by
  obtain ⟨h', g', d', t', o'⟩ := s'
  have e : o' = s.os := ho
  subst e
  exact I.call (g' := g') (t' := t') (d' := d') u hok hg hch
end
abbrev XK := Value → Option Addr → Hp → Prop
abbrev St := List (Option V)
abbrev VK := V → Hp → Prop
abbrev TE := St → Hp → VK → Prop
abbrev TT := St → Hp → (Bool → Hp → Prop) → Prop
abbrev TA := St → Hp → (List V → Hp → Prop) → Prop
structure Ends where
  nx : St → Hp → Prop
  rt : VK
  bk : St → Hp → Prop := fun _ _ => False
  ct : St → Hp → Prop := fun _ _ => False
abbrev TS := Ends → St → Hp → Prop
noncomputable def EP (X : Cx) (pins : List (Addr × Obj)) (σ : St) (Q : VK) (u : Value) (s' : Shared) : Prop := ∃ v H', Inv X pins σ H' s' ∧ RelV v u ∧ Q v H'
noncomputable def TP (X : Cx) (pins : List (Addr × Obj)) (σ : St) (Q : Bool → Hp → Prop) (b : Bool) (s' : Shared) : Prop := ∃ H', Inv X pins σ H' s' ∧ Q b H'
noncomputable def AP (X : Cx) (pins : List (Addr × Obj)) (σ : St) (Q : List V → Hp → Prop) (us : List Value) (s' : Shared) : Prop := ∃ vs H', Inv X pins σ H' s' ∧ Vals vs us ∧ Q vs H'
noncomputable def SP (X : Cx) (pins : List (Addr × Obj)) (D : Ends) (f : Flow) (s' : Shared) : Prop :=
  match f with
  | .next => ∃ σ' H', Inv X pins σ' H' s' ∧ D.nx σ' H'
  | .brk => ∃ σ' H', Inv X pins σ' H' s' ∧ D.bk σ' H'
  | .cont => ∃ σ' H', Inv X pins σ' H' s' ∧ D.ct σ' H'
  | .ret u => ∃ v σ' H', Inv X pins σ' H' s' ∧ RelV v u ∧ D.rt v H'
noncomputable def PE (X : Cx) (e : Expr) (t : TE) : Prop :=
  ∀ (pins : List (Addr × Obj)) (s : Shared) (σ : St) (H : Hp) (Q : VK), Inv X pins σ H s → t σ H Q → wpAny (model X.prog X.w) X.A (eval e X.env) (EP X pins σ Q) X.xe s
noncomputable def PT (X : Cx) (e : Expr) (t : TT) : Prop :=
  ∀ (pins : List (Addr × Obj)) (s : Shared) (σ : St) (H : Hp) (Q : Bool → Hp → Prop), Inv X pins σ H s → t σ H Q → wpAny (model X.prog X.w) X.A (isTrue e X.env (eval e X.env)) (TP X pins σ Q) X.xe s
noncomputable def PW (X : Cx) (e : Expr) (t : TT) : Prop :=
  ∀ (whole : Sem Value) (pins : List (Addr × Obj)) (s : Shared) (σ : St) (H : Hp) (Q : Bool → Hp → Prop), Inv X pins σ H s → t σ H Q → wpAny (model X.prog X.w) X.A (isTrue e X.env whole) (TP X pins σ Q) X.xe s
theorem PW.pt {X : Cx} {e : Expr} {t : TT} (h : PW X e t) : PT X e t := h _
noncomputable def PA (X : Cx) (es : List Expr) (t : TA) : Prop :=
  ∀ (pos : Pos) (pins : List (Addr × Obj)) (s : Shared) (σ : St) (H : Hp) (Q : List V → Hp → Prop), Inv X pins σ H s → t σ H Q → wpAny (model X.prog X.w) X.A (spliced (backTo pos (starEach es X.env))) (AP X pins σ Q) X.xe s
noncomputable def PS (X : Cx) (st : Stmt) (t : TS) : Prop :=
  ∀ (pins : List (Addr × Obj)) (s : Shared) (σ : St) (H : Hp) (D : Ends), Inv X pins σ H s → t D σ H → wpAny (model X.prog X.w) X.A (exec st X.env) (SP X pins D) X.xe s
noncomputable def PSs (X : Cx) (st : List Stmt) (t : TS) : Prop :=
  ∀ (pins : List (Addr × Obj)) (s : Shared) (σ : St) (H : Hp) (D : Ends), Inv X pins σ H s → t D σ H → wpAny (model X.prog X.w) X.A (execs st X.env) (SP X pins D) X.xe s
theorem thn {α : Type} {t : Sem α} {Q Q' : α → Shared → Prop} {M : Model} {A : Around} {E : Value → Shared → Prop} {s : Shared} (h : wpAny M A t Q E s) (hQ : ∀ a s, Q a s → Q' a s) : wpAny M A t Q' E s := wpAny_mono h hQ fun _ _ x => x
end L2
namespace L2
open PySem PySem.Spec PyProof.Rows
section
variable {X : Cx}
noncomputable def tVar (i : Nat) : TE := fun σ H Q => ∃ v, σ[i]? = some (some v) ∧ Q v H
noncomputable def tC (v : V) : TE := fun _ H Q => Q v H
theorem pe_var {i : Nat} {x : Str} {pos : Pos} (hN : X.N[i]? = some x) (hv : Vis X.env.scope x) (hd : (x == ("__debug__" : Str)) = false := by decide) (hcd : (x == ("__classdict__" : Str)) = false := by decide) : PE X (.Name x pos) (tVar i) := by
  intro pins s σ H Q I h
  obtain ⟨v, e, h⟩ := h
  obtain ⟨m, hn, hl⟩ := I.loc
  obtain ⟨u, r, l⟩ := hl i x v hN e hv
  have fin : EP X pins σ Q u s := ⟨v, H, I, r, h⟩
  rcases l with ⟨hk, hm⟩ | ⟨hk, c, hc, hcell⟩
  · exact wpAny_Name (wpAny_loadName_local I.ok.kind hk hn hm fin) hd
  · rcases hk with hk | hk
    · exact wpAny_Name (wpAny_loadName_cell I.ok.kind hk hc hcell fin) hd
    · exact wpAny_Name (wpAny_loadName_free I.ok.kind hk hc hcell fin hcd) hd
theorem pe_int {i j pos} : PE X (.Constant (.int i) j pos) (tC (.int i)) := fun _ _ _ H _ I h => wpAny_Constant_int ⟨.int i, H, I.tok _, ⟨_, rfl⟩, h⟩
theorem pe_bl {b j pos} : PE X (.Constant (.bool b) j pos) (tC (.bl b)) := fun _ _ _ H _ I h => Constant_bool ⟨.bl b, H, I, rfl, h⟩
theorem pe_non {j pos} : PE X (.Constant .none j pos) (tC .non) := fun _ _ _ H _ I h => Constant_none ⟨.non, H, I, rfl, h⟩
theorem pe_str {x j pos} : PE X (.Constant (.str x) j pos) (tC (.str x)) := fun _ _ _ H _ I h => Calls.Constant_str ⟨.str x, H, I.tok _, ⟨_, rfl⟩, h⟩
noncomputable def Gl (X : Cx) (x : Str) : Prop := X.env.kindOf x = some .globalImplicit
theorem ld_glob {E : Value → Shared → Prop} {pins : List (Addr × Obj)} {s : Shared} {σ : St} {H : Hp} {x : Str} {u : Value} {pos : Pos} {Q : Value → Shared → Prop} (I : Inv X pins σ H s) (hg : Gl X x) (hm : X.mg x = some u) (h : Q u s)
    (hd : (x == ("__debug__" : Str)) = false := by decide) : wpAny (model X.prog X.w) X.A (eval (.Name x pos) X.env) Q E s :=
  Calls.Name_function_global I.ok.kind hg (Calls.loadGlobal_global (by rw [I.ok.glob]; exact I.mod.glob.keeps I.bk) hm h) hd
theorem ld_blt {E : Value → Shared → Prop} {pins : List (Addr × Obj)} {s : Shared} {σ : St} {H : Hp} {x : Str} {u : Value} {pos : Pos} {Q : Value → Shared → Prop} (I : Inv X pins σ H s) (hg : Gl X x) (hm : X.mg x = none) (hv : bootBuiltins x = some u) (h : Q u s)
    (hn : x ≠ "__name__" := by decide) (hd : (x == ("__debug__" : Str)) = false := by decide) : wpAny (model X.prog X.w) X.A (eval (.Name x pos) X.env) Q E s := by
  obtain ⟨mb, h1, h2⟩ := I.mod.blt
  exact Calls.Name_function_global I.ok.kind hg (Calls.loadGlobal_builtin (by rw [I.ok.glob]; exact I.mod.glob.keeps I.bk) hm (by rw [I.ok.blt]; exact h1.keeps I.bk) ((h2 x hn).trans hv) h) hd
theorem pe_glob {x : Str} {v : V} {u : Value} {pos : Pos} (hg : Gl X x) (hm : X.mg x = some u) (r : RelV v u) (hd : (x == ("__debug__" : Str)) = false := by decide) : PE X (.Name x pos) (tC v) :=
  fun _ _ _ H _ I h => ld_glob I hg hm ⟨v, H, I, r, h⟩ hd
theorem pe_bltn {x : Str} {v : V} {u : Value} {pos : Pos} (hg : Gl X x) (hm : X.mg x = none) (hv : bootBuiltins x = some u) (r : RelV v u) (hn : x ≠ "__name__" := by decide) (hd : (x == ("__debug__" : Str)) = false := by decide) : PE X (.Name x pos) (tC v) :=
  fun _ _ _ H _ I h => ld_blt I hg hm hv ⟨v, H, I, r, h⟩ hn hd
noncomputable def t2I (ta tb : TE) (k : Int → Int → Hp → Prop) : St → Hp → Prop := fun σ H => ta σ H fun x H1 => tb σ H1 fun y H2 => ∃ i j, x = .int i ∧ y = .int j ∧ k i j H2
noncomputable def tAdd (ta tb : TE) : TE := fun σ H Q => t2I ta tb (fun i j H2 => Q (.int (i + j)) H2) σ H
noncomputable def tSub (ta tb : TE) : TE := fun σ H Q => t2I ta tb (fun i j H2 => Q (.int (i - j)) H2) σ H
noncomputable def tMul (ta tb : TE) : TE := fun σ H Q => t2I ta tb (fun i j H2 => (-(2 ^ 64) < i ∧ i < 2 ^ 64) ∧ Q (.int (i * j)) H2) σ H
variable {a b : Expr} {ta tb : TE} {pos : Pos}
noncomputable def PC (X : Cx) (op : CmpOp) (a b : Expr) (t : TE) : Prop :=
  ∀ (pins : List (Addr × Obj)) (s : Shared) (σ : St) (H : Hp) (Q : VK), Inv X pins σ H s → t σ H Q →
    wpAny (model X.prog X.w) X.A (eval a X.env) (fun v s₁ => wpAny (model X.prog X.w) X.A (eval b X.env) (fun u s₂ => wpAny (model X.prog X.w) X.A (compareOp op v u) (EP X pins σ Q) X.xe s₂) X.xe s₁) X.xe s
theorem nobehind (b : Expr) {op : CmpOp} (h : op ≠ .In) (h2 : op ≠ .NotIn) : behindInMarks op b = false := by
  have e1 : (op == CmpOp.In) = false := by cases op <;> first | rfl | exact absurd rfl h
  have e2 : (op == CmpOp.NotIn) = false := by cases op <;> first | rfl | exact absurd rfl h2
  cases b <;> simp [behindInMarks, e1, e2]
noncomputable def tCmp (p : Int → Int → Bool) (ta tb : TE) : TE := fun σ H Q => t2I ta tb (fun i j H2 => Q (.bl (p i j)) H2) σ H
abbrev tLt : TE → TE → TE := tCmp fun i j => decide (i < j)
abbrev tLe : TE → TE → TE := tCmp fun i j => decide (i ≤ j)
abbrev tGt : TE → TE → TE := tCmp fun i j => decide (j < i)
abbrev tGe : TE → TE → TE := tCmp fun i j => decide (j ≤ i)
abbrev tEqI : TE → TE → TE := tCmp fun i j => decide (i = j)
abbrev tNeI : TE → TE → TE := tCmp fun i j => !decide (i = j)
noncomputable def tIsN (ta : TE) : TE := fun σ H Q => ta σ H fun x H1 => Q (.bl (decide (x = .non))) H1
noncomputable def tNotN (ta : TE) : TE := fun σ H Q => ta σ H fun x H1 => Q (.bl (!decide (x = .non))) H1
theorem RelV.none_iff {x : V} {v : Value} (r : RelV x v) : (v == Value.none) = decide (x = .non) := by
  cases x with
  | non => cases r; rfl
  | bl _ => cases r; rfl
  | int _ => obtain ⟨t, rfl⟩ := r; rfl
  | str _ => obtain ⟨t, rfl⟩ := r; rfl
  | byt _ => obtain ⟨t, rfl⟩ := r; rfl
  | flt _ => obtain ⟨t, rfl⟩ := r; rfl
  | ref _ => cases r; rfl
  | ty _ => cases r; rfl
theorem pc_isN {j pos'} (ha : PE X a ta) : PC X .Is a (.Constant .none j pos') (tIsN ta) := by
  intro pins s σ H Q I h
  refine thn (ha pins s σ H _ I h) fun v s1 ⟨x, H1, I1, r1, q1⟩ => ?_
  exact Constant_none (is_none_gen ⟨.bl _, H1, I1, by rw [r1.none_iff]; rfl, q1⟩)
theorem pc_notN {j pos'} (ha : PE X a ta) : PC X .IsNot a (.Constant .none j pos') (tNotN ta) := by
  intro pins s σ H Q I h
  refine thn (ha pins s σ H _ I h) fun v s1 ⟨x, H1, I1, r1, q1⟩ => ?_
  exact Constant_none (isnot_none_gen ⟨.bl _, H1, I1, by rw [r1.none_iff]; rfl, q1⟩)
noncomputable def tB (t : TE) : TT := fun σ H Q => t σ H fun x H1 => ∃ c, x = .bl c ∧ Q c H1
theorem pt_cmp {op : CmpOp} {t : TE} (h : PC X op a b t) (h1 : behindInMarks op b = false := by first | exact nobehind _ (by decide) (by decide) | rfl) : PT X (.Compare a [op] [b] pos) (tB t) := by
  intro pins s σ H Q I hw
  refine wpAny_isTrue_Compare1 (thn (h pins s σ H _ I hw) fun v s1 h1 => thn h1 fun u s2 h2 => thn h2 fun c s3 ⟨x, H1, I1, r1, q1⟩ => ?_) h1
  obtain ⟨d, rfl, q⟩ := q1
  cases r1
  exact wpAny_truthy_bool ⟨H1, I1, q⟩
theorem pt_val {e : Expr} {t : TE} (h : PE X e t) (he : ∀ whole, isTrue e X.env whole = (do let v ← whole; standAt e.pos; holding [v] (truthy v)) := by intro _; rfl) : PT X e (tB t) := by
  intro pins s σ H Q I hw
  refine isTrue_plain (thn (h pins s σ H _ I hw) fun v s1 ⟨x, H1, I1, r1, q1⟩ => ?_) (he _)
  obtain ⟨d, rfl, q⟩ := q1
  cases r1
  exact wpAny_truthy_bool ⟨H1, I1, q⟩
variable {tA tB' : TT} {rest : List Expr}
noncomputable def tAnd (t u : TT) : TT := fun σ H Q => t σ H fun c H1 => if c = true then u σ H1 Q else Q false H1
noncomputable def tOr (t u : TT) : TT := fun σ H Q => t σ H fun c H1 => if c = true then Q true H1 else u σ H1 Q
noncomputable def tNot (t : TT) : TT := fun σ H Q => t σ H fun c H1 => Q (!c) H1
theorem pw_and1 (ha : PT X a tA) : PW X (.BoolOp .And [a] pos) tA := by
  intro wh pins s σ H Q I h
  refine isTrue_and (thn (ha pins s σ H Q I h) fun c s1 e => ?_)
  cases c with
  | true => exact isTrue_and_nil e
  | false => exact e
theorem pw_or1 (ha : PT X a tA) : PW X (.BoolOp .Or [a] pos) tA := by
  intro wh pins s σ H Q I h
  refine isTrue_or (thn (ha pins s σ H Q I h) fun c s1 e => ?_)
  cases c with
  | false => exact isTrue_or_nil e
  | true => exact e
theorem pw_and (ha : PT X a tA) (hb : PW X (.BoolOp .And (b :: rest) pos) tB') : PW X (.BoolOp .And (a :: b :: rest) pos) (tAnd tA tB') := by
  intro wh pins s σ H Q I h
  refine isTrue_and (thn (ha pins s σ H _ I h) fun c s1 ⟨H1, I1, q1⟩ => ?_)
  cases c with
  | true => exact hb wh pins s1 σ H1 Q I1 q1
  | false => exact ⟨H1, I1, q1⟩
theorem pw_or (ha : PT X a tA) (hb : PW X (.BoolOp .Or (b :: rest) pos) tB') : PW X (.BoolOp .Or (a :: b :: rest) pos) (tOr tA tB') := by
  intro wh pins s σ H Q I h
  refine isTrue_or (thn (ha pins s σ H _ I h) fun c s1 ⟨H1, I1, q1⟩ => ?_)
  cases c with
  | true => exact ⟨H1, I1, q1⟩
  | false => exact hb wh pins s1 σ H1 Q I1 q1
theorem pt_not (ha : PT X a tA) : PT X (.UnaryOp .Not a pos) (tNot tA) := by
  intro pins s σ H Q I h
  exact isTrue_not (ha pins s σ H (fun c H1 => Q (!c) H1) I h)
noncomputable def tAndV (ta tb : TE) : TE := fun σ H Q => ta σ H fun x H1 => ∃ c, x = .bl c ∧ if c = true then tb σ H1 Q else Q (.bl false) H1
noncomputable def tOrV (ta tb : TE) : TE := fun σ H Q => ta σ H fun x H1 => ∃ c, x = .bl c ∧ if c = true then Q (.bl true) H1 else tb σ H1 Q
noncomputable def tNotV (ta : TE) : TE := fun σ H Q => ta σ H fun x H1 => ∃ c, x = .bl c ∧ Q (.bl (!c)) H1
theorem pe_one {op} {t : TE} (h : PE X a t) : PE X (.BoolOp op [a] pos) t := fun pins s σ H Q I hw => BoolOp_one (h pins s σ H Q I hw)
theorem pe_and (ha : PE X a ta) (hb : PE X (.BoolOp .And (b :: rest) pos) tb) : PE X (.BoolOp .And (a :: b :: rest) pos) (tAndV ta tb) := by
  intro pins s σ H Q I h
  refine BoolOp_and (thn (ha pins s σ H _ I h) fun v s1 ⟨x, H1, I1, r1, q1⟩ => ?_)
  obtain ⟨c, rfl, q1⟩ := q1
  cases r1
  refine wpAny_truthy_bool ?_
  cases c with
  | true => exact hb pins s1 σ H1 Q I1 q1
  | false => exact ⟨.bl false, H1, I1, rfl, q1⟩
theorem pe_not (ha : PE X a ta) : PE X (.UnaryOp .Not a pos) (tNotV ta) := by
  intro pins s σ H Q I h
  refine UnaryOp_ (thn (ha pins s σ H _ I h) fun v s1 ⟨x, H1, I1, r1, q1⟩ => ?_)
  obtain ⟨c, rfl, q1⟩ := q1
  cases r1
  exact not_of (wpAny_truthy_bool ⟨.bl (!c), H1, I1, rfl, q1⟩)
noncomputable def tIf (t : TT) (ta tb : TE) : TE := fun σ H Q => t σ H fun c H1 => if c = true then ta σ H1 Q else tb σ H1 Q
end
end L2
namespace L2
open PySem PySem.Spec PyProof.Rows
noncomputable def SqL (K : PySem.W.Frag) (H : Hp) (a : Addr) (xs : List V) : Prop :=
  Rd H a (.lst xs) ∨
    ∃ (o : Obj) (its : Array Value) (n : Nat), K.lookup a = some o ∧ o.cls = .type "list" ∧ o.dict = none ∧ o.data = .seq its n ∧ its.size ≤ sizeLine ∧ Vals xs its.toList
noncomputable def SqT (K : PySem.W.Frag) (H : Hp) (a : Addr) (xs : List V) : Prop :=
  Rd H a (.tup xs) ∨
    ∃ (o : Obj) (its : Array Value) (n : Nat), K.lookup a = some o ∧ o.cls = .type "tuple" ∧ o.data = .seq its n ∧ its.size ≤ sizeLine ∧ Vals xs its.toList
noncomputable def absV : Value → Option V
  | .none => some .non
  | .bool b => some (.bl b)
  | .int i _ => some (.int i)
  | .str x _ => some (.str x)
  | .bytes b _ => some (.byt b)
  | .float b _ => some (.flt b)
  | .ref a => some (.ref a)
  | .type n => some (.ty n)
  | _ => none
theorem RelV.abs {x : V} {u : Value} (r : RelV x u) : absV u = some x := by
  cases x with
  | non => cases r; rfl
  | bl _ => cases r; rfl
  | int _ => obtain ⟨t, rfl⟩ := r; rfl
  | str _ => obtain ⟨t, rfl⟩ := r; rfl
  | byt _ => obtain ⟨t, rfl⟩ := r; rfl
  | flt _ => obtain ⟨t, rfl⟩ := r; rfl
  | ref _ => cases r; rfl
  | ty _ => cases r; rfl
theorem RelV.inj {x y : V} {u : Value} (r : RelV x u) (q : RelV y u) : x = y := Option.some.inj (r.abs.symm.trans q.abs)
theorem Vals.inj : ∀ {xs ys : List V} {us : List Value}, Vals xs us → Vals ys us → xs = ys
  | _, _, _, .nil, .nil => rfl
  | _, _, _, .cons r t, .cons r' t' => by rw [r.inj r', Vals.inj t t']
section
variable {X : Cx} {pins : List (Addr × Obj)} {σ : St} {H : Hp} {s : Shared} {a : Addr} {xs ys : List V}
theorem SqL.of {K : PySem.W.Frag} (h : H a = some (.lst xs)) : SqL K H a xs := .inl (.inl h)
theorem SqT.of {K : PySem.W.Frag} (h : H a = some (.tup xs)) : SqT K H a xs := .inl (.inl h)
theorem Inv.list (I : Inv X pins σ H s) (h : SqL X.K H a xs) : ∃ its : List Value, Vals xs its ∧ PlainL s.heap a its.toArray ∧ xs.length ≤ sizeLine := by
  rcases h with h | ⟨o, its, n, hk, hc, hd, hs, hz, r⟩
  · obtain ⟨z, its, n, r, e⟩ := h.ok I.hok
    exact ⟨its, r, ⟨_, n, e, rfl, rfl, rfl⟩, z⟩
  · refine ⟨its.toList, r, ⟨o, n, I.kIn a o hk, hc, hd, by simpa using hs⟩, ?_⟩
    have e := r.length
    simp only [Array.length_toList] at e
    omega
theorem Inv.tuple (I : Inv X pins σ H s) (h : SqT X.K H a xs) : ∃ its : List Value, Vals xs its ∧ IsTup s.heap a its.toArray ∧ xs.length ≤ sizeLine := by
  rcases h with h | ⟨o, its, n, hk, hc, hs, hz, r⟩
  · obtain ⟨z, its, r, p⟩ := h.ok I.hok
    exact ⟨its, r, p, z⟩
  · refine ⟨its.toList, r, ⟨o, I.kIn a o hk, hc, n, by simpa using hs⟩, ?_⟩
    have e := r.length
    simp only [Array.length_toList] at e
    omega
theorem Inv.list_inj (I : Inv X pins σ H s) (h : SqL X.K H a xs) (h' : SqL X.K H a ys) : xs = ys := by
  obtain ⟨its, r, ⟨o, n, e, _, _, d⟩, _⟩ := I.list h
  obtain ⟨its', r', ⟨o', n', e', _, _, d'⟩, _⟩ := I.list h'
  rw [e] at e'; cases e'
  rw [d] at d'
  injection d' with d1 _
  have : its = its' := by simpa using congrArg Array.toList d1
  subst this
  exact r.inj r'
theorem Inv.tuple_inj (I : Inv X pins σ H s) (h : SqT X.K H a xs) (h' : SqT X.K H a ys) : xs = ys := by
  obtain ⟨its, r, ⟨o, e, _, n, d⟩, _⟩ := I.tuple h
  obtain ⟨its', r', ⟨o', e', _, n', d'⟩, _⟩ := I.tuple h'
  rw [e] at e'; cases e'
  rw [d] at d'
  injection d' with d1 _
  have : its = its' := by simpa using congrArg Array.toList d1
  subst this
  exact r.inj r'
end
abbrev Cx.wish (X : Cx) (E : Value → Shared → Prop) : Cx := { X with xe := E }
abbrev Cx.nox (X : Cx) : Cx := X.wish fun _ _ => False
theorem Cx.Ok.wish {X : Cx} (ok : X.Ok) (E : Value → Shared → Prop) : (X.wish E).Ok :=
  ⟨ok.mod, ok.kind, ok.glob, ok.blt, ok.above, ok.inj, ok.has, ok.cab, ok.hd, ok.frames, ok.stk, ok.exf, ok.bs, ok.bsz, ok.noex, ok.exfs, ok.funs, ok.frf⟩
theorem Cx.Ok.unwish {X : Cx} {E : Value → Shared → Prop} (ok : (X.wish E).Ok) : X.Ok :=
  ⟨ok.mod, ok.kind, ok.glob, ok.blt, ok.above, ok.inj, ok.has, ok.cab, ok.hd, ok.frames, ok.stk, ok.exf, ok.bs, ok.bsz, ok.noex, ok.exfs, ok.funs, ok.frf⟩
section
variable {X : Cx} {pins : List (Addr × Obj)} {σ : St} {H : Hp} {s : Shared} {E : Value → Shared → Prop}
theorem Inv.wish (I : Inv X pins σ H s) (E : Value → Shared → Prop) : Inv (X.wish E) pins σ H s := ⟨I.ok.wish E, I.os, I.bare, I.base, I.loc, I.cell, I.free, I.freeC, I.pin, I.hok, I.len⟩
theorem Inv.unwish (I : Inv (X.wish E) pins σ H s) : Inv X pins σ H s := ⟨I.ok.unwish, I.os, I.bare, I.base, I.loc, I.cell, I.free, I.freeC, I.pin, I.hok, I.len⟩
theorem SP.unwish {D : Ends} {f : Flow} {s' : Shared} (h : SP (X.wish E) pins D f s') : SP X pins D f s' := by
  cases f with
  | next => obtain ⟨σ', H', I, q⟩ := h; exact ⟨σ', H', I.unwish, q⟩
  | brk => obtain ⟨σ', H', I, q⟩ := h; exact ⟨σ', H', I.unwish, q⟩
  | cont => obtain ⟨σ', H', I, q⟩ := h; exact ⟨σ', H', I.unwish, q⟩
  | ret u => obtain ⟨v, σ', H', I, r, q⟩ := h; exact ⟨v, σ', H', I.unwish, r, q⟩
theorem PSs.nox {st : List Stmt} {t : TS} (h : PSs X.nox st t) : PSs X st t := fun pins s σ H D I hw =>
  wpAny_mono (h pins s σ H D (I.wish _) hw) (fun _ _ q => q.unwish) fun _ _ z => False.elim z
end
section
variable {X : Cx} {st : Stmt} {rest : List Stmt} {t u : TS} {e : Expr} {te : TE} {pos : Pos}
noncomputable def tNext : TS := fun D σ H => D.nx σ H
noncomputable def tSeq (t u : TS) : TS := fun D σ H => t { D with nx := u D } σ H
theorem pss_nil : PSs X [] tNext := fun _ _ σ H _ I h => wpAny_execs_nil ⟨σ, H, I, h⟩
theorem pss_cons (h1 : PS X st t) (h2 : PSs X rest u) : PSs X (st :: rest) (tSeq t u) := by
  intro pins s σ H D I h
  refine wpAny_execs_cons (thn (h1 pins s σ H { D with nx := u D } I h) fun f s1 q => ?_)
  cases f with
  | next =>
    obtain ⟨σ', H', I', q⟩ := q
    exact h2 pins s1 σ' H' D I' q
  | ret v => exact q
  | brk => exact q
  | cont => exact q
theorem pss_one (h1 : PS X st t) : PSs X [st] t := by
  intro pins s σ H D I h
  refine wpAny_execs_cons (thn (h1 pins s σ H D I h) fun f s1 q => ?_)
  cases f with
  | next => exact wpAny_execs_nil q
  | ret v => exact q
  | brk => exact q
  | cont => exact q
noncomputable def tBreak : TS := fun D σ H => D.bk σ H
noncomputable def tCont : TS := fun D σ H => D.ct σ H
theorem Inv.quiet {pins : List (Addr × Obj)} {σ : St} {H : Hp} {s : Shared} (I : Inv X pins σ H s) : interactive X.env = false := by simp [interactive, I.ok.kind]
noncomputable def tDrop (te : TE) : TS := fun D σ H => te σ H fun _ H1 => D.nx σ H1
theorem ps_expr (he : PE X e te) (hs : swapsWith e none pos.line X.env = pure false := by rfl) : PS X (.Expr e pos) (tDrop te) := by
  intro pins s σ H D I h
  exact wpAny_Expr_any (thn (he pins s σ H _ I h) fun v s1 ⟨x, H1, I1, r1, q1⟩ => ⟨σ, H1, I1, q1⟩) I.quiet hs
noncomputable def tRet (te : TE) : TS := fun D σ H => te σ H D.rt
theorem ps_ret (he : PE X e te) : PS X (.Return (some e) pos) (tRet te) := by
  intro pins s σ H D I h
  exact wpAny_Return_some (thn (he pins s σ H _ I h) fun v s1 ⟨x, H1, I1, r1, q1⟩ => ⟨x, σ, H1, I1, r1, q1⟩)
noncomputable def tRetN : TS := fun D _ H => D.rt .non H
noncomputable def tIfS (c : TT) (t u : TS) : TS := fun D σ H => c σ H fun b H1 => if b = true then t D σ H1 else u D σ H1
theorem ps_if {c : Expr} {a b : List Stmt} {tc : TT} (hc : PT X c tc) (ha : PSs X a t) (hb : PSs X b u) : PS X (.If c a b pos) (tIfS tc t u) := by
  intro pins s σ H D I h
  refine wpAny_If (thn (hc pins s σ H _ I h) fun d s1 ⟨H1, I1, q1⟩ => ?_)
  cases d with
  | true => exact ha pins s1 σ H1 D I1 q1
  | false => exact hb pins s1 σ H1 D I1 q1
noncomputable def tNever : TS := fun _ _ _ => False
end
abbrev TG := V → St → Hp → (St → Hp → Prop) → Prop
abbrev TGs := List V → St → Hp → (St → Hp → Prop) → Prop
noncomputable def PG (X : Cx) (target : Expr) (t : TG) : Prop :=
  ∀ (pins : List (Addr × Obj)) (s : Shared) (σ : St) (H : Hp) (v : V) (u : Value) (Q : St → Hp → Prop), Inv X pins σ H s → RelV v u → t v σ H Q →
    wpAny (model X.prog X.w) X.A (assign target X.env u) (fun _ s' => ∃ σ' H', Inv X pins σ' H' s' ∧ Q σ' H') X.xe s
noncomputable def PGs (X : Cx) (ts : List Expr) (t : TGs) : Prop :=
  ∀ (pins : List (Addr × Obj)) (s : Shared) (σ : St) (H : Hp) (vs : List V) (us : List Value) (Q : St → Hp → Prop), Inv X pins σ H s → Vals vs us → t vs σ H Q →
    wpAny (model X.prog X.w) X.A (assignInOrder ((assignEach ts X.env).map (·.2)) us) (fun _ s' => ∃ σ' H', Inv X pins σ' H' s' ∧ Q σ' H') X.xe s
abbrev TSet := V → V → V → Hp → (Hp → Prop) → Prop
noncomputable def PSet (X : Cx) (t : TSet) : Prop :=
  ∀ (pins : List (Addr × Obj)) (s : Shared) (σ : St) (H : Hp) (o i v : V) (ov iv u : Value) (Q : Hp → Prop), Inv X pins σ H s → RelV o ov → RelV i iv → RelV v u → t o i v H Q →
    wpAny (model X.prog X.w) X.A (setItem ov iv u) (fun _ s' => ∃ H', Inv X pins σ H' s' ∧ Q H') X.xe s
abbrev TIp := V → V → Hp → VK → Prop
noncomputable def PIp (X : Cx) (op : Operator) (t : TIp) : Prop :=
  ∀ (pins : List (Addr × Obj)) (s : Shared) (σ : St) (H : Hp) (x y : V) (v u : Value) (Q : VK), Inv X pins σ H s → RelV x v → RelV y u → t x y H Q →
    wpAny (model X.prog X.w) X.A (inplaceOp op v u) (EP X pins σ Q) X.xe s
section
variable {X : Cx} {pos : Pos}
noncomputable def gName (i : Nat) : TG := fun v σ H Q => Q (σ.set i (some v)) H
theorem pg_name {i : Nat} {x : Str} (hN : X.N.Nodup) (hi : X.N[i]? = some x) (hx : Loc X.env.scope x) (hf : X.fn x = true ∨ X.env.scope.names.lookup x = some .local := by first | exact .inl rfl | exact .inr rfl | assumption) : PG X (.Name x pos) (gName i) := by
  intro pins s σ H v u Q I r h
  exact wpAny_assign_Name (store_ok I hN hi hx r (fun s' I' => ⟨_, H, I', h⟩) hf)
noncomputable def gNil : TGs := fun vs σ H Q => vs = [] ∧ Q σ H
noncomputable def gCons (t : TG) (u : TGs) : TGs := fun vs σ H Q => ∃ v r, vs = v :: r ∧ t v σ H fun σ' H' => u r σ' H' Q
theorem pgs_nil : PGs X [] gNil := by
  intro pins s σ H vs us Q I r h
  obtain ⟨e, h⟩ := h
  subst e
  cases r
  exact assignInOrder_nil ⟨σ, H, I, h⟩
theorem pgs_cons {e : Expr} {es : List Expr} {t : TG} {u : TGs} (h1 : PG X e t) (h2 : PGs X es u)
    (hs : (assignEach (e :: es) X.env).map (·.2) = assign e X.env :: (assignEach es X.env).map (·.2) := by rfl) : PGs X (e :: es) (gCons t u) := by
  intro pins s σ H vs us Q I r h
  obtain ⟨v, vr, e1, h⟩ := h
  subst e1
  cases r with
  | cons r rr =>
    rw [hs]
    refine assignInOrder_cons (thn (h1 pins s σ H _ _ _ I r h) fun _ s1 ⟨σ1, H1, I1, q1⟩ => ?_)
    exact h2 pins s1 σ1 H1 _ _ Q I1 rr q1
noncomputable def gTup (K : PySem.W.Frag) (n : Nat) (t : TGs) : TG := fun v σ H Q => ∃ a xs, v = .ref a ∧ SqT K H a xs ∧ xs.length = n ∧ t xs σ H Q
theorem pg_tup {es : List Expr} {k : Nat} {t : TGs} {n : Nat} (hc : X.calm = true) (h : PGs X es t)
    (hn : (assignEach es X.env).length = n := by rfl) (hst : (assignEach es X.env).findIdx? (·.1) = none := by rfl) : PG X (.Tuple es k pos) (gTup X.K n t) := by
  intro pins s σ H v u Q I r hw
  obtain ⟨a, xs, e1, hq, hl, hw⟩ := hw
  subst e1
  cases r
  obtain ⟨its, rv, ht, hz⟩ := I.tuple hq
  refine assign_Tuple_tuple (I.ok.hd hc) ht (by simp [hn, ← hl, rv.length]) hst fun h' hx => ?_
  have I1 : Inv X pins σ H { s with heap := h' } := I.kept (t' := s.toks) fun b o e => hx b o (Nat.ne_of_lt (Heap.lt_size e)) e
  exact h pins _ σ H xs _ Q I1 (by simpa using rv) hw
noncomputable def gSub (to ti : TE) (t : TSet) : TG := fun v σ H Q => to σ H fun o H1 => ti σ H1 fun i H2 => t o i v H2 fun H3 => Q σ H3
theorem pg_sub {o i : Expr} {to ti : TE} {t : TSet} (ho : PE X o to) (hi : PE X i ti) (hs : PSet X t)
    (ha : ∀ v, assign (.Subscript o i pos) X.env v = (do
      let ov ← holding [v] (eval o X.env)
      let iv ← holding [v, ov] (eval i X.env)
      standAt pos
      holding [v, ov, iv] (setItem ov iv v)
      release [v, ov, iv] []) := by intro _; rfl) : PG X (.Subscript o i pos) (gSub to ti t) := by
  intro pins s σ H v u Q I r h
  rw [ha]
  refine wpAny_bind (wpAny_holding (thn (ho pins s σ H _ I h) fun ov s1 ⟨x, H1, I1, r1, q1⟩ => ?_))
  refine wpAny_bind (wpAny_holding (thn (hi pins s1 σ H1 _ I1 q1) fun iv s2 ⟨y, H2, I2, r2, q2⟩ => ?_))
  refine wpAny_bind (wpAny_standAt (wpAny_bind (wpAny_holding (thn (hs pins s2 σ H2 x y v ov iv u _ I2 r1 r2 r q2) fun _ s3 ⟨H3, I3, q3⟩ => ?_))))
  exact wpAny_release ⟨σ, H3, I3, q3⟩
noncomputable def tAsg (te : TE) (g : TG) : TS := fun D σ H => te σ H fun x H1 => g x σ H1 D.nx
theorem ps_asg {tg e : Expr} {te : TE} {g : TG} (he : PE X e te) (hg : PG X tg g) (hs : swapsWithSole [tg] e pos.line X.env = pure false := by rfl) (hw : swappedStores [tg] e X.env = pure none := by rfl)
    (h1 : (assignEach [tg] X.env).map (·.2) = [assign tg X.env] := by rfl) : PS X (.Assign [tg] e pos) (tAsg te g) := by
  intro pins s σ H D I h
  refine wpAny_Assign_stores (thn (he pins s σ H _ I h) fun v s1 ⟨x, H1, I1, r1, q1⟩ => ?_) hs hw
  rw [h1]
  exact thn (hg pins s1 σ H1 x v _ I1 r1 q1) fun _ s2 q => q
noncomputable def tPar (i j : Nat) (ta : TA) : TS := fun D σ H => ta σ H fun vs H1 => ∃ v w, vs = [v, w] ∧ D.nx ((σ.set i (some v)).set j (some w)) H1
noncomputable def tAug (i : Nat) (te : TE) (ti : TIp) : TS := fun D σ H => ∃ x, σ[i]? = some (some x) ∧ te σ H fun y H1 => ti x y H1 fun z H2 => D.nx (σ.set i (some z)) H2
noncomputable def tAugS (to ti te : TE) (tget : V → V → Hp → VK → Prop) (tip : TIp) (tset : TSet) : TS := fun D σ H => to σ H fun o H1 => ti σ H1 fun i H2 => tget o i H2 fun x H3 => te σ H3 fun y H4 => tip x y H4 fun z H5 => tset o i z H5 fun H6 => D.nx σ H6
noncomputable def PGet (X : Cx) (t : V → V → Hp → VK → Prop) : Prop :=
  ∀ (pins : List (Addr × Obj)) (s : Shared) (σ : St) (H : Hp) (o i : V) (ov iv : Value) (Q : VK), Inv X pins σ H s → RelV o ov → RelV i iv → t o i H Q →
    wpAny (model X.prog X.w) X.A (getItem ov iv) (EP X pins σ Q) X.xe s
noncomputable def ipI (f : Int → Int → Int) : TIp := fun x y H Q => ∃ i j, x = .int i ∧ y = .int j ∧ Q (.int (f i j)) H
end
section
variable {X : Cx} {pos : Pos}
noncomputable def tWhile (c : TT) (tb : TS) : TS := fun D σ H => ∃ W : Nat → St → Hp → Prop, (∃ m, W m σ H) ∧ ∀ m σ H, W m σ H →
  c σ H fun b H1 => if b = true then ∃ N : St → Hp → Prop, (∀ σ' H', N σ' H' → ∃ m', m' < m ∧ W m' σ' H') ∧ tb { D with nx := N, ct := N, bk := D.nx } σ H1 else D.nx σ H1
end
structure It where
  go : Nat → Hp → Prop
  yld : Nat → Hp → V → Hp → Prop
  stop : Nat → Hp → Prop
noncomputable def FpOk (X : Cx) (pins : List (Addr × Obj)) (H : Hp) (b : Addr) : Prop :=
  H b = none ∧ b ≠ X.env.locals ∧ b ∉ X.fs ∧ (b ∈ X.ex ∨ X.s₀.heap.objs.size ≤ b) ∧ (∀ x c, X.env.cells.lookup x = some c → c ≠ b) ∧ ∀ p ∈ X.pn ++ pins, p.1 ≠ b
theorem Inv.fpOk {X : Cx} {pins : List (Addr × Obj)} {σ : St} {H H' : Hp} {s : Shared} {b : Addr} (I : Inv X pins σ H s) (hb : s.heap.objs.size ≤ b) (hn : H' b = none) : FpOk X pins H' b := by
  refine ⟨hn, Nat.ne_of_gt (Nat.lt_of_lt_of_le I.lt hb), I.nofs hb, .inr (Nat.le_trans I.sz hb), fun x c e z => ?_, fun p hp z => ?_⟩
  · obtain ⟨v, q⟩ := I.cell x c e
    exact absurd (Nat.lt_of_lt_of_le q.lt (by rw [z]; exact hb)) (Nat.lt_irrefl _)
  · exact absurd (Nat.lt_of_lt_of_le (Heap.lt_size (I.pin p hp).1) (by rw [z]; exact hb)) (Nat.lt_irrefl _)
structure Turn (P : Program) (w : World) (K : PySem.W.Frag) (tg : Expr) (J : It) (fp : List Addr) (it : Addr) (tn : Nat → Heap → Prop) : Prop where
  mem : it ∈ fp
  obj : ∀ i h, tn i h → ∀ b ∈ fp, ∃ o, h.get? b = some o ∧ ∀ v, o.data ≠ .cell v
  keep : ∀ i h h', tn i h → (∀ b ∈ fp, ∀ o, h.get? b = some o → h'.get? b = some o) → tn i h'
  item : ∀ (X : Cx), X.prog = P → X.w = w → X.K = K → X.calm = true → ∀ (i : Nat) (pins : List (Addr × Obj)) (s : Shared) (σ : St) (H : Hp) (E : Value → Shared → Prop), Inv X pins σ H s → (∀ b ∈ fp, FpOk X pins H b) → tn i s.heap → J.go i H →
    wpAny (model P w) X.A (pyNext (.ref it)) (fun r s1 => ∃ u, r = some u ∧
      wpAny (model P w) X.A (letOwnedTupleGo tg (.ref it) u) (fun _ s2 => ∃ x H', Inv X pins σ H' s2 ∧ RelV x u ∧ J.yld i H x H' ∧ tn (i + 1) s2.heap ∧ ∀ b ∈ fp, H' b = none) E s1) E s
  done : ∀ (X : Cx), X.prog = P → X.w = w → X.K = K → X.calm = true → ∀ (i : Nat) (pins : List (Addr × Obj)) (s : Shared) (σ : St) (H : Hp) (E : Value → Shared → Prop), Inv X pins σ H s → (∀ b ∈ fp, FpOk X pins H b) → tn i s.heap → J.stop i H →
    wpAny (model P w) X.A (pyNext (.ref it)) (fun r s1 => r = none ∧ Inv X pins σ H s1) E s
  self : ∀ (A : Around) (i : Nat) (s : Shared) (Q : Value → Shared → Prop) (E : Value → Shared → Prop), tn i s.heap → Q (.ref it) s → wpAny (model P w) A (pyIter (.ref it)) Q E s
abbrev TI := St → Hp → (It → Hp → Prop) → Prop
noncomputable def PIE (X : Cx) (pins : List (Addr × Obj)) (σ : St) (tg : Expr) (R : It → Hp → Prop) (itv : Value) (s2 : Shared) : Prop :=
  ∃ (it : Addr) (fp : List Addr) (tn : Nat → Heap → Prop) (J : It) (H' : Hp), itv = .ref it ∧ Inv X pins σ H' s2 ∧ Turn X.prog X.w X.K tg J fp it tn ∧ tn 0 s2.heap ∧ (∀ b ∈ fp, FpOk X pins H' b) ∧ R J H'
noncomputable def PI (X : Cx) (tg iter : Expr) (wi : TI) : Prop :=
  ∀ (pins : List (Addr × Obj)) (s : Shared) (σ : St) (H : Hp) (R : It → Hp → Prop), Inv X pins σ H s → wi σ H R →
    wpAny (model X.prog X.w) X.A (eval iter X.env) (fun v s1 => wpAny (model X.prog X.w) X.A (pyIter v) (PIE X pins σ tg R) X.xe s1) X.xe s
theorem go_of {M : Model} {A : Around} {E : Value → Shared → Prop} {s : Shared} {tg : Expr} {it : Addr} {u : Value} {o : Obj} {n : String} {vs : Array Value} {Q : Unit → Shared → Prop} (ho : s.heap.get? it = some o) (hc : o.cls = .type n) (hd : o.data = .fields vs)
    (hn : ["enumerate", "zip", "dict_itemiterator", "dict_reverseitemiterator", "odict_iterator", "itertools.zip_longest", "itertools.pairwise"].contains n = false) (hQ : Q () s) : wpAny M A (letOwnedTupleGo tg (.ref it) u) Q E s := by
  unfold letOwnedTupleGo
  cases tg <;> first
    | exact wpAny_pure hQ
    | (cases u <;> first
        | exact wpAny_pure hQ
        | (refine wpAny_bind (wpAny_load ho ?_)
           rw [hc, hd]
           show wpAny M A (if (["enumerate", "zip", "dict_itemiterator", "dict_reverseitemiterator", "odict_iterator", "itertools.zip_longest", "itertools.pairwise"].contains n && vs[0]? == some (rawInt _)) = true then _ else _) Q E s
           rw [if_neg (by intro h; rw [hn, Bool.false_and] at h; cases h)]
           exact wpAny_pure hQ))
noncomputable def Itl (K : PySem.W.Frag) (a : Addr) : It :=
  ⟨fun i H => ∃ xs x, SqL K H a xs ∧ xs[i]? = some x, fun i H x H' => H' = H ∧ ∀ xs, SqL K H a xs → xs[i]? = some x, fun i H => ∃ xs, SqL K H a xs ∧ xs.length ≤ i⟩
noncomputable def Itt (K : PySem.W.Frag) (a : Addr) : It :=
  ⟨fun i H => ∃ xs x, SqT K H a xs ∧ xs[i]? = some x, fun i H x H' => H' = H ∧ ∀ xs, SqT K H a xs → xs[i]? = some x, fun i H => ∃ xs, SqT K H a xs ∧ xs.length ≤ i⟩
noncomputable def Itr (lo : Int) (n : Nat) : It := ⟨fun i _ => i < n, fun i H x H' => H' = H ∧ x = .int (lo + i), fun i _ => n ≤ i⟩
theorem turn_list {P : Program} {w : World} {K : PySem.W.Frag} {tg : Expr} (a it : Addr) : Turn P w K tg (Itl K a) [it] it (fun i h => h.IsListIter it a i) where
  mem := by simp
  obj := fun i h st b hb => by
    have e : b = it := by simpa using hb
    subst e
    obtain ⟨o, e, c, d⟩ := st
    exact ⟨o, e, fun v z => by rw [d] at z; cases z⟩
  keep := fun i h h' st k => st.at fun o e => k it (by simp) o e
  item := by
    intro X hP hw hK hc i pins s σ H E I hf st hg
    subst hP hw hK
    obtain ⟨xs, x, hq, hx⟩ := hg
    obtain ⟨its, rv, p, hz⟩ := I.list hq
    obtain ⟨u, hu, ru⟩ := rv.get hx
    obtain ⟨f0, f1, f2, f3, f4, f5⟩ := hf it (by simp)
    refine wpAny_pyNext_list_item st p.isList (x := u) (by simpa using hu) fun h' st' sb => ?_
    have I1 : Inv X pins σ H { s with heap := h' } := I.turned (t' := s.toks) (fun b o hb e => (sb.2 b hb).trans e) f0 f1 f3 f4 f5
    obtain ⟨o, e, c, d⟩ := id st'
    exact ⟨u, rfl, go_of (s := { s with heap := h' }) e c d (by decide) ⟨x, H, I1, ru, ⟨rfl, fun ys hy => by rw [I.list_inj hy hq]; exact hx⟩, st', fun b hb => (hf b hb).1⟩⟩
  done := by
    intro X hP hw hK hc i pins s σ H E I hf st hg
    subst hP hw hK
    obtain ⟨xs, hq, hx⟩ := hg
    obtain ⟨its, rv, p, hz⟩ := I.list hq
    obtain ⟨f0, f1, f2, f3, f4, f5⟩ := hf it (by simp)
    have hl := rv.length
    exact wpAny_pyNext_list_end (I.ok.hd hc) st p.isList (by simp; omega) fun h' eb => ⟨rfl, I.turned (t' := s.toks) (fun b o hb e => eb b o hb e) f0 f1 f3 f4 f5⟩
  self := fun _ _ _ _ _ st h => wpAny_pyIter_listiter st h
theorem turn_tuple {P : Program} {w : World} {K : PySem.W.Frag} {tg : Expr} (a it : Addr) : Turn P w K tg (Itt K a) [it] it (fun i h => h.IsTupleIter it a i) where
  mem := by simp
  obj := fun i h st b hb => by
    have e : b = it := by simpa using hb
    subst e
    obtain ⟨o, e, c, d⟩ := st
    exact ⟨o, e, fun v z => by rw [d] at z; cases z⟩
  keep := fun i h h' st k => st.at fun o e => k it (by simp) o e
  item := by
    intro X hP hw hK hc i pins s σ H E I hf st hg
    subst hP hw hK
    obtain ⟨xs, x, hq, hx⟩ := hg
    obtain ⟨its, rv, p, hz⟩ := I.tuple hq
    obtain ⟨u, hu, ru⟩ := rv.get hx
    obtain ⟨f0, f1, f2, f3, f4, f5⟩ := hf it (by simp)
    refine wpAny_pyNext_tuple_item st (show s.heap.IsTuple a its.toArray from p) (x := u) (by simpa using hu) fun h' st' sb => ?_
    have I1 : Inv X pins σ H { s with heap := h' } := I.turned (t' := s.toks) (fun b o hb e => (sb.2 b hb).trans e) f0 f1 f3 f4 f5
    obtain ⟨o, e, c, d⟩ := id st'
    exact ⟨u, rfl, go_of (s := { s with heap := h' }) e c d (by decide) ⟨x, H, I1, ru, ⟨rfl, fun ys hy => by rw [I.tuple_inj hy hq]; exact hx⟩, st', fun b hb => (hf b hb).1⟩⟩
  done := by
    intro X hP hw hK hc i pins s σ H E I hf st hg
    subst hP hw hK
    obtain ⟨xs, hq, hx⟩ := hg
    obtain ⟨its, rv, p, hz⟩ := I.tuple hq
    obtain ⟨f0, f1, f2, f3, f4, f5⟩ := hf it (by simp)
    have hl := rv.length
    exact wpAny_pyNext_tuple_end (I.ok.hd hc) st (show s.heap.IsTuple a its.toArray from p) (by simp; omega) fun h' eb => ⟨rfl, I.turned (t' := s.toks) (fun b o hb e => eb b o hb e) f0 f1 f3 f4 f5⟩
  self := fun _ _ _ _ _ st h => wpAny_pyIter_tupleiter st h
theorem turn_range {P : Program} {w : World} {K : PySem.W.Frag} {tg : Expr} (it : Addr) (lo : Int) (n : Nat) : Turn P w K tg (Itr lo n) [it] it (fun i h => IsRangeIter h it (lo + (i : Nat) * 1) ((n : Int) - (i : Nat)) 1) where
  mem := by simp
  obj := fun i h st b hb => by
    have e : b = it := by simpa using hb
    subst e
    exact ⟨_, st, fun v z => by
      have z' : Data.fields _ = Data.cell v := z
      cases z'⟩
  keep := fun i h h' st k => k it (by simp) _ st
  item := by
    intro X hP hw hK hc i pins s σ H E I hf st hg
    subst hP hw hK
    obtain ⟨f0, f1, f2, f3, f4, f5⟩ := hf it (by simp)
    have W := Walks.range (prog := X.prog) (w := X.w) (I.ok.hd hc) it lo 1 n
    refine W.item i s _ _ hg st fun v h' tk hv st' kk => ?_
    obtain ⟨t, rfl⟩ := hv
    have I1 : Inv X pins σ H { s with heap := h', toks := tk } := I.turned (fun b o hb e => kk b o (by simpa using hb) e) f0 f1 f3 f4 f5
    refine ⟨_, rfl, go_of (s := { s with heap := h', toks := tk }) (n := "range_iterator") st' rfl rfl (by decide) ⟨.int (lo + i), H, I1, ⟨t, ?_⟩, ⟨rfl, rfl⟩, st', fun b hb => (hf b hb).1⟩⟩
    rw [Int.mul_one]
  done := by
    intro X hP hw hK hc i pins s σ H E I hf st hg
    subst hP hw hK
    obtain ⟨f0, f1, f2, f3, f4, f5⟩ := hf it (by simp)
    exact wpAny_pyNext_range_end (I.ok.hd hc) st (by have : n ≤ i := hg; omega) fun h' eb => ⟨rfl, I.turned (t' := s.toks) (fun b o hb e => eb b o hb e) f0 f1 f3 f4 f5⟩
  self := fun _ _ _ _ _ st h => wpAny_pyIter_rangeiter st h
end L2
namespace L2
open PySem PySem.Spec PyProof.Rows
section
variable {X : Cx} {tg : Expr}
noncomputable def iList (K : PySem.W.Frag) (tl : TE) : TI := fun σ H R => tl σ H fun x H1 => ∃ a, x = .ref a ∧ (∃ xs, SqL K H1 a xs) ∧ R (Itl K a) H1
noncomputable def iTup (K : PySem.W.Frag) (tl : TE) : TI := fun σ H R => tl σ H fun x H1 => ∃ a, x = .ref a ∧ (∃ xs, SqT K H1 a xs) ∧ R (Itt K a) H1
theorem range_it {pins : List (Addr × Obj)} {σ : St} {H : Hp} {s : Shared} {R : It → Hp → Prop} {E : Value → Shared → Prop} {lo hi : Int} {t u v : Tok} {tk : Nat} (I : Inv X pins σ H s) (h1 : -(2 ^ 62) ≤ lo) (h2 : lo < 2 ^ 62) (h3 : -(2 ^ 62) ≤ hi) (h4 : hi < 2 ^ 62)
    (q : R (Itr lo (hi - lo).toNat) H) : wpAny (model X.prog X.w) X.A (pyIter (.ref s.heap.objs.size)) (PIE X pins σ tg R) E { s with heap := s.heap.push { cls := .type "range", data := .fields #[.int lo t, .int hi u, .int 1 v] }, toks := tk } := by
  refine wpAny_pyIter_range (IsRange.new ..) (small_one h1 h2 h3 h4) ?_
  have I1 : Inv X pins σ H { s with heap := s.heap.push { cls := .type "range", data := .fields #[.int lo t, .int hi u, .int 1 v] }, toks := tk } := I.kept fun b o e => Heap.get?_push_of_some _ e
  refine ⟨(s.heap.push { cls := .type "range", data := .fields #[.int lo t, .int hi u, .int 1 v] }).objs.size, [(s.heap.push { cls := .type "range", data := .fields #[.int lo t, .int hi u, .int 1 v] }).objs.size], _, _, H, rfl,
    I1.kept (t' := tk) fun b o e => Heap.get?_push_of_some _ e, turn_range _ lo (hi - lo).toNat, ?_, fun b hb => ?_, q⟩
  · have e1 : lo + ((0 : Nat) : Int) * 1 = lo := by simp
    have e2 : (((hi - lo).toNat : Nat) : Int) - ((0 : Nat) : Int) = Builtin.Range.rangeSize lo hi 1 := by rw [rangeSize_one]; split <;> omega
    show IsRangeIter _ _ (lo + ((0 : Nat) : Int) * 1) ((((hi - lo).toNat : Nat) : Int) - ((0 : Nat) : Int)) 1
    rw [e1, e2]
    exact Heap.get?_push_size _ rfl
  · have e : b = (s.heap.push { cls := .type "range", data := .fields #[.int lo t, .int hi u, .int 1 v] }).objs.size := by simpa using hb
    subst e
    exact I1.fpOk (Nat.le_refl _) (I1.hok.fresh (Nat.le_refl _))
noncomputable def iRng1 (ta : TA) : TI := fun σ H R => ta σ H fun vs H1 => ∃ j : Int, vs = [.int j] ∧ -(2 ^ 62) ≤ j ∧ j < 2 ^ 62 ∧ R (Itr 0 j.toNat) H1
noncomputable def iRng2 (ta : TA) : TI := fun σ H R => ta σ H fun vs H1 => ∃ i j : Int, vs = [.int i, .int j] ∧ (-(2 ^ 62) ≤ i ∧ i < 2 ^ 62 ∧ -(2 ^ 62) ≤ j ∧ j < 2 ^ 62) ∧ R (Itr i (j - i).toNat) H1
theorem pi_range1 {a : Expr} {ta : TA} {p pos : Pos} (hg : Gl X "range") (hm : X.mg "range" = none) (ha : PA X [a] ta) (hs : starEach [a] X.env = [(false, eval a X.env)] := by rfl) : PI X tg (.Call (.Name "range" p) [a] [] pos) (iRng1 ta) := by
  intro pins s σ H R I h
  refine Call_ (ld_blt I hg hm boot_range (PyProof.Rows.callWith_type1 (thn (ha pos pins s σ H _ I h) fun us s1 ⟨vs, H1, I1, r1, q1⟩ => ?_) hs rfl))
  obtain ⟨j, e, q1, q2, q⟩ := q1
  subst e
  cases r1 with
  | cons r rr =>
    cases rr
    obtain ⟨t, rfl⟩ := r
    exact call_range_1 (range_it I1 (by omega) (by omega) q1 q2 (by simpa using q))
noncomputable def tFor (wi : TI) (g : TG) (tb : TS) : TS := fun D σ H => wi σ H fun J H1 => ∃ W : Nat → Nat → St → Hp → Prop, (∃ m, W 0 m σ H1) ∧ ∀ i m σ H, W i m σ H →
  (J.stop i H ∧ D.nx σ H) ∨ (J.go i H ∧ ∃ N : St → Hp → Prop, (∀ σ' H', N σ' H' → ∃ m', m' < m ∧ W (i + 1) m' σ' H') ∧ ∀ x H', J.yld i H x H' → g x σ H' fun σ2 H2 => tb { D with nx := N, ct := N, bk := D.nx } σ2 H2)
noncomputable def pinsAt (fp : List Addr) (h : Heap) : List (Addr × Obj) := fp.filterMap fun b => (h.get? b).map fun o => (b, o)
theorem mem_pinsAt {fp : List Addr} {h : Heap} {b : Addr} {o : Obj} (hb : b ∈ fp) (e : h.get? b = some o) : (b, o) ∈ pinsAt fp h := List.mem_filterMap.mpr ⟨b, hb, by rw [e]; rfl⟩
theorem of_pinsAt {fp : List Addr} {h : Heap} {p : Addr × Obj} (hp : p ∈ pinsAt fp h) : p.1 ∈ fp ∧ h.get? p.1 = some p.2 := by
  obtain ⟨b, hb, e⟩ := List.mem_filterMap.mp hp
  cases q : h.get? b with
  | none => rw [q] at e; cases e
  | some o =>
    rw [q] at e
    have e' : (b, o) = p := Option.some.inj e
    subst e'
    exact ⟨hb, q⟩
theorem Inv.pinned {pins : List (Addr × Obj)} {σ : St} {H : Hp} {s : Shared} {fp : List Addr} (I : Inv X pins σ H s) (hf : ∀ b ∈ fp, FpOk X pins H b) (ho : ∀ b ∈ fp, ∃ o, s.heap.get? b = some o ∧ ∀ v, o.data ≠ .cell v) : Inv X (pins ++ pinsAt fp s.heap) σ H s :=
  I.pins_of fun p hp => (List.mem_append.mp hp).elim (fun z => I.pin p (List.mem_append_right _ z)) fun z => by
    obtain ⟨hb, e⟩ := of_pinsAt z
    obtain ⟨f0, f1, f2, _⟩ := hf p.1 hb
    obtain ⟨o, e', d⟩ := ho p.1 hb
    rw [e] at e'; cases e'
    exact ⟨e, f0, f1, f2, d⟩
theorem Inv.unpinned {pins pl : List (Addr × Obj)} {σ : St} {H : Hp} {s : Shared} (I : Inv X (pins ++ pl) σ H s) : Inv X pins σ H s := I.pins_of fun p hp => I.pin p (List.mem_append_right _ (List.mem_append_left _ hp))
theorem ps_for {iter : Expr} {body : List Stmt} {wi : TI} {g : TG} {tb : TS} {pos : Pos} (hp : PassesOwn (model X.prog X.w) X.A X.env X.xe) (hc : X.calm = true) (hi : PI X tg iter wi) (hg : PG X tg g) (hb : PSs X body tb)
    (hs : ∀ x, foldedSetIterable iter X.env x = pure x := by intro _; rfl) : PS X (.For tg iter body [] pos) (tFor wi g tb) := by
  intro pins s σ H D I h
  refine wpAny_For (thn (hi pins s σ H _ I h) fun v s1 h1 => thn h1 fun itv s2 h2 => ?_) hs
  obtain ⟨it, fp, tn, J, H2, e, I2, T, st2, f2, W, ⟨m0, w0⟩, turn⟩ := h2
  subst e
  have stat : ∀ {H' : Hp}, (∀ b ∈ fp, H' b = none) → ∀ b ∈ fp, FpOk X pins H' b := fun hn b hb => ⟨hn b hb, (f2 b hb).2⟩
  refine codeAny_forLoop_any (fun n s' => ∃ i σ' H', Inv X pins σ' H' s' ∧ tn i s'.heap ∧ (∀ b ∈ fp, H' b = none) ∧ W i n σ' H') ?_ m0 ⟨0, σ, H2, I2, st2, fun b hb => (f2 b hb).1, w0⟩
  rintro n s3 ⟨i, σ3, H3, I3, st3, fr3, w3⟩
  rcases turn i n σ3 H3 w3 with ⟨stop, qn⟩ | ⟨go, N, hN, step⟩
  · refine wpAny_passesOwn hp (thn (T.done X rfl rfl rfl hc i pins s3 σ3 H3 X.xe I3 (stat fr3) st3 stop) fun r s4 ⟨hr, I4⟩ => ?_)
    subst hr
    exact wpAny_execs_nil ⟨σ3, H3, I4, qn⟩
  · refine wpAny_passesOwn hp (thn (T.item X rfl rfl rfl hc i pins s3 σ3 H3 X.xe I3 (stat fr3) st3 go) fun r s4 ⟨u, hr, h4⟩ => ?_)
    subst hr
    refine wpAny_passesOwn hp (thn h4 fun _ s5 ⟨x, H5, I5, r5, y5, st5, fr5⟩ => ?_)
    have I5' := I5.pinned (stat fr5) (T.obj _ _ st5)
    refine wpAny_passesOwn hp (thn (hg _ s5 σ3 H5 x u _ I5' r5 (step x H5 y5)) fun _ s6 ⟨σ6, H6, I6, q6⟩ => ?_)
    refine wpAny_passesOwn hp (thn (hb _ s6 σ6 H6 _ I6 q6) fun f s7 q7 => ?_)
    have again : ∀ {σ7 : St} {H7 : Hp}, Inv X (pins ++ pinsAt fp s5.heap) σ7 H7 s7 → N σ7 H7 → ∃ m, m < n ∧ ∃ i σ' H', Inv X pins σ' H' s7 ∧ tn i s7.heap ∧ (∀ b ∈ fp, H' b = none) ∧ W i m σ' H' := fun {σ7 H7} I7 n7 => by
      obtain ⟨m', hm, w7⟩ := hN σ7 H7 n7
      refine ⟨m', hm, i + 1, σ7, H7, I7.unpinned, T.keep _ _ _ st5 fun b hb o e => (I7.pin (b, o) (List.mem_append_right _ (List.mem_append_right _ (mem_pinsAt hb e)))).1, fun b hb => ?_, w7⟩
      obtain ⟨o, e, d⟩ := T.obj _ _ st5 b hb
      exact (I7.pin (b, o) (List.mem_append_right _ (List.mem_append_right _ (mem_pinsAt hb e)))).2.1
    cases f with
    | next => obtain ⟨σ7, H7, I7, n7⟩ := q7; exact again I7 n7
    | cont => obtain ⟨σ7, H7, I7, n7⟩ := q7; exact again I7 n7
    | brk => obtain ⟨σ7, H7, I7, q7⟩ := q7; exact ⟨σ7, H7, I7.unpinned, q7⟩
    | ret v => obtain ⟨x7, σ7, H7, I7, r7, q7⟩ := q7; exact ⟨x7, σ7, H7, I7.unpinned, r7, q7⟩
end
theorem for_list {K : PySem.W.Frag} {a : Addr} {xs : List V} {g : TG} {tb : TS} {D : Ends} {σ : St} {H : Hp} (Pv : Nat → St → Hp → Prop) (h0 : Pv 0 σ H) (hl : ∀ i σ H, i ≤ xs.length → Pv i σ H → SqL K H a xs)
    (hs : ∀ i x σ H, xs[i]? = some x → Pv i σ H → g x σ H fun σ2 H2 => tb { D with nx := Pv (i + 1), ct := Pv (i + 1), bk := D.nx } σ2 H2) (hd : ∀ σ H, Pv xs.length σ H → D.nx σ H) :
    ∃ W : Nat → Nat → St → Hp → Prop, (∃ m, W 0 m σ H) ∧ ∀ i m σ H, W i m σ H →
      ((Itl K a).stop i H ∧ D.nx σ H) ∨ ((Itl K a).go i H ∧ ∃ N : St → Hp → Prop, (∀ σ' H', N σ' H' → ∃ m', m' < m ∧ W (i + 1) m' σ' H') ∧ ∀ x H', (Itl K a).yld i H x H' → g x σ H' fun σ2 H2 => tb { D with nx := N, ct := N, bk := D.nx } σ2 H2) := by
  refine ⟨fun i m σ H => m = xs.length - i ∧ i ≤ xs.length ∧ Pv i σ H, ⟨xs.length, by simp, Nat.zero_le _, h0⟩, ?_⟩
  rintro i m σ H ⟨rfl, hi, p⟩
  have q := hl i σ H hi p
  by_cases hlt : i < xs.length
  · refine .inr ⟨⟨xs, xs[i], q, by simp [hlt]⟩, Pv (i + 1), fun σ' H' p' => ⟨xs.length - (i + 1), by omega, rfl, hlt, p'⟩, fun x H' y => ?_⟩
    obtain ⟨e, y⟩ := y
    subst e
    exact hs i x σ _ (y xs q) p
  · have e : i = xs.length := by omega
    subst e
    exact .inl ⟨⟨xs, q, Nat.le_refl _⟩, hd σ H p⟩
theorem for_tup {K : PySem.W.Frag} {a : Addr} {xs : List V} {g : TG} {tb : TS} {D : Ends} {σ : St} {H : Hp} (Pv : Nat → St → Hp → Prop) (h0 : Pv 0 σ H) (hl : ∀ i σ H, i ≤ xs.length → Pv i σ H → SqT K H a xs)
    (hs : ∀ i x σ H, xs[i]? = some x → Pv i σ H → g x σ H fun σ2 H2 => tb { D with nx := Pv (i + 1), ct := Pv (i + 1), bk := D.nx } σ2 H2) (hd : ∀ σ H, Pv xs.length σ H → D.nx σ H) :
    ∃ W : Nat → Nat → St → Hp → Prop, (∃ m, W 0 m σ H) ∧ ∀ i m σ H, W i m σ H →
      ((Itt K a).stop i H ∧ D.nx σ H) ∨ ((Itt K a).go i H ∧ ∃ N : St → Hp → Prop, (∀ σ' H', N σ' H' → ∃ m', m' < m ∧ W (i + 1) m' σ' H') ∧ ∀ x H', (Itt K a).yld i H x H' → g x σ H' fun σ2 H2 => tb { D with nx := N, ct := N, bk := D.nx } σ2 H2) := by
  refine ⟨fun i m σ H => m = xs.length - i ∧ i ≤ xs.length ∧ Pv i σ H, ⟨xs.length, by simp, Nat.zero_le _, h0⟩, ?_⟩
  rintro i m σ H ⟨rfl, hi, p⟩
  have q := hl i σ H hi p
  by_cases hlt : i < xs.length
  · refine .inr ⟨⟨xs, xs[i], q, by simp [hlt]⟩, Pv (i + 1), fun σ' H' p' => ⟨xs.length - (i + 1), by omega, rfl, hlt, p'⟩, fun x H' y => ?_⟩
    obtain ⟨e, y⟩ := y
    subst e
    exact hs i x σ _ (y xs q) p
  · have e : i = xs.length := by omega
    subst e
    exact .inl ⟨⟨xs, q, Nat.le_refl _⟩, hd σ H p⟩
theorem for_range {lo : Int} {n : Nat} {g : TG} {tb : TS} {D : Ends} {σ : St} {H : Hp} (Pv : Nat → St → Hp → Prop) (h0 : Pv 0 σ H)
    (hs : ∀ i σ H, i < n → Pv i σ H → g (.int (lo + i)) σ H fun σ2 H2 => tb { D with nx := Pv (i + 1), ct := Pv (i + 1), bk := D.nx } σ2 H2) (hd : ∀ σ H, Pv n σ H → D.nx σ H) :
    ∃ W : Nat → Nat → St → Hp → Prop, (∃ m, W 0 m σ H) ∧ ∀ i m σ H, W i m σ H →
      ((Itr lo n).stop i H ∧ D.nx σ H) ∨ ((Itr lo n).go i H ∧ ∃ N : St → Hp → Prop, (∀ σ' H', N σ' H' → ∃ m', m' < m ∧ W (i + 1) m' σ' H') ∧ ∀ x H', (Itr lo n).yld i H x H' → g x σ H' fun σ2 H2 => tb { D with nx := N, ct := N, bk := D.nx } σ2 H2) := by
  refine ⟨fun i m σ H => m = n - i ∧ i ≤ n ∧ Pv i σ H, ⟨n, by simp, Nat.zero_le _, h0⟩, ?_⟩
  rintro i m σ H ⟨rfl, hi, p⟩
  by_cases hlt : i < n
  · refine .inr ⟨hlt, Pv (i + 1), fun σ' H' p' => ⟨n - (i + 1), by omega, rfl, hlt, p'⟩, fun x H' y => ?_⟩
    obtain ⟨e, y⟩ := y
    subst e y
    exact hs i σ _ hlt p
  · have e : i = n := by omega
    subst e
    exact .inl ⟨Nat.le_refl _, hd σ H p⟩
end L2
namespace L2
open PySem PySem.Spec PyProof.Rows
abbrev R2 := V → V → Hp → VK → Prop
noncomputable def OpR (X : Cx) (f : Value → Value → Sem Value) (r : R2) : Prop :=
  ∀ (pins : List (Addr × Obj)) (s : Shared) (σ : St) (H : Hp) (x y : V) (v u : Value) (Q : VK), Inv X pins σ H s → RelV x v → RelV y u → r x y H Q →
    wpAny (model X.prog X.w) X.A (f v u) (EP X pins σ Q) X.xe s
noncomputable def UnR (X : Cx) (f : Value → Sem Value) (r : V → Hp → VK → Prop) : Prop :=
  ∀ (pins : List (Addr × Obj)) (s : Shared) (σ : St) (H : Hp) (x : V) (v : Value) (Q : VK), Inv X pins σ H s → RelV x v → r x H Q →
    wpAny (model X.prog X.w) X.A (f v) (EP X pins σ Q) X.xe s
noncomputable def CallR (X : Cx) (f : Value) (r : List V → Hp → VK → Prop) : Prop :=
  ∀ (pins : List (Addr × Obj)) (s : Shared) (σ : St) (H : Hp) (xs : List V) (us : List Value) (Q : VK), Inv X pins σ H s → Vals xs us → r xs H Q →
    wpAny (model X.prog X.w) X.A (call f us) (EP X pins σ Q) X.xe s
noncomputable def TruR (X : Cx) (r : V → Hp → (Bool → Hp → Prop) → Prop) : Prop :=
  ∀ (pins : List (Addr × Obj)) (s : Shared) (σ : St) (H : Hp) (x : V) (v : Value) (Q : Bool → Hp → Prop), Inv X pins σ H s → RelV x v → r x H Q →
    wpAny (model X.prog X.w) X.A (truthy v) (TP X pins σ Q) X.xe s
noncomputable def tOp (r : R2) (ta tb : TE) : TE := fun σ H Q => ta σ H fun x H1 => tb σ H1 fun y H2 => r x y H2 Q
noncomputable def tUn (r : V → Hp → VK → Prop) (ta : TE) : TE := fun σ H Q => ta σ H fun x H1 => r x H1 Q
noncomputable def rI (C : Int → Int → Prop) (g : Int → Int → V) : R2 := fun x y H Q => ∃ i j, x = .int i ∧ y = .int j ∧ C i j ∧ Q (g i j) H
noncomputable def rI0 (g : Int → Int → V) : R2 := fun x y H Q => ∃ i j, x = .int i ∧ y = .int j ∧ Q (g i j) H
noncomputable def rU (g : Int → V) : V → Hp → VK → Prop := fun x H Q => ∃ i, x = .int i ∧ Q (g i) H
section
variable {X : Cx} {a b c : Expr} {ta tb tc : TE} {pos : Pos}
theorem binT (ha : PE X a ta) (hb : PE X b tb) {pins : List (Addr × Obj)} {s : Shared} {σ : St} {H : Hp} {R : V → V → Hp → Prop} (I : Inv X pins σ H s)
    (h : ta σ H fun x H1 => tb σ H1 fun y H2 => R x y H2) {Q : Value → Shared → Prop} {f : Value → Value → Sem Value}
    (hf : ∀ v u s2 x y H2, Inv X pins σ H2 s2 → RelV x v → RelV y u → R x y H2 → wpAny (model X.prog X.w) X.A (f v u) Q X.xe s2) :
    wpAny (model X.prog X.w) X.A (eval a X.env) (fun v s₁ => wpAny (model X.prog X.w) X.A (eval b X.env) (fun u s₂ => wpAny (model X.prog X.w) X.A (f v u) Q X.xe s₂) X.xe s₁) X.xe s := by
  refine thn (ha pins s σ H _ I h) fun v s1 ⟨x, H1, I1, r1, q1⟩ => ?_
  refine thn (hb pins s1 σ H1 _ I1 q1) fun u s2 ⟨y, H2, I2, r2, q2⟩ => ?_
  exact hf v u s2 x y H2 I2 r1 r2 q2
theorem pe_op {op : Operator} {r : R2} (ho : OpR X (binaryOp op) r) (ha : PE X a ta) (hb : PE X b tb) : PE X (.BinOp a op b pos) (tOp r ta tb) := by
  intro pins s σ H Q I h
  exact wpAny_BinOp (binT ha hb I h fun v u s2 x y H2 I2 rx ry q => ho pins s2 σ H2 x y v u Q I2 rx ry q)
theorem pe_un {op : UnaryOp} {r : V → Hp → VK → Prop} (ho : UnR X (unaryOp op) r) (ha : PE X a ta) : PE X (.UnaryOp op a pos) (tUn r ta) := by
  intro pins s σ H Q I h
  exact UnaryOp_ (thn (ha pins s σ H _ I h) fun v s1 ⟨x, H1, I1, r1, q1⟩ => ho pins s1 σ H1 x v Q I1 r1 q1)
theorem opI {f : Value → Value → Sem Value} {C : Int → Int → Prop} {g : Int → Int → Int}
    (rule : ∀ (i j : Int) (t u : Tok) (s : Shared) (Q : Value → Shared → Prop) (E : Value → Shared → Prop), C i j → Q (.int (g i j) s.toks) { s with toks := s.toks + 1 } → wpAny (model X.prog X.w) X.A (f (.int i t) (.int j u)) Q E s) :
    OpR X f (rI C fun i j => .int (g i j)) := by
  intro pins s σ H x y v u Q I rx ry h
  obtain ⟨i, j, rfl, rfl, hc, q⟩ := h
  obtain ⟨t, rfl⟩ := rx
  obtain ⟨t', rfl⟩ := ry
  exact rule i j t t' s _ _ hc ⟨.int (g i j), H, I.tok _, ⟨_, rfl⟩, q⟩
theorem opI0 {f : Value → Value → Sem Value} {g : Int → Int → Int}
    (rule : ∀ (i j : Int) (t u : Tok) (s : Shared) (Q : Value → Shared → Prop) (E : Value → Shared → Prop), Q (.int (g i j) s.toks) { s with toks := s.toks + 1 } → wpAny (model X.prog X.w) X.A (f (.int i t) (.int j u)) Q E s) :
    OpR X f (rI0 fun i j => .int (g i j)) := by
  intro pins s σ H x y v u Q I rx ry h
  obtain ⟨i, j, rfl, rfl, q⟩ := h
  obtain ⟨t, rfl⟩ := rx
  obtain ⟨t', rfl⟩ := ry
  exact rule i j t t' s _ _ ⟨.int (g i j), H, I.tok _, ⟨_, rfl⟩, q⟩
theorem opB0 {f : Value → Value → Sem Value} {g : Int → Int → Bool}
    (rule : ∀ (i j : Int) (t u : Tok) (s : Shared) (Q : Value → Shared → Prop) (E : Value → Shared → Prop), Q (.bool (g i j)) s → wpAny (model X.prog X.w) X.A (f (.int i t) (.int j u)) Q E s) :
    OpR X f (rI0 fun i j => .bl (g i j)) := by
  intro pins s σ H x y v u Q I rx ry h
  obtain ⟨i, j, rfl, rfl, q⟩ := h
  obtain ⟨t, rfl⟩ := rx
  obtain ⟨t', rfl⟩ := ry
  exact rule i j t t' s _ _ ⟨.bl (g i j), H, I, rfl, q⟩
noncomputable def CDiv (i j : Int) : Prop := 0 < j ∧ j < 1073741824
noncomputable def CDivN (i j : Int) : Prop := j ≠ 0 ∧ j.natAbs < 1073741824
noncomputable def CPow (i j : Int) : Prop := 0 ≤ j ∧ j ≤ 1000000 ∧ i.natAbs < 2 ^ 64
noncomputable def CMul (i j : Int) : Prop := (-(2 ^ 64) < i ∧ i < 2 ^ 64) ∨ (-(2 ^ 64) < j ∧ j < 2 ^ 64)
theorem CMul.ok {i j : Int} (h : CMul i j) : IntMulOk i j := by
  rcases h with ⟨h1, h2⟩ | ⟨h1, h2⟩
  · exact .of_left (intBits_le_64 h1 h2)
  · exact .of_right (intBits_le_64 h1 h2)
theorem op_add : OpR X (binaryOp .Add) (rI0 fun i j => .int (i + j)) := opI0 fun _ _ _ _ _ _ _ q => add_int q
theorem op_mul : OpR X (binaryOp .Mult) (rI CMul fun i j => .int (i * j)) := opI fun _ _ _ _ _ _ _ hc q => mul_int q hc.ok
theorem op_fdiv : OpR X (binaryOp .FloorDiv) (rI CDiv fun i j => .int (i / j)) := opI fun i j _ _ _ _ _ hc q => by
  have h1 : (0 : Int) < j := hc.1
  have h2 : j < 1073741824 := hc.2
  exact floordiv_int (by omega) (by rw [Int.fdiv_eq_ediv_of_nonneg i (by omega)]; exact q) (.inl (PyProof.noPylong_small (by omega)))
theorem op_mod : OpR X (binaryOp .Mod) (rI (fun _ j => 0 < j) fun i j => .int (i % j)) := opI fun i j _ _ _ _ _ hc q => by
  have h1 : (0 : Int) < j := hc
  exact mod_int' (by omega) (by rw [Int.fmod_eq_emod_of_nonneg i (by omega)]; exact q)
theorem unI {f : Value → Sem Value} {g : Int → Int}
    (rule : ∀ (i : Int) (t : Tok) (s : Shared) (Q : Value → Shared → Prop) (E : Value → Shared → Prop), Q (.int (g i) s.toks) { s with toks := s.toks + 1 } → wpAny (model X.prog X.w) X.A (f (.int i t)) Q E s) :
    UnR X f (rU fun i => .int (g i)) := by
  intro pins s σ H x v Q I rx h
  obtain ⟨i, rfl, q⟩ := h
  obtain ⟨t, rfl⟩ := rx
  exact rule i t s _ _ ⟨.int (g i), H, I.tok _, ⟨_, rfl⟩, q⟩
theorem un_neg : UnR X (unaryOp .USub) (rU fun i => .int (-i)) := unI fun _ _ _ _ _ q => neg_int q
end
noncomputable def scal : V → V → Bool
  | .non, .non => true | .non, .int _ => true | .int _, .non => true | .non, .bl _ => true | .bl _, .non => true | .non, .str _ => true | .str _, .non => true
  | .int _, .int _ => true | .bl _, .bl _ => true | .str _, .str _ => true | .byt _, .byt _ => true
  | .int _, .str _ => true | .str _, .int _ => true | .bl _, .str _ => true | .str _, .bl _ => true
  | _, _ => false
noncomputable def rEq : R2 := fun x y H Q => scal x y = true ∧ Q (.bl (decide (x = y))) H
noncomputable def rNe : R2 := fun x y H Q => scal x y = true ∧ Q (.bl (!decide (x = y))) H
theorem dec_int {i j : Int} : decide (V.int i = V.int j) = (i == j) := by
  rw [Bool.eq_iff_iff]
  simp
theorem dec_bl {i j : Bool} : decide (V.bl i = V.bl j) = (i == j) := by
  rw [Bool.eq_iff_iff]
  simp
theorem dec_str {i j : Str} : decide (V.str i = V.str j) = (i == j) := by
  rw [Bool.eq_iff_iff]
  simp
theorem dec_byt {i j : Array UInt8} : decide (V.byt i = V.byt j) = (i.toList == j.toList) := by
  rw [Bool.eq_iff_iff]
  cases i
  cases j
  simp
section
variable {X : Cx} {a b c : Expr} {ta tb tc : TE} {pos : Pos}
theorem fin_bl {pins : List (Addr × Obj)} {σ : St} {H : Hp} {s : Shared} {Q : VK} {k k' : Bool} (I : Inv X pins σ H s) (q : Q (.bl k) H) (e : k = k') : EP X pins σ Q (.bool k') s := by
  subst e
  exact ⟨.bl k, H, I, rfl, q⟩
theorem op_eq : OpR X (compareOp .Eq) rEq := by
  intro pins s σ H x y v u Q I rx ry h
  obtain ⟨hs, q⟩ := h
  cases x with
  | non =>
    cases rx
    cases y with
    | non => cases ry; exact PySem.EqNone.eq_none_none (fin_bl I q (by simp))
    | bl j => cases ry; exact PySem.EqNone.eq_none_bool (fin_bl I q (by simp))
    | int j => obtain ⟨t', rfl⟩ := ry; exact PySem.EqNone.eq_none_int (fin_bl I q (by simp))
    | str j => obtain ⟨t', rfl⟩ := ry; exact PySem.EqNone.eq_none_str (fin_bl I q (by simp))
    | _ => exact absurd (show false = true from hs) Bool.false_ne_true
  | bl i =>
    cases rx
    cases y with
    | non => cases ry; exact PySem.EqNone.eq_bool_none (fin_bl I q (by simp))
    | bl j => cases ry; exact eq_bool (fin_bl I q dec_bl)
    | str j => obtain ⟨t', rfl⟩ := ry; exact PySem.EqMixed.eq_bool_str (fin_bl I q (by simp))
    | _ => exact absurd (show false = true from hs) Bool.false_ne_true
  | int i =>
    obtain ⟨t, rfl⟩ := rx
    cases y with
    | non => cases ry; exact PySem.EqNone.eq_int_none (fin_bl I q (by simp))
    | int j => obtain ⟨t', rfl⟩ := ry; exact eq_int (fin_bl I q dec_int)
    | str j => obtain ⟨t', rfl⟩ := ry; exact PySem.EqMixed.eq_int_str (fin_bl I q (by simp))
    | _ => exact absurd (show false = true from hs) Bool.false_ne_true
  | str i =>
    obtain ⟨t, rfl⟩ := rx
    cases y with
    | non => cases ry; exact PySem.EqNone.eq_str_none (fin_bl I q (by simp))
    | bl j => cases ry; exact PySem.EqMixed.eq_str_bool (fin_bl I q (by simp))
    | int j => obtain ⟨t', rfl⟩ := ry; exact PySem.EqMixed.eq_str_int (fin_bl I q (by simp))
    | str j => obtain ⟨t', rfl⟩ := ry; exact eq_str (fin_bl I q dec_str)
    | _ => exact absurd (show false = true from hs) Bool.false_ne_true
  | byt i =>
    obtain ⟨t, rfl⟩ := rx
    cases y with
    | byt j => obtain ⟨t', rfl⟩ := ry; exact PySem.W.eq_bytes (fin_bl I q dec_byt)
    | _ => exact absurd (show false = true from hs) Bool.false_ne_true
  | _ => cases y <;> exact absurd (show false = true from hs) Bool.false_ne_true
theorem op_ne : OpR X (compareOp .NotEq) rNe := by
  intro pins s σ H x y v u Q I rx ry h
  obtain ⟨hs, q⟩ := h
  cases x with
  | non =>
    cases rx
    cases y with
    | non => cases ry; exact PySem.EqNone.ne_none_none (fin_bl I q (by simp))
    | bl j => cases ry; exact PySem.EqNone.ne_none_bool (fin_bl I q (by simp))
    | int j => obtain ⟨t', rfl⟩ := ry; exact PySem.EqNone.ne_none_int (fin_bl I q (by simp))
    | str j => obtain ⟨t', rfl⟩ := ry; exact PySem.EqNone.ne_none_str (fin_bl I q (by simp))
    | _ => exact absurd (show false = true from hs) Bool.false_ne_true
  | bl i =>
    cases rx
    cases y with
    | non => cases ry; exact PySem.EqNone.ne_bool_none (fin_bl I q (by simp))
    | bl j => cases ry; exact ne_bool (fin_bl I q (congrArg not dec_bl))
    | str j => obtain ⟨t', rfl⟩ := ry; exact PySem.EqMixed.ne_bool_str (fin_bl I q (by simp))
    | _ => exact absurd (show false = true from hs) Bool.false_ne_true
  | int i =>
    obtain ⟨t, rfl⟩ := rx
    cases y with
    | non => cases ry; exact PySem.EqNone.ne_int_none (fin_bl I q (by simp))
    | int j => obtain ⟨t', rfl⟩ := ry; exact ne_int (fin_bl I q (congrArg not dec_int))
    | str j => obtain ⟨t', rfl⟩ := ry; exact PySem.EqMixed.ne_int_str (fin_bl I q (by simp))
    | _ => exact absurd (show false = true from hs) Bool.false_ne_true
  | str i =>
    obtain ⟨t, rfl⟩ := rx
    cases y with
    | non => cases ry; exact PySem.EqNone.ne_str_none (fin_bl I q (by simp))
    | bl j => cases ry; exact PySem.EqMixed.ne_str_bool (fin_bl I q (by simp))
    | int j => obtain ⟨t', rfl⟩ := ry; exact PySem.EqMixed.ne_str_int (fin_bl I q (by simp))
    | str j => obtain ⟨t', rfl⟩ := ry; exact ne_str (fin_bl I q (congrArg not dec_str))
    | _ => exact absurd (show false = true from hs) Bool.false_ne_true
  | byt i =>
    obtain ⟨t, rfl⟩ := rx
    cases y with
    | byt j => obtain ⟨t', rfl⟩ := ry; exact PySem.W.ne_bytes (fin_bl I q (congrArg not dec_byt))
    | _ => exact absurd (show false = true from hs) Bool.false_ne_true
  | _ => cases y <;> exact absurd (show false = true from hs) Bool.false_ne_true
theorem op_lt : OpR X (compareOp .Lt) (rI0 fun i j => .bl (decide (i < j))) := opB0 fun _ _ _ _ _ _ _ q => lt_int q
theorem op_le : OpR X (compareOp .LtE) (rI0 fun i j => .bl (decide (i ≤ j))) := opB0 fun _ _ _ _ _ _ _ q => le_int q
theorem op_gt : OpR X (compareOp .Gt) (rI0 fun i j => .bl (decide (j < i))) := opB0 fun _ _ _ _ _ _ _ q => gt_int q
noncomputable def isObj : HO → Bool
  | .lst _ => true
  | .ins _ _ _ => true
  | _ => false
theorem OpR.or {f : Value → Value → Sem Value} {r r' : R2} (h : OpR X f r) (h' : OpR X f r') : OpR X f (fun x y H Q => r x y H Q ∨ r' x y H Q) := by
  intro pins s σ H x y v u Q I rx ry q
  rcases q with q | q
  · exact h pins s σ H x y v u Q I rx ry q
  · exact h' pins s σ H x y v u Q I rx ry q
theorem nomark (b : Expr) {op : CmpOp} (h : op ≠ .In := by decide) (h2 : op ≠ .NotIn := by decide) : behindInMarks op b = false := by
  have e1 : (op == CmpOp.In) = false := by cases op <;> first | rfl | exact absurd rfl h
  have e2 : (op == CmpOp.NotIn) = false := by cases op <;> first | rfl | exact absurd rfl h2
  cases b <;> simp [behindInMarks, e1, e2]
theorem pe_cmpR {op : CmpOp} {r : R2} (ho : OpR X (compareOp op) r) (ha : PE X a ta) (hb : PE X b tb) (hm : behindInMarks op b = false) : PE X (.Compare a [op] [b] pos) (tOp r ta tb) := by
  intro pins s σ H Q I h
  exact wpAny_Compare1 (binT ha hb I h fun v u s2 x y H2 I2 rx ry q => ho pins s2 σ H2 x y v u Q I2 rx ry q) hm
noncomputable def tTest (t : TE) : TT := fun σ H Q => t σ H fun x H' => ∃ k, x = .bl k ∧ Q k H'
theorem pt_cmpR {op : CmpOp} {r : R2} (ho : OpR X (compareOp op) r) (ha : PE X a ta) (hb : PE X b tb) (hm : behindInMarks op b = false) : PT X (.Compare a [op] [b] pos) (tTest (tOp r ta tb)) := by
  intro pins s σ H Q I h
  refine wpAny_isTrue_Compare1 (thn (ha pins s σ H _ I h) fun v s1 ⟨x, H1, I1, r1, q1⟩ => thn (hb pins s1 σ H1 _ I1 q1) fun u s2 ⟨y, H2, I2, r2, q2⟩ =>
    thn (ho pins s2 σ H2 x y v u _ I2 r1 r2 q2) fun c s3 ⟨z, H3, I3, r3, k, e, q3⟩ => ?_) hm
  subst e
  cases r3
  exact wpAny_truthy_bool ⟨H3, I3, q3⟩
noncomputable def tChain (r r' : R2) (ta tb tc : TE) : TE := fun σ H Q => ta σ H fun x H1 => tb σ H1 fun y H2 => r x y H2 fun z H3 => ∃ k, z = .bl k ∧
  (if k = true then tc σ H3 fun w' H4 => r' y w' H4 Q else Q (.bl false) H3)
theorem pe_chain {op op' : CmpOp} {r r' : R2} (ho : OpR X (compareOp op) r) (ho' : OpR X (compareOp op') r') (ha : PE X a ta) (hb : PE X b tb) (hc : PE X c tc)
    (hm : lastMarks [op, op'] [b, c] = false := by with_unfolding_all rfl) : PE X (.Compare a [op, op'] [b, c] pos) (tChain r r' ta tb tc) := by
  intro pins s σ H Q I h
  refine Compare_chain (thn (ha pins s σ H _ I h) fun v s1 ⟨x, H1, I1, r1, q1⟩ => chain_link (thn (hb pins s1 σ H1 _ I1 q1) fun u s2 ⟨y, H2, I2, r2, q2⟩ =>
    thn (ho pins s2 σ H2 x y v u _ I2 r1 r2 q2) fun d s3 ⟨z, H3, I3, r3, k, e, q3⟩ => ?_)) hm
  subst e
  cases r3
  refine wpAny_truthy_bool ?_
  cases k with
  | false => exact ite_ff ⟨.bl false, H3, I3, rfl, q3⟩
  | true => exact ite_tt (chain_last (thn (hc pins s3 σ H3 _ I3 q3) fun w' s4 ⟨z', H4, I4, r4, q4⟩ => ho' pins s4 σ H4 y z' u w' Q I4 r2 r4 q4))
theorem pt_chain {op op' : CmpOp} {r r' : R2} (ho : OpR X (compareOp op) r) (ho' : OpR X (compareOp op') r') (ha : PE X a ta) (hb : PE X b tb) (hc : PE X c tc)
    (hm : lastMarks [op, op'] [b, c] = false := by with_unfolding_all rfl) : PT X (.Compare a [op, op'] [b, c] pos) (tTest (tChain r r' ta tb tc)) := by
  intro pins s σ H Q I h
  refine isTrue_chain (thn (ha pins s σ H _ I h) fun v s1 ⟨x, H1, I1, r1, q1⟩ => test_link (thn (hb pins s1 σ H1 _ I1 q1) fun u s2 ⟨y, H2, I2, r2, q2⟩ =>
    thn (ho pins s2 σ H2 x y v u _ I2 r1 r2 q2) fun d s3 ⟨z, H3, I3, r3, k, e, q3⟩ => ?_)) hm
  subst e
  cases r3
  refine wpAny_truthy_bool ?_
  cases k with
  | false =>
    obtain ⟨k', e', q'⟩ := q3
    cases e'
    exact ite_ff ⟨H3, I3, q'⟩
  | true =>
    refine ite_tt (test_last (thn (hc pins s3 σ H3 _ I3 q3) fun w' s4 ⟨z', H4, I4, r4, q4⟩ => thn (ho' pins s4 σ H4 y z' u w' _ I4 r2 r4 q4) fun d' s5 ⟨z2, H5, I5, r5, k2, e2, q5⟩ => ?_))
    subst e2
    cases r5
    exact wpAny_truthy_bool ⟨H5, I5, q5⟩
noncomputable def TruV (K : PySem.W.Frag) (x : V) (H : Hp) (k : Bool) : Prop :=
  match x with
  | .non => k = false
  | .bl b => k = b
  | .int i => k = (i != 0)
  | .str y => y.length ≤ sizeLine ∧ k = ((y.length : Int) != 0)
  | .byt y => y.size ≤ sizeLine ∧ k = ((y.size : Int) != 0)
  | .ref p => (∃ xs, SqL K H p xs ∧ k = !xs.isEmpty) ∨ (∃ xs, SqT K H p xs ∧ k = !xs.isEmpty) ∨ ∃ kvs, H p = some (.dK kvs) ∧ k = !kvs.isEmpty
  | _ => False
theorem line63 : (sizeLine : Nat) < 2 ^ 63 := by rw [sizeLine_eq]; decide
theorem op_add_str : OpR X (binaryOp .Add) (fun x y H Q => ∃ i j, x = .str i ∧ y = .str j ∧ i.length + j.length ≤ sizeLine ∧ Q (.str (i ++ j)) H) := by
  intro pins s σ H x y v u Q I rx ry h
  obtain ⟨i, j, rfl, rfl, hz, q⟩ := h
  obtain ⟨t, rfl⟩ := rx
  obtain ⟨t', rfl⟩ := ry
  exact add_str (fun t' tk => ⟨.str (i ++ j), H, I.tok _, ⟨_, rfl⟩, q⟩) hz
noncomputable def PlainIxT (b : Expr) : Prop := ∀ o i, subscripted b false o i = operate [o, i] (getItem o i)
theorem vals1 {x : V} {us : List Value} (r : Vals [x] us) : ∃ u, us = [u] ∧ RelV x u := by
  cases r with
  | cons r1 r2 => cases r2; exact ⟨_, rfl, r1⟩
theorem vals2 {x y : V} {us : List Value} (r : Vals [x, y] us) : ∃ u w', us = [u, w'] ∧ RelV x u ∧ RelV y w' := by
  cases r with
  | cons r1 r2 =>
    cases r2 with
    | cons r3 r4 => cases r4; exact ⟨_, _, rfl, r1, r3⟩
theorem call_str_int : CallR X (.type "str") (fun xs H Q => ∃ i, xs = [.int i] ∧ i.natAbs.log2 < 1920 ∧ Q (.str (toString i)) H) := by
  intro pins s σ H xs us Q I r h
  obtain ⟨i, rfl, hz, q⟩ := h
  obtain ⟨u, rfl, t, rfl⟩ := vals1 r
  exact PySem.P.str_of_int hz ⟨.str _, H, I.tok _, ⟨_, rfl⟩, q⟩
noncomputable def LenV (K : PySem.W.Frag) (x : V) (H : Hp) (n : Nat) : Prop :=
  match x with
  | .str y => y.length ≤ sizeLine ∧ n = y.length
  | .byt y => y.size ≤ sizeLine ∧ n = y.size
  | .ref p => (∃ xs, SqL K H p xs ∧ n = xs.length) ∨ ∃ xs, SqT K H p xs ∧ n = xs.length
  | _ => False
end
end L2
namespace L2
open PySem PySem.Spec PyProof.Rows
structure ObjM (h : Heap) (x dx C : Addr) (mA : Str → Option Value) : Prop where
  obj : h.get? x = some (PySem.W.instObj C dx)
  ns : h.Ns1 dx mA
  ne : dx ≠ x
theorem lookIn_ns {h : Heap} {dx : Addr} {mA : Str → Option Value} (n : h.Ns1 dx mA) : ∃ od, h.get? dx = some od ∧ ∀ name, PySem.W.lookIn name od = some (mA name) := by
  obtain ⟨o, es, ep, ho, hd, hk, _, hm⟩ := n
  refine ⟨o, ho, fun name => ?_⟩
  have e := hm name
  unfold nsFind findBy at e
  rw [← Array.find?_toList] at e
  unfold PySem.W.lookIn
  rw [hd]
  dsimp only
  split
  · rename_i y q
    rw [q] at e
    exact congrArg some e
  · rename_i q
    rw [q] at e
    have a : es.toList.any (·.refKey) = false := by
      rw [List.any_eq_false]
      intro y hy
      obtain ⟨z, t, hkey⟩ := hk y (Array.mem_toList_iff.mp hy)
      simp [DictEntry.refKey, hkey]
    have a' : ¬ es.toList.any (·.refKey) = true := by rw [a]; exact Bool.false_ne_true
    rw [if_neg a']
    exact congrArg some e
theorem ObjM.look {h : Heap} {x dx C : Addr} {mA : Str → Option Value} (I : ObjM h x dx C mA) : ∃ od, PySem.W.InstAt h x (PySem.W.instObj C dx) C (some od) ∧ ∀ name, PySem.W.lookIn name od = some (mA name) :=
  let ⟨od, ho, hl⟩ := lookIn_ns I.ns
  ⟨od, ⟨I.obj, rfl, rfl, ho⟩, hl⟩
section
variable {prog : Program} {w : World} {A : Around} {E : Value → Shared → Prop} {s : Shared} {K : PySem.W.Frag} {x dx C f : Addr} {mA : Str → Option Value} {name : Str} {v : Value}
theorem get_map {expr : Bool} {Q : Value → Shared → Prop} (X : K.In s.heap) (I : ObjM s.heap x dx C mA) (hg : PySem.W.plainGet K C name = true) (hh : PySem.W.hasDictIn K C = true)
    (ha : PySem.W.findIn K (.ref C) name = some none) (hv : mA name = some v) (hv' : PySem.W.handedIn v = true) (h : Q v { s with toks := s.toks + 1 }) :
    wpAny (model prog w) A (getAttr (.ref x) name expr) Q E s := by
  obtain ⟨od, J, hl⟩ := I.look
  exact PySem.W.get_value X J (PySem.W.plainGet_of hg).1 (PySem.W.findObj_own hh ha rfl (by rw [hl, hv])) hv' h
theorem get_meth {pl : Sem Bool} {Q : Value × List Value → Shared → Prop} (X : K.In s.heap) (I : ObjM s.heap x dx C mA) (hg : PySem.W.plainGet K C name = true)
    (hf : PySem.W.findIn K (.ref C) name = some (some (.ref f))) (ht : PySem.W.isFn K (.ref f) = true) (hv : mA name = none) (h : Q (.ref f, [.ref x]) s) :
    wpAny (model prog w) A (getMethod (.ref x) name pl) Q E s := by
  obtain ⟨od, J, hl⟩ := I.look
  exact PySem.W.method_fn X J (PySem.W.plainGet_of hg).1 (PySem.W.plainGet_of hg).2 hf (beq_iff_eq.mp ht) (by show (PySem.W.lookIn name od).map (·.isSome) = some false; rw [hl, hv]; rfl) h
theorem set_map {ns : List Str} {Q : Unit → Shared → Prop} (X : K.In s.heap) (I : ObjM s.heap x dx C mA)
    (hs : PySem.W.findIn K (.ref C) "__setattr__" = some (some (.builtin "object.__setattr__"))) (hp : PySem.W.plainOver K C = true) (ht : PySem.W.takerIn K C name = some none) (hh : PySem.W.hasDictIn K C = true)
    (hw : PySem.Within mA ns) (hsz : ns.length ≤ sizeLine)
    (h : ∀ h', ObjM h' x dx C (fun y => if y = name then some v else mA y) → Heap.SameBut dx s.heap h' → Q () { s with heap := h', toks := s.toks + 2 }) :
    wpAny (model prog w) A (setAttr (.ref x) name v) Q E s := by
  obtain ⟨od, J, hl⟩ := I.look
  refine PySem.W.set_plain X J hs (PySem.W.osa_open (s := { s with toks := s.toks + 1 }) (r := none) X J hp ht fun b => ?_)
  obtain ⟨cd, hc, hd'⟩ := PySem.W.any_some hh
  have hx : s.heap.get? x = some ⟨.ref C, some dx, .plain, #[]⟩ := I.obj
  refine wpAny_bind (wpAny_pure (wpAny_bind (wpAny_bind (wpAny_loadPart hx (wpAny_bind (PySem.W.Looks.here (s := { s with toks := s.toks + 1 }) (PySem.W.looks_clsIn X hc) ?_))))))
  rw [hd']
  refine wpAny_pure (a := some dx) (wpAny_bind (wpAny_pure (wpAny_bind ?_)))
  refine wpAny_nsSet1 (s := { s with toks := s.toks + 1 }) I.ns fun h' hn2 hs2 => ?_
  obtain ⟨oD, esD, epD, hoD, hdD, hcD⟩ := hn2.count (PySem.Within.cons name v hw)
  refine wpAny_bind (wpAny_lookBehind hoD (by rw [hdD]; exact pastItsLine_dict (Nat.le_trans hcD (by rw [List.length_cons]; omega))) ?_)
  exact wpAny_pure (h _ ⟨(hs2.2 _ (Ne.symm I.ne)).trans I.obj, hn2, I.ne⟩ hs2)
theorem make_map {R : Result → Shared → Prop} {vs : List Value} {kw : List (Str × Value)} (X : K.In s.heap) (hm : PySem.W.makesIn K C = true)
    (hi : PySem.W.findIn K (.ref C) "__init__" = some (some (.ref f))) (hf : PySem.W.typeIn K (.ref f) = some (.type "function"))
    (h : codeAny (model prog w) (A.under (.builtin "type.__call__" ⟨.ref C :: vs, kw⟩)) (.call (.ref f) ⟨.ref (s.heap.objs.size + 1) :: vs, kw⟩) (PySem.W.InitBack (s.heap.objs.size + 1) R)
      { s with heap := (s.heap.push PySem.W.emptyDict).push (PySem.W.instObj C s.heap.objs.size) }) :
    codeAny (model prog w) A (.call (.ref C) ⟨vs, kw⟩) R s := by
  obtain ⟨hh, g, d, t, os⟩ := s
  exact PySem.W.make_core (PySem.W.makes_of X hm) (PySem.W.looks_findIn X hi) (fun self => PySem.W.bind_fn X self hf) (.inl rfl) h
end
noncomputable def putF (f : Str) (v : V) : List (Str × V) → List (Str × V)
  | [] => [(f, v)]
  | (g, x) :: r => if g = f then (g, v) :: r else (g, x) :: putF f v r
theorem lookup_putF (f g : Str) (v : V) : ∀ fs : List (Str × V), (putF f v fs).lookup g = if g = f then some v else fs.lookup g
  | [] => by
    show List.lookup g [(f, v)] = _
    by_cases h : g = f
    · have hb : (g == f) = true := beq_iff_eq.mpr h
      simp only [List.lookup, hb, if_pos h]
    · have hb : (g == f) = false := beq_eq_false_iff_ne.mpr h
      simp only [List.lookup, hb, if_neg h]
  | (k, x) :: r => by
    have ih := lookup_putF f g v r
    rw [show putF f v ((k, x) :: r) = (if k = f then (k, v) :: r else (k, x) :: putF f v r) from rfl]
    by_cases hk : k = f
    · rw [if_pos hk]
      by_cases h : g = k
      · have hb : (g == k) = true := beq_iff_eq.mpr h
        simp only [List.lookup, hb, if_pos (h.trans hk)]
      · have hb : (g == k) = false := beq_eq_false_iff_ne.mpr h
        simp only [List.lookup, hb, if_neg (fun e : g = f => h (e.trans hk.symm))]
    · rw [if_neg hk]
      by_cases h : g = k
      · have hb : (g == k) = true := beq_iff_eq.mpr h
        simp only [List.lookup, hb, if_neg (fun e : g = f => hk (h.symm.trans e))]
      · have hb : (g == k) = false := beq_eq_false_iff_ne.mpr h
        simp only [List.lookup, hb]
        exact ih
theorem keys_putF (f : Str) (v : V) : ∀ fs : List (Str × V), f ∈ (putF f v fs).map (·.1) ∧ ∀ g, g ∈ fs.map (·.1) → g ∈ (putF f v fs).map (·.1)
  | [] => ⟨by simp [putF], fun g h => by simp at h⟩
  | (k, x) :: r => by
    obtain ⟨i1, i2⟩ := keys_putF f v r
    rw [show putF f v ((k, x) :: r) = (if k = f then (k, v) :: r else (k, x) :: putF f v r) from rfl]
    by_cases hk : k = f
    · rw [if_pos hk]
      subst hk
      exact ⟨by simp, fun g h => by simpa using h⟩
    · rw [if_neg hk]
      refine ⟨?_, fun g h => ?_⟩
      · rw [List.map_cons]
        exact List.mem_cons_of_mem _ i1
      · rw [List.map_cons] at h ⊢
        rcases List.mem_cons.mp h with e | e
        · exact List.mem_cons.mpr (.inl e)
        · exact List.mem_cons_of_mem _ (i2 g e)
theorem length_putF (f : Str) (v : V) : ∀ fs : List (Str × V), (putF f v fs).length ≤ fs.length + 1
  | [] => by simp [putF]
  | (k, x) :: r => by
    have ih := length_putF f v r
    rw [show putF f v ((k, x) :: r) = (if k = f then (k, v) :: r else (k, x) :: putF f v r) from rfl]
    by_cases hk : k = f
    · rw [if_pos hk, List.length_cons, List.length_cons]; omega
    · rw [if_neg hk, List.length_cons, List.length_cons]; omega
theorem RelO.some_of {v : V} {o : Option Value} (r : RelO (some v) o) : ∃ u, o = some u ∧ RelV v u := by
  cases o with
  | none => exact (show False from r).elim
  | some u => exact ⟨u, rfl, r⟩
theorem RelO.none_of {o : Option Value} (r : RelO none o) : o = none := by
  cases o with
  | none => rfl
  | some u => exact (show False from r).elim
theorem handed_of {v : V} {u : Value} (r : RelV v u) : PySem.W.handedIn u = true := by
  cases v with
  | non => cases (show u = Value.none from r); rfl
  | bl b => cases (show u = Value.bool b from r); rfl
  | int i => obtain ⟨t, e⟩ := (show ∃ t, u = Value.int i t from r); cases e; rfl
  | str x => obtain ⟨t, e⟩ := (show ∃ t, u = Value.str x t from r); cases e; rfl
  | byt b => obtain ⟨t, e⟩ := (show ∃ t, u = Value.bytes b t from r); cases e; rfl
  | flt b => obtain ⟨t, e⟩ := (show ∃ t, u = Value.float b t from r); cases e; rfl
  | ref a => cases (show u = Value.ref a from r); rfl
  | ty n => cases (show u = Value.type n from r); rfl
section
variable {P : Program} {w : World} {H H' : Hp} {h h' : Heap} {a C dx : Addr} {fs fs' : List (Str × V)}
theorem ins_get (hok : HOk P w H h) (e : H a = some (.ins C dx fs)) : ∃ mA, ObjM h a dx C mA ∧ (∀ f, RelO (fs.lookup f) (mA f)) ∧ PySem.Within mA (fs.map (·.1)) ∧ fs.length ≤ 1000 ∧ H dx = some (.own a) := by
  obtain ⟨d, z, ne, ob, mA, n, r, q⟩ := (show ObjOk P w H h a (.ins C dx fs) from hok a _ e)
  exact ⟨mA, ⟨ob, n, ne⟩, r, q, z, d⟩
end
structure Cls (K : PySem.W.Frag) (C : Addr) : Prop where
  pg : PySem.W.plainGet K C Str.empty = true
  hd : PySem.W.hasDictIn K C = true
  po : PySem.W.plainOver K C = true
  sa : PySem.W.findIn K (.ref C) "__setattr__" = some (some (.builtin "object.__setattr__"))
theorem Cls.get {K : PySem.W.Frag} {C : Addr} (c : Cls K C) (f : Str) : PySem.W.plainGet K C f = true := c.pg
noncomputable def NoAttr (K : PySem.W.Frag) (C : Addr) (f : Str) : Prop := PySem.W.findIn K (.ref C) f = some none
theorem NoAttr.taker {K : PySem.W.Frag} {C : Addr} {f : Str} (n : NoAttr K C f) : PySem.W.takerIn K C f = some none := by
  unfold PySem.W.takerIn
  rw [show PySem.W.findIn K (.ref C) f = some none from n]
  rfl
structure Con (K : PySem.W.Frag) (C : Addr) (f : Str) (v : V) (u : Value) : Prop where
  at_ : PySem.W.findIn K (.ref C) f = some (some u)
  rel : RelV v u
  get : PySem.W.specialIn K u "__get__" = some none
  cp : PySem.W.copiedNames.contains f = false
structure Meth (K : PySem.W.Frag) (C : Addr) (m : Str) (f : Addr) : Prop where
  at_ : PySem.W.findIn K (.ref C) m = some (some (.ref f))
  fn : PySem.W.isFn K (.ref f) = true
  kp : PySem.W.keepIn K (.ref f) = true
section
variable {X : Cx} {pins : List (Addr × Obj)} {σ : St} {H : Hp} {s : Shared} {a C dx : Addr} {fs : List (Str × V)} {f : Str} {v : V} {A : Around} {E : Value → Shared → Prop}
theorem getattr_ok {b : Bool} {Q : Value → Shared → Prop} (I : Inv X pins σ H s) (e : H a = some (.ins C dx fs)) (c : Cls X.K C) (n : NoAttr X.K C f) (l : fs.lookup f = some v)
    (h : ∀ u s', Inv X pins σ H s' → RelV v u → Q u s') : wpAny (model X.prog X.w) A (getAttr (.ref a) f b) Q E s := by
  obtain ⟨mA, O, r, _, _, _⟩ := ins_get I.hok e
  obtain ⟨u, hu, ru⟩ := RelO.some_of (v := v) (o := mA f) (by rw [← l]; exact r f)
  exact get_map I.kIn O (c.get f) c.hd n hu (handed_of ru) (h u _ (I.tok _) ru)
theorem getmeth_ok {m : Str} {g : Addr} {pl : Sem Bool} {Q : Value × List Value → Shared → Prop} (I : Inv X pins σ H s) (e : H a = some (.ins C dx fs)) (c : Cls X.K C) (k : Meth X.K C m g) (l : fs.lookup m = none)
    (h : Q (.ref g, [.ref a]) s) : wpAny (model X.prog X.w) A (getMethod (.ref a) m pl) Q E s := by
  obtain ⟨mA, O, r, _, _, _⟩ := ins_get I.hok e
  have hn : mA m = none := RelO.none_of (by rw [← l]; exact r m)
  exact get_meth I.kIn O (c.get m) k.at_ k.fn hn h
theorem setattr_ok {y : V} {u : Value} {Q : Unit → Shared → Prop} (I : Inv X pins σ H s) (e : H a = some (.ins C dx fs)) (c : Cls X.K C) (n : NoAttr X.K C f) (hl : fs.length < 1000) (ry : RelV y u)
    (h : ∀ s', Inv X pins σ (upd H a (.ins C dx (putF f y fs))) s' → Q () s') : wpAny (model X.prog X.w) A (setAttr (.ref a) f u) Q E s := by
  obtain ⟨mA, O, r, wi, _, ho⟩ := ins_get I.hok e
  have hz : (fs.map (·.1)).length ≤ sizeLine := by rw [List.length_map, sizeLine_eq]; omega
  refine set_map I.kIn O c.sa c.po n.taker c.hd wi hz fun h' O' sb => h _ ?_
  have hd : ∃ o, h'.get? dx = some o := let ⟨o, _, _, e', _⟩ := O'.ns; ⟨o, e'⟩
  refine I.write (x := a) (e := dx) (by rw [e]; exact True.intro) (.inr ho) (fun b q hb z => (sb.2 b hb).trans z) hd ?_
  refine ⟨by rw [upd_ne O.ne]; exact ho, ?_, O.ne, O'.obj, _, O'.ns, fun g => ?_, fun g hg => ?_⟩
  · have := length_putF f y fs; omega
  · show RelO ((putF f y fs).lookup g) (if g = f then some u else mA g)
    rw [lookup_putF]
    by_cases q : g = f
    · rw [if_pos q, if_pos q]; exact ry
    · rw [if_neg q, if_neg q]; exact r g
  · by_cases q : g = f
    · rw [q]; exact (keys_putF f y fs).1
    · refine (keys_putF f y fs).2 g (wi g fun z => hg ?_)
      show (if g = f then some u else mA g) = none
      rw [if_neg q]; exact z
theorem Inv.made (I : Inv X pins σ H s) : Inv X pins σ (upd (upd H s.heap.objs.size (.own (s.heap.objs.size + 1))) (s.heap.objs.size + 1) (.ins C s.heap.objs.size []))
    { s with heap := (s.heap.push PySem.W.emptyDict).push (PySem.W.instObj C s.heap.objs.size) } := by
  have e1 : (s.heap.push PySem.W.emptyDict).get? s.heap.objs.size = some PySem.W.emptyDict := Heap.get?_push_size s.heap rfl
  have e2 : ((s.heap.push PySem.W.emptyDict).push (PySem.W.instObj C s.heap.objs.size)).get? (s.heap.objs.size + 1) = some (PySem.W.instObj C s.heap.objs.size) := by
    have := Heap.get?_push_size (s.heap.push PySem.W.emptyDict) (o := PySem.W.instObj C s.heap.objs.size) rfl
    rwa [Heap.size_push] at this
  have e3 : (s.heap.push PySem.W.emptyDict).Ns s.heap.objs.size (fun _ => none) := ⟨PySem.W.emptyDict, #[], _, e1, rfl, (fun e he => absurd he (by simp)), fun _ => rfl⟩
  have I1 := I.laid (a := s.heap.objs.size) (o := .own (s.heap.objs.size + 1)) (h' := s.heap.push PySem.W.emptyDict) (t' := s.toks) (fun b u q => Heap.get?_push_of_some _ q) (Nat.le_refl _) ⟨_, e1⟩
  refine I1.laid (a := s.heap.objs.size + 1) (o := .ins C s.heap.objs.size []) (t' := s.toks) (fun b u q => Heap.get?_push_of_some _ q) (Nat.le_of_eq (Heap.size_push _ _)) ?_
  have ne : s.heap.objs.size ≠ s.heap.objs.size + 1 := Nat.ne_of_lt (Nat.lt_succ_self _)
  refine ⟨by rw [upd_ne ne, upd_same], Nat.zero_le _, ne, e2, fun _ => none, (Heap.Ns1.of_empty e3).at fun o q => Heap.get?_push_of_some _ q, fun _ => True.intro, fun y hy => absurd rfl hy⟩
theorem attr_of {prog : Program} {w : World} {env : Env} {e : Expr} {f : Str} {pos : Pos} {s : Shared} {Q : Value → Shared → Prop} (hb : attributeBase e f env (eval e env) = eval e env)
    (h : wpAny (model prog w) A (eval e env) (fun o s₁ => wpAny (model prog w) A (getAttr o f true) Q E s₁) E s) : wpAny (model prog w) A (eval (.Attribute e f pos) env) Q E s :=
  Attribute_any_ h (by rw [arm_eval_Attribute, hb])
end
noncomputable def tFld (K : PySem.W.Frag) (ta : TE) (f : Str) : TE := fun σ H Q => ta σ H fun x H1 => ∃ a C dx fs v, x = .ref a ∧ H1 a = some (.ins C dx fs) ∧ Cls K C ∧ NoAttr K C f ∧ fs.lookup f = some v ∧ Q v H1
noncomputable def tCon (K : PySem.W.Frag) (ta : TE) (f : Str) : TE := fun σ H Q => ta σ H fun x H1 => ∃ a C dx fs v u, x = .ref a ∧ H1 a = some (.ins C dx fs) ∧ Cls K C ∧ Con K C f v u ∧ fs.lookup f = none ∧ Q v H1
noncomputable def sFld (K : PySem.W.Frag) (ta tv : TE) (f : Str) : TS := fun D σ H => tv σ H fun y H1 => ta σ H1 fun x H2 => ∃ a C dx fs, x = .ref a ∧ H2 a = some (.ins C dx fs) ∧ Cls K C ∧ NoAttr K C f ∧ fs.length < 1000 ∧
  D.nx σ (upd H2 a (.ins C dx (putF f y fs)))
noncomputable def InOp (X : Cx) (op : Operator) (rd : V → V → Hp → VK → Prop) : Prop :=
  ∀ (pins : List (Addr × Obj)) (s : Shared) (σ : St) (H : Hp) (x y : V) (u v : Value) (Q : VK), Inv X pins σ H s → RelV x u → RelV y v → rd x y H Q → wpAny (model X.prog X.w) X.A (inplaceOp op u v) (EP X pins σ Q) X.xe s
noncomputable def sFldAug (K : PySem.W.Frag) (ta tv : TE) (rd : V → V → Hp → VK → Prop) (f : Str) : TS := fun D σ H => ta σ H fun x H1 => ∃ a C dx fs v, x = .ref a ∧ H1 a = some (.ins C dx fs) ∧ Cls K C ∧ NoAttr K C f ∧ fs.lookup f = some v ∧
  tv σ H1 fun y H2 => rd v y H2 fun z H3 => ∃ dx' fs', H3 a = some (.ins C dx' fs') ∧ fs'.length < 1000 ∧ D.nx σ (upd H3 a (.ins C dx' (putF f z fs')))
section
variable {X : Cx} {o e value : Expr} {f : Str} {pos pos' tpos : Pos} {ta tv : TE}
theorem pe_fld (he : PE X e ta) (hb : attributeBase e f X.env (eval e X.env) = eval e X.env) : PE X (.Attribute e f pos) (tFld X.K ta f) := by
  intro pins s σ H Q I h
  refine attr_of hb (thn (he pins s σ H _ I h) fun u s1 ⟨x, H1, I1, rx, a, C, dx, fs, v, ex, ea, c, n, l, q⟩ => ?_)
  subst ex
  obtain rfl : u = Value.ref a := rx
  exact getattr_ok I1 ea c n l fun u' s2 I2 ru => ⟨v, H1, I2, ru, q⟩
theorem ps_fld (ha : PE X o ta) (hv : PE X value tv) (hs : swapsWith value (some (.Attribute o f pos')) pos.line X.env = pure false) : PS X (.Assign [.Attribute o f pos'] value pos) (sFld X.K ta tv f) := by
  intro pins s σ H D I h
  refine plainObj_wpAny_Assign_Attribute (thn (hv pins s σ H _ I h) fun u s1 ⟨y, H1, I1, ry, q⟩ => thn (ha pins s1 σ H1 _ I1 q) fun ov s2 ⟨x, H2, I2, rx, a, C, dx, fs, ex, ea, c, n, l, q2⟩ => ?_) hs
  subst ex
  obtain rfl : ov = Value.ref a := rx
  exact setattr_ok I2 ea c n l ry fun s3 I3 => ⟨σ, _, I3, q2⟩
noncomputable def rAdd : V → V → Hp → VK → Prop := fun x y H Q => ∃ i j, x = .int i ∧ y = .int j ∧ Q (.int (i + j)) H
noncomputable def rSub : V → V → Hp → VK → Prop := fun x y H Q => ∃ i j, x = .int i ∧ y = .int j ∧ Q (.int (i - j)) H
end
section
variable {X : Cx} {pins : List (Addr × Obj)} {σ : St} {H : Hp} {s : Shared} {A : Around} {E : Value → Shared → Prop} {Q : Value → Shared → Prop} {c : Value} {b : Bool}
inductive TyOf (K : PySem.W.Frag) (H : Hp) : V → Value → Prop where
  | non : TyOf K H .non (.type "NoneType")
  | bl (x : Bool) : TyOf K H (.bl x) (.type "bool")
  | int (i : Int) : TyOf K H (.int i) (.type "int")
  | str (x : Str) : TyOf K H (.str x) (.type "str")
  | flt (x : UInt64) : TyOf K H (.flt x) (.type "float")
  | lst {a : Addr} {xs : List V} (e : H a = some (.lst xs)) : TyOf K H (.ref a) (.type "list")
  | frz {a : Addr} {o : Obj} {xs : List V} (e : H a = some (.frz o (.lst xs))) : TyOf K H (.ref a) (.type "list")
  | tup {a : Addr} {xs : List V} (e : H a = some (.tup xs)) : TyOf K H (.ref a) (.type "tuple")
  | dK {a : Addr} {kvs : List (Key × V)} (e : H a = some (.dK kvs)) : TyOf K H (.ref a) (.type "dict")
  | dT {a : Addr} {kvs : List (List Key × V)} (e : H a = some (.dT kvs)) : TyOf K H (.ref a) (.type "dict")
  | ins {a C dx : Addr} {fs : List (Str × V)} (e : H a = some (.ins C dx fs)) (cl : Cls K C) (ha : PySem.W.findIn K (.ref C) "__class__" = some (some (.builtin "object.__class__")))
      (hn : PySem.W.specialIn K (.builtin "object.__class__") "__get__" = some (some (.builtin "getset_descriptor.__get__"))) (htk : PySem.W.takesIn K (.builtin "object.__class__") = some true)
      (hm : PySem.W.mroIn K C (.type "object") = some true) : TyOf K H (.ref a) (.ref C)
theorem isinst_ok {x : V} {u t : Value} (I : Inv X pins σ H s) (rx : RelV x u) (ty : TyOf X.K H x t) (e : PySem.W.kitOne X.K t c = some b) (h : ∀ tk, Q (.bool b) { s with toks := tk }) :
    wpAny (model X.prog X.w) A (call (.builtin "isinstance") [u, c]) Q E s := by
  cases ty with
  | non => cases (show u = Value.none from rx); exact PySem.W.kia_one PySem.W.kitx_none I.kIn True.intro e (fun z => nomatch z) h
  | bl y => cases (show u = Value.bool y from rx); exact PySem.W.kia_one PySem.W.kitx_bool I.kIn True.intro e (fun z => nomatch z) h
  | int i => obtain ⟨t, q⟩ := (show ∃ t, u = Value.int i t from rx); cases q; exact PySem.W.kia_one PySem.W.kitx_int I.kIn True.intro e (fun z => nomatch z) h
  | str y => obtain ⟨t, q⟩ := (show ∃ t, u = Value.str y t from rx); cases q; exact PySem.W.kia_one PySem.W.kitx_str I.kIn True.intro e (fun z => nomatch z) h
  | flt y => obtain ⟨t, q⟩ := (show ∃ t, u = Value.float y t from rx); cases q; exact PySem.W.kia_one PySem.W.kitx_float I.kIn True.intro e (fun z => nomatch z) h
  | @lst a xs ea =>
    cases (show u = Value.ref a from rx)
    obtain ⟨_, _, n, _, h1⟩ := (show ObjOk X.prog X.w H s.heap a (.lst xs) from I.hok a _ ea)
    exact PySem.W.kia_one PySem.W.kitx_list I.kIn ⟨_, h1, rfl⟩ e (fun z => nomatch z) h
  | @frz a ob xs ea =>
    cases (show u = Value.ref a from rx)
    obtain ⟨_, _, _, n, _, h1⟩ := (show ObjOk X.prog X.w H s.heap a (.frz ob (.lst xs)) from I.hok a _ ea)
    exact PySem.W.kia_one PySem.W.kitx_list I.kIn ⟨_, h1, rfl⟩ e (fun z => nomatch z) h
  | @tup a xs ea =>
    cases (show u = Value.ref a from rx)
    obtain ⟨_, _, _, p⟩ := (show ObjOk X.prog X.w H s.heap a (.tup xs) from I.hok a _ ea)
    obtain ⟨o, h1, h2, _⟩ := p
    exact PySem.W.kia_one PySem.W.kitx_tuple I.kIn ⟨o, h1, h2⟩ e (fun z => nomatch z) h
  | @dK a kvs ea =>
    cases (show u = Value.ref a from rx)
    obtain ⟨_, _, vs, _, p⟩ := (show ObjOk X.prog X.w H s.heap a (.dK kvs) from I.hok a _ ea)
    obtain ⟨o, es, ep, h1, h2, _⟩ := p
    exact PySem.W.kia_one PySem.W.kitx_dict I.kIn ⟨o, h1, h2.1⟩ e (fun z => nomatch z) h
  | @dT a kvs ea =>
    cases (show u = Value.ref a from rx)
    obtain ⟨_, _, xs, _, o, es, ep, h1, h2, _⟩ := (show ObjOk X.prog X.w H s.heap a (.dT kvs) from I.hok a _ ea)
    exact PySem.W.kia_one PySem.W.kitx_dict I.kIn ⟨o, h1, h2.1⟩ e (fun z => nomatch z) h
  | @ins a C dx fs ea cl ha hn htk hm =>
    cases (show u = Value.ref a from rx)
    obtain ⟨mA, O, _⟩ := ins_get I.hok ea
    obtain ⟨od, J, _⟩ := O.look
    exact PySem.W.kia_one (PySem.W.kitx_own (cl.get _) cl.hd ha hn htk hm) I.kIn J e (fun z => nomatch z) h
end
end L2
namespace L2
open PySem PySem.Spec PyProof.Rows
structure Room (k : Nat) (A : Around) : Prop where
  hd : A.handled = none
  dp : A.depth + 3 * k + 5 < recursionLimit
  un : A.units + 16 * k + 200 < cLine
theorem Room.mono {j k : Nat} {A : Around} (r : Room k A) (h : j ≤ k) : Room j A := ⟨r.hd, by have := r.dp; omega, by have := r.un; omega⟩
theorem Room.deeper {k : Nat} {A : Around} (r : Room (k + 1) A) (env : Env) : Room k (A.deeper env) :=
  ⟨r.hd, by have := r.dp; show A.depth + 1 + 3 * k + 5 < _; omega, by have := r.un; show A.units + 3 + 16 * k + 200 < _; omega⟩
theorem make_depth {A : Around} {C : Addr} {us : List Value} {kw : List (Str × Value)} : (A.under (.builtin "type.__call__" ⟨.ref C :: us, kw⟩)).depth = A.depth + 1 := by
  first | rfl | simp [Around.under, Code.weight, Code.isCreation, Code.isGuard, Code.isCaller, Code.frames, Code.isFrame, guardIds]
theorem make_units {A : Around} {C : Addr} {us : List Value} {kw : List (Str × Value)} : (A.under (.builtin "type.__call__" ⟨.ref C :: us, kw⟩)).units = A.units + 1 := by
  first | rfl | simp [Around.under, Code.cUnits, Code.frames, Code.isFrame]
theorem Room.make {k : Nat} {A : Around} (r : Room (k + 1) A) (C : Addr) (us : List Value) (kw : List (Str × Value)) : Room k (A.under (.builtin "type.__call__" ⟨.ref C :: us, kw⟩)) :=
  ⟨r.hd, by have := r.dp; rw [make_depth]; omega, by have := r.un; rw [make_units]; omega⟩
theorem Room.depth {k : Nat} {A : Around} (r : Room k A) : A.depth < recursionLimit := by have := r.dp; omega
theorem Room.units {k : Nat} {A : Around} (r : Room k A) : A.units + 64 < cLine := by have := r.un; omega
noncomputable def tNil : TA := fun _ H Q => Q [] H
noncomputable def tCons (ta : TE) (tr : TA) : TA := fun σ H Q => ta σ H fun x H1 => tr σ H1 fun xs H2 => Q (x :: xs) H2
section
variable {X : Cx} {e : Expr} {es : List Expr} {te : TE} {t : TA} {pos : Pos}
theorem pa_nil : PA X [] tNil := fun _ _ _ _ H Q I h => Calls.spliced_nil ⟨[], H, I, .nil, h⟩
theorem pa_cons (ha : PE X e te) (hr : PA X es t) (hs : starEach (e :: es) X.env = (false, eval e X.env) :: starEach es X.env := by rfl) : PA X (e :: es) (tCons te t) := by
  intro pos pins s σ H Q I h
  rw [hs]
  show wpAny _ _ (spliced ((false, eval e X.env) :: backTo pos (starEach es X.env))) _ _ s
  refine Calls.spliced_cons (thn (ha pins s σ H _ I h) fun u s1 ⟨x, H1, I1, r1, q1⟩ => ?_)
  exact thn (hr pos pins s1 σ H1 _ I1 q1) fun us s2 ⟨xs, H2, I2, r2, q2⟩ => ⟨x :: xs, H2, I2, .cons r1 r2, q2⟩
noncomputable def tTup (t : TA) : TE := fun σ H Q => t σ H fun xs H1 => xs.length ≤ sizeLine ∧ ∀ p, H1 p = none → Q (.ref p) (upd H1 p (.tup xs))
noncomputable def tLst (t : TA) : TE := fun σ H Q => t σ H fun xs H1 => xs.length ≤ sizeLine ∧ ∀ p, H1 p = none → Q (.ref p) (upd H1 p (.lst xs))
theorem pe_tup {x1} (h : PA X es t) : PE X (.Tuple es x1 pos) (tTup t) := by
  intro pins s σ H Q I hq
  refine wpAny_Tuple_spliced (thn (h pos pins s σ H _ I hq) fun us s1 ⟨xs, H1, I1, r, z, q⟩ => ⟨by rw [← r.length]; exact z, ?_⟩)
  have hf : H1 s1.heap.objs.size = none := I1.hok.fresh (Nat.le_refl _)
  refine ⟨.ref s1.heap.objs.size, upd H1 s1.heap.objs.size (.tup xs), I1.laid (t' := s1.toks) (fun b u e => Heap.get?_push_of_some _ e) (Nat.le_refl _) ?_, rfl, q _ hf⟩
  exact ⟨z, us, r, ⟨_, Heap.get?_push_size _ rfl, rfl, _, rfl⟩⟩
theorem pe_lst (h : PA X es t) : PE X (.List es pos) (tLst t) := by
  intro pins s σ H Q I hq
  refine wpAny_List_spliced (thn (h pos pins s σ H _ I hq) fun us s1 ⟨xs, H1, I1, r, z, q⟩ => ⟨by rw [← r.length]; exact z, ?_⟩)
  have hf : H1 s1.heap.objs.size = none := I1.hok.fresh (Nat.le_refl _)
  refine ⟨.ref s1.heap.objs.size, upd H1 s1.heap.objs.size (.lst xs), I1.laid (t' := s1.toks) (fun b u e => Heap.get?_push_of_some _ e) (Nat.le_refl _) ?_, rfl, q _ hf⟩
  exact ⟨z, us, 0, r, Heap.get?_push_size _ rfl⟩
end
abbrev Sp := List V → Hp → VK → XK → Prop
abbrev CXT := List Env → Hp → Shared → XK → Value → Shared → Prop
structure Env0 (P : Program) (w : World) (K : PySem.W.Frag) (mg : Str → Option Value) (base : Heap) (A : Around) (outer : List Env) (s : Shared) (H : Hp) : Prop where
  frames : A.frames = some outer
  mod : Mod K mg base
  bs : ∀ b o, base.get? b = some o → s.heap.get? b = some o ∧ H b = none
  bsz : base.objs.size ≤ s.heap.objs.size
  funs : s.heap.FunFrames base outer
  frf : ∀ b ∈ frs outer, H b = none
  hok : HOk P w H s.heap
  bare : AllBare s.gens
noncomputable def CE (outer : List Env) (P : Program) (w : World) (H : Hp) (s : Shared) (Q : VK) (u : Value) (s' : Shared) : Prop :=
  ∃ v H', s'.os = s.os ∧ AllBare s'.gens ∧ Un (frs outer) [] H H' s.heap s'.heap ∧ HOk P w H' s'.heap ∧ RelV v u ∧ Q v H'
noncomputable def CR (CX : CXT) (outer : List Env) (P : Program) (w : World) (H : Hp) (s : Shared) (Q : VK) (E : XK) (r : Result) (s' : Shared) : Prop :=
  match r with
  | .ok (.ret u) => CE outer P w H s Q u s'
  | .ok _ => False
  | .error e => CX outer H s E e s'
structure FnOk (P : Program) (w : World) (K : PySem.W.Frag) (mg : Str → Option Value) (base : Heap) (CX : CXT) (k : Nat) (f : Addr) (fd : FuncData) (ps : List Str) (sp : Sp) : Prop where
  len : ∀ vs H Q E, sp vs H Q E → vs.length = ps.length
  run : ∀ (A : Around) (outer : List Env) (s : Shared) (H : Hp) (args : Args) (us : List Value) (vs : List V) (Q : VK) (E : XK), Room k A → Env0 P w K mg base A outer s H → BindsTo s fd args (ps.zip us) → Vals vs us → sp vs H Q E →
    codeAny (model P w) A (.call (.ref f) args) (CR CX outer P w H s Q E) s
theorem Env0.make {P : Program} {w : World} {K : PySem.W.Frag} {mg : Str → Option Value} {base : Heap} {A : Around} {outer : List Env} {s : Shared} {H : Hp} (e : Env0 P w K mg base A outer s H) (C : Addr) (us : List Value) (kw : List (Str × Value)) :
    Env0 P w K mg base (A.under (.builtin "type.__call__" ⟨.ref C :: us, kw⟩)) outer s H := ⟨by first | exact e.frames | (simpa [Around.under, Code.envs, Code.isFrame, pushEnvs] using e.frames), e.mod, e.bs, e.bsz, e.funs, e.frf, e.hok, e.bare⟩
section
variable {X : Cx} {pins : List (Addr × Obj)} {σ : St} {H : Hp} {s s' : Shared}
theorem Inv.env0 (I : Inv X pins σ H s) : Env0 X.prog X.w X.K X.mg X.base X.A X.stack s H :=
  ⟨I.ok.frames, I.ok.mod, I.bs, Nat.le_trans I.ok.bsz I.sz, I.stack, I.stkFree, I.hok, I.bare⟩
theorem Inv.after {Q : VK} {u : Value} (I : Inv X pins σ H s) (h : CE X.stack X.prog X.w H s Q u s') : EP X pins σ Q u s' := by
  obtain ⟨v, H', os, bare, un, hok, r, q⟩ := h
  obtain ⟨hh, g, d, t, os'⟩ := s'
  obtain rfl : os' = s.os := os
  exact ⟨v, H', I.call (h' := hh) (g' := g) (d' := d) (t' := t) (ch := []) un hok bare (fun b z => absurd z (by simp)), r, q⟩
end
noncomputable def tCall (sp : Sp) (dvs : List V) (E : XK) (t : TA) : TE := fun σ H Q => t σ H fun vs H1 => sp (vs ++ dvs) H1 Q E
noncomputable def tMeth (C : Addr) (m : Str) (sp : Sp) (dvs : List V) (E : XK) (ta : TE) (t : TA) : TE := fun σ H Q => ta σ H fun x H1 => ∃ a dx fs, x = .ref a ∧ H1 a = some (.ins C dx fs) ∧ fs.lookup m = none ∧
  t σ H1 fun vs H2 => sp (x :: (vs ++ dvs)) H2 Q E
noncomputable def tMake (C : Addr) (sp : Sp) (dvs : List V) (E : XK) (t : TA) : TE := fun σ H Q => t σ H fun vs H1 => ∀ x dx, H1 x = none → H1 dx = none → dx ≠ x →
  sp (.ref x :: (vs ++ dvs)) (upd (upd H1 dx (.own x)) x (.ins C dx [])) (fun v H2 => v = .non ∧ Q (.ref x) H2) E
noncomputable def Binds (K : PySem.W.Frag) (fd : FuncData) (ps : List Str) (ds : List Value) : Prop :=
  ∀ (s : Shared) (us : List Value), K.In s.heap → (us ++ ds).length = ps.length → BindsTo s fd ⟨us, []⟩ (ps.zip (us ++ ds))
theorem Binds.all {K : PySem.W.Frag} {fd : FuncData} {ps : List Str} (h : ∀ us : List Value, us.length = ps.length → bindArgs fd ⟨us, []⟩ = pure (ps.zip us)) : Binds K fd ps [] := fun s us _ hl => by
  rw [List.append_nil] at hl ⊢
  exact .of_eq (h us hl)
noncomputable def Passes (CX : CXT) (X : Cx) (E : XK) : Prop := ∀ (pins : List (Addr × Obj)) (σ : St) (H : Hp) (s : Shared) (e : Value) (s' : Shared), Inv X pins σ H s → CX X.stack H s E e s' → X.xe e s'
section
variable {X : Cx} {CX : CXT} {k : Nat} {f C : Addr} {fd : FuncData} {ps : List Str} {sp : Sp} {dvs : List V} {ds : List Value} {E : XK} {x m : Str} {p pos apos : Pos} {e o : Expr} {es : List Expr} {ta : TE} {t : TA}
theorem run_fn {pins : List (Addr × Obj)} {σ : St} {H : Hp} {s : Shared} {Q : VK} {us : List Value} {vs : List V} (F : FnOk X.prog X.w X.K X.mg X.base CX k f fd ps sp) (hr : Room k X.A) (hb : Binds X.K fd ps ds) (hd : Vals dvs ds) (hx : Passes CX X E)
    (I : Inv X pins σ H s) (r : Vals vs us) (h : sp (vs ++ dvs) H Q E) : wpAny (model X.prog X.w) X.A (call (.ref f) us) (EP X pins σ Q) X.xe s := by
  have r2 : Vals (vs ++ dvs) (us ++ ds) := r.append hd
  have hl : (us ++ ds).length = ps.length := by rw [← r2.length]; exact F.len _ _ _ _ h
  refine wpAny_call (codeAny_mono (F.run X.A X.stack s H ⟨us, []⟩ (us ++ ds) (vs ++ dvs) Q E hr I.env0 (hb s us I.kIn hl) r2 h) fun r s' hq => ?_)
  cases r with
  | error e => exact hx pins σ H s e s' I hq
  | ok fl =>
    cases fl with
    | ret u => exact I.after hq
    | next => exact False.elim hq
    | brk => exact False.elim hq
    | cont => exact False.elim hq
theorem pe_call (F : FnOk X.prog X.w X.K X.mg X.base CX k f fd ps sp) (hr : Room k X.A) (hg : Gl X x) (hm : X.mg x = some (.ref f)) (hk : PySem.W.keepIn X.K (.ref f) = true) (hb : Binds X.K fd ps ds) (hd : Vals dvs ds) (hx : Passes CX X E)
    (ha : PA X (e :: es) t) (hdb : (x == ("__debug__" : Str)) = false := by decide) (he : starEach (e :: es) X.env = (false, eval e X.env) :: starEach es X.env := by rfl) (hpl : (backTo pos (starEach es X.env)).any (·.1) = false := by rfl) :
    PE X (.Call (.Name x p) (e :: es) [] pos) (tCall sp dvs E t) := by
  intro pins s σ H Q I h
  refine wpAny_Call_Name_kw (ld_glob I hg hm ?_ hdb)
  refine PySem.W.callWith_K (h₀ := X.base) I.ok.mod.kin hk (thn (ha pos pins s σ H _ I h) fun us s1 ⟨vs, H1, I1, r, q⟩ => ⟨I1.kIn, ?_⟩) he hpl
  exact run_fn F hr hb hd hx I1 r q
theorem pe_meth0 {pl : Sem Bool} (he : PE X o ta) (c : Cls X.K C) (hm : Meth X.K C m f) (F : FnOk X.prog X.w X.K X.mg X.base CX k f fd ps sp) (hr : Room k X.A) (hb : Binds X.K fd ps ds) (hd : Vals dvs ds) (hx : Passes CX X E)
    (ht : eval (.Call (.Attribute o m apos) [] [] pos) X.env = (do
      let ov ← eval o X.env
      standAt apos.atName
      let (f, first) ← holding [ov] (getMethod ov m pl)
      callWith pos f first (backTo pos (starEach [] X.env)) (backToKw pos (keywordEach [] X.env))) := by rfl) :
    PE X (.Call (.Attribute o m apos) [] [] pos) (tMeth C m sp dvs E ta tNil) := by
  intro pins s σ H Q I h
  refine PySem.W.methodCall_KW (pl := pl) (thn (he pins s σ H _ I h) fun u s1 ⟨x, H1, I1, rx, a, dx, fs, ex, ea, l, q⟩ => ?_) ht
  subst ex
  obtain rfl : u = Value.ref a := rx
  refine getmeth_ok I1 ea c hm l ?_
  exact PySem.W.callWith_K0 (first := [.ref a]) I1.kIn hm.kp (run_fn (us := [.ref a]) (vs := [.ref a]) F hr hb hd hx I1 (.cons rfl .nil) q)
structure Mk (K : PySem.W.Frag) (C f : Addr) : Prop where
  makes : PySem.W.makesIn K C = true
  init : PySem.W.findIn K (.ref C) "__init__" = some (some (.ref f))
  fn : PySem.W.isFn K (.ref f) = true
  kp : PySem.W.keepIn K (.ref C) = true
end
noncomputable def PK (X : Cx) (kws : List Keyword) (t : TA) : Prop :=
  ∀ (pos : Pos) (pins : List (Addr × Obj)) (s : Shared) (σ : St) (H : Hp) (Q : List V → Hp → Prop), Inv X pins σ H s → t σ H Q → wpAny (model X.prog X.w) X.A (evalAll ((backToKw pos (keywordEach kws X.env)).map (·.2))) (AP X pins σ Q) X.xe s
section
variable {X : Cx} {CX : CXT} {k : Nat} {f C : Addr} {fd : FuncData} {ps ks : List Str} {sp : Sp} {E : XK} {x m : Str} {p pos apos kpos : Pos} {e o : Expr} {es : List Expr} {kws : List Keyword} {te ta : TE} {t tk : TA} {nm : Option Str}
theorem pk_nil : PK X [] tNil := fun _ _ _ _ H Q I h => wpAny_evalAll_nil ⟨[], H, I, .nil, h⟩
theorem pk_cons (ha : PE X e te) (hr : PK X kws t) : PK X (⟨nm, e, kpos⟩ :: kws) (tCons te t) := by
  intro pos pins s σ H Q I h
  show wpAny _ _ (evalAll ((do let v ← eval e X.env; standAt pos; pure v) :: (backToKw pos (keywordEach kws X.env)).map (·.2))) _ _ s
  refine wpAny_evalAll_cons (wpAny_bind (thn (ha pins s σ H _ I h) fun u s1 ⟨x, H1, I1, r1, q1⟩ => wpAny_bind (wpAny_standAt (wpAny_pure ?_))))
  exact thn (hr pos pins s1 σ H1 _ I1 q1) fun us s2 ⟨xs, H2, I2, r2, q2⟩ => ⟨x :: xs, H2, I2, .cons r1 r2, q2⟩
structure KBinds (K : PySem.W.Frag) (fd : FuncData) (ps ks : List Str) (g : List Value → List Value → List Value) (gV : List V → List V → List V) : Prop where
  to : ∀ (s : Shared) (us ws : List Value), K.In s.heap → (g us ws).length = ps.length → BindsTo s fd ⟨us, ks.zip ws⟩ (ps.zip (g us ws))
  rel : ∀ {vs : List V} {us : List Value} {zs : List V} {ws : List Value}, Vals vs us → Vals zs ws → Vals (gV vs zs) (g us ws)
noncomputable def tCallK (sp : Sp) (gV : List V → List V → List V) (E : XK) (t tk : TA) : TE := fun σ H Q => t σ H fun vs H1 => tk σ H1 fun zs H2 => sp (gV vs zs) H2 Q E
variable {g : List Value → List Value → List Value} {gV : List V → List V → List V}
end
structure FnScope (N P : List Str) (sc : Scope) : Prop where
  kind : sc.kind = .function
  co : sc.isCoroutine = false
  gen : sc.isGenerator = false
  nd : N.Nodup
  pre : N.take P.length = P
  par : ∀ x ∈ P, sc.names.lookup x = some .local ∨ sc.names.lookup x = some .cell
  nofree : ∀ y ∈ sc.names, y.2 ≠ .free
theorem bindL_out {kindOf : Str → Option NameKind} {x : Str} : ∀ {binds : List (Str × Value)} {m : Str → Option Value}, (∀ v, (x, v) ∉ binds) → bindL kindOf binds m x = m x
  | [], _, _ => rfl
  | (n, v) :: r, m, h => by
    unfold bindL
    rw [bindL_out fun w hw => h w (List.mem_cons_of_mem _ hw)]
    split
    · have : x ≠ n := by rintro rfl; exact h v List.mem_cons_self
      simp [this]
    · rfl
theorem bindC_out {kindOf : Str → Option NameKind} {x : Str} : ∀ {binds : List (Str × Value)} {m : Str → Option Value}, (∀ v, (x, v) ∉ binds) → bindC kindOf binds m x = m x
  | [], _, _ => rfl
  | (n, v) :: r, m, h => by
    unfold bindC
    rw [bindC_out fun w hw => h w (List.mem_cons_of_mem _ hw)]
    split
    · rfl
    · have : x ≠ n := by rintro rfl; exact h v List.mem_cons_self
      simp [this]
theorem bindL_get {kindOf : Str → Option NameKind} {x : Str} {v : Value} : ∀ {P : List Str} {vs : List Value} {i : Nat} {m : Str → Option Value}, P.Nodup → P[i]? = some x → vs[i]? = some v → kindOf x = some .local →
    bindL kindOf (P.zip vs) m x = some v
  | [], _, _, _, _, h, _, _ => by simp at h
  | _ :: _, [], _, _, _, _, h, _ => by simp at h
  | p :: P, w :: vs, 0, m, nd, h1, h2, hk => by
    simp at h1 h2; subst h1; subst h2
    show bindL kindOf ((p, w) :: P.zip vs) m p = _
    unfold bindL
    rw [bindL_out fun v hv => (List.nodup_cons.mp nd).1 (List.of_mem_zip hv).1, if_pos hk]
    simp
  | p :: P, w :: vs, i + 1, m, nd, h1, h2, hk => by
    show bindL kindOf ((p, w) :: P.zip vs) m x = _
    unfold bindL
    exact bindL_get (i := i) (List.nodup_cons.mp nd).2 (by simpa using h1) (by simpa using h2) hk
theorem bindC_get {kindOf : Str → Option NameKind} {x : Str} {v : Value} : ∀ {P : List Str} {vs : List Value} {i : Nat} {m : Str → Option Value}, P.Nodup → P[i]? = some x → vs[i]? = some v → kindOf x ≠ some .local →
    bindC kindOf (P.zip vs) m x = some v
  | [], _, _, _, _, h, _, _ => by simp at h
  | _ :: _, [], _, _, _, _, h, _ => by simp at h
  | p :: P, w :: vs, 0, m, nd, h1, h2, hk => by
    simp at h1 h2; subst h1; subst h2
    show bindC kindOf ((p, w) :: P.zip vs) m p = _
    unfold bindC
    rw [bindC_out fun v hv => (List.nodup_cons.mp nd).1 (List.of_mem_zip hv).1, if_neg hk]
    simp
  | p :: P, w :: vs, i + 1, m, nd, h1, h2, hk => by
    show bindC kindOf ((p, w) :: P.zip vs) m x = _
    unfold bindC
    exact bindC_get (i := i) (List.nodup_cons.mp nd).2 (by simpa using h1) (by simpa using h2) hk
noncomputable def start (N : List Str) (vs : List V) : St := vs.map some ++ List.replicate (N.length - vs.length) none
noncomputable def cxOf (CX : CXT) (P : Program) (w : World) (K : PySem.W.Frag) (mg : Str → Option Value) (base : Heap) (N : List Str) (qual : Str) (scope : Scope) (f : Addr) (cd : Value) (A : Around) (outer : List Env) (s : Shared) (H : Hp) (E : XK) : Cx where
  prog := P
  w := w
  K := K
  mg := mg
  base := base
  A := A.deeper (envOfC qual scope s.heap.objs.size f cd)
  N := N
  s₀ := s
  H₀ := H
  env := envOfC qual scope s.heap.objs.size f cd
  outer := outer
  stack := envOfC qual scope s.heap.objs.size f cd :: outer
  ex := []
  calm := true
  fn := fun _ => true
  pn := []
  xe := fun e s' => wpAny (model P w) (A.deeper (envOfC qual scope s.heap.objs.size f cd)) (leaving (envOfC qual scope s.heap.objs.size f cd) e) (fun _ s'' => CX outer H s E e s'') (fun e' s'' => CX outer H s E e' s'') s'
theorem cell_has {sc : Scope} {n : Nat} {x : Str} (h : sc.names.lookup x = some .cell) : ∃ c, (cellsFrom n sc.names []).lookup x = some c := by
  have q := PySem.W.cellsFrom_some sc.names n [] (.inl h)
  exact Option.isSome_iff_exists.mp q
theorem inv_start {CX : CXT} {P : Program} {w : World} {K : PySem.W.Frag} {mg : Str → Option Value} {base : Heap} {N ps : List Str} {qual : Str} {scope : Scope} {f : Addr} {cd : Value} {A : Around} {outer : List Env} {s s1 : Shared} {H : Hp} {E : XK} {us : List Value} {vs : List V}
    (S : FnScope N ps scope) (hd : A.handled = none) (e0 : Env0 P w K mg base A outer s H) (hl : vs.length = ps.length) (r : Vals vs us)
    (x : InCallC s s.heap.objs.size (bindL (envOfC qual scope s.heap.objs.size f cd).kindOf (ps.zip us) fun _ => none) (cellsFrom (s.heap.objs.size + 1) scope.names []) (bindC (envOfC qual scope s.heap.objs.size f cd).kindOf (ps.zip us) fun _ => none) s1) :
    Inv (cxOf CX P w K mg base N qual scope f cd A outer s H E) [] (start N vs) H s1 := by
  have hpl : ps.length ≤ N.length := by have := congrArg List.length S.pre; rw [List.length_take] at this; omega
  obtain ⟨h1, tk, rfl, hk⟩ := x.done
  have noA : ∀ b : Addr, b ∉ (cxOf CX P w K mg base N qual scope f cd A outer s H E).ex := fun b z => absurd (show b ∈ ([] : List Addr) from z) (by simp)
  refine ⟨⟨e0.mod, S.kind, rfl, rfl, Nat.le_refl _, fun y z c h1 h2 => ?_, fun y hy => ?_, fun y c _ h => ?_, fun _ => hd, Around.frames_deeper e0.frames, .inr ⟨rfl, rfl⟩, fun b z => absurd z (noA b), e0.bs, e0.bsz, fun b _ _ => noA b, fun b z => absurd z (noA b), e0.funs, e0.frf⟩,
    rfl, e0.bare, Un.kept hk, ⟨_, x.toInCall.ns, fun i y v h1 h2 h3 => ?_⟩, fun y c h => ⟨_, x.cell y c h⟩, e0.hok.fresh (Nat.le_refl _), fun y c h => ?_, fun p hp => absurd (show p ∈ ([] : List (Addr × Obj)) from hp) (by simp), e0.hok.kept hk, ?_⟩
  · exact name_of_addr x.apart (PySem.mem_of_lookup h1) (PySem.mem_of_lookup h2)
  · have hy : scope.names.lookup y = some .cell ∨ scope.names.lookup y = some .free := hy
    rcases hy with hy | hy
    · exact cell_has hy
    · exact absurd rfl (S.nofree _ (PySem.mem_of_lookup hy))
  · exact Nat.le_of_lt (x.above y c (PySem.mem_of_lookup h))
  · have hi : i < vs.length := by
      unfold start at h2
      by_cases hi : i < vs.length
      · exact hi
      · rw [List.getElem?_append_right (by simpa using hi)] at h2
        rw [List.getElem?_replicate] at h2
        split at h2 <;> cases h2
    have ha : vs[i]? = some v := by
      unfold start at h2
      rw [List.getElem?_append_left (by simpa using hi), List.getElem?_map] at h2
      cases e : vs[i]? with
      | none => rw [e] at h2; cases h2
      | some a => rw [e] at h2; cases h2; rfl
    obtain ⟨u, hu, rv⟩ := r.get ha
    have hp : ps[i]? = some y := by
      rw [← S.pre, List.getElem?_take_of_lt (by omega)]; exact h1
    have ndP : ps.Nodup := by rw [← S.pre]; exact S.nd.sublist (List.take_sublist _ _)
    refine ⟨u, rv, ?_⟩
    rcases S.par y (List.mem_of_getElem? hp) with k | k
    · exact .inl ⟨k, bindL_get ndP hp hu k⟩
    · obtain ⟨c, e⟩ := cell_has (n := s.heap.objs.size + 1) k
      refine .inr ⟨.inl k, c, e, ?_⟩
      have q := x.cell y c e
      rw [bindC_get ndP hp hu (by show scope.names.lookup y ≠ _; rw [k]; decide)] at q
      exact q
  · exact e0.hok.fresh (Nat.le_of_lt (x.above y c (PySem.mem_of_lookup h)))
  · unfold start
    show _ = N.length
    rw [List.length_append, List.length_map, List.length_replicate]
    omega
theorem fn_of {CX : CXT} {P : Program} {w : World} {K : PySem.W.Frag} {mg : Str → Option Value} {base : Heap} {k : Nat} {f : Addr} {name qual : Str} {params : Arguments} {body : List Stmt} {scope : Scope} {dV kV doc pm cdv ct oc : Value} {an od : Option Addr}
    {osl : Array (Option Value)} {N ps : List Str} {sp : Sp} (lk : K.lookup f = some ⟨oc, od, .func (PySem.W.fnOf name qual params body scope dV kV doc pm an cdv ct), osl⟩) (hcd : PySem.W.codeIn K cdv qual = true) (S : FnScope N ps scope)
    (len : ∀ vs H Q E, sp vs H Q E → vs.length = ps.length)
    (hbody : ∀ (A : Around) (outer : List Env) (s : Shared) (H : Hp) (vs : List V) (Q : VK) (E : XK), Room k (A.deeper (envOfC qual scope s.heap.objs.size f cdv)) → sp vs H Q E →
      ∃ t, PSs (cxOf CX P w K mg base N qual scope f cdv A outer s H E) body t ∧ t { nx := fun _ H' => Q .non H', rt := Q } (start N vs) H) :
    FnOk P w K mg base CX (k + 1) f (PySem.W.fnOf name qual params body scope dV kV doc pm an cdv ct) ps sp := by
  refine ⟨len, fun A outer s H args us vs Q E hr e0 hb r hsp => ?_⟩
  have hl := len _ _ _ _ hsp
  have KX : K.In s.heap := e0.mod.kin.keeps fun b o e => (e0.bs b o e).1
  have lim : s.heap.NoLimit := e0.mod.nolimit.keeps fun b o e => (e0.bs b o e).1
  have hkind : ∀ y ∈ ps.zip us, scope.names.lookup y.1 = some .local ∨ (scope.names.lookup y.1 = some .cell ∧ ((cellsFrom (s.heap.objs.size + 1) scope.names []).lookup y.1).isSome = true) := fun ⟨n, v⟩ hy => by
    rcases S.par n (List.of_mem_zip hy).1 with q | q
    · exact .inl q
    · exact .inr ⟨q, PySem.W.cellsFrom_some _ _ _ (.inl q)⟩
  refine codeAny_call_function hr.depth (KX _ _ lk) rfl S.co S.gen rfl (PySem.W.codeRec_of KX hcd) (hb _ _ _ _ ?_)
  refine wpAny_newFunctionEnv_cells S.kind hkind fun env he s1 x => ?_
  subst he
  refine ⟨lim.keeps x.toInCall.keep, codeAny_func ?_⟩
  obtain ⟨t, ht, hq⟩ := hbody A outer s H vs Q E (hr.deeper _) hsp
  have I : Inv (cxOf CX P w K mg base N qual scope f cdv A outer s H E) [] (start N vs) H s1 := inv_start S hr.hd e0 hl r x
  refine wpAny_mono (ht [] s1 (start N vs) H _ I hq) (fun fl s' hs => ?_) fun e s' hs => hs
  have fin : ∀ {σ' : St} {H' : Hp} {v : V} {u : Value}, Inv (cxOf CX P w K mg base N qual scope f cdv A outer s H E) [] σ' H' s' → RelV v u → Q v H' → CE outer P w H s Q u s' :=
    fun {σ' H' v u} J rv q => ⟨v, H', J.os, J.bare, J.base, J.hok, rv, q⟩
  cases fl with
  | ret u =>
    obtain ⟨v, σ', H', J, rv, q⟩ := hs
    exact fin J rv q
  | next =>
    obtain ⟨σ', H', J, q⟩ := hs
    exact fin (v := V.non) (u := Value.none) J rfl q
  | brk =>
    obtain ⟨_, _, _, q⟩ := hs
    exact False.elim q
  | cont =>
    obtain ⟨_, _, _, q⟩ := hs
    exact False.elim q
end L2
namespace L2
open PySem PySem.Spec PyProof.Rows
section
variable {X : Cx} {x : Str} {p pos : Pos} {e : Expr} {es : List Expr} {t : TA} {id T : String} {r : List V → Hp → VK → Prop}
noncomputable def tCB (r : List V → Hp → VK → Prop) (t : TA) : TE := fun σ H Q => t σ H fun vs H1 => r vs H1 Q
theorem pe_callB (hc : CallR X (.builtin id) r) (hg : Gl X x) (hm : X.mg x = none) (hv : bootBuiltins x = some (.builtin id)) (ha : PA X (e :: es) t) (hn : x ≠ "__name__" := by decide) (hdb : (x == ("__debug__" : Str)) = false := by decide)
    (he : starEach (e :: es) X.env = (false, eval e X.env) :: starEach es X.env := by rfl) (hpl : (backTo pos (starEach es X.env)).any (·.1) = false := by rfl) : PE X (.Call (.Name x p) (e :: es) [] pos) (tCB r t) := by
  intro pins s σ H Q I h
  refine wpAny_Call_Name_kw (ld_blt I hg hm hv ?_ hn hdb)
  exact PyProof.Rows.callWith_builtin1 (thn (ha pos pins s σ H _ I h) fun us s1 ⟨vs, H1, I1, r1, q1⟩ => hc pins s1 σ H1 vs us Q I1 r1 q1) he hpl
theorem pe_callTy (hc : CallR X (.type T) r) (hg : Gl X x) (hm : X.mg x = none) (hv : bootBuiltins x = some (.type T)) (ha : PA X (e :: es) t) (hn : x ≠ "__name__" := by decide) (hdb : (x == ("__debug__" : Str)) = false := by decide)
    (he : starEach (e :: es) X.env = (false, eval e X.env) :: starEach es X.env := by rfl) (hpl : (backTo pos (starEach es X.env)).any (·.1) = false := by rfl) : PE X (.Call (.Name x p) (e :: es) [] pos) (tCB r t) := by
  intro pins s σ H Q I h
  refine wpAny_Call_Name_kw (ld_blt I hg hm hv ?_ hn hdb)
  exact PyProof.Rows.callWith_type1 (thn (ha pos pins s σ H _ I h) fun us s1 ⟨vs, H1, I1, r1, q1⟩ => hc pins s1 σ H1 vs us Q I1 r1 q1) he hpl
end
end L2
namespace HT
open PySem PyProof.Rows
noncomputable def lexLt : List Int → List Int → Bool
  | [], [] => false
  | [], _ :: _ => true
  | _ :: _, [] => false
  | x :: xs, y :: ys => if x = y then lexLt xs ys else decide (x < y)
section
open PySem.SeqAt
open PySem.AutoSeq1 (wpAny_loadPart')
open PySem.MeetsSeq PySem.MeetsSeq2 PySem.MeetsSeq3
end
section
variable {prog : Program} {w : World} {A : Around} {E : Value → Shared → Prop} {s : Shared}
noncomputable def sIx (n d : Nat) : Option Int → Nat
  | none => d
  | some v => if v < 0 then (v + (n : Int)).toNat else min v.toNat n
theorem sIx_none (n d : Nat) : sIx n d none = d := rfl
theorem sIx_nat (n d k : Nat) : sIx n d (some (k : Int)) = min k n := by
  show (if (k : Int) < 0 then ((k : Int) + (n : Int)).toNat else min (k : Int).toNat n) = min k n
  rw [if_neg (by omega), Int.toNat_natCast]
end
end HT
namespace L2
open PySem PySem.Spec PyProof.Rows
abbrev TO := St → Hp → (Option Int → Hp → Prop) → Prop
noncomputable def PO (X : Cx) (e : Option Expr) (t : TO) : Prop :=
  ∀ (pins : List (Addr × Obj)) (s : Shared) (σ : St) (H : Hp) (Q : Option Int → Hp → Prop), Inv X pins σ H s → t σ H Q →
    wpAny (model X.prog X.w) X.A (evalPart e X.env) (fun u s' => ∃ o H', Inv X pins σ H' s' ∧ IsPart u o ∧ Q o H') X.xe s
noncomputable def tNoPart : TO := fun _ H Q => Q none H
noncomputable def tPart (t : TE) : TO := fun σ H Q => t σ H fun x H1 => ∃ i, x = .int i ∧ Q (some i) H1
section
variable {X : Cx} {e : Expr} {te : TE} {lo hi : Option Expr} {tl th : TO} {pos p2 : Pos}
theorem po_none : PO X none tNoPart := by
  intro pins s σ H Q I h
  rw [evalPart_none]
  exact wpAny_pure ⟨none, H, I, .none, h⟩
theorem po_some (h : PE X e te) : PO X (some e) (tPart te) := by
  intro pins s σ H Q I hw
  rw [evalPart_some]
  refine thn (h pins s σ H _ I hw) fun u s1 ⟨x, H1, I1, r1, q1⟩ => ?_
  obtain ⟨i, rfl, q⟩ := q1
  obtain ⟨t, rfl⟩ := r1
  exact ⟨some i, H1, I1, .int i t, q⟩
noncomputable def SlR (X : Cx) (r : V → Option Int → Option Int → Hp → VK → Prop) : Prop :=
  ∀ (pins : List (Addr × Obj)) (s : Shared) (σ : St) (H : Hp) (x : V) (v vl vu : Value) (lo hi : Option Int) (sl : Addr) (Q : VK), Inv X pins σ H s → RelV x v → s.heap.IsSliceOf sl vl vu .none → IsPart vl lo → IsPart vu hi → r x lo hi H Q →
    ∃ T id, typeLookup (.type T) "__getitem__" = pure (some (.builtin id)) ∧ s.TypeIs v T ∧ wpAny (model X.prog X.w) X.A (getItem v (.ref sl)) (EP X pins σ Q) X.xe s
noncomputable def tSl (r : V → Option Int → Option Int → Hp → VK → Prop) (te : TE) (tl th : TO) : TE := fun σ H Q => te σ H fun x H1 => tl σ H1 fun l H2 => th σ H2 fun u H3 => r x l u H3 Q
theorem pe_slice {r : V → Option Int → Option Int → Hp → VK → Prop} (hr : SlR X r) (he : PE X e te) (hl : PO X lo tl) (hu : PO X hi th) : PE X (.Subscript e (.Slice lo hi none p2) pos) (tSl r te tl th) := by
  intro pins s σ H Q I h
  refine Subscript_ (thn (he pins s σ H _ I h) fun v s1 ⟨x, H1, I1, r1, q1⟩ => ?_)
  refine wpAny_Slice (thn (hl pins s1 σ H1 _ I1 q1) fun vl s2 ⟨l, H2, I2, pl, q2⟩ => thn (hu pins s2 σ H2 _ I2 q2) fun vu s3 ⟨u, H3, I3, pu, q3⟩ => ?_)
  rw [evalPart_none]
  refine wpAny_pure ?_
  have I4 : Inv X pins σ H3 { s3 with heap := s3.heap.push { cls := .type "slice", data := .fields #[vl, vu, .none] } } := I3.kept (t' := s3.toks) fun b ob q => Heap.get?_push_of_some _ q
  obtain ⟨T, id, hT, ht, hg⟩ := hr pins { s3 with heap := s3.heap.push { cls := .type "slice", data := .fields #[vl, vu, .none] } } σ H3 x v vl vu l u s3.heap.objs.size Q I4 r1 (Heap.IsSliceOf.new ..) pl pu q3
  show wpAny (model X.prog X.w) X.A (subscriptTail e (.Slice lo hi none p2) v (.ref s3.heap.objs.size)) (EP X pins σ Q) X.xe { s3 with heap := s3.heap.push { cls := .type "slice", data := .fields #[vl, vu, .none] } }
  exact tail_any (ops := [.ref s3.heap.objs.size, v]) ht hT hg (by with_unfolding_all rfl)
noncomputable def cutV (xs : List V) (lo hi : Option Int) : List V := (xs.drop (HT.sIx xs.length 0 lo)).take (HT.sIx xs.length xs.length hi - HT.sIx xs.length 0 lo)
theorem cutV_length (xs : List V) (lo hi : Option Int) : (cutV xs lo hi).length ≤ xs.length := by
  unfold cutV
  rw [List.length_take, List.length_drop]
  omega
noncomputable def rSlT (K : PySem.W.Frag) : V → Option Int → Option Int → Hp → VK → Prop := fun x lo hi H Q => ∃ a xs, x = .ref a ∧ SqT K H a xs ∧
  ¬ (HT.sIx xs.length 0 lo = 0 ∧ HT.sIx xs.length xs.length hi = xs.length) ∧ ∀ p, H p = none → Q (.ref p) (upd H p (.tup (cutV xs lo hi)))
noncomputable def rLtT (K : PySem.W.Frag) : R2 := fun x y H Q => ∃ a b ns ms, x = .ref a ∧ y = .ref b ∧ SqT K H a (ns.map V.int) ∧ SqT K H b (ms.map V.int) ∧ Q (.bl (HT.lexLt ns ms)) H
noncomputable def rCatT (K : PySem.W.Frag) : R2 := fun x y H Q => ∃ a b xs ys, x = .ref a ∧ y = .ref b ∧ SqT K H a xs ∧ SqT K H b ys ∧ xs ≠ [] ∧ xs.length + ys.length ≤ sizeLine ∧
  (ys = [] → Q (.ref a) H) ∧ (ys ≠ [] → ∀ p, H p = none → Q (.ref p) (upd H p (.tup (xs ++ ys))))
end
end L2
namespace L2
open PySem PySem.Spec PyProof.Rows
noncomputable def ixN (n : Nat) (i : Int) : Option Nat := if 0 ≤ i then (if i < n then some i.toNat else none) else if -(n : Int) ≤ i then some (i + n).toNat else none
noncomputable def atI {α : Type} (xs : List α) (i : Int) : Option α := (ixN xs.length i).bind fun j => xs[j]?
theorem ixN_seq {n : Nat} {i : Int} {j : Nat} (h : ixN n i = some j) : seqIndex? i n = some j ∧ j < n ∧ -(n : Int) ≤ i ∧ i < n := by
  unfold ixN at h
  by_cases h0 : 0 ≤ i
  · rw [if_pos h0] at h
    by_cases h1 : i < n
    · rw [if_pos h1] at h
      have e : i.toNat = j := Option.some.inj h
      exact ⟨by rw [seqIndex_of h0 h1, e], by omega, by omega, h1⟩
    · rw [if_neg h1] at h; cases h
  · rw [if_neg h0] at h
    by_cases h1 : -(n : Int) ≤ i
    · rw [if_pos h1] at h
      have e : (i + n).toNat = j := Option.some.inj h
      exact ⟨by rw [seqIndex_neg (by omega) h1, e], by omega, h1, by omega⟩
    · rw [if_neg h1] at h; cases h
theorem atI_get {α : Type} {xs : List α} {i : Int} {v : α} (h : atI xs i = some v) : ∃ j, seqIndex? i xs.length = some j ∧ xs[j]? = some v ∧ j < xs.length ∧ -(xs.length : Int) ≤ i ∧ i < xs.length := by
  unfold atI at h
  cases e : ixN xs.length i with
  | none => rw [e] at h; cases h
  | some j =>
    rw [e] at h
    obtain ⟨h1, h2, h3, h4⟩ := ixN_seq e
    exact ⟨j, h1, h, h2, h3, h4⟩
theorem atI_nat {α : Type} {xs : List α} {j : Nat} {v : α} (h : xs[j]? = some v) : atI xs (j : Int) = some v := by
  have hj : j < xs.length := (List.getElem?_eq_some_iff.mp h).1
  have e : ixN xs.length (j : Int) = some j := by
    unfold ixN
    rw [if_pos (by omega), if_pos (by omega)]; simp
  unfold atI; rw [e]; exact h
noncomputable def PlainIx (b : Expr) : Prop := ∀ o i, subscripted b false o i = operate [o, i] (getItem o i)
noncomputable def IxR (X : Cx) (r : R2) : Prop :=
  ∀ (value slice : Expr) (pins : List (Addr × Obj)) (s : Shared) (σ : St) (H : Hp) (x y : V) (v u : Value) (Q : VK), Inv X pins σ H s → RelV x v → RelV y u → r x y H Q →
    subscripted slice false v u = operate [v, u] (getItem v u) → wpAny (model X.prog X.w) X.A (subscriptTail value slice v u) (EP X pins σ Q) X.xe s
noncomputable def MtR (X : Cx) (id : String) (r : V → List V → Hp → VK → Prop) : Prop :=
  ∀ (pins : List (Addr × Obj)) (s : Shared) (σ : St) (H : Hp) (x : V) (xs : List V) (v : Value) (us : List Value) (Q : VK), Inv X pins σ H s → RelV x v → Vals xs us → r x xs H Q →
    wpAny (model X.prog X.w) X.A (call (.builtin id) (v :: us)) (EP X pins σ Q) X.xe s
section
variable {X : Cx} {a b : Expr} {ta tb : TE} {pos : Pos}
theorem IxR.or {r r' : R2} (h : IxR X r) (h' : IxR X r') : IxR X (fun x y H Q => r x y H Q ∨ r' x y H Q) := by
  intro value slice pins s σ H x y v u Q I rx ry q hs
  rcases q with q | q
  · exact h value slice pins s σ H x y v u Q I rx ry q hs
  · exact h' value slice pins s σ H x y v u Q I rx ry q hs
theorem pe_ix {r : R2} (hr : IxR X r) (ha : PE X a ta) (hb : PE X b tb) (hs : PlainIx b) : PE X (.Subscript a b pos) (tOp r ta tb) := by
  intro pins s σ H Q I h
  exact Subscript_ (binT ha hb I h fun v u s2 x y H2 I2 rx ry q => hr a b pins s2 σ H2 x y v u Q I2 rx ry q (hs _ _))
noncomputable def rIxL (K : PySem.W.Frag) : R2 := fun x y H Q => ∃ p xs i v, x = .ref p ∧ y = .int i ∧ SqL K H p xs ∧ atI xs i = some v ∧ Q v H
noncomputable def rIxT (K : PySem.W.Frag) : R2 := fun x y H Q => ∃ p xs i v, x = .ref p ∧ y = .int i ∧ SqT K H p xs ∧ atI xs i = some v ∧ Q v H
noncomputable def rIxS : R2 := fun x y H Q => ∃ z i c, x = .str z ∧ y = .int i ∧ z.length ≤ sizeLine ∧ atI z.cps.toList i = some c ∧ Q (.str ⟨#[c]⟩) H
theorem ix_list : IxR X (rIxL X.K) := by
  intro value slice pins s σ H x y v u Q I rx ry h hs
  obtain ⟨p, xs, i, z, rfl, rfl, hq, he, q⟩ := h
  cases rx
  obtain ⟨t, rfl⟩ := ry
  obtain ⟨its, r, pl, hz⟩ := I.list hq
  obtain ⟨j, h1, h2, h3, h4, h5⟩ := atI_get he
  obtain ⟨w, ew, rw'⟩ := r.get h2
  have hl := r.length
  have hn := line63
  have fin : EP X pins σ Q w s := ⟨z, H, I, rw', q⟩
  by_cases h0 : 0 ≤ i
  · have hj : i.toNat = j := by
      rw [seqIndex_of h0 h5] at h1
      exact Option.some.inj h1
    exact item_listR pl.isList h0 (by omega) (by rw [hj]; simpa using ew) fin hs
  · have hj : (i + (its.toArray.size : Int)).toNat = j := by
      rw [seqIndex_neg (by omega) h4] at h1
      rw [List.size_toArray, ← hl]
      exact Option.some.inj h1
    exact subscriptTail_builtinR (x := w) pl.isList.typeIs slot_list_getitem.lookup
      (wpAny_getItem_list_neg (Q := fun r s' => r = w ∧ EP X pins σ Q r s') pl.isList (by omega) (by rw [List.size_toArray] <;> omega) (by omega) (by rw [hj]; simpa using ew) ⟨rfl, fin⟩) hs
theorem ix_tup : IxR X (rIxT X.K) := by
  intro value slice pins s σ H x y v u Q I rx ry h hs
  obtain ⟨p, xs, i, z, rfl, rfl, hq, he, q⟩ := h
  cases rx
  obtain ⟨t, rfl⟩ := ry
  obtain ⟨its, r, pl, hz⟩ := I.tuple hq
  obtain ⟨j, h1, h2, h3, h4, h5⟩ := atI_get he
  obtain ⟨w, ew, rw'⟩ := r.get h2
  have hl := r.length
  have hn := line63
  have fin : EP X pins σ Q w s := ⟨z, H, I, rw', q⟩
  exact subscriptTail_builtinR (x := w) pl.typeIs slot_tuple_getitem.lookup
    (getItem_tuple (j := j) (Q := fun r s' => r = w ∧ EP X pins σ Q r s') pl (by omega) (by omega) (by rw [List.size_toArray, ← hl]; exact h1) (by simpa using ew) ⟨rfl, fin⟩) hs
theorem ix_str : IxR X rIxS := by
  intro value slice pins s σ H x y v u Q I rx ry h hs
  obtain ⟨z, i, c, rfl, rfl, hz, he, q⟩ := h
  obtain ⟨t, rfl⟩ := rx
  obtain ⟨t', rfl⟩ := ry
  obtain ⟨j, h1, h2, h3, h4, h5⟩ := atI_get he
  have hl : z.cps.toList.length = z.length := by simp [Str.length]
  rw [hl] at h1 h4 h5
  have hn := line63
  exact tail_any (typeIs_str s z t) slot_str_getitem.lookup (getItem_str (c := c) (by
    have e1 : decide (i < -(2 ^ 63 : Int)) = false := decide_eq_false (by omega)
    have e2 : decide (i ≥ 2 ^ 63) = false := decide_eq_false (by omega)
    rw [e1, e2, Bool.or_false]) (by rw [h1]; simpa using h2) ⟨.str ⟨#[c]⟩, H, I.tok _, ⟨_, rfl⟩, q⟩) hs
noncomputable def rIx (K : PySem.W.Frag) : R2 := fun x y H Q => rIxL K x y H Q ∨ rIxT K x y H Q ∨ rIxS x y H Q
theorem ix_seq : IxR X (rIx X.K) := ix_list.or (ix_tup.or ix_str)
theorem mapSeq_set (its : List Value) (n j : Nat) (u : Value) : Obj.mapSeq (·.setIfInBounds j u) { cls := .type "list", data := .seq its.toArray n } = { cls := .type "list", data := .seq (its.set j u).toArray n } := by
  simp [Obj.mapSeq]
theorem Inv.lst {pins : List (Addr × Obj)} {σ : St} {H : Hp} {s : Shared} {p : Addr} {xs : List V} (I : Inv X pins σ H s) (h : H p = some (.lst xs)) :
    ∃ (its : List Value) (n : Nat), Vals xs its ∧ s.heap.get? p = some { cls := .type "list", data := .seq its.toArray n } ∧ xs.length ≤ sizeLine := by
  obtain ⟨z, its, n, r, e⟩ := I.hok p _ h
  exact ⟨its, n, r, e, z⟩
theorem Inv.lstUpd {pins : List (Addr × Obj)} {σ : St} {H : Hp} {s : Shared} {p : Addr} {xs ys : List V} {its its' : List Value} {n n' : Nat} {f : Obj → Obj} (I : Inv X pins σ H s) (h : H p = some (.lst xs))
    (ho : s.heap.get? p = some { cls := .type "list", data := .seq its.toArray n }) (hf : f { cls := .type "list", data := .seq its.toArray n } = { cls := .type "list", data := .seq its'.toArray n' }) (r : Vals ys its') (hz : ys.length ≤ sizeLine) (t : Nat) :
    Inv X pins σ (upd H p (.lst ys)) { s with heap := s.heap.update p f, toks := t } := by
  have e : (s.heap.update p f).get? p = some { cls := .type "list", data := .seq its'.toArray n' } := by
    rw [Heap.get?_update_self f ho (by rw [hf] <;> rfl), hf]
  refine I.write (x := p) (e := p) (by rw [h]; trivial) (.inl rfl) (fun b u hb q => (Heap.get?_update_other _ _ (Ne.symm hb)).trans q) ⟨_, e⟩ ?_
  exact ⟨hz, its', n', r, e⟩
noncomputable def rSetL : V → V → V → Hp → (Hp → Prop) → Prop := fun o i v H Q => ∃ p xs k j, o = .ref p ∧ i = .int k ∧ H p = some (.lst xs) ∧ ixN xs.length k = some j ∧ Q (upd H p (.lst (xs.set j v)))
theorem set_list : PSet X rSetL := by
  intro pins s σ H o i v ov iv u Q I ro ri rv h
  obtain ⟨p, xs, k, j, rfl, rfl, hp, hj, q⟩ := h
  cases ro
  obtain ⟨t, rfl⟩ := ri
  obtain ⟨its, n, r, ho, hz⟩ := I.lst hp
  obtain ⟨h1, h2, h3, h4⟩ := ixN_seq hj
  have hl := r.length
  have hn := line63
  have I' : Inv X pins σ (upd H p (.lst (xs.set j v))) { s with heap := s.heap.update p (Obj.mapSeq (·.setIfInBounds j u)) } :=
    I.lstUpd hp ho (mapSeq_set its n j u) (r.set rv j) (by rw [List.length_set]; exact hz) s.toks
  by_cases h0 : 0 ≤ k
  · have hk : k.toNat = j := by
      rw [seqIndex_of h0 h4] at h1
      exact Option.some.inj h1
    exact PySem.W.ki_setAt ho h0 (by omega) (by rw [List.size_toArray, ← hl]; exact h4) (by rw [hk]; exact ⟨_, I', q⟩)
  · have hk : (k + (its.toArray.size : Int)).toNat = j := by
      rw [seqIndex_neg (by omega) h3] at h1
      rw [List.size_toArray, ← hl]
      exact Option.some.inj h1
    exact PySem.W.ki_setBack ho (by omega) (by rw [List.size_toArray, ← hl]; exact h3) (by omega) (by rw [hk]; exact ⟨_, I', q⟩)
theorem slice_bounds (lo hi : Option Int) (n : Nat) : (sliceBounds lo hi none n).1 = ((HT.sIx n 0 lo : Nat) : Int) ∧ (sliceBounds lo hi none n).2.1 = ((HT.sIx n n hi : Nat) : Int) ∧ (sliceBounds lo hi none n).2.2 = 1 := by
  refine ⟨?_, ?_, rfl⟩
  · cases lo with
    | none => simp [sliceBounds, HT.sIx]
    | some i =>
      simp only [sliceBounds, HT.sIx, Option.getD_none, show (1 : Int) > 0 by decide, if_true]
      by_cases h : i < 0
      · simp only [h, if_true] <;> omega
      · simp only [h, if_false] <;> omega
  · cases hi with
    | none => simp [sliceBounds, HT.sIx]
    | some i =>
      simp only [sliceBounds, HT.sIx, Option.getD_none, show (1 : Int) > 0 by decide, if_true]
      by_cases h : i < 0
      · simp only [h, if_true] <;> omega
      · simp only [h, if_false] <;> omega
theorem slicePick_cut (its : List Value) (lo hi : Option Int) : slicePick its.toArray lo hi none = ((its.drop (HT.sIx its.length 0 lo)).take (HT.sIx its.length its.length hi - HT.sIx its.length 0 lo)).toArray := by
  obtain ⟨h1, h2, h3⟩ := slice_bounds lo hi its.toArray.size
  unfold slicePick
  rw [h1, h2, h3]
  simp only [sliceRange_one, pick_run, List.size_toArray] <;> rfl
noncomputable def rSlL (K : PySem.W.Frag) : V → Option Int → Option Int → Hp → VK → Prop := fun x lo hi H Q => ∃ a xs, x = .ref a ∧ SqL K H a xs ∧ ∀ p, H p = none → Q (.ref p) (upd H p (.lst (cutV xs lo hi)))
theorem sl_list : SlR X (rSlL X.K) := by
  intro pins s σ H x v vl vu lo hi sl Q I rx hs pl pu h
  obtain ⟨a, xs, rfl, hx, q⟩ := h
  cases rx
  obtain ⟨its, r, ht, hz⟩ := I.list hx
  have hlen := r.length
  refine ⟨"list", _, slot_list_getitem.lookup, ht.isList.typeIs, ?_⟩
  refine wpAny_getItem_list_slice ht.isList hs pl pu .none (by simp) ?_ (by rw [List.size_toArray] <;> omega)
  rw [slicePick_cut, ← hlen]
  refine ⟨.ref s.heap.objs.size, _, I.laid (t' := s.toks) (o := .lst (cutV xs lo hi)) (fun b ob q => Heap.get?_push_of_some _ q) (Nat.le_refl _) ?_, rfl, q _ (I.hok.fresh (Nat.le_refl _))⟩
  exact ⟨Nat.le_trans (cutV_length xs lo hi) hz, _, 0, (r.drop (HT.sIx xs.length 0 lo)).take (HT.sIx xs.length xs.length hi - HT.sIx xs.length 0 lo), Heap.get?_push_size _ rfl⟩
noncomputable def flatV : V → Bool
  | .non => true
  | .bl _ => true
  | .int _ => true
  | .str _ => true
  | _ => false
noncomputable def eqV : V → V → Bool
  | .non, .non => true
  | .bl a, .bl b => a == b
  | .bl a, .int b => (if a then 1 else 0) == b
  | .int a, .bl b => a == (if b then 1 else 0)
  | .int a, .int b => a == b
  | .str a, .str b => a == b
  | _, _ => false
noncomputable def eqU (x : V) (u : Value) : Bool := match u with
  | .none => eqV .non x
  | .bool b => eqV (.bl b) x
  | .int i _ => eqV (.int i) x
  | .str z _ => eqV (.str z) x
  | _ => false
noncomputable def inV (x : V) (xs : List V) : Bool := xs.any fun y => eqV y x
noncomputable def rIn (K : PySem.W.Frag) (neg : Bool) : R2 := fun x y H Q => ∃ p xs, y = .ref p ∧ (SqL K H p xs ∨ SqT K H p xs) ∧ flatV x = true ∧ xs.all flatV = true ∧ Q (.bl (if neg then !inV x xs else inV x xs)) H
theorem call_len_seq : CallR X (.builtin "len") (fun xs H Q => ∃ p ys, xs = [.ref p] ∧ (SqL X.K H p ys ∨ SqT X.K H p ys) ∧ Q (.int ys.length) H) := by
  intro pins s σ H xs us Q I r h
  obtain ⟨p, ys, rfl, hq, q⟩ := h
  obtain ⟨u, rfl, rx⟩ := vals1 r
  cases rx
  have hn := line63
  rcases hq with hq | hq
  · obtain ⟨its, r', pl, hz⟩ := I.list hq
    have hlen := r'.length
    exact Calls.call_len_list pl.isList (by simp only [List.size_toArray] <;> omega) ⟨.int ys.length, H, I.tok _, ⟨s.toks + 1, by rw [List.size_toArray, hlen]⟩, q⟩
  · obtain ⟨its, r', pl, hz⟩ := I.tuple hq
    have hlen := r'.length
    exact len_tuple pl (by simp only [List.size_toArray] <;> omega) ⟨.int ys.length, H, I.tok _, ⟨s.toks + 1, by rw [List.size_toArray, hlen]⟩, q⟩
theorem call_len_str : CallR X (.builtin "len") (fun xs H Q => ∃ z, xs = [.str z] ∧ z.length ≤ sizeLine ∧ Q (.int z.length) H) := by
  intro pins s σ H xs us Q I r h
  obtain ⟨z, rfl, hz, q⟩ := h
  obtain ⟨u, rfl, t, rfl⟩ := vals1 r
  have hn := line63
  exact len_str (by omega) ⟨.int z.length, H, I.tok _, ⟨_, rfl⟩, q⟩
theorem call_list_of : CallR X (.type "list") (fun xs H Q => ∃ p ys, xs = [.ref p] ∧ (SqL X.K H p ys ∨ SqT X.K H p ys) ∧ ∀ l, H l = none → Q (.ref l) (upd H l (.lst ys))) := by
  intro pins s σ H xs us Q I r h
  obtain ⟨p, ys, rfl, hq, q⟩ := h
  obtain ⟨u, rfl, rx⟩ := vals1 r
  cases rx
  have fin : ∀ (its : List Value), Vals ys its → ys.length ≤ sizeLine → ∀ (h' : Heap) (c' : Nat), (∀ b o', s.heap.get? b = some o' → h'.get? b = some o') →
      h'.get? s.heap.objs.size = some { cls := .type "list", dict := none, data := .seq its.toArray c', slots := #[] } → EP X pins σ Q (.ref s.heap.objs.size) { s with heap := h' } := fun its r' hz h' c' kp e =>
    ⟨.ref s.heap.objs.size, _, I.laid (t' := s.toks) kp (Nat.le_refl _) (show ObjOk X.prog X.w _ h' _ (.lst ys) from ⟨hz, its, c', r', e⟩), rfl, q _ (I.hok.fresh (Nat.le_refl _))⟩
  rcases hq with hq | hq
  · obtain ⟨its, r', pl, hz⟩ := I.list hq
    have hlen := r'.length
    obtain ⟨o, ho, hc, n, hd⟩ := pl.isList
    exact call_list_seq p (.inl rfl) ho hc hd (fun h' c' kp e => fin its r' hz h' c' kp e) (by simp only [List.size_toArray] <;> omega)
  · obtain ⟨its, r', pl, hz⟩ := I.tuple hq
    have hlen := r'.length
    obtain ⟨o, ho, hc, n, hd⟩ := pl
    exact call_list_seq p (.inr rfl) ho hc hd (fun h' c' kp e => fin its r' hz h' c' kp e) (by simp only [List.size_toArray] <;> omega)
theorem call_tuple_of : CallR X (.type "tuple") (fun xs H Q => ∃ p ys, xs = [.ref p] ∧ ((SqL X.K H p ys ∧ ∀ l, H l = none → Q (.ref l) (upd H l (.tup ys))) ∨ (SqT X.K H p ys ∧ Q (.ref p) H))) := by
  intro pins s σ H xs us Q I r h
  obtain ⟨p, ys, rfl, h⟩ := h
  obtain ⟨u, rfl, rx⟩ := vals1 r
  cases rx
  rcases h with ⟨hq, q⟩ | ⟨hq, q⟩
  · obtain ⟨its, r', pl, hz⟩ := I.list hq
    have hlen := r'.length
    refine call_tuple_list pl.isList (fun h' kp => ?_) (by simp only [List.size_toArray] <;> omega)
    have I1 : Inv X pins σ H { s with heap := h' } := I.kept (t' := s.toks) kp
    have I2 : Inv X pins σ (upd H h'.objs.size (.tup ys)) { s with heap := h'.push { cls := .type "tuple", data := .seq its.toArray } } :=
      I1.laid (t' := s.toks) (fun b o e => Heap.get?_push_of_some _ e) (Nat.le_refl _) (show ObjOk X.prog X.w _ _ _ (.tup ys) from ⟨hz, its, r', IsTup.new _ _⟩)
    exact ⟨.ref h'.objs.size, _, I2, rfl, q _ (I1.hok.fresh (Nat.le_refl _))⟩
  · obtain ⟨its, r', pl, hz⟩ := I.tuple hq
    exact call_tuple_same pl ⟨.ref p, H, I, rfl, q⟩
noncomputable def tyV (K : PySem.W.Frag) (T : String) (x : V) (H : Hp) : Prop := match x with
  | .str _ => T = "str"
  | .int _ => T = "int"
  | .ref p => (T = "list" ∧ ∃ xs, SqL K H p xs) ∨ (T = "tuple" ∧ ∃ o, K.lookup p = some o ∧ o.cls = .type "tuple" ∧ o.dict = none) ∨
      (T = "dict" ∧ ((∃ kvs, H p = some (.dK kvs)) ∨ ∃ kvs, H p = some (.dT kvs))) ∨ (T = "set" ∧ ∃ S n, H p = some (.set S n))
  | _ => False
theorem tyV_is {pins : List (Addr × Obj)} {σ : St} {H : Hp} {s : Shared} {T : String} {x : V} {v : Value} (I : Inv X pins σ H s) (r : RelV x v) (ty : tyV X.K T x H) :
    s.TypeIs v T ∧ ∀ a, v = .ref a → ∃ ob, s.heap.get? a = some ob ∧ ob.dict = none := by
  cases x with
  | str z =>
    obtain ⟨t, rfl⟩ := r
    cases (show T = "str" from ty)
    exact ⟨typeIs_str s z t, fun _ e => nomatch e⟩
  | int i =>
    obtain ⟨t, rfl⟩ := r
    cases (show T = "int" from ty)
    exact ⟨typeIs_int s i t, fun _ e => nomatch e⟩
  | ref p =>
    cases r
    rcases ty with ⟨rfl, xs, hq⟩ | ⟨rfl, o, hk, hc, hd⟩ | ⟨rfl, hk⟩ | ⟨rfl, S, n, hk⟩
    · obtain ⟨its, _, pl, _⟩ := I.list hq
      refine ⟨pl.isList.typeIs, fun a e => ?_⟩
      cases e
      obtain ⟨o, n, e, c, hd, _⟩ := pl
      exact ⟨o, e, hd⟩
    · refine ⟨⟨o, I.kIn p o hk, hc⟩, fun a e => ?_⟩
      cases e
      exact ⟨o, I.kIn _ o hk, hd⟩
    · have z : ∃ o, s.heap.get? p = some o ∧ o.ExactDict := by
        rcases hk with ⟨kvs, hk⟩ | ⟨kvs, hk⟩
        · obtain ⟨_, _, _, _, o, _, _, e, ex, _⟩ := I.hok p _ hk
          exact ⟨o, e, ex⟩
        · obtain ⟨_, _, _, _, o, _, _, e, ex, _⟩ := I.hok p _ hk
          exact ⟨o, e, ex⟩
      obtain ⟨o, e, ex⟩ := z
      refine ⟨⟨o, e, ex.1⟩, fun a e2 => ?_⟩
      cases e2
      exact ⟨o, e, ex.2.1⟩
    · obtain ⟨o, _, _, _, e, ex, _⟩ := I.hok p _ hk
      refine ⟨⟨o, e, ex.1⟩, fun a e2 => ?_⟩
      cases e2
      exact ⟨o, e, ex.2.1⟩
  | _ => exact False.elim ty
noncomputable def tBM0 (K : PySem.W.Frag) (T : String) (r : V → List V → Hp → VK → Prop) (to : TE) : TE := fun σ H Q => to σ H fun x H1 => tyV K T x H1 ∧ r x [] H1 Q
noncomputable def tBM (K : PySem.W.Frag) (T : String) (r : V → List V → Hp → VK → Prop) (to : TE) (t : TA) : TE := fun σ H Q => to σ H fun x H1 => tyV K T x H1 ∧ t σ H1 fun xs H2 => r x xs H2 Q
variable {o e : Expr} {es : List Expr} {to : TE} {t : TA} {name : Str} {apos cpos : Pos} {T id : String} {r : V → List V → Hp → VK → Prop}
theorem pe_bm (pa : PlainAttrs T) (slot : Slot T name id) (hty : typeOf (.builtin id) = pure (.type "method_descriptor")) (hm : MtR X id r) (ho : PE X o to) (ha : PA X (e :: es) t)
    (hbase : attributeBase o name X.env (eval o X.env) = eval o X.env := by rfl)
    (hfew : ((backTo cpos (starEach (e :: es) X.env)).all (fun x => !x.1) && (backToKw cpos (keywordEach [] X.env)).all (fun x => x.1.isSome)
      && decide ((e :: es).length + ([] : List Keyword).length + (if ([] : List Keyword).isEmpty then 0 else 1) < 30)) = true := by rfl)
    (hline : (apos.endLine == cpos.line) = true := by rfl) (hs : starEach (e :: es) X.env = (false, eval e X.env) :: starEach es X.env := by rfl) (hplain : (backTo cpos (starEach es X.env)).any (·.1) = false := by rfl) :
    PE X (.Call (.Attribute o name apos) (e :: es) [] cpos) (tBM X.K T r to t) := by
  intro pins s σ H Q I h
  refine wpAny_Call_method_late hbase hfew hline rfl (thn (ho pins s σ H _ I h) fun v s1 ⟨x, H1, I1, r1, ty, q1⟩ => ?_)
  obtain ⟨h1, h2⟩ := tyV_is I1 r1 ty
  refine ⟨T, id, pa, slot, hty, h1, h2, ?_⟩
  have hA := ha cpos pins s1 σ H1 _ I1 q1
  rw [hs] at hA ⊢
  refine Calls.callWith_builtin (by show (false || (backTo cpos (starEach es X.env)).any (·.1)) = false; rw [hplain] <;> rfl) (Calls.evalArgs_plain ?_)
  exact thn hA fun us s2 ⟨vs, H2, I2, r2, q2⟩ => hm pins s2 σ H2 x vs v us Q I2 r1 r2 q2
end
end L2
namespace L2
open PySem PySem.Spec PyProof.Rows
noncomputable def MtM (X : Cx) (id : String) (r : V → List V → Hp → VK → Prop) : Prop :=
  ∀ (pins : List (Addr × Obj)) (s : Shared) (σ : St) (H : Hp) (x : V) (xs : List V) (v : Value) (us : List Value) (Q : VK), Inv X pins σ H s → RelV x v → Vals xs us → r x xs H Q →
    wpAny (model X.prog X.w) X.A (call (.builtin id) (v :: us)) (EP X pins σ Q) X.xe s
theorem Vals.one : ∀ {x : V} {us : List Value}, Vals [x] us → ∃ u, us = [u] ∧ RelV x u
  | _, _, .cons r .nil => ⟨_, rfl, r⟩
theorem Vals.eraseIdx : ∀ {xs : List V} {us : List Value} (i : Nat), Vals xs us → Vals (xs.eraseIdx i) (us.eraseIdx i)
  | _, _, _, .nil => .nil
  | _, _, 0, .cons _ t => t
  | _, _, i + 1, .cons r t => .cons r (Vals.eraseIdx i t)
theorem len_erase {α : Type} : ∀ (l : List α) (i : Nat), (l.eraseIdx i).length ≤ l.length
  | [], _ => Nat.le_refl _
  | _ :: _, 0 => Nat.le_succ _
  | _ :: r, i + 1 => Nat.succ_le_succ (len_erase r i)
section
variable {X : Cx} {pins : List (Addr × Obj)} {σ : St} {H : Hp} {s : Shared} {l b : Addr} {xs ys zs : List V}
theorem Inv.lset {its its' : List Value} {n : Nat} {f : Array Value → Array Value} {t' : Nat} (I : Inv X pins σ H s) (hH : H l = some (.lst xs))
    (e : s.heap.get? l = some { cls := .type "list", data := .seq its.toArray n }) (hf : f its.toArray = its'.toArray) (hv : Vals ys its') (hz : ys.length ≤ sizeLine) :
    Inv X pins σ (upd H l (.lst ys)) { s with heap := s.heap.update l (Obj.mapSeq f), toks := t' } := by
  have q := PySem.IsL.update e f
  rw [hf] at q
  refine I.write (x := l) (e := l) (by rw [hH]; exact trivial) (.inl rfl) (fun b' u hb hu => (Heap.get?_update_other s.heap (Obj.mapSeq f) (Ne.symm hb)).trans hu) ⟨_, q⟩ ?_
  exact ⟨hz, its', _, hv, q⟩
theorem Inv.lnew {its : List Value} {t' : Nat} (I : Inv X pins σ H s) (hv : Vals ys its) (hz : ys.length ≤ sizeLine) :
    Inv X pins σ (upd H s.heap.objs.size (.lst ys)) { s with heap := s.heap.push { cls := .type "list", data := .seq its.toArray }, toks := t' } :=
  I.laid (fun _ _ q => Heap.get?_push_of_some _ q) (Nat.le_refl _) ⟨hz, its, 0, hv, Heap.get?_push_size _ rfl⟩
theorem Inv.fresh (I : Inv X pins σ H s) : H s.heap.objs.size = none := I.hok.fresh (Nat.le_refl _)
theorem Inv.lstM (I : Inv X pins σ H s) (hH : H l = some (.lst xs)) : xs.length ≤ sizeLine ∧ ∃ (its : List Value) (n : Nat), Vals xs its ∧ xs.length = its.length ∧ s.heap.get? l = some { cls := .type "list", data := .seq its.toArray n } := by
  obtain ⟨z, its, n, r, e⟩ := I.hok l _ hH
  exact ⟨z, its, n, r, r.length, e⟩
theorem notLongL {n : Nat} (h : n ≤ sizeLine) : Builtin.List.listTooLong n = false := by
  unfold Builtin.List.listTooLong
  exact decide_eq_false (by omega)
end
section
variable {X : Cx}
noncomputable def rAppend : V → List V → Hp → VK → Prop := fun x vs H Q => ∃ l xs y, x = .ref l ∧ vs = [y] ∧ H l = some (.lst xs) ∧ xs.length < sizeLine ∧ Q .non (upd H l (.lst (xs ++ [y])))
theorem mt_append : MtM X "list.append" rAppend := by
  intro pins s σ H x vs v us Q I rx rv h
  obtain ⟨l, xs, y, rfl, rfl, hH, hz, q⟩ := h
  cases rx
  obtain ⟨u, rfl, ru⟩ := rv.one
  obtain ⟨z, its, n, r, hl, e⟩ := I.lstM hH
  refine call_meets F.slot_list_append ⟨_, e, rfl⟩ F.entry_list_append (F.args_list_append_2 _ _) (PySem.list_append l its.toArray n u (by rw [List.size_toArray]; omega)) ⟨e, ?_⟩
  refine ⟨.non, _, I.lset (its' := its ++ [u]) hH e (by simp) (r.append (.cons ru .nil)) ?_, rfl, q⟩
  rw [List.length_append, List.length_singleton]
  omega
noncomputable def rExtend : V → List V → Hp → VK → Prop := fun x vs H Q => ∃ l b xs zs, x = .ref l ∧ vs = [.ref b] ∧ H l = some (.lst xs) ∧ H b = some (.lst zs) ∧ xs.length + zs.length ≤ sizeLine ∧ Q .non (upd H l (.lst (xs ++ zs)))
theorem mt_extend : MtM X "list.extend" rExtend := by
  intro pins s σ H x vs v us Q I rx rv h
  obtain ⟨l, b, xs, zs, rfl, rfl, hH, hB, hz, q⟩ := h
  cases rx
  obtain ⟨u, rfl, ru⟩ := rv.one
  cases ru
  obtain ⟨z, its, n, r, hl, e⟩ := I.lstM hH
  obtain ⟨z2, its2, n2, r2, hl2, e2⟩ := I.lstM hB
  have hsz : its.toArray.size + its2.toArray.size ≤ sizeLine := by rw [List.size_toArray, List.size_toArray]; omega
  have hlong : ¬ (!its.toArray.isEmpty && Builtin.List.listTooLong (its.toArray.size + its2.toArray.size)) = true := by
    rw [notLongL hsz, Bool.and_false]
    exact Bool.false_ne_true
  refine call_meets F.slot_list_extend ⟨_, e, rfl⟩ F.entry_list_extend (F.args_list_extend_2 _ _)
    (AutoSeq1.list_extend_list_list_0 l its.toArray n b its2.toArray n2 hlong (by rw [List.size_toArray]; omega) (by omega)) ⟨e, e2, ?_⟩
  refine ⟨.non, _, I.lset (its' := its ++ its2) hH e (by simp) (r.append r2) ?_, rfl, q⟩
  rw [List.length_append]
  omega
noncomputable def rPop : V → List V → Hp → VK → Prop := fun x vs H Q => ∃ l xs y, x = .ref l ∧ vs = [] ∧ H l = some (.lst xs) ∧ xs[xs.length - 1]? = some y ∧ Q y (upd H l (.lst xs.dropLast))
noncomputable def rPopAt : V → List V → Hp → VK → Prop := fun x vs H Q => ∃ l xs i k y, x = .ref l ∧ vs = [.int i] ∧ H l = some (.lst xs) ∧ -(2 ^ 63) ≤ i ∧ i < 2 ^ 63 ∧ seqIndex? i xs.length = some k ∧ xs[k]? = some y ∧ Q y (upd H l (.lst (xs.eraseIdx k)))
theorem mt_popAt : MtM X "list.pop" rPopAt := by
  intro pins s σ H x vs v us Q I rx rv h
  obtain ⟨l, xs, i, k, y, rfl, rfl, hH, h1, h2, hk, hy, q⟩ := h
  cases rx
  obtain ⟨u, rfl, ru⟩ := rv.one
  obtain ⟨t, rfl⟩ := ru
  obtain ⟨z, its, n, r, hl, e⟩ := I.lstM hH
  obtain ⟨w, hw, rw'⟩ := r.get hy
  refine call_meets F.slot_list_pop ⟨_, e, rfl⟩ F.entry_list_pop (F.args_list_pop_2 _ _)
    (MeetsSeq.list_pop_at l its.toArray n i t k w (fitsIndex_both h1 h2) (by rw [List.size_toArray, ← hl]; exact hk) (by rw [← Array.getElem?_toList]; exact hw) (by rw [List.size_toArray]; omega)) ⟨e, ?_⟩
  refine ⟨y, _, I.lset (its' := its.eraseIdx k) hH e ?_ (r.eraseIdx k) ?_, rw', q⟩
  · show its.toArray.eraseIdxIfInBounds k = (its.eraseIdx k).toArray
    rw [List.eraseIdxIfInBounds_toArray]
  · have := len_erase xs k
    omega
noncomputable def rReverse : V → List V → Hp → VK → Prop := fun x vs H Q => ∃ l xs, x = .ref l ∧ vs = [] ∧ H l = some (.lst xs) ∧ Q .non (upd H l (.lst xs.reverse))
noncomputable def rClear : V → List V → Hp → VK → Prop := fun x vs H Q => ∃ l xs, x = .ref l ∧ vs = [] ∧ H l = some (.lst xs) ∧ Q .non (upd H l (.lst []))
noncomputable def rCat : R2 := fun x y H Q => ∃ l b xs zs, x = .ref l ∧ y = .ref b ∧ H l = some (.lst xs) ∧ H b = some (.lst zs) ∧ xs.length + zs.length ≤ sizeLine ∧ ∀ p, H p = none → Q (.ref p) (upd H p (.lst (xs ++ zs)))
theorem op_cat : OpR X (binaryOp .Add) rCat := by
  intro pins s σ H x y v u Q I rx ry h
  obtain ⟨l, b, xs, zs, rfl, rfl, hH, hB, hz, q⟩ := h
  cases rx
  cases ry
  obtain ⟨z, its, n, r, hl, e⟩ := I.lstM hH
  obtain ⟨z2, its2, n2, r2, hl2, e2⟩ := I.lstM hB
  refine PySem.P.add_list e e2 ?_ (by rw [List.size_toArray, List.size_toArray]; omega)
  have ea : its.toArray ++ its2.toArray = (its ++ its2).toArray := by simp
  rw [ea]
  exact ⟨.ref _, _, I.lnew (t' := s.toks) (r.append r2) (by rw [List.length_append]; omega), rfl, q _ I.fresh⟩
noncomputable def rRep : R2 := fun x y H Q => ∃ l k xs, x = .ref l ∧ y = .int k ∧ H l = some (.lst xs) ∧ -(2 ^ 63) ≤ k ∧ k < 2 ^ 63 ∧ xs.length * k.toNat ≤ sizeLine ∧
  ∀ p, H p = none → Q (.ref p) (upd H p (.lst (List.replicate k.toNat xs).flatten))
end
section
variable {prog : Program} {w : World} {A : Around} {E : Value → Shared → Prop} {s : Shared}
set_option maxRecDepth 100000 in
end
section
variable {X : Cx}
end
end L2
namespace Att
open PySem PySem.W PySem.Calls PyProof.Rows
theorem ints_of_wellAll {P : Params} {h : Heap} : ∀ (ns : List Int) (vs : List Value), WellAll P h vs (ns.map WData.int) → IntsAre vs ns := by
  intro ns
  induction ns with
  | nil =>
    intro vs w
    rw [List.map_nil] at w
    cases w
    exact .nil
  | cons n ns ih =>
    intro vs w
    rw [List.map_cons] at w
    cases w with
    | cons a b =>
      cases a
      exact .cons _ _ (ih _ b)
theorem script_of {l : OpenLaw} {n : Nat} (hn : l.most = some n) {P : Params} {h : Heap} {args : List WData} {vals : List Value}
    (hpre : l.row.toRowW.claim.pre args = true) (hwl : WellAll P h vals args) :
    ∃ a vs ns, vals = [Value.ref a] ∧ args = [WData.list (ns.map WData.int)] ∧ h.get? a = some { cls := .type "list", data := .seq vs.toArray } ∧ IntsAre vs ns ∧ ns.length ≤ n := by
  have hsh : WShape.hasAll [] args [.list .int] = true := (pre_splitW hpre).1
  have hc : l.pre.holds [] { args := args } = true := (pre_splitW hpre).2
  obtain ⟨d, r, rfl, h1, h2⟩ := hasAllW_cons hsh
  obtain rfl := hasAllW_nil h2
  obtain ⟨xs, rfl, h3⟩ := hasW_list h1
  obtain ⟨ns, rfl⟩ := items_int h3
  have hlen : ns.length ≤ n := by
    unfold OpenLaw.pre at hc
    have h4 : (WTm.not (.lt (.lit (.int (n : Int))) (.len (.arg 0)))).holds [] { args := [.list (ns.map .int)] } = true := by
      have h4 := (holds_andW hc).1
      rw [hn] at h4
      exact h4
    have h5 := condW_of h4 (w_not (w_lt w_lit (w_len_list (w_arg rfl))))
    rw [List.length_map] at h5
    refine Nat.le_of_not_lt fun q => ?_
    have q' : (n : Int) < ((ns.length : Nat) : Int) := by omega
    first
      | (rw [decide_eq_true q'] at h5; exact absurd h5 (by decide))
      | (simp at h5; omega)
  cases hwl with
  | cons w1 w2 =>
    cases w2
    cases w1 with
    | list ho hall => exact ⟨_, _, ns, rfl, rfl, ho, ints_of_wellAll ns _ hall, hlen⟩
theorem post_true (l : OpenLaw) (args : List WData) : l.row.toRowW.claim.post args (.bool true) args = true :=
  postW_of (r := l.row.toRowW) (X := (true == true))
    (show WShape.has [] (.bool true) .bool = true by first | rfl | decide | simp [WShape.has, WShape.arms, WShape.armsAll])
    (show (WTm.eq .res (.lit (.bool true))).value [] { args := args, res := some (.bool true), after := args } = some (.bool (true == true)) from w_eq_bool (w_res rfl) w_lit) rfl
section
variable {prog : Program} {w : World} {A : Around} {E : Value → Shared → Prop} {s : Shared} {K : Frag}
noncomputable def noObjs (h : Heap) : Heap := { h with objs := #[] }
noncomputable def ledger (h : Heap) (L d : Addr) : List (Addr × Obj) := (List.range h.objs.size).filterMap fun a => if a = L ∨ a = d then none else (h.get? a).map fun o => (a, o)
end
end Att
namespace L2
open PySem PySem.Spec PyProof.Rows
theorem vals_ints : ∀ {vs : List Value} {ns : List Int}, IntsAre vs ns → Vals (ns.map V.int) vs
  | _, _, .nil => .nil
  | _, _, .cons n t h => .cons ⟨t, rfl⟩ (vals_ints h)
noncomputable def Only (H : Hp) : Prop := ∀ b, H b = none ∨ ∃ o xs, H b = some (.frz o (.lst xs))
end L2
namespace L2
open PySem PySem.Spec PyProof.Rows
abbrev KOf {K : PySem.W.Frag} {h : Heap} (_ : K.In h) : PySem.W.Frag := K
end L2
namespace L2
open PySem PySem.Spec PyProof.Rows
noncomputable def inClass (s : Stmt) (j : Nat) : Stmt := match s with
  | .ClassDef _ _ _ body _ _ _ _ _ _ _ => body.getD j (.Pass ⟨0, 0, 0, 0⟩)
  | _ => .Pass ⟨0, 0, 0, 0⟩
noncomputable def defArgs (s : Stmt) : Arguments := match s with
  | .FunctionDef _ a _ _ _ _ _ _ _ _ => a
  | _ => { posonlyargs := [], args := [], vararg := none, kwonlyargs := [], kw_defaults := [], kwarg := none, defaults := [] }
noncomputable def defBody (s : Stmt) : List Stmt := match s with
  | .FunctionDef _ _ b _ _ _ _ _ _ _ => b
  | _ => []
noncomputable def defScope (s : Stmt) : Scope := match s with
  | .FunctionDef _ _ _ _ _ _ sc _ _ _ => sc
  | _ => { kind := .function, names := [], isGenerator := false, isCoroutine := false }
abbrev CX0 : CXT := fun _ _ _ _ _ _ => False
abbrev E0 : XK := fun _ _ _ => False
theorem pass0 {X : Cx} : Passes CX0 X E0 := fun _ _ _ _ _ _ _ h => h.elim
structure Fun (K : PySem.W.Frag) (x qual : Str) (st : Stmt) (f : Addr) (fd : FuncData) : Prop where
  ex : ∃ (oc : Value) (od : Option Addr) (kV doc pm : Value) (an : Option Addr) (cdv ct : Value) (osl : Array (Option Value)),
    fd = PySem.W.fnOf x qual (defArgs st) (defBody st) (defScope st) .none kV doc pm an cdv ct ∧ K.lookup f = some ⟨oc, od, .func fd, osl⟩ ∧ PySem.W.codeIn K cdv qual = true
  kp : PySem.W.keepIn K (.ref f) = true
section
variable {P : Program} {w : World} {K : PySem.W.Frag} {mg : Str → Option Value} {base : Heap}
theorem Fun.ok {x qual : Str} {st : Stmt} {f : Addr} {fd : FuncData} {N ps : List Str} {k : Nat} {sp : Sp} (F : Fun K x qual st f fd) (S : FnScope N ps (defScope st)) (len : ∀ vs H Q E, sp vs H Q E → vs.length = ps.length)
    (hbody : ∀ (cdv : Value) (A : Around) (outer : List Env) (s : Shared) (H : Hp) (vs : List V) (Q : VK) (E : XK), Room k (A.deeper (envOfC qual (defScope st) s.heap.objs.size f cdv)) → sp vs H Q E →
      ∃ t, PSs (cxOf CX0 P w K mg base N qual (defScope st) f cdv A outer s H E).nox (defBody st) t ∧ t { nx := fun _ H' => Q .non H', rt := Q } (start N vs) H) : FnOk P w K mg base CX0 (k + 1) f fd ps sp := by
  obtain ⟨oc, od, kV, doc, pm, an, cdv, ct, osl, rfl, lk, hcd⟩ := F.ex
  refine fn_of lk hcd S len fun A outer s H vs Q E hr hsp => ?_
  obtain ⟨t, h, q⟩ := hbody cdv A outer s H vs Q E hr hsp
  exact ⟨t, h.nox, q⟩
theorem Fun.binds {x qual : Str} {st : Stmt} {f : Addr} {fd : FuncData} {ps : List Str} (F : Fun K x qual st f fd)
    (h : ∀ (kV doc pm : Value) (an : Option Addr) (cdv ct : Value) (us : List Value), us.length = ps.length → bindArgs (PySem.W.fnOf x qual (defArgs st) (defBody st) (defScope st) .none kV doc pm an cdv ct) ⟨us, []⟩ = pure (ps.zip us)) : Binds K fd ps [] := by
  obtain ⟨oc, od, kV, doc, pm, an, cdv, ct, osl, rfl, lk, hcd⟩ := F.ex
  exact .all (h kV doc pm an cdv ct)
theorem fun_mk {x qual : Str} {st : Stmt} {f : Addr} {oc : Value} {od an : Option Addr} {osl : Array (Option Value)} {kV doc pm cdv ct : Value} (l : K.lookup f = some ⟨oc, od, .func (PySem.W.fnOf x qual (defArgs st) (defBody st) (defScope st) .none kV doc pm an cdv ct), osl⟩)
    (c : PySem.W.codeIn K cdv qual = true) (k : PySem.W.keepIn K (.ref f) = true) : Fun K x qual st f (PySem.W.fnOf x qual (defArgs st) (defBody st) (defScope st) .none kV doc pm an cdv ct) := ⟨⟨oc, od, kV, doc, pm, an, cdv, ct, osl, rfl, l, c⟩, k⟩
end
section
variable {X : Cx}
theorem pv (i : Nat) {x : Str} {pos : Pos} (hN : X.N[i]? = some x := by rfl) (hv : Vis X.env.scope x := by first | exact Or.inl rfl | exact Or.inr (Or.inl rfl) | exact Or.inr (Or.inr rfl)) (hd : (x == ("__debug__" : Str)) = false := by decide)
    (hcd : (x == ("__classdict__" : Str)) = false := by decide) : PE X (.Name x pos) (tVar i) := pe_var hN hv hd hcd
end
theorem iteF {A B : Prop} (h : B) : if false = true then A else B := by
  rw [if_neg Bool.false_ne_true]
  exact h
theorem iteT {A B : Prop} (h : A) : if true = true then A else B := by
  rw [if_pos rfl]
  exact h
noncomputable def Same (H H' : Hp) : Prop := ∀ b o, H b = some o → H' b = some o
theorem Same.refl (H : Hp) : Same H H := fun _ _ h => h
theorem Same.trans {H H1 H2 : Hp} (a : Same H H1) (b : Same H1 H2) : Same H H2 := fun c o h => b c o (a c o h)
theorem Same.free {H H' : Hp} (e : Same H H') {l : Addr} (h : H' l = Option.none) : H l = Option.none := by
  cases q : H l with
  | none => rfl
  | some o =>
    rw [e l o q] at h
    cases h
theorem Same.seq {K : PySem.W.Frag} {H H' : Hp} {a : Addr} {xs : List V} (e : Same H H') (h : SqL K H a xs) : SqL K H' a xs := by
  rcases h with (h | ⟨o, h⟩) | h
  · exact .inl (.inl (e _ _ h))
  · exact .inl (.inr ⟨o, e _ _ h⟩)
  · exact .inr h
end L2
namespace L2
open PySem PySem.Spec PyProof.Rows
noncomputable def clOf (env : Env) : List (Str × NameKind) → List (Str × Addr) → List (Str × Addr)
  | [], acc => acc
  | (n, k) :: r, acc => clOf env r (if k == .free then (n, (env.cells.lookup n).getD 0) :: acc else acc)
theorem clOf_loop {env : Env} : ∀ (names : List (Str × NameKind)) (acc : List (Str × Addr)), (∀ x ∈ names, x.2 = .free → ∃ c, env.cells.lookup x.1 = some c) →
    (forIn names acc fun (x : Str × NameKind) (r : List (Str × Addr)) => if (x.2 == .free) = true then (cellOf env x.1 >>= fun c => (pure (ForInStep.yield ((x.1, c) :: r)) : Sem _)) else pure (ForInStep.yield r)) = pure (clOf env names acc)
  | [], acc, _ => rfl
  | (n, k) :: r, acc, h => by
    rw [List.forIn_cons]
    have ih := fun a => clOf_loop r a fun x hx => h x (List.mem_cons_of_mem _ hx)
    by_cases hk : (k == NameKind.free) = true
    · have hk' : k = .free := by simpa using hk
      obtain ⟨c, e⟩ := h (n, k) List.mem_cons_self hk'
      have e1 : cellOf env n = pure c := by unfold cellOf; rw [e]
      simp only [hk, if_true, e1, pure_bind]
      rw [ih]
      have e2 : clOf env ((n, k) :: r) acc = clOf env r ((n, c) :: acc) := by
        show clOf env r (if (k == NameKind.free) = true then (n, (env.cells.lookup n).getD 0) :: acc else acc) = _
        rw [if_pos hk, show env.cells.lookup n = some c from e]
        rfl
      rw [e2]
    · have hk2 : (k == NameKind.free) = false := by simpa using hk
      simp only [hk2, Bool.false_eq_true, if_false, pure_bind]
      rw [ih]
      have e2 : clOf env ((n, k) :: r) acc = clOf env r acc := by
        show clOf env r (if (k == NameKind.free) = true then (n, (env.cells.lookup n).getD 0) :: acc else acc) = _
        rw [if_neg hk]
      rw [e2]
theorem closure_is {scope : Scope} {env : Env} (h : ∀ x ∈ scope.names, x.2 = .free → ∃ c, env.cells.lookup x.1 = some c) : closureFor scope env = pure (clOf env scope.names []) := by
  rw [← clOf_loop scope.names [] h]
  unfold closureFor
  dsimp only
  rw [bind_pure]
theorem clOf_sub {env : Env} : ∀ {names : List (Str × NameKind)} {acc : List (Str × Addr)} {x : Str} {c : Addr}, (∀ x ∈ names, x.2 = .free → ∃ c, env.cells.lookup x.1 = some c) →
    (clOf env names acc).lookup x = some c → acc.lookup x = some c ∨ env.cells.lookup x = some c
  | [], _, _, _, _, e => .inl e
  | (n, k) :: r, acc, x, c, h, e => by
    unfold clOf at e
    have hr : ∀ x ∈ r, x.2 = .free → ∃ c, env.cells.lookup x.1 = some c := fun y hy => h y (List.mem_cons_of_mem _ hy)
    rcases clOf_sub hr e with q | q
    · by_cases hk : (k == NameKind.free) = true
      · rw [if_pos hk] at q
        obtain ⟨d, ed⟩ := h (n, k) List.mem_cons_self (by simpa using hk)
        rw [List.lookup_cons] at q
        by_cases hx : (x == n) = true
        · have hx' : x = n := by simpa using hx
          rw [hx'] at q ⊢
          simp only [beq_self_eq_true] at q
          rw [ed] at q ⊢
          exact .inr q
        · simp only [hx] at q
          exact .inl q
      · rw [if_neg hk] at q
        exact .inl q
    · exact .inr q
theorem clOf_has {env : Env} : ∀ {names : List (Str × NameKind)} {acc : List (Str × Addr)} {x : Str}, ((x, NameKind.free) ∈ names ∨ ∃ c, acc.lookup x = some c) → ∃ c, (clOf env names acc).lookup x = some c
  | [], _, _, h => by
    rcases h with h | h
    · exact nomatch h
    · exact h
  | (n, k) :: r, acc, x, h => by
    unfold clOf
    refine clOf_has (names := r) ?_
    by_cases hk : (k == NameKind.free) = true
    · rw [if_pos hk]
      rcases h with h | ⟨c, h⟩
      · rcases List.mem_cons.mp h with h | h
        · cases h
          exact .inr ⟨(env.cells.lookup n).getD 0, by simp⟩
        · exact .inl h
      · refine .inr ?_
        rw [List.lookup_cons]
        cases hx : x == n with
        | true => exact ⟨_, rfl⟩
        | false => exact ⟨c, h⟩
    · rw [if_neg hk]
      rcases h with h | h
      · rcases List.mem_cons.mp h with h | h
        · cases h
          exact absurd rfl hk
        · exact .inl h
      · exact .inr h
theorem lookup_key {f : Str × NameKind → Str × NameKind} (hf : ∀ y, (f y).1 = y.1) : ∀ (names : List (Str × NameKind)) (x : Str), (names.map f).lookup x = (names.find? fun y => x == y.1).map fun y => (f y).2
  | [], _ => rfl
  | y :: r, x => by
    have e : f y = (y.1, (f y).2) := by rw [← hf y]
    rw [List.map_cons, e, List.lookup_cons, List.find?_cons]
    cases hx : x == y.1 with
    | true => rfl
    | false => exact lookup_key hf r x
noncomputable def rlb (env : Env) (y : Str × NameKind) : Str × NameKind := if (y.2 == NameKind.free && env.scope.kind == .function && env.kindOf y.1 == some .cell) = true then (y.1, NameKind.cell) else (y.1, y.2)
theorem rlb_key (env : Env) (y : Str × NameKind) : (rlb env y).1 = y.1 := by unfold rlb; split <;> rfl
theorem rlb_kind (env : Env) (y : Str × NameKind) : (rlb env y).2 = y.2 ∨ (y.2 = .free ∧ (rlb env y).2 = .cell) := by
  unfold rlb
  split
  · rename_i h
    simp only [Bool.and_eq_true] at h
    exact .inr ⟨by simpa using h.1.1, rfl⟩
  · exact .inl rfl
theorem relabel_names (scope : Scope) (env : Env) : (relabel scope env).names = scope.names.map (rlb env) := rfl
theorem find_of {names : List (Str × NameKind)} {x : Str} {y : Str × NameKind} (h : names.find? (fun y => x == y.1) = some y) : y.1 = x ∧ y ∈ names := by
  have := List.find?_some h
  exact ⟨by simpa using (by simpa using this : x = y.1).symm, List.mem_of_find?_eq_some h⟩
theorem relabel_look {scope : Scope} {env : Env} {x : Str} {k' : NameKind} (h : (relabel scope env).names.lookup x = some k') : ∃ k, (x, k) ∈ scope.names ∧ (k' = k ∨ (k = .free ∧ k' = .cell)) := by
  rw [relabel_names, lookup_key (rlb_key env)] at h
  obtain ⟨y, e, q⟩ := Option.map_eq_some_iff.mp h
  obtain ⟨e1, m⟩ := find_of e
  refine ⟨y.2, by rw [← e1]; exact m, ?_⟩
  rcases rlb_kind env y with z | ⟨z1, z2⟩
  · exact .inl (q.symm.trans z)
  · exact .inr ⟨z1, q.symm.trans z2⟩
theorem relabel_free {scope : Scope} {env : Env} {x : Str} (h : scope.names.lookup x = some .free) : (relabel scope env).names.lookup x = some .cell ∨ (relabel scope env).names.lookup x = some .free := by
  have h' : (scope.names.map fun y => y).lookup x = some .free := by rw [List.map_id']; exact h
  rw [lookup_key (f := fun y => y) fun _ => rfl] at h'
  obtain ⟨y, e, q⟩ := Option.map_eq_some_iff.mp h'
  rw [relabel_names, lookup_key (rlb_key env), e]
  rcases rlb_kind env y with z | ⟨z1, z2⟩
  · exact .inr (by rw [Option.map_some, z]; exact congrArg some q)
  · exact .inl (by rw [Option.map_some, z2])
noncomputable def compOk (scope osc : Scope) (N Nc : List Str) (src : List (Option Nat)) : Bool :=
  decide Nc.Nodup && decide (src.length = Nc.length) && decide (scope.kind = .function) &&
  scope.names.all (fun x => decide (x.2 ≠ .cell) && (decide (x.2 ≠ .free) || decide (osc.names.lookup x.1 = some .cell) || decide (osc.names.lookup x.1 = some .free)) && (decide (x.2 ≠ .local) || decide (scope.names.lookup x.1 = some .local))) &&
  (Nc.zip src).all fun x => match x.2 with
    | none => true
    | some i => decide (N[i]? = some x.1) && decide (scope.names.lookup x.1 = some .free)
structure CompOk (X : Cx) (scope : Scope) (Nc : List Str) (src : List (Option Nat)) : Prop where
  nd : Nc.Nodup
  len : src.length = Nc.length
  kind : scope.kind = .function
  nocell : ∀ x ∈ scope.names, x.2 ≠ .cell
  free : ∀ x ∈ scope.names, x.2 = .free → X.env.kindOf x.1 = some .cell ∨ X.env.kindOf x.1 = some .free
  loc : ∀ x ∈ scope.names, x.2 = .local → scope.names.lookup x.1 = some .local
  map : ∀ (j : Nat) (i : Nat) (x : Str), src[j]? = some (some i) → Nc[j]? = some x → X.N[i]? = some x ∧ scope.names.lookup x = some .free
theorem CompOk.of {X : Cx} {scope : Scope} {Nc : List Str} {src : List (Option Nat)} (h : compOk scope X.env.scope X.N Nc src = true) : CompOk X scope Nc src := by
  unfold compOk at h
  simp only [Bool.and_eq_true, decide_eq_true_eq, List.all_eq_true, Bool.or_eq_true] at h
  obtain ⟨⟨⟨⟨h1, h2⟩, h3⟩, h4⟩, h5⟩ := h
  refine ⟨h1, h2, h3, fun x hx => (h4 x hx).1.1, fun x hx e => ?_, fun x hx e => ?_, fun j i x e1 e2 => ?_⟩
  · rcases (h4 x hx).1.2 with (q | q) | q
    · exact absurd e q
    · exact .inl q
    · exact .inr q
  · rcases (h4 x hx).2 with q | q
    · exact absurd e q
    · exact q
  · have m : (x, some i) ∈ Nc.zip src := by
      refine List.mem_of_getElem? (i := j) ?_
      rw [List.getElem?_zip_eq_some]
      exact ⟨e2, e1⟩
    have q := h5 _ m
    simpa using q
noncomputable def inner (src : List (Option Nat)) (σ : St) : St := src.map fun o => match o with
  | some i => (σ[i]?).getD none
  | none => none
theorem inner_get {src : List (Option Nat)} {σ : St} {j : Nat} {v : V} (h : (inner src σ)[j]? = some (some v)) : ∃ i, src[j]? = some (some i) ∧ σ[i]? = some (some v) := by
  unfold inner at h
  rw [List.getElem?_map] at h
  cases e : src[j]? with
  | none => rw [e] at h; cases h
  | some o =>
    rw [e] at h
    cases o with
    | none => exact nomatch (Option.some.inj h)
    | some i =>
      refine ⟨i, rfl, ?_⟩
      have q : (σ[i]?).getD none = some v := Option.some.inj h
      cases e2 : σ[i]? with
      | none => rw [e2] at q; cases q
      | some w => rw [e2] at q; exact congrArg some q
noncomputable def blk (X : Cx) (scope : Scope) (Nc : List Str) (pins : List (Addr × Obj)) (fp : List Addr) (C : Addr) (s : Shared) (H : Hp) : Cx :=
  { X with N := Nc, s₀ := s, H₀ := H, env := compEnvC scope (clOf X.env scope.names []) C X.env, outer := X.stack, stack := X.stack, ex := fp, fn := fun _ => false, pn := X.pn ++ pins, xe := fun _ _ => False }
section
variable {X : Cx} {scope : Scope} {Nc : List Str} {src : List (Option Nat)} {pins : List (Addr × Obj)} {σ : St} {H : Hp} {s : Shared} {fp : List Addr}
theorem CompOk.cells (ck : CompOk X scope Nc src) (ok : X.Ok) : ∀ x ∈ scope.names, x.2 = .free → ∃ c, X.env.cells.lookup x.1 = some c := fun x hx e => ok.has x.1 (ck.free x hx e)
theorem CompOk.sub (ck : CompOk X scope Nc src) (ok : X.Ok) {x : Str} {c : Addr} (h : (clOf X.env scope.names []).lookup x = some c) : X.env.cells.lookup x = some c := by
  rcases clOf_sub (ck.cells ok) h with q | q
  · exact nomatch q
  · exact q
theorem inv_blk (I : Inv X pins σ H s) (ck : CompOk X scope Nc src) (hf : ∀ b ∈ fp, FpOk X pins H b) (hfs : ∀ b ∈ fp, b < s.heap.objs.size) {h₁ : Heap} {tk n : Nat}
    (keep : ∀ b o, s.heap.get? b = some o → h₁.get? b = some o) (hl : h₁.get? s.heap.objs.size = some { cls := .type "list", data := .seq ([] : List Value).toArray n })
    (hn : h₁.Ns (s.heap.objs.size + 1) fun _ => none) :
    Inv (blk X scope Nc pins fp (s.heap.objs.size + 1) s H) [] (inner src σ) (upd H s.heap.objs.size (.lst [])) { s with heap := h₁, toks := tk } := by
  have fr0 : H s.heap.objs.size = none := I.hok.fresh (Nat.le_refl _)
  have sub := fun {x c} => ck.sub (x := x) (c := c) I.ok
  have ltc : ∀ x c, X.env.cells.lookup x = some c → c < s.heap.objs.size := fun x c e => let ⟨_, o, ho, _⟩ := I.cell x c e; Heap.lt_size ho
  have stk : ∀ b, b ≠ X.env.locals → b ∉ X.fs → b ∉ frs X.stack := fun b h1 h2 z => by
    rcases List.mem_cons.mp (I.stkSub b z) with e | e
    · exact h1 e
    · exact h2 e
  refine ⟨⟨I.ok.mod, ck.kind, I.ok.glob, I.ok.blt, Nat.le_succ _, fun x y c h1 h2 => I.ok.inj x y c (sub h1) (sub h2), fun x hx => ?_, fun x c h => absurd h Bool.false_ne_true, I.ok.hd, I.ok.frames, .inl rfl,
    fun b hb => ⟨Nat.ne_of_lt (Nat.lt_succ_of_lt (hfs b hb)), fun x c e => (hf b hb).2.2.2.2.1 x c (sub e)⟩, I.bs, Nat.le_trans I.ok.bsz I.sz, fun b o e hb => ?_, fun b hb => stk b (hf b hb).2.1 (hf b hb).2.2.1, I.stack, I.stkFree⟩,
    rfl, I.bare, Un.laid keep (Nat.le_refl _) fr0, ⟨_, hn, fun j x v e1 e2 e3 => ?_⟩, fun x c e => ?_, ?_, fun x c e => ?_, fun p hp => ?_, ?_, ?_⟩
  · have hx : (∃ k, (x, k) ∈ scope.names ∧ (NameKind.cell = k ∨ (k = .free ∧ NameKind.cell = .cell))) ∨ ∃ k, (x, k) ∈ scope.names ∧ (NameKind.free = k ∨ (k = .free ∧ NameKind.free = .cell)) := by
      rcases hx with hx | hx
      · exact .inl (relabel_look hx)
      · exact .inr (relabel_look hx)
    have hm : (x, NameKind.free) ∈ scope.names := by
      rcases hx with ⟨k, m, rfl | ⟨rfl, _⟩⟩ | ⟨k, m, rfl | ⟨rfl, _⟩⟩
      · exact absurd rfl (ck.nocell _ m)
      · exact m
      · exact m
      · exact m
    exact clOf_has (.inl hm)
  · rcases (hf b hb).2.2.2.1 with z | z
    · exact I.ok.noex b o e z
    · exact absurd (Nat.lt_of_lt_of_le (Heap.lt_size e) (Nat.le_trans I.ok.bsz z)) (Nat.lt_irrefl _)
  · obtain ⟨i, q1, q2⟩ := inner_get e2
    obtain ⟨m1, m2⟩ := ck.map j i x q1 e1
    have hk : X.env.kindOf x = some .cell ∨ X.env.kindOf x = some .free := ck.free (x, .free) (PySem.mem_of_lookup m2) rfl
    obtain ⟨m, _, hl'⟩ := I.loc
    obtain ⟨u, r, l⟩ := hl' i x v m1 q2 (.inr hk)
    refine ⟨u, r, .inr ⟨relabel_free m2, ?_⟩⟩
    rcases l with ⟨k, _⟩ | ⟨_, c, e, z⟩
    · rcases hk with hk | hk <;> (rw [k] at hk; cases hk)
    · obtain ⟨c', e'⟩ := clOf_has (env := X.env) (names := scope.names) (acc := []) (.inl (PySem.mem_of_lookup m2))
      have := sub e'
      rw [e] at this; cases this
      obtain ⟨o, ho, hd⟩ := z
      exact ⟨c, e', o, keep c o ho, hd⟩
  · obtain ⟨v, o, ho, hd⟩ := I.cell x c (sub e)
    exact ⟨v, o, keep c o ho, hd⟩
  · show upd H s.heap.objs.size (.lst []) (s.heap.objs.size + 1) = none
    rw [upd_ne (Nat.succ_ne_self _)]
    exact I.hok.fresh (Nat.le_succ _)
  · show upd H s.heap.objs.size (.lst []) c = none
    rw [upd_ne (Nat.ne_of_lt (ltc x c (sub e)))]
    exact I.freeC x c (sub e)
  · have hp' : p ∈ X.pn ++ pins := by
      have : p ∈ (X.pn ++ pins) ++ [] := hp
      rwa [List.append_nil] at this
    obtain ⟨e, n, ne, nf, d⟩ := I.pin p hp'
    have lt := Heap.lt_size e
    refine ⟨keep _ _ e, ?_, Nat.ne_of_lt (Nat.lt_succ_of_lt lt), stk _ ne nf, d⟩
    rw [upd_ne (Nat.ne_of_lt lt)]
    exact n
  · exact I.hok.laid keep (Nat.le_refl _) ⟨Nat.zero_le _, [], n, .nil, hl⟩
  · show (inner src σ).length = Nc.length
    unfold inner
    rw [List.length_map]
    exact ck.len
end
end L2
namespace L2
open PySem PySem.Spec PyProof.Rows
noncomputable def PIfs (X : Cx) (ifs : List Expr) (t : TT) : Prop :=
  ∀ (pins : List (Addr × Obj)) (s : Shared) (σ : St) (H : Hp) (Q : Bool → Hp → Prop), Inv X pins σ H s → t σ H Q →
    wpAny (model X.prog X.w) X.A (forIn ifs true fun c r => if r = true then do let ok ← isTrue c X.env (eval c X.env); pure (ForInStep.yield ok) else pure (ForInStep.yield r)) (TP X pins σ Q) X.xe s
noncomputable def tYes : TT := fun _ H Q => Q true H
theorem pifs_nil {X : Cx} : PIfs X [] tYes := fun _ _ _ H _ I h => wpAny_tests_nil ⟨H, I, h⟩
noncomputable def tComp (src : List (Option Nat)) (wi : TI) (g : TG) (tt : TT) (te : TE) : TE := fun σ H Q => wi σ H fun J H1 => ∀ p, H1 p = none →
  ∃ W : Nat → Nat → List V → St → Hp → Prop, (∃ m, W 0 m [] (inner src σ) (upd H1 p (.lst []))) ∧ ∀ i m ys σc H2, W i m ys σc H2 →
    (J.stop i H2 ∧ H2 p = some (.lst ys) ∧ Q (.ref p) H2) ∨ (J.go i H2 ∧ ys.length < sizeLine ∧ ∃ N : List V → St → Hp → Prop, (∀ zs σ' H', N zs σ' H' → ∃ m', m' < m ∧ W (i + 1) m' zs σ' H') ∧ ∀ x H3, J.yld i H2 x H3 → g x σc H3 fun σ2 H4 => tt σ2 H4 fun ok H5 =>
      if ok = true then te σ2 H5 fun y H6 => H6 p = some (.lst ys) ∧ N (ys ++ [y]) σ2 (upd H6 p (.lst (ys ++ [y]))) else N ys σ2 H5)
section
variable {X : Cx} {scope : Scope} {Nc : List Str} {src : List (Option Nat)} {tg iter elt : Expr} {ifs : List Expr} {wi : TI} {g : TG} {tt : TT} {te : TE} {pos : Pos}
theorem comp_run (hc : X.calm = true) (hg : ∀ pins fp C s H, PG (blk X scope Nc pins fp C s H) tg g)
    (ht : ∀ pins fp C s H, PIfs (blk X scope Nc pins fp C s H) ifs tt) (he : ∀ pins fp C s H, PE (blk X scope Nc pins fp C s H) elt te)
    {pins : List (Addr × Obj)} {σ : St} {H : Hp} {s : Shared} {it : Addr} {fp : List Addr} {tn : Nat → Heap → Prop} {J : It} {Q : VK} {RR : Value → Addr → Result → Shared → Prop}
    (ck : CompOk X scope Nc src) (I : Inv X pins σ H s) (T : Turn X.prog X.w X.K tg J fp it tn) (st : tn 0 s.heap) (hf : ∀ b ∈ fp, FpOk X pins H b)
    (R : ∀ p, H p = none → ∃ W : Nat → Nat → List V → St → Hp → Prop, (∃ m, W 0 m [] (inner src σ) (upd H p (.lst []))) ∧ ∀ i m ys σc H2, W i m ys σc H2 →
      (J.stop i H2 ∧ H2 p = some (.lst ys) ∧ Q (.ref p) H2) ∨ (J.go i H2 ∧ ys.length < sizeLine ∧ ∃ N : List V → St → Hp → Prop, (∀ zs σ' H', N zs σ' H' → ∃ m', m' < m ∧ W (i + 1) m' zs σ' H') ∧ ∀ x H3, J.yld i H2 x H3 → g x σc H3 fun σ2 H4 => tt σ2 H4 fun ok H5 =>
        if ok = true then te σ2 H5 fun y H6 => H6 p = some (.lst ys) ∧ N (ys ++ [y]) σ2 (upd H6 p (.lst (ys ++ [y]))) else N ys σ2 H5))
    (fin : ∀ D C s' H' m, Inv X pins σ H' s' → Q (.ref D) H' → s'.heap.Ns C m → H' C = none → s.heap.objs.size ≤ C → RR (.ref D) C (.ok .next) s') :
    wpAny (model X.prog X.w) X.A (newList []) (fun acc s₃ => wpAny (model X.prog X.w) X.A (newFunctionEnv scope X.env.globals (clOf X.env scope.names []) [] X.env.qual none .none (some X.env)) (fun cenv s₄ =>
      codeAny (model X.prog X.w) X.A (.compStart (.ListComp elt [⟨tg, iter, ifs, 0⟩] scope pos) 0 (.ref it) acc { cenv with scope := relabel scope X.env }) (RR acc cenv.locals) s₄) X.xe s₃) X.xe s := by
  refine wpAny_newObj_type (wpAny_newFunctionEnv ck.nocell (by intro y hy; simp at hy) (fun h₁ hns₁ hsb₁ => ?_) ck.kind)
  dsimp only at hns₁ hsb₁ ⊢
  have hsz : (s.heap.push { cls := .type "list", dict := none, data := .seq ([] : List Value).toArray }).objs.size = s.heap.objs.size + 1 := Heap.size_push ..
  rw [hsz] at hns₁ hsb₁ ⊢
  have hfs : ∀ b ∈ fp, b < s.heap.objs.size := fun b hb => let ⟨_, ho, _⟩ := T.obj _ _ st b hb; Heap.lt_size ho
  have keep : ∀ b o, s.heap.get? b = some o → h₁.get? b = some o := fun b o e => hsb₁.extBut b o (Nat.ne_of_lt (Nat.lt_succ_of_lt (Heap.lt_size e))) (Heap.get?_push_of_some _ (Heap.get?_push_of_some _ e))
  have hl : h₁.get? s.heap.objs.size = some { cls := .type "list", data := .seq ([] : List Value).toArray 0 } :=
    hsb₁.extBut _ _ (Nat.ne_of_lt (Nat.lt_succ_self _)) (Heap.get?_push_of_some _ (Heap.get?_push_size _ rfl))
  have I1 := inv_blk (tk := s.toks + ([] : List (Str × Value)).length) I ck hf hfs keep hl hns₁
  have st1 : tn 0 h₁ := T.keep _ _ _ st fun b _ o e => keep b o e
  generalize hB : blk X scope Nc pins fp (s.heap.objs.size + 1) s H = B at I1
  have hgB : PG B tg g := hB ▸ hg _ _ _ _ _
  have htB : PIfs B ifs tt := hB ▸ ht _ _ _ _ _
  have heB : PE B elt te := hB ▸ he _ _ _ _ _
  have e1 : B.prog = X.prog := by rw [← hB]; rfl
  have e2 : B.w = X.w := by rw [← hB]; rfl
  have e3 : B.K = X.K := by rw [← hB]; rfl
  have e4 : B.A = X.A := by rw [← hB]; rfl
  have e5 : B.calm = true := by rw [← hB]; exact hc
  have e6 : B.xe = fun _ _ => False := by rw [← hB]; rfl
  have e7 : B.env = compEnvC scope (clOf X.env scope.names []) (s.heap.objs.size + 1) X.env := by rw [← hB]; rfl
  have stk : ∀ b, b ≠ X.env.locals → b ∉ X.fs → b ∉ frs X.stack := fun b h1 h2 z => by
    rcases List.mem_cons.mp (I.stkSub b z) with e | e
    · exact h1 e
    · exact h2 e
  have stat : ∀ {H' : Hp}, (∀ b ∈ fp, H' b = none) → ∀ b ∈ fp, FpOk B [] H' b := fun {H'} hn b hb => by
    obtain ⟨_, f1, f2, f3, f4, f5⟩ := hf b hb
    rw [← hB]
    refine ⟨hn b hb, Nat.ne_of_lt (Nat.lt_succ_of_lt (hfs b hb)), stk b f1 f2, .inl hb, fun x c e => f4 x c (ck.sub I.ok e), fun p hp => ?_⟩
    have hp' : p ∈ (X.pn ++ pins) ++ [] := hp
    rw [List.append_nil] at hp'
    exact f5 p hp'
  have D0 : H s.heap.objs.size = none := I.hok.fresh (Nat.le_refl _)
  obtain ⟨W, ⟨m0, w0⟩, turn⟩ := R _ D0
  have back : ∀ {σ' : St} {H' : Hp} {s' : Shared} {pl : List (Addr × Obj)}, Inv B pl σ' H' s' → Inv X pins σ H' s' := fun {σ' H' s' pl} J1 => by
    have u : Un (frs X.stack) fp H H' s.heap s'.heap := by have := J1.base; rw [← hB] at this; exact this
    have ho : s'.os = s.os := by have := J1.os; rw [← hB] at this; exact this
    have hk : HOk X.prog X.w H' s'.heap := by have := J1.hok; rw [e1, e2] at this; exact this
    exact I.call' ho u hk J1.bare fun b hb => let ⟨_, f1, _, f3, f4, f5⟩ := hf b hb; ⟨f3, f1, f4, f5⟩
  have loop : codeAny (model X.prog X.w) X.A (.compLoop (.ListComp elt [⟨tg, iter, ifs, 0⟩] scope pos) 0 (.ref it) (.ref s.heap.objs.size) B.env) (RR (.ref s.heap.objs.size) (s.heap.objs.size + 1))
      { s with heap := h₁, toks := s.toks + ([] : List (Str × Value)).length } := by
    refine codeAny_loop rfl (fun n s' => ∃ i ys σ' H', Inv B [] σ' H' s' ∧ tn i s'.heap ∧ (∀ b ∈ fp, H' b = none) ∧ W i n ys σ' H') (fun n s3 h3 => ?_) m0
      ⟨0, [], _, _, I1, st1, fun b hb => ?_, w0⟩
    · obtain ⟨i, ys, σ3, H3, I3, st3, fr3, w3⟩ := h3
      show wpAny _ X.A ((compTurn (.ListComp elt [⟨tg, iter, ifs, 0⟩] scope pos) 0 (.ref it) (.ref s.heap.objs.size) B.env).onRaise (fun x => do noteFrame x B.env; theTreesLotGoes x)) _ _ s3
      refine wpAny_noted ?_
      rw [compTurn_list]
      refine wpAny_bind (wpAny_standAt (wpAny_bind ?_))
      rcases turn i n ys σ3 H3 w3 with ⟨stop, hp, qn⟩ | ⟨go, hz, N, hN, step⟩
      · have d := T.done B e1 e2 e3 e5 i [] s3 σ3 H3 (fun _ _ => False) I3 (stat fr3) st3 stop
        rw [e4] at d
        refine wpAny_mono d (fun r s4 ⟨hr, I4⟩ => ?_) fun _ _ z => z.elim
        subst hr
        refine wpAny_pure ?_
        obtain ⟨mC, nsC, _⟩ := I4.loc
        have eL : B.env.locals = s.heap.objs.size + 1 := by rw [e7]; rfl
        rw [eL] at nsC
        have fC := I4.free
        rw [eL] at fC
        exact fin _ _ s4 H3 mC (back I4) qn nsC fC (Nat.le_succ _)
      · have d := T.item B e1 e2 e3 e5 i [] s3 σ3 H3 (fun _ _ => False) I3 (stat fr3) st3 go
        rw [e4] at d
        refine wpAny_mono d (fun r s4 ⟨u, hr, h4⟩ => ?_) fun _ _ z => z.elim
        subst hr
        refine wpAny_bind (wpAny_mono h4 (fun _ s5 ⟨x, H5, I5, r5, y5, st5, fr5⟩ => ?_) fun _ _ z => z.elim)
        have I5' := I5.pinned (stat fr5) (T.obj _ _ st5)
        have a := hgB _ s5 σ3 H5 x u _ I5' r5 (step x H5 y5)
        rw [e1, e2, e4, e6] at a
        refine wpAny_bind (wpAny_mono a (fun _ s6 ⟨σ6, H6, I6, q6⟩ => ?_) fun _ _ z => z.elim)
        have b := htB _ s6 σ6 H6 _ I6 q6
        rw [e1, e2, e4, e6] at b
        refine wpAny_bind (wpAny_mono b (fun ok s7 ⟨H7, I7, q7⟩ => ?_) fun _ _ z => z.elim)
        have again : ∀ {σ8 : St} {H8 : Hp} {s8 : Shared} {zs : List V}, Inv B ([] ++ pinsAt fp s5.heap) σ8 H8 s8 → N zs σ8 H8 →
            ∃ m, m < n ∧ ∃ i ys σ' H', Inv B [] σ' H' s8 ∧ tn i s8.heap ∧ (∀ b ∈ fp, H' b = none) ∧ W i m ys σ' H' := fun {σ8 H8 s8 zs} I8 n8 => by
          obtain ⟨m', hm, w8⟩ := hN zs σ8 H8 n8
          refine ⟨m', hm, i + 1, zs, σ8, H8, I8.unpinned, T.keep _ _ _ st5 fun b hb o e => (I8.pin (b, o) (List.mem_append_right _ (List.mem_append_right _ (mem_pinsAt hb e)))).1, fun b hb => ?_, w8⟩
          obtain ⟨o, e, d⟩ := T.obj _ _ st5 b hb
          exact (I8.pin (b, o) (List.mem_append_right _ (List.mem_append_right _ (mem_pinsAt hb e)))).2.1
        cases ok with
        | false =>
          rw [if_neg Bool.false_ne_true] at q7
          exact wpAny_pure ⟨rfl, again I7 q7⟩
        | true =>
          rw [if_pos rfl] at q7
          have c := heB _ s7 σ6 H7 _ I7 q7
          rw [e1, e2, e4, e6] at c
          refine wpAny_bind (wpAny_bind (wpAny_mono c (fun y s8 ⟨z, H8, I8, r8, hp8, w8⟩ => ?_) fun _ _ z => z.elim))
          have ap := mt_append (X := B) _ s8 σ6 H8 (.ref s.heap.objs.size) [z] (.ref s.heap.objs.size) [y] (fun _ H9 => N (ys ++ [z]) σ6 H9) I8 rfl (.cons r8 .nil)
            ⟨_, ys, z, rfl, rfl, hp8, hz, w8⟩
          rw [e1, e2, e4, e6] at ap
          refine wpAny_bind (wpAny_mono ap (fun _ s9 ⟨_, H9, I9, _, w9⟩ => ?_) fun _ _ z => z.elim)
          exact wpAny_pure (wpAny_pure ⟨rfl, again I9 w9⟩)
    · rw [upd_ne (Nat.ne_of_lt (hfs b hb))]
      exact (hf b hb).1
  rw [e7] at loop
  exact codeAny_compStart_list loop (T.self X.A 0 _ _ _ st1 loop)
theorem pe_comp (hc : X.calm = true) (hi : PI X tg iter wi) (ck : compOk scope X.env.scope X.N Nc src = true) (hg : ∀ pins fp C s H, PG (blk X scope Nc pins fp C s H) tg g)
    (ht : ∀ pins fp C s H, PIfs (blk X scope Nc pins fp C s H) ifs tt) (he : ∀ pins fp C s H, PE (blk X scope Nc pins fp C s H) elt te)
    (hs : ∀ x, foldedSetIterable iter X.env x = pure x := by intro _; rfl) : PE X (.ListComp elt [⟨tg, iter, ifs, 0⟩] scope pos) (tComp src wi g tt te) := by
  intro pins s σ H Q I h
  have CK := CompOk.of ck
  rw [eval_ListComp]
  refine wpAny_comprehension_free (use := none) rfl hs (closure_is (CK.cells I.ok)) CK.kind CK.loc (thn (hi pins s σ H _ I h) fun v s1 h1 => thn h1 fun itv s2 h2 => ?_)
  obtain ⟨it, fp, tn, J, H2, rfl, I2, T, st2, f2, R⟩ := h2
  refine comp_run (RR := fun acc C => compPost (model X.prog X.w) X.A X.xe none (EP X pins σ Q) acc C) hc hg ht he CK I2 T st2 f2 R fun D C s' H' m I' q ns fC hC => ⟨m, ns, fun h' sb => ?_⟩
  refine ⟨.ref D, H', ?_, rfl, q⟩
  have ltc : ∀ x c, X.env.cells.lookup x = some c → c < s2.heap.objs.size := fun x c e => let ⟨_, o, ho, _⟩ := I2.cell x c e; Heap.lt_size ho
  refine I'.turned (t' := s'.toks) (it := C) (fun b o hb e => (sb.2 b hb).trans e) fC (Nat.ne_of_gt (Nat.lt_of_lt_of_le I2.lt hC)) (.inr (Nat.le_trans I2.sz hC)) (fun x c e => Nat.ne_of_lt (Nat.lt_of_lt_of_le (ltc x c e) hC)) fun p hp => ?_
  exact Nat.ne_of_lt (Nat.lt_of_lt_of_le (Heap.lt_size (I2.pin p hp).1) hC)
theorem ps_comp {i : Nat} {x : Str} {pos' spos : Pos} (hc : X.calm = true) (hN : X.N.Nodup) (hi' : X.N[i]? = some x) (hx : X.env.scope.names.lookup x = some .local) (hi : PI X tg iter wi)
    (ck : compOk scope X.env.scope X.N Nc src = true) (hg : ∀ pins fp C s H, PG (blk X scope Nc pins fp C s H) tg g)
    (ht : ∀ pins fp C s H, PIfs (blk X scope Nc pins fp C s H) ifs tt) (he : ∀ pins fp C s H, PE (blk X scope Nc pins fp C s H) elt te)
    (hsw : swapsWith (.ListComp elt [⟨tg, iter, ifs, 0⟩] scope pos) (some (.Name x pos')) spos.line X.env = pure true := by rfl)
    (hs : ∀ x, foldedSetIterable iter X.env x = pure x := by intro _; rfl) :
    PS X (.Assign [.Name x pos'] (.ListComp elt [⟨tg, iter, ifs, 0⟩] scope pos) spos) (tAsg (tComp src wi g tt te) (gName i)) := by
  intro pins s σ H D I h
  have CK := CompOk.of ck
  rw [exec_Assign_Name_used _ _ _ _ hsw]
  refine wpAny_bind (wpAny_standAt (wpAny_bind ?_))
  show wpAny _ X.A (do let _ ← comprehension (.ListComp elt [⟨tg, iter, ifs, 0⟩] scope pos) scope X.env _ (newList []) false (eval iter X.env) (some (assign (.Name x pos') X.env))) _ _ s
  refine wpAny_bind (wpAny_mono (wpAny_comprehension_free (use := some (assign (.Name x pos') X.env)) (Q := fun _ s' => SP X pins D .next s') rfl hs (closure_is (CK.cells I.ok)) CK.kind CK.loc
    (thn (hi pins s σ H _ I h) fun v s1 h1 => thn h1 fun itv s2 h2 => ?_)) (fun _ s' hq => wpAny_pure (wpAny_pure hq)) fun _ _ e => e)
  obtain ⟨it, fp, tn, J, H2, rfl, I2, T, st2, f2, R⟩ := h2
  refine comp_run (Q := fun v H' => D.nx (σ.set i (some v)) H') (RR := fun acc C => compPost (model X.prog X.w) X.A X.xe (some (assign (.Name x pos') X.env)) (fun _ s' => SP X pins D .next s') acc C) hc hg ht he CK I2 T st2 f2 R
    fun E C s' H' m I' q ns fC hC => ?_
  show wpAny _ X.A (assign (.Name x pos') X.env (.ref E)) _ _ _
  have ltc : ∀ x c, X.env.cells.lookup x = some c → c < s2.heap.objs.size := fun x c e => let ⟨_, o, ho, _⟩ := I2.cell x c e; Heap.lt_size ho
  refine wpAny_assign_Name (store_ok2 (i := i) I' hN hi' (.inl hx) (v := .ref E) rfl (fun s'' I'' hb => ?_) (.inr hx))
  obtain ⟨b, sb, hb⟩ := hb
  have neC : C ≠ b := by
    rcases hb with rfl | hb
    · exact Nat.ne_of_gt (Nat.lt_of_lt_of_le I2.lt hC)
    · exact Nat.ne_of_gt (Nat.lt_of_lt_of_le (ltc x b hb) hC)
  refine ⟨m, ns.sameBut sb neC, fun h' sb' => ⟨_, H', ?_, q⟩⟩
  refine I''.turned (t' := s''.toks) (it := C) (fun b o hb e => (sb'.2 b hb).trans e) fC (Nat.ne_of_gt (Nat.lt_of_lt_of_le I2.lt hC)) (.inr (Nat.le_trans I2.sz hC)) (fun x c e => Nat.ne_of_lt (Nat.lt_of_lt_of_le (ltc x c e) hC)) fun p hp => ?_
  exact Nat.ne_of_lt (Nat.lt_of_lt_of_le (Heap.lt_size (I2.pin p hp).1) hC)
end
section
variable {K : PySem.W.Frag} {src : List (Option Nat)} {g : TG} {tt : TT} {te : TE} {Q : VK} {σ : St} {H : Hp} {p a : Addr}
theorem comp_range {lo : Int} {n : Nat} (Pv : Nat → List V → St → Hp → Prop) (hn : n ≤ 1000000) (h0 : Pv 0 [] (inner src σ) (upd H p (.lst [])))
    (hl : ∀ i ys σ H, i ≤ n → Pv i ys σ H → H p = some (.lst ys) ∧ ys.length ≤ i)
    (hs : ∀ i ys σ H, i < n → Pv i ys σ H → g (.int (lo + i)) σ H fun σ2 H4 => tt σ2 H4 fun ok H5 =>
      if ok = true then te σ2 H5 fun y H6 => H6 p = some (.lst ys) ∧ Pv (i + 1) (ys ++ [y]) σ2 (upd H6 p (.lst (ys ++ [y]))) else Pv (i + 1) ys σ2 H5)
    (hd : ∀ ys σ H, Pv n ys σ H → Q (.ref p) H) :
    ∃ W : Nat → Nat → List V → St → Hp → Prop, (∃ m, W 0 m [] (inner src σ) (upd H p (.lst []))) ∧ ∀ i m ys σc H2, W i m ys σc H2 →
      ((Itr lo n).stop i H2 ∧ H2 p = some (.lst ys) ∧ Q (.ref p) H2) ∨ ((Itr lo n).go i H2 ∧ ys.length < sizeLine ∧ ∃ N : List V → St → Hp → Prop, (∀ zs σ' H', N zs σ' H' → ∃ m', m' < m ∧ W (i + 1) m' zs σ' H') ∧
        ∀ x H3, (Itr lo n).yld i H2 x H3 → g x σc H3 fun σ2 H4 => tt σ2 H4 fun ok H5 =>
          if ok = true then te σ2 H5 fun y H6 => H6 p = some (.lst ys) ∧ N (ys ++ [y]) σ2 (upd H6 p (.lst (ys ++ [y]))) else N ys σ2 H5) := by
  refine ⟨fun i m ys σ H => m = n - i ∧ i ≤ n ∧ Pv i ys σ H, ⟨n, by simp, Nat.zero_le _, h0⟩, ?_⟩
  rintro i m ys σ H ⟨rfl, hi, q⟩
  obtain ⟨hp, hz⟩ := hl i ys σ H hi q
  by_cases hlt : i < n
  · refine .inr ⟨hlt, Nat.lt_of_le_of_lt (Nat.le_trans hz (Nat.le_trans hi hn)) (by decide), Pv (i + 1), fun zs σ' H' p' => ⟨n - (i + 1), by omega, rfl, hlt, p'⟩, fun x H' y => ?_⟩
    obtain ⟨e1, e2⟩ := y
    subst e1 e2
    exact hs i ys σ _ hlt q
  · have e : i = n := by omega
    subst e
    exact .inl ⟨Nat.le_refl _, hp, hd ys σ H q⟩
theorem comp_list {xs : List V} (Pv : Nat → List V → St → Hp → Prop) (hn : xs.length ≤ 1000000) (h0 : Pv 0 [] (inner src σ) (upd H p (.lst [])))
    (hl : ∀ i ys σ H, i ≤ xs.length → Pv i ys σ H → H p = some (.lst ys) ∧ ys.length ≤ i ∧ SqL K H a xs)
    (hs : ∀ i x ys σ H, xs[i]? = some x → Pv i ys σ H → g x σ H fun σ2 H4 => tt σ2 H4 fun ok H5 =>
      if ok = true then te σ2 H5 fun y H6 => H6 p = some (.lst ys) ∧ Pv (i + 1) (ys ++ [y]) σ2 (upd H6 p (.lst (ys ++ [y]))) else Pv (i + 1) ys σ2 H5)
    (hd : ∀ ys σ H, Pv xs.length ys σ H → Q (.ref p) H) :
    ∃ W : Nat → Nat → List V → St → Hp → Prop, (∃ m, W 0 m [] (inner src σ) (upd H p (.lst []))) ∧ ∀ i m ys σc H2, W i m ys σc H2 →
      ((Itl K a).stop i H2 ∧ H2 p = some (.lst ys) ∧ Q (.ref p) H2) ∨ ((Itl K a).go i H2 ∧ ys.length < sizeLine ∧ ∃ N : List V → St → Hp → Prop, (∀ zs σ' H', N zs σ' H' → ∃ m', m' < m ∧ W (i + 1) m' zs σ' H') ∧
        ∀ x H3, (Itl K a).yld i H2 x H3 → g x σc H3 fun σ2 H4 => tt σ2 H4 fun ok H5 =>
          if ok = true then te σ2 H5 fun y H6 => H6 p = some (.lst ys) ∧ N (ys ++ [y]) σ2 (upd H6 p (.lst (ys ++ [y]))) else N ys σ2 H5) := by
  refine ⟨fun i m ys σ H => m = xs.length - i ∧ i ≤ xs.length ∧ Pv i ys σ H, ⟨xs.length, by simp, Nat.zero_le _, h0⟩, ?_⟩
  rintro i m ys σ H ⟨rfl, hi, q⟩
  obtain ⟨hp, hz, hq⟩ := hl i ys σ H hi q
  by_cases hlt : i < xs.length
  · refine .inr ⟨⟨xs, xs[i], hq, by simp [hlt]⟩, Nat.lt_of_le_of_lt (Nat.le_trans hz (Nat.le_trans hi hn)) (by decide), Pv (i + 1), fun zs σ' H' p' => ⟨xs.length - (i + 1), by omega, rfl, hlt, p'⟩, fun x H' y => ?_⟩
    obtain ⟨e, y⟩ := y
    subst e
    exact hs i x ys σ _ (y xs hq) q
  · have e : i = xs.length := by omega
    subst e
    exact .inl ⟨⟨xs, hq, Nat.le_refl _⟩, hp, hd ys σ H q⟩
end
end L2
namespace L2
open PySem PySem.Spec PyProof.Rows
mutual
inductive Den (H : Hp) : V → PyData → Prop
  | non : Den H .non .none
  | bl (b : Bool) : Den H (.bl b) (.bool b)
  | int (i : Int) : Den H (.int i) (.int i)
  | str (x : Str) : Den H (.str x) (.str x)
  | lst {a : Addr} {xs : List V} {ds : List PyData} : H a = some (.lst xs) → DenAll H xs ds → Den H (.ref a) (.list ds)
  | tup {a : Addr} {xs : List V} {ds : List PyData} : H a = some (.tup xs) → DenAll H xs ds → Den H (.ref a) (.tuple ds)
inductive DenAll (H : Hp) : List V → List PyData → Prop
  | nil : DenAll H [] []
  | cons {x : V} {d : PyData} {xs : List V} {ds : List PyData} : Den H x d → DenAll H xs ds → DenAll H (x :: xs) (d :: ds)
end
mutual
theorem Den.same {H H' : Hp} (e : Same H H') : ∀ {x : V} {d : PyData}, Den H x d → Den H' x d
  | _, _, .non => .non
  | _, _, .bl b => .bl b
  | _, _, .int i => .int i
  | _, _, .str x => .str x
  | _, _, .lst h r => .lst (e _ _ h) (DenAll.same e r)
  | _, _, .tup h r => .tup (e _ _ h) (DenAll.same e r)
theorem DenAll.same {H H' : Hp} (e : Same H H') : ∀ {xs : List V} {ds : List PyData}, DenAll H xs ds → DenAll H' xs ds
  | _, _, .nil => .nil
  | _, _, .cons h r => .cons (Den.same e h) (DenAll.same e r)
end
theorem Den.inv_tup {H : Hp} {x : V} {ds : List PyData} (h : Den H x (.tuple ds)) : ∃ a xs, x = .ref a ∧ H a = some (.tup xs) ∧ DenAll H xs ds := by
  cases h with
  | tup e r => exact ⟨_, _, rfl, e, r⟩
theorem DenAll.length {H : Hp} : ∀ {xs : List V} {ds : List PyData}, DenAll H xs ds → xs.length = ds.length
  | _, _, .nil => rfl
  | _, _, .cons _ r => by rw [List.length_cons, List.length_cons, DenAll.length r]
theorem DenAll.get {H : Hp} : ∀ {xs : List V} {ds : List PyData} {i : Nat} {x : V}, DenAll H xs ds → xs[i]? = some x → ∃ d, ds[i]? = some d ∧ Den H x d
  | _, _, _, _, .nil, e => by simp at e
  | _, _, 0, _, .cons h _, e => by simp at e; subst e; exact ⟨_, rfl, h⟩
  | _, _, i + 1, x, .cons _ r, e => by
    obtain ⟨d, h1, h2⟩ := DenAll.get (i := i) (x := x) r (by simpa using e)
    exact ⟨d, by simpa using h1, h2⟩
theorem DenAll.set {H : Hp} {x : V} {d : PyData} (h : Den H x d) : ∀ {xs : List V} {ds : List PyData} (i : Nat), DenAll H xs ds → DenAll H (xs.set i x) (ds.set i d)
  | _, _, _, .nil => .nil
  | _, _, 0, .cons _ r => .cons h r
  | _, _, i + 1, .cons g r => .cons g (DenAll.set h i r)
theorem DenAll.append {H : Hp} : ∀ {xs ys : List V} {ds es : List PyData}, DenAll H xs ds → DenAll H ys es → DenAll H (xs ++ ys) (ds ++ es)
  | _, _, _, _, .nil, s => s
  | _, _, _, _, .cons h r, s => .cons h (DenAll.append r s)
theorem DenAll.ints {H : Hp} : ∀ ns : List Int, DenAll H (ns.map V.int) (ns.map PyData.int)
  | [] => .nil
  | n :: r => .cons (.int n) (DenAll.ints r)
theorem DenAll.of_ints {H : Hp} : ∀ {xs : List V} {ns : List Int}, DenAll H xs (ns.map PyData.int) → xs = ns.map V.int
  | _, [], .nil => rfl
  | _, n :: r, .cons (.int _) t => by rw [List.map_cons, DenAll.of_ints t]
section
variable {X : Cx} {pins : List (Addr × Obj)} {σ : St} {H : Hp} {s : Shared}
mutual
theorem Den.reads (I : Inv X pins σ H s) : ∀ {x : V} {d : PyData} {u : Value}, Den H x d → RelV x u → ∃ as, Reads s.heap u d as
  | _, _, _, .non, r => by cases (show _ = Value.none from r); exact ⟨_, .none⟩
  | _, _, _, .bl b, r => by cases (show _ = Value.bool b from r); exact ⟨_, .bool b⟩
  | _, _, _, .int i, r => by obtain ⟨t, e⟩ := r; cases e; exact ⟨_, .int i t⟩
  | _, _, _, .str x, r => by obtain ⟨t, e⟩ := r; cases e; exact ⟨_, .str x t⟩
  | _, _, _, .lst (a := a) h q, r => by
    cases (show _ = Value.ref a from r)
    obtain ⟨its, rv, p, hz⟩ := I.list (SqL.of h)
    obtain ⟨o, ho, hc, n, hd⟩ := p.isList
    obtain ⟨as, z⟩ := DenAll.reads I q rv
    exact ⟨_, .list ho hc hd (by simpa using z)⟩
  | _, _, _, .tup (a := a) h q, r => by
    cases (show _ = Value.ref a from r)
    obtain ⟨its, rv, p, hz⟩ := I.tuple (SqT.of h)
    obtain ⟨o, ho, hc, n, hd⟩ := p
    obtain ⟨as, z⟩ := DenAll.reads I q rv
    exact ⟨_, .tuple ho hc hd (by simpa using z)⟩
theorem DenAll.reads (I : Inv X pins σ H s) : ∀ {xs : List V} {ds : List PyData} {us : List Value}, DenAll H xs ds → Vals xs us → ∃ as, ReadsAll s.heap us ds as
  | _, _, _, .nil, .nil => ⟨_, .nil⟩
  | _, _, _, .cons h q, .cons r t => by
    obtain ⟨as, z⟩ := Den.reads I h r
    obtain ⟨bs, y⟩ := DenAll.reads I q t
    exact ⟨_, .cons z y⟩
end
end
noncomputable def rEqD : R2 := fun x y H Q => ∃ dx dy, Den H x dx ∧ Den H y dy ∧ SeqAt.shaped dx = true ∧ SeqAt.shaped dy = true ∧ Q (.bl (PyData.eqv dx dy)) H
noncomputable def rNeD : R2 := fun x y H Q => ∃ dx dy, Den H x dx ∧ Den H y dy ∧ SeqAt.shaped dx = true ∧ SeqAt.shaped dy = true ∧ Q (.bl (!PyData.eqv dx dy)) H
section
variable {X : Cx}
theorem op_eqD (hu : X.A.units + 64 < cLine) : OpR X (compareOp .Eq) rEqD := by
  intro pins s σ H x y v u Q I rx ry h
  obtain ⟨dx, dy, h1, h2, s1, s2, q⟩ := h
  obtain ⟨as, z1⟩ := h1.reads I rx
  obtain ⟨bs, z2⟩ := h2.reads I ry
  exact eq_dataH z1 z2 s1 s2 hu ⟨.bl _, H, I, rfl, q⟩
theorem op_neD (hu : X.A.units + 64 < cLine) : OpR X (compareOp .NotEq) rNeD := by
  intro pins s σ H x y v u Q I rx ry h
  obtain ⟨dx, dy, h1, h2, s1, s2, q⟩ := h
  obtain ⟨as, z1⟩ := h1.reads I rx
  obtain ⟨bs, z2⟩ := h2.reads I ry
  exact ne_dataH z1 z2 s1 s2 hu ⟨.bl _, H, I, rfl, q⟩
end
mutual
theorem eqv_self : ∀ d : PyData, d.canLay0 = true → PyData.eqv d d = true
  | .none, _ => by simp [PyData.eqv]
  | .bool b, _ => by simp [PyData.eqv]
  | .int i, _ => by simp [PyData.eqv]
  | .str x, _ => by simp [PyData.eqv]
  | .list xs, h => by rw [PyData.eqv]; exact eqvAll_self xs (by simpa [PyData.canLay0] using h)
  | .tuple xs, h => by rw [PyData.eqv]; exact eqvAll_self xs (by simpa [PyData.canLay0] using h)
  | .dict _, h => by simp [PyData.canLay0] at h
theorem eqvAll_self : ∀ ds : List PyData, PyData.canLayAll0 ds = true → PyData.eqvAll ds ds = true
  | [], _ => by simp [PyData.eqvAll]
  | d :: r, h => by
    rw [PyData.canLayAll0, Bool.and_eq_true] at h
    rw [PyData.eqvAll, eqv_self d h.1, eqvAll_self r h.2]
    rfl
end
noncomputable def clV : V → Option Value
  | .ty n => some (.type n)
  | .ref a => some (.ref a)
  | _ => none
noncomputable def rIsi (K : PySem.W.Frag) : List V → Hp → VK → Prop := fun xs H Q => ∃ x c cv t b, xs = [x, c] ∧ clV c = some cv ∧ TyOf K H x t ∧ PySem.W.kitOne K t cv = some b ∧ Q (.bl b) H
section
variable {X : Cx}
theorem call_isi : CallR X (.builtin "isinstance") (rIsi X.K) := by
  intro pins s σ H xs us Q I r h
  obtain ⟨x, c, cv, t, b, rfl, hc, ty, e, q⟩ := h
  obtain ⟨u, w', rfl, rx, rc⟩ := vals2 r
  have hw : w' = cv := by
    cases c with
    | ty n => cases hc; exact rc
    | ref a => cases hc; exact rc
    | _ => cases hc
  subst hw
  exact isinst_ok I rx ty e fun tk => ⟨.bl b, H, I.tok tk, rfl, q⟩
end
end L2
namespace L2
open PySem PySem.Spec PyProof.Rows
section
variable {prog : Program} {w : World} {A : Around} {E : Value → Shared → Prop} {s : Shared}
theorem en_next {e it l : Addr} {i : Nat} {j : Int} {items : Array Value} {x old : Value} {Q : Option Value → Shared → Prop}
    (h1 : IsEnum s.heap e it j old) (h2 : s.heap.IsListIter it l i) (h3 : s.heap.IsList l items) (h4 : items[i]? = some x) (ne : e ≠ it)
    (q : ∀ h', IsEnumOut h' e it (j + 1) x s.heap.objs.size → h'.IsListIter it l (i + 1) → h'.get? s.heap.objs.size = some { cls := .type "tuple", data := .seq #[.int j s.toks, x] } →
      (∀ b o, b ≠ e → b ≠ it → s.heap.get? b = some o → h'.get? b = some o) → Q (some (.ref s.heap.objs.size)) { s with heap := h', toks := s.toks + 1 }) :
    wpAny (model prog w) A (pyNext (.ref e)) Q E s := by
  have ty : s.TypeIs (.ref e) "enumerate" := ⟨_, h1, rfl⟩
  unfold pyNext
  refine wpAny_bind (wpAny_attempt (wpAny_callSpecial?_slot (name := Str.ofString "__next__") ty F.slot_enumerate_next (wpAny_call_entry F.slot_enumerate_next ty F.entry_enumerate_next ?_ (F.args_enumerate_next_1 _))))
  obtain ⟨hp, g, d, tk, os⟩ := s
  show wpAny _ _ (field (.ref e) 2 >>= _) _ _ _
  refine wpAny_bind (wpAny_field h1 rfl (x := .ref it) rfl (wpAny_bind (wpAny_nextOf_list_item h2 h3 h4 fun p1 i1 k1 => ?_)))
  replace k1 : Heap.SameBut it hp p1 := k1
  have r1 : IsEnum p1 e it j old := (k1.2 e ne).trans h1
  show wpAny _ _ (field (.ref e) 3 >>= _) _ _ ⟨p1, g, d, tk, os⟩
  refine wpAny_bind (wpAny_field r1 rfl (x := rawInt j) rfl ?_)
  show wpAny _ _ (field (.ref e) 4 >>= _) _ _ ⟨p1, g, d, tk, os⟩
  refine wpAny_bind (wpAny_field r1 rfl (x := .none) rfl ?_)
  show wpAny _ _ (mkInt j >>= _) _ _ ⟨p1, g, d, tk, os⟩
  refine wpAny_bind (wpAny_mkInt ?_)
  show wpAny _ _ (setField (.ref e) 3 (rawInt (j + 1)) >>= _) _ _ ⟨p1, g, d, tk + 1, os⟩
  refine wpAny_bind (wpAny_setField_rec r1 (by simp) fun p2 r2 k2 => ?_)
  replace k2 : Heap.SameBut e p1 p2 := k2
  replace r2 : IsEnum p2 e it (j + 1) old := r2
  show wpAny _ _ (setField (.ref e) 4 .none >>= _) _ _ ⟨p2, g, d, tk + 1, os⟩
  refine wpAny_bind (wpAny_setField_rec r2 (by simp) fun p3 r3 k3 => ?_)
  replace k3 : Heap.SameBut e p2 p3 := k3
  replace r3 : IsEnum p3 e it (j + 1) old := r3
  show wpAny _ _ (newTuple [.int j tk, x] >>= _) _ _ ⟨p3, g, d, tk + 1, os⟩
  refine wpAny_bind (wpAny_newTuple ?_)
  have zz : p3.objs.size = hp.objs.size := by rw [k3.1, k2.1, k1.1]
  have r4 : IsEnum (p3.push { cls := .type "tuple", data := .seq #[.int j tk, x] }) e it (j + 1) old := Heap.get?_push_of_some _ r3
  have le : e < hp.objs.size := Heap.lt_size h1
  have t4 : (p3.push { cls := .type "tuple", data := .seq #[.int j tk, x] }).get? hp.objs.size = some { cls := .type "tuple", data := .seq #[.int j tk, x] } := by rw [← zz]; exact Heap.get?_push_size _ rfl
  have b4 : ∀ b o, b ≠ e → b ≠ it → hp.get? b = some o → (p3.push { cls := .type "tuple", data := .seq #[.int j tk, x] }).get? b = some o := fun b o z1 z2 z3 =>
    Heap.get?_push_of_some _ (k3.extBut b o z1 (k2.extBut b o z1 (k1.extBut b o z2 z3)))
  have i4 : (p3.push { cls := .type "tuple", data := .seq #[.int j tk, x] }).IsListIter it l (i + 1) := by
    obtain ⟨o, ho, r⟩ := (i1.extBut k2.extBut (Ne.symm ne)).extBut k3.extBut (Ne.symm ne)
    exact ⟨o, Heap.get?_push_of_some _ ho, r⟩
  generalize p3.push { cls := .type "tuple", data := .seq #[.int j tk, x] } = p4 at r4 t4 b4 i4 ⊢
  rw [zz]
  show wpAny _ _ (Builtin.SmallTypes.ownedTupleIsFree (.ref e) >>= _) _ _ ⟨p4, g, d, tk + 1, os⟩
  refine wpAny_bind ?_
  unfold Builtin.SmallTypes.ownedTupleIsFree
  refine wpAny_bind (wpAny_field r4 rfl (x := .none) rfl (wpAny_pure ?_))
  simp only [if_true]
  refine wpAny_bind (wpAny_rule (wpAny_bind (wpAny_field r4 rfl (x := old) rfl (wpAny_bind (wpAny_setField_rec r4 (by simp) fun p5 r5 k5 => ?_)))))
  replace k5 : Heap.SameBut e p4 p5 := k5
  replace r5 : IsEnum p5 e it (j + 1) x := r5
  show wpAny _ _ (Builtin.SmallTypes.ownedTupleHandOut (.ref e) (.ref hp.objs.size) >>= _) _ _ ⟨p5, g, d, tk + 1, os⟩
  refine wpAny_bind ?_
  unfold Builtin.SmallTypes.ownedTupleHandOut
  refine wpAny_bind (wpAny_setField_rec r5 (by simp) fun p6 r6 k6 => ?_)
  replace k6 : Heap.SameBut e p5 p6 := k6
  replace r6 : IsEnumOut p6 e it (j + 1) x hp.objs.size := r6
  refine wpAny_setField_rec r6 (by simp) fun p7 r7 k7 => ?_
  replace k7 : Heap.SameBut e p6 p7 := k7
  replace r7 : IsEnumOut p7 e it (j + 1) x hp.objs.size := r7
  have up : ∀ b o, b ≠ e → p4.get? b = some o → p7.get? b = some o := fun b o z1 z2 => k7.extBut b o z1 (k6.extBut b o z1 (k5.extBut b o z1 z2))
  refine wpAny_bind (wpAny_letGo (wpAny_pure ⟨_, rfl, wpAny_pure (q p7 r7 ?_ (up _ _ (Nat.ne_of_gt le) t4) fun b o z1 z2 z3 => up b o z1 (b4 b o z1 z2 z3))⟩))
  obtain ⟨o, ho, r⟩ := i4
  exact ⟨o, up it o (Ne.symm ne) ho, r⟩
theorem en_end {e it l : Addr} {i : Nat} {j : Int} {items : Array Value} {old : Value} {Q : Option Value → Shared → Prop} (hh : A.handled = none)
    (h1 : IsEnum s.heap e it j old) (h2 : s.heap.IsListIter it l i) (h3 : s.heap.IsList l items) (h4 : items[i]? = none)
    (q : ∀ h', Heap.ExtBut it s.heap h' → Q none { s with heap := h' }) : wpAny (model prog w) A (pyNext (.ref e)) Q E s := by
  have ty : s.TypeIs (.ref e) "enumerate" := ⟨_, h1, rfl⟩
  unfold pyNext
  refine wpAny_bind (wpAny_attempt (wpAny_callSpecial?_slot (name := Str.ofString "__next__") ty F.slot_enumerate_next (wpAny_call_entry F.slot_enumerate_next ty F.entry_enumerate_next ?_ (F.args_enumerate_next_1 _))))
  show wpAny _ _ (field (.ref e) 2 >>= _) _ _ _
  refine wpAny_bind (wpAny_field h1 rfl (x := .ref it) rfl (wpAny_bind (wpAny_nextOf_list_end hh h2 h3 h4 fun h' z k1 k2 => ?_)))
  obtain ⟨o, ho, hc⟩ := k2
  exact wpAny_bind (wpAny_isInstance (T := "StopIteration") (b := true) ⟨o, ho, hc⟩ isSubtype_stop (wpAny_pure (q _ k1)))
end
noncomputable def Ite (K : PySem.W.Frag) (a : Addr) (st : Int) : It :=
  ⟨fun i H => ∃ xs x, SqL K H a xs ∧ xs[i]? = some x, fun i H v H' => ∃ t x, v = .ref t ∧ H t = none ∧ H' = upd H t (.tup [.int (st + i), x]) ∧ ∀ xs, SqL K H a xs → xs[i]? = some x, fun i H => ∃ xs, SqL K H a xs ∧ xs.length ≤ i⟩
theorem turn_enum {P : Program} {w : World} {K : PySem.W.Frag} {es : List Expr} {x1 : _} {tp : Pos} (a e it : Addr) (st : Int) (ne : e ≠ it) :
    Turn P w K (.Tuple es x1 tp) (Ite K a st) [e, it] e (fun i h => (∃ old, IsEnum h e it (st + (i : Nat)) old) ∧ h.IsListIter it a i) where
  mem := by simp
  obj := fun i h q b hb => by
    obtain ⟨⟨old, q1⟩, o, q2, c, d⟩ := q
    rcases List.mem_cons.mp hb with z | z
    · subst z
      exact ⟨_, q1, fun v y => nomatch y⟩
    · have z : b = it := by simpa using z
      subst z
      exact ⟨o, q2, fun v y => by rw [d] at y; cases y⟩
  keep := fun i h h' q k => by
    obtain ⟨⟨old, q1⟩, q2⟩ := q
    exact ⟨⟨old, k e (by simp) _ q1⟩, q2.at fun o z => k it (by simp) o z⟩
  item := by
    intro X hP hw hK hc i pins s σ H E I hf q hg
    subst hP hw hK
    obtain ⟨xs, x, hq, hx⟩ := hg
    obtain ⟨⟨old, q1⟩, q2⟩ := q
    obtain ⟨its, rv, p, hz⟩ := I.list hq
    obtain ⟨u, hu, ru⟩ := rv.get hx
    obtain ⟨f0, f1, f2, f3, f4, f5⟩ := hf e (by simp)
    obtain ⟨g0, g1, g2, g3, g4, g5⟩ := hf it (by simp)
    refine en_next q1 q2 p.isList (x := u) (by simpa using hu) ne fun h' r1 r2 r3 r4 => ⟨_, rfl, wpAny_letOwnedTupleGo_enum r1 fun h2 s1 s2 => ?_⟩
    have le : e < s.heap.objs.size := Heap.lt_size q1
    have fr : H s.heap.objs.size = none := I.hok.fresh (Nat.le_refl _)
    have keep2 : ∀ b o, b ≠ e → b ≠ it → s.heap.get? b = some o → h2.get? b = some o := fun b o z1 z2 z3 => (s2.2 b z1).trans (r4 b o z1 z2 z3)
    have it2 : h2.IsListIter it a (i + 1) := by
      obtain ⟨o, z, r⟩ := r2
      exact ⟨o, (s2.2 it (Ne.symm ne)).trans z, r⟩
    have t2 : h2.get? s.heap.objs.size = some { cls := .type "tuple", data := .seq #[.int (st + (i : Nat)) s.toks, u] } := (s2.2 _ (Nat.ne_of_gt le)).trans r3
    have hok2 : HOk X.prog X.w H h2 := fun b o z => (I.hok b o z).stay (fun c v hc r => keep2 c v (by
        rcases hc with rfl | hc
        · rintro rfl; rw [f0] at z; cases z
        · rintro rfl; rw [f0] at hc; cases hc) (by
        rcases hc with rfl | hc
        · rintro rfl; rw [g0] at z; cases z
        · rintro rfl; rw [g0] at hc; cases hc) r) (fun _ r => r) fun _ _ r => r
    have ok3 : HOk X.prog X.w (upd H s.heap.objs.size (.tup [.int (st + (i : Nat)), x])) h2 := fun b o z => by
      by_cases hb : b = s.heap.objs.size
      · subst hb
        rw [upd_same] at z; cases z
        refine ⟨by show 2 ≤ sizeLine; decide, [.int (st + (i : Nat)) s.toks, u], .cons ⟨_, rfl⟩ (.cons ru .nil), _, t2, rfl, _, rfl⟩
      · rw [upd_ne hb] at z
        exact (hok2 b o z).stay (fun _ _ _ r => r) (fun c r => by rw [upd_ne (ne_of_none r fr)]; exact r) fun c xs r => by rw [upd_ne (ne_of_none r fr)]; exact r
    have I2 : Inv X pins σ (upd H s.heap.objs.size (.tup [.int (st + (i : Nat)), x])) { s with heap := h2, toks := s.toks + 1 } := by
      refine I.step (g' := s.gens) (d' := s.drawn) (ch := [e, it]) (fun b hb => ?_) (fun b o _ _ hc z _ => keep2 b o (fun y => hc (by simp [y])) (fun y => hc (by simp [y])) z)
        (fun b o _ _ hc z _ => ⟨o.slots, keep2 b o (fun y => hc (by simp [y])) (fun y => hc (by simp [y])) z⟩) (fun b o _ z n => by rw [upd_ne (Nat.ne_of_lt (Heap.lt_size z))]; exact n)
        (fun b o hc z => ⟨o, keep2 b o (fun y => hc (by simp [y])) (fun y => hc (by simp [y])) z⟩) (fun b xs z => by rw [upd_ne (ne_of_none z fr)]; exact z) (fun b ob xs z => by rw [upd_ne (ne_of_none z fr)]; exact z)
        (fun b ps z => ⟨#[], by rw [upd_ne (ne_of_none z fr), z]; simp⟩) (fun m hm => ?_) ok3 I.bare
      · rcases List.mem_cons.mp hb with z | z
        · subst z; exact ⟨f3, f1, f4, f5⟩
        · have z : b = it := by simpa using z
          subst z; exact ⟨g3, g1, g4, g5⟩
      · obtain ⟨o, es', ep, ho, r⟩ := hm
        exact ⟨o, es', ep, keep2 _ o (Ne.symm f1) (Ne.symm g1) ho, r⟩
    have ei : st + (i : Nat) + 1 = st + ((i + 1 : Nat) : Int) := by omega
    rw [ei] at s1
    refine ⟨.ref s.heap.objs.size, _, I2, rfl, ⟨_, x, rfl, fr, rfl, fun ys hy => by rw [I.list_inj hy hq]; exact hx⟩, ⟨⟨u, s1⟩, it2⟩, fun b hb => ?_⟩
    rcases List.mem_cons.mp hb with z | z
    · subst z
      rw [upd_ne (Nat.ne_of_lt le)]; exact f0
    · have z : b = it := by simpa using z
      subst z
      obtain ⟨o, ho, _⟩ := q2
      rw [upd_ne (Nat.ne_of_lt (Heap.lt_size ho))]; exact g0
  done := by
    intro X hP hw hK hc i pins s σ H E I hf q hg
    subst hP hw hK
    obtain ⟨xs, hq, hx⟩ := hg
    obtain ⟨⟨old, q1⟩, q2⟩ := q
    obtain ⟨its, rv, p, hz⟩ := I.list hq
    obtain ⟨g0, g1, g2, g3, g4, g5⟩ := hf it (by simp)
    have hl := rv.length
    exact en_end (I.ok.hd hc) q1 q2 p.isList (by simp; omega) fun h' eb => ⟨rfl, I.turned (t' := s.toks) (fun b o hb z => eb b o hb z) g0 g1 g3 g4 g5⟩
  self := fun _ _ _ _ _ q h => wpAny_pyIter_enum q.1.choose_spec h
noncomputable def iEnum (K : PySem.W.Frag) (st : Int) (ta : TA) : TI := fun σ H R => ta σ H fun vs H1 => ∃ a, vs = [.ref a] ∧ (∃ xs, SqL K H1 a xs) ∧ R (Ite K a st) H1
section
variable {X : Cx}
theorem enum_it {pins : List (Addr × Obj)} {σ : St} {H : Hp} {s : Shared} {R : It → Hp → Prop} {E : Value → Shared → Prop} {es : List Expr} {x1 : _} {tp : Pos} {a : Addr} {st : Int} {h' : Heap} {tk : Nat} (I : Inv X pins σ H s)
    (h1 : IsEnum h' (s.heap.objs.size + 1) s.heap.objs.size st .none) (h2 : h'.IsListIter s.heap.objs.size a 0) (h3 : ∀ b o, s.heap.get? b = some o → h'.get? b = some o) (q : R (Ite X.K a st) H) :
    wpAny (model X.prog X.w) X.A (pyIter (.ref (s.heap.objs.size + 1))) (PIE X pins σ (.Tuple es x1 tp) R) E { s with heap := h', toks := tk } := by
  refine wpAny_pyIter_enum h1 ?_
  refine ⟨s.heap.objs.size + 1, [s.heap.objs.size + 1, s.heap.objs.size], _, _, H, rfl, I.kept h3, turn_enum a _ _ st (Nat.succ_ne_self _), ⟨⟨.none, by simpa using h1⟩, h2⟩, fun b hb => ?_, q⟩
  rcases List.mem_cons.mp hb with z | z
  · subst z
    exact I.fpOk (Nat.le_succ _) (I.hok.fresh (Nat.le_succ _))
  · have z : b = s.heap.objs.size := by simpa using z
    subst z
    exact I.fpOk (Nat.le_refl _) (I.hok.fresh (Nat.le_refl _))
theorem pi_enum {e : Expr} {ta : TA} {p pos : Pos} {es : List Expr} {x1 : _} {tp : Pos} (hg : Gl X "enumerate") (hm : X.mg "enumerate" = none) (ha : PA X [e] ta)
    (he : starEach [e] X.env = [(false, eval e X.env)] := by rfl) : PI X (.Tuple es x1 tp) (.Call (.Name "enumerate" p) [e] [] pos) (iEnum X.K 0 ta) := by
  intro pins s σ H R I h
  refine wpAny_Call_Name_kw (ld_blt I hg hm boot_enumerate ?_)
  refine PyProof.Rows.callWith_type1 (thn (ha pos pins s σ H _ I h) fun us s1 ⟨vs, H1, I1, r1, q1⟩ => ?_) he rfl
  obtain ⟨a, rfl, ⟨xs, hq⟩, q⟩ := q1
  obtain ⟨u, rfl, ru⟩ := vals1 r1
  cases (show u = Value.ref a from ru)
  obtain ⟨its, rv, pl, hz⟩ := I1.list hq
  exact call_enumerate_list pl.isList fun h' k1 k2 k3 k4 => enum_it (tk := s1.toks) I1 k1 k2 k4 q
end
end L2
namespace L2
open PySem PySem.Spec PyProof.Rows
section
variable {prog : Program} {w : World} {A : Around} {E : Value → Shared → Prop} {s : Shared}
theorem call_type_kw {T nid iid : String} {Bn Bi : Builtin} {xs : List Value} {kw : List (Str × Value)} {S : PySem.Spec} {Q Q₁ : Value → Shared → Prop} (ft : TypeCalled T nid iid)
    (c1 : checkTypeCall T ⟨xs, kw⟩ = pure ()) (c2 : checkBuiltinCall nid ⟨.type T :: xs, kw⟩ = pure ())
    (en : entryFor table nid = some Bn) (ei : entryFor table iid = some Bi) (g : Meets (Bn ⟨.type T :: xs, kw⟩) S) (h : S A.in1 (wants Q₁ E) s)
    (nxt : ∀ obj s₁, Q₁ obj s₁ → s₁.TypeIs obj T ∧ argsOk iid ⟨obj :: xs, kw⟩ ∧ ∃ Si, Meets (Bi ⟨obj :: xs, kw⟩) Si ∧ Si A.in1 (wants (fun r s₂ => r = .none ∧ Q obj s₂) E) s₁) :
    wpAny (model prog w) A (call (.type T) xs kw) Q E s := by
  obtain ⟨c, tl, hmro⟩ := ft.mro
  have e1 := ft.made
  have e2 := ft.sub
  refine wpAny_call (codeAny_of_tree ?_)
  show wpAny _ _ (callAny (.type T) _) _ _ _
  refine wpAny_pure ⟨Code.quiet_builtin _ (by decide +kernel), codeAny_builtin F.entry_type_call ?_⟩
  rw [Around.under_plain (weight_type_call_type T xs kw) (units_type_call_type T xs kw)]
  have e3 := ft.notType
  have e4 := ft.canCreate
  repeat (any_goals (first | assumption | wp_step))
  refine codeAny_mono (codeAny_call_builtin ft.plain en (wpAny_of_eq c2 (g prog w A.in1 _ s h))) fun r s₁ hr => ?_
  cases r with
  | error e => exact hr
  | ok fl =>
    cases fl with
    | ret obj =>
      obtain ⟨hT, hok, Si, gi, hsi⟩ := nxt _ _ hr
      have e5 := ft.init.lookup
      have e6 := ft.init.bind obj
      repeat (any_goals (first | assumption | wp_step))
      refine codeAny_mono (codeAny_call_builtin ft.init.plain ei (ft.init.check _ _ _ _ _ _ _ _ hT hok (gi prog w A.in1 _ s₁ hsi))) fun r2 s2 q2 => ?_
      cases r2 with
      | error e => exact q2
      | ok f2 =>
        cases f2 with
        | ret r =>
          obtain ⟨rfl, hq⟩ := q2
          repeat (any_goals (first | assumption | wp_step))
        | _ => exact q2.elim
    | _ => exact hr.elim
theorem init_kw {T nid : String} {self : Value} {rest : List Value} {kw : List (Str × Value)} (h1 : typeLookup (.type T) "__init__" = pure (some (.builtin "object.__init__")))
    (h2 : Bind.madeBy (.type T) = pure (some nid)) (ne : (some nid != some "object.__new__") = true) : Meets (Builtin.«object.__init__» ⟨self :: rest, kw⟩) (fun _ R s => s.TypeIs self T ∧ R (.ok (.ret .none)) s) := by
  refine Meets.of_wp fun prog w A R s hs => ?_
  obtain ⟨hT, hq⟩ := hs
  cases rest with
  | nil =>
    cases kw with
    | nil => exact wpAny_pure ⟨_, rfl, hq⟩
    | cons k kw =>
      repeat (any_goals (first | assumption | wp_step))
      exact ⟨_, rfl, hq⟩
  | cons a rest =>
    repeat (any_goals (first | assumption | wp_step))
    exact ⟨_, rfl, hq⟩
open AutoSeq1 (wpAny_loadPart') in
theorem new_enum1 (l : Addr) (items : Array Value) (n : Nat) (dct : Option Addr) (sl : Array (Option Value)) (t : Tok) :
    Meets (Builtin.«enumerate.__new__» ⟨[.type "enumerate", .ref l], [(Str.ofString "start", .int 1 t)]⟩) (fun _ R s => s.heap.get? l = some { cls := .type "list", dict := dct, data := .seq items n, slots := sl } ∧
      R (.ok (.ret (.ref (s.heap.push { cls := .type "list_iterator", data := .fields #[.ref l, .int 0 0] }).objs.size)))
        { s with heap := (s.heap.push { cls := .type "list_iterator", data := .fields #[.ref l, .int 0 0] }).push { cls := .type "enumerate", data := .fields #[.none, .bool false, .ref s.heap.objs.size, rawInt 1, .none, .none] } }) :=
  .of_wp fun prog w A R s h => by
    obtain ⟨hp, g, d, tk, os⟩ := s
    obtain ⟨e1, h⟩ := h
    have e2 := sub_enumerate
    have e3 : Heap.IsList (Shared.heap ⟨hp, g, d, tk, os⟩) l items := ⟨_, e1, rfl, n, rfl⟩
    wp_walk using wpAny_loadPart' e1
    refine wpAny_stack_any fun st => wpAny_pure ?_
    split
    · rename_i c _ _ _ _ _
      cases (c == Value.type "enumerate") <;> (wp_walk using wpAny_loadPart' e1, wpAny_pyIter_list e3; exact ⟨_, rfl, h⟩)
    · wp_walk using wpAny_loadPart' e1, wpAny_pyIter_list e3
      exact ⟨_, rfl, h⟩
theorem tc_enum1 (a b : Value) : checkTypeCall "enumerate" ⟨[a], [(Str.ofString "start", b)]⟩ = pure () := by kernel_rfl
theorem nc_enum1 (a b : Value) : checkBuiltinCall "enumerate.__new__" ⟨[.type "enumerate", a], [(Str.ofString "start", b)]⟩ = pure () := by kernel_rfl
theorem call_enum1 {l : Addr} {items : Array Value} {t : Tok} {Q : Value → Shared → Prop} (hL : s.heap.IsList l items)
    (hok : ∀ obj a b : Value, argsOk "object.__init__" ⟨[obj, a], [(Str.ofString "start", b)]⟩)
    (h : ∀ h', IsEnum h' (s.heap.objs.size + 1) s.heap.objs.size 1 .none → h'.IsListIter s.heap.objs.size l 0 → (∀ b o, s.heap.get? b = some o → h'.get? b = some o) → Q (.ref (s.heap.objs.size + 1)) { s with heap := h' }) :
    wpAny (model prog w) A (call (.type "enumerate") [.ref l] [(Str.ofString "start", .int 1 t)]) Q E s := by
  obtain ⟨⟨c, dct, dt, sl⟩, hl, hc, n, hd⟩ := hL
  replace hc : c = .type "list" := hc
  replace hd : dt = .seq items n := hd
  subst hc hd
  refine call_type_kw (Q₁ := fun obj s₁ => s₁.TypeIs obj "enumerate" ∧ Q obj s₁) F.called_enumerate (tc_enum1 _ _) (nc_enum1 _ _) F.entry_enumerate_new F.entry_object_init (new_enum1 l items n dct sl t) ⟨hl, ?_⟩
    fun obj _ hq => ⟨hq.1, hok obj _ _, _, init_kw F.called_enumerate.init.lookup F.called_enumerate.made (by decide), hq.1, rfl, hq.2⟩
  have hz : (s.heap.push { cls := .type "list_iterator", data := .fields #[.ref l, .int 0 0] }).objs.size = s.heap.objs.size + 1 := Heap.size_push ..
  show _ ∧ _
  rw [hz]
  have he : IsEnum ((s.heap.push { cls := .type "list_iterator", data := .fields #[.ref l, .int 0 0] }).push { cls := .type "enumerate", data := .fields #[.none, .bool false, .ref s.heap.objs.size, rawInt 1, .none, .none] })
      (s.heap.objs.size + 1) s.heap.objs.size 1 .none := by
    have q := Heap.get?_push_size (s.heap.push { cls := .type "list_iterator", data := .fields #[.ref l, .int 0 0] }) (o := { cls := .type "enumerate", data := .fields #[.none, .bool false, .ref s.heap.objs.size, rawInt 1, .none, .none] }) rfl
    rw [hz] at q
    exact q
  exact ⟨⟨_, he, rfl⟩, h _ he ⟨_, Heap.get?_push_of_some _ (Heap.get?_push_size _ rfl), rfl, rfl⟩ fun b o x => Heap.get?_push_of_some _ (Heap.get?_push_of_some _ x)⟩
end
section
variable {X : Cx}
theorem ok_init1 (obj a b : Value) : argsOk "object.__init__" ⟨[obj, a], [(Str.ofString "start", b)]⟩ := by
  unfold argsOk
  rw [signature?_of (id := "object.__init__") (n := ['_', '_', 't', 'i', 'n', 'i', '_', '_']) (o := ['t', 'c', 'e', 'j', 'b', 'o']) (by kernel_rfl) F.owner_object]
  kernel_rfl
theorem pi_enum1 {e : Expr} {ta : TA} {p pos kp cp : Pos} {j : _} {es : List Expr} {x1 : _} {tp : Pos} (hg : Gl X "enumerate") (hm : X.mg "enumerate" = none) (ha : PA X [e] ta)
    (he : starEach [e] X.env = [(false, eval e X.env)] := by rfl) :
    PI X (.Tuple es x1 tp) (.Call (.Name "enumerate" p) [e] [⟨some "start", .Constant (.int 1) j cp, kp⟩] pos) (iEnum X.K 1 ta) := by
  intro pins s σ H R I h
  refine wpAny_Call_Name_kw (ld_blt I hg hm boot_enumerate ?_)
  refine PySem.W.callWith_of (P := fun _ => True) (by rw [he]; rfl) (fun h _ => ⟨.machine, .inr (.inl rfl), PySem.W.Looks.of_pure rfl⟩) (evalArgs_kw2 rfl (thn (ha pos pins s σ H _ I h) fun us s1 ⟨vs, H1, I1, r1, q1⟩ => ?_) he)
  refine thn (pk_cons (X := X) (kws := []) (nm := some "start") (kpos := kp) pe_int pk_nil pos pins s1 σ H1 (fun ws H2 => ws = [.int 1] ∧ H2 = H1) I1 ⟨rfl, rfl⟩) fun ws s2 ⟨zs, H2, I2, rz, e1, e2⟩ => ⟨trivial, ?_⟩
  subst e1 e2
  obtain ⟨u, rfl, t, rfl⟩ := vals1 rz
  obtain ⟨a, rfl, ⟨xs, hq⟩, q⟩ := q1
  obtain ⟨u, rfl, ru⟩ := vals1 r1
  cases (show u = Value.ref a from ru)
  obtain ⟨its, rv, pl, hz⟩ := I2.list hq
  exact call_enum1 pl.isList ok_init1 fun h' k1 k2 k4 => enum_it (tk := s2.toks) I2 k1 k2 k4 q
end
end L2
namespace L2
open PySem PySem.Spec PyProof.Rows
structure Callee (P : Program) (w : World) (K : PySem.W.Frag) (mg : Str → Option Value) (base : Heap) (CX : CXT) (k : Nat) (x : Str) (ps : List Str) (sp : Sp) : Prop where
  ex : ∃ f fd, FnOk P w K mg base CX k f fd ps sp ∧ mg x = some (.ref f) ∧ PySem.W.keepIn K (.ref f) = true ∧ Binds K fd ps []
structure CalleeM (P : Program) (w : World) (K : PySem.W.Frag) (mg : Str → Option Value) (base : Heap) (CX : CXT) (k : Nat) (C : Addr) (m : Str) (ps : List Str) (sp : Sp) : Prop where
  ex : ∃ f fd, FnOk P w K mg base CX k f fd ps sp ∧ Meth K C m f ∧ Binds K fd ps []
  cl : Cls K C
structure CalleeI (P : Program) (w : World) (K : PySem.W.Frag) (mg : Str → Option Value) (base : Heap) (CX : CXT) (k : Nat) (x : Str) (C : Addr) (ps : List Str) (sp : Sp) : Prop where
  ex : ∃ f fd, FnOk P w K mg base CX k f fd ps sp ∧ Mk K C f ∧ Binds K fd ps []
  at_ : mg x = some (.ref C)
section
variable {X : Cx} {CX : CXT} {k : Nat} {C : Addr} {ps : List Str} {sp : Sp} {E : XK} {x m : Str} {p pos apos : Pos} {e o : Expr} {es : List Expr} {ta : TE} {t : TA}
theorem pe_callC (c : Callee X.prog X.w X.K X.mg X.base CX k x ps sp) (hr : Room k X.A) (hx : Passes CX X E) (hg : Gl X x) (ha : PA X (e :: es) t) (hdb : (x == ("__debug__" : Str)) = false := by decide)
    (he : starEach (e :: es) X.env = (false, eval e X.env) :: starEach es X.env := by rfl) (hpl : (backTo pos (starEach es X.env)).any (·.1) = false := by rfl) : PE X (.Call (.Name x p) (e :: es) [] pos) (tCall sp [] E t) := by
  obtain ⟨f, fd, F, hm, hk, hb⟩ := c.ex
  exact pe_call F hr hg hm hk hb .nil hx ha hdb he hpl
theorem pe_methC {pl : Sem Bool} (c : CalleeM X.prog X.w X.K X.mg X.base CX k C m ps sp) (hr : Room k X.A) (hx : Passes CX X E) (ho : PE X o ta)
    (ht : eval (.Call (.Attribute o m apos) [] [] pos) X.env = (do
      let ov ← eval o X.env
      standAt apos.atName
      let (f, first) ← holding [ov] (getMethod ov m pl)
      callWith pos f first (backTo pos (starEach [] X.env)) (backToKw pos (keywordEach [] X.env))) := by rfl) :
    PE X (.Call (.Attribute o m apos) [] [] pos) (tMeth C m sp [] E ta tNil) := by
  obtain ⟨f, fd, F, hm, hb⟩ := c.ex
  exact pe_meth0 ho c.cl hm F hr hb .nil hx ht
theorem op_addU : OpR X (binaryOp .Add) (fun x y H Q => rI0 (fun i j => .int (i + j)) x y H Q ∨ rCat x y H Q) := op_add.or op_cat
theorem op_eqU (hu : X.A.units + 64 < cLine) : OpR X (compareOp .Eq) (fun x y H Q => rEq x y H Q ∨ rEqD x y H Q) := op_eq.or (op_eqD hu)
theorem op_neU (hu : X.A.units + 64 < cLine) : OpR X (compareOp .NotEq) (fun x y H Q => rNe x y H Q ∨ rNeD x y H Q) := op_ne.or (op_neD hu)
noncomputable def iSeq (K : PySem.W.Frag) (tl : TE) : TI := fun σ H R => tl σ H fun x H1 => ∃ a, x = .ref a ∧ (((∃ xs, SqL K H1 a xs) ∧ R (Itl K a) H1) ∨ ((∃ xs, SqT K H1 a xs) ∧ R (Itt K a) H1))
theorem pi_seq {tg l : Expr} {tl : TE} (hl : PE X l tl) : PI X tg l (iSeq X.K tl) := by
  intro pins s σ H R I h
  refine thn (hl pins s σ H _ I h) fun v s1 ⟨x, H1, I1, r1, q1⟩ => ?_
  obtain ⟨a, e, q⟩ := q1
  subst e
  cases r1
  rcases q with ⟨⟨xs, hq⟩, q⟩ | ⟨⟨xs, hq⟩, q⟩
  · obtain ⟨its, rv, pl, hz⟩ := I1.list hq
    refine wpAny_pyIter_list pl.isList ⟨s1.heap.objs.size, [s1.heap.objs.size], _, _, H1, rfl, I1.kept (t' := s1.toks) fun b o e => Heap.get?_push_of_some _ e, turn_list a _, ⟨_, Heap.get?_push_size _ rfl, rfl, rfl⟩, fun b hb => ?_, q⟩
    have e : b = s1.heap.objs.size := by simpa using hb
    subst e
    exact I1.fpOk (Nat.le_refl _) (I1.hok.fresh (Nat.le_refl _))
  · obtain ⟨its, rv, pl, hz⟩ := I1.tuple hq
    refine wpAny_pyIter_tuple (show s1.heap.IsTuple a its.toArray from pl) ⟨s1.heap.objs.size, [s1.heap.objs.size], _, _, H1, rfl, I1.kept (t' := s1.toks) fun b o e => Heap.get?_push_of_some _ e, turn_tuple a _, ⟨_, Heap.get?_push_size _ rfl, rfl, rfl⟩, fun b hb => ?_, q⟩
    have e : b = s1.heap.objs.size := by simpa using hb
    subst e
    exact I1.fpOk (Nat.le_refl _) (I1.hok.fresh (Nat.le_refl _))
end
section
variable {σ σ' : St} {H : Hp} {Q : VK} {D : Ends}
theorem rd_var {i : Nat} (q : ∃ v, σ[i]? = some (some v) ∧ Q v H) : tVar i σ H Q := q
theorem rd_c {v : V} (q : Q v H) : tC v σ H Q := q
theorem rd_op {r : R2} {ta tb : TE} (q : ta σ H fun x H1 => tb σ H1 fun y H2 => r x y H2 Q) : tOp r ta tb σ H Q := q
theorem rd_i0 {g : Int → Int → V} {i j : Int} (q : Q (g i j) H) : rI0 g (.int i) (.int j) H Q := ⟨i, j, rfl, rfl, q⟩
theorem rd_i {C : Int → Int → Prop} {g : Int → Int → V} {i j : Int} (c : C i j) (q : Q (g i j) H) : rI C g (.int i) (.int j) H Q := ⟨i, j, rfl, rfl, c, q⟩
theorem rd_addI {i j : Int} (q : Q (.int (i + j)) H) : rI0 (fun i j => .int (i + j)) (.int i) (.int j) H Q ∨ rCat (.int i) (.int j) H Q := .inl ⟨i, j, rfl, rfl, q⟩
theorem rd_eqI {i j : Int} (q : Q (.bl (decide (i = j))) H) : rEq (.int i) (.int j) H Q ∨ rEqD (.int i) (.int j) H Q := by
  refine .inl ⟨rfl, ?_⟩
  have e : decide (V.int i = V.int j) = decide (i = j) := by
    by_cases h : i = j
    · subst h; simp
    · simp [h]
  rw [e]; exact q
theorem rd_neI {i j : Int} (q : Q (.bl (!decide (i = j))) H) : rNe (.int i) (.int j) H Q ∨ rNeD (.int i) (.int j) H Q := by
  refine .inl ⟨rfl, ?_⟩
  have e : decide (V.int i = V.int j) = decide (i = j) := by
    by_cases h : i = j
    · subst h; simp
    · simp [h]
  rw [e]; exact q
theorem rd_ixL {K : PySem.W.Frag} {p : Addr} {xs : List V} {i : Int} {v : V} (h : SqL K H p xs) (a : atI xs i = some v) (q : Q v H) : rIx K (.ref p) (.int i) H Q := .inl ⟨p, xs, i, v, rfl, rfl, h, a, q⟩
theorem rd_ixT {K : PySem.W.Frag} {p : Addr} {xs : List V} {i : Int} {v : V} (h : SqT K H p xs) (a : atI xs i = some v) (q : Q v H) : rIx K (.ref p) (.int i) H Q := .inr (.inl ⟨p, xs, i, v, rfl, rfl, h, a, q⟩)
theorem rd_test {t : TE} {Q : Bool → Hp → Prop} (q : t σ H fun x H' => ∃ k, x = .bl k ∧ Q k H') : tTest t σ H Q := q
theorem rd_nil {Q : List V → Hp → Prop} (q : Q [] H) : tNil σ H Q := q
theorem rd_cons {ta : TE} {tr : TA} {Q : List V → Hp → Prop} (q : ta σ H fun x H1 => tr σ H1 fun xs H2 => Q (x :: xs) H2) : tCons ta tr σ H Q := q
theorem rd_cb {r : List V → Hp → VK → Prop} {t : TA} (q : t σ H fun vs H1 => r vs H1 Q) : tCB r t σ H Q := q
theorem rd_call {sp : Sp} {E : XK} {t : TA} (q : t σ H fun vs H1 => sp (vs ++ []) H1 Q E) : tCall sp [] E t σ H Q := q
theorem rd_seq {t u : TS} (q : t { D with nx := u D } σ H) : tSeq t u D σ H := q
theorem rd_asg {te : TE} {i : Nat} (q : te σ H fun x H1 => D.nx (σ.set i (some x)) H1) : tAsg te (gName i) D σ H := q
theorem rd_ret {te : TE} (q : te σ H D.rt) : tRet te D σ H := q
theorem rd_drop {te : TE} (q : te σ H fun _ H1 => D.nx σ H1) : tDrop te D σ H := q
theorem rd_ifs {c : TT} {t u : TS} (q : c σ H fun b H1 => if b = true then t D σ H1 else u D σ H1) : tIfS c t u D σ H := q
theorem rd_next (q : D.nx σ H) : tNext D σ H := q
end
theorem atI_getD {α : Type} {xs : List α} {i : Int} (d : α) (h0 : 0 ≤ i) (h1 : i < xs.length) : atI xs i = some (xs.getD i.toNat d) := by
  have e : xs[i.toNat]? = some (xs.getD i.toNat d) := by
    have : i.toNat < xs.length := by omega
    rw [List.getD_eq_getElem?_getD, List.getElem?_eq_getElem this]
    rfl
  have := atI_nat e
  rwa [Int.toNat_of_nonneg h0] at this
end L2
namespace L2
open PySem PySem.Spec PyProof.Rows
section
variable {σ σ' : St} {H : Hp} {Q : VK} {D : Ends}
theorem rd_tb {t : TE} {P : Bool → Hp → Prop} (q : t σ H fun x H' => ∃ k, x = .bl k ∧ P k H') : tB t σ H P := q
theorem rd_and {t u : TT} {P : Bool → Hp → Prop} (q : t σ H fun c H1 => if c = true then u σ H1 P else P false H1) : tAnd t u σ H P := q
theorem rd_or {t u : TT} {P : Bool → Hp → Prop} (q : t σ H fun c H1 => if c = true then P true H1 else u σ H1 P) : tOr t u σ H P := q
theorem rd_not {t : TT} {P : Bool → Hp → Prop} (q : t σ H fun c H1 => P (!c) H1) : tNot t σ H P := q
theorem rd_andV {ta tb : TE} (q : ta σ H fun x H1 => ∃ c, x = .bl c ∧ if c = true then tb σ H1 Q else Q (.bl false) H1) : tAndV ta tb σ H Q := q
theorem rd_notV {ta : TE} (q : ta σ H fun x H1 => ∃ c, x = .bl c ∧ Q (.bl (!c)) H1) : tNotV ta σ H Q := q
theorem rd_blE {b : Bool} {P : Bool → Prop} (q : P b) : ∃ k, V.bl b = .bl k ∧ P k := ⟨b, rfl, q⟩
theorem rd_un {r : V → Hp → VK → Prop} {ta : TE} (q : ta σ H fun x H1 => r x H1 Q) : tUn r ta σ H Q := q
theorem rd_chain {r r' : R2} {ta tb tc : TE} (q : ta σ H fun x H1 => tb σ H1 fun y H2 => r x y H2 fun z H3 => ∃ k, z = .bl k ∧ (if k = true then tc σ H3 fun w' H4 => r' y w' H4 Q else Q (.bl false) H3)) : tChain r r' ta tb tc σ H Q := q
theorem rd_nx {f b c : St → Hp → Prop} {r : VK} (q : f σ H) : Ends.nx ⟨f, r, b, c⟩ σ H := q
theorem rd_rt {f b c : St → Hp → Prop} {r : VK} {v : V} (q : r v H) : Ends.rt ⟨f, r, b, c⟩ v H := q
theorem rd_tup {t : TA} (q : t σ H fun xs H1 => xs.length ≤ sizeLine ∧ ∀ p, H1 p = none → Q (.ref p) (upd H1 p (.tup xs))) : tTup t σ H Q := q
theorem rd_lst {t : TA} (q : t σ H fun xs H1 => xs.length ≤ sizeLine ∧ ∀ p, H1 p = none → Q (.ref p) (upd H1 p (.lst xs))) : tLst t σ H Q := q
end
section
variable {X : Cx}
theorem pe_globI {x : Str} {i : Int} {pos : Pos} (hm : ∃ t, X.mg x = some (.int i t)) (hg : Gl X x) (hd : (x == ("__debug__" : Str)) = false := by decide) : PE X (.Name x pos) (tC (.int i)) := by
  obtain ⟨t, h⟩ := hm
  exact pe_glob hg h ⟨t, rfl⟩ hd
theorem pe_tyN {x : Str} {n : String} {pos : Pos} (hm : X.mg x = none) (hv : bootBuiltins x = some (.type n)) (hg : Gl X x) (hn : x ≠ "__name__" := by decide) (hd : (x == ("__debug__" : Str)) = false := by decide) : PE X (.Name x pos) (tC (.ty n)) :=
  pe_bltn hg hm hv rfl hn hd
theorem bt_isi : bootBuiltins "isinstance" = some (.builtin "isinstance") := by decide +kernel
theorem bt_list : bootBuiltins "list" = some (.type "list") := by decide +kernel
theorem bt_tuple : bootBuiltins "tuple" = some (.type "tuple") := by decide +kernel
theorem bt_int : bootBuiltins "int" = some (.type "int") := by decide +kernel
theorem bt_bool : bootBuiltins "bool" = some (.type "bool") := by decide +kernel
end
end L2
namespace L2
theorem iteD {c A B : Prop} {d : Decidable c} (h1 : c → A) (h2 : ¬ c → B) : if @decide c d = true then A else B := by
  by_cases h : c
  · rw [decide_eq_true h, if_pos rfl]; exact h1 h
  · rw [decide_eq_false h, if_neg Bool.false_ne_true]; exact h2 h
theorem iteDN {c A B : Prop} {d : Decidable c} (h1 : ¬ c → A) (h2 : c → B) : if (!@decide c d) = true then A else B := by
  by_cases h : c
  · rw [decide_eq_true h]; exact iteF (h2 h)
  · rw [decide_eq_false h]; exact iteT (h1 h)
theorem iteB {b : Bool} {A B : Prop} (h1 : b = true → A) (h2 : b = false → B) : if b = true then A else B := by
  cases b
  · exact iteF (h2 rfl)
  · exact iteT (h1 rfl)
end L2
namespace L2
open PySem PySem.Spec PyProof.Rows
noncomputable def CompW (src : List (Option Nat)) (J : It) (g : TG) (tt : TT) (te : TE) (σ : St) (Q : VK) (p : Addr) (H1 : Hp) : Prop :=
  ∃ W : Nat → Nat → List V → St → Hp → Prop, (∃ m, W 0 m [] (inner src σ) (upd H1 p (.lst []))) ∧ ∀ i m ys σc H2, W i m ys σc H2 →
    (J.stop i H2 ∧ H2 p = some (.lst ys) ∧ Q (.ref p) H2) ∨ (J.go i H2 ∧ ys.length < sizeLine ∧ ∃ N : List V → St → Hp → Prop, (∀ zs σ' H', N zs σ' H' → ∃ m', m' < m ∧ W (i + 1) m' zs σ' H') ∧ ∀ x H3, J.yld i H2 x H3 → g x σc H3 fun σ2 H4 => tt σ2 H4 fun ok H5 =>
      if ok = true then te σ2 H5 fun y H6 => H6 p = some (.lst ys) ∧ N (ys ++ [y]) σ2 (upd H6 p (.lst (ys ++ [y]))) else N ys σ2 H5)
noncomputable def ForW (J : It) (g : TG) (tb : TS) (D : Ends) (σ : St) (H1 : Hp) : Prop :=
  ∃ W : Nat → Nat → St → Hp → Prop, (∃ m, W 0 m σ H1) ∧ ∀ i m σ H, W i m σ H →
    (J.stop i H ∧ D.nx σ H) ∨ (J.go i H ∧ ∃ N : St → Hp → Prop, (∀ σ' H', N σ' H' → ∃ m', m' < m ∧ W (i + 1) m' σ' H') ∧ ∀ x H', J.yld i H x H' → g x σ H' fun σ2 H2 => tb { D with nx := N, ct := N, bk := D.nx } σ2 H2)
section
variable {K : PySem.W.Frag} {src : List (Option Nat)} {g : TG} {tt : TT} {te tl : TE} {ta : TA} {tb : TS} {D : Ends} {Q : VK} {σ : St} {H : Hp} {st : Int}
theorem rd_compR (q : ta σ H fun vs H1 => ∃ j : Int, vs = [.int j] ∧ -(2 ^ 62) ≤ j ∧ j < 2 ^ 62 ∧ ∀ p, H1 p = none → CompW src (Itr 0 j.toNat) g tt te σ Q p H1) : tComp src (iRng1 ta) g tt te σ H Q := q
theorem rd_compS (q : tl σ H fun x H1 => ∃ a, x = .ref a ∧ (((∃ xs, SqL K H1 a xs) ∧ ∀ p, H1 p = none → CompW src (Itl K a) g tt te σ Q p H1) ∨ ((∃ xs, SqT K H1 a xs) ∧ ∀ p, H1 p = none → CompW src (Itt K a) g tt te σ Q p H1))) :
    tComp src (iSeq K tl) g tt te σ H Q := q
theorem rd_forR (q : ta σ H fun vs H1 => ∃ j : Int, vs = [.int j] ∧ -(2 ^ 62) ≤ j ∧ j < 2 ^ 62 ∧ ForW (Itr 0 j.toNat) g tb D σ H1) : tFor (iRng1 ta) g tb D σ H := q
theorem rd_forS (q : tl σ H fun x H1 => ∃ a, x = .ref a ∧ (((∃ xs, SqL K H1 a xs) ∧ ForW (Itl K a) g tb D σ H1) ∨ ((∃ xs, SqT K H1 a xs) ∧ ForW (Itt K a) g tb D σ H1))) : tFor (iSeq K tl) g tb D σ H := q
theorem rd_forE (q : ta σ H fun vs H1 => ∃ a, vs = [.ref a] ∧ (∃ xs, SqL K H1 a xs) ∧ ForW (Ite K a st) g tb D σ H1) : tFor (iEnum K st ta) g tb D σ H := q
theorem for_enum {a : Addr} {xs : List V} (Pv : Nat → St → Hp → Prop) (h0 : Pv 0 σ H) (hl : ∀ i σ H, i ≤ xs.length → Pv i σ H → SqL K H a xs)
    (hs : ∀ i x t σ H, xs[i]? = some x → Pv i σ H → H t = none → g (.ref t) σ (upd H t (.tup [.int (st + (i : Nat)), x])) fun σ2 H2 => tb { D with nx := Pv (i + 1), ct := Pv (i + 1), bk := D.nx } σ2 H2)
    (hd : ∀ σ H, Pv xs.length σ H → D.nx σ H) : ForW (Ite K a st) g tb D σ H := by
  refine ⟨fun i m σ H => m = xs.length - i ∧ i ≤ xs.length ∧ Pv i σ H, ⟨xs.length, by simp, Nat.zero_le _, h0⟩, ?_⟩
  rintro i m σ H ⟨rfl, hi, p⟩
  have q := hl i σ H hi p
  by_cases hlt : i < xs.length
  · refine .inr ⟨⟨xs, xs[i], q, by simp [hlt]⟩, Pv (i + 1), fun σ' H' p' => ⟨xs.length - (i + 1), by omega, rfl, hlt, p'⟩, fun v H' y => ?_⟩
    obtain ⟨t, x, rfl, ht, rfl, y⟩ := y
    exact hs i x t σ H (y xs q) p ht
  · have e : i = xs.length := by omega
    subst e
    exact .inl ⟨⟨xs, q, Nat.le_refl _⟩, hd σ H p⟩
theorem rd_gn {i : Nat} {v : V} {R : St → Hp → Prop} (q : R (σ.set i (some v)) H) : gName i v σ H R := q
theorem rd_yes {R : Bool → Hp → Prop} (q : R true H) : tYes σ H R := q
theorem rd_asgG {te : TE} {gg : TG} (q : te σ H fun x H1 => gg x σ H1 D.nx) : tAsg te gg D σ H := q
theorem rd_sub {to ti : TE} {t : TSet} {v : V} {R : St → Hp → Prop} (q : to σ H fun o H1 => ti σ H1 fun i H2 => t o i v H2 fun H3 => R σ H3) : gSub to ti t v σ H R := q
theorem rd_sfld {f : Str} {ta tv : TE} (q : tv σ H fun y H1 => ta σ H1 fun x H2 => ∃ a C dx fs, x = .ref a ∧ H2 a = some (.ins C dx fs) ∧ Cls K C ∧ NoAttr K C f ∧ fs.length < 1000 ∧ D.nx σ (upd H2 a (.ins C dx (putF f y fs)))) : sFld K ta tv f D σ H := q
theorem rd_pair {i j : Nat} {t : Addr} {x y : V} {R : St → Hp → Prop} (h : H t = some (.tup [x, y])) (q : R ((σ.set i (some x)).set j (some y)) H) : gTup K 2 (gCons (gName i) (gCons (gName j) gNil)) (.ref t) σ H R :=
  ⟨t, _, rfl, SqT.of h, rfl, _, _, rfl, _, _, rfl, rfl, q⟩
theorem rd_fld {f : Str} {ta : TE} (q : ta σ H fun x H1 => ∃ a C dx fs v, x = .ref a ∧ H1 a = some (.ins C dx fs) ∧ Cls K C ∧ NoAttr K C f ∧ fs.lookup f = some v ∧ Q v H1) : tFld K ta f σ H Q := q
theorem rd_meth {C : Addr} {m : Str} {sp : Sp} {E : XK} {ta : TE} (q : ta σ H fun x H1 => ∃ a dx fs, x = .ref a ∧ H1 a = some (.ins C dx fs) ∧ fs.lookup m = none ∧ sp (x :: ([] ++ [])) H1 Q E) : tMeth C m sp [] E ta tNil σ H Q := q
theorem rd_bm {T : String} {r : V → List V → Hp → VK → Prop} {to : TE} (q : to σ H fun x H1 => tyV K T x H1 ∧ ta σ H1 fun xs H2 => r x xs H2 Q) : tBM K T r to ta σ H Q := q
end
theorem iteNT {A B : Prop} (h : B) : if (!true) = true then A else B := iteF h
theorem iteNF {A B : Prop} (h : A) : if (!false) = true then A else B := iteT h
section
variable {K : PySem.W.Frag} {src : List (Option Nat)} {g : TG} {tt : TT} {te : TE} {tb : TS} {D : Ends} {Q : VK} {σ : St} {H : Hp} {p a : Addr}
theorem compR {lo : Int} {n : Nat} (Pv : Nat → List V → St → Hp → Prop) (hn : n ≤ 1000000) (h0 : Pv 0 [] (inner src σ) (upd H p (.lst [])))
    (hl : ∀ i ys σ H, i ≤ n → Pv i ys σ H → H p = some (.lst ys) ∧ ys.length ≤ i)
    (hs : ∀ i ys σ H, i < n → Pv i ys σ H → g (.int (lo + i)) σ H fun σ2 H4 => tt σ2 H4 fun ok H5 =>
      if ok = true then te σ2 H5 fun y H6 => H6 p = some (.lst ys) ∧ Pv (i + 1) (ys ++ [y]) σ2 (upd H6 p (.lst (ys ++ [y]))) else Pv (i + 1) ys σ2 H5)
    (hd : ∀ ys σ H, Pv n ys σ H → Q (.ref p) H) : CompW src (Itr lo n) g tt te σ Q p H := comp_range Pv hn h0 hl hs hd
theorem compL {xs : List V} (Pv : Nat → List V → St → Hp → Prop) (hn : xs.length ≤ 1000000) (h0 : Pv 0 [] (inner src σ) (upd H p (.lst [])))
    (hl : ∀ i ys σ H, i ≤ xs.length → Pv i ys σ H → H p = some (.lst ys) ∧ ys.length ≤ i ∧ SqL K H a xs)
    (hs : ∀ i x ys σ H, xs[i]? = some x → Pv i ys σ H → g x σ H fun σ2 H4 => tt σ2 H4 fun ok H5 =>
      if ok = true then te σ2 H5 fun y H6 => H6 p = some (.lst ys) ∧ Pv (i + 1) (ys ++ [y]) σ2 (upd H6 p (.lst (ys ++ [y]))) else Pv (i + 1) ys σ2 H5)
    (hd : ∀ ys σ H, Pv xs.length ys σ H → Q (.ref p) H) : CompW src (Itl K a) g tt te σ Q p H := comp_list Pv hn h0 hl hs hd
theorem forR {lo : Int} {n : Nat} (Pv : Nat → St → Hp → Prop) (h0 : Pv 0 σ H) (hs : ∀ i σ H, i < n → Pv i σ H → g (.int (lo + i)) σ H fun σ2 H2 => tb { D with nx := Pv (i + 1), ct := Pv (i + 1), bk := D.nx } σ2 H2)
    (hd : ∀ σ H, Pv n σ H → D.nx σ H) : ForW (Itr lo n) g tb D σ H := for_range Pv h0 hs hd
theorem forL {xs : List V} (Pv : Nat → St → Hp → Prop) (h0 : Pv 0 σ H) (hl : ∀ i σ H, i ≤ xs.length → Pv i σ H → SqL K H a xs)
    (hs : ∀ i x σ H, xs[i]? = some x → Pv i σ H → g x σ H fun σ2 H2 => tb { D with nx := Pv (i + 1), ct := Pv (i + 1), bk := D.nx } σ2 H2) (hd : ∀ σ H, Pv xs.length σ H → D.nx σ H) : ForW (Itl K a) g tb D σ H := for_list Pv h0 hl hs hd
theorem forT {xs : List V} (Pv : Nat → St → Hp → Prop) (h0 : Pv 0 σ H) (hl : ∀ i σ H, i ≤ xs.length → Pv i σ H → SqT K H a xs)
    (hs : ∀ i x σ H, xs[i]? = some x → Pv i σ H → g x σ H fun σ2 H2 => tb { D with nx := Pv (i + 1), ct := Pv (i + 1), bk := D.nx } σ2 H2) (hd : ∀ σ H, Pv xs.length σ H → D.nx σ H) : ForW (Itt K a) g tb D σ H := for_tup Pv h0 hl hs hd
end
section
variable {X : Cx} {K : PySem.W.Frag} {e : Expr} {f : Str} {pos : Pos} {ta : TE} {tg l : Expr} {tl : TE}
theorem ix_seqK (h : X.K = K := by rfl) : IxR X (rIx K) := h ▸ ix_seq
theorem call_len_seqK (h : X.K = K := by rfl) : CallR X (.builtin "len") (fun xs H Q => ∃ p ys, xs = [.ref p] ∧ (SqL K H p ys ∨ SqT K H p ys) ∧ Q (.int ys.length) H) := h ▸ call_len_seq
theorem call_isiK (h : X.K = K := by rfl) : CallR X (.builtin "isinstance") (rIsi K) := h ▸ call_isi
theorem call_list_ofK (h : X.K = K := by rfl) : CallR X (.type "list") (fun xs H Q => ∃ p ys, xs = [.ref p] ∧ (SqL K H p ys ∨ SqT K H p ys) ∧ ∀ l, H l = none → Q (.ref l) (upd H l (.lst ys))) := h ▸ call_list_of
theorem call_tuple_ofK (h : X.K = K := by rfl) : CallR X (.type "tuple") (fun xs H Q => ∃ p ys, xs = [.ref p] ∧ ((SqL K H p ys ∧ ∀ l, H l = none → Q (.ref l) (upd H l (.tup ys))) ∨ (SqT K H p ys ∧ Q (.ref p) H))) := h ▸ call_tuple_of
theorem pe_fldK (he : PE X e ta) (hb : attributeBase e f X.env (eval e X.env) = eval e X.env) (h : X.K = K := by rfl) : PE X (.Attribute e f pos) (tFld K ta f) := h ▸ pe_fld he hb
theorem pi_seqK (hl : PE X l tl) (h : X.K = K := by rfl) : PI X tg l (iSeq K tl) := h ▸ pi_seq hl
theorem sl_listK (h : X.K = K := by rfl) : SlR X (rSlL K) := h ▸ sl_list
end
end L2
namespace L2
open PySem
noncomputable def SuspInv (M : Model) (Γ : Ctx) (p : Pos) (t : Sem PySem.Fin) (fs : List Frame) (s : Shared) (e : End) (s' : Shared) : Prop :=
  ∃ v g₀ l₀ k₀ c₀ p₀ fs₀ s₁, Runs M (Γ.over fs) p t [] s (.susp v g₀ l₀ k₀ c₀ p₀ fs₀) s₁ ∧ (match splitAtGen fs with
    | none => e = .susp v g₀ l₀ k₀ c₀ p₀ (fs₀ ++ fs) ∧ s' = s₁
    | some (pre, (g, k, c₁, p₁), rest) => Runs M (Γ.goto c₁) p₁ (k (.yielded v)) rest (s₁.setGen g (End.susp v g₀ l₀ k₀ c₀ p₀ (fs₀ ++ pre)).genState) e s')
noncomputable def RunsInv (M : Model) (Γ : Ctx) (p : Pos) (t : Sem PySem.Fin) (fs : List Frame) (s : Shared) (e : End) (s' : Shared) : Prop :=
  match fs with
  | [] => match t with
    | .pure (.done f) => e = .ret (.ok f) ∧ s' = s
    | .pure (.again c) => Runs M (Γ.goto c) p (M.den c) [] s e s'
    | .raise x => e = .ret (.error x) ∧ s' = s
    | .rule _ k => Runs M Γ p (k ()) [] s e s'
    | .at p' k => Runs M Γ p' (k ()) [] s e s'
    | .load a _ k => ∃ o, s.heap.get? a = some o ∧ Runs M Γ p (k o) [] s e s'
    | .update a _ f k => Runs M Γ p (k ()) [] { s with heap := s.heap.update a f } e s'
    | .loadIfAlive a k => Runs M Γ p (k (s.heap.get? a)) [] s e s'
    | .point _ k => Runs M Γ p (k ()) [] s e s'
    | .alloc o k => Runs M Γ p (k s.heap.objs.size) [] { s with heap := s.heap.push o } e s'
    | .fresh k => Runs M Γ p (k s.toks) [] { s with toks := s.toks + 1 } e s'
    | .ask k => Runs M Γ p (k ⟨M.prog, M.w.params⟩) [] s e s'
    | .choose src n k => Runs M Γ p (k (M.w.draws src (s.drawn.get src) % n)) [] { s with drawn := s.drawn.bump src } e s'
    | .os q _ k => Runs M Γ p (k (Os.step s.os q).2) [] { s with os := (Os.step s.os q).1 } e s'
    | .handled own k => Runs M Γ p (k (if own then Γ.own else Γ.handled)) [] s e s'
    | .genState g k => ∃ st, s.gens[g]? = some st ∧ Runs M Γ p (k st.seen) [] s e s'
    | .stack k => Runs M Γ p (k ((Γ.code, p) :: Γ.below)) [] s e s'
    | .thread k => Runs M Γ p (k 0) [] s e s'
    | .newGen c k => Runs M Γ p (k s.gens.size) [] { s with gens := s.gens.push (.fresh c) } e s'
    | .call c h g l k => (∃ r s₁, Runs M (Γ.enter c h p) p (M.den c) [] s (.ret r) s₁ ∧ Runs M Γ p (k r) [] s₁ e s') ∨
        ∃ v g₀ l₀ k₀ c₀ p₀ fs, Runs M (Γ.enter c h p) p (M.den c) [] s (.susp v g₀ l₀ k₀ c₀ p₀ fs) s' ∧ e = .susp v g₀ l₀ k₀ c₀ p₀ (fs ++ [.ret k h g l Γ.code p []])
    | .yield v g l k => e = .susp v g l k Γ.code p [] ∧ s' = s
    | .resume g r _ k => match s.gens[g]? with
      | some (.fresh c) => match r with
        | .send .none => ∃ e₁ s₁, Runs M (Γ.wake c p) p (M.den c) [] (s.setGen g .running) e₁ s₁ ∧ Runs M Γ p (k e₁.result) [] (s₁.setGen g e₁.genState) e s'
        | .send _ => Runs M Γ p (k .justStarted) [] s e s'
        | .throw x => Runs M Γ p (k (.raised x)) [] (s.setGen g .finished) e s'
      | some (.suspended k₀ _ c₀ p₀ fs _) => ∃ e₁ s₁, Runs M (Γ.wake c₀ p) p₀ (k₀ r) fs (s.setGen g .running) e₁ s₁ ∧ Runs M Γ p (k e₁.result) [] (s₁.setGen g e₁.genState) e s'
      | some .running => Runs M Γ p (k .running) [] s e s'
      | some .finished => Runs M Γ p (k .finished) [] s e s'
      | none => False
    | _ => False
  | .ret k h g l c₁ p₁ kp :: fs => (∃ r s₁, Runs M (Γ.over (.ret k h g l c₁ p₁ kp :: fs)) p t [] s (.ret r) s₁ ∧ Runs M (Γ.goto c₁) p₁ (k r) fs s₁ e s') ∨ SuspInv M Γ p t (.ret k h g l c₁ p₁ kp :: fs) s e s'
  | .gen g k l c₁ p₁ :: fs => (∃ r s₁, Runs M (Γ.over (.gen g k l c₁ p₁ :: fs)) p t [] s (.ret r) s₁ ∧ Runs M (Γ.goto c₁) p₁ (k (End.ret r).result) fs (s₁.setGen g .finished) e s') ∨ SuspInv M Γ p t (.gen g k l c₁ p₁ :: fs) s e s'
theorem runs_inv {M : Model} {Γ : Ctx} {p : Pos} {t : Sem PySem.Fin} {fs : List Frame} {s : Shared} {e : End} {s' : Shared} (h : Runs M Γ p t fs s e s') : RunsInv M Γ p t fs s e s' := by
  have su : ∀ {F : Frame} {fs : List Frame} {e : End} {s' : Shared}, SuspInv M Γ p t (F :: fs) s e s' → RunsInv M Γ p t (F :: fs) s e s' := fun {F _ _ _} z => by
    cases F <;> exact .inr z
  cases h with
  | done => exact ⟨rfl, rfl⟩
  | raise => exact ⟨rfl, rfl⟩
  | yield => exact ⟨rfl, rfl⟩
  | again _ h => exact h
  | rule h => exact h
  | «at» h => exact h
  | load g h => exact ⟨_, g, h⟩
  | update _ h => exact h
  | loadIfAlive h => exact h
  | point h => exact h
  | alloc h => exact h
  | fresh h => exact h
  | ask h => exact h
  | choose _ h => exact h
  | os h => exact h
  | handled h => exact h
  | genState g h => exact ⟨_, g, h⟩
  | stack h => exact h
  | thread h => exact h
  | newGen h => exact h
  | call a b => exact .inl ⟨_, _, a, b⟩
  | callSusp a => exact .inr ⟨_, _, _, _, _, _, _, a, rfl⟩
  | resumeFresh g a _ b => unfold RunsInv; simp only [g]; exact ⟨_, _, a, b⟩
  | resumeSuspended g a _ b => unfold RunsInv; simp only [g]; exact ⟨_, _, a, b⟩
  | resumeJustStarted g n b =>
    unfold RunsInv
    simp only [g]
    exact b
  | resumeThrowFresh g b => unfold RunsInv; simp only [g]; exact b
  | resumeRunning g b => unfold RunsInv; simp only [g]; exact b
  | resumeFinished g b => unfold RunsInv; simp only [g]; exact b
  | segRet a b => exact .inl ⟨_, _, a, b⟩
  | segGen a b => exact .inl ⟨_, _, a, b⟩
  | segSuspOut g a => exact su ⟨_, _, _, _, _, _, _, _, a, by rw [g]; exact ⟨rfl, rfl⟩⟩
  | segSuspGen g a _ b => exact su ⟨_, _, _, _, _, _, _, _, a, by rw [g]; exact b⟩
theorem runs_det {M : Model} {Γ : Ctx} {p : Pos} {t : Sem PySem.Fin} {fs : List Frame} {s : Shared} {e : End} {s' : Shared} (h : Runs M Γ p t fs s e s') : ∀ {e2 : End} {s2 : Shared}, Runs M Γ p t fs s e2 s2 → e = e2 ∧ s' = s2 := by
  induction h with
  | done => exact fun h2 => let ⟨a, b⟩ := runs_inv h2; ⟨a.symm, b.symm⟩
  | raise => exact fun h2 => let ⟨a, b⟩ := runs_inv h2; ⟨a.symm, b.symm⟩
  | yield => exact fun h2 => let ⟨a, b⟩ := runs_inv h2; ⟨a.symm, b.symm⟩
  | again _ _ ih => exact fun h2 => ih (runs_inv h2)
  | rule _ ih => exact fun h2 => ih (runs_inv h2)
  | «at» _ ih => exact fun h2 => ih (runs_inv h2)
  | load g _ ih => intro _ _ h2; obtain ⟨o, g2, h⟩ := runs_inv h2; rw [g] at g2; cases g2; exact ih h
  | update _ _ ih => exact fun h2 => ih (runs_inv h2)
  | loadIfAlive _ ih => exact fun h2 => ih (runs_inv h2)
  | point _ ih => exact fun h2 => ih (runs_inv h2)
  | alloc _ ih => exact fun h2 => ih (runs_inv h2)
  | fresh _ ih => exact fun h2 => ih (runs_inv h2)
  | ask _ ih => exact fun h2 => ih (runs_inv h2)
  | choose _ _ ih => exact fun h2 => ih (runs_inv h2)
  | os _ ih => exact fun h2 => ih (runs_inv h2)
  | handled _ ih => exact fun h2 => ih (runs_inv h2)
  | genState g _ ih => intro _ _ h2; obtain ⟨o, g2, h⟩ := runs_inv h2; rw [g] at g2; cases g2; exact ih h
  | stack _ ih => exact fun h2 => ih (runs_inv h2)
  | thread _ ih => exact fun h2 => ih (runs_inv h2)
  | newGen _ ih => exact fun h2 => ih (runs_inv h2)
  | call _ _ ih1 ih2 =>
    intro _ _ h2
    rcases runs_inv h2 with ⟨r, s1, a, b⟩ | ⟨_, _, _, _, _, _, _, a, _⟩
    · obtain ⟨e1, rfl⟩ := ih1 a; cases e1; exact ih2 b
    · cases (ih1 a).1
  | callSusp _ ih =>
    intro _ _ h2
    rcases runs_inv h2 with ⟨r, s1, a, b⟩ | ⟨_, _, _, _, _, _, _, a, rfl⟩
    · cases (ih a).1
    · obtain ⟨e1, rfl⟩ := ih a; cases e1; exact ⟨rfl, rfl⟩
  | resumeFresh g _ _ _ ih1 ih2 =>
    intro _ _ h2
    have k := runs_inv h2
    unfold RunsInv at k
    simp only [g] at k
    obtain ⟨_, _, a, b⟩ := k
    obtain ⟨rfl, rfl⟩ := ih1 a
    exact ih2 b
  | resumeSuspended g _ _ _ ih1 ih2 =>
    intro _ _ h2
    have k := runs_inv h2
    unfold RunsInv at k
    simp only [g] at k
    obtain ⟨_, _, a, b⟩ := k
    obtain ⟨rfl, rfl⟩ := ih1 a
    exact ih2 b
  | resumeJustStarted g n _ ih =>
    intro _ _ h2
    have k := runs_inv h2
    unfold RunsInv at k
    simp only [g] at k
    exact ih k
  | resumeThrowFresh g _ ih => intro _ _ h2; have k := runs_inv h2; unfold RunsInv at k; simp only [g] at k; exact ih k
  | resumeRunning g _ ih => intro _ _ h2; have k := runs_inv h2; unfold RunsInv at k; simp only [g] at k; exact ih k
  | resumeFinished g _ ih => intro _ _ h2; have k := runs_inv h2; unfold RunsInv at k; simp only [g] at k; exact ih k
  | segRet _ _ ih1 ih2 =>
    intro _ _ h2
    rcases runs_inv h2 with ⟨r, s1, a, b⟩ | ⟨_, _, _, _, _, _, _, _, a, _⟩
    · obtain ⟨e1, rfl⟩ := ih1 a; cases e1; exact ih2 b
    · cases (ih1 a).1
  | segGen _ _ ih1 ih2 =>
    intro _ _ h2
    rcases runs_inv h2 with ⟨r, s1, a, b⟩ | ⟨_, _, _, _, _, _, _, _, a, _⟩
    · obtain ⟨e1, rfl⟩ := ih1 a; cases e1; exact ih2 b
    · cases (ih1 a).1
  | @segSuspOut Γ p t F fs s v g₀ l₀ k₀ c₀ p₀ fs₀ s' g _ ih =>
    intro e2 s2 h2
    have fin : SuspInv M Γ p t (F :: fs) s e2 s2 → End.susp v g₀ l₀ k₀ c₀ p₀ (fs₀ ++ F :: fs) = e2 ∧ s' = s2 := fun ⟨_, _, _, _, _, _, _, _, a, b⟩ => by
      obtain ⟨e1, rfl⟩ := ih a
      cases e1
      rw [g] at b
      exact ⟨b.1.symm, b.2.symm⟩
    cases F <;> (rcases runs_inv h2 with ⟨r, s1, a, b⟩ | z; (· cases (ih a).1); (· exact fin z))
  | @segSuspGen Γ p t F fs pre gg k c₁ p₁ rest s v g₀ l₀ k₀ c₀ p₀ fs₀ s₁ e s' g _ _ _ ih1 ih2 =>
    intro e2 s2 h2
    have fin : SuspInv M Γ p t (F :: fs) s e2 s2 → e = e2 ∧ s' = s2 := fun ⟨_, _, _, _, _, _, _, _, a, b⟩ => by
      obtain ⟨e1, rfl⟩ := ih1 a
      cases e1
      rw [g] at b
      exact ih2 b
    cases F <;> (rcases runs_inv h2 with ⟨r, s1, a, b⟩ | z; (· cases (ih1 a).1); (· exact fin z))
theorem wakes_det {M : Model} {Γ : Ctx} {p : Pos} {g : Nat} {r : Resume} {s : Shared} {x y : GenResult} {s1 s2 : Shared} (h : Wakes M Γ p g r s x s1) (k : Wakes M Γ p g r s y s2) : x = y ∧ s1 = s2 := by
  unfold Wakes at h k
  split at h
  · exact h.elim
  · rename_i e
    rw [e] at k
    split at h
    · obtain ⟨e1, z1, a, _, rfl, rfl⟩ := h
      obtain ⟨e2, z2, b, _, rfl, rfl⟩ := k
      obtain ⟨rfl, rfl⟩ := runs_det a b
      exact ⟨rfl, rfl⟩
    · rename_i hn
      dsimp only at k
      split at k
      · rename_i heq
        cases heq
        exact (hn rfl).elim
      · exact ⟨h.1.trans k.1.symm, h.2.trans k.2.symm⟩
      · rename_i heq
        cases heq
    · exact ⟨h.1.trans k.1.symm, h.2.trans k.2.symm⟩
  · rename_i e
    rw [e] at k
    obtain ⟨e1, z1, a, _, rfl, rfl⟩ := h
    obtain ⟨e2, z2, b, _, rfl, rfl⟩ := k
    obtain ⟨rfl, rfl⟩ := runs_det a b
    exact ⟨rfl, rfl⟩
  · rename_i e
    rw [e] at k
    exact ⟨h.1.trans k.1.symm, h.2.trans k.2.symm⟩
  · rename_i e
    rw [e] at k
    exact ⟨h.1.trans k.1.symm, h.2.trans k.2.symm⟩
open Sem in
theorem wp_and {α : Type} {M : Model} {Γ : Ctx} (t : Sem α) {Q1 Q2 : α → Pos → Shared → Prop} {E1 E2 : Value → Pos → Shared → Prop} : ∀ (p : Pos) (s : Shared), wp M Γ t Q1 E1 p s → wp M Γ t Q2 E2 p s → wp M Γ t (fun a p s => Q1 a p s ∧ Q2 a p s) (fun e p s => E1 e p s ∧ E2 e p s) p s := by
  induction t with
  | pure a => exact fun p s h k => ⟨h, k⟩
  | raise e => exact fun p s h k => ⟨h, k⟩
  | unsupported | finish | yield | fork | await | register => exact fun p s h k => h
  | rule _ k ih | «at» _ k ih | alloc _ k ih | loadIfAlive _ k ih | point _ k ih | fresh k ih | ask k ih | os _ _ k ih | handled _ k ih | newGen _ k ih | stack k ih | thread k ih => exact fun p s h k => ih _ _ _ h k
  | load a _ k ih =>
    intro p s h1 h2
    obtain ⟨o, ho, h⟩ := h1
    obtain ⟨o2, ho2, k2⟩ := h2
    have e : o = o2 := Option.some.inj (ho.symm.trans ho2)
    subst e
    exact ⟨o, ho, ih _ _ _ h k2⟩
  | genState g k ih =>
    intro p s h1 h2
    obtain ⟨o, ho, h⟩ := h1
    obtain ⟨o2, ho2, k2⟩ := h2
    have e : o = o2 := Option.some.inj (ho.symm.trans ho2)
    subst e
    exact ⟨o, ho, ih _ _ _ h k2⟩
  | update a _ f k ih => exact fun p s ⟨ha, h⟩ ⟨_, k2⟩ => ⟨ha, ih _ _ _ h k2⟩
  | choose _ _ k ih => exact fun p s ⟨ha, h⟩ ⟨_, k2⟩ => ⟨ha, ih _ _ _ h k2⟩
  | call c h g l k ih =>
    intro p s h1 h2
    obtain ⟨r, s', hr, h⟩ := h1
    obtain ⟨r2, s2, hr2, k2⟩ := h2
    obtain ⟨e1, rfl⟩ := runs_det hr hr2
    cases e1
    exact ⟨r, s', hr, ih _ _ _ h k2⟩
  | resume g r l k ih =>
    intro p s h1 h2
    obtain ⟨r, s', hr, h⟩ := h1
    obtain ⟨r2, s2, hr2, k2⟩ := h2
    obtain ⟨rfl, rfl⟩ := wakes_det hr hr2
    exact ⟨r, s', hr, ih _ _ _ h k2⟩
theorem wpAny_and {α : Type} {M : Model} {A : Around} {t : Sem α} {Q1 Q2 : α → Shared → Prop} {E1 E2 : Value → Shared → Prop} {s : Shared} (h : wpAny M A t Q1 E1 s) (k : wpAny M A t Q2 E2 s) : wpAny M A t (fun a s => Q1 a s ∧ Q2 a s) (fun e s => E1 e s ∧ E2 e s) s := fun Γ p hΓ => wp_and t p s (h Γ p hΓ) (k Γ p hΓ)
end L2
namespace L2
open PySem
noncomputable def CtxN (h : Heap) (e : Addr) : Prop := ∃ oe vs, h.get? e = some oe ∧ oe.data = .fields vs ∧ vs[2]? = some .none
theorem CtxN.set {h : Heap} {e a : Addr} {i : Nat} {v : Value} (c : CtxN h e) (n : a ≠ e ∨ i ≠ 2) : CtxN (h.update a (Obj.mapFields (·.setIfInBounds i v))) e := by
  obtain ⟨oe, vs, h1, h2, h3⟩ := c
  by_cases z : a = e
  · subst z
    refine ⟨_, _, Heap.get?_update_self _ h1 (Obj.isFreed_of_fields (Obj.data_mapFields h2 _)), Obj.data_mapFields h2 _, ?_⟩
    rw [Array.getElem?_setIfInBounds_ne (n.elim (fun q => absurd rfl q) id)]
    exact h3
  · exact ⟨oe, vs, (Heap.get?_update_other _ _ z).trans h1, h2, h3⟩
theorem CtxN.push {h : Heap} {e : Addr} {o : Obj} (c : CtxN h e) : CtxN (h.push o) e :=
  let ⟨oe, vs, h1, h2, h3⟩ := c; ⟨oe, vs, Heap.get?_push_of_some _ h1, h2, h3⟩
section
variable {M : Model} {A : Around} {s : Shared}
theorem ctx_flight {base : Heap} {e : Addr} {cls a0 fl : Value} (ht : s.heap.TracedAtW base e cls a0 fl) (c : CtxN s.heap e) : wpAny M A (setFlight (.ref e) none) (fun _ s' => CtxN s'.heap e) (fun _ _ => True) s := by
  obtain ⟨oe, vs, T, oT, ts, he, _, hd, h1, _, hTe, hT, hdT, h3⟩ := ht
  unfold setFlight; apply wpAny_bind; apply wpAny_field he hd h1
  rw [if_pos (by simp)]
  exact wpAny_setField hT hdT (Array.getElem?_eq_some_iff.mp h3).1 (c.set (.inl hTe))
theorem ctx_note {base : Heap} {env : Env} {outer : List Env} {L e : Addr} {cls a0 : Value} (hfr : A.frames = some (env :: outer)) (hf : env.frame = some L) (hfl : Heap.FlyingW base (env :: outer) e cls a0 s.heap) (c : CtxN s.heap e) :
    wpAny M A (noteFrame (.ref e) env) (fun _ s' => CtxN s'.heap e) (fun _ _ => True) s := by
  obtain ⟨_, hen, hl, oe, vs, T, oT, ts, he, _, hd, h1, hnT, hTe, hT, hdT, h3⟩ := hfl
  have hene : e ∉ (env :: outer).filterMap (·.frame) := fun hm => by obtain ⟨_, o, ho, hnf⟩ := hl.mem hm; rw [he] at ho; cases ho; exact hnf vs hd
  unfold noteFrame; simp only [hf]; apply wpAny_bind; apply wpAny_field he hd h1
  rw [if_pos (by simp)]; apply wpAny_bind; apply wpAny_field hT hdT h3
  rw [if_neg (by simp [rawInt])]; apply wpAny_bind; apply wpAny_setField hT hdT (Array.getElem?_eq_some_iff.mp h3).1
  have c1 := c.set (h := s.heap) (a := T) (i := 3) (v := Value.none) (.inl hTe)
  have hl1 : (s.heap.update T (Obj.mapFields (·.setIfInBounds 3 Value.none))).FunFrames base (env :: outer) := hl.of_keeps fun b o hb hnf => ⟨o, (Heap.get?_update_other _ _ (fun q => by rw [← q, hT] at hb; cases hb; exact hnf ts hdT)).trans hb, rfl⟩
  have he1 : (s.heap.update T (Obj.mapFields (·.setIfInBounds 3 Value.none))).get? e = some oe := (Heap.get?_update_other _ _ hTe).trans he
  generalize s.heap.update T (Obj.mapFields (·.setIfInBounds 3 Value.none)) = h1' at c1 hl1 he1
  apply wpAny_bind; apply wpAny_frameOf_fun hfr hl1 hf; intro h2 hs2
  apply wpAny_bind; apply wpAny_entryPlaceOf; intro pl hpl
  unfold EntryCells.newEntry newFields
  refine wpAny_bind (wpAny_newObj_type ?_ (hpl.sizeOk5 _ _ _ _ _))
  have e2 := hs2.2.1 e hene
  have he2 : h2.get? e = some oe := e2.trans he1
  have c2 : CtxN h2 e := by obtain ⟨o, ws, q1, q2, q3⟩ := c1; exact ⟨o, ws, e2.trans q1, q2, q3⟩
  exact wpAny_setField (Heap.get?_push_of_some _ he2) hd (Array.getElem?_eq_some_iff.mp h1).1 (c2.push.set (.inr (by decide)))
theorem ctx_leaving {base : Heap} {env : Env} {outer : List Env} {L e : Addr} {cls a0 : Value} (hfr : A.frames = some (env :: outer)) (hf : env.frame = some L) (hfl : Heap.FlyingW base (env :: outer) e cls a0 s.heap) (c : CtxN s.heap e) :
    wpAny M A (leaving env (.ref e)) (fun _ s' => CtxN s'.heap e) (fun _ _ => True) s := by
  have a := wpAny_looks_onW (M := M) (Q := fun _ s' => ∃ h', s' = { s with heap := h' } ∧ Heap.HeldW base (env :: outer) e cls a0 L h') (E := fun _ _ => False) hfr hf hfl fun h' x _ => ⟨h', rfl, x⟩
  unfold leaving
  refine wpAny_bind (wpAny_mono (wpAny_and a (ctx_note hfr hf hfl c)) (fun _ s' q => ?_) (fun _ _ q => q.1.elim))
  obtain ⟨⟨h', rfl, x⟩, c'⟩ := q
  exact ctx_flight x.2.2.2 c'
theorem ctx_first {base : Heap} {env : Env} {outer : List Env} {L e : Addr} {oe : Obj} {vs : Array Value} (hfr : A.frames = some (env :: outer)) (hf : env.frame = some L) (hl : s.heap.FunFrames base (env :: outer)) (he : s.heap.get? e = some oe) (hd : oe.data = .fields vs) (h1 : vs[1]? = some .none) (c : CtxN s.heap e) :
    wpAny M A (leaving env (.ref e)) (fun _ s' => CtxN s'.heap e) (fun _ _ => True) s := by
  have hene : e ∉ (env :: outer).filterMap (·.frame) := fun hm => by obtain ⟨_, o, ho, hnf⟩ := hl.mem hm; rw [he] at ho; cases ho; exact hnf vs hd
  have sz := (Array.getElem?_eq_some_iff.mp h1).1
  unfold leaving noteFrame; simp only [hf]; apply wpAny_bind; apply wpAny_bind; apply wpAny_field he hd h1
  rw [if_neg (by decide)]; apply wpAny_bind; apply wpAny_frameOf_fun hfr hl hf; intro h2 hs2
  apply wpAny_bind; apply wpAny_entryPlaceOf; intro pl hpl
  unfold EntryCells.newEntry newFields
  refine wpAny_bind (wpAny_newObj_type ?_ (hpl.sizeOk5 _ _ _ _ _))
  have e2 := hs2.2.1 e hene
  have he2 : h2.get? e = some oe := e2.trans he
  have c2 : CtxN h2 e := by obtain ⟨o, ws, q1, q2, q3⟩ := c; exact ⟨o, ws, e2.trans q1, q2, q3⟩
  have ne : h2.objs.size ≠ e := Nat.ne_of_gt (Heap.lt_size he2)
  apply wpAny_setField (Heap.get?_push_of_some _ he2) hd sz
  have hd3 := Obj.data_mapFields hd (·.setIfInBounds 1 (Value.ref h2.objs.size))
  unfold setFlight; apply wpAny_bind
  refine wpAny_field (Heap.get?_update_self _ (Heap.get?_push_of_some _ he2) (Obj.isFreed_of_fields hd3)) hd3 (x := .ref h2.objs.size) (by simp [sz]) ?_
  rw [if_pos (by simp)]
  exact wpAny_setField ((Heap.get?_update_other _ _ (Ne.symm ne)).trans (Heap.get?_push_size h2 rfl)) rfl (by simp only [List.size_toArray, List.length_append, List.length_cons, List.length_nil] <;> omega) ((c2.push.set (.inr (by decide))).set (.inl ne))
variable {E : Value → Shared → Prop} {Q : Unit → Shared → Prop}
theorem leaves_onX {base : Heap} {env : Env} {outer : List Env} {L e : Addr} {cls a0 : Value} (hfr : A.frames = some (env :: outer)) (hf : env.frame = some L) (hfl : Heap.FlyingW base (env :: outer) e cls a0 s.heap) (c : CtxN s.heap e)
    (hQ : ∀ h', Heap.FlyingW base outer e cls a0 h' → s.heap.UpToSlots h' → CtxN h' e → Q () { s with heap := h' }) : wpAny M A (leaving env (.ref e)) Q E s := by
  have a := wpAny_leaves_onW (M := M) (Q := fun _ s' => ∃ h', s' = { s with heap := h' } ∧ Heap.FlyingW base outer e cls a0 h' ∧ s.heap.UpToSlots h') (E := fun _ _ => False) hfr hf hfl fun h' x y => ⟨h', rfl, x, y⟩
  refine wpAny_mono (wpAny_and a (ctx_leaving hfr hf hfl c)) (fun _ s' q => ?_) (fun _ _ q => q.1.elim)
  obtain ⟨⟨h', rfl, x, y⟩, c'⟩ := q
  exact hQ h' x y c'
theorem looks_onX {base : Heap} {env : Env} {outer : List Env} {L e : Addr} {cls a0 : Value} (hfr : A.frames = some (env :: outer)) (hf : env.frame = some L) (hfl : Heap.FlyingW base (env :: outer) e cls a0 s.heap) (c : CtxN s.heap e)
    (hQ : ∀ h', Heap.HeldW base (env :: outer) e cls a0 L h' → s.heap.UpToSlots h' → CtxN h' e → Q () { s with heap := h' }) : wpAny M A (noteFrame (.ref e) env) Q E s := by
  have a := wpAny_looks_onW (M := M) (Q := fun _ s' => ∃ h', s' = { s with heap := h' } ∧ Heap.HeldW base (env :: outer) e cls a0 L h' ∧ s.heap.UpToSlots h') (E := fun _ _ => False) hfr hf hfl fun h' x y => ⟨h', rfl, x, y⟩
  refine wpAny_mono (wpAny_and a (ctx_note hfr hf hfl c)) (fun _ s' q => ?_) (fun _ _ q => q.1.elim)
  obtain ⟨⟨h', rfl, x, y⟩, c'⟩ := q
  exact hQ h' x y c'
theorem landsX {base : Heap} {l : List Env} {e L : Addr} {cls a0 : Value} (hh : Heap.HeldW base l e cls a0 L s.heap) (c : CtxN s.heap e) (hQ : ∀ h', Heap.FlyingW base l e cls a0 h' → s.heap.UpToSlots h' → CtxN h' e → Q () { s with heap := h' }) : wpAny M A (setFlight (.ref e) none) Q E s := by
  have a := wpAny_landsW (M := M) (A := A) (Q := fun _ s' => ∃ h', s' = { s with heap := h' } ∧ Heap.FlyingW base l e cls a0 h' ∧ s.heap.UpToSlots h') (E := fun _ _ => False) hh fun h' x y => ⟨h', rfl, x, y⟩
  refine wpAny_mono (wpAny_and a (ctx_flight hh.2.2.2 c)) (fun _ s' q => ?_) (fun _ _ q => q.1.elim)
  obtain ⟨⟨h', rfl, x, y⟩, c'⟩ := q
  exact hQ h' x y c'
theorem lands_againX {base : Heap} {l : List Env} {e : Addr} {cls a0 : Value} (hh : Heap.FlyingW base l e cls a0 s.heap) (c : CtxN s.heap e) (hQ : ∀ h', Heap.FlyingW base l e cls a0 h' → s.heap.UpToSlots h' → CtxN h' e → Q () { s with heap := h' }) : wpAny M A (setFlight (.ref e) none) Q E s := by
  have a := PyProof.Rows.lands_againW (M := M) (A := A) (Q := fun _ s' => ∃ h', s' = { s with heap := h' } ∧ Heap.FlyingW base l e cls a0 h' ∧ s.heap.UpToSlots h') (E := fun _ _ => False) hh fun h' x y => ⟨h', rfl, x, y⟩
  refine wpAny_mono (wpAny_and a (ctx_flight hh.2.2.2.at c)) (fun _ s' q => ?_) (fun _ _ q => q.1.elim)
  obtain ⟨⟨h', rfl, x, y⟩, c'⟩ := q
  exact hQ h' x y c'
end
end L2
namespace L2
open PySem
section
variable {prog : Program} {w : World} {A : Around} {E : Value → Shared → Prop} {s : Shared} {env : Env}
variable {nm q : Str} {C N : Addr} {bs bm : List Value} {hdct : Bool} {sn : List Str} {sub : List Value} {ab : Bool} {col : Option Bool} {dd : Option Addr} {k0 k1 k2 k3 k5 : Option Value} {newId : String}
theorem unchain_entry : entryFor table "proto.unchain" = some Builtin.«proto.unchain» := entryFor_of_fast (by kernel_rfl)
theorem unchain_plain : plainId "proto.unchain" = true := by decide +kernel
theorem raise_from_none {x cz : Sem Value} {h0 : Addr} {Q : Flow → Shared → Prop} (hbase : bm.contains (.type "BaseException") = true) (hh : A.handled = some (.ref h0)) (hc : ∀ (Q : Value → Shared → Prop) (s : Shared), Q .none s → wpAny (model prog w) A cz Q E s)
    (h : wpAny (model prog w) A x (fun v s1 => ∃ e t, v = .ref e ∧ s1.heap.get? C = some (excClassObj nm q C N bs bm hdct sn sub ab col dd k0 k1 k2 k3 k5 newId) ∧ s1.heap.get? e = some { cls := .ref C, data := .fields #[.ref t, .none, .none, .none, .bool false, .none] } ∧ h0 ≠ e ∧ CtxN s1.heap h0 ∧
      ∀ h', h'.get? e = some { cls := .ref C, data := .fields #[.ref t, .none, .ref h0, .none, .bool true, .none] } → (∀ b, b ≠ e → h'.get? b = s1.heap.get? b) → E (.ref e) { s1 with heap := h' }) E s) :
    wpAny (model prog w) A (raiseStmt env (some x) (some cz)) Q E s := by
  have hcB : (Value.ref C :: bm).contains (.type "BaseException") = true := by rw [List.contains_cons, hbase, Bool.or_true]
  unfold raiseStmt
  apply wpAny_bind; apply wpAny_mono h _ (fun _ _ y => y); intro v s1 h1
  obtain ⟨e, t, rfl, hC, he, ne, c, hE⟩ := h1
  obtain ⟨hp, g, d, tk, os⟩ := s1
  apply wpAny_bind; apply wpAny_holding; apply hc; apply wpAny_bind; apply wpAny_pure
  repeat (first | with_reducible refine wpAny_loadPart_at he ?_ | with_reducible refine wpAny_loadPart_at hC ?_ | (with_reducible refine wpAny_isSubtype_exc hC ?_; rw [hcB]) | wp_step)
  have nC : e ≠ C := fun z => by rw [z] at he; rw [hC] at he; cases he
  have he1 : (hp.update e (Obj.mapFields (·.setIfInBounds 3 Value.none))).get? e = some { cls := .ref C, data := .fields #[.ref t, .none, .none, .none, .bool false, .none] } := Heap.get?_update_self _ he rfl
  have he2 : ((hp.update e (Obj.mapFields (·.setIfInBounds 3 Value.none))).update e (Obj.mapFields (·.setIfInBounds 4 (Value.bool true)))).get? e = some { cls := .ref C, data := .fields #[.ref t, .none, .none, .none, .bool true, .none] } := Heap.get?_update_self _ he1 rfl
  have ot : ∀ b, b ≠ e → ((hp.update e (Obj.mapFields (·.setIfInBounds 3 Value.none))).update e (Obj.mapFields (·.setIfInBounds 4 (Value.bool true)))).get? b = hp.get? b := fun b hb => (Heap.get?_update_other _ _ (Ne.symm hb)).trans (Heap.get?_update_other _ _ (Ne.symm hb))
  have hC2 := (ot C (Ne.symm nC)).trans hC
  have c2 : CtxN ((hp.update e (Obj.mapFields (·.setIfInBounds 3 Value.none))).update e (Obj.mapFields (·.setIfInBounds 4 (Value.bool true)))) h0 := by obtain ⟨o, vs, q1, q2, q3⟩ := c; exact ⟨o, vs, (ot _ ne).trans q1, q2, q3⟩
  generalize (hp.update e (Obj.mapFields (·.setIfInBounds 3 Value.none))).update e (Obj.mapFields (·.setIfInBounds 4 (Value.bool true))) = hq at he2 ot hC2 c2
  repeat (first | with_reducible refine wpAny_loadPart_at he2 ?_ | with_reducible refine wpAny_loadPart_at hC2 ?_ | wp_step)
  unfold raiseNew; apply wpAny_bind; apply wpAny_handled; rw [hh]
  show wpAny (model prog w) A (if (Value.ref h0 != Value.ref e) = true then _ else _) _ _ _
  rw [if_pos (by simp [ne])]
  apply wpAny_bind; apply wpAny_holding; apply wpAny_runValue
  apply codeAny_builtin unchain_entry; rw [Around.under_plainId unchain_plain _]
  obtain ⟨o0, ws, q1, q2, q3⟩ := c2
  show wpAny _ _ (field (.ref h0) 2 >>= _) _ _ _
  apply wpAny_bind; apply wpAny_field q1 q2 q3
  rw [if_pos (by decide)]; apply wpAny_pure; apply wpAny_bind
  show wpAny _ _ (setField (.ref e) 2 (Value.ref h0)) _ _ _
  refine wpAny_setField he2 rfl (by show 2 < 6; decide) ?_
  apply wpAny_throw
  exact hE _ (Heap.get?_update_self _ he2 rfl) fun b hb => (Heap.get?_update_other _ _ (Ne.symm hb)).trans (ot b hb)
variable {B Bn nid initId inN : String} {bmN bmB : List Value}
theorem Raise_from_none (Fn : ExcBaseFacts Bn newId inN bmN) (hBn : bmB.contains (.type Bn) = true) (F : ExcBaseFacts B nid initId bmB) {mN : Str → Option Value} {x : Str} {np cpos pos cp : Pos} {j : _} {args : List Expr} {h0 : Addr} {Q : Flow → Shared → Prop}
    (hbase : bm.contains (.type "BaseException") = true) (hh : A.handled = some (.ref h0)) (hplain : (backTo cpos (starEach args env)).any (·.1) = false) (hni : mN "__init__" = Option.none)
    (h : wpAny (model prog w) A (eval (.Name x np) env) (fun f s1 => f = .ref C ∧ wpAny (model prog w) A (evalArgs (.ref C) true (backTo cpos (starEach args env)) [])
      (fun a s2 => a.kw = [] ∧ a.pos.length ≤ sizeLine ∧ s2.heap.get? C = some (excClassObj nm q C N bs bm hdct sn sub ab col dd k0 k1 k2 k3 k5 newId) ∧ s2.heap.Ns N mN ∧ OwnTail s2.heap bmB bm ∧ CtxN s2.heap h0 ∧
        ∀ h1 h' e t, Heap.MadeExcOf s2.heap h1 e (.ref C) a.pos → h1.get? e = some { cls := .ref C, data := .fields #[.ref t, .none, .none, .none, .bool false, .none] } → h'.get? e = some { cls := .ref C, data := .fields #[.ref t, .none, .ref h0, .none, .bool true, .none] } → (∀ b, b ≠ e → h'.get? b = h1.get? b) → E (.ref e) { s2 with heap := h' }) E s1) E s) :
    wpAny (model prog w) A (exec (.Raise (some (.Call (.Name x np) args [] cpos)) (some (.Constant .none j cp)) pos) env) Q E s := by
  rw [arm_exec_Raise]; simp only [evalOpt, Option.map]; apply wpAny_bind; apply wpAny_standAt
  refine raise_from_none (C := C) (nm := nm) (q := q) (N := N) (bs := bs) (bm := bm) (hdct := hdct) (sn := sn) (sub := sub) (ab := ab) (col := col) (dd := dd) (k0 := k0) (k1 := k1) (k2 := k2) (k3 := k3) (k5 := k5) (newId := newId) hbase hh (fun Q' s' hq => ?_) ?_
  · apply wpAny_bind
    refine PyProof.Rows.Constant_none ?_
    apply wpAny_bind; apply wpAny_standAt; apply wpAny_pure; exact hq
  · apply wpAny_bind
    refine wpAny_mono (wpAny_Call_ofName (wpAny_mono h (fun f s1 hf => ?_) fun _ _ y => y)) (fun v s3 h3 => wpAny_bind (wpAny_standAt (wpAny_pure h3))) fun _ _ y => y
    obtain ⟨rfl, h1⟩ := hf
    unfold callWith
    apply wpAny_bind; apply wpAny_holding; apply wpAny_mono h1 _ (fun _ _ y => y); intro a s2 h2; apply wpAny_bind; apply wpAny_standAt
    obtain ⟨apos, akw⟩ := a
    obtain ⟨hkw, hlen, hC, hn, T, cx, h2⟩ := h2
    cases (show akw = [] from hkw)
    obtain ⟨hp, g, d, tk, os⟩ := s2
    simp only [hplain]
    apply wpAny_bind; apply wpAny_keeperOf_exc hC
    apply wpAny_bind
    refine wpAny_call_exc_subU (hrest := hlen) Fn hBn F T hC hn hni fun h' e hm => wpAny_bind (wpAny_holding (wpAny_point (wpAny_pure ?_)))
    obtain ⟨t, ht, _, _⟩ := hm.there
    have ne : h0 ≠ e := fun z => by obtain ⟨o, _, q1, _⟩ := cx; rw [z] at q1; rw [show hp.get? e = Option.none from hm.new] at q1; cases q1
    exact ⟨e, t, rfl, hm.keeps _ _ hC, ht, ne, (let ⟨o, vs, q1, q2, q3⟩ := cx; ⟨o, vs, hm.keeps _ _ q1, q2, q3⟩), fun h'' r1 r2 => h2 h' h'' e t hm ht r1 r2⟩
end
end L2
namespace L2
open PySem
section
variable {M : Model} {A : Around} {s : Shared} {E : Value → Shared → Prop} {Q : Unit → Shared → Prop}
theorem leaves_rec {base : Heap} {env : Env} {outer : List Env} {L e : Addr} {oe : Obj} {vs : Array Value} {a0 : Value} (hfr : A.frames = some (env :: outer)) (hf : env.frame = some L) (hkb : base.StaysIn s.heap) (hl : s.heap.FunFrames base (env :: outer)) (he : s.heap.get? e = some oe) (hen : base.get? e = Option.none)
    (hd : oe.data = .fields vs) (h1 : vs[1]? = some .none) (h0 : vs[0]? = some a0) (hQ : ∀ h', Heap.FlyingW base outer e oe.cls a0 h' → s.heap.UpToSlots h' → Q () { s with heap := h' }) : wpAny M A (leaving env (.ref e)) Q E s := by
  refine wpAny_leaving_firstW hfr hl hf he hkb hen hd h1 h0 fun h' hL => ?_
  obtain ⟨k1, ⟨_, _, k2⟩, k3, k4⟩ := hL
  exact hQ h' ⟨k1, hen, k2, k3⟩ k4
theorem leaves_recX {base : Heap} {env : Env} {outer : List Env} {L e : Addr} {oe : Obj} {vs : Array Value} {a0 : Value} (hfr : A.frames = some (env :: outer)) (hf : env.frame = some L) (hkb : base.StaysIn s.heap) (hl : s.heap.FunFrames base (env :: outer)) (he : s.heap.get? e = some oe) (hen : base.get? e = Option.none)
    (hd : oe.data = .fields vs) (h1 : vs[1]? = some .none) (h0 : vs[0]? = some a0) (h2 : vs[2]? = some .none) (hQ : ∀ h', Heap.FlyingW base outer e oe.cls a0 h' → s.heap.UpToSlots h' → CtxN h' e → Q () { s with heap := h' }) : wpAny M A (leaving env (.ref e)) Q E s := by
  have a := leaves_rec (M := M) (Q := fun _ s' => ∃ h', s' = { s with heap := h' } ∧ Heap.FlyingW base outer e oe.cls a0 h' ∧ s.heap.UpToSlots h') (E := fun _ _ => False) hfr hf hkb hl he hen hd h1 h0 fun h' x y => ⟨h', rfl, x, y⟩
  refine wpAny_mono (wpAny_and a (ctx_first hfr hf hl he hd h1 ⟨oe, vs, he, hd, h2⟩)) (fun _ s' q => ?_) (fun _ _ q => q.1.elim)
  obtain ⟨⟨h', rfl, x, y⟩, c'⟩ := q
  exact hQ h' x y c'
theorem leaves_onY {base : Heap} {env : Env} {outer : List Env} {L e : Addr} {cls a0 : Value} {b : Option Addr} (hfr : A.frames = some (env :: outer)) (hf : env.frame = some L) (hfl : Heap.FlyingW base (env :: outer) e cls a0 s.heap) (c : b = Option.none → CtxN s.heap e)
    (hQ : ∀ h', Heap.FlyingW base outer e cls a0 h' → s.heap.UpToSlots h' → (b = Option.none → CtxN h' e) → Q () { s with heap := h' }) : wpAny M A (leaving env (.ref e)) Q E s := by
  cases b with
  | none => exact leaves_onX hfr hf hfl (c rfl) fun h' x y z => hQ h' x y fun _ => z
  | some v => exact wpAny_leaves_onW hfr hf hfl fun h' x y => hQ h' x y (by intro z; cases z)
theorem looks_onY {base : Heap} {env : Env} {outer : List Env} {L e : Addr} {cls a0 : Value} {b : Option Addr} (hfr : A.frames = some (env :: outer)) (hf : env.frame = some L) (hfl : Heap.FlyingW base (env :: outer) e cls a0 s.heap) (c : b = Option.none → CtxN s.heap e)
    (hQ : ∀ h', Heap.HeldW base (env :: outer) e cls a0 L h' → s.heap.UpToSlots h' → (b = Option.none → CtxN h' e) → Q () { s with heap := h' }) : wpAny M A (noteFrame (.ref e) env) Q E s := by
  cases b with
  | none => exact looks_onX hfr hf hfl (c rfl) fun h' x y z => hQ h' x y fun _ => z
  | some v => exact wpAny_looks_onW hfr hf hfl fun h' x y => hQ h' x y (by intro z; cases z)
theorem landsY {base : Heap} {l : List Env} {e L : Addr} {cls a0 : Value} {b : Option Addr} (hh : Heap.HeldW base l e cls a0 L s.heap) (c : b = Option.none → CtxN s.heap e) (hQ : ∀ h', Heap.FlyingW base l e cls a0 h' → s.heap.UpToSlots h' → (b = Option.none → CtxN h' e) → Q () { s with heap := h' }) : wpAny M A (setFlight (.ref e) Option.none) Q E s := by
  cases b with
  | none => exact landsX hh (c rfl) fun h' x y z => hQ h' x y fun _ => z
  | some v => exact wpAny_landsW hh fun h' x y => hQ h' x y (by intro z; cases z)
theorem lands_againY {base : Heap} {l : List Env} {e : Addr} {cls a0 : Value} {b : Option Addr} (hh : Heap.FlyingW base l e cls a0 s.heap) (c : b = Option.none → CtxN s.heap e) (hQ : ∀ h', Heap.FlyingW base l e cls a0 h' → s.heap.UpToSlots h' → (b = Option.none → CtxN h' e) → Q () { s with heap := h' }) : wpAny M A (setFlight (.ref e) Option.none) Q E s := by
  cases b with
  | none => exact lands_againX hh (c rfl) fun h' x y z => hQ h' x y fun _ => z
  | some v => exact PyProof.Rows.lands_againW hh fun h' x y => hQ h' x y (by intro z; cases z)
end
end L2
namespace L2
open PySem PySem.Spec PyProof.Rows
structure Fly (P : Program) (w : World) (outer : List Env) (H : Hp) (s : Shared) (x : Addr) (cls : Value) (H' : Hp) (s' : Shared) : Prop where
  os : s'.os = s.os
  bare : AllBare s'.gens
  un : Un (frs outer) [] H H' s.heap s'.heap
  hok : HOk P w H' s'.heap
  ex : ∃ B a0, Heap.FlyingW B outer x cls a0 s'.heap ∧ (∀ b o, s.heap.get? b = some o → b ∉ frs outer → ∃ o', B.get? b = some o') ∧ ∀ b, H' b ≠ none → ∃ o, B.get? b = some o
  new : s.heap.get? x = none
  free : H' x = none
noncomputable def CXE (P : Program) (w : World) : CXT := fun outer H s E e s' => ∃ x cls H' b, e = .ref x ∧ Fly P w outer H s x cls H' s' ∧ (b = Option.none → CtxN s'.heap x) ∧ E cls b H'
section
variable {P : Program} {w : World} {K : PySem.W.Frag} {mg : Str → Option Value} {base : Heap} {N : List Str} {qual : Str} {scope : Scope} {f : Addr} {cd : Value} {A : Around} {outer : List Env} {s₀ : Shared} {H₀ : Hp} {E : XK}
theorem HOk.there {H : Hp} {h : Heap} {b : Addr} {u : HO} (x : HOk P w H h) (z : H b = some u) : ∃ o, h.get? b = some o := by
  have ok := x b u z
  cases u with
  | lst xs => obtain ⟨_, _, _, _, y⟩ := ok; exact ⟨_, y⟩
  | tup xs => obtain ⟨_, _, _, o, y, _⟩ := ok; exact ⟨_, y⟩
  | dK kvs => obtain ⟨_, _, _, _, o, _, _, y, _⟩ := ok; exact ⟨_, y⟩
  | dT kvs => obtain ⟨_, _, _, _, o, _, _, y, _⟩ := ok; exact ⟨_, y⟩
  | set S n => obtain ⟨o, _, _, _, y, _⟩ := ok; exact ⟨_, y⟩
  | ins C dx fs => obtain ⟨_, _, _, y, _⟩ := ok; exact ⟨_, y⟩
  | own y => obtain ⟨_, y⟩ := ok; exact ⟨_, y⟩
  | xd fs => obtain ⟨_, ⟨_, _, _, y, _⟩, _⟩ := ok; exact ⟨_, y⟩
  | rng lo hi => obtain ⟨_, _, _, y⟩ := ok; exact ⟨_, y⟩
  | frz ob u => obtain ⟨y, _⟩ := ok; exact ⟨_, y⟩
  | tbl ps => exact ⟨_, ok⟩
  | met g y => exact ⟨_, ok⟩
  | ext φ => exact ok.2.1
theorem cx_frs : frs (envOfC qual scope s₀.heap.objs.size f cd :: outer) = s₀.heap.objs.size :: frs outer := rfl
theorem hok_of {H : Hp} {h h' : Heap} (x : HOk P w H h) (k : ∀ b o, H b ≠ none → h.get? b = some o → h'.get? b = some o) : HOk P w H h' := fun b o e =>
  (x b o e).stay (fun c u hc q => k c u (by
    rcases hc with rfl | hc
    · rw [e]; exact Option.some_ne_none _
    · rw [hc]; exact Option.some_ne_none _) q) (fun _ q => q) fun _ _ q => q
theorem leaves_recY {M : Model} {A : Around} {s : Shared} {E : Value → Shared → Prop} {Q : Unit → Shared → Prop} {base : Heap} {env : Env} {outer : List Env} {L e : Addr} {oe : Obj} {vs : Array Value} {a0 : Value} {bf : Option Addr} (hfr : A.frames = some (env :: outer)) (hf : env.frame = some L) (hkb : base.StaysIn s.heap) (hl : s.heap.FunFrames base (env :: outer)) (he : s.heap.get? e = some oe) (hen : base.get? e = Option.none)
    (hd : oe.data = .fields vs) (h1 : vs[1]? = some .none) (h0 : vs[0]? = some a0) (h2 : bf = Option.none → vs[2]? = some .none) (hQ : ∀ h', Heap.FlyingW base outer e oe.cls a0 h' → s.heap.UpToSlots h' → (bf = Option.none → CtxN h' e) → Q () { s with heap := h' }) : wpAny M A (leaving env (.ref e)) Q E s := by
  cases bf with
  | none => exact leaves_recX hfr hf hkb hl he hen hd h1 h0 (h2 rfl) fun h' x y z => hQ h' x y fun _ => z
  | some v => exact leaves_rec hfr hf hkb hl he hen hd h1 h0 fun h' x y => hQ h' x y (by intro z; cases z)
theorem fly_rec {pins : List (Addr × Obj)} {σ : St} {H : Hp} {s : Shared} {h' : Heap} {e : Addr} {oe : Obj} {vs : Array Value} {a0 : Value} {bf : Option Addr} (I : Inv (cxOf (CXE P w) P w K mg base N qual scope f cd A outer s₀ H₀ E) pins σ H s)
    (keeps : ∀ b o, s.heap.get? b = some o → h'.get? b = some o) (hnew : s.heap.get? e = none) (he : h'.get? e = some oe) (hd : oe.data = .fields vs) (h1 : vs[1]? = some .none) (h0 : vs[0]? = some a0) (h2 : bf = none → vs[2]? = some .none)
    (q : E oe.cls bf H) : (cxOf (CXE P w) P w K mg base N qual scope f cd A outer s₀ H₀ E).xe (.ref e) { s with heap := h' } := by
  have hfr : (A.deeper (envOfC qual scope s₀.heap.objs.size f cd)).frames = some (envOfC qual scope s₀.heap.objs.size f cd :: outer) := I.ok.frames
  have st : s.heap.FunFrames base (envOfC qual scope s₀.heap.objs.size f cd :: outer) := I.stack
  have hin : ∀ env ∈ (envOfC qual scope s₀.heap.objs.size f cd :: outer), ∀ b, env.frame = some b → b ∈ frs (envOfC qual scope s₀.heap.objs.size f cd :: outer) := fun env he b hb => List.mem_filterMap.mpr ⟨env, he, hb⟩
  have hsub : ∀ b, b ∈ frs (envOfC qual scope s₀.heap.objs.size f cd :: outer) → b = s₀.heap.objs.size ∨ b ∈ frs outer := fun b hb => List.mem_cons.mp (cx_frs ▸ hb)
  have nfr : ∀ b, H b ≠ none → b ∉ frs (envOfC qual scope s₀.heap.objs.size f cd :: outer) := fun b hb z => hb (I.stkFree b z)
  have bs : Un (frs outer) [] H₀ H s₀.heap s.heap := I.base
  show wpAny _ _ (leaving (envOfC qual scope s₀.heap.objs.size f cd) (.ref e)) _ _ _
  have hen : (PySem.W.hideAll s.heap (frs (envOfC qual scope s₀.heap.objs.size f cd :: outer))).get? e = none := by
    cases z : (PySem.W.hideAll s.heap (frs (envOfC qual scope s₀.heap.objs.size f cd :: outer))).get? e with
    | none => rfl
    | some o => exact absurd (PySem.W.of_hideAll _ z) (by rw [hnew]; intro z; cases z)
  refine leaves_recY (base := PySem.W.hideAll s.heap (frs (envOfC qual scope s₀.heap.objs.size f cd :: outer))) hfr rfl (fun b o z => keeps b o (PySem.W.of_hideAll _ z)) ((PySem.W.funFrames_hide st hin).of_keeps fun b o hb _ => ⟨o, keeps b o hb, rfl⟩) he hen hd h1 h0 h2 fun h'' x1 x4 xc => ?_
  have old : ∀ b, s₀.heap.objs.size ≤ b → s₀.heap.get? b = none := fun b hb => Heap.get?_none_of_le hb
  have keep : ∀ b o, s.heap.get? b = some o → b ∉ frs (envOfC qual scope s₀.heap.objs.size f cd :: outer) → h''.get? b = some o := fun b o z n => x1.1 b o (PySem.W.hideAll_get _ z n)
  have noL : ∀ b o, s₀.heap.get? b = some o → b ∉ frs outer → b ∉ frs (envOfC qual scope s₀.heap.objs.size f cd :: outer) := fun b o z n y => by
    rcases hsub b y with rfl | y
    · rw [old _ (Nat.le_refl _)] at z; cases z
    · exact n y
  have slot : ∀ b o, s.heap.get? b = some o → b ∈ frs outer → ∃ sl, h''.get? b = some { o with slots := sl } := fun b o z n => by
    obtain ⟨_, o', z', d⟩ := st.mem (List.mem_cons_of_mem _ n : b ∈ s₀.heap.objs.size :: frs outer)
    rw [z] at z'; cases z'
    exact x4 b o (keeps b o z) d
  have fre : s₀.heap.get? e = none := by
    cases z : s₀.heap.get? e with
    | none => rfl
    | some o =>
      obtain ⟨o', z'⟩ := bs.there e o z (by simp)
      rw [hnew] at z'; cases z'
  refine ⟨e, oe.cls, H, bf, rfl, ⟨I.os, I.bare, ⟨fun b o z n hb _ => ?_, fun b o z n hb _ => ?_, bs.free, fun b o z _ => ?_, bs.tups, bs.frzs, bs.tbls⟩, ?_, ⟨_, _, x1, fun b o z hb => ?_, fun b hb => ?_⟩, fre, ?_⟩, xc, q⟩
  · exact keep b o (bs.keep b o z n hb (by simp)) (noL b o z hb)
  · obtain ⟨sl, z1⟩ := bs.slot b o z n hb (by simp)
    obtain ⟨sl', z2⟩ := slot b _ z1 hb
    exact ⟨sl', z2⟩
  · obtain ⟨o', z1⟩ := bs.there b o z (by simp)
    by_cases hb : b ∈ frs outer
    · obtain ⟨sl', z2⟩ := slot b _ z1 hb
      exact ⟨_, z2⟩
    · exact ⟨o', keep b o' z1 (noL b o z hb)⟩
  · exact hok_of I.hok fun b o hb z => keep b o z (nfr b hb)
  · obtain ⟨o', z1⟩ := bs.there b o z (by simp)
    exact ⟨o', PySem.W.hideAll_get _ z1 (noL b o z hb)⟩
  · cases z : H b with
    | none => exact absurd z hb
    | some u =>
      obtain ⟨o, z2⟩ := I.hok.there z
      exact ⟨o, PySem.W.hideAll_get _ z2 (nfr b hb)⟩
  · cases z : H e with
    | none => rfl
    | some u =>
      obtain ⟨o, z2⟩ := I.hok.there z
      rw [hnew] at z2; cases z2
theorem fly_made {pins : List (Addr × Obj)} {σ : St} {H : Hp} {s : Shared} {h' : Heap} {e C : Addr} {us : List Value} (I : Inv (cxOf (CXE P w) P w K mg base N qual scope f cd A outer s₀ H₀ E) pins σ H s)
    (hx : Heap.MadeExcOf s.heap h' e (.ref C) us) (q : E (.ref C) none H) : (cxOf (CXE P w) P w K mg base N qual scope f cd A outer s₀ H₀ E).xe (.ref e) { s with heap := h' } := by
  obtain ⟨t, ht, _, _⟩ := hx.there
  exact fly_rec (bf := none) I hx.keeps hx.new ht rfl rfl rfl (fun _ => rfl) q
theorem passE : Passes (CXE P w) (cxOf (CXE P w) P w K mg base N qual scope f cd A outer s₀ H₀ E) E := by
  intro pins σ H s e s' I h
  obtain ⟨x, cls, H', bf, rfl, F, cn, q⟩ := h
  obtain ⟨B, a0, fl, c1, c2⟩ := F.ex
  have hfr : (A.deeper (envOfC qual scope s₀.heap.objs.size f cd)).frames = some (envOfC qual scope s₀.heap.objs.size f cd :: outer) := I.ok.frames
  have hsub : ∀ b, b ∈ frs (envOfC qual scope s₀.heap.objs.size f cd :: outer) → b = s₀.heap.objs.size ∨ b ∈ frs outer := fun b hb => List.mem_cons.mp (cx_frs ▸ hb)
  have bs : Un (frs outer) [] H₀ H s₀.heap s.heap := I.base
  have un : Un (frs (envOfC qual scope s₀.heap.objs.size f cd :: outer)) [] H H' s.heap s'.heap := F.un
  have up : ∀ b, b ∈ frs outer → b ∈ frs (envOfC qual scope s₀.heap.objs.size f cd :: outer) := fun b hb => (List.mem_cons_of_mem _ hb : b ∈ s₀.heap.objs.size :: frs outer)
  show wpAny _ _ (leaving (envOfC qual scope s₀.heap.objs.size f cd) (.ref x)) _ _ _
  refine leaves_onY (b := bf) hfr rfl fl cn fun h'' fl2 sl2 cn2 => ?_
  have noL : ∀ b o, s₀.heap.get? b = some o → b ∉ frs outer → b ∉ frs (envOfC qual scope s₀.heap.objs.size f cd :: outer) := fun b o z n y => by
    rcases hsub b y with rfl | y
    · rw [Heap.get?_none_of_le (Nat.le_refl _)] at z; cases z
    · exact n y
  have inB : ∀ b o, s₀.heap.get? b = some o → b ∉ frs outer → ∃ o', B.get? b = some o' := fun b o z n => by
    obtain ⟨o1, z1⟩ := bs.there b o z (by simp)
    exact c1 b o1 z1 (noL b o z n)
  have slot : ∀ b o, s'.heap.get? b = some o → b ∈ frs outer → ∃ sl, h''.get? b = some { o with slots := sl } := fun b o z n => by
    obtain ⟨_, o', z', d⟩ := fl.2.2.1.mem (up b n)
    rw [z] at z'; cases z'
    exact sl2 b o z d
  have two : ∀ b o, s₀.heap.get? b = some o → H₀ b = none → b ∈ frs outer → ∃ sl, s'.heap.get? b = some { o with slots := sl } := fun b o z n hb => by
    obtain ⟨sl, z1⟩ := bs.slot b o z n hb (by simp)
    obtain ⟨sl', z2⟩ := un.slot b _ z1 (bs.free b o z n (by simp)) (up b hb) (by simp)
    exact ⟨sl', z2⟩
  have fre : s₀.heap.get? x = none := by
    cases z : s₀.heap.get? x with
    | none => rfl
    | some o =>
      obtain ⟨o', z'⟩ := bs.there x o z (by simp)
      rw [F.new] at z'; cases z'
  refine ⟨x, cls, H', bf, rfl, ⟨F.os.trans I.os, F.bare, ⟨fun b o z n hb _ => ?_, fun b o z n hb _ => ?_, fun b o z n _ => ?_, fun b o z _ => ?_, fun b xs z => un.tups b xs (bs.tups b xs z), fun b o u z => un.frzs b o u (bs.frzs b o u z), fun b ps z => ?_⟩, ?_, ⟨B, a0, fl2, inB, c2⟩, fre, F.free⟩, cn2, q⟩
  · have z1 := bs.keep b o z n hb (by simp)
    have z2 := un.keep b o z1 (bs.free b o z n (by simp)) (noL b o z hb) (by simp)
    obtain ⟨o', z3⟩ := inB b o z hb
    have z4 := fl.1 b o' z3
    rw [z2] at z4; cases z4
    exact fl2.1 b o z3
  · obtain ⟨sl, z1⟩ := two b o z n hb
    obtain ⟨sl', z2⟩ := slot b _ z1 hb
    exact ⟨sl', z2⟩
  · obtain ⟨o1, z1⟩ := bs.there b o z (by simp)
    exact un.free b o1 z1 (bs.free b o z n (by simp)) (by simp)
  · by_cases hb : b ∈ frs outer
    · obtain ⟨sl, z1⟩ := two b o z (I.ok.frf b hb) hb
      obtain ⟨sl', z2⟩ := slot b _ z1 hb
      exact ⟨_, z2⟩
    · obtain ⟨o', z3⟩ := inB b o z hb
      exact ⟨o', fl2.1 b o' z3⟩
  · obtain ⟨m1, z1⟩ := bs.tbls b ps z
    obtain ⟨m2, z2⟩ := un.tbls b _ z1
    exact ⟨m1 ++ m2, by rw [z2, Array.append_assoc]⟩
  · refine hok_of F.hok fun b o hb z => ?_
    obtain ⟨o', z3⟩ := c2 b hb
    have z4 := fl.1 b o' z3
    rw [z] at z4; cases z4
    exact fl2.1 b o z3
theorem ownE : PassesOwn (model P w) (A.deeper (envOfC qual scope s₀.heap.objs.size f cd)) (envOfC qual scope s₀.heap.objs.size f cd) (cxOf (CXE P w) P w K mg base N qual scope f cd A outer s₀ H₀ E).xe :=
  PassesOwn.leaving (Q₁ := fun e s'' => CXE P w outer H₀ s₀ E e s'')
theorem Fun.okE {x : Str} {st : Stmt} {fd : FuncData} {ps : List Str} {k : Nat} {sp : Sp} (F : Fun K x qual st f fd) (S : FnScope N ps (defScope st)) (len : ∀ vs H Q E, sp vs H Q E → vs.length = ps.length)
    (hbody : ∀ (cdv : Value) (A : Around) (outer : List Env) (s : Shared) (H : Hp) (vs : List V) (Q : VK) (E : XK), Room k (A.deeper (envOfC qual (defScope st) s.heap.objs.size f cdv)) → sp vs H Q E →
      ∃ t, PSs (cxOf (CXE P w) P w K mg base N qual (defScope st) f cdv A outer s H E) (defBody st) t ∧ t { nx := fun _ H' => Q .non H', rt := Q } (start N vs) H) : FnOk P w K mg base (CXE P w) (k + 1) f fd ps sp := by
  obtain ⟨oc, od, kV, doc, pm, an, cdv, ct, osl, rfl, lk, hcd⟩ := F.ex
  exact fn_of lk hcd S len fun A outer s H vs Q E hr hsp => hbody cdv A outer s H vs Q E hr hsp
end
end L2
namespace L2
open PySem PySem.Spec PyProof.Rows
noncomputable def tFmt (te : TE) : TE := fun σ H Q => te σ H fun x H1 => ∃ i : Int, x = .int i ∧ i.natAbs.log2 < 1920 ∧ Q (.str (toString i)) H1
noncomputable def PJ (X : Cx) (es : List Expr) (t : Str → TE) : Prop :=
  ∀ (acc : Str) (pins : List (Addr × Obj)) (s : Shared) (σ : St) (H : Hp) (Q : VK), Inv X pins σ H s → t acc σ H Q → wpAny (model X.prog X.w) X.A (joinParts acc (evalEach es X.env)) (EP X pins σ Q) X.xe s
noncomputable def tJ0 : Str → TE := fun acc _ H Q => acc.length ≤ sizeLine ∧ Q (.str acc) H
noncomputable def tJ (te : TE) (t : Str → TE) : Str → TE := fun acc σ H Q => te σ H fun x H1 => ∃ y, x = .str y ∧ (acc ++ y).length ≤ sizeLine ∧ t (acc ++ y) σ H1 Q
section
variable {X : Cx} {e : Expr} {es : List Expr} {te : TE} {t : Str → TE} {pos : Pos}
theorem pe_fmt (h : PE X e te) : PE X (.FormattedValue e (-1) none pos) (tFmt te) := by
  intro pins s σ H Q I q
  refine FormattedValue_plain (thn (h pins s σ H _ I q) fun v s1 ⟨x, H1, I1, r, i, e1, hl, q1⟩ => ?_)
  subst e1
  obtain ⟨tk, rfl⟩ := r
  exact formatField_int_small hl ⟨.str (toString i), H1, I1.tok _, ⟨_, rfl⟩, q1⟩
theorem pj_nil : PJ X [] tJ0 := fun acc pins s σ H Q I h => joinParts_nil ⟨.str acc, H, I.tok _, ⟨_, rfl⟩, h.2⟩ h.1
theorem pj_cons (h : PE X e te) (hr : PJ X es t) : PJ X (e :: es) (tJ te t) := by
  intro acc pins s σ H Q I q
  refine joinParts_cons (thn (h pins s σ H _ I q) fun v s1 ⟨x, H1, I1, r, y, e1, hl, q1⟩ => ?_)
  subst e1
  obtain ⟨tk, rfl⟩ := r
  exact ⟨hl, hr _ pins s1 σ H1 Q I1 q1⟩
theorem pe_fstr {e1 e2 : Expr} (h : PJ X (e1 :: e2 :: es) t) : PE X (.JoinedStr (e1 :: e2 :: es) pos) (t Str.empty) := fun pins s σ H Q I q => JoinedStr_many (h _ pins s σ H Q I q)
theorem str_small {i : Int} (h0 : -1000000 ≤ i) (h1 : i ≤ 1000000) : i.natAbs.log2 < 1920 ∧ ((toString i : String) : Str).length ≤ 2000 := by
  have hl : i.natAbs.log2 < 1920 := by
    have h2 : i.natAbs < 2 ^ 20 := by
      have : (2 : Nat) ^ 20 = 1048576 := by decide
      omega
    rcases Nat.eq_zero_or_pos i.natAbs with z | z
    · rw [z]; decide
    · have := (Nat.log2_lt (by omega)).mpr h2
      omega
  refine ⟨hl, ?_⟩
  have e := int_text_length_le (k := 1920) (by decide) hl
  have e2 : ((toString i : String) : Str).length = (toString i).length := PySem.ofString_length _
  omega
theorem rd_jS {σ : St} {H : Hp} {Q : VK} {acc x : Str} (n : Nat) (ha : acc.length ≤ n) (hn : n + 2000 ≤ 100000) (hx : x.length ≤ 2000) (q : ∀ acc' : Str, acc'.length ≤ n + 2000 → t acc' σ H Q) : tJ (tC (.str x)) t acc σ H Q := by
  have e : (acc ++ x).length = acc.length + x.length := strLen_append _ _
  exact ⟨x, rfl, by rw [e, sizeLine_eq]; omega, q _ (by rw [e]; omega)⟩
theorem rd_jI {σ : St} {H : Hp} {Q : VK} {acc : Str} {i : Int} (n : Nat) (ha : acc.length ≤ n) (hn : n + 2000 ≤ 100000) (h0 : -1000000 ≤ i) (h1 : i ≤ 1000000) (q : ∀ acc' : Str, acc'.length ≤ n + 2000 → t acc' σ H Q) :
    ∃ j : Int, V.int i = .int j ∧ j.natAbs.log2 < 1920 ∧ ∃ y, V.str (toString j) = .str y ∧ (acc ++ y).length ≤ sizeLine ∧ t (acc ++ y) σ H Q := by
  obtain ⟨h2, h3⟩ := str_small h0 h1
  have e : (acc ++ ((toString i : String) : Str)).length = acc.length + ((toString i : String) : Str).length := strLen_append _ _
  exact ⟨i, rfl, h2, _, rfl, by rw [e, sizeLine_eq]; omega, q _ (by rw [e]; omega)⟩
theorem rd_j0 {σ : St} {H : Hp} {Q : VK} {acc : Str} {n : Nat} (ha : acc.length ≤ n) (hn : n ≤ 100000) (q : ∀ x : Str, x.length ≤ n → Q (.str x) H) : tJ0 acc σ H Q := ⟨by rw [sizeLine_eq]; omega, q acc ha⟩
theorem rd_jF {σ : St} {H : Hp} {Q : VK} {acc : Str} (q : te σ H fun x H1 => ∃ j : Int, x = .int j ∧ j.natAbs.log2 < 1920 ∧ ∃ y, V.str (toString j) = .str y ∧ (acc ++ y).length ≤ sizeLine ∧ t (acc ++ y) σ H1 Q) : tJ (tFmt te) t acc σ H Q := q
end
def vErr : List Value := [.type "ValueError", .type "Exception", .type "BaseException", .type "object"]
abbrev ExcC (K : PySem.W.Frag) (C : Addr) : Prop := PySem.W.excIn K C vErr "ValueError.__new__" = true
theorem exc_parts {K : PySem.W.Frag} {C : Addr} (q : ExcC K C) : ∃ (bm : List Value) (N : Addr) (nm qn : Str) (bs : List Value) (hd : Bool) (sn : List Str) (sub : List Value) (ab : Bool) (col : Option Bool) (dd : Option Addr) (k0 k1 k2 k3 k5 : Option Value),
    K.lookup C = some (excClassObj nm qn C N bs bm hd sn sub ab col dd k0 k1 k2 k3 k5 "ValueError.__new__") ∧ PySem.W.nsOkIn K N = true ∧ PySem.W.nsIn K N "__init__" = some none ∧ PySem.W.tailIn K vErr bm = true := by
  unfold ExcC PySem.W.excIn at q
  split at q
  · rename_i dd cd sl ho
    split at q
    · rename_i C' bm k0 k1 k2 k3 n k5 hm hs
      simp only [Bool.and_eq_true, beq_iff_eq, Bool.not_eq_true'] at q
      obtain ⟨⟨⟨⟨⟨e1, e2⟩, e3⟩, e4⟩, e5⟩, e6⟩ := q
      subst e1 e2
      obtain ⟨nm, bs, mro, ns, qn, hd, sn, sub, ab, col, del⟩ := cd
      dsimp only at hm e3 e5 e6
      subst hm e3
      obtain ⟨l⟩ := sl
      simp only at hs
      subst hs
      exact ⟨bm, ns, nm, qn, bs, hd, sn, sub, ab, col, dd, k0, k1, k2, k3, k5, ho, e5, e6, e4⟩
    · cases q
  · cases q
noncomputable def tRaise (E : XK) (C : Addr) (ta : TA) : TS := fun _ σ H => ta σ H fun vs H1 => vs.length ≤ sizeLine ∧ E (.ref C) none H1
section
variable {P : Program} {w : World} {K : PySem.W.Frag} {mg : Str → Option Value} {base : Heap} {N : List Str} {qual : Str} {scope : Scope} {f : Addr} {cd : Value} {A : Around} {outer : List Env} {s₀ : Shared} {H₀ : Hp} {E : XK}
theorem ps_raise {x : Str} {C : Addr} {e : Expr} {es : List Expr} {ta : TA} {np cpos pos : Pos} (q : ExcC K C) (hm : mg x = some (.ref C))
    (hg : Gl (cxOf (CXE P w) P w K mg base N qual scope f cd A outer s₀ H₀ E) x)
    (ha : PA (cxOf (CXE P w) P w K mg base N qual scope f cd A outer s₀ H₀ E) (e :: es) ta)
    (he : starEach (e :: es) (envOfC qual scope s₀.heap.objs.size f cd) = (false, eval e (envOfC qual scope s₀.heap.objs.size f cd)) :: starEach es (envOfC qual scope s₀.heap.objs.size f cd) := by rfl)
    (hpl : (backTo cpos (starEach es (envOfC qual scope s₀.heap.objs.size f cd))).any (·.1) = false := by rfl) (hd : (x == ("__debug__" : Str)) = false := by decide) :
    PS (cxOf (CXE P w) P w K mg base N qual scope f cd A outer s₀ H₀ E) (.Raise (some (.Call (.Name x np) (e :: es) [] cpos)) none pos) (tRaise E C ta) := by
  intro pins s σ H D I h
  obtain ⟨bm, NN, nm, qn, bs, hdc, sn, sub, ab, col, dd, k0, k1, k2, k3, k5, l1, l2, l3, l4⟩ := exc_parts q
  have kb : K.In base := I.ok.mod.kin
  have nb : base.Ns NN (base.nsMap NN) := .of_isNs (PySem.W.isNs_of_in kb l2)
  have T0 : OwnTail base vErr bm := PySem.W.tail_of_in kb l4
  refine wpAny_Raise_call_subU (C := C) (nm := nm) (q := qn) (N := NN) (bs := bs) (bm := bm) (hdct := hdc) (sn := sn) (sub := sub) (ab := ab) (col := col) (dd := dd) (k0 := k0) (k1 := k1) (k2 := k2) (k3 := k3) (k5 := k5)
    F.excBase_ValueError (by decide +kernel) F.excBase_ValueError (mN := base.nsMap NN) (T0.hasType F.excBase_ValueError.hasBase) (I.ok.hd rfl) ?_ (PySem.W.nsMap_none_of_in kb l2 l3) (ld_glob I hg hm ⟨rfl, ?_⟩ hd)
  · show (backTo cpos (starEach (e :: es) (envOfC qual scope s₀.heap.objs.size f cd))).any (·.1) = false
    rw [he]
    show (false || (backTo cpos (starEach es (envOfC qual scope s₀.heap.objs.size f cd))).any (·.1)) = false
    rw [hpl]
    rfl
  · have a := ha cpos pins s σ H _ I h
    show wpAny _ _ (evalArgs (.ref C) true (backTo cpos (starEach (e :: es) (envOfC qual scope s₀.heap.objs.size f cd))) []) _ _ _
    have a' : wpAny (model P w) (A.deeper (envOfC qual scope s₀.heap.objs.size f cd)) (spliced (backTo cpos (starEach (e :: es) (envOfC qual scope s₀.heap.objs.size f cd)))) _ _ s := a
    rw [he] at a' ⊢
    refine Calls.evalArgs_plain (wpAny_mono a' (fun us s₂ ⟨vs, H1, I1, r1, hz, q1⟩ => ?_) fun _ _ y => y)
    have lz := r1.length
    exact ⟨rfl, (by show us.length ≤ sizeLine; omega), I1.bk _ _ (kb _ _ l1), nb.keeps I1.bk, T0.keeps I1.bk, fun h' e' hx => fly_made I1 hx q1⟩
end
end L2
namespace L2
open PySem PySem.Spec PyProof.Rows
noncomputable def PassR (CX : CXT) (X : Cx) (E : XK) (R : St → Prop) : Prop := ∀ (pins : List (Addr × Obj)) (σ : St) (H : Hp) (s : Shared) (e : Value) (s' : Shared), R σ → Inv X pins σ H s → CX X.stack H s E e s' → X.xe e s'
noncomputable def tCallR (sp : Sp) (R : St → Prop) (E : XK) (t : TA) : TE := fun σ H Q => t σ H fun vs H1 => R σ ∧ sp (vs ++ []) H1 Q E
noncomputable def tMakeR (C : Addr) (sp : Sp) (R : St → Prop) (E : XK) (t : TA) : TE := fun σ H Q => t σ H fun vs H1 => R σ ∧ ∀ x dx, H1 x = none → H1 dx = none → dx ≠ x →
  sp (.ref x :: (vs ++ [])) (upd (upd H1 dx (.own x)) x (.ins C dx [])) (fun v H2 => v = .non ∧ Q (.ref x) H2) E
section
variable {X : Cx} {CX : CXT} {k : Nat} {C : Addr} {ps : List Str} {sp : Sp} {E : XK} {R : St → Prop} {x : Str} {p pos : Pos} {e : Expr} {es : List Expr} {t : TA}
theorem run_makeR {f : Addr} {fd : FuncData} {pins : List (Addr × Obj)} {σ : St} {H : Hp} {s : Shared} {Q : VK} {us : List Value} {vs : List V} (M : Mk X.K C f) (F : FnOk X.prog X.w X.K X.mg X.base CX k f fd ps sp) (hr : Room (k + 1) X.A) (hb : Binds X.K fd ps [])
    (hx : PassR CX X E R) (hR : R σ) (I : Inv X pins σ H s) (r : Vals vs us)
    (q : ∀ x dx, H x = none → H dx = none → dx ≠ x → sp (.ref x :: (vs ++ [])) (upd (upd H dx (.own x)) x (.ins C dx [])) (fun v H2 => v = .non ∧ Q (.ref x) H2) E) :
    wpAny (model X.prog X.w) X.A (call (.ref C) us) (EP X pins σ Q) X.xe s := by
  have hq := q (s.heap.objs.size + 1) s.heap.objs.size (I.hok.fresh (Nat.le_succ _)) (I.hok.fresh (Nat.le_refl _)) (Nat.ne_of_lt (Nat.lt_succ_self _))
  have I2 := Inv.made (C := C) I
  have r2 : Vals (V.ref (s.heap.objs.size + 1) :: (vs ++ [])) (Value.ref (s.heap.objs.size + 1) :: (us ++ [])) := .cons rfl (r.append .nil)
  have hl : (Value.ref (s.heap.objs.size + 1) :: us ++ []).length = ps.length := by
    have e := r2.length
    rw [F.len _ _ _ _ hq] at e
    exact e.symm
  have bb : BindsTo _ fd ⟨Value.ref (s.heap.objs.size + 1) :: us, []⟩ (ps.zip (Value.ref (s.heap.objs.size + 1) :: (us ++ []))) := hb { s with heap := (s.heap.push PySem.W.emptyDict).push (PySem.W.instObj C s.heap.objs.size) } (Value.ref (s.heap.objs.size + 1) :: us) I2.kIn hl
  refine wpAny_call (make_map (f := f) I.kIn M.makes M.init (beq_iff_eq.mp M.fn) (codeAny_mono (F.run _ X.stack _ _ ⟨Value.ref (s.heap.objs.size + 1) :: us, []⟩ (Value.ref (s.heap.objs.size + 1) :: (us ++ [])) _ _ E (hr.make C us [])
    (I2.env0.make C us []) bb r2 hq) fun rr s' hq' => ?_))
  cases rr with
  | error z => exact hx pins σ _ _ z s' hR I2 hq'
  | ok fl =>
    cases fl with
    | ret u =>
      obtain ⟨v, H', I3, rv, ev, q3⟩ := I2.after hq'
      subst ev
      exact ⟨rv, ⟨V.ref (s.heap.objs.size + 1), H', I3, rfl, q3⟩⟩
    | next => exact False.elim hq'
    | brk => exact False.elim hq'
    | cont => exact False.elim hq'
theorem pe_makeR (c : CalleeI X.prog X.w X.K X.mg X.base CX k x C ps sp) (hr : Room (k + 1) X.A) (hx : PassR CX X E R) (hg : Gl X x) (ha : PA X (e :: es) t) (hdb : (x == ("__debug__" : Str)) = false := by decide)
    (he : starEach (e :: es) X.env = (false, eval e X.env) :: starEach es X.env := by rfl) (hpl : (backTo pos (starEach es X.env)).any (·.1) = false := by rfl) : PE X (.Call (.Name x p) (e :: es) [] pos) (tMakeR C sp R E t) := by
  obtain ⟨f, fd, F, M, hb⟩ := c.ex
  intro pins s0 σ H0 Q I0 h
  refine wpAny_Call_Name_kw (ld_glob I0 hg c.at_ ?_ hdb)
  refine PySem.W.callWith_K (h₀ := X.base) I0.ok.mod.kin M.kp (thn (ha pos pins s0 σ H0 _ I0 h) fun us s ⟨vs, H, I, r, hR, q⟩ => ⟨I.kIn, ?_⟩) he hpl
  exact run_makeR M F hr hb hx hR I r q
end
noncomputable def Cx.at' (X : Cx) (pn : List (Addr × Obj)) (xe : Value → Shared → Prop) : Cx := { X with pn := pn, xe := xe }
noncomputable def Cx.suite (X : Cx) (x : Addr) : Cx := { X with A := X.A.mark (some (.ref x)), calm := false, xe := fun _ _ => False }
section
variable {X : Cx} {pins pl : List (Addr × Obj)} {σ : St} {H H' : Hp} {s s' : Shared} {xe : Value → Shared → Prop}
theorem Inv.to_at (I : Inv X pins σ H s) : Inv (X.at' (X.pn ++ pins) xe) [] σ H s :=
  ⟨⟨I.ok.mod, I.ok.kind, I.ok.glob, I.ok.blt, I.ok.above, I.ok.inj, I.ok.has, I.ok.cab, I.ok.hd, I.ok.frames, I.ok.stk, I.ok.exf, I.ok.bs, I.ok.bsz, I.ok.noex, I.ok.exfs, I.ok.funs, I.ok.frf⟩, I.os, I.bare, I.base, I.loc, I.cell, I.free, I.freeC,
    fun p hp => I.pin p (by
      have : p ∈ (X.pn ++ pins) ++ [] := hp
      rwa [List.append_nil] at this), I.hok, I.len⟩
theorem Inv.of_at (I : Inv (X.at' (X.pn ++ pins) xe) pl σ H s) : Inv X pins σ H s :=
  ⟨⟨I.ok.mod, I.ok.kind, I.ok.glob, I.ok.blt, I.ok.above, I.ok.inj, I.ok.has, I.ok.cab, I.ok.hd, I.ok.frames, I.ok.stk, I.ok.exf, I.ok.bs, I.ok.bsz, I.ok.noex, I.ok.exfs, I.ok.funs, I.ok.frf⟩, I.os, I.bare, I.base, I.loc, I.cell, I.free, I.freeC,
    fun p hp => I.pin p (List.mem_append_left _ hp), I.hok, I.len⟩
theorem Inv.to_suite (I : Inv X pins σ H s) (x : Addr) : Inv (X.suite x) pins σ H s :=
  ⟨⟨I.ok.mod, I.ok.kind, I.ok.glob, I.ok.blt, I.ok.above, I.ok.inj, I.ok.has, I.ok.cab, fun h => absurd h Bool.false_ne_true, I.ok.frames, I.ok.stk, I.ok.exf, I.ok.bs, I.ok.bsz, I.ok.noex, I.ok.exfs, I.ok.funs, I.ok.frf⟩, I.os, I.bare, I.base, I.loc, I.cell, I.free, I.freeC, I.pin, I.hok, I.len⟩
theorem Inv.of_suite (hd : X.calm = true → X.A.handled = none) {x : Addr} (I : Inv (X.suite x) pins σ H s) : Inv X pins σ H s :=
  ⟨⟨I.ok.mod, I.ok.kind, I.ok.glob, I.ok.blt, I.ok.above, I.ok.inj, I.ok.has, I.ok.cab, hd, I.ok.frames, I.ok.stk, I.ok.exf, I.ok.bs, I.ok.bsz, I.ok.noex, I.ok.exfs, I.ok.funs, I.ok.frf⟩, I.os, I.bare, I.base, I.loc, I.cell, I.free, I.freeC, I.pin, I.hok, I.len⟩
theorem Fly.step {P : Program} {w : World} {outer : List Env} {x : Addr} {cls : Value} {h2 : Heap} {B : Heap} {a0 : Value} (F : Fly P w outer H s x cls H' s') (fl : Heap.FlyingW B outer x cls a0 s'.heap)
    (c1 : ∀ b o, s.heap.get? b = some o → b ∉ frs outer → ∃ o', B.get? b = some o') (c2 : ∀ b, H' b ≠ none → ∃ o, B.get? b = some o) (fr : ∀ b ∈ frs outer, H b = none)
    (fl2 : Heap.FlyingW B outer x cls a0 h2) (sl2 : s'.heap.UpToSlots h2) : Fly P w outer H s x cls H' { s' with heap := h2 } := by
  have slot : ∀ b o, s'.heap.get? b = some o → b ∈ frs outer → ∃ sl, h2.get? b = some { o with slots := sl } := fun b o z n => by
    obtain ⟨_, o', z', d⟩ := fl.2.2.1.mem n
    rw [z] at z'; cases z'
    exact sl2 b o z d
  have keep : ∀ b o o', s'.heap.get? b = some o → B.get? b = some o' → h2.get? b = some o := fun b o o' z z3 => by
    have z4 := fl.1 b o' z3
    rw [z] at z4; cases z4
    exact fl2.1 b o z3
  refine ⟨F.os, F.bare, ⟨fun b o z n hb hx => ?_, fun b o z n hb hx => ?_, F.un.free, fun b o z hx => ?_, F.un.tups, F.un.frzs, F.un.tbls⟩, ?_, ⟨B, a0, fl2, c1, c2⟩, F.new, F.free⟩
  · obtain ⟨o', z3⟩ := c1 b o z hb
    exact keep b o o' (F.un.keep b o z n hb hx) z3
  · obtain ⟨sl, z1⟩ := F.un.slot b o z n hb hx
    obtain ⟨sl', z2⟩ := slot b _ z1 hb
    exact ⟨sl', z2⟩
  · by_cases hb : b ∈ frs outer
    · obtain ⟨sl, z1⟩ := F.un.slot b o z (fr b hb) hb hx
      obtain ⟨sl', z2⟩ := slot b _ z1 hb
      exact ⟨_, z2⟩
    · obtain ⟨o', z3⟩ := c1 b o z hb
      exact ⟨o', fl2.1 b o' z3⟩
  · refine hok_of F.hok fun b o hb z => ?_
    obtain ⟨o', z3⟩ := c2 b hb
    exact keep b o o' z z3
theorem Fly.inv {x : Addr} {cls : Value} (I : Inv X pins σ H s) (F : Fly X.prog X.w X.stack H s x cls H' s') : Inv X pins σ H' s' :=
  I.call' (ch := []) F.os F.un F.hok F.bare fun _ z => nomatch z
end
noncomputable def excO (cls : Value) (x : Addr) : HO := .ext fun h => ∃ o vs, h.get? x = some o ∧ o.cls = cls ∧ o.data = .fields vs
end L2
namespace L2
open PySem PySem.Spec PyProof.Rows
section
variable {X : Cx} {pins : List (Addr × Obj)} {σ : St} {H : Hp} {s : Shared}
theorem Inv.track {x : Addr} {o : HO} (I : Inv X pins σ H s) (hx : H x = none) (new : X.s₀.heap.get? x = none) (nl : x ≠ X.env.locals) (nc : ∀ y c, X.env.cells.lookup y = some c → c ≠ x) (np : ∀ p ∈ X.pn ++ pins, p.1 ≠ x)
    (ok : ObjOk X.prog X.w (upd H x o) s.heap x o) : Inv X pins σ (upd H x o) s := by
  refine ⟨I.ok, I.os, I.bare, ⟨I.base.keep, I.base.slot, fun b u e n hb => ?_, I.base.there, fun b xs e => ?_, fun b u v e => ?_, fun b ps e => ?_⟩, I.loc, I.cell, ?_, fun y c e => ?_, fun p hp => ?_, fun b u e => ?_, I.len⟩
  · rw [upd_ne (fun z => by subst z; rw [new] at e; cases e)]
    exact I.base.free b u e n hb
  · have q := I.base.tups b xs e
    rw [upd_ne (ne_of_none q hx)]
    exact q
  · have q := I.base.frzs b u v e
    rw [upd_ne (ne_of_none q hx)]
    exact q
  · obtain ⟨m, q⟩ := I.base.tbls b ps e
    exact ⟨m, by rw [upd_ne (ne_of_none q hx)]; exact q⟩
  · rw [upd_ne nl.symm]
    exact I.free
  · rw [upd_ne (nc y c e)]
    exact I.freeC y c e
  · obtain ⟨e, n, r⟩ := I.pin p hp
    exact ⟨e, by rw [upd_ne (np p hp)]; exact n, r⟩
  · by_cases hb : b = x
    · subst hb
      rw [upd_same] at e
      cases e
      exact ok
    · rw [upd_ne hb] at e
      exact (I.hok b u e).stay (fun _ _ _ q => q) (fun c q => by rw [upd_ne (ne_of_none q hx)]; exact q) fun c xs q => by rw [upd_ne (ne_of_none q hx)]; exact q
theorem goes_ok {M : Model} {A : Around} {E : Value → Shared → Prop} {i : Nat} {n : Str} {pos : Pos} {Q : Unit → Shared → Prop} (I : Inv X pins σ H s) (hN : X.N.Nodup) (hi : X.N[i]? = some n) (hk : X.env.kindOf n = some .local)
    (h : ∀ s', Inv X pins (σ.set i none) H s' → Q () s') : wpAny M A (do bindName X.env n .none; unbindBehindTheSuite X.env n pos) Q E s := by
  obtain ⟨m, hn, hl⟩ := id I.loc
  have hcl : (X.env.scope.kind == .class || (X.env.scope.kind == .module && X.env.locals != X.env.globals)) = false := by
    rw [I.ok.kind]
    rfl
  refine wpAny_nameGoes_keeps hk hn hcl fun h' v hn' hs => h _ ?_
  obtain ⟨oL, _, _, hoL, _⟩ := id hn
  have lt : ∀ b o, X.s₀.heap.get? b = some o → b ≠ X.env.locals := fun b o e => Nat.ne_of_lt (Nat.lt_of_lt_of_le (Heap.lt_size e) I.ok.above)
  refine ⟨I.ok, I.os, I.bare, ⟨fun b o e n hb hx => (hs.2 b (lt b o e)).trans (I.base.keep b o e n hb hx), fun b o e n hb hx => ?_, I.base.free, fun b o e hx => ?_, I.base.tups, I.base.frzs, I.base.tbls⟩, ⟨_, hn', fun j y v' e1 e2 e3 => ?_⟩, fun y c e => ?_, I.free, I.freeC, fun p hp => ?_, fun b ob e => ?_, by simpa using I.len⟩
  · obtain ⟨sl, e1⟩ := I.base.slot b o e n hb hx
    exact ⟨sl, (hs.2 b (lt b o e)).trans e1⟩
  · obtain ⟨o', e1⟩ := I.base.there b o e hx
    exact ⟨o', (hs.2 b (lt b o e)).trans e1⟩
  · have hj : j ≠ i := by
      rintro rfl
      rw [List.getElem?_set] at e2
      split at e2
      · split at e2 <;> cases e2
      · rename_i z
        exact z rfl
    rw [List.getElem?_set_ne (Ne.symm hj)] at e2
    obtain ⟨u', r', q⟩ := hl j y v' e1 e2 e3
    refine ⟨u', r', ?_⟩
    rcases q with ⟨k, e⟩ | ⟨k, c, e, z⟩
    · refine .inl ⟨k, ?_⟩
      have ny : y ≠ n := fun e => hj (nodup_ix hN e1 (e ▸ hi))
      show (if y = n then v else m y) = some u'
      rw [if_neg ny]
      exact e
    · exact .inr ⟨k, c, e, z.sameBut hs (I.cne y c e)⟩
  · obtain ⟨w', z⟩ := I.cell y c e
    exact ⟨w', z.sameBut hs (I.cne y c e)⟩
  · obtain ⟨e, n, ne, nf, d⟩ := I.pin p hp
    exact ⟨(hs.2 p.1 ne).trans e, n, ne, nf, d⟩
  · refine (I.hok b ob e).stay (fun c w' hc q => (hs.2 c ?_).trans q) (fun _ q => q) fun _ _ q => q
    rintro rfl
    have fr := I.free
    rcases hc with rfl | hc
    · rw [fr] at e; cases e
    · rw [fr] at hc; cases hc
end
noncomputable def tTryAs (tb : TS) (R : St → Prop) (E : XK) (i : Nat) (th : TS) : TS := fun D σ H => tb D σ H ∧ ∀ (σ' : St) (x : Addr) (cls : Value) (b : Option Addr) (H' : Hp), R σ' → E cls b H' → H' x = none →
  th { nx := fun σ2 H2 => D.nx (σ2.set i none) H2, rt := D.rt, bk := fun σ2 H2 => D.bk (σ2.set i none) H2, ct := fun σ2 H2 => D.ct (σ2.set i none) H2 } (σ'.set i (some (.ref x))) (upd H' x (excO cls x))
noncomputable def tTry0 (tb : TS) (R : St → Prop) (E : XK) (th : TS) : TS := fun D σ H => tb D σ H ∧ ∀ (σ' : St) (cls : Value) (b : Option Addr) (H' : Hp), R σ' → E cls b H' → th D σ' H'
section
variable {X : Cx} {body : List Stmt} {b₀ : Stmt} {suite : List Stmt} {tb th : TS} {R : St → Prop} {E : XK} {i : Nat} {n cx : Str} {C : Addr} {np hpos pos : Pos}
noncomputable def xeT (X : Cx) (R : St → Prop) (E : XK) (pins : List (Addr × Obj)) : Value → Shared → Prop := fun e s' => ∃ σ1 H1 s1 x cls H' b, e = .ref x ∧ R σ1 ∧ Inv X pins σ1 H1 s1 ∧ Fly X.prog X.w X.stack H1 s1 x cls H' s' ∧ (b = Option.none → CtxN s'.heap x) ∧ E cls b H'
theorem xeT_pass {pins : List (Addr × Obj)} : PassR (CXE X.prog X.w) (X.at' (X.pn ++ pins) (xeT X R E pins)) E R := fun _ σ1 H1 s1 _ _ hR I1 ⟨x, cls, H', b, e1, F, cn, q⟩ => ⟨σ1, H1, s1, x, cls, H', b, e1, hR, I1.of_at, F, cn, q⟩
theorem sp_of {pins pl : List (Addr × Obj)} {xe : Value → Shared → Prop} {D : Ends} {f : Flow} {s1 : Shared} (q : SP (X.at' (X.pn ++ pins) xe) pl D f s1) : SP X pins D f s1 := by
  cases f with
  | next => obtain ⟨σ', H', I', q'⟩ := q; exact ⟨σ', H', I'.of_at, q'⟩
  | brk => obtain ⟨σ', H', I', q'⟩ := q; exact ⟨σ', H', I'.of_at, q'⟩
  | cont => obtain ⟨σ', H', I', q'⟩ := q; exact ⟨σ', H', I'.of_at, q'⟩
  | ret u => obtain ⟨v, σ', H', I', q'⟩ := q; exact ⟨v, σ', H', I'.of_at, q'⟩
theorem Fly.lands {pins : List (Addr × Obj)} {σ1 : St} {H1 H' : Hp} {s0 s1 : Shared} {x : Addr} {cls : Value} {h2 B : Heap} {a0 : Value} (I1 : Inv X pins σ1 H1 s0) (F : Fly X.prog X.w X.stack H1 s0 x cls H' s1) (fl : Heap.FlyingW B X.stack x cls a0 s1.heap)
    (c1 : ∀ b o, s0.heap.get? b = some o → b ∉ frs X.stack → ∃ o', B.get? b = some o') (c2 : ∀ b, H' b ≠ none → ∃ o, B.get? b = some o) (fl2 : Heap.FlyingW B X.stack x cls a0 h2) (sl : s1.heap.UpToSlots h2) :
    Fly X.prog X.w X.stack H1 s0 x cls H' { s1 with heap := h2 } ∧ Inv X pins σ1 H' { s1 with heap := h2 } := by
  have F2 := F.step fl c1 c2 (fun b hb => I1.stkFree b hb) fl2 sl
  exact ⟨F2, Fly.inv I1 F2⟩
theorem rd_tryAs {D : Ends} {σ : St} {H : Hp} (q : tb D σ H) (r : ∀ (σ' : St) (x : Addr) (cls : Value) (b : Option Addr) (H' : Hp), R σ' → E cls b H' → H' x = none →
    th { nx := fun σ2 H2 => D.nx (σ2.set i none) H2, rt := D.rt, bk := fun σ2 H2 => D.bk (σ2.set i none) H2, ct := fun σ2 H2 => D.ct (σ2.set i none) H2 } (σ'.set i (some (.ref x))) (upd H' x (excO cls x))) : tTryAs tb R E i th D σ H := ⟨q, r⟩
end
end L2
namespace L2
open PySem PySem.Spec PyProof.Rows
theorem pe_clsN {X : Cx} {x : Str} {C : Addr} {pos : Pos} (hm : X.mg x = some (.ref C)) (hg : Gl X x) (hd : (x == ("__debug__" : Str)) = false := by decide) : PE X (.Name x pos) (tC (.ref C)) := pe_glob hg hm rfl hd
structure ExcK (K : PySem.W.Frag) (C : Addr) : Prop where
  ex : ExcC K C
  ga : PySem.W.findIn K (.ref C) "__getattribute__" = some (some (.builtin "BaseException.__getattribute__"))
  gn : PySem.W.findIn K (.ref C) "__getattr__" = some none
  gc : PySem.W.findIn K (.ref C) "__class__" = some (some (.builtin "object.__class__"))
  dg : PySem.W.specialIn K (.builtin "object.__class__") "__get__" = some (some (.builtin "getset_descriptor.__get__"))
  dt : PySem.W.takesIn K (.builtin "object.__class__") = some true
  mo : PySem.W.mroIn K C (.type "object") = some true
  be : PySem.W.subIn K (.ref C) (.type "BaseException") = some true
  ty : PySem.W.typeIn K (.ref C) = some (.type "type")
  se : PySem.W.subIn K (.ref C) (.ref C) = some true
theorem cls_some {K : PySem.W.Frag} {C : Addr} {b : Value} {r : Bool} (h : PySem.W.mroIn K C b = some r) : (PySem.W.clsIn K C).isSome = true := by
  obtain ⟨cd, a, _⟩ := Option.bind_eq_some_iff.mp h
  rw [a]
  rfl
theorem kitCls_ref {K : PySem.W.Frag} {C : Addr} {t b : Value} {r q : Bool} (h1 : PySem.W.mroIn K C b = some q) (h2 : PySem.W.typeIn K (.ref C) = some (.type "type")) (h3 : PySem.W.subIn K t (.ref C) = some r) : PySem.W.kitCls K t (.ref C) = some r := by
  unfold PySem.W.kitCls
  dsimp only
  rw [if_pos (by rw [cls_some h1, h2]; rfl)]
  exact h3
theorem kitOne_ref {K : PySem.W.Frag} {C D : Addr} {r : Bool} (k : ExcK K C) (h3 : PySem.W.subIn K (.ref D) (.ref C) = some r) (ne : D = C → r = true) : PySem.W.kitOne K (.ref D) (.ref C) = some r := by
  unfold PySem.W.kitOne
  by_cases e : (Value.ref D == Value.ref C) = true
  · rw [if_pos e, ne (Value.ref.inj (beq_iff_eq.mp e))]
  · rw [if_neg e]
    exact kitCls_ref k.mo k.ty h3
theorem kitOne_ty {K : PySem.W.Frag} {D : Addr} {T : String} {r : Bool} (hT : PySem.W.kitMeta T = true) (h3 : PySem.W.subIn K (.ref D) (.type T) = some r) : PySem.W.kitOne K (.ref D) (.type T) = some r := by
  unfold PySem.W.kitOne
  rw [if_neg (fun e => by cases beq_iff_eq.mp e)]
  unfold PySem.W.kitCls
  dsimp only
  rw [if_pos hT]
  exact h3
theorem exm_of {K : PySem.W.Frag} {C D : Addr} {r : Bool} (k : ExcK K C) (h3 : PySem.W.subIn K (.ref D) (.ref C) = some r) : PySem.W.exmOne K (.ref D) (.ref C) = some r := by
  unfold PySem.W.exmOne
  rw [if_pos (by rw [k.be]; rfl)]
  exact kitCls_ref k.mo k.ty h3
section
variable {prog : Program} {w : World} {A : Around} {E : Value → Shared → Prop} {s : Shared} {K : PySem.W.Frag} {x C : Addr}
open PySem.W
theorem find_data {M : Model} {h : Heap} {name : Str} {a g : Value} (X : K.In h) (ha : findIn K (.ref C) name = some (some a)) (hg : specialIn K a "__get__" = some (some g)) (ht : takesIn K a = some true) :
    Looks M h (Builtin.ObjectAttr.find (.ref x) (.ref C) name) (.bind g a) := by
  have L1 := looks_findIn (M := M) X ha
  have L2 : Looks M h (Builtin.ObjectAttr.getOf (some a)) (some g) := looks_specialIn X hg
  have L3 := looks_takesIn (M := M) X ht
  have L4 : Looks M h (Builtin.ObjectAttr.dataDescriptor? (some a) (some g)) (some (g, a)) := L3.andThen .now
  exact L1.andThen (L2.andThen (L4.andThen (Looks.tag .now)))
theorem excClass_get {R : Result → Shared → Prop} {tp : Value} (X : K.In s.heap) (L0 : Looks (model prog w) s.heap (typeOf (.ref x)) (.ref C)) (hm : mroIn K C (.type "object") = some true)
    (h : R (.ok (.ret (.ref C))) s) : codeAny (model prog w) A (.call (.builtin "getset_descriptor.__get__") ⟨[.builtin "object.__class__", .ref x, tp], []⟩) R s := by
  obtain ⟨hh, g, dr, t, os⟩ := s
  have L1 := looks_mroIn (M := model prog w) X hm
  refine codeAny_call_builtin KF.slot_gs.plain KF.entry_gs (KF.slot_gs.check _ _ _ _ _ _ _ _ KF.type_class (KF.args_gs _ _ _) (?_))
  unfold Builtin.«getset_descriptor.__get__» Builtin.Getset_descriptor.descrGet
  rw [dga_obj]
  refine wpAny_bind (wpAny_pure (?_))
  unfold Builtin.Getset_descriptor.descrGetter Builtin.Getset_descriptor.descrCheckInstance Builtin.Getset_descriptor.descrNameAndClass isInstance
  simp only [KF.owner_class]
  repeat lk
  refine ⟨Code.quiet_builtin _ (by decide +kernel), codeAny_builtin KF.entry_class (?_)⟩
  unfold Builtin.«object.__class__» shownTypeOf
  repeat lk
  exact h
theorem excClass_at {Q : Option Value → Shared → Prop} {o : Obj} (X : K.In s.heap) (k : ExcK K C) (hx : s.heap.get? x = some o) (hc : o.cls = .ref C)
    (h : Q (some (.ref C)) { s with toks := s.toks + 1 }) : wpAny (model prog w) A (getAttr? (.ref x) "__class__") Q E s := by
  have L0 : Looks (model prog w) s.heap (typeOf (.ref x)) (.ref C) := hc ▸ (Looks.ld hx).andThen .now
  obtain ⟨hh, g, d, t, os⟩ := s
  have L1 := looks_findIn (M := model prog w) X k.ga
  have L2 := looks_findIn (M := model prog w) X k.gn
  have L3 := find_data (M := model prog w) (x := x) X k.gc k.dg k.dt
  have LI : Looks (model prog w) hh (isInstance (.ref x) (.type "BaseException")) true := L0.andThen (looks_subIn X k.be)
  have hx2 : ¬ (onTheHeap (Value.ref C) && Value.builtin "BaseException.__getattribute__" == Value.builtin "object.__getattribute__") = true := by
    have e : (Value.builtin "BaseException.__getattribute__" == Value.builtin "object.__getattribute__") = false := by decide +kernel
    rw [e, Bool.and_false]
    exact Bool.false_ne_true
  unfold getAttr? getAttrBy? getAttrBy
  refine wpAny_bind (wpAny_mkText (wpAny_bind (wpAny_attempt (wpAny_holding (wpAny_bind (L0.at (wpAny_bind (L1.at (?_)))))))))
  dsimp only
  rw [if_neg hx2]
  unfold getAttrByItsOwn hookBefore
  rw [if_pos (show onTheHeap (Value.ref C) = true from rfl)]
  refine wpAny_bind (L2.at (wpAny_bind (wpAny_attempt (wpAny_holding ?_))))
  unfold callGetattribute boundAndCalled
  rw [if_neg (by intro z; cases z), PySem.F.excAttr_ValueError.ga.bind (.ref x)]
  refine wpAny_bind (wpAny_pure (wpAny_call ?_))
  refine codeAny_call_builtin PySem.F.excAttr_ValueError.ga.plain PySem.F.entry_bexc_ga ?_
  have hk : builtinKind "BaseException.__getattribute__" = some .slot := by decide +kernel
  have hsp : splitId "BaseException.__getattribute__" = some ("BaseException", "__getattribute__") := by decide +kernel
  have ar := PySem.F.args_bexc_ga (.ref x) (.str "__class__" t)
  simp only [checkBuiltinCall, hk, hsp]
  refine wpAny_bind (LI.at ?_)
  repeat (any_goals (first | assumption | (with_reducible refine wpAny_loadPart_at hx ?_; rw [hc]) | with_reducible refine Looks.at L3 ?_ | wp_step))
  refine excClass_get X L0 k.mo ?_
  repeat (any_goals (first | assumption | wp_step))
theorem kitx_exc (k : ExcK K C) : KitX K (.ref x) (.ref C) (fun h => ∃ o vs, h.get? x = some o ∧ o.cls = .ref C ∧ o.data = .fields vs) where
  ty := fun _ _ _ p => by
    obtain ⟨o, vs, h1, h2, _⟩ := p
    exact h2 ▸ (Looks.ld h1).andThen .now
  it := fun M h X _ => (kit_cls (M := M) (t := .ref C) (v := true) X (kitCls_ref k.mo k.ty k.se)).2.1
  ne := fun h tp dd its n sl X htp => by
    refine Bool.eq_false_iff.mpr fun q => ?_
    obtain ⟨bm, N, nm, qn, bs, hd, sn, sub, ab, col, dd', k0, k1, k2, k3, k5, lk, _⟩ := exc_parts k.ex
    have e : C = tp := Value.ref.inj (beq_iff_eq.mp q)
    subst e
    have z := congrArg Obj.cls (Option.some.inj ((X _ _ lk).symm.trans htp))
    exact absurd (Value.type.inj z) (by decide)
  ca := fun {_ _ _ _ _ s} X p z => by
    obtain ⟨o, vs, h1, h2, _⟩ := p
    exact excClass_at X k h1 h2 z
end
noncomputable def rIsiE (K : PySem.W.Frag) : List V → Hp → VK → Prop := fun xs H Q => ∃ (a C : Addr) (c : V) (cv : Value) (b : Bool), xs = [.ref a, c] ∧ clV c = some cv ∧ H a = some (excO (.ref C) a) ∧ ExcK K C ∧ PySem.W.kitOne K (.ref C) cv = some b ∧ Q (.bl b) H
section
variable {X : Cx}
theorem call_isiE : CallR X (.builtin "isinstance") (rIsiE X.K) := by
  intro pins s σ H xs us Q I r h
  obtain ⟨a, C, c, cv, b, rfl, hc, ha, k, e, q⟩ := h
  obtain ⟨u, w', rfl, rx, rc⟩ := vals2 r
  have hw : w' = cv := by
    cases c with
    | ty n => cases hc; exact rc
    | ref a => cases hc; exact rc
    | _ => cases hc
  subst hw
  cases (show u = Value.ref a from rx)
  obtain ⟨p, _⟩ := (show ObjOk X.prog X.w H s.heap a (excO (.ref C) a) from I.hok a _ ha)
  exact PySem.W.kia_one (kitx_exc k) I.kIn p e (fun z => nomatch z) fun tk => ⟨.bl b, H, I.tok tk, rfl, q⟩
theorem call_isiEK {K : PySem.W.Frag} (h : X.K = K := by rfl) : CallR X (.builtin "isinstance") (rIsiE K) := h ▸ call_isiE
noncomputable def rCount : V → List V → Hp → VK → Prop := fun x vs H Q => ∃ (l : Addr) (xs : List V) (ds : List PyData) (y : V) (d : PyData), x = .ref l ∧ vs = [y] ∧ H l = some (.lst xs) ∧ DenAll H xs ds ∧ Den H y d ∧ PyData.canLayAll0 ds = true ∧ d.canLay0 = true ∧ d.depth ≤ 60 ∧
  Q (.int (ds.countP fun z => PyData.eqv z d : Nat)) H
noncomputable def rIndex : V → List V → Hp → VK → Prop := fun x vs H Q => ∃ (l : Addr) (xs : List V) (ds : List PyData) (y : V) (d : PyData) (j : Nat), x = .ref l ∧ vs = [y] ∧ H l = some (.lst xs) ∧ DenAll H xs ds ∧ Den H y d ∧ PyData.canLayAll0 ds = true ∧ d.canLay0 = true ∧ d.depth ≤ 60 ∧
  (ds[j]?.map fun z => PyData.eqv z d) = some true ∧ (∀ m, m < j → (ds[m]?.map fun z => PyData.eqv z d) = some false) ∧ Q (.int (j : Nat)) H
theorem mt_count (hu : X.A.units + 64 < cLine) : MtM X "list.count" rCount := by
  intro pins s σ H x vs v us Q I rx rv h
  obtain ⟨l, xs, ds, y, d, rfl, rfl, hH, dx, dy, c1, c2, hd, q⟩ := h
  cases rx
  obtain ⟨u, rfl, ru⟩ := rv.one
  obtain ⟨z, its, n, r, hl, e⟩ := I.lstM hH
  obtain ⟨as, r1⟩ := dx.reads I r
  obtain ⟨bs, r2⟩ := dy.reads I ru
  refine call_meets PySem.F.slot_list_count ⟨_, e, rfl⟩ PySem.F.entry_list_count (PySem.F.args_list_count_2 _ _) (SeqAt.list_countAt l its.toArray n none #[] u (fun w => PyData.eqv (SeqAt.readOf s.heap w) d))
    ⟨e, SeqAt.items_eqAt (vs := its.toArray) (by simpa using r1) r2 c1 c2 (by omega), ?_⟩
  have ec : its.countP (fun w => PyData.eqv (SeqAt.readOf s.heap w) d) = ds.countP fun w => PyData.eqv w d := by
    rw [← SeqAt.readsAll_map ds its as c1 r1, List.countP_map]
    rfl
  refine ⟨.int _, H, I.tok _, ⟨s.toks, ?_⟩, q⟩
  rw [← ec]
theorem mt_index (hu : X.A.units + 64 < cLine) : MtM X "list.index" rIndex := by
  intro pins s σ H x vs v us Q I rx rv h
  obtain ⟨l, xs, ds, y, d, j, rfl, rfl, hH, dx, dy, c1, c2, hd, hit, hno, q⟩ := h
  cases rx
  obtain ⟨u, rfl, ru⟩ := rv.one
  obtain ⟨z, its, n, r, hl, e⟩ := I.lstM hH
  obtain ⟨as, r1⟩ := dx.reads I r
  obtain ⟨bs, r2⟩ := dy.reads I ru
  have em := SeqAt.readsAll_map ds its as c1 r1
  have at_ : ∀ (m : Nat) (b : Bool), (ds[m]?.map fun z => PyData.eqv z d) = some b → ∀ hm : m < its.length, PyData.eqv (SeqAt.readOf s.heap its[m]) d = b := fun m b hb hm => by
    rw [← em, List.getElem?_map, List.getElem?_eq_getElem hm] at hb
    exact Option.some.inj hb
  have hj : j < its.length := by
    have l1 := dx.length
    have l2 : j < ds.length := by
      cases e2 : ds[j]? with
      | none => rw [e2] at hit; cases hit
      | some z => exact (List.getElem?_eq_some_iff.mp e2).1
    omega
  have sz : its.length ≤ sizeLine := by omega
  rw [sizeLine_eq] at sz
  refine call_meets PySem.F.slot_list_index ⟨_, e, rfl⟩ PySem.F.entry_list_index (PySem.F.args_list_index_2 _ _) (SeqAt.list_indexAt l its.toArray n none #[] u (fun w => PyData.eqv (SeqAt.readOf s.heap w) d) j (by simpa using hj) (by omega) ?_ ?_)
    ⟨e, SeqAt.items_eqAt (vs := its.toArray) (by simpa using r1) r2 c1 c2 (by omega), ⟨.int _, H, I.tok _, ⟨_, rfl⟩, q⟩⟩
  · show PyData.eqv (SeqAt.readOf s.heap its[j]) d = true
    exact at_ j true hit hj
  · intro m hm hlt
    show PyData.eqv (SeqAt.readOf s.heap its[m]) d = false
    exact at_ m false (hno m hlt) (by simpa using hm)
end
section
variable {H : Hp} {Q : VK}
end
end L2
namespace L2
open PySem PySem.Spec PyProof.Rows
theorem rd_raise {E : XK} {C : Addr} {ta : TA} {D : Ends} {σ : St} {H : Hp} (q : ta σ H fun vs H1 => vs.length ≤ sizeLine ∧ E (.ref C) none H1) : tRaise E C ta D σ H := q
theorem rd_callR {sp : Sp} {R : St → Prop} {E : XK} {t : TA} {σ : St} {H : Hp} {Q : VK} (q : t σ H fun vs H1 => R σ ∧ sp (vs ++ []) H1 Q E) : tCallR sp R E t σ H Q := q
theorem rd_makeR {C : Addr} {sp : Sp} {R : St → Prop} {E : XK} {t : TA} {σ : St} {H : Hp} {Q : VK} (q : t σ H fun vs H1 => R σ ∧ ∀ x dx, H1 x = none → H1 dx = none → dx ≠ x → sp (.ref x :: (vs ++ [])) (upd (upd H1 dx (.own x)) x (.ins C dx [])) (fun v H2 => v = .non ∧ Q (.ref x) H2) E) : tMakeR C sp R E t σ H Q := q
theorem bt_ValueError : bootBuiltins "ValueError" = some (.type "ValueError") := by decide +kernel
theorem iteDF {c A B : Prop} {d : Decidable c} (h : ¬ c) (q : B) : if @decide c d = true then A else B := by
  rw [decide_eq_false h]
  exact iteF q
theorem iteDT {c A B : Prop} {d : Decidable c} (h : c) (q : A) : if @decide c d = true then A else B := by
  rw [decide_eq_true h]
  exact iteT q
end L2
namespace L2
open PySem PySem.Spec PyProof.Rows
theorem rd_neg {i : Int} {H : Hp} {Q : VK} (q : Q (.int (-i)) H) : rU (fun i => .int (-i)) (.int i) H Q := ⟨i, rfl, q⟩
end L2
namespace L2
open PySem PySem.Spec PyProof.Rows
section
variable {es : List Expr} {env : Env} {p : Pos}
theorem se_binop {a b : Expr} {o : Operator} : starEach (.BinOp a o b p :: es) env = (false, eval (.BinOp a o b p) env) :: starEach es env := rfl
theorem se_name {x : Str} : starEach (.Name x p :: es) env = (false, eval (.Name x p) env) :: starEach es env := rfl
theorem se_const {c : Const} {j : _} : starEach (.Constant c j p :: es) env = (false, eval (.Constant c j p) env) :: starEach es env := rfl
theorem se_call {f : Expr} {a : List Expr} {k : _} : starEach (.Call f a k p :: es) env = (false, eval (.Call f a k p) env) :: starEach es env := rfl
theorem se_sub {a b : Expr} : starEach (.Subscript a b p :: es) env = (false, eval (.Subscript a b p) env) :: starEach es env := rfl
theorem se_attr {a : Expr} {f : Str} : starEach (.Attribute a f p :: es) env = (false, eval (.Attribute a f p) env) :: starEach es env := rfl
theorem se_fstr {l : List Expr} : starEach (.JoinedStr l p :: es) env = (false, eval (.JoinedStr l p) env) :: starEach es env := rfl
theorem se_comp {e : Expr} {g : _} {sc : _} : starEach (.ListComp e g sc p :: es) env = (false, eval (.ListComp e g sc p) env) :: starEach es env := rfl
end
end L2
namespace L2
theorem iteNDT {c A B : Prop} {d : Decidable c} (h : c) (q : B) : if (!@decide c d) = true then A else B := by
  rw [decide_eq_true h]
  exact iteF q
theorem iteNDF {c A B : Prop} {d : Decidable c} (h : ¬ c) (q : A) : if (!@decide c d) = true then A else B := by
  rw [decide_eq_false h]
  exact iteT q
end L2
namespace L2
open PySem PySem.Spec PyProof.Rows
end L2
namespace L2
end L2
namespace L2
end L2
namespace L2
theorem rd_isN {ta : TE} {σ : St} {H : Hp} {Q : VK} (q : ta σ H fun x H1 => Q (.bl (decide (x = .non))) H1) : tIsN ta σ H Q := q
theorem rd_notN {ta : TE} {σ : St} {H : Hp} {Q : VK} (q : ta σ H fun x H1 => Q (.bl (!decide (x = .non))) H1) : tNotN ta σ H Q := q
end L2
namespace L2
open PySem PySem.Spec PyProof.Rows
section
variable {κ : Type} [DecidableEq κ]
noncomputable def valV (kvs : List (κ × V)) (k : κ) : Option V := (kvs.find? fun kv => decide (kv.1 = k)).map (·.2)
noncomputable def putK (kvs : List (κ × V)) (k : κ) (v : V) : List (κ × V) :=
  if (kvs.any fun kv => decide (kv.1 = k)) = true then kvs.map (fun kv => if kv.1 = k then (kv.1, v) else kv) else kvs ++ [(k, v)]
noncomputable def dropK (kvs : List (κ × V)) (k : κ) : List (κ × V) := kvs.filter fun kv => decide (kv.1 ≠ k)
end
abbrev KT (H : Hp) : List (List Key × V) → List (List Key × Addr × Value) → Prop := Paired fun p q => p.1 = q.1 ∧ H q.2.1 = some (.tup (p.1.map kV)) ∧ RelV p.2 q.2.2
section
variable {P : Program} {w : World} {H : Hp} {h : Heap} {a : Addr}
end
noncomputable def DGet (H : Hp) (a : Addr) (y : V) (r : Option V) : Prop :=
  (∃ kvs k, Rd H a (.dK kvs) ∧ y = kV k ∧ r = valV kvs k) ∨ ∃ kvs k b, Rd H a (.dT kvs) ∧ y = .ref b ∧ H b = some (.tup (k.map kV)) ∧ r = valV kvs k
noncomputable def DPut (H : Hp) (a : Addr) (y v : V) (H' : Hp) : Prop :=
  (∃ kvs k, H a = some (.dK kvs) ∧ y = kV k ∧ kvs.length < sizeLine ∧ H' = upd H a (.dK (putK kvs k v))) ∨
  ∃ kvs k b, H a = some (.dT kvs) ∧ y = .ref b ∧ H b = some (.tup (k.map kV)) ∧ kvs.length < sizeLine ∧ H' = upd H a (.dT (putK kvs k v))
section
variable {X : Cx} {pins : List (Addr × Obj)} {σ : St} {H : Hp} {s : Shared} {a : Addr} {y v : V} {u r : Value} {o : Option V} {A : Around} {E : Value → Shared → Prop}
end
section
variable {X : Cx} {pins : List (Addr × Obj)} {σ : St} {H : Hp} {s : Shared} {a : Addr} {kvs : List (Key × V)} {k : Key} {u : Value} {A : Around} {E : Value → Shared → Prop}
end
noncomputable def NoSl (i : Expr) : Prop := ∀ ov iv, subscripted i false ov iv = operate [ov, iv] (getItem ov iv)
noncomputable def tDGet (td ty : TE) : TE := fun σ H Q => td σ H fun x H1 => ty σ H1 fun y H2 => ∃ a v, x = .ref a ∧ DGet H2 a y (some v) ∧ Q v H2
noncomputable def tDIn (ty td : TE) : TE := fun σ H Q => ty σ H fun y H1 => td σ H1 fun x H2 => ∃ a o, x = .ref a ∧ DGet H2 a y o ∧ Q (.bl o.isSome) H2
noncomputable def tDNotIn (ty td : TE) : TE := fun σ H Q => ty σ H fun y H1 => td σ H1 fun x H2 => ∃ a o, x = .ref a ∧ DGet H2 a y o ∧ Q (.bl (!o.isSome)) H2
noncomputable def sDPut (td ty tv : TE) : TS := fun D σ H => tv σ H fun v H1 => td σ H1 fun x H2 => ty σ H2 fun y H3 => ∃ a H4, x = .ref a ∧ DPut H3 a y v H4 ∧ D.nx σ H4
noncomputable def sDAug (td ty tv : TE) (rd : V → V → Hp → VK → Prop) : TS := fun D σ H => td σ H fun x H1 => ty σ H1 fun y H2 => ∃ a v, x = .ref a ∧ DGet H2 a y (some v) ∧
  tv σ H2 fun y2 H3 => rd v y2 H3 fun z H4 => ∃ H5, DPut H4 a y z H5 ∧ D.nx σ H5
noncomputable def sDDel (td ty : TE) : TS := fun D σ H => td σ H fun x H1 => ty σ H1 fun y H2 => ∃ a kvs k, x = .ref a ∧ H2 a = some (.dK kvs) ∧ y = kV k ∧ (valV kvs k).isSome = true ∧ D.nx σ (upd H2 a (.dK (dropK kvs k)))
section
variable {X : Cx} {o i e value : Expr} {pos pos' tpos : Pos} {td ty tv : TE}
end
noncomputable def tDNewK : TE := fun _ H Q => ∀ p, H p = none → Q (.ref p) (upd H p (.dK []))
noncomputable def tDNewT : TE := fun _ H Q => ∀ p, H p = none → Q (.ref p) (upd H p (.dT []))
section
variable {X : Cx} {pos : Pos}
end
noncomputable def tPairs : List (TE × TE) → St → Hp → (List (V × V) → Hp → Prop) → Prop
  | [], _, H, Q => Q [] H
  | (tk, tv) :: r, σ, H, Q => tk σ H fun x H1 => tv σ H1 fun y H2 => tPairs r σ H2 fun ps H3 => Q ((x, y) :: ps) H3
abbrev VV : List (V × V) → List (Value × Value) → Prop := Paired fun p q => RelV p.1 q.1 ∧ RelV p.2 q.2
noncomputable def PPs (X : Cx) (pos : Pos) (keys : List (Option Expr)) (values : List Expr) (trs : List (TE × TE)) : Prop :=
  ∀ (pins : List (Addr × Obj)) (s : Shared) (σ : St) (H : Hp) (Q : List (V × V) → Hp → Prop), Inv X pins σ H s → tPairs trs σ H Q →
    wpAny (model X.prog X.w) X.A (evalPairs (pairTrees keys values X.env pos)) (fun vs s' => ∃ ps H', Inv X pins σ H' s' ∧ VV ps vs ∧ Q ps H') X.xe s
noncomputable def mergeK (kvs more : List (Key × V)) : List (Key × V) := more.foldl (fun acc kv => putK acc kv.1 kv.2) kvs
noncomputable def tDisp (trs : List (TE × TE)) : TE := fun σ H Q => ∀ p, H p = none → tPairs trs σ (upd H p (.dK [])) fun ps H2 => H2 p = some (.dK []) ∧ ∃ kvs : List (Key × V), ps = kvs.map (fun kv => (kV kv.1, kv.2)) ∧ kvs.length ≤ 15 ∧ Q (.ref p) (upd H2 p (.dK (mergeK [] kvs)))
structure M1 (X : Cx) (o : Expr) (m : Str) (apos : Pos) (e : Expr) (cpos : Pos) : Prop where
  base : attributeBase o m X.env (eval o X.env) = eval o X.env
  few : ((backTo cpos (starEach [e] X.env)).all (fun x => !x.1) && (backToKw cpos (keywordEach [] X.env)).all (fun x => x.1.isSome)
    && decide (([e] : List Expr).length + ([] : List Keyword).length + (if ([] : List Keyword).isEmpty then 0 else 1) < 30)) = true
  line : (apos.endLine == cpos.line) = true
  trees : backTo cpos (starEach [e] X.env) = [(false, eval e X.env)]
structure M2 (X : Cx) (o : Expr) (m : Str) (apos : Pos) (e f : Expr) (cpos : Pos) : Prop where
  base : attributeBase o m X.env (eval o X.env) = eval o X.env
  few : ((backTo cpos (starEach [e, f] X.env)).all (fun x => !x.1) && (backToKw cpos (keywordEach [] X.env)).all (fun x => x.1.isSome)
    && decide (([e, f] : List Expr).length + ([] : List Keyword).length + (if ([] : List Keyword).isEmpty then 0 else 1) < 30)) = true
  line : (apos.endLine == cpos.line) = true
  trees : backTo cpos (starEach [e, f] X.env) = [(false, eval e X.env), (false, eval f X.env)]
noncomputable def IsD (H : Hp) (a : Addr) : Prop := (∃ kvs, Rd H a (.dK kvs)) ∨ ∃ kvs, Rd H a (.dT kvs)
section
variable {X : Cx} {pins : List (Addr × Obj)} {σ : St} {H : Hp} {s : Shared} {a : Addr} {y d : V} {u r : Value} {o : Option V} {A : Around} {E : Value → Shared → Prop}
end
noncomputable def tDGet1 (td ty : TE) : TE := fun σ H Q => td σ H fun x H1 => ∃ a, x = .ref a ∧ IsD H1 a ∧ ty σ H1 fun y H2 => ∃ o, DGet H2 a y o ∧ Q (o.getD .non) H2
noncomputable def tDGet2 (td ty tx : TE) : TE := fun σ H Q => td σ H fun x H1 => ∃ a, x = .ref a ∧ IsD H1 a ∧ ty σ H1 fun y H2 => tx σ H2 fun z H3 => ∃ o, DGet H3 a y o ∧ Q (o.getD z) H3
noncomputable def tDPop1 (td ty : TE) : TE := fun σ H Q => td σ H fun x H1 => ∃ a, x = .ref a ∧ IsD H1 a ∧ ty σ H1 fun y H2 => ∃ kvs k v, H2 a = some (.dK kvs) ∧ y = kV k ∧ valV kvs k = some v ∧ Q v (upd H2 a (.dK (dropK kvs k)))
noncomputable def tDPop2 (td ty tx : TE) : TE := fun σ H Q => td σ H fun x H1 => ∃ a, x = .ref a ∧ IsD H1 a ∧ ty σ H1 fun y H2 => tx σ H2 fun z H3 => ∃ kvs k, H3 a = some (.dK kvs) ∧ y = kV k ∧
  (∀ v, valV kvs k = some v → Q v (upd H3 a (.dK (dropK kvs k)))) ∧ (valV kvs k = none → Q z H3)
section
variable {X : Cx} {o e f : Expr} {apos cpos : Pos} {td ty tx : TE}
end
section
variable {X : Cx} {pins : List (Addr × Obj)} {σ : St} {H : Hp} {s : Shared} {a : Addr} {kvs : List (Key × V)} {A : Around} {E : Value → Shared → Prop}
end
section
variable {X : Cx} {pins : List (Addr × Obj)} {σ : St} {H : Hp} {s : Shared} {a : Addr} {y : V} {u : Value} {A : Around} {E : Value → Shared → Prop}
end
end L2
namespace L2
open PySem PySem.Spec PyProof.Rows
section
variable {prog : Program} {w : World} {A : Around} {E : Value → Shared → Prop} {s : Shared}
end
end L2
namespace L2
open PySem PySem.Spec PyProof.Rows
noncomputable def pairOf (H : Hp) : HO → Nat → V → V → Prop
  | .dK kvs, i, x, y => ∃ p, kvs[i]? = some p ∧ x = kV p.1 ∧ y = p.2
  | .dT kvs, i, x, y => ∃ p b, kvs[i]? = some p ∧ x = .ref b ∧ H b = some (.tup (p.1.map kV)) ∧ y = p.2
  | _, _, _, _ => False
noncomputable def dLen : HO → Nat
  | .dK kvs => kvs.length
  | .dT kvs => kvs.length
  | _ => 0
noncomputable def isDct : HO → Prop
  | .dK _ => True
  | .dT _ => True
  | _ => False
section
variable {P : Program} {w : World} {H : Hp} {h : Heap} {a : Addr} {u : HO}
end
section
variable {X : Cx} {pins : List (Addr × Obj)} {σ : St} {H : Hp} {s : Shared} {a : Addr} {o : Obj} {u : HO}
end
noncomputable def Itd (a : Addr) (o : Obj) (u : HO) : It :=
  ⟨fun i H => H a = some (.frz o u) ∧ i < dLen u, fun i H v H' => ∃ t x y, v = .ref t ∧ H t = none ∧ H' = upd H t (.tup [x, y]) ∧ pairOf H u i x y, fun i H => H a = some (.frz o u) ∧ dLen u ≤ i⟩
noncomputable def iItems (to : TE) : TI := fun σ H R => to σ H fun x H1 => ∃ a u, x = .ref a ∧ H1 a = some u ∧ isDct u ∧ ∀ o, R (Itd a o u) (upd H1 a (.frz o u))
section
variable {X : Cx}
end
end L2
namespace L2
open PySem PySem.Spec PyProof.Rows
section
variable {src : List (Option Nat)} {g : TG} {tt : TT} {te to : TE} {Q : VK} {σ : St} {H : Hp} {p a : Addr} {o : Obj} {u : HO}
end
end L2
namespace L2
structure Tally {α κ : Type} [DecidableEq α] [DecidableEq κ] (key : α → κ) (kvs : List (κ × V)) (pre : List α) : Prop where
  val : ∀ z, valV kvs (key z) = if z ∈ pre then some (.int (pre.count z : Nat)) else none
  mem : ∀ p ∈ kvs, ∃ z ∈ pre, p = (key z, .int (pre.count z : Nat))
  len : kvs.length ≤ pre.length
section
variable {α κ : Type} [DecidableEq α] [DecidableEq κ] {key : α → κ} {kvs : List (κ × V)} {pre : List α}
noncomputable def fB (cap : κ → Int) (p : κ × V) : Bool := match p.2 with
  | .int n => decide (n ≤ cap p.1)
  | _ => false
end
end L2
namespace L2
open PySem PySem.Spec PyProof.Rows
end L2
namespace L2
open PySem PySem.Spec PyProof.Rows
section
variable {X : Cx}
noncomputable def insAt {α : Type} (xs : List α) (k : Nat) (y : α) : List α := xs.take k ++ y :: xs.drop k
noncomputable def rInsert : V → List V → Hp → VK → Prop := fun x vs H Q => ∃ l xs i y, x = .ref l ∧ vs = [.int i, y] ∧ H l = some (.lst xs) ∧ 0 ≤ i ∧ i ≤ xs.length ∧ xs.length < sizeLine ∧ Q .non (upd H l (.lst (insAt xs i.toNat y)))
theorem fits_in {i : Int} {n : Nat} (h0 : 0 ≤ i) (h : i ≤ n) (hn : n ≤ sizeLine) : ¬ (!Builtin.List.listFitsIndex i) = true := by
  have hs : sizeLine = 16777216 := rfl
  rw [fitsIndex_both (by omega) (by omega)]
  simp
theorem mt_insert : MtM X "list.insert" rInsert := by
  intro pins s σ H x vs v us Q I rx rv h
  obtain ⟨l, xs, i, y, rfl, rfl, hH, h0, hk, hz, q⟩ := h
  cases rx
  obtain ⟨u, w', rfl, ru, rw'⟩ := vals2 rv
  obtain ⟨t, rfl⟩ := ru
  obtain ⟨z, its, n, r, hl, e⟩ := I.lstM hH
  refine call_meets F.slot_list_insert ⟨_, e, rfl⟩ F.entry_list_insert (F.args_list_insert_3 _ _ _)
    (AutoSeq1.list_insert_list_int_val_1 l its.toArray n i t w' (fits_in h0 hk (Nat.le_of_lt hz)) (by rw [List.size_toArray]; omega)) ⟨e, ?_⟩
  refine ⟨.non, _, I.lset (its' := its.take i.toNat ++ w' :: its.drop i.toNat) hH e ?_ ((r.take i.toNat).append (.cons rw' (r.drop i.toNat))) ?_, rfl, q⟩
  · have ek : (if i < 0 then (i + (its.toArray.size : Nat)).toNat else min i.toNat its.toArray.size) = i.toNat := by
      rw [if_neg (by omega), List.size_toArray]
      omega
    show (its.toArray.extract 0 _).push w' ++ its.toArray.extract _ = _
    rw [ek]
    apply Array.ext'
    simp
    exact List.take_of_length_le (by rw [List.length_drop]; omega)
  · rw [List.length_append, List.length_cons, List.length_take, List.length_drop]
    omega
end
end L2
namespace L2
open PySem PySem.Spec PyProof.Rows
end L2
namespace L2
open PySem PySem.Spec PyProof.Rows
theorem bt_str : bootBuiltins "str" = some (.type "str") := by decide +kernel
end L2
namespace L2
open PySem PySem.Spec PyProof.Rows
section
variable {K : PySem.W.Frag} {src : List (Option Nat)} {g : TG} {tt : TT} {te : TE} {Q : VK} {σ : St} {H : Hp} {p a : Addr} {st : Int}
end
end L2
namespace L2
open PySem PySem.Spec PyProof.Rows
theorem strsAre_of : ∀ {ss : List Str} {us : List Value}, Vals (ss.map V.str) us → StrsAre us ss
  | [], _, .nil => .nil
  | s :: r, _, .cons h t => by
    obtain ⟨k, rfl⟩ := (show ∃ t, _ = Value.str s t from h)
    exact .cons s k (strsAre_of t)
theorem vals_strs : ∀ (l : List (Str × Tok)), Vals ((l.map (·.1)).map V.str) (strValues l)
  | [] => .nil
  | p :: r => .cons ⟨p.2, rfl⟩ (vals_strs r)
noncomputable def rJoin : V → List V → Hp → VK → Prop := fun x vs H Q => ∃ sep p ss, x = .str sep ∧ vs = [.ref p] ∧ H p = some (.lst (List.map V.str ss)) ∧ sep.length ≤ 16 ∧ (ss.map (·.length)).sum + ss.length ≤ 1048576 ∧ Q (.str (Str.join sep ss)) H
noncomputable def rSplit : V → List V → Hp → VK → Prop := fun x vs H Q => ∃ a b, x = .str a ∧ vs = [.str b] ∧ (b.length == 0) = false ∧ a.length + 2 ≤ sizeLine ∧ ∀ l, H l = none → Q (.ref l) (upd H l (.lst ((Txt.split a b).map V.str)))
section
variable {X : Cx}
theorem mt_join : MtM X "str.join" rJoin := by
  intro pins s σ H x vs v us Q I rx rv h
  obtain ⟨sep, p, ss, rfl, rfl, hH, h1, h2, q⟩ := h
  obtain ⟨t, rfl⟩ := (show ∃ t, v = Value.str sep t from rx)
  obtain ⟨u, rfl, ru⟩ := rv.one
  cases (show u = Value.ref p from ru)
  obtain ⟨z, its, n, r, hl, e⟩ := I.lstM hH
  have ej : Txt.join sep ss = Str.join sep ss := StrLaws.glued_eq_join sep ss
  refine join_listW (ys := ss) (items := its.toArray) ⟨_, e, rfl, n, rfl⟩ (strsAre_of r) h1 h2 fun t' k => ⟨.str _, H, I.tok _, ⟨_, rfl⟩, ?_⟩
  rw [ej]
  exact q
theorem mt_split : MtM X "str.split" rSplit := by
  intro pins s σ H x vs v us Q I rx rv h
  obtain ⟨a, b, rfl, rfl, hy, hsz, q⟩ := h
  obtain ⟨t, rfl⟩ := (show ∃ t, v = Value.str a t from rx)
  obtain ⟨u, rfl, ru⟩ := rv.one
  obtain ⟨t2, rfl⟩ := (show ∃ t, u = Value.str b t from ru)
  have hn : (Builtin.Str.partsBetween a (Builtin.Str.occurrences a b 0 a.length (a.length + 1)) b.length).length ≤ sizeLine := by
    have e1 := StrLaws.occ_length_le a b 0 a.length (a.length + 1)
    rw [length_partsBetween]; omega
  have fin : ∀ (l : List (Str × Tok)) (k : Nat), s.toks ≤ k → l.map (·.1) = Txt.split a b → l.length ≤ sizeLine →
      EP X pins σ Q (.ref s.heap.objs.size) { s with toks := k, heap := s.heap.push { cls := .type "list", data := .seq (strValues l).toArray } } := fun l k hk e hz => by
    refine ⟨.ref s.heap.objs.size, _, I.laid (t' := k) (fun b o x => Heap.get?_push_of_some _ x) (Nat.le_refl _) (show ObjOk X.prog X.w _ _ _ (.lst ((Txt.split a b).map V.str)) from ⟨?_, strValues l, 0, ?_, Heap.get?_push_size _ rfl⟩), rfl, q _ (I.hok.fresh (Nat.le_refl _))⟩
    · rw [← e, List.length_map, List.length_map]; exact hz
    · rw [← e]; exact vals_strs l
  have hw : Txt.split a b = if (decide (a.length < b.length) || decide (Builtin.Str.strKind a < Builtin.Str.strKind b)) = true then [a] else if (Builtin.Str.occurrences a b 0 a.length (a.length + 1)).isEmpty = true then [a] else Builtin.Str.partsBetween a (Builtin.Str.occurrences a b 0 a.length (a.length + 1)) b.length := rfl
  cases h1 : (decide (a.length < b.length) || decide (Builtin.Str.strKind a < Builtin.Str.strKind b))
  · cases hf : (Builtin.Str.occurrences a b 0 a.length (a.length + 1)).isEmpty
    · refine call_meets F.slot_str_split (typeIs_str _ _ _) F.entry_str_split (F.args_str_split_2 _ _) (meets_str_split_sep a b t t2 h1 hy hf (by omega) hn) ?_
      show wants _ _ _ { s with toks := _, heap := s.heap.push { cls := .type "list", data := .seq (strsFrom s.toks (Builtin.Str.partsBetween a (Builtin.Str.occurrences a b 0 a.length (a.length + 1)) b.length)).toArray } }
      rw [strsFrom_eq]
      refine fin (numbered s.toks _) _ (Nat.le_add_right _ _) ((numbered_texts _ _).trans ?_) ?_
      · rw [hw, h1, hf]; rfl
      · have := congrArg List.length (numbered_texts s.toks (Builtin.Str.partsBetween a (Builtin.Str.occurrences a b 0 a.length (a.length + 1)) b.length))
        rw [List.length_map] at this
        omega
    · exact call_meets F.slot_str_split (typeIs_str _ _ _) F.entry_str_split (F.args_str_split_2 _ _) (meets_str_split_not_found a b t t2 h1 hy hf)
        (fin [(a, t)] s.toks (Nat.le_refl _) (by rw [hw, h1, hf]; rfl) (by show 1 ≤ sizeLine; decide))
  · exact call_meets F.slot_str_split (typeIs_str _ _ _) F.entry_str_split (F.args_str_split_2 _ _) (meets_str_split_cannot_occur a b t t2 h1)
      (fin [(a, t)] s.toks (Nat.le_refl _) (by rw [hw, h1]; rfl) (by show 1 ≤ sizeLine; decide))
end
section
variable {K : PySem.W.Frag} {src : List (Option Nat)} {g : TG} {tt : TT} {te : TE} {Q : VK} {σ : St} {H : Hp} {p a : Addr}
theorem compT {xs : List V} (Pv : Nat → List V → St → Hp → Prop) (hn : xs.length ≤ 1000000) (h0 : Pv 0 [] (inner src σ) (upd H p (.lst [])))
    (hl : ∀ i ys σ H, i ≤ xs.length → Pv i ys σ H → H p = some (.lst ys) ∧ ys.length ≤ i ∧ SqT K H a xs)
    (hs : ∀ i x ys σ H, xs[i]? = some x → Pv i ys σ H → g x σ H fun σ2 H4 => tt σ2 H4 fun ok H5 =>
      if ok = true then te σ2 H5 fun y H6 => H6 p = some (.lst ys) ∧ Pv (i + 1) (ys ++ [y]) σ2 (upd H6 p (.lst (ys ++ [y]))) else Pv (i + 1) ys σ2 H5)
    (hd : ∀ ys σ H, Pv xs.length ys σ H → Q (.ref p) H) : CompW src (Itt K a) g tt te σ Q p H := by
  have hz : sizeLine = 16777216 := rfl
  refine ⟨fun i m ys σ H => m = xs.length - i ∧ i ≤ xs.length ∧ Pv i ys σ H, ⟨xs.length, by simp, Nat.zero_le _, h0⟩, ?_⟩
  rintro i m ys σ H ⟨rfl, hi, pv⟩
  obtain ⟨q1, q2, q⟩ := hl i ys σ H hi pv
  by_cases hlt : i < xs.length
  · refine .inr ⟨⟨xs, xs[i], q, by simp [hlt]⟩, by omega, Pv (i + 1), fun zs σ' H' p' => ⟨xs.length - (i + 1), by omega, rfl, hlt, p'⟩, fun v H' y => ?_⟩
    obtain ⟨e, y⟩ := y
    subst e
    exact hs i v ys σ _ (y xs q) pv
  · have e : i = xs.length := by omega
    subst e
    exact .inl ⟨⟨xs, q, Nat.le_refl _⟩, q1, hd ys σ H pv⟩
end
end L2
namespace L2
open PySem PyProof.Rows
open Sem (wp)
noncomputable def HCB (Γ : Ctx) : Prop := (Γ.below.map (·.1)).any Code.isCaller = true
noncomputable def HC (Γ : Ctx) : Prop := ((Γ.code :: Γ.below.map (·.1)).any Code.isCaller) = true
theorem HCB.hc {Γ : Ctx} (h : HCB Γ) : HC Γ := by
  show (Γ.code.isCaller || (Γ.below.map (·.1)).any Code.isCaller) = true
  rw [show (Γ.below.map (·.1)).any Code.isCaller = true from h, Bool.or_true]
theorem HC.enter {Γ : Ctx} (h : HC Γ) (c : Code) (x : Option Value) (p : Pos) : HCB (Γ.enter c x p) := h
noncomputable def wpC {α : Type} (M : Model) (A : Around) (t : Sem α) (Q : α → Shared → Prop) (E : Value → Shared → Prop) (s : Shared) : Prop :=
  ∀ Γ p, Γ.In A → HC Γ → wp M Γ t (fun a _ s' => Q a s') (fun e _ s' => E e s') p s
noncomputable def codeC (M : Model) (A : Around) (c : Code) (R : Result → Shared → Prop) (s : Shared) : Prop :=
  ∀ Γ p, Γ.code = c → Γ.Below A → HCB Γ → wpCode M Γ R p s
section
variable {α β : Type} {M : Model} {A : Around} {E : Value → Shared → Prop} {s : Shared}
theorem wpC_of {t : Sem α} {Q : α → Shared → Prop} (h : wpAny M A t Q E s) : wpC M A t Q E s := fun Γ p hΓ _ => h Γ p hΓ
theorem codeC_of {c : Code} {R : Result → Shared → Prop} (h : codeAny M A c R s) : codeC M A c R s := fun Γ p hc hΓ _ => h Γ p hc hΓ
theorem wpC_mono {t : Sem α} {Q Q' : α → Shared → Prop} {E' : Value → Shared → Prop} (h : wpC M A t Q E s) (hQ : ∀ a s, Q a s → Q' a s) (hE : ∀ e s, E e s → E' e s) : wpC M A t Q' E' s :=
  fun Γ p hΓ hc => Sem.wp_mono M Γ t (fun a _ z => hQ a z) (fun e _ z => hE e z) p s (h Γ p hΓ hc)
theorem codeC_mono {c : Code} {R R' : Result → Shared → Prop} (h : codeC M A c R s) (hR : ∀ r s, R r s → R' r s) : codeC M A c R' s := fun Γ p hc hΓ hb => by
  obtain ⟨r, s', a, b⟩ := h Γ p hc hΓ hb
  exact ⟨r, s', a, hR r s' b⟩
theorem wpC_pure {a : α} {Q : α → Shared → Prop} (h : Q a s) : wpC M A (pure a) Q E s := wpC_of (wpAny_pure h)
theorem wpC_bind {t : Sem α} {f : α → Sem β} {Q : β → Shared → Prop} (h : wpC M A t (fun a s' => wpC M A (f a) Q E s') E s) : wpC M A (t >>= f) Q E s := fun Γ p hΓ hc => by
  rw [Sem.wp_bind']
  exact Sem.wp_mono M Γ t (fun a p' s' z => z Γ p' hΓ hc) (fun _ _ _ z => z) p s (h Γ p hΓ hc)
theorem wpC_step {t : Sem α} {f : α → Sem β} {Q : β → Shared → Prop} (h : wpAny M A t (fun a s' => wpC M A (f a) Q E s') E s) : wpC M A (t >>= f) Q E s := wpC_bind (wpC_of h)
theorem wpC_onRaise {m : Sem α} {k : Value → Sem Unit} {Q : α → Shared → Prop} (h : wpC M A m Q (fun e s' => wpC M A (k e) (fun _ s'' => E e s'') E s') s) : wpC M A (m.onRaise k) Q E s := fun Γ p hΓ hc => by
  rw [Sem.wp_onRaise]
  exact Sem.wp_mono M Γ m (fun _ _ _ z => z) (fun e p' s' z => z Γ p' hΓ hc) p s (h Γ p hΓ hc)
theorem wpC_attempt {m : Sem α} {Q : Except Value α → Shared → Prop} (h : wpC M A m (fun a => Q (.ok a)) (fun e => Q (.error e)) s) : wpC M A m.attempt Q E s := fun Γ p hΓ hc => by
  rw [Sem.wp_attempt]; exact h Γ p hΓ hc
theorem wpC_holding {vs : List Value} {m : Sem α} {Q : α → Shared → Prop} (h : wpC M A m Q E s) : wpC M A (holding vs m) Q E s := fun Γ p hΓ hc => by
  rw [Sem.wp_holding]; exact h Γ p hΓ hc
theorem wpC_keep {vs : List Value} {m : Sem α} {Q : α → Shared → Prop} (h : wpC M A m Q E s) : wpC M A (m.keep vs) Q E s := fun Γ p hΓ hc => by
  rw [Sem.wp_keep]; exact h Γ p hΓ hc
theorem wpC_ite {c : Prop} [Decidable c] {a b : Sem α} {Q : α → Shared → Prop} (h : if c then wpC M A a Q E s else wpC M A b Q E s) : wpC M A (if c then a else b) Q E s := by split <;> simp_all
theorem wpC_standIf {c : Prop} [Decidable c] {pos : Pos} {k : PUnit → Sem α} {Q : α → Shared → Prop} (h : wpC M A (k ()) Q E s) : wpC M A (if c then (standAt pos >>= k) else k ()) Q E s := by
  split
  · exact wpC_step (wpAny_standAt h)
  · exact h
theorem wpC_run {c : Code} {h : Option Value} {Q : Flow → Shared → Prop} (hc : codeC M (A.mark h) c (fun r s' => match r with | .ok f => Q f s' | .error e => E e s') s) (hnb : h ≠ some byPass := by intro x; cases x) : wpC M A (run c h) Q E s :=
  fun Γ p hΓ hk => by rw [Sem.wp_run]; exact hc _ p rfl (hΓ.enter c h p hnb) (hk.enter c h p)
theorem wpC_call {f : Value} {pos : List Value} {kw : List (Str × Value)} {Q : Value → Shared → Prop}
    (hc : codeC M A (.call f ⟨pos, kw⟩) (fun r s' => match r with | .ok (.ret v) => Q v s' | .ok _ => False | .error e => E e s') s) : wpC M A (call f pos kw) Q E s :=
  fun Γ p hΓ hk => by
    show wp M Γ (runValue (.call f ⟨pos, kw⟩)) _ _ p s
    rw [Sem.wp_runValue]; exact hc _ p rfl (hΓ.enter _ none p (by intro x; cases x)) (hk.enter _ none p)
theorem codeC_tree {c : Code} {R : Result → Shared → Prop}
    (h : wpC M (A.under c) (M.den c) (fun fin s' => match fin with | .done f => R (.ok f) s' | .again c' => c'.quiet = true ∧ codeC M A c' R s') (fun e s' => R (.error e) s') s) : codeC M A c R s := fun Γ p hc hΓ hb => by
  rw [wpCode_iff_wp, hc]
  refine Sem.wp_mono M Γ _ (fun fin p' s' z => ?_) (fun _ _ _ z => z) p s (h Γ p (hc ▸ hΓ.in) hb.hc)
  cases fin with
  | done f => exact z
  | again c' => exact ⟨z.1, z.2 (Γ.goto c') p' rfl (hΓ.goto c') hb⟩
theorem codeC_loop {c : Code} {R : Result → Shared → Prop} (hq : c.quiet = true) (I : Nat → Shared → Prop)
    (turn : ∀ n s, I n s → wpC M (A.under c) (M.den c) (fun fin s' => match fin with | .done f => R (.ok f) s' | .again c' => (c' = c ∧ ∃ m, m < n ∧ I m s') ∨ (c'.quiet = true ∧ codeC M A c' R s')) (fun e s' => R (.error e) s') s)
    (n : Nat) (h : I n s) : codeC M A c R s := by
  induction n using Nat.strongRecOn generalizing s with
  | ind n ih =>
    refine codeC_tree (wpC_mono (turn n s h) (fun fin s' hf => ?_) fun _ _ z => z)
    cases fin with
    | done f => exact hf
    | again c' =>
      rcases hf with ⟨rfl, m, hm, hI⟩ | hf
      · exact ⟨hq, ih m hm hI⟩
      · exact hf
variable {env : Env}
theorem wpC_runOwn {c : Code} {h : Option Value} {Q : Flow → Shared → Prop} (hc : codeC M (A.mark h) c (fun r s' => match r with | .ok f => Q f s' | .error e => cameBackBy M A env E e s') s) (hnb : h ≠ some byPass := by intro x; cases x) :
    wpC M A (runOwn c env h) Q E s := by
  unfold runOwn
  refine wpC_onRaise (wpC_run (codeC_mono hc fun r s' z => ?_) hnb)
  cases r with
  | ok f => exact z
  | error e => exact wpC_of z
theorem wpC_For {target iter body orelse pos} {Q : Flow → Shared → Prop}
    (h : wpAny M A (eval iter env) (fun x s₁ => wpAny M A (pyIter x) (fun it s₂ => codeC M A (.forLoop target it body orelse env) (fun r s' => match r with | .ok f => Q f s' | .error e => cameBackBy M A env E e s') s₂) E s₁) E s)
    (hs : ∀ x, foldedSetIterable iter env x = pure x := by intro _; rfl) : wpC M A (exec (.For target iter body orelse pos) env) Q E s := by
  rw [exec_For]
  refine wpC_step (wpAny_standAt (wpC_bind (wpC_mono (wpC_of h) (fun x s₁ h₁ => ?_) fun _ _ z => z)))
  refine wpC_step (wpAny_of_eq (hs x) (wpC_step (wpAny_standAt (wpC_bind (wpC_holding (wpC_mono (wpC_of h₁) (fun it s₂ h₂ => wpC_runOwn h₂) fun _ _ z => z))))))
theorem wpC_noted {m : Sem α} {Q : α → Shared → Prop} (h : wpC M A m Q (notedBy M A env E) s) : wpC M A (m.onRaise fun x => do noteFrame x env; theTreesLotGoes x) Q E s :=
  wpC_onRaise (wpC_mono h (fun _ _ q => q) fun _ _ hx => wpC_of (wpAny_bind (wpAny_mono hx (fun _ _ e => wpAny_theTreesLotGoes e) fun _ _ e => e)))
theorem wpC_notedAt {pos : Pos} {m : Sem α} {Q : α → Shared → Prop} (h : wpC M A m Q (notedBy M A env E) s) : wpC M A (m.onRaise fun x => do noteFrame x env; standAt pos) Q E s :=
  wpC_onRaise (wpC_mono h (fun _ _ q => q) fun _ _ hx => wpC_of (wpAny_bind (wpAny_mono hx (fun _ _ e => wpAny_standAt e) fun _ _ e => e)))
theorem wpC_cons {st rest} {Q : Flow → Shared → Prop} (h : wpC M A (exec st env) (fun f s' => match f with | .next => wpC M A (execs rest env) Q E s' | f => Q f s') E s) : wpC M A (execs (st :: rest) env) Q E s := fun Γ p hΓ hc => by
  rw [execs_cons, Sem.wp_bind']
  refine Sem.wp_mono M Γ _ (fun f p' s' z => ?_) (fun _ _ _ z => z) _ _ (h Γ p hΓ hc)
  cases f <;> first | exact z Γ p' hΓ hc | exact z
theorem wpC_Return {e pos} {Q : Flow → Shared → Prop} (h : wpC M A (eval e env) (fun v => Q (.ret v)) E s) : wpC M A (exec (.Return (some e) pos) env) Q E s := fun Γ p hΓ hc => by
  simp only [exec_Return_some, Sem.wp_bind', Sem.wp_cmd_standAt, Sem.wp_pure']; exact h Γ _ hΓ hc
theorem wpC_AssignName {x pos' value pos} {Q : Flow → Shared → Prop} (h : wpC M A (eval value env) (fun v s₁ => wpAny M A (storeName env x v) (fun _ => Q .next) E s₁) E s)
    (hs : swapsWith value (some (.Name x pos')) pos.line env = pure false := by rfl) : wpC M A (exec (.Assign [.Name x pos'] value pos) env) Q E s := fun Γ p hΓ hc => by
  simp only [exec_Assign_Name env x pos' value pos hs, Sem.wp_bind', Sem.wp_cmd_standAt, Sem.wp_bindName, Sem.wp_pure']
  exact Sem.wp_mono M Γ _ (fun v _ s₁ h₁ => h₁ Γ _ hΓ) (fun _ _ _ z => z) _ _ (h Γ _ hΓ hc)
theorem wpC_tryStmt {body orelse : Sem Flow} {h₀ : ExceptHandler} {hs : List ExceptHandler} {Q : Flow → Shared → Prop}
    (h : wpC M A body (fun f s₁ => match f with | .next => wpC M A orelse Q E s₁ | f => Q f s₁)
      (fun e s₁ => wpAny M A (noteFrame e env) (fun _ s₂ => wpAny M A (setFlight e none) (fun _ s₃ => wpC M A (handleBy e env (h₀ :: hs)) Q E s₃) E s₂) E s₁) s) : wpC M A (tryStmt false body (h₀ :: hs) orelse [] env) Q E s := by
  unfold tryStmt
  simp only [List.isEmpty_nil, if_true, List.isEmpty_cons, Bool.false_and, Bool.false_eq_true, if_false]
  refine wpC_bind (wpC_attempt (wpC_mono h (fun f s₁ h₁ => ?_) fun e s₁ h₁ => ?_))
  · cases f <;> first | exact h₁ | exact wpC_pure h₁
  · exact wpC_bind (wpC_mono (wpC_of h₁) (fun _ _ h₂ => wpC_step h₂) fun _ _ x => x)
theorem wpC_Try {prog : Program} {w : World} {body orelse : List Stmt} {h₀ : ExceptHandler} {hs : List ExceptHandler} {pos : Pos} {Q : Flow → Shared → Prop}
    (h : wpC (model prog w) A (execs body env) (fun f s₁ => match f with | .next => wpC (model prog w) A (execs orelse env) Q E s₁ | f => Q f s₁)
      (fun e s₁ => wpAny (model prog w) A (noteFrame e env) (fun _ s₂ => wpAny (model prog w) A (setFlight e none) (fun _ s₃ => wpC (model prog w) A (handleBy e env (h₀ :: hs)) Q E s₃) E s₂) E s₁) s) :
    wpC (model prog w) A (exec (.Try body (h₀ :: hs) orelse [] pos) env) Q E s := by
  rw [arm_exec_Try]
  exact wpC_step (wpAny_standAt (wpC_tryStmt h))
theorem wpC_CallName {id : Str} {p pos : Pos} {args : List Expr} {keywords : List Keyword} {Q : Value → Shared → Prop}
    (h : wpAny M A (eval (.Name id p) env) (fun f s₁ => wpC M A (callWith pos f [] (backTo pos (starEach args env)) (backToKw pos (keywordEach keywords env))) Q E s₁) E s) :
    wpC M A (eval (.Call (.Name id p) args keywords pos) env) Q E s := by
  rw [arm_eval_Call_Name']
  exact wpC_step h
end
section
variable {prog : Program} {w : World} {A : Around} {E : Value → Shared → Prop} {R : Result → Shared → Prop} {s : Shared} {env : Env}
theorem codeC_forLoop {target it body orelse env} (I : Nat → Shared → Prop)
    (turn : ∀ n s, I n s → wpAny (model prog w) A (pyNext it) (fun r s₁ => match r with
      | none => wpAny (model prog w) A (execs orelse env) (fun f s₃ => R (.ok f) s₃) (notedBy (model prog w) A env fun e s' => R (.error e) s') s₁
      | some v => wpAny (model prog w) A (letOwnedTupleGo target it v) (fun _ s₁' => wpAny (model prog w) A (assign target env v) (fun _ s₂ => wpC (model prog w) A (execs body env) (fun f s₃ => match f with
            | .next | .cont => ∃ m, m < n ∧ I m s₃
            | .brk => R (.ok .next) s₃
            | .ret v => R (.ok (.ret v)) s₃) (notedBy (model prog w) A env fun e s' => R (.error e) s') s₂) (notedBy (model prog w) A env fun e s' => R (.error e) s') s₁') (notedBy (model prog w) A env fun e s' => R (.error e) s') s₁) (notedBy (model prog w) A env fun e s' => R (.error e) s') s)
    (n : Nat) (h : I n s) : codeC (model prog w) A (.forLoop target it body orelse env) R s := by
  refine codeC_loop rfl I (fun n s hI => ?_) n h
  show wpC _ A ((forTurn target it body orelse env).onRaise (fun x => do noteFrame x env; theTreesLotGoes x)) _ _ s
  refine wpC_noted ?_
  simp only [forTurn]
  refine wpC_step (wpAny_standAt (wpC_bind (wpC_onRaise (wpC_mono (wpC_of (turn n s hI)) (fun r s₁ h₁ => ?_) fun _ _ z => wpC_of (wpAny_standAt z)))))
  cases r with
  | none => exact wpC_pure (.inr ⟨rfl, codeC_of (codeAny_block h₁)⟩)
  | some v =>
    refine wpC_bind (wpC_mono (wpC_of h₁) (fun _ s₁' h₁' => ?_) fun _ _ z => z)
    refine wpC_bind (wpC_mono (wpC_of h₁') (fun _ s₂ h₂ => wpC_bind (wpC_mono h₂ (fun f s₃ h₃ => ?_) fun _ _ z => z)) fun _ _ z => z)
    cases f with
    | next => exact wpC_pure (.inl ⟨rfl, h₃⟩)
    | cont => exact wpC_pure (.inl ⟨rfl, h₃⟩)
    | brk => exact wpC_pure h₃
    | ret v => exact wpC_pure h₃
theorem codeC_func {body env}
    (h : wpC (model prog w) (A.deeper env) (execs body env) (fun f s' => R (.ok (.ret (match f with | .ret v => v | _ => .none))) s')
      (fun e s' => wpAny (model prog w) (A.deeper env) (leaving env e) (fun _ s'' => R (.error e) s'') (fun e' s'' => R (.error e') s'') s') s) : codeC (model prog w) A (.func body env) R s := by
  refine codeC_tree ?_
  show wpC _ (A.deeper env) (do point; match ← (execs body env).onRaise (leaving env) with | .ret v => ret v | _ => ret .none) _ _ s
  refine wpC_step (wpAny_point (wpC_bind (wpC_onRaise (wpC_mono h (fun f s' z => ?_) fun _ _ z => wpC_of z))))
  cases f <;> exact wpC_pure z
theorem codeC_callFunction {a : Addr} {args : Args} {o : Obj} {fd : FuncData} {body : List Stmt} (hroom : A.depth < recursionLimit) (ho : s.heap.get? a = some o)
    (hd' : o.data = .func fd) (hco : fd.scope.isCoroutine = false) (hgen : fd.scope.isGenerator = false) (hbody : fd.body = .stmts body) (hcd : s.heap.CodeRec fd.code fd.qualname)
    (h : wpAny (model prog w) A.in1 (bindArgs fd args) (fun binds s₁ => wpAny (model prog w) A.in1 (newFunctionEnv fd.scope fd.globals fd.closure binds (fd.qualname ++ ".<locals>.") (some a) fd.code none fd.builtins)
        (fun env s₂ => s₂.heap.NoLimit ∧ codeC (model prog w) A (.func body env) R s₂) (fun e s' => R (.error e) s') s₁) (fun e s' => R (.error e) s') s) : codeC (model prog w) A (.call (.ref a) args) R s := by
  refine codeC_tree ?_
  show wpC _ A.in1 (callAny (.ref a) args) _ _ s
  simp only [callAny]
  refine wpC_step (wpAny_load ho ?_)
  obtain ⟨c, oc, vs, tq, hc, hoc, hdc, hq⟩ := hcd
  simp only [hd', callFunction, hco, hgen, hbody, hc]
  rw [hc] at h
  refine wpC_step (t := field (.ref c) 1) (wpAny_field hoc hdc hq (wpC_step (wpAny_pure ?_)))
  exact wpC_bind (wpC_mono (wpC_of h) (fun binds s₁ h₁ => wpC_bind (wpC_mono (wpC_of h₁) (fun env s₂ h₂ => wpC_step (wpAny_enterFrame h₂.1 hroom (wpC_pure (And.intro rfl h₂.2)))) fun _ _ z => z)) fun _ _ z => z)
theorem codeC_compStart {elt target iter ifs rest scope pos it acc env}
    (h0 : codeC (model prog w) A (.compLoop (.ListComp elt (⟨target, iter, ifs, 0⟩ :: rest) scope pos) 0 it acc env) R s)
    (h : wpAny (model prog w) A (pyIter it) (fun it' s' => codeC (model prog w) A (.compLoop (.ListComp elt (⟨target, iter, ifs, 0⟩ :: rest) scope pos) 0 it' acc env) R s') (notedBy (model prog w) A env fun x s' => R (.error x) s') s) :
    codeC (model prog w) A (.compStart (.ListComp elt (⟨target, iter, ifs, 0⟩ :: rest) scope pos) 0 it acc env) R s := by
  refine codeC_tree ?_
  show wpC _ _ ((compStart (.ListComp elt (⟨target, iter, ifs, 0⟩ :: rest) scope pos) 0 it acc env).onRaise (fun x => do noteFrame x env; standAt theWindowsPlace)) _ _ s
  refine wpC_notedAt ?_
  unfold compStart
  show wpC _ _ (ask >>= _) _ _ s
  refine wpC_step (wpAny_askSetting (wpC_ite ?_))
  split
  · first
      | exact wpC_step (wpAny_pure (wpC_pure (And.intro rfl h0)))
      | exact wpC_pure (And.intro rfl h0)
  · first
      | exact wpC_step (wpAny_rule (wpC_step (wpAny_standAt (wpC_bind (wpC_mono (wpC_of h) (fun it' s' z => wpC_pure (And.intro rfl z)) fun _ _ x => x)))))
      | (refine wpC_step (wpAny_rule ?_); show wpC _ _ (standAt iter.pos >>= _) _ _ s; exact wpC_step (wpAny_standAt (wpC_bind (wpC_mono (wpC_of h) (fun it' s' z => wpC_pure (And.intro rfl z)) fun _ _ x => x))))
end
section
variable {M : Model} {A : Around} {E : Value → Shared → Prop} {s : Shared} {env : Env}
noncomputable def cPost (M : Model) (A : Around) (E : Value → Shared → Prop) (use : Option (Value → Sem Unit)) (Q : Value → Shared → Prop) (acc : Value) (cenv : Env) (r : Result) (s' : Shared) : Prop :=
  match r, use with
  | .ok _, none => ∃ m, s'.heap.Ns cenv.locals m ∧ ∀ h', Heap.SameBut cenv.locals s'.heap h' → Q acc { s' with heap := h' }
  | .ok _, some u => wpAny M A (u acc) (fun _ s'' => ∃ m, s''.heap.Ns cenv.locals m ∧ ∀ h', Heap.SameBut cenv.locals s''.heap h' → Q .none { s'' with heap := h' }) E s'
  | .error x, _ => ∃ m, s'.heap.Ns cenv.locals m ∧ ∀ h', Heap.SameBut cenv.locals s'.heap h' → ∀ c2 : Env, c2.frame = cenv.frame → wpAny M A (passOn "comprehension.variables-let-go" x c2 : Sem Value) (fun _ _ => False) E { s' with heap := h' }
theorem wpC_comp {e : Expr} {scope : Scope} {pos : Pos} {newAcc first : Sem Value} {g : Comprehension} {gs : List Comprehension} {cl : List (Str × Addr)} {use : Option (Value → Sem Unit)} {Q : Value → Shared → Prop}
    (hcl : clausesOf e = g :: gs) (hs : ∀ x, foldedSetIterable g.iter env x = pure x) (hclos : closureFor scope env = pure cl) (hkind : scope.kind = .function) (hnames : ∀ x ∈ scope.names, x.2 = .local → scope.names.lookup x.1 = some .local)
    (h : wpAny M A first (fun x s₁ => wpAny M A (pyIter x) (fun it s₂ => wpAny M A newAcc (fun acc s₃ => wpAny M A (newFunctionEnv scope env.globals cl [] env.qual none .none (some env)) (fun cenv s₄ =>
        codeC M A (.compStart e 0 it acc { cenv with scope := relabel scope env }) (cPost M A E use Q acc cenv) s₄) E s₃) E s₂) E s₁) E s) : wpC M A (comprehension e scope env pos newAcc false first use) Q E s := by
  unfold comprehension
  rw [hclos, hcl]
  refine wpC_bind (wpC_mono (wpC_of h) (fun x s₁ h₁ => wpC_step (wpAny_standAt (wpC_step (wpAny_of_eq (hs x) (wpC_bind (wpC_holding (wpC_mono (wpC_of h₁) (fun it s₂ h₂ => ?_) fun _ _ z => z))))))) fun _ _ z => z)
  refine wpC_standIf (wpC_bind (wpC_mono (wpC_of h₂) (fun acc s₃ h₃ => wpC_step (wpAny_pure (wpC_bind (wpC_mono (wpC_of h₃) (fun cenv s₄ h₄ => ?_) fun _ _ z => z)))) fun _ _ z => z))
  dsimp only
  have hv : ∀ x ∈ (scope.names.filter fun x => (x.2 == .local || x.2 == .cell) && x.1 != (".0" : Str)).reverse, x.2 = .local → Env.kindOf { cenv with scope := relabel scope env } x.1 = some .local :=
    fun x hx hl => lookup_relabel_local (hnames x (List.mem_filter.mp (List.mem_reverse.mp hx)).1 hl)
  have hv2 : ∀ x ∈ (scope.names.filter fun x => (x.2 == .local || x.2 == .cell) && x.1 != (".0" : Str)).reverse.drop 1 ++ (scope.names.filter fun x => (x.2 == .local || x.2 == .cell) && x.1 != (".0" : Str)).reverse.take 1, x.2 = .local →
      Env.kindOf { cenv with scope := relabel scope env } x.1 = some .local := fun x hx hl => (List.mem_append.mp hx).elim (fun z => hv x (List.mem_of_mem_drop z) hl) fun z => hv x (List.mem_of_mem_take z) hl
  refine wpC_holding (wpC_bind (wpC_attempt (wpC_holding (wpC_run (codeC_mono h₄ fun r s' hr => ?_)))))
  cases r with
  | ok f =>
    cases use with
    | none =>
      obtain ⟨m, hn, hr⟩ := hr
      exact wpC_of (wpAny_bind (wpAny_holding (wpAny_comp_letGo (cenv := { cenv with scope := relabel scope env }) hkind _ s' m hv hn fun h' m' _ z => wpAny_pure (hr h' z))))
    | some u =>
      refine wpC_of (wpAny_bind (wpAny_rule (wpAny_bind (wpAny_holding (wpAny_mono hr (fun _ s'' q => ?_) fun _ _ z => z)))))
      obtain ⟨m, hn, q⟩ := q
      exact wpAny_bind (wpAny_comp_letGo (cenv := { cenv with scope := relabel scope env }) hkind _ s'' m hv2 hn fun h' m' _ z => wpAny_pure (q h' z))
  | error x =>
    obtain ⟨m, hn, hr⟩ : ∃ m, s'.heap.Ns cenv.locals m ∧ ∀ h', Heap.SameBut cenv.locals s'.heap h' → ∀ c2 : Env, c2.frame = cenv.frame → wpAny M A (passOn "comprehension.variables-let-go" x c2 : Sem Value) (fun _ _ => False) E { s' with heap := h' } := by cases use <;> exact hr
    exact wpC_of (wpAny_bind (wpAny_holding (wpAny_comp_letGo (cenv := { cenv with scope := relabel scope env }) hkind _ s' m hv hn fun h' m' _ z => wpAny_mono (hr h' z _ rfl) (fun _ _ f => f.elim) fun _ _ y => y)))
theorem wpC_TryL {prog : Program} {w : World} {body orelse : List Stmt} {h₀ : ExceptHandler} {hs : List ExceptHandler} {pos : Pos} {Q : Flow → Shared → Prop}
    (h : wpC (model prog w) A (execs body env) (fun f s₁ => match f with | .next => wpC (model prog w) A (execs orelse env) Q E s₁ | f => Q f s₁)
      (fun e s₁ => wpAny (model prog w) A (leaving env e) (fun _ s₃ => wpC (model prog w) A (handleBy e env (h₀ :: hs)) Q E s₃) E s₁) s) :
    wpC (model prog w) A (exec (.Try body (h₀ :: hs) orelse [] pos) env) Q E s := by
  rw [arm_exec_Try]
  refine wpC_step (wpAny_standAt ?_)
  unfold tryStmt
  simp only [List.isEmpty_nil, if_true, List.isEmpty_cons, Bool.false_and, Bool.false_eq_true, if_false]
  refine wpC_bind (wpC_attempt (wpC_mono h (fun f s₁ h₁ => ?_) fun e s₁ h₁ => ?_))
  · cases f <;> first | exact h₁ | exact wpC_pure h₁
  · have z : wpC (model prog w) A (leaving env e >>= fun _ => handleBy e env (h₀ :: hs)) Q E s₁ := wpC_step h₁
    have eq : (leaving env e >>= fun _ => handleBy e env (h₀ :: hs)) = (noteFrame e env >>= fun _ => setFlight e none >>= fun _ => handleBy e env (h₀ :: hs)) := by
      unfold leaving
      simp only [bind_assoc]
    rw [eq] at z
    exact z
end
end L2
namespace L2
open PySem PySem.Calls PySem.NumText PyProof.Rows PySem.W
section
variable {prog : Program} {w : World} {A : Around} {E : Value → Shared → Prop} {s : Shared}
theorem wpC_mark {M : Model} {own : List String} {e : Value} {Q : Unit → Shared → Prop} (h : Q () s) : wpC M A (markTheRefusal own e) Q E s := fun Γ p hΓ hc => by
  unfold markTheRefusal
  rw [Sem.wp_bind']
  show Sem.wp M Γ (if pythonCodeMadeTheCall own (((Γ.code, p) :: Γ.below).map (·.1)) then _ else _) _ _ p s
  have e : pythonCodeMadeTheCall own (((Γ.code, p) :: Γ.below).map (·.1)) = false := by
    unfold pythonCodeMadeTheCall
    show (!((Γ.code :: Γ.below.map (·.1)).any Code.isCaller) && _ && _) = false
    rw [show ((Γ.code :: Γ.below.map (·.1)).any Code.isCaller) = true from hc]
    rfl
  rw [e]
  exact h
theorem text_bad {x : Str} {u : Tok} {Q : Value → Shared → Prop} (hs : (numSeenOf x).length ≤ 640) (hz : (reprText x).length ≤ sizeLine) (hh : A.handled = none)
    (hr : (int_private% "readNumeral") 0 10 (numSeenOf x) = int_private% "Numeral.invalid" ∨ ∃ i, (int_private% "readNumeral") 0 10 (numSeenOf x) = (int_private% "Numeral.value") i ∧ ¬ ((numSeenOf x).length == (numTextOf x).length) = true)
    (h : ∀ h' tk e v, Heap.MadeExc s.heap h' e "ValueError" [v] → E (.ref e) { s with heap := h', toks := tk }) :
    wpC (model prog w) A ((int_private% "intFromText") (.str x u) (numTextOf x) 10) Q E s := by
  obtain ⟨hp, g, d, tk, os⟩ := s
  refine wpC_ite ?_
  rw [if_pos hs]
  refine wpC_step (wpAny_pure ?_)
  dsimp only
  have hx : (Str.ofString (toString "invalid literal for int() with base " ++ toString 10 ++ toString ": ") ++ { cps := (reprText x).cps.extract 0 200 } : Str).length ≤ sizeLine := by
    rw [Str.length_append, sizeLine_eq]
    have e1 : (Str.ofString (toString "invalid literal for int() with base " ++ toString 10 ++ toString ": ")).length = 40 := by decide +kernel
    have e2 : (⟨(reprText x).cps.extract 0 200⟩ : Str).length ≤ 200 := by
      show ((reprText x).cps.extract 0 200).size ≤ 200
      rw [Array.size_extract]
      omega
    omega
  have fin : ∀ (k : Tok), wpC (model prog w) A (do
      let l ← mkStr ((Str.ofString (toString "invalid literal for int() with base " ++ toString 10 ++ toString ": ") ++ { cps := (reprText x).cps.extract 0 200 } : Str))
      let refusal ← newExc (Value.type "ValueError") [l]
      markTheRefusal ["int.__new__"] refusal
      raiseNew refusal : Sem Value) Q E { heap := hp, gens := g, drawn := d, toks := k, os := os } := fun k => by
    refine wpC_step (wpAny_mkStr ?_ hx)
    generalize (Str.ofString (toString "invalid literal for int() with base " ++ toString 10 ++ toString ": ") ++ { cps := (reprText x).cps.extract 0 200 } : Str) = msg
    refine wpC_step (wpAny_newExc_plain plainExc_ValueError (fun h' e hm => ?_) (by rw [List.length_singleton, sizeLine_eq]; omega))
    refine wpC_bind (wpC_mark ?_)
    exact wpC_of (wpAny_raiseNew_none hh (h h' _ e _ hm))
  rcases hr with hr | ⟨i, hr, ha⟩
  · rw [show (int_private% "readNumeral") 0 10 (List.takeWhile (fun x => x != 0) (numTextOf x)) = _ from hr]
    dsimp only
    refine wpC_step (t := pure none) (wpAny_pure ?_)
    refine wpC_ite ?_
    split
    · rename_i z
      exact absurd z Bool.false_ne_true
    refine wpC_step (wpAny_rule ?_)
    refine wpC_step (t := pure none) (wpAny_pure ?_)
    dsimp only
    refine wpC_step (wpAny_pyRepr_str ?_ hz)
    exact fin _
  · rw [show (int_private% "readNumeral") 0 10 (List.takeWhile (fun x => x != 0) (numTextOf x)) = _ from hr]
    dsimp only
    refine wpC_ite ?_
    rw [if_neg ha]
    refine wpC_step (wpAny_rule ?_)
    refine wpC_step (t := pure none) (wpAny_pure ?_)
    dsimp only
    refine wpC_step (wpAny_pyRepr_str ?_ hz)
    exact fin _
set_option maxHeartbeats 4000000 in
theorem new_bad {x : Str} {u : Tok} (hl : x.length ≤ 640) (hn : PySem.intText? x = none) (hz : (reprText x).length ≤ sizeLine) (hh : A.handled = none)
    (h : ∀ h' tk e v, Heap.MadeExc s.heap h' e "ValueError" [v] → E (.ref e) { s with heap := h', toks := tk }) :
    wpC (model prog w) A (Builtin.«int.__new__» ⟨[.type "int", .str x u], []⟩) (fun _ _ => False) E s := by
  have hs : (numSeenOf x).length ≤ 640 := Nat.le_trans (seen_length x) hl
  have hr : (int_private% "readNumeral") 0 10 (numSeenOf x) = int_private% "Numeral.invalid" ∨ ∃ i, (int_private% "readNumeral") 0 10 (numSeenOf x) = (int_private% "Numeral.value") i ∧ ¬ ((numSeenOf x).length == (numTextOf x).length) = true := by
    rcases read0 x hs with ⟨m, h1, _⟩ | ⟨_, z⟩
    · rw [hn] at h1; cases h1
    · exact z
  have B := fun (Q : Value → Shared → Prop) (s' : Shared) (hq : s'.heap = s.heap ∧ s'.gens = s.gens ∧ s'.drawn = s.drawn ∧ s'.os = s.os) => text_bad (prog := prog) (w := w) (A := A) (E := E) (s := s') (u := u) (Q := Q) hs hz hh hr (by
    obtain ⟨hp, g, d, tk, os⟩ := s
    obtain ⟨hp', g', d', tk', os'⟩ := s'
    obtain ⟨e1, e2, e3, e4⟩ := hq
    cases e1; cases e2; cases e3; cases e4
    exact h)
  obtain ⟨hp, g, d, tk, os⟩ := s
  have f1 := F.conv_sub_int
  have f2 := F.madeHere_int
  have f3 := KIN.str_int
  have f4 := KIN.str_idx
  have f5 := KIN.str_trunc
  have f6 : typeOf (.str x u) = pure (.type "str") := rfl
  clear h hr hs hl hn
  unfold Builtin.«int.__new__»
  dsimp only
  repeat (any_goals (first
    | assumption
    | (with_reducible refine wpC_step ?_)
    | wp_step
    | (with_reducible refine wpC_ite ?_; first | rw [if_neg (by decide +kernel)] | rw [if_pos (by decide +kernel)])))
  refine wpC_ite ?_
  split
  · rename_i z
    exact absurd z Bool.false_ne_true
  refine wpC_ite ?_
  split
  · rename_i z
    exact absurd (show 1 + 0 > 2 from z) (by decide)
  refine wpC_step (wpAny_pure ?_)
  dsimp only [List.head?, List.getElem?_cons_succ, List.getElem?_nil, Option.map]
  refine wpC_bind ?_
  refine wpC_mono (Q := fun _ _ => False) (E := E) ?_ (fun _ _ z => z.elim) fun _ _ z => z
  refine wpC_step ?_
  repeat (any_goals (first
    | assumption
    | exact B _ _ ⟨rfl, rfl, rfl, rfl⟩
    | (with_reducible refine wpC_step ?_)
    | wp_step
    | (with_reducible refine wpC_ite ?_; first | rw [if_neg (by decide +kernel)] | rw [if_pos (by decide +kernel)])))
theorem codeC_builtin {R : Result → Shared → Prop} {id : String} {args : Args} {b : Builtin} (hb : entryFor table id = some b)
    (h : wpC (model prog w) (A.under (.builtin id args)) (b args) (fun fin s' => match fin with | .done f => R (.ok f) s' | .again c' => c'.quiet = true ∧ codeC (model prog w) A c' R s') (fun e s' => R (.error e) s') s) :
    codeC (model prog w) A (.builtin id args) R s := by
  refine codeC_tree ?_
  show wpC _ _ (match entryFor table id with | some b => b args | none => unsupported ((withoutEnding? id "#data").getD id)) _ _ s
  rw [hb]; exact h
theorem codeC_callBuiltin {R : Result → Shared → Prop} {id : String} {args : Args} {b : Builtin} (hq : plainId id = true) (hb : entryFor table id = some b)
    (h : wpAny (model prog w) A.in1 (checkBuiltinCall id args) (fun _ s₁ => wpC (model prog w) A.in1 (b args) (fun fin s' => match fin with | .done f => R (.ok f) s' | .again c' => c'.quiet = true ∧ codeC (model prog w) A c' R s') (fun e s' => R (.error e) s') s₁) (fun e s' => R (.error e) s') s) :
    codeC (model prog w) A (.call (.builtin id) args) R s := by
  refine codeC_tree ?_
  show wpC _ A.in1 (do checkBuiltinCall id args; again (.builtin id args)) _ _ s
  refine wpC_bind (wpC_mono (wpC_of h) (fun _ s₁ h₁ => wpC_pure (And.intro (plainId_quiet hq args) (codeC_tree ?_))) fun _ _ z => z)
  show wpC _ _ (match entryFor table id with | some b => b args | none => unsupported ((withoutEnding? id "#data").getD id)) _ _ s₁
  rw [hb, Around.under_plainId hq args]; exact h₁
set_option maxHeartbeats 4000000 in
theorem int_refused {x : Str} {t : Tok} {Q : Value → Shared → Prop} (hl : x.length ≤ 640) (hn : PySem.intText? x = none) (hz : (reprText x).length ≤ sizeLine) (hh : A.handled = none)
    (h : ∀ h' tk e v, Heap.MadeExc s.heap h' e "ValueError" [v] → E (.ref e) { s with heap := h', toks := tk }) : wpC (model prog w) A (call (.type "int") [.str x t]) Q E s := by
  obtain ⟨hp, g, d, tk, os⟩ := s
  have ft := F.called_int
  obtain ⟨c, tl, hmro⟩ := ft.mro
  have hmade := ft.made
  have hsub := ft.sub
  have hct := F.typeCall_int_1 (.str x t)
  refine wpC_call (codeC_tree ?_)
  show wpC _ _ (callAny (.type "int") _) _ _ _
  refine wpC_pure ⟨Code.quiet_builtin _ (by decide +kernel), codeC_builtin F.entry_type_call ?_⟩
  rw [Around.under_plain (weight_type_call_type "int" [.str x t] []) (units_type_call_type "int" [.str x t] [])]
  have h1 := ft.notType
  have h2 := ft.canCreate
  unfold Builtin.«type.__call__»
  refine wpC_ite ?_
  rw [if_neg (by rw [h1]; exact Bool.false_ne_true)]
  refine wpC_ite ?_
  rw [if_neg (by rw [h2]; exact Bool.false_ne_true)]
  refine wpC_step (wpAny_of_eq hct ?_)
  refine wpC_step (wpAny_of_eq hmro ?_)
  refine wpC_ite ?_
  rw [if_neg (by exact Bool.false_ne_true)]
  refine wpC_step (wpAny_of_eq hmade ?_)
  dsimp only
  refine wpC_step (wpAny_pure (wpC_bind (wpC_holding (wpC_call (codeC_callBuiltin ft.plain F.entry_int_new (wpAny_of_eq (F.newCall_int_1 (.str x t)) ?_))))))
  exact wpC_mono (new_bad hl hn hz hh h) (fun _ _ z => z.elim) fun _ _ z => z
end
end L2
namespace L2
open PySem PySem.Calls PyProof.Rows PySem.W
theorem caller_hc : HC (⟨.builtin "claim.caller" {}, none, none, [], none⟩ : Ctx) := rfl
theorem endsC {prog : Program} {w : World} {t : Sem Fin} {s : Shared} {R : Result → Shared → Prop} (z : s.asleep)
    (h : wpC (model prog w) callerA t (fun fin s' => ∃ f, fin = .done f ∧ (R (.ok f) s' ∧ leftWithCleanup s'.gens = false)) (fun e s' => R (.error e) s' ∧ leftWithCleanup s'.gens = false) s) :
    ∃ n r s' s'', runN (denote table) prog w n s ⟨t, .builtin "claim.caller" {}, default, []⟩ = .halted (outcomeOf r) s' ∧
      schedN (denote table) prog w n (.single s ⟨t, .builtin "claim.caller" {}, default, []⟩) = .halted (outcomeOf r) s' ∧ s'.forget = s''.forget ∧ R r s'' := by
  have k : Sem.wp (model prog w) ⟨.builtin "claim.caller" {}, none, none, [], none⟩ t (Sem.finPost (model prog w) ⟨.builtin "claim.caller" {}, none, none, [], none⟩ fun r s' => R r s' ∧ leftWithCleanup s'.gens = false) (fun e _ s' => R (.error e) s' ∧ leftWithCleanup s'.gens = false) default s := by
    refine Sem.wp_mono _ _ t (fun fin p' s' q => ?_) (fun _ _ _ q => q) default s (h _ default caller_in caller_hc)
    obtain ⟨f, rfl, q⟩ := q
    exact q
  obtain ⟨n, r, a, b, e1, e2, e3, e4⟩ := wp_halts_full (M := model prog w) (R := R) z k
  exact ⟨n, r, b, a, e2, e1, e3, e4⟩
theorem callC_of {c : ClaimW} {tree : List Value → Sem Fin} {w : World} {s : Shared} {free : Addr → Prop} {gens : Prop} {kept : Heap → Prop} (z : s.asleep) (hg : s.gens = #[])
    (sp : ∀ args, c.pre args = true → WData.layableAll args = true → ∀ ord : List DictEntry → List DictEntry, (∀ l, (ord l).Perm l) →
      ∃ vs s₁, layAllW c.records (classAt s.heap) w.params ord args s = some (vs, s₁) ∧
        wpC (model c.prog w) callerA (tree vs) (fun fin s' => ∃ f, fin = .done f ∧ (c.Ends s args vs s₁ (.ok f) s' ∧ s'.os = s.os ∧ AllBare s'.gens ∧ kept s'.heap))
          (fun e s' => c.Ends s args vs s₁ (.error e) s' ∧ s'.os = s.os ∧ AllBare s'.gens ∧ kept s'.heap) s₁) : c.CallFrom (fun vs => ⟨tree vs, .builtin "claim.caller" {}, default, []⟩) w free gens kept s := fun args a1 a2 ord a3 => by
  obtain ⟨vs, s₁, la, run⟩ := sp args a1 a2 ord a3
  have rest := layAllW_rest _ _ _ la
  obtain ⟨k, r, t1, t2, hr, hs, hf, he, ho, hk⟩ := endsC (prog := c.prog) (w := w) (t := tree vs) (s := s₁) (R := fun r s' => c.Ends s args vs s₁ r s' ∧ s'.os = s.os ∧ kept s'.heap) (Shared.asleep_of_life rest.2.2.2 z)
    (wpC_mono run (fun fin s' ⟨f, e, h1, h2, h3, h4⟩ => ⟨f, e, ⟨h1, h2, h4⟩, leftWithCleanup_false_of_bare h3⟩) fun e s' ⟨h1, h2, h3, h4⟩ => ⟨⟨h1, h2, h4⟩, leftWithCleanup_false_of_bare h3⟩)
  obtain ⟨eh, _, _, eo, _⟩ := Shared.forget_eq hf
  have he := he.congr eh
  have hk : kept t1.heap := by rw [eh]; exact hk
  rw [← eo] at ho
  have li : t1.heap.life = s.heap.life := (runN_life _ _ _ hr).trans rest.2.2.2
  refine ⟨vs, s₁, la, k, _, t1, hs, ?_, (fun _ i x hx => by rw [hg] at hx; simp at hx), hk, by rw [li], Shared.rest_eq ho⟩
  rcases he with ⟨v, rfl, d1, d2, d3, d4, d5⟩ | ⟨e, ob, cls, rfl, d1, d2, d3, d4, d5⟩
  · exact Or.inl ⟨v, rfl, d1, d2, d3, fun b o y _ => d4 b o y, d5⟩
  · exact Or.inr ⟨e, ob, cls, rfl, d1, d2, d3, d4, fun b o y _ => d5 b o y⟩
noncomputable def WalkC (q : Program) (loose : List Str) (XP : (Str → Option Value) → Heap → Prop) (YP : World → Heap → Prop) (r : RowW) (d : DefRec) (kwd : List (Str × Expr)) : Prop :=
  ∀ (w : World) (s₀ s₁ : Shared) (mg mb : Str → Option Value), Ground q loose r.records XP w s₀ mg mb s₁.heap → YP w s₁.heap → ∀ (a : Addr) (o : Obj) (pm cd doc dV kV : Value), s₁.heap.get? a = some o → o.data = .func { docDef d.name d.params d.body d.scope pm cd doc with defaults := dV, kwdefaults := kV } →
    s₁.heap.CodeRec cd d.name → Dflts mg s₁.heap d.params kwd dV kV → mg d.name = some (.ref a) → s₁.gens = #[] → ∀ (args : List WData) (vals : List Value) (as : List Addr), r.claim.pre args = true → WData.layableAll args = true → ReadsAllW r.records (classAt s₀.heap) s₁.heap vals args as →
    WellAll w.params s₁.heap vals args → (∀ a ∈ as, (a == sysModules) = false) →
      wpC (model r.prog w) callerA (PySem.call (.ref a) vals) (fun v s' => GoodWG r.claim (classAt s₀.heap) (ExcName.means s₀.heap) args s₁ (.ok (.ret v)) s') (fun e s' => GoodWG r.claim (classAt s₀.heap) (ExcName.means s₀.heap) args s₁ (.error e) s') s₁
theorem openC {r : OpenRow} {q : Program} {loose : List Str} {Xt : Shared → Bool} {XP : (Str → Option Value) → Heap → Prop} {α : Type} {Yf : Shared → α} {Ya : World → α} {YP : World → Heap → Prop} {d : DefRec} {kwd : List (Str × Expr)} {N : Nat}
    (left : LeftO r.prog q loose Xt Yf Ya N) (hY : ∀ w s, Yf s = Ya w → YP w s.heap) (hYk : ∀ w h h', YP w h → (∀ b o, h.get? b = some o → h'.get? b = some o) → YP w h')
    (hX : ∀ s, Xt s = true → XP (s.heap.nsMap mainGlobals) s.heap) (hXk : ∀ mg h h', XP mg h → (∀ b o, h.get? b = some o → h'.get? b = some o) → XP mg h')
    (hdef : defOf q r.name = some (d, kwd)) (hp : r.prog.theDef r.name = some (d.params, d.body, d.scope)) (hk : kwWritten? d.params.kwonlyargs d.params.kw_defaults = some kwd) (hRf : ∀ s, Xt s = true → RecFacts r.records s.heap) (hwr : (!r.writes || r.records.isEmpty) = true)
    (k1 : r.wellSaid = true) (ok : (chainsOk q && opensWell r.prog && (frees r.toRowW && r.within.isEmpty)) = true) (hb : r.prog.bare) (hw : r.toRowW.promised)
    (call : WalkC q loose XP YP r.toRowW d kwd) : r.Holds := by
  obtain ⟨o2, m1⟩ := Bool.and_eq_true_iff.mp ok
  obtain ⟨ch, o1⟩ := Bool.and_eq_true_iff.mp o2
  obtain ⟨m2, m3⟩ := Bool.and_eq_true_iff.mp m1
  obtain ⟨n1, n2, n3, n4, n5⟩ := frees_parts m2
  refine ⟨k1, hw, ⟨hb, o1, by show r.makers.map _ = []; rw [n5]; rfl⟩, hw.witness, fun w => ⟨(left.behind hX ch w).1, fun u hu => ?_⟩⟩
  obtain ⟨s₀, y1, y2, s, T, z, gs, mn, G2, y⟩ := (left.behind (XP := fun mg h => XP mg h ∧ RecFacts r.records h) (fun s e => ⟨hX s e, hRf s e⟩) ch w).2 u hu
  have G0 : Ground q loose [] XP w s (s.heap.nsMap mainGlobals) (s.heap.nsMap builtinsNs) s.heap := ⟨G2.T, G2.B, G2.D, G2.TE, G2.TD, G2.W, G2.X.1, G2.cls, G2.has, G2.apart, G2.once, G2.K⟩
  have RF := G2.X.2
  refine ⟨s₀, y1, y2, s, T, fun n hn => ?_, RF.1, RF.2.1, ?_⟩
  · obtain rfl : n = r.name := by split at hn <;> simp_all
    exact pinned_of_view mn G0 hdef hp hk
  have ge : s.gens = #[] := Array.eq_empty_of_size_eq_zero (beq_iff_eq.mp gs)
  have G : Ground q loose r.records XP w s _ _ s.heap := RF.ground G0
  refine callC_of (c := r.toRowW.claim) z ge fun args a1 a2 ord a3 => ?_
  obtain ⟨⟨vs, s₁⟩, la⟩ := Option.isSome_iff_exists.mp (layAllW_isSome (P := w.params) (ord := ord) G.has args r.args s (pre_splitW a1).1)
  have kp := layAllW_keeps _ _ _ la
  have rest := layAllW_rest _ _ _ la
  obtain ⟨as, rd, hin, old⟩ := reads_layAllW a3 _ _ _ la a2 s₁.heap (fun _ _ e => e)
  have L : Laid r.records w s s₁ args vs as := ⟨⟨ord, a3, la⟩, rd, hin, old, kp, rest.1.trans ge, rest.2.2.1⟩
  have G₁ := G.keeps hXk kp
  obtain ⟨a, o, pm, cd, doc, dV, kV, h1, h2, h3, h4, h5⟩ := G₁.fn hdef
  have run := call w s s₁ _ _ G₁ (hYk _ _ _ (hY w s y) kp) a o pm cd doc dV kV h2 h3 h4 h5 (defOf_name hdef ▸ h1) L.gens args vs as a1 a2 L.reads L.well (L.low G.low)
  have id := ident_freeW n2 n3 n4
  have wi : r.toRowW.claim.within = [] := List.isEmpty_iff.mp m3
  refine ⟨vs, s₁, la, wpC_step (wpAny_nsGet G₁.T.g ?_)⟩
  rw [h1]
  refine wpC_bind (wpC_mono run (fun v s' g => wpC_pure ⟨_, rfl, ?_⟩) fun e s' g => ?_)
  · have q := g.laid (c := r.toRowW.claim) n1 wi id L
    exact ⟨q.1, q.2.1, q.2.2, fun x => ⟨namesKept_of T mn _ kp g.2.1.old, noTable hwr x⟩⟩
  · have q := g.laid (c := r.toRowW.claim) n1 wi id L
    exact ⟨q.1, q.2.1, q.2.2, fun x => ⟨namesKept_of T mn _ kp g.2.1.old, noTable hwr x⟩⟩
end L2
namespace L2
open PySem PySem.Spec PyProof.Rows
noncomputable def PEC (X : Cx) (e : Expr) (t : TE) : Prop :=
  ∀ (pins : List (Addr × Obj)) (s : Shared) (σ : St) (H : Hp) (Q : VK), Inv X pins σ H s → t σ H Q → wpC (model X.prog X.w) X.A (eval e X.env) (EP X pins σ Q) X.xe s
noncomputable def PSC (X : Cx) (st : Stmt) (t : TS) : Prop :=
  ∀ (pins : List (Addr × Obj)) (s : Shared) (σ : St) (H : Hp) (D : Ends), Inv X pins σ H s → t D σ H → wpC (model X.prog X.w) X.A (exec st X.env) (SP X pins D) X.xe s
noncomputable def PSsC (X : Cx) (st : List Stmt) (t : TS) : Prop :=
  ∀ (pins : List (Addr × Obj)) (s : Shared) (σ : St) (H : Hp) (D : Ends), Inv X pins σ H s → t D σ H → wpC (model X.prog X.w) X.A (execs st X.env) (SP X pins D) X.xe s
theorem thnC {α : Type} {t : Sem α} {Q Q' : α → Shared → Prop} {M : Model} {A : Around} {E : Value → Shared → Prop} {s : Shared} (h : wpC M A t Q E s) (hQ : ∀ a s, Q a s → Q' a s) : wpC M A t Q' E s := wpC_mono h hQ fun _ _ x => x
section
variable {X : Cx} {e : Expr} {st : Stmt} {sts : List Stmt} {te : TE} {t u : TS} {pos : Pos}
theorem PS.c (h : PS X st t) : PSC X st t := fun pins s σ H D I q => wpC_of (h pins s σ H D I q)
theorem PSs.c (h : PSs X sts t) : PSsC X sts t := fun pins s σ H D I q => wpC_of (h pins s σ H D I q)
theorem psc_cons (h1 : PSC X st t) (h2 : PSsC X sts u) : PSsC X (st :: sts) (tSeq t u) := by
  intro pins s σ H D I h
  refine wpC_cons (thnC (h1 pins s σ H { D with nx := u D } I h) fun f s1 q => ?_)
  cases f with
  | next =>
    obtain ⟨σ', H', I', q⟩ := q
    exact h2 pins s1 σ' H' D I' q
  | ret v => exact q
  | brk => exact q
  | cont => exact q
theorem psc_one (h1 : PSC X st t) : PSsC X [st] t := by
  intro pins s σ H D I h
  refine wpC_cons (thnC (h1 pins s σ H D I h) fun f s1 q => ?_)
  cases f with
  | next => exact wpC_of (wpAny_execs_nil q)
  | ret v => exact q
  | brk => exact q
  | cont => exact q
theorem psc_ret (he : PEC X e te) : PSC X (.Return (some e) pos) (tRet te) := by
  intro pins s σ H D I h
  exact wpC_Return (thnC (he pins s σ H _ I h) fun v s1 ⟨x, H1, I1, r1, q1⟩ => ⟨x, σ, H1, I1, r1, q1⟩)
theorem psc_set {i : Nat} {x : Str} {pos' : Pos} (he : PEC X e te) (hN : X.N.Nodup) (hi : X.N[i]? = some x) (hx : Loc X.env.scope x) (hf : X.fn x = true ∨ X.env.scope.names.lookup x = some .local := by first | exact .inl rfl | exact .inr rfl | assumption)
    (hs : swapsWith e (some (.Name x pos')) pos.line X.env = pure false := by rfl) : PSC X (.Assign [.Name x pos'] e pos) (tAsg te (gName i)) := by
  intro pins s σ H D I h
  refine wpC_AssignName (thnC (he pins s σ H _ I h) fun v s1 ⟨y, H1, I1, r1, q1⟩ => ?_) hs
  exact store_ok (i := i) I1 hN hi hx r1 (fun s2 I2 => ⟨_, H1, I2, q1⟩) hf
end
structure FnOkC (P : Program) (w : World) (K : PySem.W.Frag) (mg : Str → Option Value) (base : Heap) (CX : CXT) (k : Nat) (f : Addr) (fd : FuncData) (ps : List Str) (sp : Sp) : Prop where
  len : ∀ vs H Q E, sp vs H Q E → vs.length = ps.length
  run : ∀ (A : Around) (outer : List Env) (s : Shared) (H : Hp) (args : Args) (us : List Value) (vs : List V) (Q : VK) (E : XK), Room k A → Env0 P w K mg base A outer s H → BindsTo s fd args (ps.zip us) → Vals vs us → sp vs H Q E →
    codeC (model P w) A (.call (.ref f) args) (CR CX outer P w H s Q E) s
structure CalleeC (P : Program) (w : World) (K : PySem.W.Frag) (mg : Str → Option Value) (base : Heap) (CX : CXT) (k : Nat) (x : Str) (ps : List Str) (sp : Sp) : Prop where
  ex : ∃ f fd, FnOkC P w K mg base CX k f fd ps sp ∧ mg x = some (.ref f) ∧ PySem.W.keepIn K (.ref f) = true ∧ Binds K fd ps []
theorem fnC_of {CX : CXT} {P : Program} {w : World} {K : PySem.W.Frag} {mg : Str → Option Value} {base : Heap} {k : Nat} {f : Addr} {name qual : Str} {params : Arguments} {body : List Stmt} {scope : Scope} {dV kV doc pm cdv ct oc : Value} {an od : Option Addr}
    {osl : Array (Option Value)} {N ps : List Str} {sp : Sp} (lk : K.lookup f = some ⟨oc, od, .func (PySem.W.fnOf name qual params body scope dV kV doc pm an cdv ct), osl⟩) (hcd : PySem.W.codeIn K cdv qual = true) (S : FnScope N ps scope)
    (len : ∀ vs H Q E, sp vs H Q E → vs.length = ps.length)
    (hbody : ∀ (A : Around) (outer : List Env) (s : Shared) (H : Hp) (vs : List V) (Q : VK) (E : XK), Room k (A.deeper (envOfC qual scope s.heap.objs.size f cdv)) → sp vs H Q E →
      ∃ t, PSsC (cxOf CX P w K mg base N qual scope f cdv A outer s H E) body t ∧ t { nx := fun _ H' => Q .non H', rt := Q } (start N vs) H) :
    FnOkC P w K mg base CX (k + 1) f (PySem.W.fnOf name qual params body scope dV kV doc pm an cdv ct) ps sp := by
  refine ⟨len, fun A outer s H args us vs Q E hr e0 hb r hsp => ?_⟩
  have hl := len _ _ _ _ hsp
  have KX : K.In s.heap := e0.mod.kin.keeps fun b o e => (e0.bs b o e).1
  have lim : s.heap.NoLimit := e0.mod.nolimit.keeps fun b o e => (e0.bs b o e).1
  have hkind : ∀ y ∈ ps.zip us, scope.names.lookup y.1 = some .local ∨ (scope.names.lookup y.1 = some .cell ∧ ((cellsFrom (s.heap.objs.size + 1) scope.names []).lookup y.1).isSome = true) := fun ⟨n, v⟩ hy => by
    rcases S.par n (List.of_mem_zip hy).1 with q | q
    · exact .inl q
    · exact .inr ⟨q, PySem.W.cellsFrom_some _ _ _ (.inl q)⟩
  refine codeC_callFunction hr.depth (KX _ _ lk) rfl S.co S.gen rfl (PySem.W.codeRec_of KX hcd) (hb _ _ _ _ ?_)
  refine wpAny_newFunctionEnv_cells S.kind hkind fun env he s1 x => ?_
  subst he
  refine ⟨lim.keeps x.toInCall.keep, codeC_func ?_⟩
  obtain ⟨t, ht, hq⟩ := hbody A outer s H vs Q E (hr.deeper _) hsp
  have I : Inv (cxOf CX P w K mg base N qual scope f cdv A outer s H E) [] (start N vs) H s1 := inv_start S hr.hd e0 hl r x
  refine wpC_mono (ht [] s1 (start N vs) H _ I hq) (fun fl s' hs => ?_) fun e s' hs => hs
  have fin : ∀ {σ' : St} {H' : Hp} {v : V} {u : Value}, Inv (cxOf CX P w K mg base N qual scope f cdv A outer s H E) [] σ' H' s' → RelV v u → Q v H' → CE outer P w H s Q u s' :=
    fun {σ' H' v u} J rv q => ⟨v, H', J.os, J.bare, J.base, J.hok, rv, q⟩
  cases fl with
  | ret u =>
    obtain ⟨v, σ', H', J, rv, q⟩ := hs
    exact fin J rv q
  | next =>
    obtain ⟨σ', H', J, q⟩ := hs
    exact fin (v := V.non) (u := Value.none) J rfl q
  | brk =>
    obtain ⟨_, _, _, q⟩ := hs
    exact False.elim q
  | cont =>
    obtain ⟨_, _, _, q⟩ := hs
    exact False.elim q
theorem Fun.okC {P : Program} {w : World} {K : PySem.W.Frag} {mg : Str → Option Value} {base : Heap} {N : List Str} {qual : Str} {f : Addr} {x : Str} {st : Stmt} {fd : FuncData} {ps : List Str} {k : Nat} {sp : Sp} (F : Fun K x qual st f fd) (S : FnScope N ps (defScope st)) (len : ∀ vs H Q E, sp vs H Q E → vs.length = ps.length)
    (hbody : ∀ (cdv : Value) (A : Around) (outer : List Env) (s : Shared) (H : Hp) (vs : List V) (Q : VK) (E : XK), Room k (A.deeper (envOfC qual (defScope st) s.heap.objs.size f cdv)) → sp vs H Q E →
      ∃ t, PSsC (cxOf (CXE P w) P w K mg base N qual (defScope st) f cdv A outer s H E) (defBody st) t ∧ t { nx := fun _ H' => Q .non H', rt := Q } (start N vs) H) : FnOkC P w K mg base (CXE P w) (k + 1) f fd ps sp := by
  obtain ⟨oc, od, kV, doc, pm, an, cdv, ct, osl, rfl, lk, hcd⟩ := F.ex
  exact fnC_of lk hcd S len fun A outer s H vs Q E hr hsp => hbody cdv A outer s H vs Q E hr hsp
theorem callWithC_of {M : Model} {A : Around} {E : Value → Shared → Prop} {s : Shared} {pos : Pos} {f : Value} {Q : Value → Shared → Prop} {B : Heap → Prop} {args : List (Bool × Sem Value)} (hp : (args.any (·.1) || ([] : List (Option Str × Sem Value)).any (·.1.isNone)) = false)
    (hk : ∀ h, B h → ∃ k, (k = Keeper.frame ∨ k = Keeper.machine ∨ k = Keeper.boundFrame) ∧ PySem.W.Looks M h (keeperOf f) k)
    (h : wpAny M A (evalArgs f true args []) (fun a s₁ => B s₁.heap ∧ wpC M A (call f a.pos a.kw) Q E s₁) E s) : wpC M A (callWith pos f [] args []) Q E s := by
  unfold callWith
  refine wpC_bind (wpC_holding (wpC_mono (wpC_of h) (fun a s₁ h₁ => wpC_step (wpAny_standAt ?_)) fun _ _ x => x))
  obtain ⟨k, hk', L⟩ := hk _ h₁.1
  simp only [hp]
  refine wpC_step (L.here ?_)
  have tail : ∀ {t : Sem Value}, wpC M A t Q E s₁ → wpC M A (t >>= fun r => holding [r] point >>= fun _ => pure r) Q E s₁ :=
    fun ht => wpC_bind (wpC_mono ht (fun r s₂ hr => wpC_bind (wpC_holding (wpC_of (wpAny_point (wpC_pure hr))))) fun _ _ x => x)
  have marked (mk : Value) : wpC M A (callMarked mk f ([] ++ a.pos) a.kw) Q E s₁ := by unfold callMarked; exact wpC_keep h₁.2
  rcases hk' with rfl | rfl | rfl <;> dsimp only <;> first | exact tail h₁.2 | (split <;> first | exact tail h₁.2 | exact tail (marked _))
theorem callWithC {M : Model} {A : Around} {E : Value → Shared → Prop} {s : Shared} {env : Env} {K : PySem.W.Frag} {pos : Pos} {f : Value} {Q : Value → Shared → Prop} {e : Expr} {rest : List Expr} (hk : PySem.W.keepIn K f = true)
    (h : wpAny M A (spliced (backTo pos (starEach (e :: rest) env))) (fun vs s₁ => K.In s₁.heap ∧ wpC M A (call f vs) Q E s₁) E s)
    (he : starEach (e :: rest) env = (false, eval e env) :: starEach rest env := by rfl) (hplain : (backTo pos (starEach rest env)).any (·.1) = false := by rfl) :
    wpC M A (callWith pos f [] (backTo pos (starEach (e :: rest) env)) []) Q E s := by
  rw [he] at h ⊢
  exact callWithC_of (by show ((false || (backTo pos (starEach rest env)).any (·.1)) || false) = false; rw [hplain]; rfl) (PySem.W.keeps_K hk) (Calls.evalArgs_plain h)
theorem callWithC_ty {M : Model} {A : Around} {E : Value → Shared → Prop} {s : Shared} {env : Env} {pos : Pos} {T : String} {Q : Value → Shared → Prop} {e : Expr} {rest : List Expr}
    (h : wpAny M A (spliced (backTo pos (starEach (e :: rest) env))) (fun vs s₁ => wpC M A (call (.type T) vs) Q E s₁) E s)
    (he : starEach (e :: rest) env = (false, eval e env) :: starEach rest env := by rfl) (hplain : (backTo pos (starEach rest env)).any (·.1) = false := by rfl) :
    wpC M A (callWith pos (.type T) [] (backTo pos (starEach (e :: rest) env)) []) Q E s := by
  rw [he] at h ⊢
  exact callWithC_of (B := fun _ => True) (by show ((false || (backTo pos (starEach rest env)).any (·.1)) || false) = false; rw [hplain]; rfl) (fun h _ => ⟨.machine, .inr (.inl rfl), .now⟩) (Calls.evalArgs_plain (wpAny_mono h (fun _ _ z => ⟨trivial, z⟩) fun _ _ z => z))
section
variable {X : Cx} {CX : CXT} {k : Nat} {ps : List Str} {sp : Sp} {E : XK} {R : St → Prop} {x : Str} {p pos : Pos} {e : Expr} {es : List Expr} {t : TA}
theorem pec_callR (c : CalleeC X.prog X.w X.K X.mg X.base CX k x ps sp) (hr : Room k X.A) (hx : PassR CX X E R) (hg : Gl X x) (ha : PA X (e :: es) t) (hdb : (x == ("__debug__" : Str)) = false := by decide)
    (he : starEach (e :: es) X.env = (false, eval e X.env) :: starEach es X.env := by rfl) (hpl : (backTo pos (starEach es X.env)).any (·.1) = false := by rfl) : PEC X (.Call (.Name x p) (e :: es) [] pos) (tCallR sp R E t) := by
  obtain ⟨f, fd, F, hm, hk, hb⟩ := c.ex
  intro pins s σ H Q I h
  refine wpC_CallName (ld_glob I hg hm ?_ hdb)
  refine callWithC (K := X.K) hk (thn (ha pos pins s σ H _ I h) fun us s1 ⟨vs, H1, I1, r, hR, q⟩ => ⟨I1.kIn, ?_⟩) he hpl
  have r2 : Vals (vs ++ []) (us ++ []) := r.append .nil
  have hl : (us ++ []).length = ps.length := by rw [← r2.length]; exact F.len _ _ _ _ q
  refine wpC_call (codeC_mono (F.run X.A X.stack s1 H1 ⟨us, []⟩ (us ++ []) (vs ++ []) Q E hr I1.env0 (hb s1 us I1.kIn hl) r2 q) fun rr s' hq => ?_)
  cases rr with
  | error z => exact hx pins σ H1 s1 z s' hR I1 hq
  | ok fl =>
    cases fl with
    | ret u => exact I1.after hq
    | next => exact False.elim hq
    | brk => exact False.elim hq
    | cont => exact False.elim hq
theorem pec_call (c : CalleeC X.prog X.w X.K X.mg X.base CX k x ps sp) (hr : Room k X.A) (hx : Passes CX X E) (hg : Gl X x) (ha : PA X (e :: es) t) (hdb : (x == ("__debug__" : Str)) = false := by decide)
    (he : starEach (e :: es) X.env = (false, eval e X.env) :: starEach es X.env := by rfl) (hpl : (backTo pos (starEach es X.env)).any (·.1) = false := by rfl) : PEC X (.Call (.Name x p) (e :: es) [] pos) (tCall sp [] E t) := by
  obtain ⟨f, fd, F, hm, hk, hb⟩ := c.ex
  intro pins s σ H Q I h
  refine wpC_CallName (ld_glob I hg hm ?_ hdb)
  refine callWithC (K := X.K) hk (thn (ha pos pins s σ H _ I h) fun us s1 ⟨vs, H1, I1, r, q⟩ => ⟨I1.kIn, ?_⟩) he hpl
  have r2 : Vals (vs ++ []) (us ++ []) := r.append .nil
  have hl : (us ++ []).length = ps.length := by rw [← r2.length]; exact F.len _ _ _ _ q
  refine wpC_call (codeC_mono (F.run X.A X.stack s1 H1 ⟨us, []⟩ (us ++ []) (vs ++ []) Q E hr I1.env0 (hb s1 us I1.kIn hl) r2 q) fun rr s' hq => ?_)
  cases rr with
  | error z => exact hx pins σ H1 s1 z s' I1 hq
  | ok fl =>
    cases fl with
    | ret u => exact I1.after hq
    | next => exact False.elim hq
    | brk => exact False.elim hq
    | cont => exact False.elim hq
end
end L2
namespace L2
open PySem PySem.Spec PyProof.Rows
section
variable {X : Cx} {tg : Expr}
theorem psc_for {iter : Expr} {body : List Stmt} {wi : TI} {g : TG} {tb : TS} {pos : Pos} (hp : PassesOwn (model X.prog X.w) X.A X.env X.xe) (hc : X.calm = true) (hi : PI X tg iter wi) (hg : PG X tg g) (hb : PSsC X body tb)
    (hs : ∀ x, foldedSetIterable iter X.env x = pure x := by intro _; rfl) : PSC X (.For tg iter body [] pos) (tFor wi g tb) := by
  intro pins s σ H D I h
  refine wpC_For (thn (hi pins s σ H _ I h) fun v s1 h1 => thn h1 fun itv s2 h2 => ?_) hs
  obtain ⟨it, fp, tn, J, H2, e, I2, T, st2, f2, W, ⟨m0, w0⟩, turn⟩ := h2
  subst e
  have stat : ∀ {H' : Hp}, (∀ b ∈ fp, H' b = none) → ∀ b ∈ fp, FpOk X pins H' b := fun hn b hb => ⟨hn b hb, (f2 b hb).2⟩
  refine codeC_forLoop (fun n s' => ∃ i σ' H', Inv X pins σ' H' s' ∧ tn i s'.heap ∧ (∀ b ∈ fp, H' b = none) ∧ W i n σ' H') ?_ m0 ⟨0, σ, H2, I2, st2, fun b hb => (f2 b hb).1, w0⟩
  rintro n s3 ⟨i, σ3, H3, I3, st3, fr3, w3⟩
  rcases turn i n σ3 H3 w3 with ⟨stop, qn⟩ | ⟨go, N, hN, step⟩
  · refine wpAny_passesOwn hp (thn (T.done X rfl rfl rfl hc i pins s3 σ3 H3 X.xe I3 (stat fr3) st3 stop) fun r s4 ⟨hr, I4⟩ => ?_)
    subst hr
    exact wpAny_execs_nil ⟨σ3, H3, I4, qn⟩
  · refine wpAny_passesOwn hp (thn (T.item X rfl rfl rfl hc i pins s3 σ3 H3 X.xe I3 (stat fr3) st3 go) fun r s4 ⟨u, hr, h4⟩ => ?_)
    subst hr
    refine wpAny_passesOwn hp (thn h4 fun _ s5 ⟨x, H5, I5, r5, y5, st5, fr5⟩ => ?_)
    have I5' := I5.pinned (stat fr5) (T.obj _ _ st5)
    refine wpAny_passesOwn hp (thn (hg _ s5 σ3 H5 x u _ I5' r5 (step x H5 y5)) fun _ s6 ⟨σ6, H6, I6, q6⟩ => ?_)
    refine wpC_mono (hb _ s6 σ6 H6 _ I6 q6) (fun f s7 q7 => ?_) hp
    have again : ∀ {σ7 : St} {H7 : Hp}, Inv X (pins ++ pinsAt fp s5.heap) σ7 H7 s7 → N σ7 H7 → ∃ m, m < n ∧ ∃ i σ' H', Inv X pins σ' H' s7 ∧ tn i s7.heap ∧ (∀ b ∈ fp, H' b = none) ∧ W i m σ' H' := fun {σ7 H7} I7 n7 => by
      obtain ⟨m', hm, w7⟩ := hN σ7 H7 n7
      refine ⟨m', hm, i + 1, σ7, H7, I7.unpinned, T.keep _ _ _ st5 fun b hb o e => (I7.pin (b, o) (List.mem_append_right _ (List.mem_append_right _ (mem_pinsAt hb e)))).1, fun b hb => ?_, w7⟩
      obtain ⟨o, e, d⟩ := T.obj _ _ st5 b hb
      exact (I7.pin (b, o) (List.mem_append_right _ (List.mem_append_right _ (mem_pinsAt hb e)))).2.1
    cases f with
    | next => obtain ⟨σ7, H7, I7, n7⟩ := q7; exact again I7 n7
    | cont => obtain ⟨σ7, H7, I7, n7⟩ := q7; exact again I7 n7
    | brk => obtain ⟨σ7, H7, I7, q7⟩ := q7; exact ⟨σ7, H7, I7.unpinned, q7⟩
    | ret v => obtain ⟨x7, σ7, H7, I7, r7, q7⟩ := q7; exact ⟨x7, σ7, H7, I7.unpinned, r7, q7⟩
end
section
variable {X : Cx} {body : List Stmt} {b₀ : Stmt} {suite : List Stmt} {tb th : TS} {R : St → Prop} {E : XK} {i : Nat} {n cx : Str} {C : Addr} {np hpos pos : Pos}
theorem psc_tryAs (hst : X.stack = X.env :: X.outer) (hfr : X.env.frame = some X.env.locals) (hex : X.ex = []) (hN : X.N.Nodup) (hi : X.N[i]? = some n) (hn : X.env.scope.names.lookup n = some .local) (hg : Gl X cx) (hm : X.mg cx = some (.ref C))
    (hmatch : ∀ cls b H, E cls b H → PySem.W.exmOne X.K cls (.ref C) = some true) (hb : ∀ pn xe, PassR (CXE X.prog X.w) (X.at' pn xe) E R → PSsC (X.at' pn xe) body tb) (hh : ∀ x, PSs (X.suite x) (b₀ :: suite) th)
    (hd : (cx == ("__debug__" : Str)) = false := by decide) :
    PSC X (.Try body [.ExceptHandler (some (.Name cx np)) (some n) (b₀ :: suite) hpos] [] [] pos) (tTryAs tb R E i th) := by
  intro pins s σ H D I h
  obtain ⟨h1, h2⟩ := h
  refine wpC_Try ?_
  have b := hb (X.pn ++ pins) (xeT X R E pins) xeT_pass [] s σ H D I.to_at h1
  refine wpC_mono b (fun f s1 q => ?_) (fun e s1 q => ?_)
  · have q1 := sp_of q
    cases f with
    | next => obtain ⟨σ', H', I', q'⟩ := q1; exact wpC_of (pss_nil pins s1 σ' H' D I' q')
    | brk => exact q1
    | cont => exact q1
    | ret u => exact q1
  · obtain ⟨σ1, H1, s0, x, cls, H', bf, rfl, hR, I1, F, cn, q'⟩ := q
    obtain ⟨B, a0, fl, c1, c2⟩ := F.ex
    have hfm : X.A.frames = some (X.env :: X.outer) := hst ▸ I1.ok.frames
    have fl' : Heap.FlyingW B (X.env :: X.outer) x cls a0 s1.heap := hst ▸ fl
    refine wpAny_looks_onW hfm hfr fl' fun h4 held4 sm4 => wpAny_landsW held4 fun h5 fl5 sm5 => wpC_of ?_
    have fl5' : Heap.FlyingW B X.stack x cls a0 h5 := hst ▸ fl5
    obtain ⟨F5, I5⟩ := F.lands I1 fl c1 c2 fl5' (sm4.trans sm5)
    refine wpAny_handleBy_cons (codeAny_handlers_test (ld_glob (I5.to_suite x) hg hm ?_ hd)) (by intro z; cases z)
    have LT : PySem.W.Looks (model X.prog X.w) h5 (typeOf (.ref x)) cls := by
      obtain ⟨ob, hob, hc⟩ := fl5.there
      exact hc ▸ (PySem.W.Looks.ld hob).andThen .now
    refine PySem.W.exm_one I5.kIn LT (hmatch cls bf H' q') _ _ _ _ (fun _ _ z => z) (codeAny_handlers_suite_as ?_)
    refine lands_againW fl5 fun h6 fl6 sm6 => ?_
    have fl6' : Heap.FlyingW B X.stack x cls a0 h6 := hst ▸ fl6
    obtain ⟨F6, I6⟩ := F5.lands I1 fl5' c1 c2 fl6' sm6
    have no : ∀ b o, s0.heap.get? b = some o → b ≠ x := fun b o z e => by
      rw [e, F.new] at z
      cases z
    have new : X.s₀.heap.get? x = none := by
      cases z : X.s₀.heap.get? x with
      | none => rfl
      | some o =>
        obtain ⟨o', z'⟩ := I1.base.there x o z (by rw [hex]; simp)
        exact absurd rfl (no x o' z')
    have nl : x ≠ X.env.locals := by
      obtain ⟨m, ⟨o, _, _, ho, _⟩, _⟩ := I1.loc
      exact (no _ o ho).symm
    have I7 := I6.track (x := x) (o := excO cls x) F.free new nl (fun y c e => by
      obtain ⟨v, o, ho, _⟩ := I1.cell y c e
      exact no c o ho) (fun p hp => no _ _ (I1.pin p hp).1) (by
      obtain ⟨oe, vs, z1, z2, z3, _⟩ := fl6.first
      refine ⟨⟨oe, vs, z1, z2, z3⟩, ⟨oe, z1⟩, ?_⟩
      rintro g1 g2 ⟨o, ws, y1, y2, y3⟩ k
      exact ⟨o, ws, k o y1, y2, y3⟩)
    refine store_ok (i := i) (v := .ref x) I7 hN hi (.inl hn) rfl (fun s8 I8 => ?_) (.inr hn)
    have c := hh x pins s8 _ _ _ (I8.to_suite x) (h2 σ1 x cls bf H' hR q' F.free)
    refine wpAny_mono c (fun f s9 q9 => ?_) (fun _ _ z => z.elim)
    show wpAny (model X.prog X.w) X.A (do bindName X.env n .none; unbindBehindTheSuite X.env n hpos) (fun _ s₃ => SP X pins D f s₃) X.xe s9
    cases f with
    | next => obtain ⟨σ9, H9, I9, q9⟩ := q9; exact goes_ok (I9.of_suite I.ok.hd) hN hi hn fun s10 I10 => ⟨_, H9, I10, q9⟩
    | brk => obtain ⟨σ9, H9, I9, q9⟩ := q9; exact goes_ok (I9.of_suite I.ok.hd) hN hi hn fun s10 I10 => ⟨_, H9, I10, q9⟩
    | cont => obtain ⟨σ9, H9, I9, q9⟩ := q9; exact goes_ok (I9.of_suite I.ok.hd) hN hi hn fun s10 I10 => ⟨_, H9, I10, q9⟩
    | ret u => obtain ⟨v, σ9, H9, I9, r9, q9⟩ := q9; exact goes_ok (I9.of_suite I.ok.hd) hN hi hn fun s10 I10 => ⟨v, _, H9, I10, r9, q9⟩
end
end L2
namespace L2
open PySem PySem.Spec PyProof.Rows
section
variable {P : Program} {w : World} {K : PySem.W.Frag} {mg : Str → Option Value} {base : Heap} {N : List Str} {qual : Str} {scope : Scope} {f : Addr} {cd : Value} {A : Around} {outer : List Env} {s₀ : Shared} {H₀ : Hp} {E : XK}
theorem handler_raise {pins : List (Addr × Obj)} {σ : St} {H : Hp} {s : Shared} {h0 C : Addr} {y : Str} {e : Expr} {es : List Expr} {ta : TA} {np cpos rpos cp : Pos} {j : _} {Q : Flow → Shared → Prop}
    (I : Inv (cxOf (CXE P w) P w K mg base N qual scope f cd A outer s₀ H₀ E) pins σ H s) (hx : CtxN s.heap h0) (hH : H h0 = none) (q : ExcC K C) (hm : mg y = some (.ref C)) (hg : Gl (cxOf (CXE P w) P w K mg base N qual scope f cd A outer s₀ H₀ E) y)
    (ha : PA ((cxOf (CXE P w) P w K mg base N qual scope f cd A outer s₀ H₀ E).suite h0) (e :: es) ta) (h : ta σ H fun vs H1 => vs.length ≤ sizeLine ∧ E (.ref C) (some 0) H1)
    (he : starEach (e :: es) (envOfC qual scope s₀.heap.objs.size f cd) = (false, eval e (envOfC qual scope s₀.heap.objs.size f cd)) :: starEach es (envOfC qual scope s₀.heap.objs.size f cd) := by rfl)
    (hpl : (backTo cpos (starEach es (envOfC qual scope s₀.heap.objs.size f cd))).any (·.1) = false := by rfl) (hd : (y == ("__debug__" : Str)) = false := by decide) :
    wpAny (model P w) ((A.deeper (envOfC qual scope s₀.heap.objs.size f cd)).mark (some (.ref h0))) (exec (.Raise (some (.Call (.Name y np) (e :: es) [] cpos)) (some (.Constant .none j cp)) rpos) (envOfC qual scope s₀.heap.objs.size f cd)) Q
      (notedBy (model P w) ((A.deeper (envOfC qual scope s₀.heap.objs.size f cd)).mark (some (.ref h0))) (envOfC qual scope s₀.heap.objs.size f cd) (cameBackBy (model P w) (A.deeper (envOfC qual scope s₀.heap.objs.size f cd)) (envOfC qual scope s₀.heap.objs.size f cd) (cxOf (CXE P w) P w K mg base N qual scope f cd A outer s₀ H₀ E).xe)) s := by
  obtain ⟨o, vs, q1, q2, q3⟩ := hx
  have nf : h0 ∉ frs (envOfC qual scope s₀.heap.objs.size f cd :: outer) := fun z => by
    obtain ⟨_, o', z1, z2⟩ := (show s.heap.FunFrames base (envOfC qual scope s₀.heap.objs.size f cd :: outer) from I.stack).mem z
    rw [q1] at z1; cases z1
    exact z2 vs q2
  have I' : Inv (cxOf (CXE P w) P w K mg base N qual scope f cd A outer s₀ H₀ E) (pins ++ [(h0, o)]) σ H s := I.pins_of fun p hp => by
    rcases List.mem_append.mp hp with z | z
    · exact I.pin p (List.mem_append_right _ z)
    · rw [List.mem_singleton] at z
      subst z
      refine ⟨q1, hH, fun z => nf ?_, fun z => nf ?_, fun v z => ?_⟩
      · rw [cx_frs]; exact List.mem_cons.mpr (.inl z)
      · rw [cx_frs]; exact List.mem_cons_of_mem _ z
      · rw [show o.data = _ from q2] at z; cases z
  obtain ⟨bm, NN, nm, qn, bs, hdc, sn, sub, ab, col, dd, k0, k1, k2, k3, k5, l1, l2, l3, l4⟩ := exc_parts q
  have kb : K.In base := I.ok.mod.kin
  have nb : base.Ns NN (base.nsMap NN) := .of_isNs (PySem.W.isNs_of_in kb l2)
  have T0 : OwnTail base vErr bm := PySem.W.tail_of_in kb l4
  refine Raise_from_none (C := C) (nm := nm) (q := qn) (N := NN) (bs := bs) (bm := bm) (hdct := hdc) (sn := sn) (sub := sub) (ab := ab) (col := col) (dd := dd) (k0 := k0) (k1 := k1) (k2 := k2) (k3 := k3) (k5 := k5)
    F.excBase_ValueError (by decide +kernel) F.excBase_ValueError (mN := base.nsMap NN) (h0 := h0) (T0.hasType F.excBase_ValueError.hasBase) rfl ?_ (PySem.W.nsMap_none_of_in kb l2 l3) (ld_glob (I'.to_suite h0) hg hm ⟨rfl, ?_⟩ hd)
  · rw [he]
    show (false || (backTo cpos (starEach es (envOfC qual scope s₀.heap.objs.size f cd))).any (·.1)) = false
    rw [hpl]
    rfl
  · have a := ha cpos (pins ++ [(h0, o)]) s σ H _ (I'.to_suite h0) h
    have a' : wpAny (model P w) ((A.deeper (envOfC qual scope s₀.heap.objs.size f cd)).mark (some (.ref h0))) (spliced (backTo cpos (starEach (e :: es) (envOfC qual scope s₀.heap.objs.size f cd)))) _ (fun _ _ => False) s := a
    rw [he] at a' ⊢
    refine Calls.evalArgs_plain (wpAny_mono a' (fun us s₂ ⟨vs, H1, I1s, r1, hz, q5⟩ => ?_) fun _ _ y => y.elim)
    have I1 := I1s.of_suite I.ok.hd
    have lz := r1.length
    have p0 := (I1.pin (h0, o) (List.mem_append_right _ (List.mem_append_right _ List.mem_cons_self))).1
    refine ⟨rfl, (by show us.length ≤ sizeLine; omega), I1.bk _ _ (kb _ _ l1), nb.keeps I1.bk, T0.keeps I1.bk, ⟨o, _, p0, q2, q3⟩, fun h1 h' e' t hm1 r0 r1 r2 => ?_⟩
    refine PassesOwnAt.leaving (Q₁ := fun e s'' => CXE P w outer H₀ s₀ E e s'') _ _ (fly_rec (bf := some 0) I1 (fun b o z => ?_) hm1.new r1 rfl rfl rfl (by intro z; cases z) q5)
    have ne : b ≠ e' := fun z' => by rw [z', hm1.new] at z; cases z
    exact (r2 b ne).trans (hm1.keeps b o z)
end
noncomputable def tTryR (tb : TS) (R : St → Prop) (E1 E : XK) (C : Addr) (ta : TA) : TS := fun D σ H => tb D σ H ∧ ∀ (σ' : St) (cls : Value) (b : Option Addr) (H' : Hp), R σ' → E1 cls b H' → ta σ' H' fun vs H1 => vs.length ≤ sizeLine ∧ E (.ref C) (some 0) H1
section
variable {P : Program} {w : World} {K : PySem.W.Frag} {mg : Str → Option Value} {base : Heap} {N : List Str} {qual : Str} {scope : Scope} {f : Addr} {cd : Value} {A : Around} {outer : List Env} {s₀ : Shared} {H₀ : Hp} {E : XK}
theorem ps_tryR {body : List Stmt} {tb : TS} {R : St → Prop} {E1 : XK} {cx y : Str} {Cc C : Addr} {e : Expr} {es : List Expr} {ta : TA} {np np2 cpos rpos cp hpos pos : Pos} {j : _}
    (hgc : Gl (cxOf (CXE P w) P w K mg base N qual scope f cd A outer s₀ H₀ E) cx) (hmc : mg cx = some (.ref Cc)) (hmatch : ∀ cls b H, E1 cls b H → b = none ∧ PySem.W.exmOne K cls (.ref Cc) = some true)
    (hb : ∀ pn xe, PassR (CXE P w) ((cxOf (CXE P w) P w K mg base N qual scope f cd A outer s₀ H₀ E).at' pn xe) E1 R → PSs ((cxOf (CXE P w) P w K mg base N qual scope f cd A outer s₀ H₀ E).at' pn xe) body tb)
    (q : ExcC K C) (hm : mg y = some (.ref C)) (hg : Gl (cxOf (CXE P w) P w K mg base N qual scope f cd A outer s₀ H₀ E) y)
    (ha : ∀ x, PA ((cxOf (CXE P w) P w K mg base N qual scope f cd A outer s₀ H₀ E).suite x) (e :: es) ta)
    (he : starEach (e :: es) (envOfC qual scope s₀.heap.objs.size f cd) = (false, eval e (envOfC qual scope s₀.heap.objs.size f cd)) :: starEach es (envOfC qual scope s₀.heap.objs.size f cd) := by rfl)
    (hpl : (backTo cpos (starEach es (envOfC qual scope s₀.heap.objs.size f cd))).any (·.1) = false := by rfl) (hd : (y == ("__debug__" : Str)) = false := by decide) (hdc : (cx == ("__debug__" : Str)) = false := by decide) :
    PS (cxOf (CXE P w) P w K mg base N qual scope f cd A outer s₀ H₀ E) (.Try body [.ExceptHandler (some (.Name cx np)) none [.Raise (some (.Call (.Name y np2) (e :: es) [] cpos)) (some (.Constant .none j cp)) rpos] hpos] [] [] pos) (tTryR tb R E1 E C ta) := by
  intro pins s σ H D I h
  obtain ⟨h1, h2⟩ := h
  refine wpAny_Try_except ?_
  have b := hb ((cxOf (CXE P w) P w K mg base N qual scope f cd A outer s₀ H₀ E).pn ++ pins) (xeT (cxOf (CXE P w) P w K mg base N qual scope f cd A outer s₀ H₀ E) R E1 pins) xeT_pass [] s σ H D I.to_at h1
  refine wpAny_mono b (fun f s1 q => ?_) (fun e s1 q => ?_)
  · have q1 := sp_of q
    cases f with
    | next => obtain ⟨σ', H', I', q'⟩ := q1; exact pss_nil pins s1 σ' H' D I' q'
    | brk => exact q1
    | cont => exact q1
    | ret u => exact q1
  · obtain ⟨σ1, H1, s0, x, cls, H', bf, rfl, hR, I1, F, cn, q'⟩ := q
    obtain ⟨B, a0, fl, c1, c2⟩ := F.ex
    obtain ⟨rfl, hmt⟩ := hmatch cls bf H' q'
    have hfm : (A.deeper (envOfC qual scope s₀.heap.objs.size f cd)).frames = some (envOfC qual scope s₀.heap.objs.size f cd :: outer) := I1.ok.frames
    refine looks_onY (b := none) hfm rfl fl cn fun h4 held4 sm4 cn4 => landsY (b := none) held4 cn4 fun h5 fl5 sm5 cn5 => ?_
    obtain ⟨F5, I5⟩ := F.lands I1 fl c1 c2 fl5 (sm4.trans sm5)
    refine wpAny_handleBy_cons (codeAny_handlers_test (ld_glob (I5.to_suite x) hgc hmc ?_ hdc)) (by intro z; cases z)
    have LT : PySem.W.Looks (model P w) h5 (typeOf (.ref x)) cls := by
      obtain ⟨ob, hob, hc⟩ := fl5.there
      exact hc ▸ (PySem.W.Looks.ld hob).andThen .now
    refine PySem.W.exm_one I5.kIn LT hmt _ _ _ _ (fun _ _ z => z) (codeAny_handlers_suite ?_)
    refine lands_againY (b := none) fl5 cn5 fun h6 fl6 sm6 cn6 => ?_
    obtain ⟨F6, I6⟩ := F5.lands I1 fl5 c1 c2 fl6 sm6
    exact wpAny_execs_cons (handler_raise I6 (cn6 rfl) F.free q hm hg (ha x) (h2 σ1 cls none H' hR q') he hpl hd)
end
theorem leaves_recZ {M : Model} {A : Around} {s : Shared} {E : Value → Shared → Prop} {Q : Unit → Shared → Prop} {base : Heap} {env : Env} {outer : List Env} {L e : Addr} {oe : Obj} {vs : Array Value} {a0 : Value} (hfr : A.frames = some (env :: outer)) (hf : env.frame = some L) (hkb : base.StaysIn s.heap) (hl : s.heap.FunFrames base (env :: outer)) (he : s.heap.get? e = some oe) (hen : base.get? e = Option.none)
    (hd : oe.data = .fields vs) (h1 : vs[1]? = some .none) (h0 : vs[0]? = some a0) (h2 : vs[2]? = some .none) (hQ : ∀ h', Heap.FlyingW base (env :: outer) e oe.cls a0 h' → s.heap.UpToSlots h' → CtxN h' e → Q () { s with heap := h' }) : wpAny M A (leaving env (.ref e)) Q E s := by
  have a := wpAny_leaving_firstW (M := M) (Q := fun _ s' => ∃ h', s' = { s with heap := h' } ∧ Heap.FlyingW base (env :: outer) e oe.cls a0 h' ∧ s.heap.UpToSlots h') (E := fun _ _ => False) hfr hl hf he hkb hen hd h1 h0 fun h' hL => ⟨h', rfl, ⟨hL.1, hen, hL.2.1, hL.2.2.1⟩, hL.2.2.2⟩
  refine wpAny_mono (wpAny_and a (ctx_first hfr hf hl he hd h1 ⟨oe, vs, he, hd, h2⟩)) (fun _ s' q => ?_) (fun _ _ q => q.1.elim)
  obtain ⟨⟨h', rfl, x, y⟩, c'⟩ := q
  exact hQ h' x y c'
theorem fly_new {X : Cx} {M : Model} {pins : List (Addr × Obj)} {σ : St} {H : Hp} {s : Shared} {h' : Heap} {tk : Nat} {e : Addr} {oe : Obj} {vs : Array Value} {a0 : Value} {E : Value → Shared → Prop} {Q : Unit → Shared → Prop} (hst : X.stack = X.env :: X.outer) (hf : X.env.frame = some X.env.locals) (I : Inv X pins σ H s)
    (keeps : ∀ b o, s.heap.get? b = some o → h'.get? b = some o) (hnew : s.heap.get? e = none) (he : h'.get? e = some oe) (hd : oe.data = .fields vs) (h1 : vs[1]? = some .none) (h0 : vs[0]? = some a0) (h2 : vs[2]? = some .none)
    (hQ : ∀ h'' B, Fly X.prog X.w X.stack H s e oe.cls H { s with heap := h'', toks := tk } → Heap.FlyingW B X.stack e oe.cls a0 h'' → (∀ b o, s.heap.get? b = some o → b ∉ frs X.stack → ∃ o', B.get? b = some o') → (∀ b, H b ≠ none → ∃ o, B.get? b = some o) → CtxN h'' e → Q () { s with heap := h'', toks := tk }) :
    wpAny M X.A (leaving X.env (.ref e)) Q E { s with heap := h', toks := tk } := by
  have hfr : X.A.frames = some (X.env :: X.outer) := hst ▸ I.ok.frames
  have st : s.heap.FunFrames X.base X.stack := I.stack
  have hin : ∀ env ∈ X.stack, ∀ b, env.frame = some b → b ∈ frs X.stack := fun env he b hb => List.mem_filterMap.mpr ⟨env, he, hb⟩
  have nfr : ∀ b, H b ≠ none → b ∉ frs X.stack := fun b hb z => hb (I.stkFree b z)
  have hen : (PySem.W.hideAll s.heap (frs X.stack)).get? e = none := by
    cases z : (PySem.W.hideAll s.heap (frs X.stack)).get? e with
    | none => rfl
    | some o => exact absurd (PySem.W.of_hideAll _ z) (by rw [hnew]; intro z; cases z)
  have fre : H e = none := by
    cases z : H e with
    | none => rfl
    | some u =>
      obtain ⟨o, z2⟩ := I.hok.there z
      rw [hnew] at z2; cases z2
  refine leaves_recZ (base := PySem.W.hideAll s.heap (frs X.stack)) hfr hf (fun b o z => keeps b o (PySem.W.of_hideAll _ z)) (hst ▸ ((PySem.W.funFrames_hide st hin).of_keeps fun b o hb _ => ⟨o, keeps b o hb, rfl⟩)) he hen hd h1 h0 h2 fun h'' x1 x4 xc => ?_
  have x1' : Heap.FlyingW (PySem.W.hideAll s.heap (frs X.stack)) X.stack e oe.cls a0 h'' := hst ▸ x1
  have keep : ∀ b o, s.heap.get? b = some o → b ∉ frs X.stack → h''.get? b = some o := fun b o z n => x1.1 b o (PySem.W.hideAll_get _ z n)
  have slot : ∀ b o, s.heap.get? b = some o → b ∈ frs X.stack → ∃ sl, h''.get? b = some { o with slots := sl } := fun b o z n => by
    obtain ⟨_, o', z', d⟩ := st.mem n
    rw [z] at z'; cases z'
    exact x4 b o (keeps b o z) d
  have c1 : ∀ b o, s.heap.get? b = some o → b ∉ frs X.stack → ∃ o', (PySem.W.hideAll s.heap (frs X.stack)).get? b = some o' := fun b o z n => ⟨o, PySem.W.hideAll_get _ z n⟩
  have c2 : ∀ b, H b ≠ none → ∃ o, (PySem.W.hideAll s.heap (frs X.stack)).get? b = some o := fun b hb => by
    cases z : H b with
    | none => exact absurd z hb
    | some u =>
      obtain ⟨o, z2⟩ := I.hok.there z
      exact ⟨o, PySem.W.hideAll_get _ z2 (nfr b hb)⟩
  refine hQ h'' _ ⟨rfl, I.bare, ⟨fun b o z _ hb _ => keep b o z hb, fun b o z _ hb _ => slot b o z hb, fun b o _ n _ => n, fun b o z _ => ?_, fun _ _ z => z, fun _ _ _ z => z, fun b ps z => ⟨#[], by rw [z]; simp⟩⟩, ?_, ⟨_, a0, x1', c1, c2⟩, hnew, fre⟩ x1' c1 c2 xc
  · by_cases hb : b ∈ frs X.stack
    · obtain ⟨sl, z2⟩ := slot b o z hb
      exact ⟨_, z2⟩
    · exact ⟨o, keep b o z hb⟩
  · exact hok_of I.hok fun b o hb z => keep b o z (nfr b hb)
noncomputable def tIntTry (i : Nat) (E : XK) (C : Addr) (ta : TA) : TS := fun D σ H => ∃ x, σ[i]? = some (some (.str x)) ∧ x.length ≤ 640 ∧ (reprText x).length ≤ sizeLine ∧
  (∀ n, PySem.intText? x = some n → D.rt (.int n) H) ∧ (PySem.intText? x = none → ta σ H fun vs H1 => vs.length ≤ sizeLine ∧ E (.ref C) (some 0) H1)
section
variable {P : Program} {w : World} {K : PySem.W.Frag} {mg : Str → Option Value} {base : Heap} {N : List Str} {qual : Str} {scope : Scope} {f : Addr} {cd : Value} {A : Around} {outer : List Env} {s₀ : Shared} {H₀ : Hp} {E : XK}
theorem psc_intTry {i : Nat} {wd y : Str} {C : Addr} {e : Expr} {es : List Expr} {ta : TA} {p1 p2 p3 p4 np np2 cpos rpos cp hpos pos : Pos} {j : _}
    (hgI : Gl (cxOf (CXE P w) P w K mg base N qual scope f cd A outer s₀ H₀ E) "int") (hmI : mg "int" = none) (hgV : Gl (cxOf (CXE P w) P w K mg base N qual scope f cd A outer s₀ H₀ E) "ValueError") (hmV : mg "ValueError" = none)
    (hi : N[i]? = some wd) (hv : Vis scope wd) (hmt : PySem.W.exmOne K (.type "ValueError") (.type "ValueError") = some true)
    (q : ExcC K C) (hm : mg y = some (.ref C)) (hg : Gl (cxOf (CXE P w) P w K mg base N qual scope f cd A outer s₀ H₀ E) y)
    (ha : ∀ x, PA ((cxOf (CXE P w) P w K mg base N qual scope f cd A outer s₀ H₀ E).suite x) (e :: es) ta)
    (he : starEach (e :: es) (envOfC qual scope s₀.heap.objs.size f cd) = (false, eval e (envOfC qual scope s₀.heap.objs.size f cd)) :: starEach es (envOfC qual scope s₀.heap.objs.size f cd) := by rfl)
    (hpl : (backTo cpos (starEach es (envOfC qual scope s₀.heap.objs.size f cd))).any (·.1) = false := by rfl) (hd : (y == ("__debug__" : Str)) = false := by decide)
    (hwd : (wd == ("__debug__" : Str)) = false := by decide) (hwc : (wd == ("__classdict__" : Str)) = false := by decide) :
    PSC (cxOf (CXE P w) P w K mg base N qual scope f cd A outer s₀ H₀ E) (.Try [.Return (some (.Call (.Name "int" p1) [.Name wd p2] [] p3)) p4]
      [.ExceptHandler (some (.Name "ValueError" np)) none [.Raise (some (.Call (.Name y np2) (e :: es) [] cpos)) (some (.Constant .none j cp)) rpos] hpos] [] [] pos) (tIntTry i E C ta) := by
  intro pins s σ H D I h
  obtain ⟨x, hx, hl, hz, hy, hno⟩ := h
  have pa : PA (cxOf (CXE P w) P w K mg base N qual scope f cd A outer s₀ H₀ E).nox [.Name wd p2] (tCons (tVar i) tNil) := pa_cons (pe_var hi hv hwd hwc) pa_nil
  refine wpC_TryL (wpC_cons (wpC_Return (wpC_CallName (ld_blt I hgI hmI bt_int ?_))))
  refine callWithC_ty (wpAny_mono (pa p3 pins s σ H (fun vs H1 => vs = [.str x] ∧ H1 = H) (I.wish _) ⟨.str x, hx, rfl, rfl⟩) (fun us s1 z => ?_) fun _ _ z => False.elim z)
  · obtain ⟨vs, H1, I1w, r, e1, e2⟩ := z
    have I1 := I1w.unwish
    subst e1; subst e2
    obtain ⟨u, rfl, rx⟩ := vals1 r
    obtain ⟨t, rfl⟩ := (show ∃ t, u = Value.str x t from rx)
    cases hc : PySem.intText? x with
    | some n =>
      exact wpC_of (PySem.W.KIN.call_text hc hl ⟨.int n, σ, H1, I1.tok _, ⟨_, rfl⟩, hy n hc⟩)
    | none =>
      refine int_refused hl hc hz (I1.ok.hd rfl) fun h' tk e' v hx' => ?_
      obtain ⟨t', ht', _, _⟩ := hx'.there
      refine fly_new (X := cxOf (CXE P w) P w K mg base N qual scope f cd A outer s₀ H₀ E) rfl rfl I1 hx'.keeps hx'.new ht' rfl rfl rfl rfl fun h'' B F fl c1 c2 cn => wpC_of ?_
      have I5 := Fly.inv I1 F
      refine wpAny_handleBy_cons (codeAny_handlers_test (ld_blt (I5.to_suite e') hgV hmV bt_ValueError ?_)) (by intro z; cases z)
      have LT : PySem.W.Looks (model P w) h'' (typeOf (.ref e')) (.type "ValueError") := by
        obtain ⟨ob, hob, hcc⟩ := fl.there
        have hcc' : ob.cls = .type "ValueError" := hcc
        exact hcc' ▸ (PySem.W.Looks.ld hob).andThen .now
      refine PySem.W.exm_one I5.kIn LT hmt _ _ _ _ (fun _ _ z => z) (codeAny_handlers_suite ?_)
      refine lands_againY (b := none) fl (fun _ => cn) fun h6 fl6 sm6 cn6 => ?_
      obtain ⟨F6, I6⟩ := F.lands I1 fl c1 c2 fl6 sm6
      exact wpAny_execs_cons (handler_raise I6 (cn6 rfl) F.free q hm hg (ha e') (hno hc) he hpl hd)
end
end L2
namespace L2
open PySem PySem.Spec PyProof.Rows
theorem frames_less {g g' h : Heap} (k : ∀ b, g.get? b = none → g'.get? b = none) : ∀ {l : List Env}, h.FunFrames g l → h.FunFrames g' l
  | [], z => z
  | _ :: _, ⟨hk, ⟨L, o, hf, hn, ho, hd⟩, hr⟩ => ⟨hk, ⟨L, o, hf, k L hn, ho, hd⟩, frames_less k hr⟩
theorem frames_but {g h h' : Heap} {C : Addr} (sb : ∀ b, b ≠ C → h'.get? b = h.get? b) : ∀ {l : List Env}, C ∉ frs l → h.FunFrames g l → h'.FunFrames g l
  | [], _, z => z
  | env :: l, nC, ⟨hk, ⟨L, o, hf, hn, ho, hd⟩, hr⟩ => by
    have e : frs (env :: l) = L :: frs l := by unfold frs; rw [List.filterMap_cons, hf]
    rw [e] at nC
    exact ⟨hk, ⟨L, o, hf, hn, (sb L fun z => nC (z ▸ List.mem_cons_self)).trans ho, hd⟩, frames_but sb (fun z => nC (List.mem_cons_of_mem _ z)) hr⟩
theorem none_less {g g' : Heap} (k : ∀ b o, g'.get? b = some o → g.get? b = some o) (b : Addr) (h : g.get? b = none) : g'.get? b = none := by
  cases z : g'.get? b with
  | none => rfl
  | some o => rw [k b o z] at h; cases h
theorem Flying_less {g g' h : Heap} {l : List Env} {e : Addr} {cls a0 : Value} (k : ∀ b o, g'.get? b = some o → g.get? b = some o) (x : Heap.FlyingW g l e cls a0 h) : Heap.FlyingW g' l e cls a0 h := by
  obtain ⟨x1, x2, x3, oe, vs, T, oT, ts, he, hc, hd, h1, hnT, r⟩ := x
  exact ⟨fun b o z => x1 b o (k b o z), none_less k _ x2, frames_less (none_less k) x3, oe, vs, T, oT, ts, he, hc, hd, h1, none_less k _ hnT, r⟩
theorem Held_but {g h h' : Heap} {l : List Env} {e L C : Addr} {cls a0 : Value} {oC : Obj} (gC : g.get? C = none) (hC : h.get? C = some oC) (dC : ∀ vs, oC.data ≠ .fields vs) (nC : C ∉ frs l) (sb : ∀ b, b ≠ C → h'.get? b = h.get? b) (x : Heap.HeldW g l e cls a0 L h) : Heap.HeldW g l e cls a0 L h' := by
  obtain ⟨x1, x2, x3, oe, vs, T, oT, ts, he, hc, hd, h1, hnT, hTe, hT, hdT, h3⟩ := x
  have ne : e ≠ C := fun z => by rw [z, hC] at he; cases he; exact dC vs hd
  have nT : T ≠ C := fun z => by rw [z, hC] at hT; cases hT; exact dC ts hdT
  exact ⟨fun b o z => (sb b fun q => by rw [q, gC] at z; cases z).trans (x1 b o z), x2, frames_but sb nC x3, oe, vs, T, oT, ts, (sb e ne).trans he, hc, hd, h1, hnT, hTe, (sb T nT).trans hT, hdT, h3⟩
theorem Ctx_but {h h' : Heap} {e C : Addr} {oC : Obj} (hC : h.get? C = some oC) (dC : ∀ vs, oC.data ≠ .fields vs) (sb : ∀ b, b ≠ C → h'.get? b = h.get? b) (c : CtxN h e) : CtxN h' e := by
  obtain ⟨oe, vs, he, hd, h2⟩ := c
  exact ⟨oe, vs, (sb e fun z => by rw [z, hC] at he; cases he; exact dC vs hd).trans he, hd, h2⟩
section
variable {M : Model} {A : Around} {E : Value → Shared → Prop} {s : Shared}
theorem passOn_held {α : Type} {g : Heap} {l : List Env} {e L : Addr} {cls a0 : Value} {b : Option Addr} {env : Env} {what : String} {Q : α → Shared → Prop} (hf : env.frame = some L) (x : Heap.HeldW g l e cls a0 L s.heap) (c : b = none → CtxN s.heap e)
    (hE : ∀ h', Heap.HeldW g l e cls a0 L h' → s.heap.UpToSlots h' → (b = none → CtxN h' e) → E (.ref e) { s with heap := h' }) : wpAny M A (passOn what (.ref e) env : Sem α) Q E s := by
  obtain ⟨x1, x2, x3, oe, vs, T, oT, ts, he, hc, hd, h1, hnT, hTe, hT, hdT, h3⟩ := x
  unfold PySem.passOn
  refine wpAny_bind (wpAny_field he hd h1 ?_)
  rw [if_neg (show ¬ ((Value.ref T == Value.none) = true) from by simp)]
  refine wpAny_bind ?_
  unfold setFlight
  refine wpAny_bind (wpAny_field he hd h1 ?_)
  rw [if_pos (show (Value.ref T != Value.none) = true from by simp), hf]
  have hsz3 : 3 < ts.size := (Array.getElem?_eq_some_iff.mp h3).1
  have other : ∀ b, b ≠ T → (s.heap.update T (Obj.mapFields (·.setIfInBounds 3 (rawInt L)))).get? b = s.heap.get? b := fun b hb => Heap.get?_update_other _ _ (Ne.symm hb)
  have noRec : ∀ b o, s.heap.get? b = some o → (∀ vs, o.data ≠ .fields vs) → b ≠ T := fun b o hb hnf q => by
    rw [q, hT] at hb; injection hb with hb; subst hb; exact hnf ts hdT
  refine wpAny_setField hT hdT hsz3 (wpAny_throw ?_)
  refine hE _ ⟨fun b o hbo => (other b fun q => by rw [q, hnT] at hbo; cases hbo).trans (x1 b o hbo), x2, x3.of_keeps fun b o hb hnf => ⟨o, (other b (noRec b o hb hnf)).trans hb, rfl⟩,
    oe, vs, T, _, _, (other e (Ne.symm hTe)).trans he, hc, hd, h1, hnT, hTe, Heap.get?_update_self _ hT (Obj.isFreed_of_fields (Obj.data_mapFields hdT _)), Obj.data_mapFields hdT _, by simp [hsz3]⟩ (fun b o hb hn => ⟨o.slots, (other b (noRec b o hb hn)).trans hb⟩) fun hb => ?_
  obtain ⟨o1, w1, q1, q2, q3⟩ := c hb
  exact ⟨o1, w1, (other e (Ne.symm hTe)).trans q1, q2, q3⟩
theorem leaves_heldY {g : Heap} {env : Env} {outer : List Env} {L e : Addr} {cls a0 : Value} {b : Option Addr} {Q : Unit → Shared → Prop} (hf : env.frame = some L) (hh : Heap.HeldW g (env :: outer) e cls a0 L s.heap) (c : b = none → CtxN s.heap e)
    (hQ : ∀ h', Heap.FlyingW g outer e cls a0 h' → s.heap.UpToSlots h' → (b = none → CtxN h' e) → Q () { s with heap := h' }) : wpAny M A (leaving env (.ref e)) Q E s := by
  unfold leaving
  refine wpAny_bind (wpAny_noteFrame_againW hf hh.2.2.2 ?_)
  refine landsY hh c fun h' hfl sl c' => ?_
  obtain ⟨k1, k2, ⟨_, _, k3⟩, k4⟩ := hfl
  exact hQ h' ⟨k1, k2, k3, k4⟩ sl c'
end
section
variable {P : Program} {w : World} {K : PySem.W.Frag} {mg : Str → Option Value} {base : Heap} {N : List Str} {qual : Str} {scope : Scope} {f : Addr} {cd : Value} {A : Around} {outer : List Env} {s₀ : Shared} {H₀ : Hp} {E : XK}
theorem fly_out {pins : List (Addr × Obj)} {σ : St} {H H' : Hp} {s s' : Shared} {x : Addr} {cls a0 : Value} {B B' h'' : Heap} {bf : Option Addr} (I : Inv (cxOf (CXE P w) P w K mg base N qual scope f cd A outer s₀ H₀ E) pins σ H s)
    (F : Fly P w (envOfC qual scope s₀.heap.objs.size f cd :: outer) H s x cls H' s') (fl : Heap.FlyingW B (envOfC qual scope s₀.heap.objs.size f cd :: outer) x cls a0 s'.heap)
    (c1 : ∀ b o, s.heap.get? b = some o → b ∉ frs (envOfC qual scope s₀.heap.objs.size f cd :: outer) → ∃ o', B.get? b = some o') (c2 : ∀ b, H' b ≠ none → ∃ o, B.get? b = some o)
    (inB1 : ∀ b o, s₀.heap.get? b = some o → ∀ u, B.get? b = some u → B'.get? b = some u) (inB2 : ∀ b, H' b ≠ none → ∀ u, B.get? b = some u → B'.get? b = some u) (fl2 : Heap.FlyingW B' outer x cls a0 h'')
    (slot : ∀ b o, s'.heap.get? b = some o → b ∈ frs outer → ∃ sl, h''.get? b = some { o with slots := sl }) (cn2 : bf = none → CtxN h'' x) (q : E cls bf H') : CXE P w outer H₀ s₀ E (.ref x) { s' with heap := h'' } := by
  have hsub : ∀ b, b ∈ frs (envOfC qual scope s₀.heap.objs.size f cd :: outer) → b = s₀.heap.objs.size ∨ b ∈ frs outer := fun b hb => List.mem_cons.mp (cx_frs ▸ hb)
  have bs : Un (frs outer) [] H₀ H s₀.heap s.heap := I.base
  have un : Un (frs (envOfC qual scope s₀.heap.objs.size f cd :: outer)) [] H H' s.heap s'.heap := F.un
  have up : ∀ b, b ∈ frs outer → b ∈ frs (envOfC qual scope s₀.heap.objs.size f cd :: outer) := fun b hb => (List.mem_cons_of_mem _ hb : b ∈ s₀.heap.objs.size :: frs outer)
  have noL : ∀ b o, s₀.heap.get? b = some o → b ∉ frs outer → b ∉ frs (envOfC qual scope s₀.heap.objs.size f cd :: outer) := fun b o z n y => by
    rcases hsub b y with rfl | y
    · rw [Heap.get?_none_of_le (Nat.le_refl _)] at z; cases z
    · exact n y
  have inB : ∀ b o, s₀.heap.get? b = some o → b ∉ frs outer → ∃ o', B.get? b = some o' ∧ B'.get? b = some o' := fun b o z n => by
    obtain ⟨o1, z1⟩ := bs.there b o z (by simp)
    obtain ⟨o', z2⟩ := c1 b o1 z1 (noL b o z n)
    exact ⟨o', z2, inB1 b o z o' z2⟩
  have two : ∀ b o, s₀.heap.get? b = some o → H₀ b = none → b ∈ frs outer → ∃ sl, s'.heap.get? b = some { o with slots := sl } := fun b o z n hb => by
    obtain ⟨sl, z1⟩ := bs.slot b o z n hb (by simp)
    obtain ⟨sl', z2⟩ := un.slot b _ z1 (bs.free b o z n (by simp)) (up b hb) (by simp)
    exact ⟨sl', z2⟩
  have fre : s₀.heap.get? x = none := by
    cases z : s₀.heap.get? x with
    | none => rfl
    | some o =>
      obtain ⟨o', z'⟩ := bs.there x o z (by simp)
      rw [F.new] at z'; cases z'
  refine ⟨x, cls, H', bf, rfl, ⟨F.os.trans I.os, F.bare, ⟨fun b o z n hb _ => ?_, fun b o z n hb _ => ?_, fun b o z n _ => ?_, fun b o z _ => ?_, fun b xs z => un.tups b xs (bs.tups b xs z), fun b o u z => un.frzs b o u (bs.frzs b o u z), fun b ps z => ?_⟩, ?_, ⟨B', a0, fl2, fun b o z n => (let ⟨o', _, y⟩ := inB b o z n; ⟨o', y⟩), fun b hb => (let ⟨o', y⟩ := c2 b hb; ⟨o', inB2 b hb o' y⟩)⟩, fre, F.free⟩, cn2, q⟩
  · have z1 := bs.keep b o z n hb (by simp)
    have z2 := un.keep b o z1 (bs.free b o z n (by simp)) (noL b o z hb) (by simp)
    obtain ⟨o', z3, z5⟩ := inB b o z hb
    have z4 := fl.1 b o' z3
    rw [z2] at z4; cases z4
    exact fl2.1 b o z5
  · obtain ⟨sl, z1⟩ := two b o z n hb
    obtain ⟨sl', z2⟩ := slot b _ z1 hb
    exact ⟨sl', z2⟩
  · obtain ⟨o1, z1⟩ := bs.there b o z (by simp)
    exact un.free b o1 z1 (bs.free b o z n (by simp)) (by simp)
  · by_cases hb : b ∈ frs outer
    · obtain ⟨sl, z1⟩ := two b o z (I.ok.frf b hb) hb
      obtain ⟨sl', z2⟩ := slot b _ z1 hb
      exact ⟨_, z2⟩
    · obtain ⟨o', _, z5⟩ := inB b o z hb
      exact ⟨o', fl2.1 b o' z5⟩
  · obtain ⟨m1, z1⟩ := bs.tbls b ps z
    obtain ⟨m2, z2⟩ := un.tbls b _ z1
    exact ⟨m1 ++ m2, by rw [z2, Array.append_assoc]⟩
  · refine hok_of F.hok fun b o hb z => ?_
    obtain ⟨o', z3⟩ := c2 b hb
    have z4 := fl.1 b o' z3
    rw [z] at z4; cases z4
    exact fl2.1 b o (inB2 b hb o z3)
theorem pass_comp {pins : List (Addr × Obj)} {σ : St} {H : Hp} {s : Shared} {x : Addr} {cls : Value} {H' : Hp} {bf : Option Addr} {s' : Shared} {C : Addr} {m : Str → Option Value} {what : String} {c1env : Env} {R : Value → Shared → Prop}
    (I : Inv (cxOf (CXE P w) P w K mg base N qual scope f cd A outer s₀ H₀ E) pins σ H s) (F : Fly P w (envOfC qual scope s₀.heap.objs.size f cd :: outer) H s x cls H' s') (cn : bf = none → CtxN s'.heap x) (q : E cls bf H')
    (nsC : s.heap.Ns C m) (fC : H C = none) (hC : s₀.heap.get? C = none) (nC : C ∉ frs (envOfC qual scope s₀.heap.objs.size f cd :: outer)) (hfe : c1env.frame = (envOfC qual scope s₀.heap.objs.size f cd).frame)
    (hR : ∀ s'', (∃ m, s''.heap.Ns C m) → (∀ h', Heap.SameBut C s''.heap h' → ∀ c2 : Env, c2.frame = (envOfC qual scope s₀.heap.objs.size f cd).frame → wpAny (model P w) (A.deeper (envOfC qual scope s₀.heap.objs.size f cd)) (passOn what (.ref x) c2 : Sem Value) (fun _ _ => False) (cxOf (CXE P w) P w K mg base N qual scope f cd A outer s₀ H₀ E).xe { s'' with heap := h' }) → R (.ref x) s'') :
    notedBy (model P w) (A.deeper (envOfC qual scope s₀.heap.objs.size f cd)) c1env R (.ref x) s' := by
  obtain ⟨B, a0, fl, c1, c2⟩ := F.ex
  have hfr : (A.deeper (envOfC qual scope s₀.heap.objs.size f cd)).frames = some (envOfC qual scope s₀.heap.objs.size f cd :: outer) := I.ok.frames
  have un : Un (frs (envOfC qual scope s₀.heap.objs.size f cd :: outer)) [] H H' s.heap s'.heap := F.un
  obtain ⟨oC, es, ep, gC, dC, rC⟩ := id nsC
  have nfC : ∀ vs, oC.data ≠ .fields vs := fun vs z => by rw [dC] at z; cases z
  have gC' : s'.heap.get? C = some oC := un.keep C oC gC fC nC (by simp)
  have fC' : H' C = none := un.free C oC gC fC (by simp)
  have up : ∀ b, b ∈ frs outer → b ∈ frs (envOfC qual scope s₀.heap.objs.size f cd :: outer) := fun b hb => (List.mem_cons_of_mem _ hb : b ∈ s₀.heap.objs.size :: frs outer)
  have less : ∀ b o, (PySem.W.hideAll B [C]).get? b = some o → B.get? b = some o := fun b o z => PySem.W.of_hideAll _ z
  have hid : ∀ b o, B.get? b = some o → b ≠ C → (PySem.W.hideAll B [C]).get? b = some o := fun b o z n => PySem.W.hideAll_get _ z (by simpa using n)
  have noC : (PySem.W.hideAll B [C]).get? C = none := PySem.W.hideAll_none _ List.mem_cons_self
  have flL := Flying_less less fl
  have note : wpAny (model P w) (A.deeper (envOfC qual scope s₀.heap.objs.size f cd)) (noteFrame (.ref x) (envOfC qual scope s₀.heap.objs.size f cd)) (fun _ s'' => R (.ref x) s'') R s' := by
    refine looks_onY (b := bf) hfr rfl flL cn fun h4 held4 sm4 cn4 => ?_
    have hC4 : ∃ sl, h4.get? C = some { oC with slots := sl } := sm4 C oC gC' nfC
    obtain ⟨sl, hC4⟩ := hC4
    refine hR _ ⟨m, _, es, ep, hC4, dC, rC⟩ fun h5 sb c2e hc2 => ?_
    have sb' : ∀ b, b ≠ C → h5.get? b = h4.get? b := fun b hb => sb.2 b hb
    have held5 := Held_but noC hC4 nfC nC sb' held4
    have cn5 : bf = none → CtxN h5 x := fun z => Ctx_but hC4 nfC sb' (cn4 z)
    refine passOn_held (b := bf) (L := s₀.heap.objs.size) (hc2.trans rfl) held5 cn5 fun h6 held6 sm6 cn6 => ?_
    show wpAny _ _ (leaving (envOfC qual scope s₀.heap.objs.size f cd) (.ref x)) _ _ _
    refine leaves_heldY (b := bf) (L := s₀.heap.objs.size) rfl held6 cn6 fun h7 fl7 sm7 cn7 => ?_
    refine fly_out (s' := s') I F fl c1 c2 (fun b o z u y => hid b u y fun e => by rw [e, hC] at z; cases z) (fun b hb u y => hid b u y fun e => hb (e ▸ fC')) fl7 (fun b o z hb => ?_) cn7 q
    obtain ⟨_, o', z', d⟩ := fl.2.2.1.mem (up b hb)
    rw [z] at z'; cases z'
    obtain ⟨sl4, z4⟩ := sm4 b o z d
    have z5 := (sb' b fun e => nC (e ▸ up b hb)).trans z4
    obtain ⟨sl6, z6⟩ := sm6 b _ z5 d
    obtain ⟨sl7, z7⟩ := sm7 b _ z6 d
    exact ⟨sl7, z7⟩
  have en : noteFrame (.ref x) c1env = noteFrame (.ref x) (envOfC qual scope s₀.heap.objs.size f cd) := by
    unfold noteFrame PySem.frameOf
    rw [hfe]
  unfold notedBy
  rw [en]
  exact note
end
end L2
namespace L2
open PySem PySem.Spec PyProof.Rows
section
variable {X : Cx} {scope : Scope} {Nc : List Str} {src : List (Option Nat)} {tg iter elt : Expr} {ifs : List Expr} {wi : TI} {g : TG} {tt : TT} {te : TE} {pos : Pos}
theorem comp_runC {E : XK} (hc : X.calm = true) (hg : ∀ pins fp C s H, PG (blk X scope Nc pins fp C s H) tg g)
    (ht : ∀ pins fp C s H, PIfs (blk X scope Nc pins fp C s H) ifs tt) (he : ∀ pins fp C s H xe, Passes (CXE X.prog X.w) ((blk X scope Nc pins fp C s H).wish xe) E → PEC ((blk X scope Nc pins fp C s H).wish xe) elt te)
    {pins : List (Addr × Obj)} {σ : St} {H : Hp} {s : Shared} {it : Addr} {fp : List Addr} {tn : Nat → Heap → Prop} {J : It} {Q : VK} {RR : Value → Env → Result → Shared → Prop}
    (ck : CompOk X scope Nc src) (I : Inv X pins σ H s) (T : Turn X.prog X.w X.K tg J fp it tn) (st : tn 0 s.heap) (hf : ∀ b ∈ fp, FpOk X pins H b)
    (R : ∀ p, H p = none → ∃ W : Nat → Nat → List V → St → Hp → Prop, (∃ m, W 0 m [] (inner src σ) (upd H p (.lst []))) ∧ ∀ i m ys σc H2, W i m ys σc H2 →
      (J.stop i H2 ∧ H2 p = some (.lst ys) ∧ Q (.ref p) H2) ∨ (J.go i H2 ∧ ys.length < sizeLine ∧ ∃ N : List V → St → Hp → Prop, (∀ zs σ' H', N zs σ' H' → ∃ m', m' < m ∧ W (i + 1) m' zs σ' H') ∧ ∀ x H3, J.yld i H2 x H3 → g x σc H3 fun σ2 H4 => tt σ2 H4 fun ok H5 =>
        if ok = true then te σ2 H5 fun y H6 => H6 p = some (.lst ys) ∧ N (ys ++ [y]) σ2 (upd H6 p (.lst (ys ++ [y]))) else N ys σ2 H5))
    (fin : ∀ D (cenv : Env) s' H' m, Inv X pins σ H' s' → Q (.ref D) H' → s'.heap.Ns cenv.locals m → H' cenv.locals = none → s.heap.objs.size ≤ cenv.locals → RR (.ref D) cenv (.ok .next) s')
    (finE : ∀ D (cenv : Env) H1 s1 x cls H' bf s' m, cenv.frame = X.env.frame → Inv X pins σ H1 s1 → Fly X.prog X.w X.stack H1 s1 x cls H' s' → (bf = none → CtxN s'.heap x) → E cls bf H' → s1.heap.Ns cenv.locals m → H1 cenv.locals = none → s.heap.objs.size ≤ cenv.locals →
      notedBy (model X.prog X.w) X.A { cenv with scope := relabel scope X.env } (fun e s'' => RR (.ref D) cenv (.error e) s'') (.ref x) s') :
    wpAny (model X.prog X.w) X.A (newList []) (fun acc s₃ => wpAny (model X.prog X.w) X.A (newFunctionEnv scope X.env.globals (clOf X.env scope.names []) [] X.env.qual none .none (some X.env)) (fun cenv s₄ =>
      codeC (model X.prog X.w) X.A (.compStart (.ListComp elt [⟨tg, iter, ifs, 0⟩] scope pos) 0 (.ref it) acc { cenv with scope := relabel scope X.env }) (RR acc cenv) s₄) X.xe s₃) X.xe s := by
  refine wpAny_newObj_type (wpAny_newFunctionEnv ck.nocell (by intro y hy; simp at hy) (fun h₁ hns₁ hsb₁ => ?_) ck.kind)
  dsimp only at hns₁ hsb₁ ⊢
  have hsz : (s.heap.push { cls := .type "list", dict := none, data := .seq ([] : List Value).toArray }).objs.size = s.heap.objs.size + 1 := Heap.size_push ..
  rw [hsz] at hns₁ hsb₁ ⊢
  have hfs : ∀ b ∈ fp, b < s.heap.objs.size := fun b hb => let ⟨_, ho, _⟩ := T.obj _ _ st b hb; Heap.lt_size ho
  have keep : ∀ b o, s.heap.get? b = some o → h₁.get? b = some o := fun b o e => hsb₁.extBut b o (Nat.ne_of_lt (Nat.lt_succ_of_lt (Heap.lt_size e))) (Heap.get?_push_of_some _ (Heap.get?_push_of_some _ e))
  have hl : h₁.get? s.heap.objs.size = some { cls := .type "list", data := .seq ([] : List Value).toArray 0 } :=
    hsb₁.extBut _ _ (Nat.ne_of_lt (Nat.lt_succ_self _)) (Heap.get?_push_of_some _ (Heap.get?_push_size _ rfl))
  have I1 := inv_blk (tk := s.toks + ([] : List (Str × Value)).length) I ck hf hfs keep hl hns₁
  have st1 : tn 0 h₁ := T.keep _ _ _ st fun b _ o e => keep b o e
  generalize hB : blk X scope Nc pins fp (s.heap.objs.size + 1) s H = B at I1
  have hgB : PG B tg g := hB ▸ hg _ _ _ _ _
  have htB : PIfs B ifs tt := hB ▸ ht _ _ _ _ _
  have heB : ∀ xe, Passes (CXE X.prog X.w) (B.wish xe) E → PEC (B.wish xe) elt te := hB ▸ he _ _ _ _ _
  have e1 : B.prog = X.prog := by rw [← hB]; rfl
  have e2 : B.w = X.w := by rw [← hB]; rfl
  have e3 : B.K = X.K := by rw [← hB]; rfl
  have e4 : B.A = X.A := by rw [← hB]; rfl
  have e5 : B.calm = true := by rw [← hB]; exact hc
  have e6 : B.xe = fun _ _ => False := by rw [← hB]; rfl
  have e7 : B.env = compEnvC scope (clOf X.env scope.names []) (s.heap.objs.size + 1) X.env := by rw [← hB]; rfl
  have stk : ∀ b, b ≠ X.env.locals → b ∉ X.fs → b ∉ frs X.stack := fun b h1 h2 z => by
    rcases List.mem_cons.mp (I.stkSub b z) with e | e
    · exact h1 e
    · exact h2 e
  have stat : ∀ {H' : Hp}, (∀ b ∈ fp, H' b = none) → ∀ b ∈ fp, FpOk B [] H' b := fun {H'} hn b hb => by
    obtain ⟨_, f1, f2, f3, f4, f5⟩ := hf b hb
    rw [← hB]
    refine ⟨hn b hb, Nat.ne_of_lt (Nat.lt_succ_of_lt (hfs b hb)), stk b f1 f2, .inl hb, fun x c e => f4 x c (ck.sub I.ok e), fun p hp => ?_⟩
    have hp' : p ∈ (X.pn ++ pins) ++ [] := hp
    rw [List.append_nil] at hp'
    exact f5 p hp'
  have D0 : H s.heap.objs.size = none := I.hok.fresh (Nat.le_refl _)
  obtain ⟨W, ⟨m0, w0⟩, turn⟩ := R _ D0
  have back : ∀ {σ' : St} {H' : Hp} {s' : Shared} {pl : List (Addr × Obj)}, Inv B pl σ' H' s' → Inv X pins σ H' s' := fun {σ' H' s' pl} J1 => by
    have u : Un (frs X.stack) fp H H' s.heap s'.heap := by have := J1.base; rw [← hB] at this; exact this
    have ho : s'.os = s.os := by have := J1.os; rw [← hB] at this; exact this
    have hk : HOk X.prog X.w H' s'.heap := by have := J1.hok; rw [e1, e2] at this; exact this
    exact I.call' ho u hk J1.bare fun b hb => let ⟨_, f1, _, f3, f4, f5⟩ := hf b hb; ⟨f3, f1, f4, f5⟩
  have pas : Passes (CXE X.prog X.w) (B.wish fun e s' => ∃ H1 s1 x cls H' bf m, e = .ref x ∧ Inv X pins σ H1 s1 ∧ Fly X.prog X.w X.stack H1 s1 x cls H' s' ∧ (bf = none → CtxN s'.heap x) ∧ E cls bf H' ∧ s1.heap.Ns (s.heap.objs.size + 1) m ∧ H1 (s.heap.objs.size + 1) = none) E := by
    intro pl σ1 H1 s1 e s' J1 h
    obtain ⟨x, cls, H', bf, rfl, F, cn, q⟩ := h
    have J2 := J1.unwish
    have eS : B.stack = X.stack := by rw [← hB]; rfl
    have eL : B.env.locals = s.heap.objs.size + 1 := by rw [e7]; rfl
    obtain ⟨mC, nsC, _⟩ := J2.loc
    have fC := J2.free
    rw [eL] at nsC fC
    have F' : Fly X.prog X.w B.stack H1 s1 x cls H' s' := F
    rw [eS] at F'
    exact ⟨H1, s1, x, cls, H', bf, mC, rfl, back J2, F', cn, q, nsC, fC⟩
  have heC := heB _ pas
  have loop : codeC (model X.prog X.w) X.A (.compLoop (.ListComp elt [⟨tg, iter, ifs, 0⟩] scope pos) 0 (.ref it) (.ref s.heap.objs.size) B.env) (RR (.ref s.heap.objs.size) { compEnvC scope (clOf X.env scope.names []) (s.heap.objs.size + 1) X.env with scope := scope })
      { s with heap := h₁, toks := s.toks + ([] : List (Str × Value)).length } := by
    refine codeC_loop rfl (fun n s' => ∃ i ys σ' H', Inv B [] σ' H' s' ∧ tn i s'.heap ∧ (∀ b ∈ fp, H' b = none) ∧ W i n ys σ' H') (fun n s3 h3 => ?_) m0
      ⟨0, [], _, _, I1, st1, fun b hb => ?_, w0⟩
    · obtain ⟨i, ys, σ3, H3, I3, st3, fr3, w3⟩ := h3
      show wpC _ X.A ((compTurn (.ListComp elt [⟨tg, iter, ifs, 0⟩] scope pos) 0 (.ref it) (.ref s.heap.objs.size) B.env).onRaise (fun x => do noteFrame x B.env; theTreesLotGoes x)) _ _ s3
      refine wpC_noted ?_
      rw [compTurn_list]
      refine wpC_step (wpAny_standAt (wpC_bind ?_))
      rcases turn i n ys σ3 H3 w3 with ⟨stop, hp, qn⟩ | ⟨go, hz, N, hN, step⟩
      · have d := T.done B e1 e2 e3 e5 i [] s3 σ3 H3 (fun _ _ => False) I3 (stat fr3) st3 stop
        rw [e4] at d
        refine wpC_mono (wpC_of d) (fun r s4 ⟨hr, I4⟩ => ?_) fun _ _ z => z.elim
        subst hr
        refine wpC_pure ?_
        obtain ⟨mC, nsC, _⟩ := I4.loc
        have eL : B.env.locals = s.heap.objs.size + 1 := by rw [e7]; rfl
        rw [eL] at nsC
        have fC := I4.free
        rw [eL] at fC
        exact fin _ { compEnvC scope (clOf X.env scope.names []) (s.heap.objs.size + 1) X.env with scope := scope } s4 H3 mC (back I4) qn nsC fC (Nat.le_succ _)
      · have d := T.item B e1 e2 e3 e5 i [] s3 σ3 H3 (fun _ _ => False) I3 (stat fr3) st3 go
        rw [e4] at d
        refine wpC_mono (wpC_of d) (fun r s4 ⟨u, hr, h4⟩ => ?_) fun _ _ z => z.elim
        subst hr
        refine wpC_bind (wpC_mono (wpC_of h4) (fun _ s5 ⟨x, H5, I5, r5, y5, st5, fr5⟩ => ?_) fun _ _ z => z.elim)
        have I5' := I5.pinned (stat fr5) (T.obj _ _ st5)
        have a := hgB _ s5 σ3 H5 x u _ I5' r5 (step x H5 y5)
        rw [e1, e2, e4, e6] at a
        refine wpC_bind (wpC_mono (wpC_of a) (fun _ s6 ⟨σ6, H6, I6, q6⟩ => ?_) fun _ _ z => z.elim)
        have b := htB _ s6 σ6 H6 _ I6 q6
        rw [e1, e2, e4, e6] at b
        refine wpC_bind (wpC_mono (wpC_of b) (fun ok s7 ⟨H7, I7, q7⟩ => ?_) fun _ _ z => z.elim)
        have again : ∀ {σ8 : St} {H8 : Hp} {s8 : Shared} {zs : List V}, Inv B ([] ++ pinsAt fp s5.heap) σ8 H8 s8 → N zs σ8 H8 →
            ∃ m, m < n ∧ ∃ i ys σ' H', Inv B [] σ' H' s8 ∧ tn i s8.heap ∧ (∀ b ∈ fp, H' b = none) ∧ W i m ys σ' H' := fun {σ8 H8 s8 zs} I8 n8 => by
          obtain ⟨m', hm, w8⟩ := hN zs σ8 H8 n8
          refine ⟨m', hm, i + 1, zs, σ8, H8, I8.unpinned, T.keep _ _ _ st5 fun b hb o e => (I8.pin (b, o) (List.mem_append_right _ (List.mem_append_right _ (mem_pinsAt hb e)))).1, fun b hb => ?_, w8⟩
          obtain ⟨o, e, d⟩ := T.obj _ _ st5 b hb
          exact (I8.pin (b, o) (List.mem_append_right _ (List.mem_append_right _ (mem_pinsAt hb e)))).2.1
        cases ok with
        | false =>
          rw [if_neg Bool.false_ne_true] at q7
          exact wpC_pure (.inl ⟨rfl, again I7 q7⟩)
        | true =>
          rw [if_pos rfl] at q7
          have c := heC _ s7 σ6 H7 _ (I7.wish _) q7
          have c' : wpC (model B.prog B.w) B.A (eval elt B.env) _ _ s7 := c
          rw [e1, e2, e4] at c'
          refine wpC_bind (wpC_bind (wpC_mono c' (fun y s8 ⟨z, H8, I8w, r8, hp8, w8⟩ => ?_) fun e s8 hz => ?_))
          rotate_left
          · obtain ⟨H1, s1, x, cls, H', bf, m, rfl, J1, F1, cn1, q1, ns1, f1⟩ := hz
            have z := finE (s.heap.objs.size) { compEnvC scope (clOf X.env scope.names []) (s.heap.objs.size + 1) X.env with scope := scope } H1 s1 x cls H' bf s8 m rfl J1 F1 cn1 q1 ns1 f1 (Nat.le_succ _)
            rw [e7]
            exact z
          have I8 := I8w.unwish
          have ap := mt_append (X := B) _ s8 σ6 H8 (.ref s.heap.objs.size) [z] (.ref s.heap.objs.size) [y] (fun _ H9 => N (ys ++ [z]) σ6 H9) I8 rfl (.cons r8 .nil)
            ⟨_, ys, z, rfl, rfl, hp8, hz, w8⟩
          rw [e1, e2, e4, e6] at ap
          refine wpC_bind (wpC_mono (wpC_of ap) (fun _ s9 ⟨_, H9, I9, _, w9⟩ => ?_) fun _ _ z => z.elim)
          exact wpC_pure (wpC_pure (.inl ⟨rfl, again I9 w9⟩))
    · rw [upd_ne (Nat.ne_of_lt (hfs b hb))]
      exact (hf b hb).1
  rw [e7] at loop
  exact codeC_compStart loop (T.self X.A 0 _ _ _ st1 loop)
end
section
variable {P : Program} {w : World} {K : PySem.W.Frag} {mg : Str → Option Value} {base : Heap} {N : List Str} {qual : Str} {sc : Scope} {f : Addr} {cd : Value} {A : Around} {outer : List Env} {s₀ : Shared} {H₀ : Hp} {E : XK}
variable {scope : Scope} {Nc : List Str} {src : List (Option Nat)} {tg iter elt : Expr} {ifs : List Expr} {wi : TI} {g : TG} {tt : TT} {te : TE} {pos : Pos}
theorem comp_gone {pins : List (Addr × Obj)} {σ : St} {H1 H2 : Hp} {s1 s2 : Shared} {x : Addr} {cls : Value} {H' : Hp} {bf : Option Addr} {s' : Shared} {m : Str → Option Value} {use : Option (Value → Sem Unit)} {Q : Value → Shared → Prop} {acc : Value} {cenv : Env}
    (I2 : Inv (cxOf (CXE P w) P w K mg base N qual sc f cd A outer s₀ H₀ E) pins σ H2 s2) (hfe : cenv.frame = (envOfC qual sc s₀.heap.objs.size f cd).frame) (I : Inv (cxOf (CXE P w) P w K mg base N qual sc f cd A outer s₀ H₀ E) pins σ H1 s1)
    (F : Fly P w (envOfC qual sc s₀.heap.objs.size f cd :: outer) H1 s1 x cls H' s') (cn : bf = none → CtxN s'.heap x) (q : E cls bf H') (ns : s1.heap.Ns cenv.locals m) (fC : H1 cenv.locals = none) (hC : s2.heap.objs.size ≤ cenv.locals) :
    notedBy (model P w) (A.deeper (envOfC qual sc s₀.heap.objs.size f cd)) { cenv with scope := relabel scope (envOfC qual sc s₀.heap.objs.size f cd) }
      (fun e s'' => cPost (model P w) (A.deeper (envOfC qual sc s₀.heap.objs.size f cd)) (cxOf (CXE P w) P w K mg base N qual sc f cd A outer s₀ H₀ E).xe use Q acc cenv (.error e) s'') (.ref x) s' := by
  have h0 : s₀.heap.get? cenv.locals = none := Heap.get?_none_of_le (Nat.le_trans I2.sz hC)
  have nC : cenv.locals ∉ frs (envOfC qual sc s₀.heap.objs.size f cd :: outer) := fun z => by
    obtain ⟨_, o, ho, _⟩ := (show s2.heap.FunFrames base (envOfC qual sc s₀.heap.objs.size f cd :: outer) from I2.stack).mem z
    exact absurd (Heap.lt_size ho) (Nat.not_lt.mpr hC)
  refine pass_comp (what := "comprehension.variables-let-go") I F cn q ns fC h0 nC hfe fun s'' hm hr => ?_
  obtain ⟨m', hm⟩ := hm
  have : ∃ m, s''.heap.Ns cenv.locals m ∧ ∀ h', Heap.SameBut cenv.locals s''.heap h' → ∀ c2 : Env, c2.frame = cenv.frame → wpAny (model P w) (A.deeper (envOfC qual sc s₀.heap.objs.size f cd)) (passOn "comprehension.variables-let-go" (.ref x) c2 : Sem Value) (fun _ _ => False) (cxOf (CXE P w) P w K mg base N qual sc f cd A outer s₀ H₀ E).xe { s'' with heap := h' } :=
    ⟨m', hm, fun h' sb c2 hc2 => hr h' sb c2 (hc2.trans hfe)⟩
  cases use <;> exact this
theorem pec_comp (hi : PI (cxOf (CXE P w) P w K mg base N qual sc f cd A outer s₀ H₀ E) tg iter wi) (ck : compOk scope sc N Nc src = true)
    (hg : ∀ pins fp C s H, PG (blk (cxOf (CXE P w) P w K mg base N qual sc f cd A outer s₀ H₀ E) scope Nc pins fp C s H) tg g) (ht : ∀ pins fp C s H, PIfs (blk (cxOf (CXE P w) P w K mg base N qual sc f cd A outer s₀ H₀ E) scope Nc pins fp C s H) ifs tt)
    (he : ∀ pins fp C s H xe, Passes (CXE P w) ((blk (cxOf (CXE P w) P w K mg base N qual sc f cd A outer s₀ H₀ E) scope Nc pins fp C s H).wish xe) E → PEC ((blk (cxOf (CXE P w) P w K mg base N qual sc f cd A outer s₀ H₀ E) scope Nc pins fp C s H).wish xe) elt te)
    (hs : ∀ x, foldedSetIterable iter (envOfC qual sc s₀.heap.objs.size f cd) x = pure x := by intro _; rfl) :
    PEC (cxOf (CXE P w) P w K mg base N qual sc f cd A outer s₀ H₀ E) (.ListComp elt [⟨tg, iter, ifs, 0⟩] scope pos) (tComp src wi g tt te) := by
  intro pins s σ H Q I h
  have CK : CompOk (cxOf (CXE P w) P w K mg base N qual sc f cd A outer s₀ H₀ E) scope Nc src := CompOk.of ck
  rw [eval_ListComp]
  refine wpC_comp (use := none) rfl hs (closure_is (CK.cells I.ok)) CK.kind CK.loc (thn (hi pins s σ H _ I h) fun v s1 h1 => thn h1 fun itv s2 h2 => ?_)
  obtain ⟨it, fp, tn, J, H2, rfl, I2, T, st2, f2, R⟩ := h2
  refine comp_runC (X := cxOf (CXE P w) P w K mg base N qual sc f cd A outer s₀ H₀ E) (E := E) (RR := fun acc cenv => cPost (model P w) (A.deeper (envOfC qual sc s₀.heap.objs.size f cd)) (cxOf (CXE P w) P w K mg base N qual sc f cd A outer s₀ H₀ E).xe none (EP (cxOf (CXE P w) P w K mg base N qual sc f cd A outer s₀ H₀ E) pins σ Q) acc cenv) rfl hg ht he CK I2 T st2 f2 R
    (fun D cenv s' H' m I' q ns fC hC => ⟨m, ns, fun h' sb => ?_⟩) fun D cenv H1 s1 x cls H' bf s' m hfe J1 F1 cn1 q1 ns1 f1 hC => comp_gone I2 hfe J1 F1 cn1 q1 ns1 f1 hC
  refine ⟨.ref D, H', ?_, rfl, q⟩
  have ltc : ∀ x c, (cxOf (CXE P w) P w K mg base N qual sc f cd A outer s₀ H₀ E).env.cells.lookup x = some c → c < s2.heap.objs.size := fun x c e => let ⟨_, o, ho, _⟩ := I2.cell x c e; Heap.lt_size ho
  refine I'.turned (t' := s'.toks) (it := cenv.locals) (fun b o hb e => (sb.2 b hb).trans e) fC (Nat.ne_of_gt (Nat.lt_of_lt_of_le I2.lt hC)) (.inr (Nat.le_trans I2.sz hC)) (fun x c e => Nat.ne_of_lt (Nat.lt_of_lt_of_le (ltc x c e) hC)) fun p hp => ?_
  exact Nat.ne_of_lt (Nat.lt_of_lt_of_le (Heap.lt_size (I2.pin p hp).1) hC)
theorem psc_comp {i : Nat} {x : Str} {pos' spos : Pos} (hN : N.Nodup) (hi' : N[i]? = some x) (hx : sc.names.lookup x = some .local) (hi : PI (cxOf (CXE P w) P w K mg base N qual sc f cd A outer s₀ H₀ E) tg iter wi) (ck : compOk scope sc N Nc src = true)
    (hg : ∀ pins fp C s H, PG (blk (cxOf (CXE P w) P w K mg base N qual sc f cd A outer s₀ H₀ E) scope Nc pins fp C s H) tg g) (ht : ∀ pins fp C s H, PIfs (blk (cxOf (CXE P w) P w K mg base N qual sc f cd A outer s₀ H₀ E) scope Nc pins fp C s H) ifs tt)
    (he : ∀ pins fp C s H xe, Passes (CXE P w) ((blk (cxOf (CXE P w) P w K mg base N qual sc f cd A outer s₀ H₀ E) scope Nc pins fp C s H).wish xe) E → PEC ((blk (cxOf (CXE P w) P w K mg base N qual sc f cd A outer s₀ H₀ E) scope Nc pins fp C s H).wish xe) elt te)
    (hsw : swapsWith (.ListComp elt [⟨tg, iter, ifs, 0⟩] scope pos) (some (.Name x pos')) spos.line (envOfC qual sc s₀.heap.objs.size f cd) = pure true := by rfl)
    (hs : ∀ x, foldedSetIterable iter (envOfC qual sc s₀.heap.objs.size f cd) x = pure x := by intro _; rfl) :
    PSC (cxOf (CXE P w) P w K mg base N qual sc f cd A outer s₀ H₀ E) (.Assign [.Name x pos'] (.ListComp elt [⟨tg, iter, ifs, 0⟩] scope pos) spos) (tAsg (tComp src wi g tt te) (gName i)) := by
  intro pins s σ H D I h
  have CK : CompOk (cxOf (CXE P w) P w K mg base N qual sc f cd A outer s₀ H₀ E) scope Nc src := CompOk.of ck
  show wpC _ _ (exec (.Assign [.Name x pos'] (.ListComp elt [⟨tg, iter, ifs, 0⟩] scope pos) spos) (envOfC qual sc s₀.heap.objs.size f cd)) _ _ s
  rw [exec_Assign_Name_used _ _ _ _ hsw]
  refine wpC_step (wpAny_standAt (wpC_bind ?_))
  show wpC _ (A.deeper (envOfC qual sc s₀.heap.objs.size f cd)) (do let _ ← comprehension (.ListComp elt [⟨tg, iter, ifs, 0⟩] scope pos) scope (envOfC qual sc s₀.heap.objs.size f cd) _ (newList []) false (eval iter (envOfC qual sc s₀.heap.objs.size f cd)) (some (assign (.Name x pos') (envOfC qual sc s₀.heap.objs.size f cd)))) _ _ s
  refine wpC_bind (wpC_mono (wpC_comp (use := some (assign (.Name x pos') (envOfC qual sc s₀.heap.objs.size f cd))) (Q := fun _ s' => SP (cxOf (CXE P w) P w K mg base N qual sc f cd A outer s₀ H₀ E) pins D .next s') rfl hs (closure_is (CK.cells I.ok)) CK.kind CK.loc
    (thn (hi pins s σ H _ I h) fun v s1 h1 => thn h1 fun itv s2 h2 => ?_)) (fun _ s' hq => wpC_pure (wpC_pure hq)) fun _ _ e => e)
  obtain ⟨it, fp, tn, J, H2, rfl, I2, T, st2, f2, R⟩ := h2
  refine comp_runC (X := cxOf (CXE P w) P w K mg base N qual sc f cd A outer s₀ H₀ E) (E := E) (Q := fun v H' => D.nx (σ.set i (some v)) H') (RR := fun acc cenv => cPost (model P w) (A.deeper (envOfC qual sc s₀.heap.objs.size f cd)) (cxOf (CXE P w) P w K mg base N qual sc f cd A outer s₀ H₀ E).xe (some (assign (.Name x pos') (envOfC qual sc s₀.heap.objs.size f cd))) (fun _ s' => SP (cxOf (CXE P w) P w K mg base N qual sc f cd A outer s₀ H₀ E) pins D .next s') acc cenv) rfl hg ht he CK I2 T st2 f2 R
    (fun E' cenv s' H' m I' q ns fC hC => ?_) fun D cenv H1 s1 x cls H' bf s' m hfe J1 F1 cn1 q1 ns1 f1 hC => comp_gone I2 hfe J1 F1 cn1 q1 ns1 f1 hC
  show wpAny _ _ (assign (.Name x pos') (envOfC qual sc s₀.heap.objs.size f cd) (.ref E')) _ _ _
  have ltc : ∀ x c, (cxOf (CXE P w) P w K mg base N qual sc f cd A outer s₀ H₀ E).env.cells.lookup x = some c → c < s2.heap.objs.size := fun x c e => let ⟨_, o, ho, _⟩ := I2.cell x c e; Heap.lt_size ho
  refine wpAny_assign_Name (store_ok2 (X := cxOf (CXE P w) P w K mg base N qual sc f cd A outer s₀ H₀ E) (i := i) I' hN hi' (.inl hx) (v := .ref E') rfl (fun s'' I'' hb => ?_) (.inr hx))
  obtain ⟨b, sb, hb⟩ := hb
  have neC : cenv.locals ≠ b := by
    rcases hb with rfl | hb
    · exact Nat.ne_of_gt (Nat.lt_of_lt_of_le I2.lt hC)
    · exact Nat.ne_of_gt (Nat.lt_of_lt_of_le (ltc x b hb) hC)
  refine ⟨m, ns.sameBut sb neC, fun h' sb' => ⟨_, H', ?_, q⟩⟩
  refine I''.turned (t' := s''.toks) (it := cenv.locals) (fun b o hb e => (sb'.2 b hb).trans e) fC (Nat.ne_of_gt (Nat.lt_of_lt_of_le I2.lt hC)) (.inr (Nat.le_trans I2.sz hC)) (fun x c e => Nat.ne_of_lt (Nat.lt_of_lt_of_le (ltc x c e) hC)) fun p hp => ?_
  exact Nat.ne_of_lt (Nat.lt_of_lt_of_le (Heap.lt_size (I2.pin p hp).1) hC)
end
end L2
namespace L2
open PySem
theorem wpAny_toks {α : Type} {M : Model} {A : Around} {t : Sem α} {Q : α → Shared → Prop} {E : Value → Shared → Prop} {s : Shared} {n : Nat} (hn : n ≤ s.toks) (h : wpAny M A t Q E s) : wpAny M A t (fun a s' => Q a s' ∧ n ≤ s'.toks) E s := fun Γ p hΓ =>
  Sem.wp_mono M Γ t (fun _ _ _ z => ⟨z.2, z.1⟩) (fun _ _ _ z => z.2) p s (Sem.wp_toks M Γ n t _ _ p s hn (h Γ p hΓ))
end L2
namespace L2
open PySem PySem.Spec PyProof.Rows
noncomputable def rNotInT : R2 := fun x y H Q => ∃ a b, x = .str a ∧ y = .str b ∧ Q (.bl (!Txt.contains b a)) H
noncomputable def rIndexT : V → List V → Hp → VK → Prop := fun x vs H Q => ∃ a b i rest, x = .str a ∧ vs = [.str b] ∧ Builtin.Str.occurrences a b 0 a.length 1 = i :: rest ∧ Q (.int (i : Nat)) H
section
variable {X : Cx}
theorem op_notInT : OpR X (compareOp .NotIn) rNotInT := by
  intro pins s σ H x y v u Q I rx ry h
  obtain ⟨a, b, rfl, rfl, q⟩ := h
  obtain ⟨t1, rfl⟩ := (show ∃ t, v = Value.str a t from rx)
  obtain ⟨t2, rfl⟩ := (show ∃ t, u = Value.str b t from ry)
  exact P.notIn_str ⟨.bl _, H, I, rfl, q⟩
theorem mt_indexT : MtM X "str.index" rIndexT := by
  intro pins s σ H x vs v us Q I rx rv h
  obtain ⟨a, b, i, rest, rfl, rfl, ho, q⟩ := h
  obtain ⟨t1, rfl⟩ := (show ∃ t, v = Value.str a t from rx)
  obtain ⟨u, rfl, ru⟩ := rv.one
  obtain ⟨t2, rfl⟩ := (show ∃ t, u = Value.str b t from ru)
  exact call_gives F.slot_str_index (typeIs_str _ _ _) F.entry_str_index (F.args_str_index_2 _ _) (gives_str_index a b t1 t2 i rest ho) ⟨.int _, H, I.tok _, ⟨_, rfl⟩, q⟩
noncomputable def PE1 (X : Cx) (e : Expr) (t : TE) : Prop :=
  ∀ (pins : List (Addr × Obj)) (s : Shared) (σ : St) (H : Hp) (Q : VK), 0 < s.toks → Inv X pins σ H s → t σ H Q → wpAny (model X.prog X.w) X.A (eval e X.env) (EP X pins σ Q) X.xe s
noncomputable def PA1 (X : Cx) (es : List Expr) (t : TA) : Prop :=
  ∀ (pos : Pos) (pins : List (Addr × Obj)) (s : Shared) (σ : St) (H : Hp) (Q : List V → Hp → Prop), 0 < s.toks → Inv X pins σ H s → t σ H Q → wpAny (model X.prog X.w) X.A (spliced (backTo pos (starEach es X.env))) (AP X pins σ Q) X.xe s
noncomputable def PEt (X : Cx) (e : Expr) (t : TE) : Prop :=
  ∀ (pins : List (Addr × Obj)) (s : Shared) (σ : St) (H : Hp) (Q : VK), Inv X pins σ H s → t σ H Q → wpAny (model X.prog X.w) X.A (eval e X.env) (fun u s' => EP X pins σ Q u s' ∧ 0 < s'.toks) X.xe s
variable {e : Expr} {es : List Expr} {te : TE} {t : TA}
theorem PE.one (h : PE X e te) : PE1 X e te := fun pins s σ H Q _ I q => h pins s σ H Q I q
theorem pa1_nil : PA1 X [] tNil := fun _ _ _ _ H Q _ I h => Calls.spliced_nil ⟨[], H, I, .nil, h⟩
theorem pa1_cons (ha : PE1 X e te) (hr : PA1 X es t) (hs : starEach (e :: es) X.env = (false, eval e X.env) :: starEach es X.env := by rfl) : PA1 X (e :: es) (tCons te t) := by
  intro pos pins s σ H Q hk I h
  rw [hs]
  show wpAny _ _ (spliced ((false, eval e X.env) :: backTo pos (starEach es X.env))) _ _ s
  refine Calls.spliced_cons (thn (wpAny_toks hk (ha pins s σ H _ hk I h)) fun u s1 ⟨⟨x, H1, I1, r1, q1⟩, hk1⟩ => ?_)
  exact thn (hr pos pins s1 σ H1 _ hk1 I1 q1) fun us s2 ⟨xs, H2, I2, r2, q2⟩ => ⟨x :: xs, H2, I2, .cons r1 r2, q2⟩
theorem pa_first (ha : PEt X e te) (hr : PA1 X es t) (hs : starEach (e :: es) X.env = (false, eval e X.env) :: starEach es X.env := by rfl) : PA X (e :: es) (tCons te t) := by
  intro pos pins s σ H Q I h
  rw [hs]
  show wpAny _ _ (spliced ((false, eval e X.env) :: backTo pos (starEach es X.env))) _ _ s
  refine Calls.spliced_cons (thn (ha pins s σ H _ I h) fun u s1 ⟨⟨x, H1, I1, r1, q1⟩, hk1⟩ => ?_)
  exact thn (hr pos pins s1 σ H1 _ hk1 I1 q1) fun us s2 ⟨xs, H2, I2, r2, q2⟩ => ⟨x :: xs, H2, I2, .cons r1 r2, q2⟩
theorem pet_add {x : Str} {j : _} {p1 pos : Pos} {b : Expr} {tb : TE} (hb : PE X b tb) : PEt X (.BinOp (.Constant (.str x) j p1) .Add b pos) (tOp (fun x y H Q => ∃ i j, x = .str i ∧ y = .str j ∧ i.length + j.length ≤ sizeLine ∧ Q (.str (i ++ j)) H) (tC (.str x)) tb) := by
  intro pins s σ H Q I h
  refine wpAny_BinOp (Calls.Constant_str ?_)
  have hb1 := hb pins { s with toks := s.toks + 1 } σ H _ (I.tok _) h
  refine thn (wpAny_toks (n := 1) (Nat.le_add_left _ _) hb1) fun u s2 ⟨⟨y, H2, I2, ry, q2⟩, hk⟩ => ?_
  have o := op_add_str (X := X) pins s2 σ H2 (.str x) y (.str x s.toks) u Q I2 ⟨_, rfl⟩ ry q2
  exact thn (wpAny_toks hk o) fun _ _ z => z
noncomputable def tRepl (K : PySem.W.Frag) (y z : Str) (to : TE) : TE := fun σ H Q => to σ H fun x H1 => ∃ a : Str, x = .str a ∧ y ≠ z ∧ a.length + (a.length + 1) * z.length ≤ 16777216 ∧ Q (.str (Txt.replace a y z)) H1
theorem pe_repl {o : Expr} {to : TE} {y z : Str} {j1 j2 : _} {p1 p2 apos cpos : Pos} (ho : PE X o to) (hbase : attributeBase o "replace" X.env (eval o X.env) = eval o X.env := by rfl)
    (hfew : ((backTo cpos (starEach [.Constant (.str y) j1 p1, .Constant (.str z) j2 p2] X.env)).all (fun x => !x.1) && (backToKw cpos (keywordEach [] X.env)).all (fun x => x.1.isSome)
      && decide (([.Constant (.str y) j1 p1, .Constant (.str z) j2 p2] : List Expr).length + ([] : List Keyword).length + (if ([] : List Keyword).isEmpty then 0 else 1) < 30)) = true := by rfl)
    (hline : (apos.endLine == cpos.line) = true := by rfl) :
    PE1 X (.Call (.Attribute o "replace" apos) [.Constant (.str y) j1 p1, .Constant (.str z) j2 p2] [] cpos) (tRepl X.K y z to) := by
  intro pins s σ H Q hk I h
  refine wpAny_Call_method_late hbase hfew hline rfl (thn (wpAny_toks hk (ho pins s σ H _ I h)) fun v s1 ⟨⟨x, H1, I1, r1, a, ex, ne, hl, q1⟩, hk1⟩ => ?_)
  subst ex
  obtain ⟨t, rfl⟩ := (show ∃ t, v = Value.str a t from r1)
  obtain ⟨h1, h2⟩ := tyV_is (T := "str") (x := .str a) I1 ⟨t, rfl⟩ rfl
  refine ⟨"str", "str.replace", F.plainAttrs_str, F.slot_str_replace, F.type_str_replace, h1, h2, ?_⟩
  have hA : wpAny (model X.prog X.w) X.A (spliced (backTo cpos (starEach [.Constant (.str y) j1 p1, .Constant (.str z) j2 p2] X.env))) (fun us s2 => us = [.str y s1.toks, .str z (s1.toks + 1)] ∧ s2 = { s1 with toks := s1.toks + 1 + 1 }) X.xe s1 := by
    show wpAny _ _ (spliced ((false, eval (.Constant (.str y) j1 p1) X.env) :: backTo cpos (starEach [.Constant (.str z) j2 p2] X.env))) _ _ s1
    refine Calls.spliced_cons (Calls.Constant_str ?_)
    show wpAny _ _ (spliced ((false, eval (.Constant (.str z) j2 p2) X.env) :: backTo cpos (starEach [] X.env))) _ _ _
    refine Calls.spliced_cons (Calls.Constant_str ?_)
    exact Calls.spliced_nil ⟨rfl, rfl⟩
  have hA' : wpAny (model X.prog X.w) X.A (spliced ((false, eval (.Constant (.str y) j1 p1) X.env) :: backTo cpos (starEach [.Constant (.str z) j2 p2] X.env))) _ _ s1 := hA
  refine Calls.callWith_builtin rfl (Calls.evalArgs_plain ?_)
  refine thn hA' fun us s2 ⟨e1, e2⟩ => ?_
  subst e1 e2
  have hlo : Builtin.Str.tooLong (a.length + (Builtin.Str.occurrences a y 0 a.length (a.length + 1)).length * z.length) = false := by
    have h1 := StrLaws.occ_length_le a y 0 a.length (a.length + 1)
    have h2 : (Builtin.Str.occurrences a y 0 a.length (a.length + 1)).length * z.length ≤ (a.length + 1) * z.length := Nat.mul_le_mul_right _ h1
    unfold Builtin.Str.tooLong sizeLine
    exact decide_eq_false (by omega)
  refine call_gives F.slot_str_replace (typeIs_str _ _ _) F.entry_str_replace (F.args_str_replace_3 _ _ _) (gives_str_replace a y z t s1.toks (s1.toks + 1) fun _ => ⟨?_, ?_, ?_, hlo⟩) ?_
  · have : s1.toks ≠ 0 := by omega
    simp [this]
  · simp
  · simpa using ne
  · unfold Txt.replace at q1
    cases hc : ((Builtin.Str.occurrences a y 0 a.length (a.length + 1)).isEmpty || (y.length == 0 && z.length == 0))
    · rw [hc] at q1
      simp only [Bool.false_eq_true, if_false] at q1 ⊢
      exact ⟨fits_replaced y hl, ⟨.str _, H1, I1.tok _, ⟨_, rfl⟩, q1⟩⟩
    · rw [hc] at q1
      simp only [if_true] at q1 ⊢
      exact ⟨.str _, H1, I1.tok _, ⟨_, rfl⟩, q1⟩
end
end L2
namespace L2
open PySem PySem.Spec PyProof.Rows
theorem law_callC {P : Program} {w : World} {K : PySem.W.Frag} {mg mb : Str → Option Value} {CX : CXT} {k : Nat} {fa a : Addr} {fd : FuncData} {x : Str} {sp : Sp} {s₁ : Shared} {vs : List Value} {ns : List Int}
    (KX : K.In s₁.heap) (hns : s₁.heap.Ns mainGlobals mg) (hb : s₁.heap.Ns builtinsNs mb) (hbb : ∀ x : Str, x ≠ "__name__" → mb x = bootBuiltins x) (hlim : s₁.heap.NoLimit) (hg : s₁.gens = #[])
    (ha : s₁.heap.get? a = some { cls := .type "list", data := .seq vs.toArray }) (hi : IntsAre vs ns) (hl : ns.length ≤ sizeLine) (hr : Room k callerA)
    (F : ∀ base : Heap, K.In base → base.Ns mainGlobals mg → FnOkC P w K mg base CX k fa fd [x] sp) (hbind : ∀ (s : Shared) (u : Value), BindsTo s fd ⟨[u], []⟩ [(x, u)])
    (hsp : ∀ H : Hp, Only H → SqL K H a (ns.map V.int) → sp [.ref a] H (fun v _ => v = .bl true) fun _ _ _ => False)
    (hCX : ∀ H e s', CX [] H s₁ (fun _ _ _ => False) e s' → False) :
    codeC (model P w) callerA (.call (.ref fa) ⟨[.ref a], []⟩) (fun r s' => r = .ok (.ret (.bool true)) ∧ OldK s₁.heap s'.heap ∧ s'.os = s₁.os ∧ AllBare s'.gens) s₁ := by
  have rv := vals_ints hi
  have lenV := hi.length
  have core : ∀ H : Hp, Only H → SqL K H a (ns.map V.int) → HOk P w H s₁.heap → (∀ b, H b ≠ none → b = a) → (H a ≠ none → K.lookup a = none) →
      codeC (model P w) callerA (.call (.ref fa) ⟨[.ref a], []⟩) (fun r s' => r = .ok (.ret (.bool true)) ∧ OldK s₁.heap s'.heap ∧ s'.os = s₁.os ∧ AllBare s'.gens) s₁ := by
    intro H hO hS hok hA hK
    have base_of : ∀ {b : Addr} {o : Obj}, s₁.heap.get? b = some o → H b = none → (hidT s₁.heap H).get? b = some o := fun e n => hidT_get e n
    have noA : ∀ {b : Addr} {o : Obj} {es : Array DictEntry} {ep : Nat}, s₁.heap.get? b = some o → o.data = .dict es ep → H b = none := fun {b o es ep} e d => by
      cases q : H b with
      | none => rfl
      | some u =>
        have e' : b = a := hA b (by rw [q]; simp)
        subst e'
        rw [ha] at e; cases e
        have d' : Data.seq vs.toArray _ = Data.dict es ep := d
        cases d'
    have nsK : ∀ {b : Addr} {m : Str → Option Value}, s₁.heap.Ns b m → (hidT s₁.heap H).Ns b m := fun {b m} ⟨o, es, ep, e, d, r⟩ => ⟨o, es, ep, base_of e (noA e d), d, r⟩
    have hKb : K.In (hidT s₁.heap H) := fun b o e => base_of (KX b o e) (by
      cases q : H b with
      | none => rfl
      | some u =>
        have e' : b = a := hA b (by rw [q]; simp)
        subst e'
        rw [hK (by rw [q]; simp)] at e; cases e)
    have hM : Mod K mg (hidT s₁.heap H) := ⟨hKb, nsK hns, ⟨mb, nsK hb, hbb⟩, let ⟨mc, h1, h2⟩ := hlim; ⟨mc, nsK h1, h2⟩⟩
    have e0 : Env0 P w K mg (hidT s₁.heap H) callerA [] s₁ H := ⟨rfl, hM, fun b o e => of_hidT e, Nat.le_of_eq (hidT_size _ _), trivial, fun b hb => absurd (show b ∈ ([] : List Addr) from hb) (by simp), hok, .of_eq hg⟩
    refine codeC_mono ((F _ hKb (nsK hns)).run callerA [] s₁ H ⟨[.ref a], []⟩ [.ref a] [.ref a] _ _ hr e0 (hbind s₁ (.ref a)) (.cons rfl .nil) (hsp H hO hS)) fun r s' h => ?_
    cases r with
    | error e => exact (hCX H e s' h).elim
    | ok fl =>
      cases fl with
      | next => exact False.elim h
      | brk => exact False.elim h
      | cont => exact False.elim h
      | ret u =>
        obtain ⟨v, H', os, bare, un, hok', r', q⟩ := h
        have q' : v = .bl true := q
        subst q'
        obtain rfl : u = Value.bool true := r'
        refine ⟨rfl, OldK.of_keep fun b o e => ?_, os, bare⟩
        cases q : H b with
        | none => exact un.keep b o e q (by intro z; exact absurd (show b ∈ ([] : List Addr) from z) (by simp)) (by simp)
        | some u =>
          rcases hO b with z | ⟨ob, xs, z⟩
          · rw [q] at z; cases z
          · have z2 := un.frzs b ob _ z
            obtain ⟨e1, _⟩ := hok b _ z
            obtain ⟨e2, _⟩ := hok' b _ z2
            rw [e] at e1; cases e1
            exact e2
  cases hk : K.lookup a with
  | some o =>
    have e := KX a o hk
    rw [ha] at e
    cases e
    refine core (fun _ => none) (fun _ => .inl rfl) (.inr ⟨_, vs.toArray, _, hk, rfl, rfl, rfl, by rw [List.size_toArray, lenV]; exact hl, by simpa using rv⟩) (fun b u z => by have z' : (none : Option HO) = some u := z; cases z') (fun b z => absurd rfl z) fun z => absurd rfl z
  | none =>
    refine core (fun b => if b = a then some (.frz { cls := .type "list", data := .seq vs.toArray } (.lst (ns.map V.int))) else none) (fun b => ?_) (.inl (.inr ⟨{ cls := .type "list", data := .seq vs.toArray }, if_pos rfl⟩)) (fun b u z => ?_) (fun b z => ?_) fun _ => hk
    · by_cases hb : b = a
      · exact .inr ⟨_, _, if_pos hb⟩
      · exact .inl (if_neg hb)
    · by_cases hb : b = a
      · have z' := (if_pos hb).symm.trans z
        cases z'
        subst hb
        exact ⟨ha, by rw [List.length_map]; exact hl, vs, _, rv, ha⟩
      · have z' := (if_neg hb).symm.trans z
        cases z'
    · by_cases hb : b = a
      · exact hb
      · exact absurd (if_neg hb) z
theorem walkC_of {l : PySem.W.OpenLaw} {n k : Nat} {q : Program} {loose : List Str} {XP : (Str → Option Value) → Heap → Prop} {YP : World → Heap → Prop} {d : DefRec} {K : Params → PySem.W.Frag} {CX : World → CXT} {sp : World → Sp} {x : Str}
    (hn : l.most = some n) (hn2 : n ≤ sizeLine) (hdf : d.params.defaults = []) (hr : Room k callerA)
    (hY : ∀ (w : World) (h : Heap), YP w h → (K w.params).In h)
    (F : ∀ (w : World) (mg : Str → Option Value) (fa : Addr) (h : Heap), (K w.params).In h → h.Ns mainGlobals mg → mg d.name = some (.ref fa) →
      ∃ fd : FuncData, (∀ (s : Shared) (u : Value), BindsTo s fd ⟨[u], []⟩ [(x, u)]) ∧
        ∀ base : Heap, (K w.params).In base → base.Ns mainGlobals mg → FnOkC l.prog w (K w.params) mg base (CX w) k fa fd [x] (sp w))
    (hsp : ∀ (w : World) (H : Hp) (a : Addr) (ns : List Int), ns.length ≤ n → Only H → SqL (K w.params) H a (ns.map V.int) → sp w [.ref a] H (fun v _ => v = .bl true) fun _ _ _ => False)
    (hCX : ∀ (w : World) (H : Hp) (s : Shared) (e : Value) (s' : Shared), CX w [] H s (fun _ _ _ => False) e s' → False) :
    WalkC q loose XP YP l.row.toRowW d [] := by
  intro w s₀ s₁ mg mb G Y fa o pm cd doc dV kV ho hd hcd hD hmg hg args vals as hpre hlay hrd hwl hlo
  obtain ⟨a, vs, ns, rfl, rfl, hobj, hints, hlen⟩ := Att.script_of hn hpre hwl
  have KX := hY w _ Y
  obtain ⟨fd, hb, hF⟩ := F w mg fa _ KX G.T.g hmg
  have c := law_callC KX G.T.g G.T.b G.T.builtins G.T.nolimit hg hobj hints (Nat.le_trans hlen hn2) hr hF hb (fun H hO hS => hsp w H a ns hlen hO hS) fun H e s' => hCX w H s₁ e s'
  refine wpC_call (codeC_mono c fun r s' hq => ?_)
  obtain ⟨rfl, h2, h3, h4⟩ := hq
  exact ⟨.inl ⟨.bool true, .bool true, [], rfl, fun _ => rfl, .bool true, Att.post_true l _, fun _ => ⟨List.Pairwise.nil, fun _ hm => (nomatch hm)⟩⟩, h2, h3, h4⟩
end L2
namespace Eh
noncomputable def cell (ns : List Int) (k : Int) : Int := ns.getD k.toNat 0
noncomputable def draw (ns : List Int) (k : Int) : Int := (cell ns (k % 61) + 7919 * k) * (48271 + 2 * k) % 2147483647
theorem draw_nn (ns : List Int) (k : Int) : 0 ≤ draw ns k := Int.emod_nonneg _ (by decide)
structure Wy where
  a : Int
  b : Int
  c : Int
  d : Int
noncomputable def rooms (ns : List Int) : Int := 1 + draw ns 1 % 4
noncomputable def most (ns : List Int) : Int := ([3, 2, 5, 10] : List Int).getD (draw ns 2 % 4).toNat 0
noncomputable def widths (ns : List Int) : Int := ([2, 3, 9] : List Int).getD (draw ns 8 % 3).toNat 0
noncomputable def lengths (ns : List Int) : Int := ([2, 3, 6] : List Int).getD (draw ns 9 % 3).toNat 0
noncomputable def folk (ns : List Int) (r : Int) : List Int := (List.range r.toNat).map fun (k : Nat) => draw ns (3 + (k : Int)) % most ns
noncomputable def wayEnd (ns : List Int) (k r : Int) : Int := if draw ns (21 + k) % (r + 1) = 1 + draw ns (10 + k) % r then 0 else draw ns (21 + k) % (r + 1)
noncomputable def way (ns : List Int) (k r : Int) : Wy := ⟨1 + draw ns (10 + k) % r, wayEnd ns k r, 1 + draw ns (32 + k) % widths ns, 1 + draw ns (43 + k) % lengths ns⟩
noncomputable def many (ns : List Int) : Int := if draw ns 7 / 8 % 8 = 1 then 10 else draw ns 7 % 8
noncomputable def ways0 (ns : List Int) : List Wy := (List.range (many ns).toNat).map fun (k : Nat) => way ns k (rooms ns)
noncomputable def twice (ns : List Int) : Bool := decide (ways0 ns ≠ []) && decide (draw ns 54 % 4 = 1)
instance : Inhabited Wy := ⟨⟨0, 0, 0, 0⟩⟩
noncomputable def ways (ns : List Int) : List Wy := if (ways0 ns).isEmpty = false ∧ draw ns 54 % 4 = 1 then (ways0 ns).set ((ways0 ns).length - 1) ((ways0 ns).getD 0 default) else ways0 ns
noncomputable def people (ns : List Int) : List Int := folk ns (rooms ns)
noncomputable def GoodW (r : Int) (w : Wy) : Prop := (1 ≤ w.a ∧ w.a ≤ r) ∧ (0 ≤ w.b ∧ w.b ≤ r) ∧ w.a ≠ w.b ∧ (1 ≤ w.c ∧ w.c ≤ 9) ∧ (1 ≤ w.d ∧ w.d ≤ 6)
structure Good (ps : List Int) (ws : List Wy) : Prop where
  p1 : 1 ≤ ps.length
  p4 : ps.length ≤ 4
  pc : ∀ c ∈ ps, 0 ≤ c ∧ c ≤ 9
  w10 : ws.length ≤ 10
  wg : ∀ w ∈ ws, GoodW ps.length w
theorem mod_range (ns : List Int) (k m : Int) (h : 0 < m) : 0 ≤ draw ns k % m ∧ draw ns k % m < m := ⟨Int.emod_nonneg _ (by omega), Int.emod_lt_of_pos _ h⟩
theorem rooms_range (ns : List Int) : 1 ≤ rooms ns ∧ rooms ns ≤ 4 := by
  have := mod_range ns 1 4 (by decide)
  unfold rooms
  omega
theorem pick3 (x y z i : Int) (h0 : 0 ≤ i) (h1 : i < 3) : ([x, y, z] : List Int).getD i.toNat 0 = x ∨ ([x, y, z] : List Int).getD i.toNat 0 = y ∨ ([x, y, z] : List Int).getD i.toNat 0 = z := by
  have : i = 0 ∨ i = 1 ∨ i = 2 := by omega
  rcases this with rfl | rfl | rfl
  · exact .inl rfl
  · exact .inr (.inl rfl)
  · exact .inr (.inr rfl)
theorem pick4 (x y z w i : Int) (h0 : 0 ≤ i) (h1 : i < 4) : ([x, y, z, w] : List Int).getD i.toNat 0 = x ∨ ([x, y, z, w] : List Int).getD i.toNat 0 = y ∨ ([x, y, z, w] : List Int).getD i.toNat 0 = z ∨ ([x, y, z, w] : List Int).getD i.toNat 0 = w := by
  have : i = 0 ∨ i = 1 ∨ i = 2 ∨ i = 3 := by omega
  rcases this with rfl | rfl | rfl | rfl
  · exact .inl rfl
  · exact .inr (.inl rfl)
  · exact .inr (.inr (.inl rfl))
  · exact .inr (.inr (.inr rfl))
theorem most_range (ns : List Int) : 2 ≤ most ns ∧ most ns ≤ 10 := by
  have h := mod_range ns 2 4 (by decide)
  unfold most
  rcases pick4 3 2 5 10 _ h.1 h.2 with e | e | e | e <;> rw [e] <;> decide
theorem widths_range (ns : List Int) : 2 ≤ widths ns ∧ widths ns ≤ 9 := by
  have h := mod_range ns 8 3 (by decide)
  unfold widths
  rcases pick3 2 3 9 _ h.1 h.2 with e | e | e <;> rw [e] <;> decide
theorem lengths_range (ns : List Int) : 2 ≤ lengths ns ∧ lengths ns ≤ 6 := by
  have h := mod_range ns 9 3 (by decide)
  unfold lengths
  rcases pick3 2 3 6 _ h.1 h.2 with e | e | e <;> rw [e] <;> decide
theorem many_range (ns : List Int) : 0 ≤ many ns ∧ many ns ≤ 10 := by
  have h := mod_range ns 7 8 (by decide)
  unfold many
  split <;> omega
theorem way_good (ns : List Int) (k r : Int) (h1 : 1 ≤ r) : GoodW r (way ns k r) := by
  have a := mod_range ns (10 + k) r (by omega)
  have b := mod_range ns (21 + k) (r + 1) (by omega)
  have hw := widths_range ns
  have hl := lengths_range ns
  have c := mod_range ns (32 + k) (widths ns) (by omega)
  have d := mod_range ns (43 + k) (lengths ns) (by omega)
  unfold GoodW way wayEnd
  dsimp only
  refine ⟨by omega, ?_, ?_, by omega, by omega⟩
  · split <;> omega
  · split <;> omega
theorem people_length (ns : List Int) : ((people ns).length : Int) = rooms ns := by
  have := rooms_range ns
  unfold people folk
  rw [List.length_map, List.length_range]
  omega
theorem ways0_length (ns : List Int) : (ways0 ns).length ≤ 10 := by
  have := many_range ns
  unfold ways0
  rw [List.length_map, List.length_range]
  omega
theorem ways_length (ns : List Int) : (ways ns).length ≤ 10 := by
  have := ways0_length ns
  unfold ways
  split
  · rw [List.length_set]; exact this
  · exact this
theorem ways0_good (ns : List Int) : ∀ w ∈ ways0 ns, GoodW (rooms ns) w := by
  intro w hw
  unfold ways0 at hw
  obtain ⟨k, _, rfl⟩ := List.mem_map.mp hw
  exact way_good ns k (rooms ns) (rooms_range ns).1
theorem ways_good (ns : List Int) : ∀ w ∈ ways ns, GoodW (rooms ns) w := by
  intro w hw
  unfold ways at hw
  split at hw
  · rename_i h
    rcases List.mem_or_eq_of_mem_set hw with hw | hw
    · exact ways0_good ns w hw
    · subst hw
      cases e : ways0 ns with
      | nil => rw [e] at h; simp at h
      | cons x r =>
        refine ways0_good ns x ?_
        rw [e]
        exact List.mem_cons_self
  · exact ways0_good ns w hw
theorem good (ns : List Int) : Good (people ns) (ways ns) := by
  have r := rooms_range ns
  have l := people_length ns
  refine ⟨by omega, by omega, fun c hc => ?_, ways_length ns, fun w hw => ?_⟩
  · unfold people folk at hc
    obtain ⟨k, _, rfl⟩ := List.mem_map.mp hc
    have m := most_range ns
    have := mod_range ns (3 + (k : Int)) (most ns) (by omega)
    omega
  · rw [l]; exact ways_good ns w hw
end Eh
namespace Eh
structure Sp1 where
  m : Int
  k : Int
deriving DecidableEq
instance : Inhabited Sp1 := ⟨⟨0, 0⟩⟩
noncomputable def wyAt (ws : List Wy) (k : Int) : Wy := ws.getD k.toNat default
noncomputable def stepOk (ws : List Wy) (here now : Int) (s : Sp1) : Prop := (0 ≤ s.k ∧ s.k < ws.length) ∧ ¬ s.m < now ∧ (wyAt ws s.k).a = here
instance (ws : List Wy) (here now : Int) (s : Sp1) : Decidable (stepOk ws here now s) := inferInstanceAs (Decidable (_ ∧ _ ∧ _))
noncomputable def walkEnd (ws : List Wy) : Int → Int → List Sp1 → Option Int
  | here, now, [] => if here = 0 then some now else none
  | here, now, s :: r => if stepOk ws here now s then walkEnd ws (wyAt ws s.k).b (s.m + (wyAt ws s.k).d) r else none
noncomputable def endOf (n : Int) (ws : List Wy) (room : Int) (ss : List Sp1) : Option Int := if 1 ≤ room ∧ room ≤ n then walkEnd ws room 0 ss else none
end Eh
namespace Eh
structure Wk where
  room : Int
  ss : List Sp1
instance : Inhabited Wk := ⟨⟨0, []⟩⟩
noncomputable def endW (n : Int) (ws : List Wy) (x : Wk) : Option Int := endOf n ws x.room x.ss
noncomputable def outBy (n : Int) (ws : List Wy) (mins : Int) (x : Wk) : Bool := match endW n ws x with
  | some m => decide (m ≤ mins)
  | none => false
noncomputable def allOut (n : Int) (ws : List Wy) (mins : Int) (wks : List Wk) : Bool := wks.all (outBy n ws mins)
noncomputable def stepsOf (wks : List Wk) : List Sp1 := wks.flatMap (·.ss)
noncomputable def roomsOf (wks : List Wk) : List Int := wks.map (·.room)
noncomputable def wideOk (ws : List Wy) (wks : List Wk) : Bool := (stepsOf wks).all fun s => decide (((stepsOf wks).count s : Int) ≤ (wyAt ws s.k).c)
noncomputable def roomOk (ps : List Int) (wks : List Wk) : Bool := (roomsOf wks).all fun r => decide (((roomsOf wks).count r : Int) ≤ ps.getD (r - 1).toNat 0)
end Eh
namespace Eh
noncomputable def sumI {α : Type} (xs : List α) (f : α → Int) : Int := (xs.map f).sum
section
variable {α β : Type} {xs : List α} {f g : α → Int}
end
noncomputable def since (T : Int) (fs : List (Option Int)) (r : Int) : Int := if r = 0 then T + 99 else ((fs[(r - 1).toNat]?).getD none).getD (T + 99)
noncomputable def cross (T : Int) (fs : List (Option Int)) (w : Wy) (t : Int) : Prop := t + w.d ≤ T ∧ since T fs w.a ≤ t ∧ t + w.d < since T fs w.b
instance (T : Int) (fs : List (Option Int)) (w : Wy) (t : Int) : Decidable (cross T fs w t) := inferInstanceAs (Decidable (_ ∧ _ ∧ _))
noncomputable def boundR (T : Int) (ps : List Int) (fs : List (Option Int)) : Int := sumI (List.range ps.length) fun k => if 0 < since T fs ((k : Nat) + 1) then ps.getD k 0 else 0
noncomputable def boundW (T : Int) (ws : List Wy) (fs : List (Option Int)) : Int := sumI ws fun w => sumI (List.range (T + 1).toNat) fun t => if cross T fs w (t : Nat) then w.c else 0
noncomputable def boundOf (T : Int) (ps : List Int) (ws : List Wy) (fs : List (Option Int)) : Int := boundR T ps fs + boundW T ws fs
end Eh
namespace Eh
open PySem PySem.Spec PyProof.Rows L2
set_option bootstrap.genMatcherCode true
local macro_rules | `(tactic| walk_at "n") => `(tactic| first | exact .inl rfl | exact .inr rfl | assumption)
local macro_rules | `(tactic| walk_at "o") => `(tactic| exact of_decide_eq_true (by kernel_rfl))
local macro_rules | `(tactic| walk_at "cond") => `(tactic| first | decide | (unfold CMul; omega) | (unfold CDiv; omega) | omega | assumption)
local macro_rules | `(tactic| walk_at "rd") => `(tactic| repeat (first
  | with_reducible refine rd_seq ?_ | with_reducible refine rd_ret ?_ | with_reducible refine rd_asg ?_ | with_reducible refine rd_ifs ?_ | with_reducible refine rd_drop ?_ | with_reducible refine rd_next ?_
  | with_reducible refine rd_test ?_ | with_reducible refine rd_tb ?_ | with_reducible refine rd_and ?_ | with_reducible refine rd_or ?_ | with_reducible refine rd_not ?_ | with_reducible refine rd_andV ?_ | with_reducible refine rd_orV ?_ | with_reducible refine rd_notV ?_ | with_reducible refine rd_blE ?_
  | with_reducible refine rd_op ?_ | with_reducible refine rd_un ?_ | with_reducible refine rd_c ?_ | ((with_reducible refine rd_var ?_) ; refine ⟨_, rfl, ?_⟩)
  | (with_reducible refine rd_i ?_ ?_ ; walk_at "cond") | with_reducible refine rd_i0 ?_ | with_reducible refine rd_addI ?_ | with_reducible refine rd_eqI ?_ | with_reducible refine rd_neI ?_
  | with_reducible refine rd_cb ?_ | with_reducible refine rd_call ?_ | with_reducible refine rd_cons ?_ | with_reducible refine rd_nil ?_ | with_reducible refine rd_chain ?_
  | with_reducible refine rd_gn ?_ | with_reducible refine rd_yes ?_ | with_reducible refine rd_asgG ?_ | with_reducible refine rd_sub ?_ | with_reducible refine rd_fld ?_ | with_reducible refine rd_meth ?_ | with_reducible refine rd_make ?_ | with_reducible refine rd_sfld ?_ | with_reducible refine rd_bm ?_ | with_reducible refine iteT ?_ | with_reducible refine iteF ?_ | with_reducible refine iteNT ?_ | with_reducible refine iteNF ?_
  | with_reducible refine rd_neg ?_ | with_reducible refine rd_ifE ?_ | with_reducible refine rd_dnewK ?_ | with_reducible refine rd_dnewT ?_ | with_reducible refine rd_dput ?_ | with_reducible refine rd_dget2 ?_ | with_reducible refine rd_isN ?_ | with_reducible refine rd_notN ?_ | with_reducible refine iteDT (by decide) ?_ | with_reducible refine iteDF (by decide) ?_ | with_reducible refine iteNDT (by decide) ?_ | with_reducible refine iteNDF (by decide) ?_ | with_reducible refine rd_raise ?_ | with_reducible refine rd_callR ?_ | with_reducible refine rd_makeR ?_ | with_reducible refine rd_nx ?_ | with_reducible refine rd_rt ?_ | with_reducible refine rd_tup ?_ | with_reducible refine rd_lst ?_))
local macro_rules | `(tactic| walk_at "ro") => `(tactic| repeat (first
  | with_reducible refine rd_seq ?_ | with_reducible refine rd_ret ?_ | with_reducible refine rd_asg ?_ | with_reducible refine rd_ifs ?_ | with_reducible refine rd_drop ?_ | with_reducible refine rd_next ?_
  | with_reducible refine rd_test ?_ | with_reducible refine rd_tb ?_ | with_reducible refine rd_and ?_ | with_reducible refine rd_or ?_ | with_reducible refine rd_not ?_ | with_reducible refine rd_andV ?_ | with_reducible refine rd_orV ?_ | with_reducible refine rd_notV ?_ | with_reducible refine rd_blE ?_
  | with_reducible refine rd_op ?_ | with_reducible refine rd_un ?_ | with_reducible refine rd_c ?_ | ((with_reducible refine rd_var ?_) ; refine ⟨_, rfl, ?_⟩)
  | (with_reducible refine rd_i ?_ ?_ ; walk_at "cond") | with_reducible refine rd_i0 ?_ | with_reducible refine rd_addI ?_ | with_reducible refine rd_eqI ?_ | with_reducible refine rd_neI ?_
  | with_reducible refine rd_cb ?_ | with_reducible refine rd_call ?_ | with_reducible refine rd_cons ?_ | with_reducible refine rd_nil ?_ | with_reducible refine rd_chain ?_
  | with_reducible refine rd_gn ?_ | with_reducible refine rd_yes ?_ | with_reducible refine rd_asgG ?_ | with_reducible refine rd_sub ?_ | with_reducible refine rd_fld ?_ | with_reducible refine rd_meth ?_ | with_reducible refine rd_make ?_ | with_reducible refine rd_sfld ?_ | with_reducible refine rd_bm ?_ | with_reducible refine iteT ?_ | with_reducible refine iteF ?_ | with_reducible refine iteNT ?_ | with_reducible refine iteNF ?_
  | with_reducible refine rd_neg ?_ | with_reducible refine rd_ifE ?_ | with_reducible refine rd_dnewK ?_ | with_reducible refine rd_dnewT ?_ | with_reducible refine rd_dput ?_ | with_reducible refine rd_dget2 ?_ | with_reducible refine rd_isN ?_ | with_reducible refine rd_notN ?_ | with_reducible refine iteDT (by decide) ?_ | with_reducible refine iteDF (by decide) ?_ | with_reducible refine iteNDT (by decide) ?_ | with_reducible refine iteNDF (by decide) ?_ | with_reducible refine rd_raise ?_ | with_reducible refine rd_callR ?_ | with_reducible refine rd_makeR ?_ | with_reducible refine rd_nx ?_ | with_reducible refine rd_rt ?_ | with_reducible refine rd_tup ?_ | with_reducible refine rd_lst ?_ | with_reducible refine iteDF (by omega) ?_ | with_reducible refine iteDT (by omega) ?_ | with_reducible refine iteNDT (by omega) ?_ | with_reducible refine iteNDF (by omega) ?_))
local macro_rules | `(tactic| walk_at "fs") => `(tactic| repeat (first
  | refine rd_jS _ (by assumption) (by decide) (by decide +kernel) (fun _ _ => ?_)
  | (refine rd_jF ?_ ; walk_at "rd" ; refine rd_jI _ (by assumption) (by decide) (by omega) (by omega) (fun _ _ => ?_))
  | refine rd_j0 (by assumption) (by decide) (fun _ _ => ?_)))
local macro_rules | `(tactic| walk_at "ra") => `(tactic| repeat (first
  | with_reducible refine rd_seqA ?_ | with_reducible refine rd_ret ?_ | with_reducible refine rd_asg ?_ | with_reducible refine rd_ifs ?_ | with_reducible refine rd_drop ?_ | with_reducible refine rd_next ?_
  | with_reducible refine rd_test ?_ | with_reducible refine rd_tb ?_ | with_reducible refine rd_and ?_ | with_reducible refine rd_or ?_ | with_reducible refine rd_not ?_ | with_reducible refine rd_andV ?_ | with_reducible refine rd_orV ?_ | with_reducible refine rd_notV ?_ | with_reducible refine rd_blE ?_
  | with_reducible refine rd_op ?_ | with_reducible refine rd_un ?_ | with_reducible refine rd_c ?_ | ((with_reducible refine rd_var ?_) ; refine ⟨_, rfl, ?_⟩)
  | (with_reducible refine rd_i ?_ ?_ ; walk_at "cond") | with_reducible refine rd_i0 ?_ | with_reducible refine rd_addI ?_ | with_reducible refine rd_eqI ?_ | with_reducible refine rd_neI ?_
  | with_reducible refine rd_cb ?_ | with_reducible refine rd_call ?_ | with_reducible refine rd_cons ?_ | with_reducible refine rd_nil ?_ | with_reducible refine rd_chain ?_
  | with_reducible refine rd_gn ?_ | with_reducible refine rd_yes ?_ | with_reducible refine rd_asgG ?_ | with_reducible refine rd_sub ?_ | with_reducible refine rd_fld ?_ | with_reducible refine rd_meth ?_ | with_reducible refine rd_make ?_ | with_reducible refine rd_sfld ?_ | with_reducible refine rd_bm ?_ | with_reducible refine iteT ?_ | with_reducible refine iteF ?_ | with_reducible refine iteNT ?_ | with_reducible refine iteNF ?_
  | with_reducible refine rd_neg ?_ | with_reducible refine rd_ifE ?_ | with_reducible refine rd_dnewK ?_ | with_reducible refine rd_dnewT ?_ | with_reducible refine rd_dput ?_ | with_reducible refine rd_dget2 ?_ | with_reducible refine rd_isN ?_ | with_reducible refine rd_notN ?_ | with_reducible refine iteDT (by decide) ?_ | with_reducible refine iteDF (by decide) ?_ | with_reducible refine iteNDT (by decide) ?_ | with_reducible refine iteNDF (by decide) ?_ | with_reducible refine rd_raise ?_ | with_reducible refine rd_callR ?_ | with_reducible refine rd_makeR ?_ | with_reducible refine rd_rt ?_ | with_reducible refine rd_tup ?_ | with_reducible refine rd_lst ?_))
set_option bootstrap.genMatcherCode false
noncomputable def top (i : Nat) : Stmt := PySem.Challenge.pw_emptyhall_k11_texts_read.main.body.getD i (.Pass ⟨0, 0, 0, 0⟩)
structure Txt (K : PySem.W.Frag) (mg : Str → Option Value) : Prop where
  len : mg "len" = none
  isi : mg "isinstance" = none
  sum : mg "sum" = none
  list : mg "list" = none
  tuple : mg "tuple" = none
  int : mg "int" = none
  bool : mg "bool" = none
  range : mg "range" = none
  enum : mg "enumerate" = none
  max : mg "max" = none
  all : mg "all" = none
  str : mg "str" = none
  g_OUTSIDE : ∃ t, mg "OUTSIDE" = some (.int 0 t)
  g_MOST_ROOMS : ∃ t, mg "MOST_ROOMS" = some (.int 4 t)
  g_MOST_PEOPLE : ∃ t, mg "MOST_PEOPLE" = some (.int 9 t)
  g_MOST_WAYS : ∃ t, mg "MOST_WAYS" = some (.int 10 t)
  g_MOST_WIDE : ∃ t, mg "MOST_WIDE" = some (.int 9 t)
  g_MOST_LONG : ∃ t, mg "MOST_LONG" = some (.int 6 t)
section
variable {P : Program} {w : World} {K : PySem.W.Frag} {mg : Str → Option Value} {base : Heap}
theorem same_upd {H : Hp} {p : Addr} {o : HO} (h : H p = none) : Same H (upd H p o) := fun b u e => by
  rw [upd_ne (ne_of_none e h)]
  exact e
theorem same_to {H H' : Hp} {p : Addr} {o : HO} (s : Same H H') (h : H p = none) : Same H (upd H' p o) := fun b u e => by
  rw [upd_ne (ne_of_none e h)]
  exact s b u e
theorem atI_ints {ns : List Int} {i : Int} (h0 : 0 ≤ i) (h1 : i < ns.length) : atI (ns.map V.int) i = some (.int (ns.getD i.toNat 0)) := by
  have h2 : i.toNat < ns.length := by omega
  rw [atI_getD (V.int 0) h0 (by simpa using h1), List.getD_eq_getElem?_getD, List.getD_eq_getElem?_getD, List.getElem?_map, List.getElem?_eq_getElem h2]
  rfl
noncomputable def spCell (K : PySem.W.Frag) : Sp := fun vs H Q _ => ∃ (a : Addr) (ns : List Int) (k : Int), vs = [.ref a, .int k] ∧ SqL K H a (ns.map V.int) ∧ 0 ≤ k ∧ Q (.int (cell ns k)) H
theorem sc_cell : FnScope ["script", "k"] ["script", "k"] (defScope (top 30)) := ⟨rfl, rfl, rfl, by decide +kernel, rfl, by decide +kernel, by decide +kernel⟩
theorem ok_cell {f : Addr} {fd : FuncData} (F : Fun K "_law_cell_at" "_law_cell_at" (top 30) f fd) (T : Txt K mg) : FnOk P w K mg base CX0 1 f fd ["script", "k"] (spCell K) := by
  refine F.ok sc_cell (fun vs H Q E h => ?_) (fun cdv A outer s H vs Q E hr h => ?_)
  · obtain ⟨a, ns, k, rfl, _⟩ := h
    rfl
  · obtain ⟨a, ns, k, rfl, hS, h0, q⟩ := h
    refine ⟨_, (@pss_cons _ _ _ _ _ (@ps_if _ _ _ _ _ _ _ _ (@pt_cmpR _ _ _ _ _ _ _ _ op_lt (pv 1) (@pe_callB _ _ _ _ _ _ _ _ _ (call_len_seqK (K := K)) rfl T.len PySem.boot_len (@pa_cons _ _ _ _ _ (pv 0) pa_nil se_name) (by decide) (by decide) (se_name) (by rfl)) (nomark _)) (@pss_one _ _ _ (@ps_ret _ _ _ _ (@pe_ix _ _ _ _ _ _ _ (ix_seqK (K := K)) (pv 0) (pv 1) (fun _ _ => rfl)))) pss_nil) (@pss_one _ _ _ (@ps_ret _ _ _ _ pe_int))), ?_⟩
    walk_at "rd"
    refine ⟨a, _, rfl, .inl hS, ?_⟩
    walk_at "rd"
    rw [List.length_map]
    refine iteD (fun hk => ?_) (fun hk => ?_)
    · walk_at "rd"
      exact rd_ixL hS (atI_ints h0 hk) q
    · walk_at "rd"
      have e : cell ns k = 0 := by
        unfold cell
        rw [List.getD_eq_getElem?_getD, List.getElem?_eq_none (by omega)]
        rfl
      rw [e] at q
      exact q
noncomputable def spDraw (K : PySem.W.Frag) : Sp := fun vs H Q _ => ∃ (a : Addr) (ns : List Int) (k : Int), vs = [.ref a, .int k] ∧ SqL K H a (ns.map V.int) ∧ 0 ≤ k ∧ k ≤ 100000 ∧ Q (.int (draw ns k)) H
theorem sc_draw : FnScope ["script", "k"] ["script", "k"] (defScope (top 31)) := ⟨rfl, rfl, rfl, by decide +kernel, rfl, by decide +kernel, by decide +kernel⟩
theorem ok_draw {f : Addr} {fd : FuncData} (F : Fun K "_law_draw" "_law_draw" (top 31) f fd) (T : Txt K mg) (c_law_cell_at : Callee P w K mg base CX0 1 "_law_cell_at" ["script", "k"] (spCell K)) :
    FnOk P w K mg base CX0 2 f fd ["script", "k"] (spDraw K) := by
  refine F.ok sc_draw (fun vs H Q E h => ?_) (fun cdv A outer s H vs Q E hr h => ?_)
  · obtain ⟨a, ns, k, rfl, _⟩ := h
    rfl
  · obtain ⟨a, ns, k, rfl, hS, h0, h1, q⟩ := h
    refine ⟨_, (@pss_one _ _ _ (@ps_ret _ _ _ _ (@pe_op _ _ _ _ _ _ _ _ op_mod (@pe_op _ _ _ _ _ _ _ _ op_mul (@pe_op _ _ _ _ _ _ _ _ op_addU (@pe_callC _ _ _ _ _ _ _ _ _ _ _ _ c_law_cell_at (hr.mono (by decide)) pass0 rfl (@pa_cons _ _ _ _ _ (pv 0) (@pa_cons _ _ _ _ _ (@pe_op _ _ _ _ _ _ _ _ op_mod (pv 1) pe_int) pa_nil se_binop) se_name) (by decide) (se_name) (by rfl)) (@pe_op _ _ _ _ _ _ _ _ op_mul pe_int (pv 1))) (@pe_op _ _ _ _ _ _ _ _ op_addU pe_int (@pe_op _ _ _ _ _ _ _ _ op_mul pe_int (pv 1)))) pe_int))), ?_⟩
    walk_at "rd"
    refine ⟨a, ns, _, rfl, hS, Int.emod_nonneg _ (by decide), ?_⟩
    walk_at "rd"
    exact q
end
section
variable {P : Program} {w : World} {K : PySem.W.Frag} {mg : Str → Option Value} {base : Heap}
theorem kit_ii (K : PySem.W.Frag) : PySem.W.kitOne K (.type "int") (.type "int") = some true := by kernel_rfl
theorem kit_ib (K : PySem.W.Frag) : PySem.W.kitOne K (.type "int") (.type "bool") = some false := by kernel_rfl
theorem kit_tt (K : PySem.W.Frag) : PySem.W.kitOne K (.type "tuple") (.type "tuple") = some true := by kernel_rfl
theorem kit_ll (K : PySem.W.Frag) : PySem.W.kitOne K (.type "list") (.type "list") = some true := by kernel_rfl
noncomputable def spWhole : Sp := fun vs H Q _ => ∃ i : Int, vs = [.int i] ∧ Q (.bl true) H
theorem sc_lwhole : FnScope ["found"] ["found"] (defScope (top 32)) := ⟨rfl, rfl, rfl, by decide +kernel, rfl, by decide +kernel, by decide +kernel⟩
theorem ok_lwhole {f : Addr} {fd : FuncData} (F : Fun K "_law_whole" "_law_whole" (top 32) f fd) (T : Txt K mg) : FnOk P w K mg base CX0 1 f fd ["found"] spWhole := by
  refine F.ok sc_lwhole (fun vs H Q E h => ?_) (fun cdv A outer s H vs Q E hr h => ?_)
  · obtain ⟨i, rfl, _⟩ := h
    rfl
  · obtain ⟨i, rfl, q⟩ := h
    refine ⟨_, (@pss_one _ _ _ (@ps_ret _ _ _ _ (@pe_and _ _ _ _ _ _ _ (@pe_callB _ _ _ _ _ _ _ _ _ (call_isiK (K := K)) rfl T.isi bt_isi (@pa_cons _ _ _ _ _ (pv 0) (@pa_cons _ _ _ _ _ (pe_tyN T.int bt_int rfl) pa_nil se_name) se_name) (by decide) (by decide) (se_name) (by rfl)) (@pe_one _ _ _ _ _ (@pe_not _ _ _ _ (@pe_callB _ _ _ _ _ _ _ _ _ (call_isiK (K := K)) rfl T.isi bt_isi (@pa_cons _ _ _ _ _ (pv 0) (@pa_cons _ _ _ _ _ (pe_tyN T.bool bt_bool rfl) pa_nil se_name) se_name) (by decide) (by decide) (se_name) (by rfl))))))), ?_⟩
    walk_at "rd"
    refine ⟨_, _, _, _, _, rfl, rfl, .int i, kit_ii K, ?_⟩
    walk_at "rd"
    refine ⟨_, _, _, _, _, rfl, rfl, .int i, kit_ib K, ?_⟩
    walk_at "rd"
    exact q
theorem sc_whole : FnScope ["value"] ["value"] (defScope (top 8)) := ⟨rfl, rfl, rfl, by decide +kernel, rfl, by decide +kernel, by decide +kernel⟩
theorem ok_whole {f : Addr} {fd : FuncData} (F : Fun K "is_whole" "is_whole" (top 8) f fd) (T : Txt K mg) : FnOk P w K mg base CX0 1 f fd ["value"] spWhole := by
  refine F.ok sc_whole (fun vs H Q E h => ?_) (fun cdv A outer s H vs Q E hr h => ?_)
  · obtain ⟨i, rfl, _⟩ := h
    rfl
  · obtain ⟨i, rfl, q⟩ := h
    refine ⟨_, (@pss_one _ _ _ (@ps_ret _ _ _ _ (@pe_and _ _ _ _ _ _ _ (@pe_callB _ _ _ _ _ _ _ _ _ (call_isiK (K := K)) rfl T.isi bt_isi (@pa_cons _ _ _ _ _ (pv 0) (@pa_cons _ _ _ _ _ (pe_tyN T.int bt_int rfl) pa_nil se_name) se_name) (by decide) (by decide) (se_name) (by rfl)) (@pe_one _ _ _ _ _ (@pe_not _ _ _ _ (@pe_callB _ _ _ _ _ _ _ _ _ (call_isiK (K := K)) rfl T.isi bt_isi (@pa_cons _ _ _ _ _ (pv 0) (@pa_cons _ _ _ _ _ (pe_tyN T.bool bt_bool rfl) pa_nil se_name) se_name) (by decide) (by decide) (se_name) (by rfl))))))), ?_⟩
    walk_at "rd"
    refine ⟨_, _, _, _, _, rfl, rfl, .int i, kit_ii K, ?_⟩
    walk_at "rd"
    refine ⟨_, _, _, _, _, rfl, rfl, .int i, kit_ib K, ?_⟩
    walk_at "rd"
    exact q
noncomputable def spWithin : Sp := fun vs H Q _ => ∃ v lo hi : Int, vs = [.int v, .int lo, .int hi] ∧ Q (.bl (decide (lo ≤ v ∧ v ≤ hi))) H
theorem sc_within : FnScope ["value", "least", "most"] ["value", "least", "most"] (defScope (top 9)) := ⟨rfl, rfl, rfl, by decide +kernel, rfl, by decide +kernel, by decide +kernel⟩
theorem ok_within {f : Addr} {fd : FuncData} (F : Fun K "is_within" "is_within" (top 9) f fd) (T : Txt K mg) (c_is_whole : Callee P w K mg base CX0 1 "is_whole" ["value"] spWhole) :
    FnOk P w K mg base CX0 2 f fd ["value", "least", "most"] spWithin := by
  refine F.ok sc_within (fun vs H Q E h => ?_) (fun cdv A outer s H vs Q E hr h => ?_)
  · obtain ⟨v, lo, hi, rfl, _⟩ := h
    rfl
  · obtain ⟨v, lo, hi, rfl, q⟩ := h
    refine ⟨_, (@pss_one _ _ _ (@ps_ret _ _ _ _ (@pe_and _ _ _ _ _ _ _ (@pe_callC _ _ _ _ _ _ _ _ _ _ _ _ c_is_whole (hr.mono (by decide)) pass0 rfl (@pa_cons _ _ _ _ _ (pv 0) pa_nil se_name) (by decide) (se_name) (by rfl)) (@pe_one _ _ _ _ _ (@pe_chain _ _ _ _ _ _ _ _ _ _ _ _ op_le op_le (pv 1) (pv 0) (pv 2) (by with_unfolding_all rfl)))))), ?_⟩
    walk_at "rd"
    refine ⟨v, rfl, ?_⟩
    walk_at "rd"
    refine iteD (fun h1 => ?_) (fun h1 => ?_)
    · walk_at "rd"
      have e : decide (lo ≤ v ∧ v ≤ hi) = decide (v ≤ hi) := by simp [h1]
      rw [e] at q
      exact q
    · walk_at "rd"
      have e : decide (lo ≤ v ∧ v ≤ hi) = false := by simp [h1]
      rw [e] at q
      exact q
noncomputable def spTupOf : Sp := fun vs H Q _ => ∃ (a : Addr) (xs : List V) (n : Int), vs = [.ref a, .int n] ∧ H a = some (.tup xs) ∧ Q (.bl (decide ((xs.length : Int) = n))) H
theorem sc_tupof : FnScope ["value", "size"] ["value", "size"] (defScope (top 10)) := ⟨rfl, rfl, rfl, by decide +kernel, rfl, by decide +kernel, by decide +kernel⟩
theorem ok_tupof {f : Addr} {fd : FuncData} (F : Fun K "is_tuple_of" "is_tuple_of" (top 10) f fd) (T : Txt K mg) : FnOk P w K mg base CX0 1 f fd ["value", "size"] spTupOf := by
  refine F.ok sc_tupof (fun vs H Q E h => ?_) (fun cdv A outer s H vs Q E hr h => ?_)
  · obtain ⟨a, xs, n, rfl, _⟩ := h
    rfl
  · obtain ⟨a, xs, n, rfl, ha, q⟩ := h
    refine ⟨_, (@pss_one _ _ _ (@ps_ret _ _ _ _ (@pe_and _ _ _ _ _ _ _ (@pe_callB _ _ _ _ _ _ _ _ _ (call_isiK (K := K)) rfl T.isi bt_isi (@pa_cons _ _ _ _ _ (pv 0) (@pa_cons _ _ _ _ _ (pe_tyN T.tuple bt_tuple rfl) pa_nil se_name) se_name) (by decide) (by decide) (se_name) (by rfl)) (@pe_one _ _ _ _ _ (@pe_cmpR _ _ _ _ _ _ _ _ (op_eqU hr.units) (@pe_callB _ _ _ _ _ _ _ _ _ (call_len_seqK (K := K)) rfl T.len PySem.boot_len (@pa_cons _ _ _ _ _ (pv 0) pa_nil se_name) (by decide) (by decide) (se_name) (by rfl)) (pv 1) (nomark _)))))), ?_⟩
    walk_at "rd"
    refine ⟨_, _, _, _, _, rfl, rfl, .tup ha, kit_tt K, ?_⟩
    walk_at "rd"
    refine ⟨a, xs, rfl, .inr (SqT.of ha), ?_⟩
    walk_at "rd"
    exact q
noncomputable def wyV (w : Wy) : List V := [.int w.a, .int w.b, .int w.c, .int w.d]
noncomputable def wyD (w : Wy) : PyData := .tuple [.int w.a, .int w.b, .int w.c, .int w.d]
theorem den_wy {H : Hp} {x : V} {w : Wy} (h : Den H x (wyD w)) : ∃ a, x = .ref a ∧ H a = some (.tup (wyV w)) := by
  obtain ⟨a, xs, rfl, e, r⟩ := Den.inv_tup h
  have e2 := DenAll.of_ints (ns := [w.a, w.b, w.c, w.d]) r
  subst e2
  exact ⟨a, rfl, e⟩
theorem wy_den {H : Hp} {a : Addr} {w : Wy} (h : H a = some (.tup (wyV w))) : Den H (.ref a) (wyD w) := .tup h (DenAll.ints [w.a, w.b, w.c, w.d])
theorem wys_upd {H : Hp} {p : Addr} {zs : List V} {o : HO} (hp : H p = some (.lst zs)) : ∀ {xs : List V} {ws : List Wy}, DenAll H xs (ws.map wyD) → DenAll (upd H p o) xs (ws.map wyD)
  | _, [], .nil => .nil
  | _, w :: ws, .cons h r => by
    refine .cons ?_ (wys_upd hp r)
    obtain ⟨a, rfl, e⟩ := den_wy h
    refine wy_den ?_
    rw [upd_ne (ne_of e hp (by intro z; cases z))]
    exact e
noncomputable def spLPeople (K : PySem.W.Frag) : Sp := fun vs H Q _ => ∃ (a : Addr) (ns : List Int) (r : Int), vs = [.ref a, .int r] ∧ SqL K H a (ns.map V.int) ∧ 1 ≤ r ∧ r ≤ 4 ∧
  ∀ (p : Addr) (H' : Hp), H p = none → Same H H' → H' p = some (.lst ((folk ns r).map V.int)) → Q (.ref p) H'
theorem folk_take (ns : List Int) (r : Int) (i : Nat) (h : (i : Int) < r) : (List.range (i + 1)).map (fun (k : Nat) => draw ns (3 + (k : Int)) % most ns) = (List.range i).map (fun (k : Nat) => draw ns (3 + (k : Int)) % most ns) ++ [draw ns (3 + (i : Int)) % most ns] := by
  rw [List.range_succ, List.map_append]
  rfl
theorem sc_lpeople : FnScope ["script", "rooms", "most"] ["script", "rooms"] (defScope (top 33)) := ⟨rfl, rfl, rfl, by decide +kernel, rfl, by decide +kernel, by decide +kernel⟩
theorem ok_lpeople {f : Addr} {fd : FuncData} (F : Fun K "_law_people" "_law_people" (top 33) f fd) (T : Txt K mg) (c_law_draw : Callee P w K mg base CX0 2 "_law_draw" ["script", "k"] (spDraw K)) :
    FnOk P w K mg base CX0 3 f fd ["script", "rooms"] (spLPeople K) := by
  refine F.ok sc_lpeople (fun vs H Q E h => ?_) (fun cdv A outer s H vs Q E hr h => ?_)
  · obtain ⟨a, ns, r, rfl, _⟩ := h
    rfl
  · obtain ⟨a, ns, r, rfl, hS, h1, h4, q⟩ := h
    refine ⟨_, (@pss_cons _ _ _ _ _ (@ps_asg _ _ _ _ _ _ (@pe_ix _ _ _ _ _ _ _ (ix_seqK (K := K)) (@pe_lst _ _ _ _ (@pa_cons _ _ _ _ _ pe_int (@pa_cons _ _ _ _ _ pe_int (@pa_cons _ _ _ _ _ pe_int (@pa_cons _ _ _ _ _ pe_int pa_nil se_const) se_const) se_const) se_const)) (@pe_op _ _ _ _ _ _ _ _ op_mod (@pe_callC _ _ _ _ _ _ _ _ _ _ _ _ c_law_draw (hr.mono (by decide)) pass0 rfl (@pa_cons _ _ _ _ _ (pv 0) (@pa_cons _ _ _ _ _ pe_int pa_nil se_const) se_name) (by decide) (se_name) (by rfl)) pe_int) (fun _ _ => rfl)) (@pg_name _ _ (2) _ (by walk_at "o") rfl (Or.inr rfl) (by walk_at "n")) (by rfl) (by rfl) (by rfl)) (@pss_one _ _ _ (@ps_ret _ _ _ _ (@pe_comp _ _ (["k", "most", "script"]) ([none, some 2, some 0]) _ _ _ _ _ _ _ _ _ rfl (@pi_range1 _ _ _ _ _ _ rfl T.range (@pa_cons _ _ _ _ _ (pv 1) pa_nil se_name) (by rfl)) (by kernel_rfl) (fun _ _ _ _ _ => (@pg_name _ _ (0) _ (by walk_at "o") rfl (Or.inl rfl) (by walk_at "n"))) (fun _ _ _ _ _ => pifs_nil) (fun _ _ _ _ _ => (@pe_op _ _ _ _ _ _ _ _ op_mod (@pe_callC _ _ _ _ _ _ _ _ _ _ _ _ c_law_draw (hr.mono (by decide)) pass0 rfl (@pa_cons _ _ _ _ _ (pv 2) (@pa_cons _ _ _ _ _ (@pe_op _ _ _ _ _ _ _ _ op_addU pe_int (pv 0)) pa_nil se_binop) se_name) (by decide) (se_name) (by rfl)) (pv 1))) (by intro _; rfl))))), ?_⟩
    walk_at "rd"
    refine ⟨by decide, fun l hl => ?_⟩
    walk_at "rd"
    have s1 : Same H (upd H l (.lst ([3, 2, 5, 10].map V.int))) := same_upd hl
    refine ⟨a, ns, 2, rfl, s1.seq hS, by decide, by decide, ?_⟩
    walk_at "rd"
    have m2 := mod_range ns 2 4 (by decide)
    refine rd_ixL (SqL.of upd_same) (atI_ints (ns := [3, 2, 5, 10]) m2.1 (by simpa using m2.2)) ?_
    walk_at "rd"
    refine rd_compR ?_
    walk_at "rd"
    refine ⟨r, rfl, by omega, by omega, fun p hp => ?_⟩
    have hm := most_range ns
    refine compR (fun i ys σc H2 => ∃ v, σc = [v, some (.int (most ns)), some (.ref a)] ∧ ys = ((List.range i).map fun (k : Nat) => draw ns (3 + (k : Int)) % most ns).map V.int ∧ H2 = upd (upd H l (.lst ([3, 2, 5, 10].map V.int))) p (.lst ys))
      (by omega) ⟨none, rfl, rfl, rfl⟩ ?_ ?_ ?_
    · rintro i ys σc H2 hi ⟨v, rfl, rfl, rfl⟩
      exact ⟨upd_same, by simp⟩
    · rintro i ys σc H2 hi ⟨v, rfl, rfl, rfl⟩
      walk_at "rd"
      have s2 : Same H (upd (upd H l (.lst ([3, 2, 5, 10].map V.int))) p (.lst (((List.range i).map fun (k : Nat) => draw ns (3 + (k : Int)) % most ns).map V.int))) := same_to s1 (s1.free hp)
      refine ⟨a, ns, _, rfl, s2.seq hS, by omega, by omega, ?_⟩
      walk_at "rd"
      refine ⟨upd_same, _, rfl, ?_, upd_upd⟩
      rw [List.range_succ, List.map_append, List.map_append]
      simp only [Int.zero_add]
      rfl
    · rintro ys σc H2 ⟨v, rfl, rfl, rfl⟩
      exact q p _ (s1.free hp) (same_to s1 (s1.free hp)) upd_same
end
section
variable {P : Program} {w : World} {K : PySem.W.Frag} {mg : Str → Option Value} {base : Heap}
noncomputable def spLWay (K : PySem.W.Frag) : Sp := fun vs H Q _ => ∃ (a : Addr) (ns : List Int) (k r : Int), vs = [.ref a, .int k, .int r] ∧ SqL K H a (ns.map V.int) ∧ 0 ≤ k ∧ k ≤ 1000 ∧ 1 ≤ r ∧
  ∀ (t : Addr) (H' : Hp), H t = none → Same H H' → H' t = some (.tup (wyV (way ns k r))) → Q (.ref t) H'
theorem sc_lway : FnScope ["script", "k", "rooms", "start", "end", "wide"] ["script", "k", "rooms"] (defScope (top 34)) := ⟨rfl, rfl, rfl, by decide +kernel, rfl, by decide +kernel, by decide +kernel⟩
theorem ok_lway {f : Addr} {fd : FuncData} (F : Fun K "_law_way" "_law_way" (top 34) f fd) (T : Txt K mg) (c_law_draw : Callee P w K mg base CX0 2 "_law_draw" ["script", "k"] (spDraw K)) :
    FnOk P w K mg base CX0 3 f fd ["script", "k", "rooms"] (spLWay K) := by
  refine F.ok sc_lway (fun vs H Q E h => ?_) (fun cdv A outer s H vs Q E hr h => ?_)
  · obtain ⟨a, ns, k, r, rfl, _⟩ := h
    rfl
  · obtain ⟨a, ns, k, r, rfl, hS, h0, h1, h2, q⟩ := h
    refine ⟨_, (@pss_cons _ _ _ _ _ (@ps_asg _ _ _ _ _ _ (@pe_op _ _ _ _ _ _ _ _ op_addU pe_int (@pe_op _ _ _ _ _ _ _ _ op_mod (@pe_callC _ _ _ _ _ _ _ _ _ _ _ _ c_law_draw (hr.mono (by decide)) pass0 rfl (@pa_cons _ _ _ _ _ (pv 0) (@pa_cons _ _ _ _ _ (@pe_op _ _ _ _ _ _ _ _ op_addU pe_int (pv 1)) pa_nil se_binop) se_name) (by decide) (se_name) (by rfl)) (pv 2))) (@pg_name _ _ (3) _ (by walk_at "o") rfl (Or.inl rfl) (by walk_at "n")) (by rfl) (by rfl) (by rfl)) (@pss_cons _ _ _ _ _ (@ps_asg _ _ _ _ _ _ (@pe_op _ _ _ _ _ _ _ _ op_mod (@pe_callC _ _ _ _ _ _ _ _ _ _ _ _ c_law_draw (hr.mono (by decide)) pass0 rfl (@pa_cons _ _ _ _ _ (pv 0) (@pa_cons _ _ _ _ _ (@pe_op _ _ _ _ _ _ _ _ op_addU pe_int (pv 1)) pa_nil se_binop) se_name) (by decide) (se_name) (by rfl)) (@pe_op _ _ _ _ _ _ _ _ op_addU (pv 2) pe_int)) (@pg_name _ _ (4) _ (by walk_at "o") rfl (Or.inl rfl) (by walk_at "n")) (by rfl) (by rfl) (by rfl)) (@pss_cons _ _ _ _ _ (@ps_if _ _ _ _ _ _ _ _ (@pt_cmpR _ _ _ _ _ _ _ _ (op_eqU hr.units) (pv 4) (pv 3) (nomark _)) (@pss_one _ _ _ (@ps_asg _ _ _ _ _ _ pe_int (@pg_name _ _ (4) _ (by walk_at "o") rfl (Or.inl rfl) (by walk_at "n")) (by rfl) (by rfl) (by rfl))) pss_nil) (@pss_cons _ _ _ _ _ (@ps_asg _ _ _ _ _ _ (@pe_op _ _ _ _ _ _ _ _ op_addU pe_int (@pe_op _ _ _ _ _ _ _ _ op_mod (@pe_callC _ _ _ _ _ _ _ _ _ _ _ _ c_law_draw (hr.mono (by decide)) pass0 rfl (@pa_cons _ _ _ _ _ (pv 0) (@pa_cons _ _ _ _ _ (@pe_op _ _ _ _ _ _ _ _ op_addU pe_int (pv 1)) pa_nil se_binop) se_name) (by decide) (se_name) (by rfl)) (@pe_ix _ _ _ _ _ _ _ (ix_seqK (K := K)) (@pe_lst _ _ _ _ (@pa_cons _ _ _ _ _ pe_int (@pa_cons _ _ _ _ _ pe_int (@pa_cons _ _ _ _ _ pe_int pa_nil se_const) se_const) se_const)) (@pe_op _ _ _ _ _ _ _ _ op_mod (@pe_callC _ _ _ _ _ _ _ _ _ _ _ _ c_law_draw (hr.mono (by decide)) pass0 rfl (@pa_cons _ _ _ _ _ (pv 0) (@pa_cons _ _ _ _ _ pe_int pa_nil se_const) se_name) (by decide) (se_name) (by rfl)) pe_int) (fun _ _ => rfl)))) (@pg_name _ _ (5) _ (by walk_at "o") rfl (Or.inl rfl) (by walk_at "n")) (by rfl) (by rfl) (by rfl)) (@pss_one _ _ _ (@ps_ret _ _ _ _ (@pe_tup _ _ _ _ _ (@pa_cons _ _ _ _ _ (pv 3) (@pa_cons _ _ _ _ _ (pv 4) (@pa_cons _ _ _ _ _ (pv 5) (@pa_cons _ _ _ _ _ (@pe_op _ _ _ _ _ _ _ _ op_addU pe_int (@pe_op _ _ _ _ _ _ _ _ op_mod (@pe_callC _ _ _ _ _ _ _ _ _ _ _ _ c_law_draw (hr.mono (by decide)) pass0 rfl (@pa_cons _ _ _ _ _ (pv 0) (@pa_cons _ _ _ _ _ (@pe_op _ _ _ _ _ _ _ _ op_addU pe_int (pv 1)) pa_nil se_binop) se_name) (by decide) (se_name) (by rfl)) (@pe_ix _ _ _ _ _ _ _ (ix_seqK (K := K)) (@pe_lst _ _ _ _ (@pa_cons _ _ _ _ _ pe_int (@pa_cons _ _ _ _ _ pe_int (@pa_cons _ _ _ _ _ pe_int pa_nil se_const) se_const) se_const)) (@pe_op _ _ _ _ _ _ _ _ op_mod (@pe_callC _ _ _ _ _ _ _ _ _ _ _ _ c_law_draw (hr.mono (by decide)) pass0 rfl (@pa_cons _ _ _ _ _ (pv 0) (@pa_cons _ _ _ _ _ pe_int pa_nil se_const) se_name) (by decide) (se_name) (by rfl)) pe_int) (fun _ _ => rfl)))) pa_nil se_binop) se_name) se_name) se_name)))))))), ?_⟩
    have hw := widths_range ns
    have hl := lengths_range ns
    have m8 := mod_range ns 8 3 (by decide)
    have m9 := mod_range ns 9 3 (by decide)
    walk_at "rd"
    refine ⟨a, ns, _, rfl, hS, by omega, by omega, ?_⟩
    walk_at "rd"
    refine ⟨a, ns, _, rfl, hS, by omega, by omega, ?_⟩
    walk_at "rd"
    refine iteD (fun he => ?_) (fun he => ?_)
    all_goals
      have e0 : wayEnd ns k r = if draw ns (21 + k) % (r + 1) = 1 + draw ns (10 + k) % r then 0 else draw ns (21 + k) % (r + 1) := rfl
      first
        | rw [if_pos he] at e0
        | rw [if_neg he] at e0
      walk_at "rd"
      refine ⟨a, ns, _, rfl, hS, by omega, by omega, ?_⟩
      walk_at "rd"
      refine ⟨by decide, fun l1 hl1 => ?_⟩
      walk_at "rd"
      have s1 : Same H (upd H l1 (.lst ([2, 3, 9].map V.int))) := same_upd hl1
      refine ⟨a, ns, 8, rfl, s1.seq hS, by decide, by decide, ?_⟩
      walk_at "rd"
      refine rd_ixL (SqL.of upd_same) (atI_ints (ns := [2, 3, 9]) m8.1 (by simpa using m8.2)) ?_
      have hw' : 2 ≤ ([2, 3, 9] : List Int).getD (draw ns 8 % 3).toNat 0 := hw.1
      walk_at "rd"
      refine ⟨a, ns, _, rfl, s1.seq hS, by omega, by omega, ?_⟩
      walk_at "rd"
      refine ⟨by decide, fun l2 hl2 => ?_⟩
      walk_at "rd"
      have s2 : Same H (upd (upd H l1 (.lst ([2, 3, 9].map V.int))) l2 (.lst ([2, 3, 6].map V.int))) := same_to s1 (s1.free hl2)
      refine ⟨a, ns, 9, rfl, s2.seq hS, by decide, by decide, ?_⟩
      walk_at "rd"
      refine rd_ixL (SqL.of upd_same) (atI_ints (ns := [2, 3, 6]) m9.1 (by simpa using m9.2)) ?_
      have hl' : 2 ≤ ([2, 3, 6] : List Int).getD (draw ns 9 % 3).toNat 0 := hl.1
      walk_at "rd"
      refine ⟨by show 4 ≤ sizeLine; decide, fun t ht => ?_⟩
      walk_at "rd"
      refine q t _ (s2.free ht) (same_to s2 (s2.free ht)) ?_
      rw [upd_same]
      unfold wyV way
      rw [e0]
      rfl
end
section
variable {P : Program} {w : World} {K : PySem.W.Frag} {mg : Str → Option Value} {base : Heap}
structure PlotAt (H H' : Hp) (t p l : Addr) (ps : List Int) (xs : List V) (ws : List Wy) : Prop where
  same : Same H H'
  ft : H t = none
  fp : H p = none
  fl : H l = none
  npl : p ≠ l
  tup : H' t = some (.tup [.ref p, .ref l])
  hps : H' p = some (.lst (ps.map V.int))
  hws : H' l = some (.lst xs)
  den : DenAll H' xs (ws.map wyD)
noncomputable def spLHouse (K : PySem.W.Frag) : Sp := fun vs H Q _ => ∃ (a : Addr) (ns : List Int), vs = [.ref a] ∧ SqL K H a (ns.map V.int) ∧
  ∀ (t p l : Addr) (xs : List V) (H' : Hp), PlotAt H H' t p l (people ns) xs (ways ns) → Q (.ref t) H'
theorem canLay_wys : ∀ ws : List Wy, PyData.canLayAll0 (ws.map wyD) = true
  | [] => by simp [PyData.canLayAll0]
  | w :: r => by simp [PyData.canLayAll0, wyD, PyData.canLay0, canLay_wys r]
theorem depth_wys : ∀ ws : List Wy, PyData.depthAll (ws.map wyD) ≤ 3
  | [] => by simp [PyData.depthAll]
  | w :: r => by
    have := depth_wys r
    simp only [List.map_cons, PyData.depthAll, wyD, PyData.depth]
    omega
theorem shaped_wys (ws : List Wy) : SeqAt.shaped (.list (ws.map wyD)) = true := by
  have h1 := depth_wys ws
  have h2 : PyData.depth (.list (ws.map wyD)) ≤ 64 := by simp only [PyData.depth]; omega
  unfold SeqAt.shaped
  rw [Bool.and_eq_true]
  exact ⟨by simp only [PyData.canLay0]; exact canLay_wys ws, decide_eq_true h2⟩
theorem shaped_nil : SeqAt.shaped (.list []) = true := by decide
theorem eqv_nil (ds : List PyData) : PyData.eqv (.list ds) (.list []) = ds.isEmpty := by
  cases ds <;> simp [PyData.eqv, PyData.eqvAll]
theorem sc_lhouse : FnScope ["script", "rooms", "many", "ways"] ["script"] (defScope (top 35)) := ⟨rfl, rfl, rfl, by decide +kernel, rfl, by decide +kernel, by decide +kernel⟩
theorem ok_lhouse {f : Addr} {fd : FuncData} (F : Fun K "_law_house" "_law_house" (top 35) f fd) (T : Txt K mg) (c_law_draw : Callee P w K mg base CX0 2 "_law_draw" ["script", "k"] (spDraw K))
    (c_law_way : Callee P w K mg base CX0 3 "_law_way" ["script", "k", "rooms"] (spLWay K)) (c_law_people : Callee P w K mg base CX0 3 "_law_people" ["script", "rooms"] (spLPeople K)) :
    FnOk P w K mg base CX0 4 f fd ["script"] (spLHouse K) := by
  refine F.ok sc_lhouse (fun vs H Q E h => ?_) (fun cdv A outer s H vs Q E hr h => ?_)
  · obtain ⟨a, ns, rfl, _⟩ := h
    rfl
  · obtain ⟨a, ns, rfl, hS, q⟩ := h
    refine ⟨_, (@pss_cons _ _ _ _ _ (@ps_asg _ _ _ _ _ _ (@pe_op _ _ _ _ _ _ _ _ op_addU pe_int (@pe_op _ _ _ _ _ _ _ _ op_mod (@pe_callC _ _ _ _ _ _ _ _ _ _ _ _ c_law_draw (hr.mono (by decide)) pass0 rfl (@pa_cons _ _ _ _ _ (pv 0) (@pa_cons _ _ _ _ _ pe_int pa_nil se_const) se_name) (by decide) (se_name) (by rfl)) pe_int)) (@pg_name _ _ (1) _ (by walk_at "o") rfl (Or.inr rfl) (by walk_at "n")) (by rfl) (by rfl) (by rfl)) (@pss_cons _ _ _ _ _ (@ps_asg _ _ _ _ _ _ (@pe_op _ _ _ _ _ _ _ _ op_mod (@pe_callC _ _ _ _ _ _ _ _ _ _ _ _ c_law_draw (hr.mono (by decide)) pass0 rfl (@pa_cons _ _ _ _ _ (pv 0) (@pa_cons _ _ _ _ _ pe_int pa_nil se_const) se_name) (by decide) (se_name) (by rfl)) pe_int) (@pg_name _ _ (2) _ (by walk_at "o") rfl (Or.inl rfl) (by walk_at "n")) (by rfl) (by rfl) (by rfl)) (@pss_cons _ _ _ _ _ (@ps_if _ _ _ _ _ _ _ _ (@pt_cmpR _ _ _ _ _ _ _ _ (op_eqU hr.units) (@pe_op _ _ _ _ _ _ _ _ op_mod (@pe_op _ _ _ _ _ _ _ _ op_fdiv (@pe_callC _ _ _ _ _ _ _ _ _ _ _ _ c_law_draw (hr.mono (by decide)) pass0 rfl (@pa_cons _ _ _ _ _ (pv 0) (@pa_cons _ _ _ _ _ pe_int pa_nil se_const) se_name) (by decide) (se_name) (by rfl)) pe_int) pe_int) pe_int (nomark _)) (@pss_one _ _ _ (@ps_asg _ _ _ _ _ _ pe_int (@pg_name _ _ (2) _ (by walk_at "o") rfl (Or.inl rfl) (by walk_at "n")) (by rfl) (by rfl) (by rfl))) pss_nil) (@pss_cons _ _ _ _ _ (@ps_comp _ _ (["k", "script", "rooms"]) ([none, some 0, some 1]) _ _ _ _ _ _ _ _ _ (3) _ _ _ rfl (by walk_at "o") rfl rfl (@pi_range1 _ _ _ _ _ _ rfl T.range (@pa_cons _ _ _ _ _ (pv 2) pa_nil se_name) (by rfl)) (by kernel_rfl) (fun _ _ _ _ _ => (@pg_name _ _ (0) _ (by walk_at "o") rfl (Or.inl rfl) (by walk_at "n"))) (fun _ _ _ _ _ => pifs_nil) (fun _ _ _ _ _ => (@pe_callC _ _ _ _ _ _ _ _ _ _ _ _ c_law_way (hr.mono (by decide)) pass0 rfl (@pa_cons _ _ _ _ _ (pv 1) (@pa_cons _ _ _ _ _ (pv 0) (@pa_cons _ _ _ _ _ (pv 2) pa_nil se_name) se_name) se_name) (by decide) (se_name) (by rfl))) (by rfl) (by intro _; rfl)) (@pss_cons _ _ _ _ _ (@ps_if _ _ _ _ _ _ _ _ (@PW.pt _ _ _ (@pw_and _ _ _ _ _ _ _ (@pt_cmpR _ _ _ _ _ _ _ _ (op_neU hr.units) (pv 3) (@pe_lst _ _ _ _ pa_nil) (nomark _)) (@pw_and1 _ _ _ _ (@pt_cmpR _ _ _ _ _ _ _ _ (op_eqU hr.units) (@pe_op _ _ _ _ _ _ _ _ op_mod (@pe_callC _ _ _ _ _ _ _ _ _ _ _ _ c_law_draw (hr.mono (by decide)) pass0 rfl (@pa_cons _ _ _ _ _ (pv 0) (@pa_cons _ _ _ _ _ pe_int pa_nil se_const) se_name) (by decide) (se_name) (by rfl)) pe_int) pe_int (nomark _))))) (@pss_one _ _ _ (@ps_asg _ _ _ _ _ _ (@pe_ix _ _ _ _ _ _ _ (ix_seqK (K := K)) (pv 3) pe_int (fun _ _ => rfl)) (@pg_sub _ _ _ _ _ _ _ (pv 3) (@pe_un _ _ _ _ _ _ un_neg pe_int) set_list (by intro _; rfl)) (by rfl) (by rfl) (by rfl))) pss_nil) (@pss_one _ _ _ (@ps_ret _ _ _ _ (@pe_tup _ _ _ _ _ (@pa_cons _ _ _ _ _ (@pe_callC _ _ _ _ _ _ _ _ _ _ _ _ c_law_people (hr.mono (by decide)) pass0 rfl (@pa_cons _ _ _ _ _ (pv 0) (@pa_cons _ _ _ _ _ (pv 1) pa_nil se_name) se_name) (by decide) (se_name) (by rfl)) (@pa_cons _ _ _ _ _ (pv 3) pa_nil se_name) se_call))))))))), ?_⟩
    have hr0 := rooms_range ns
    have hm0 := many_range ns
    have m7 := mod_range ns 7 8 (by decide)
    walk_at "rd"
    refine ⟨a, ns, 1, rfl, hS, by decide, by decide, ?_⟩
    walk_at "rd"
    refine ⟨a, ns, 7, rfl, hS, by decide, by decide, ?_⟩
    walk_at "rd"
    refine ⟨a, ns, 7, rfl, hS, by decide, by decide, ?_⟩
    walk_at "rd"
    refine iteD (fun he => ?_) (fun he => ?_)
    all_goals
      have e0 : many ns = if draw ns 7 / 8 % 8 = 1 then 10 else draw ns 7 % 8 := rfl
      first
        | rw [if_pos he] at e0
        | rw [if_neg he] at e0
      walk_at "rd"
      refine rd_compR ?_
      walk_at "rd"
      refine ⟨many ns, by rw [e0], by omega, by omega, fun p hp => ?_⟩
      refine compR (fun i ys σc H2 => ∃ v, σc = [v, some (.ref a), some (.int (rooms ns))] ∧ Same H H2 ∧ H2 p = some (.lst ys) ∧ ys.length = i ∧ DenAll H2 ys (((List.range i).map fun (k : Nat) => way ns k (rooms ns)).map wyD))
        (by omega) ⟨none, rfl, same_upd hp, upd_same, rfl, .nil⟩ ?_ ?_ ?_
      · rintro i ys σc H2 hi ⟨v, rfl, s2, h2, hl, d2⟩
        exact ⟨h2, by omega⟩
      · rintro i ys σc H2 hi ⟨v, rfl, s2, h2, hl, d2⟩
        walk_at "rd"
        refine ⟨a, ns, _, _, rfl, s2.seq hS, by omega, by omega, hr0.1, fun t H' ft s' ht => ?_⟩
        have h' : H' p = some (.lst ys) := s' _ _ h2
        refine ⟨h', _, rfl, same_to (s2.trans s') hp, upd_same, by rw [List.length_append, hl]; rfl, ?_⟩
        rw [List.range_succ, List.map_append, List.map_append]
        refine DenAll.append (wys_upd h' (d2.same s')) (.cons (wy_den ?_) .nil)
        rw [upd_ne (ne_of ht h' (by intro z; cases z)), ht, Int.zero_add]
      · rintro ys σc H2 ⟨v, rfl, s2, h2, hl, d2⟩
        walk_at "rd"
        refine ⟨by decide, fun l0 hl0 => ?_⟩
        have s3 : Same H (upd H2 l0 (.lst [])) := same_to s2 (s2.free hl0)
        have h3 : upd H2 l0 (.lst []) p = some (.lst ys) := by rw [upd_ne (ne_of_none h2 hl0)]; exact h2
        have d3 : DenAll (upd H2 l0 (.lst [])) ys ((ways0 ns).map wyD) := d2.same (same_upd hl0)
        refine .inr ⟨_, _, .lst h3 d3, .lst upd_same .nil, shaped_wys _, shaped_nil, ?_⟩
        walk_at "rd"
        rw [eqv_nil]
        have fin : ∀ (zs : List V) (H4 : Hp), Same H H4 → H4 p = some (.lst zs) → DenAll H4 zs ((ways ns).map wyD) → ∀ (p2 : Addr) (H5 : Hp), H4 p2 = none → Same H4 H5 →
            H5 p2 = some (.lst ((folk ns (rooms ns)).map V.int)) → ∀ t, H5 t = none → Q (.ref t) (upd H5 t (.tup [.ref p2, .ref p])) := by
          intro zs H4 s4 h4 d4 p2 H5 f2 s5 h5 t ht
          have n1 : p2 ≠ t := ne_of_none h5 ht
          have n2 : p ≠ t := ne_of_none (s5 _ _ h4) ht
          refine q t p2 p zs _ ⟨same_to (s4.trans s5) ((s4.trans s5).free ht), (s4.trans s5).free ht, s4.free f2, hp, (ne_of_none h4 f2).symm, upd_same, ?_, ?_, d4.same (s5.trans (same_upd ht))⟩
          · rw [upd_ne n1]; exact h5
          · rw [upd_ne n2]; exact s5 _ _ h4
        have ew : ∀ b : Bool, ((ways0 ns).map wyD).isEmpty = b → (ways0 ns).isEmpty = b := fun b e => by
          rw [List.isEmpty_map] at e
          exact e
        refine iteB (fun hb => ?_) (fun hb => ?_)
        · have hb' : (ways0 ns).isEmpty = false := ew _ (by simpa using hb)
          walk_at "rd"
          refine ⟨a, ns, 54, rfl, s3.seq hS, by decide, by decide, ?_⟩
          walk_at "rd"
          refine iteD (fun h54 => ?_) (fun h54 => ?_)
          · have ews : ways ns = (ways0 ns).set ((ways0 ns).length - 1) ((ways0 ns).getD 0 default) := by
              unfold ways
              rw [if_pos ⟨hb', h54⟩]
            have lz := d3.length
            rw [List.length_map] at lz
            cases ez : ways0 ns with
            | nil => rw [ez] at hb'; cases hb'
            | cons w0 r0 =>
              rw [ez] at d3 lz ews
              cases d3 with
              | @cons y0 _ yr _ g0 gr =>
                have hd : atI (y0 :: yr) (0 : Int) = some y0 := by
                  have := atI_nat (xs := y0 :: yr) (j := 0) (v := y0) rfl
                  exact this
                walk_at "rd"
                refine rd_ixL (SqL.of h3) hd ?_
                walk_at "rd"
                refine ⟨p, y0 :: yr, -1, yr.length, rfl, rfl, h3, ?_, ?_⟩
                · unfold ixN
                  rw [if_neg (by decide), if_pos (by rw [List.length_cons]; omega)]
                  rw [List.length_cons]
                  congr 1
                  omega
                · walk_at "rd"
                  refine ⟨a, ns, _, rfl, (same_to s3 hp).seq hS, hr0.1, hr0.2, fun p2 H5 f2 s5 h5 => ?_⟩
                  walk_at "rd"
                  refine ⟨by show 2 ≤ sizeLine; decide, fun t ht => ?_⟩
                  walk_at "rd"
                  refine fin _ _ (same_to s3 hp) upd_same ?_ p2 H5 f2 s5 h5 t ht
                  rw [ews]
                  have d4 : DenAll (upd H2 l0 (.lst [])) (y0 :: yr) ((w0 :: r0).map wyD) := .cons g0 gr
                  have d5 := DenAll.set g0 yr.length d4
                  have lz' : yr.length = (w0 :: r0).length - 1 := by
                    have : yr.length + 1 = r0.length + 1 := lz
                    rw [List.length_cons]
                    omega
                  have e6 : ((w0 :: r0).map wyD).set yr.length (wyD w0) = ((w0 :: r0).set ((w0 :: r0).length - 1) ((w0 :: r0).getD 0 default)).map wyD := by
                    rw [List.map_set, lz']
                    rfl
                  have d6 : DenAll (upd H2 l0 (.lst [])) ((y0 :: yr).set yr.length y0) (((w0 :: r0).set ((w0 :: r0).length - 1) ((w0 :: r0).getD 0 default)).map wyD) := by
                    rw [← e6]
                    exact d5
                  exact wys_upd h3 d6
          · walk_at "rd"
            refine ⟨a, ns, _, rfl, (s3).seq hS, hr0.1, hr0.2, fun p2 H5 f2 s5 h5 => ?_⟩
            walk_at "rd"
            refine ⟨by show 2 ≤ sizeLine; decide, fun t ht => ?_⟩
            walk_at "rd"
            refine fin _ _ s3 h3 ?_ p2 H5 f2 s5 h5 t ht
            have ews : ways ns = ways0 ns := by
              unfold ways
              rw [if_neg fun z => h54 z.2]
            rw [ews]
            exact d3
        · have hb' : (ways0 ns).isEmpty = true := ew _ (by simpa using hb)
          walk_at "rd"
          refine ⟨a, ns, _, rfl, (s3).seq hS, hr0.1, hr0.2, fun p2 H5 f2 s5 h5 => ?_⟩
          walk_at "rd"
          refine ⟨by show 2 ≤ sizeLine; decide, fun t ht => ?_⟩
          walk_at "rd"
          refine fin _ _ s3 h3 ?_ p2 H5 f2 s5 h5 t ht
          have ews : ways ns = ways0 ns := by
            unfold ways
            rw [if_neg fun z => by rw [hb'] at z; exact Bool.false_ne_true z.1.symm]
          rw [ews]
          exact d3
end
section
variable {P : Program} {w : World} {K : PySem.W.Frag} {mg : Str → Option Value} {base : Heap}
theorem ncp : ¬ (("counts" : Str) = "passages") := by decide +kernel
theorem npc : ¬ (("passages" : Str) = "counts") := by decide +kernel
noncomputable def flds (c t : Addr) : List (Str × V) := putF "passages" (.ref t) (putF "counts" (.ref c) [])
theorem flds_c (c t : Addr) : (flds c t).lookup ("counts" : Str) = some (.ref c) := by
  unfold flds
  rw [lookup_putF, if_neg ncp, lookup_putF, if_pos rfl]
theorem flds_t (c t : Addr) : (flds c t).lookup ("passages" : Str) = some (.ref t) := by
  unfold flds
  rw [lookup_putF, if_pos rfl]
theorem flds_no (c t : Addr) {m : Str} (h1 : ¬ m = "passages") (h2 : ¬ m = "counts") : (flds c t).lookup m = none := by
  unfold flds
  rw [lookup_putF, if_neg h1, lookup_putF, if_neg h2]
  rfl
structure HouseAt (C : Addr) (H : Hp) (x : Addr) (ps : List Int) (ws : List Wy) : Prop where
  ex : ∃ dx c t xs, H x = some (.ins C dx (flds c t)) ∧ H c = some (.tup (ps.map V.int)) ∧ H t = some (.tup xs) ∧ DenAll H xs (ws.map wyD)
theorem HouseAt.same {C : Addr} {H H' : Hp} {x : Addr} {ps : List Int} {ws : List Wy} (h : HouseAt C H x ps ws) (s : Same H H') : HouseAt C H' x ps ws := by
  obtain ⟨dx, c, t, xs, h1, h2, h3, h4⟩ := h.ex
  exact ⟨dx, c, t, xs, s _ _ h1, s _ _ h2, s _ _ h3, h4.same s⟩
theorem HouseAt.upd {C : Addr} {H : Hp} {x : Addr} {ps : List Int} {ws : List Wy} (h : HouseAt C H x ps ws) {p : Addr} {zs : List V} {o : HO} (hp : H p = some (.lst zs)) : HouseAt C (upd H p o) x ps ws := by
  obtain ⟨dx, c, t, xs, h1, h2, h3, h4⟩ := h.ex
  refine ⟨dx, c, t, xs, ?_, ?_, ?_, wys_upd hp h4⟩
  · rw [upd_ne (ne_of h1 hp (by intro z; cases z))]; exact h1
  · rw [upd_ne (ne_of h2 hp (by intro z; cases z))]; exact h2
  · rw [upd_ne (ne_of h3 hp (by intro z; cases z))]; exact h3
theorem wys_keep {H H' : Hp} (k : ∀ e vs, H e = some (.tup vs) → H' e = some (.tup vs)) : ∀ {xs : List V} {ws : List Wy}, DenAll H xs (ws.map wyD) → DenAll H' xs (ws.map wyD)
  | _, [], .nil => .nil
  | _, w :: ws, .cons h r => by
    refine .cons ?_ (wys_keep k r)
    obtain ⟨a, rfl, e⟩ := den_wy h
    exact wy_den (k _ _ e)
structure Cl (K : PySem.W.Frag) (C : Addr) : Prop where
  cl : Cls K C
  nc : NoAttr K C "counts"
  nt : NoAttr K C "passages"
theorem atI_wy (w : Wy) : atI (wyV w) 0 = some (.int w.a) ∧ atI (wyV w) 1 = some (.int w.b) ∧ atI (wyV w) 2 = some (.int w.c) ∧ atI (wyV w) 3 = some (.int w.d) :=
  ⟨atI_nat (j := 0) rfl, atI_nat (j := 1) rfl, atI_nat (j := 2) rfl, atI_nat (j := 3) rfl⟩
end
section
variable {P : Program} {w : World} {K : PySem.W.Frag} {mg : Str → Option Value} {base : Heap}
noncomputable def spPeople (C : Addr) : Sp := fun vs H Q _ => ∃ (x : Addr) (ps : List Int) (ws : List Wy), vs = [.ref x] ∧ HouseAt C H x ps ws ∧ ∀ l, H l = none → Q (.ref l) (upd H l (.lst (ps.map V.int)))
theorem sc_people : FnScope ["self"] ["self"] (defScope (inClass (top 18) 1)) := ⟨rfl, rfl, rfl, by decide +kernel, rfl, by decide +kernel, by decide +kernel⟩
theorem ok_people {C f : Addr} {fd : FuncData} (F : Fun K "people" "House.people" (inClass (top 18) 1) f fd) (T : Txt K mg) (L : Cl K C) : FnOk P w K mg base CX0 1 f fd ["self"] (spPeople C) := by
  refine F.ok sc_people (fun vs H Q E h => ?_) (fun cdv A outer s H vs Q E hr h => ?_)
  · obtain ⟨x, ps, ws, rfl, _⟩ := h
    rfl
  · obtain ⟨x, ps, ws, rfl, hx, q⟩ := h
    obtain ⟨dx, c, t, xs, h1, h2, h3, h4⟩ := hx.ex
    refine ⟨_, (@pss_one _ _ _ (@ps_ret _ _ _ _ (@pe_callTy _ _ _ _ _ _ _ _ _ (call_list_ofK (K := K)) rfl T.list bt_list (@pa_cons _ _ _ _ _ (@pe_fldK _ (K) _ _ _ _ (pv 0) rfl (by rfl)) pa_nil se_attr) (by decide) (by decide) (se_attr) (by rfl)))), ?_⟩
    walk_at "rd"
    refine ⟨x, C, dx, _, _, rfl, h1, L.cl, L.nc, flds_c c t, ?_⟩
    walk_at "rd"
    exact ⟨c, _, rfl, .inr (SqT.of h2), fun l hl => q l hl⟩
noncomputable def spWays (C : Addr) : Sp := fun vs H Q _ => ∃ (x : Addr) (ps : List Int) (ws : List Wy), vs = [.ref x] ∧ HouseAt C H x ps ws ∧ ∀ l xs, H l = none → DenAll H xs (ws.map wyD) → Q (.ref l) (upd H l (.lst xs))
theorem sc_ways : FnScope ["self"] ["self"] (defScope (inClass (top 18) 2)) := ⟨rfl, rfl, rfl, by decide +kernel, rfl, by decide +kernel, by decide +kernel⟩
theorem ok_ways {C f : Addr} {fd : FuncData} (F : Fun K "ways" "House.ways" (inClass (top 18) 2) f fd) (T : Txt K mg) (L : Cl K C) : FnOk P w K mg base CX0 1 f fd ["self"] (spWays C) := by
  refine F.ok sc_ways (fun vs H Q E h => ?_) (fun cdv A outer s H vs Q E hr h => ?_)
  · obtain ⟨x, ps, ws, rfl, _⟩ := h
    rfl
  · obtain ⟨x, ps, ws, rfl, hx, q⟩ := h
    obtain ⟨dx, c, t, xs, h1, h2, h3, h4⟩ := hx.ex
    refine ⟨_, (@pss_one _ _ _ (@ps_ret _ _ _ _ (@pe_callTy _ _ _ _ _ _ _ _ _ (call_list_ofK (K := K)) rfl T.list bt_list (@pa_cons _ _ _ _ _ (@pe_fldK _ (K) _ _ _ _ (pv 0) rfl (by rfl)) pa_nil se_attr) (by decide) (by decide) (se_attr) (by rfl)))), ?_⟩
    walk_at "rd"
    refine ⟨x, C, dx, _, _, rfl, h1, L.cl, L.nt, flds_t c t, ?_⟩
    walk_at "rd"
    exact ⟨t, _, rfl, .inr (SqT.of h3), fun l hl => q l xs hl h4⟩
end
structure Ec where
  he : Addr
  bh : Addr
  nw : Addr
  bp : Addr
  nt : Addr
structure TxtX (K : PySem.W.Frag) (mg : Str → Option Value) (c : Ec) : Prop where
  g_HallError : mg "HallError" = some (.ref c.he)
  g_BadHouse : mg "BadHouse" = some (.ref c.bh)
  g_NoWalk : mg "NoWalk" = some (.ref c.nw)
  g_BadPaper : mg "BadPaper" = some (.ref c.bp)
  g_NoText : mg "NoText" = some (.ref c.nt)
  k_HallError : ExcK K c.he
  k_BadHouse : ExcK K c.bh
  k_NoWalk : ExcK K c.nw
  k_BadPaper : ExcK K c.bp
  k_NoText : ExcK K c.nt
  z_ValueError : mg "ValueError" = none
section
variable {P : Program} {w : World} {K : PySem.W.Frag} {mg : Str → Option Value} {base : Heap} {ec : Ec}
noncomputable def optV : Option Int → V
  | some m => .int m
  | none => .non
structure PlotIn (H : Hp) (tp p lw : Addr) (ps : List Int) (xs : List V) (ws : List Wy) : Prop where
  tup : H tp = some (.tup [.ref p, .ref lw])
  hps : H p = some (.lst (ps.map V.int))
  hws : H lw = some (.lst xs)
  den : DenAll H xs (ws.map wyD)
theorem PlotIn.same {H H' : Hp} {tp p lw : Addr} {ps : List Int} {xs : List V} {ws : List Wy} (h : PlotIn H tp p lw ps xs ws) (s : Same H H') : PlotIn H' tp p lw ps xs ws := ⟨s _ _ h.tup, s _ _ h.hps, s _ _ h.hws, h.den.same s⟩
theorem PlotIn.len {H : Hp} {tp p lw : Addr} {ps : List Int} {xs : List V} {ws : List Wy} (h : PlotIn H tp p lw ps xs ws) : xs.length = ws.length := by
  have e := h.den.length
  rwa [List.length_map] at e
end
section
variable {P : Program} {w : World} {K : PySem.W.Frag} {mg : Str → Option Value} {base : Heap} {ec : Ec}
noncomputable def addN (acc : Str) (n : Int) : Str := (acc ++ (" " : Str)) ++ ((toString n : String) : Str)
noncomputable def addNs (acc : Str) (ns : List Int) : Str := ns.foldl addN acc
noncomputable def wyL (w : Wy) : List Int := [w.a, w.b, w.c, w.d]
noncomputable def addW (acc : Str) (w : Wy) : Str := addNs (acc ++ ("\nway" : Str)) (wyL w)
noncomputable def addWs (acc : Str) (ws : List Wy) : Str := ws.foldl addW acc
noncomputable def shownT (ps : List Int) (ws : List Wy) : Str := addWs (addNs ("people" : Str) ps) ws
theorem addN_len {acc : Str} {n : Int} {b : Nat} (h : acc.length ≤ b) (h0 : -1000000 ≤ n) (h1 : n ≤ 1000000) : (addN acc n).length ≤ b + 2001 ∧ (acc ++ (" " : Str)).length = acc.length + 1 := by
  have e1 : (acc ++ (" " : Str)).length = acc.length + 1 := strLen_append _ _
  have e2 : (addN acc n).length = (acc ++ (" " : Str)).length + ((toString n : String) : Str).length := strLen_append _ _
  have := (str_small h0 h1).2
  omega
theorem addNs_snoc {acc : Str} {ns : List Int} {i : Nat} {n : Int} (h : ns[i]? = some n) : addNs acc (ns.take (i + 1)) = addN (addNs acc (ns.take i)) n := by
  unfold addNs
  rw [List.take_add_one, h, List.foldl_append]
  rfl
theorem addWs_snoc {acc : Str} {ws : List Wy} {i : Nat} {x : Wy} (h : ws[i]? = some x) : addWs acc (ws.take (i + 1)) = addW (addWs acc (ws.take i)) x := by
  unfold addWs
  rw [List.take_add_one, h, List.foldl_append]
  rfl
noncomputable def spShownL : Sp := fun vs H Q _ => ∃ (tp p lw : Addr) (ps : List Int) (xs : List V) (ws : List Wy), vs = [.ref tp] ∧ PlotIn H tp p lw ps xs ws ∧ Good ps ws ∧ Q (.str (shownT ps ws)) H
theorem sc_shownl : FnScope ["plot", "text", "count", "way", "number"] ["plot"] (defScope (top 36)) := ⟨rfl, rfl, rfl, by decide +kernel, rfl, by decide +kernel, by decide +kernel⟩
theorem ok_shownl {f : Addr} {fd : FuncData} (F : Fun K "_law_shown" "_law_shown" (top 36) f fd) (T : Txt K mg) : FnOk P w K mg base CX0 1 f fd ["plot"] spShownL := by
  refine F.ok sc_shownl (fun vs H Q E h => ?_) (fun cdv A outer s H vs Q E hr h => ?_)
  · obtain ⟨tp, p, lw, ps, xs, ws, rfl, _⟩ := h
    rfl
  · obtain ⟨tp, p, lw, ps, xs, ws, rfl, pl, g, q⟩ := h
    refine ⟨_, (@pss_cons _ _ _ _ _ (@ps_asg _ _ _ _ _ _ pe_str (@pg_name _ _ (1) _ (by walk_at "o") rfl (Or.inl rfl) (by walk_at "n")) (by rfl) (by rfl) (by rfl)) (@pss_cons _ _ _ _ _ (@ps_for _ _ _ _ _ _ _ _ PassesOwn.never rfl (@pi_seqK _ (K) _ _ _ (@pe_ix _ _ _ _ _ _ _ (ix_seqK (K := K)) (pv 0) pe_int (fun _ _ => rfl)) (by rfl)) (@pg_name _ _ (2) _ (by walk_at "o") rfl (Or.inl rfl) (by walk_at "n")) (@pss_one _ _ _ (@ps_asg _ _ _ _ _ _ (@pe_op _ _ _ _ _ _ _ _ op_add_str (@pe_op _ _ _ _ _ _ _ _ op_add_str (pv 1) pe_str) (@pe_callTy _ _ _ _ _ _ _ _ _ call_str_int rfl T.str bt_str (@pa_cons _ _ _ _ _ (pv 2) pa_nil se_name) (by decide) (by decide) (se_name) (by rfl))) (@pg_name _ _ (1) _ (by walk_at "o") rfl (Or.inl rfl) (by walk_at "n")) (by rfl) (by rfl) (by rfl))) (by intro _; rfl)) (@pss_cons _ _ _ _ _ (@ps_for _ _ _ _ _ _ _ _ PassesOwn.never rfl (@pi_seqK _ (K) _ _ _ (@pe_ix _ _ _ _ _ _ _ (ix_seqK (K := K)) (pv 0) pe_int (fun _ _ => rfl)) (by rfl)) (@pg_name _ _ (3) _ (by walk_at "o") rfl (Or.inl rfl) (by walk_at "n")) (@pss_cons _ _ _ _ _ (@ps_asg _ _ _ _ _ _ (@pe_op _ _ _ _ _ _ _ _ op_add_str (pv 1) pe_str) (@pg_name _ _ (1) _ (by walk_at "o") rfl (Or.inl rfl) (by walk_at "n")) (by rfl) (by rfl) (by rfl)) (@pss_one _ _ _ (@ps_for _ _ _ _ _ _ _ _ PassesOwn.never rfl (@pi_seqK _ (K) _ _ _ (pv 3) (by rfl)) (@pg_name _ _ (4) _ (by walk_at "o") rfl (Or.inl rfl) (by walk_at "n")) (@pss_one _ _ _ (@ps_asg _ _ _ _ _ _ (@pe_op _ _ _ _ _ _ _ _ op_add_str (@pe_op _ _ _ _ _ _ _ _ op_add_str (pv 1) pe_str) (@pe_callTy _ _ _ _ _ _ _ _ _ call_str_int rfl T.str bt_str (@pa_cons _ _ _ _ _ (pv 4) pa_nil se_name) (by decide) (by decide) (se_name) (by rfl))) (@pg_name _ _ (1) _ (by walk_at "o") rfl (Or.inl rfl) (by walk_at "n")) (by rfl) (by rfl) (by rfl))) (by intro _; rfl)))) (by intro _; rfl)) (@pss_one _ _ _ (@ps_ret _ _ _ _ (pv 1)))))), ?_⟩
    have le := pl.len
    have gp4 := g.p4
    have gw := g.w10
    have hs : sizeLine = 16777216 := rfl
    walk_at "rd"
    refine rd_forS ?_
    walk_at "rd"
    refine rd_ixT (SqT.of pl.tup) (atI_nat (j := 0) rfl) ?_
    refine ⟨p, rfl, .inl ⟨⟨_, SqL.of pl.hps⟩, forL (xs := ps.map V.int) (fun i σ H1 => ∃ v2, σ = [some (.ref tp), some (.str (addNs ("people" : Str) (ps.take i))), v2, none, none] ∧ H1 = H ∧ (addNs ("people" : Str) (ps.take i)).length ≤ 10 + 2001 * i) ⟨none, rfl, rfl, by show ("people" : Str).length ≤ 10; decide +kernel⟩
      (fun i σ H1 _ ⟨_, _, e, _⟩ => by rw [e]; exact SqL.of pl.hps) ?_ ?_⟩⟩
    · rintro i y σ H1 hy ⟨v2, rfl, rfl, lt⟩
      rw [List.getElem?_map] at hy
      obtain ⟨n, hn, rfl⟩ := Option.map_eq_some_iff.mp hy
      have hi : i < ps.length := (List.getElem?_eq_some_iff.mp hn).1
      have gn := g.pc n (List.mem_of_getElem? hn)
      have e := addN_len (n := n) lt (by omega) (by omega)
      have sm := str_small (i := n) (by omega) (by omega)
      walk_at "rd"
      refine ⟨_, _, rfl, rfl, by show _ + 1 ≤ sizeLine; omega, ?_⟩
      walk_at "rd"
      refine ⟨n, rfl, sm.1, ?_⟩
      refine ⟨_, _, rfl, rfl, by rw [e.2]; omega, ?_⟩
      walk_at "rd"
      rw [addNs_snoc hn]
      exact ⟨_, rfl, rfl, by have := e.1; omega⟩
    · rintro σ H1 ⟨v2, rfl, rfl, lt⟩
      rw [List.length_map, List.take_length] at lt ⊢
      walk_at "rd"
      refine rd_forS ?_
      walk_at "rd"
      refine rd_ixT (SqT.of pl.tup) (atI_nat (j := 1) rfl) ?_
      refine ⟨lw, rfl, .inl ⟨⟨_, SqL.of pl.hws⟩, forL (xs := xs) (fun i σ H2 => ∃ v2 v3 v4, σ = [some (.ref tp), some (.str (addWs (addNs ("people" : Str) ps) (ws.take i))), v2, v3, v4] ∧ H2 = H1 ∧ (addWs (addNs ("people" : Str) ps) (ws.take i)).length ≤ 9000 + 9000 * i) ⟨_, _, _, rfl, rfl, by show (addNs ("people" : Str) ps).length ≤ _; omega⟩
        (fun i σ H2 _ ⟨_, _, _, _, e, _⟩ => by rw [e]; exact SqL.of pl.hws) ?_ ?_⟩⟩
      · rintro i y σ H2 hy ⟨v2, v3, v4, rfl, rfl, lt2⟩
        obtain ⟨dd, hdd, hy'⟩ := pl.den.get hy
        rw [List.getElem?_map] at hdd
        obtain ⟨wy, hwy, rfl⟩ := Option.map_eq_some_iff.mp hdd
        obtain ⟨b, rfl, hb⟩ := den_wy hy'
        have hi : i < ws.length := (List.getElem?_eq_some_iff.mp hwy).1
        have gwy := g.wg wy (List.mem_of_getElem? hwy)
        have e0 : (addWs (addNs ("people" : Str) ps) (ws.take i) ++ ("\nway" : Str)).length = (addWs (addNs ("people" : Str) ps) (ws.take i)).length + 4 := strLen_append _ _
        have small : ∀ n ∈ wyL wy, -1000000 ≤ n ∧ n ≤ 1000000 := by
          obtain ⟨g1, g2, g3, g4, g5⟩ := gwy
          intro n hn
          simp only [wyL, List.mem_cons, List.not_mem_nil, or_false] at hn
          rcases hn with rfl | rfl | rfl | rfl <;> omega
        walk_at "rd"
        refine ⟨_, _, rfl, rfl, by show _ + 4 ≤ sizeLine; omega, ?_⟩
        walk_at "rd"
        refine rd_forS ?_
        walk_at "rd"
        generalize eacc : addWs (addNs ("people" : Str) ps) (ws.take i) ++ ("\nway" : Str) = acc at e0
        refine ⟨b, rfl, .inr ⟨⟨_, SqT.of hb⟩, forT (xs := (wyL wy).map V.int) (fun j σ H3 => ∃ v4, σ = [some (.ref tp), some (.str (addNs acc ((wyL wy).take j))), v2, some (.ref b), v4] ∧ H3 = H2 ∧ (addNs acc ((wyL wy).take j)).length ≤ acc.length + 2001 * j) ⟨_, rfl, rfl, Nat.le_refl _⟩
          (fun j σ H3 _ ⟨_, _, e, _⟩ => by rw [e]; exact SqT.of hb) ?_ ?_⟩⟩
        · rintro j y σ H3 hy2 ⟨v4, rfl, rfl, lt3⟩
          rw [List.getElem?_map] at hy2
          obtain ⟨n, hn, rfl⟩ := Option.map_eq_some_iff.mp hy2
          have hj : j < 4 := (List.getElem?_eq_some_iff.mp hn).1
          have gn := small n (List.mem_of_getElem? hn)
          have e := addN_len (n := n) lt3 gn.1 gn.2
          have sm := str_small gn.1 gn.2
          walk_at "rd"
          refine ⟨_, _, rfl, rfl, by show _ + 1 ≤ sizeLine; omega, ?_⟩
          walk_at "rd"
          refine ⟨n, rfl, sm.1, ?_⟩
          refine ⟨_, _, rfl, rfl, by rw [e.2]; omega, ?_⟩
          walk_at "rd"
          rw [addNs_snoc hn]
          exact ⟨_, rfl, rfl, by have := e.1; omega⟩
        · rintro σ H3 ⟨v4, rfl, rfl, lt3⟩
          rw [List.length_map, List.take_length] at lt3 ⊢
          walk_at "rd"
          have l4 : (wyL wy).length = 4 := rfl
          rw [addWs_snoc hwy]
          unfold addW
          rw [eacc]
          exact ⟨_, _, _, rfl, rfl, by omega⟩
      · rintro σ H2 ⟨v2, v3, v4, rfl, rfl, lt2⟩
        rw [le, List.take_length]
        walk_at "rd"
        exact q
end
section
theorem signs_app (a b : Str) : (a ++ b).cps.toList = a.cps.toList ++ b.cps.toList := by rw [Str.cps_append, Array.toList_append]
theorem str_ext {a b : Str} (h : a.cps.toList = b.cps.toList) : a = b := Str.ext' (Array.toList_inj.mp h)
theorem cut_unique {c : Nat} : ∀ {a b x y : List Nat}, c ∉ a → c ∉ b → (x = [] ∨ x.head? = some c) → (y = [] ∨ y.head? = some c) → a ++ x = b ++ y → a = b ∧ x = y
  | [], [], x, y, _, _, _, _, e => ⟨rfl, e⟩
  | [], d :: b, x, y, _, hb, hx, _, e => by
    exfalso
    rcases hx with hx | hx
    · rw [hx] at e
      cases e
    · rw [List.nil_append] at e
      rw [e, List.cons_append, List.head?_cons] at hx
      exact hb (by rw [Option.some.inj hx]; exact List.mem_cons_self)
  | d :: a, [], x, y, ha, _, _, hy, e => by
    exfalso
    rcases hy with hy | hy
    · rw [hy] at e
      cases e
    · rw [List.nil_append] at e
      rw [← e, List.cons_append, List.head?_cons] at hy
      exact ha (by rw [Option.some.inj hy]; exact List.mem_cons_self)
  | d :: a, d' :: b, x, y, ha, hb, hx, hy, e => by
    have e1 := List.cons.inj e
    have r := cut_unique (fun h => ha (List.mem_cons_of_mem _ h)) (fun h => hb (List.mem_cons_of_mem _ h)) hx hy e1.2
    exact ⟨by rw [e1.1, r.1], r.2⟩
noncomputable def tailJ (c : Nat) : List Str → List Nat
  | [] => []
  | p :: r => c :: (Str.join ⟨#[c]⟩ (p :: r)).cps.toList
theorem join_signs (c : Nat) (p : Str) (r : List Str) : (Str.join ⟨#[c]⟩ (p :: r)).cps.toList = p.cps.toList ++ tailJ c r := by
  cases r with
  | nil => show p.cps.toList = p.cps.toList ++ []; rw [List.append_nil]
  | cons q r =>
    show (p ++ ⟨#[c]⟩ ++ Str.join ⟨#[c]⟩ (q :: r)).cps.toList = _
    rw [signs_app, signs_app, List.append_assoc]
    rfl
theorem tailJ_head (c : Nat) (r : List Str) : tailJ c r = [] ∨ (tailJ c r).head? = some c := by
  cases r with
  | nil => exact .inl rfl
  | cons p r => exact .inr rfl
theorem join_unique {c : Nat} : ∀ {ps qs : List Str}, (∀ p ∈ ps, c ∉ p.cps.toList) → (∀ p ∈ qs, c ∉ p.cps.toList) → tailJ c ps = tailJ c qs → ps = qs
  | [], [], _, _, _ => rfl
  | [], q :: qs, _, _, e => by cases e
  | p :: ps, [], _, _, e => by cases e
  | p :: ps, q :: qs, hp, hq, e => by
    have e1 := (List.cons.inj e).2
    rw [join_signs, join_signs] at e1
    have r := cut_unique (hp p List.mem_cons_self) (hq q List.mem_cons_self) (tailJ_head c ps) (tailJ_head c qs) e1
    rw [str_ext r.1, join_unique (fun z hz => hp z (List.mem_cons_of_mem _ hz)) (fun z hz => hq z (List.mem_cons_of_mem _ hz)) r.2]
theorem split_of {c : Nat} {p : Str} {r : List Str} (h : ∀ z ∈ p :: r, c ∉ z.cps.toList) : Txt.split (Str.join ⟨#[c]⟩ (p :: r)) ⟨#[c]⟩ = p :: r := by
  refine join_unique (c := c) (StrLaws.split_free _ c) h ?_
  have l1 := split_pos (Str.join ⟨#[c]⟩ (p :: r)) ⟨#[c]⟩
  have e := StrLaws.join_split (Str.join ⟨#[c]⟩ (p :: r)) ⟨#[c]⟩
  cases hs : Txt.split (Str.join ⟨#[c]⟩ (p :: r)) ⟨#[c]⟩ with
  | nil => rw [hs] at l1; exact absurd l1 (by simp)
  | cons q qs =>
    rw [hs] at e
    show c :: _ = c :: _
    rw [e]
theorem join_app (sep a b : Str) (r : List Str) : Str.join sep ((a ++ b) :: r) = a ++ Str.join sep (b :: r) := by
  cases r with
  | nil => rfl
  | cons q r =>
    show a ++ b ++ sep ++ _ = a ++ (b ++ sep ++ _)
    rw [Str.append_assoc, Str.append_assoc, Str.append_assoc]
noncomputable def numT (n : Int) : Str := ((toString n : String) : Str)
theorem numT_signs {n : Int} (h0 : 0 ≤ n) (h1 : n ≤ 9) : (numT n).cps.toList = [48 + n.toNat] := by
  obtain ⟨m, rfl⟩ := Int.eq_ofNat_of_zero_le h0
  have e : (numT (m : Nat)).cps.toList = (Nat.toDigits 10 m).map Char.toNat := PySem.W.KIN.signs_num m
  have hm : m < 10 := by omega
  rw [e, Nat.toDigits_of_lt_base hm, Int.toNat_natCast]
  exact (by decide : ∀ m, m < 10 → [Nat.digitChar m].map Char.toNat = [48 + m]) m hm
theorem numT_len {n : Int} (h0 : 0 ≤ n) (h1 : n ≤ 9) : (numT n).length = 1 := by
  have e := congrArg List.length (numT_signs h0 h1)
  simpa [Str.length] using e
theorem numT_reads {n : Int} (h0 : 0 ≤ n) (h1 : n ≤ 9) : PySem.intText? (numT n) = some n := PySem.W.KIN.num_reads h0 (by omega)
theorem addNs_join : ∀ (ns : List Int) (acc : Str), addNs acc ns = Str.join (" " : Str) (acc :: ns.map numT)
  | [], acc => rfl
  | n :: r, acc => by
    show addNs (addN acc n) r = acc ++ (" " : Str) ++ Str.join (" " : Str) (numT n :: r.map numT)
    rw [addNs_join r, ← join_app]
    rfl
theorem addNs_app (a b : Str) (ns : List Int) : addNs (a ++ b) ns = a ++ addNs b ns := by rw [addNs_join, addNs_join, join_app]
noncomputable def lineW (x : Wy) : Str := addNs ("way" : Str) (wyL x)
theorem addWs_join : ∀ (ws : List Wy) (acc : Str), addWs acc ws = Str.join ("\n" : Str) (acc :: ws.map lineW)
  | [], acc => rfl
  | x :: r, acc => by
    show addWs (addW acc x) r = acc ++ ("\n" : Str) ++ Str.join ("\n" : Str) (lineW x :: r.map lineW)
    have e : addW acc x = (acc ++ ("\n" : Str)) ++ lineW x := by
      have e2 : ("\nway" : Str) = ("\n" : Str) ++ ("way" : Str) := by decide +kernel
      show addNs (acc ++ ("\nway" : Str)) (wyL x) = _
      rw [e2, ← Str.append_assoc, addNs_app]
      rfl
    rw [addWs_join r, ← join_app, e]
theorem shownT_join (ps : List Int) (ws : List Wy) : shownT ps ws = Str.join ("\n" : Str) (addNs ("people" : Str) ps :: ws.map lineW) := addWs_join ws _
theorem blank_is : ((" " : String) : Str) = ⟨#[32]⟩ := by decide +kernel
theorem nl_is : (("\n" : String) : Str) = ⟨#[10]⟩ := by decide +kernel
noncomputable def Digs (ns : List Int) : Prop := ∀ n ∈ ns, 0 ≤ n ∧ n ≤ 9
theorem words_of {wd : Str} {ns : List Int} (hw : 32 ∉ wd.cps.toList) (hn : Digs ns) : Txt.split (addNs wd ns) (" " : Str) = wd :: ns.map numT := by
  rw [addNs_join, blank_is]
  refine split_of fun z hz => ?_
  rcases List.mem_cons.mp hz with rfl | hz
  · exact hw
  · obtain ⟨n, hm, rfl⟩ := List.mem_map.mp hz
    have g := hn n hm
    rw [numT_signs g.1 g.2, List.mem_singleton]
    omega
theorem addNs_signs {c : Nat} (hc : c < 48 ∧ c ≠ 32) : ∀ (ns : List Int) (wd : Str), c ∉ wd.cps.toList → Digs ns → c ∉ (addNs wd ns).cps.toList
  | [], wd, hw, _ => hw
  | n :: r, wd, hw, hn => by
    have g := hn n List.mem_cons_self
    refine addNs_signs hc r (addN wd n) ?_ fun z hz => hn z (List.mem_cons_of_mem _ hz)
    show c ∉ (wd ++ (" " : Str) ++ numT n).cps.toList
    rw [signs_app, signs_app, numT_signs g.1 g.2, blank_is, List.mem_append, List.mem_append]
    rintro ((h | h) | h)
    · exact hw h
    · have : c = 32 := by simpa using h
      omega
    · have : c = 48 + n.toNat := by simpa using h
      omega
theorem addNs_len : ∀ (ns : List Int) (wd : Str), Digs ns → (addNs wd ns).length = wd.length + 2 * ns.length
  | [], wd, _ => rfl
  | n :: r, wd, hn => by
    have g := hn n List.mem_cons_self
    have e := addNs_len r (addN wd n) fun z hz => hn z (List.mem_cons_of_mem _ hz)
    have e2 : (addN wd n).length = wd.length + 1 + 1 := by
      show (wd ++ (" " : Str) ++ numT n).length = _
      rw [Str.length_append, Str.length_append, numT_len g.1 g.2]
      rfl
    show (addNs (addN wd n) r).length = _
    rw [e, e2, List.length_cons]
    omega
theorem wyL_digs {r : Int} {x : Wy} (hr : r ≤ 9) (h : GoodW r x) : Digs (wyL x) := by
  intro n hn
  have h1 := h.1
  have h2 := h.2.1
  have h3 := h.2.2.2.1
  have h4 := h.2.2.2.2
  simp only [wyL, List.mem_cons, List.not_mem_nil, or_false] at hn
  rcases hn with rfl | rfl | rfl | rfl <;> omega
theorem people_free : 32 ∉ ("people" : Str).cps.toList ∧ 10 ∉ ("people" : Str).cps.toList ∧ 32 ∉ ("way" : Str).cps.toList ∧ 10 ∉ ("way" : Str).cps.toList := by decide +kernel
theorem lines_of {ps : List Int} {ws : List Wy} (g : Good ps ws) : Txt.split (shownT ps ws) ("\n" : Str) = addNs ("people" : Str) ps :: ws.map lineW := by
  have gp4 := g.p4
  rw [shownT_join, nl_is]
  refine split_of fun z hz => ?_
  rcases List.mem_cons.mp hz with rfl | hz
  · exact addNs_signs (by omega) ps _ people_free.2.1 fun n hn => g.pc n hn
  · obtain ⟨x, hx, rfl⟩ := List.mem_map.mp hz
    exact addNs_signs (by omega) _ _ people_free.2.2.2 (wyL_digs (r := ps.length) (by omega) (g.wg x hx))
noncomputable def readAll : List Str → Option (List Int)
  | [] => some []
  | w :: r => match PySem.intText? w, readAll r with
    | some n, some ns => some (n :: ns)
    | _, _ => none
theorem readAll_nums : ∀ (ns : List Int), Digs ns → readAll (ns.map numT) = some ns
  | [], _ => rfl
  | n :: r, h => by
    have g := h n List.mem_cons_self
    show (match PySem.intText? (numT n), readAll (r.map numT) with | some n, some ns => some (n :: ns) | _, _ => none) = _
    rw [numT_reads g.1 g.2, readAll_nums r fun z hz => h z (List.mem_cons_of_mem _ hz)]
noncomputable def rowOf (line : Str) : Option (List Int) := readAll (Txt.split line (" " : Str)).tail
theorem rowOf_line {wd : Str} {ns : List Int} (hw : 32 ∉ wd.cps.toList) (hn : Digs ns) : rowOf (addNs wd ns) = some ns := by
  unfold rowOf
  rw [words_of hw hn]
  exact readAll_nums ns hn
theorem line_lens {ps : List Int} {ws : List Wy} (g : Good ps ws) : ∀ y ∈ addNs ("people" : Str) ps :: ws.map lineW, y.length ≤ 40 := by
  have gp4 := g.p4
  intro y hy
  rcases List.mem_cons.mp hy with rfl | hy
  · rw [addNs_len _ _ fun n hn => g.pc n hn]
    have : ("people" : Str).length = 6 := by decide +kernel
    omega
  · obtain ⟨x, hm, rfl⟩ := List.mem_map.mp hy
    unfold lineW
    rw [addNs_len _ _ (wyL_digs (r := ps.length) (by omega) (g.wg x hm))]
    show ("way" : Str).length + 2 * 4 ≤ 40
    decide +kernel
theorem shown_len {ps : List Int} {ws : List Wy} (g : Good ps ws) : (shownT ps ws).length ≤ 500 := by
  have gw := g.w10
  have h := StrLaws.join_length_le ("\n" : Str) (addNs ("people" : Str) ps :: ws.map lineW)
  rw [← shownT_join] at h
  have b := StrLaws.sumLen_le (B := 40) (addNs ("people" : Str) ps :: ws.map lineW) (line_lens g)
  rw [List.length_cons, List.length_map] at h b
  have : ("\n" : Str).length = 1 := by decide +kernel
  rw [this] at h
  omega
theorem rows_of {ps : List Int} {ws : List Wy} (g : Good ps ws) : ∀ (i : Nat) (x : Str), (addNs ("people" : Str) ps :: ws.map lineW)[i]? = some x → ∃ r, (ps :: ws.map wyL)[i]? = some r ∧ rowOf x = some r := by
  have gp4 := g.p4
  intro i x hx
  cases i with
  | zero =>
    cases Option.some.inj hx
    exact ⟨ps, rfl, rowOf_line people_free.1 fun n hn => g.pc n hn⟩
  | succ i =>
    rw [List.getElem?_cons_succ, List.getElem?_map] at hx
    obtain ⟨w, hw, rfl⟩ := Option.map_eq_some_iff.mp hx
    refine ⟨wyL w, by rw [List.getElem?_cons_succ, List.getElem?_map, hw]; rfl, rowOf_line people_free.2.2.1 (wyL_digs (r := ps.length) (by omega) (g.wg w (List.mem_of_getElem? hw)))⟩
theorem ne_of_none' {H : Hp} {a b : Addr} {o : HO} (h : H b = some o) (h' : H a = none) : a ≠ b := fun e => by rw [e, h] at h'; cases h'
end
section
theorem one_sign {x : Str} (h : x.length = 1) : ∃ c, x = ⟨#[c]⟩ := by
  have hl : x.cps.toList.length = 1 := by
    have e : x.length = x.cps.toList.length := by simp [Str.length]
    omega
  match e : x.cps.toList, hl with
  | [c], _ => exact ⟨c, str_ext e⟩
theorem numT_is {m : Nat} (h : m < 10) : numT (m : Nat) = ⟨#[48 + m]⟩ := str_ext (by rw [numT_signs (by omega) (by omega)]; rfl)
theorem dig_yes : ∀ m, m < 10 → (Builtin.Str.occurrences ("0123456789" : Str) ⟨#[48 + m]⟩ 0 ("0123456789" : Str).length 1).head? = some m := by decide +kernel
theorem dig_len : ("0123456789" : Str).length = 10 := by decide +kernel
theorem dig_signs : ∀ (i c : Nat), ("0123456789" : Str).cps.toList[i]? = some c → 48 ≤ c ∧ c < 58 := by
  intro i c h
  have hm := List.mem_of_getElem? h
  have e : ∀ c ∈ ("0123456789" : Str).cps.toList, 48 ≤ c ∧ c < 58 := by decide +kernel
  exact e c hm
theorem dig_word {x : Str} (h : x.length = 1) : (∃ m : Nat, m < 10 ∧ x = numT (m : Nat) ∧ Txt.contains ("0123456789" : Str) x = true ∧ ∃ rest, Builtin.Str.occurrences ("0123456789" : Str) x 0 ("0123456789" : Str).length 1 = m :: rest) ∨
    (Txt.contains ("0123456789" : Str) x = false ∧ ∀ n : Int, 0 ≤ n → n ≤ 9 → x ≠ numT n) := by
  obtain ⟨c, rfl⟩ := one_sign h
  by_cases hc : 48 ≤ c ∧ c < 58
  · refine .inl ⟨c - 48, by omega, ?_, ?_⟩
    · have ec : 48 + (c - 48) = c := by omega
      rw [numT_is (by omega), ec]
    · have e := dig_yes (c - 48) (by omega)
      have ec : 48 + (c - 48) = c := by omega
      rw [ec] at e
      unfold Txt.contains
      cases ho : Builtin.Str.occurrences ("0123456789" : Str) ⟨#[c]⟩ 0 ("0123456789" : Str).length 1 with
      | nil => rw [ho] at e; cases e
      | cons a r =>
        rw [ho] at e
        cases (Option.some.inj e)
        exact ⟨rfl, r, rfl⟩
  · refine .inr ⟨?_, fun n h0 h1 e => ?_⟩
    · refine Bool.eq_false_iff.mpr fun z => hc ?_
      obtain ⟨i, _, hs⟩ := (StrLaws.found_iff ("0123456789" : Str) ⟨#[c]⟩).mp z
      rw [StrLaws.subAt_eq] at hs
      exact dig_signs i c (StrLaws.take1_drop.mp hs)
    · have e2 := congrArg (fun z : Str => z.cps.toList) e
      rw [show (numT n).cps.toList = _ from numT_signs h0 h1] at e2
      have e3 : [c] = [48 + n.toNat] := e2
      have e4 := List.cons.inj e3
      omega
noncomputable def Asc (x : Str) : Prop := ∀ c ∈ x.cps.toList, c < 128
theorem Asc.app {a b : Str} (ha : Asc a) (hb : Asc b) : Asc (a ++ b) := fun c hc => by
  rw [signs_app] at hc
  exact (List.mem_append.mp hc).elim (ha c) (hb c)
theorem Asc.join {sep : Str} (hs : Asc sep) : ∀ {l : List Str}, (∀ x ∈ l, Asc x) → Asc (Str.join sep l)
  | [], _ => fun c hc => by
    have : c ∈ ([] : List Nat) := hc
    cases this
  | [x], h => h x List.mem_cons_self
  | x :: y :: r, h => by
    show Asc (x ++ sep ++ Str.join sep (y :: r))
    exact ((h x List.mem_cons_self).app hs).app (Asc.join hs fun z hz => h z (List.mem_cons_of_mem _ hz))
theorem sub_join {sep x : Str} : ∀ {l : List Str}, x ∈ l → ∀ c ∈ x.cps.toList, c ∈ (Str.join sep l).cps.toList
  | [], h, _, _ => by cases h
  | [y], h, c, hc => by
    rw [List.mem_singleton] at h
    subst h
    exact hc
  | y :: z :: r, h, c, hc => by
    show c ∈ (y ++ sep ++ Str.join sep (z :: r)).cps.toList
    rw [signs_app, signs_app]
    rcases List.mem_cons.mp h with rfl | h
    · exact List.mem_append_left _ (List.mem_append_left _ hc)
    · exact List.mem_append_right _ (sub_join h c hc)
theorem Asc.parts {x sep y : Str} {l : List Str} (h : Asc x) (e : Str.join sep l = x) (hy : y ∈ l) : Asc y := fun c hc => h c (e ▸ sub_join hy c hc)
theorem Asc.split {x sep y : Str} (h : Asc x) (hy : y ∈ Txt.split x sep) : Asc y := h.parts (StrLaws.join_split x sep) hy
theorem Asc.replace {x y z : Str} (h : Asc x) (hz : Asc z) : Asc (Txt.replace x y z) := by
  unfold Txt.replace
  split
  · exact h
  · rw [StrLaws.glued_eq_join]
    have e := StrLaws.glued_between_self x y (x.length + 1)
    rw [StrLaws.glued_eq_join] at e
    exact Asc.join hz fun p hp => h.parts e hp
theorem replace_len (x y z : Str) : (Txt.replace x y z).length ≤ x.length + (x.length + 1) * z.length := by
  unfold Txt.replace
  split
  · omega
  · have h1 := StrLaws.occ_length_le x y 0 x.length (x.length + 1)
    have hy : (Builtin.Str.glued y (Builtin.Str.partsBetween x (Builtin.Str.occurrences x y 0 x.length (x.length + 1)) y.length)).length = x.length := by rw [StrLaws.glued_between_self]
    rw [size_glued, length_partsBetween, Nat.add_sub_cancel] at hy
    rw [size_glued, length_partsBetween, Nat.add_sub_cancel]
    have h2 : (Builtin.Str.occurrences x y 0 x.length (x.length + 1)).length * z.length ≤ (x.length + 1) * z.length := Nat.mul_le_mul_right _ h1
    omega
theorem Asc.repr {x : Str} (h : Asc x) (hl : x.length ≤ 640) : (reprText x).length ≤ sizeLine := by
  have e := StrLaws.reprText_len x fun c hc => Nat.lt_trans (h c hc) (by decide)
  have : sizeLine = 16777216 := rfl
  omega
theorem numT_asc {n : Int} (h0 : 0 ≤ n) (h1 : n ≤ 9) : Asc (numT n) := fun c hc => by
  rw [numT_signs h0 h1, List.mem_singleton] at hc
  omega
theorem addNs_asc : ∀ {ns : List Int} {x : Str}, Asc x → Digs ns → Asc (addNs x ns)
  | [], _, hx, _ => hx
  | n :: r, x, hx, hn => by
    have g := hn n List.mem_cons_self
    have b : Asc (" " : Str) := by unfold Asc; decide +kernel
    exact addNs_asc (ns := r) (x := addN x n) ((hx.app b).app (numT_asc g.1 g.2)) fun z hz => hn z (List.mem_cons_of_mem _ hz)
theorem shown_asc {ps : List Int} {ws : List Wy} (g : Good ps ws) : Asc (shownT ps ws) := by
  have gp4 := g.p4
  rw [shownT_join]
  refine Asc.join (by unfold Asc; decide +kernel) fun z hz => ?_
  rcases List.mem_cons.mp hz with rfl | hz
  · exact addNs_asc (by unfold Asc; decide +kernel) fun n hn => g.pc n hn
  · obtain ⟨x, hx, rfl⟩ := List.mem_map.mp hz
    exact addNs_asc (by unfold Asc; decide +kernel) (wyL_digs (r := ps.length) (by omega) (g.wg x hx))
noncomputable def LineIs (name line : Str) (ns : List Int) : Prop := Digs ns ∧ line = addNs name ns
theorem LineIs.words {name line : Str} {ns : List Int} (hn : 32 ∉ name.cps.toList) (h : LineIs name line ns) : Txt.split line (" " : Str) = name :: ns.map numT := by
  rw [h.2]
  exact words_of hn h.1
theorem LineIs.mk {name line : Str} {ns : List Int} (hd : Digs ns) (h : Txt.split line (" " : Str) = name :: ns.map numT) : LineIs name line ns :=
  ⟨hd, by rw [addNs_join, ← h]; exact (StrLaws.join_split line _).symm⟩
noncomputable def IsText (T : Str) (ps : List Int) (ws : List Wy) : Prop := Good ps ws ∧ T = shownT ps ws
theorem IsText.lines {T : Str} {ps : List Int} {ws : List Wy} (h : IsText T ps ws) : Txt.split T ("\n" : Str) = addNs ("people" : Str) ps :: ws.map lineW := by
  rw [h.2]
  exact lines_of h.1
theorem IsText.mk {T : Str} {ps : List Int} {ws : List Wy} (g : Good ps ws) (h : Txt.split T ("\n" : Str) = addNs ("people" : Str) ps :: ws.map lineW) : IsText T ps ws :=
  ⟨g, by rw [shownT_join, ← h]; exact (StrLaws.join_split T _).symm⟩
theorem wyL_inj {a b : Wy} (h : wyL a = wyL b) : a = b := by
  obtain ⟨a1, a2, a3, a4⟩ := a
  obtain ⟨b1, b2, b3, b4⟩ := b
  simp only [wyL, List.cons.injEq, and_true] at h
  obtain ⟨h1, h2, h3, h4⟩ := h
  subst h1 h2 h3 h4
  rfl
theorem wyLs_inj : ∀ {a b : List Wy}, a.map wyL = b.map wyL → a = b
  | [], [], _ => rfl
  | [], _ :: _, h => by cases h
  | _ :: _, [], h => by cases h
  | x :: a, y :: b, h => by
    have e := List.cons.inj h
    rw [wyL_inj e.1, wyLs_inj e.2]
theorem IsText.rows {T : Str} {ps : List Int} {ws : List Wy} {lines : List Str} {rows : List (List Int)} (h : IsText T ps ws) (e : Txt.split T ("\n" : Str) = lines) (hl : rows.length = lines.length)
    (hat : ∀ (i : Nat) (x : Str) (r : List Int), lines[i]? = some x → rows[i]? = some r → rowOf x = some r) : rows = ps :: ws.map wyL := by
  have e2 : lines = addNs ("people" : Str) ps :: ws.map lineW := e.symm.trans h.lines
  have ro := rows_of h.1
  rw [← e2] at ro
  have l2 : (ps :: ws.map wyL).length = lines.length := by rw [e2]; simp
  refine List.ext_getElem? fun i => ?_
  by_cases hi : i < lines.length
  · obtain ⟨r, h1, h2⟩ := ro i lines[i] (List.getElem?_eq_getElem hi)
    have h3 : rows[i]? = some rows[i] := List.getElem?_eq_getElem (by omega)
    have h4 := hat i lines[i] rows[i] (List.getElem?_eq_getElem hi) h3
    rw [h3, h1, ← h4, h2]
  · rw [List.getElem?_eq_none (by omega), List.getElem?_eq_none (by omega)]
theorem IsText.reads {T x : Str} {ps : List Int} {ws : List Wy} (h : IsText T ps ws) (hx : x ∈ Txt.split T ("\n" : Str)) : rowOf x ≠ none := by
  rw [h.lines] at hx
  obtain ⟨i, hi⟩ := List.getElem?_of_mem hx
  obtain ⟨r, _, h2⟩ := rows_of h.1 i x hi
  rw [h2]
  exact Option.some_ne_none _
theorem text_one {T : Str} {ps qs : List Int} {ws us : List Wy} (h1 : IsText T ps ws) (h2 : IsText T qs us) : ps = qs ∧ ws = us := by
  have e := h2.rows (rows := ps :: ws.map wyL) h1.lines (by simp) fun i x r hx hr => by
    obtain ⟨r', e1, e2⟩ := rows_of h1.1 i x hx
    rw [hr] at e1
    rw [Option.some.inj e1]
    exact e2
  have e1 := List.cons.inj e
  exact ⟨e1.1, wyLs_inj e1.2⟩
theorem readAll_none {x : Str} : ∀ {l : List Str}, x ∈ l → PySem.intText? x = none → readAll l = none
  | [], h, _ => by cases h
  | y :: r, h, e => by
    show (match PySem.intText? y, readAll r with | some n, some ns => some (n :: ns) | _, _ => none) = none
    rcases List.mem_cons.mp h with rfl | h
    · rw [e]
    · rw [readAll_none h e]
      cases PySem.intText? y <;> rfl
theorem readAll_some : ∀ {l : List Str}, (∀ x ∈ l, PySem.intText? x ≠ none) → ∃ ns, readAll l = some ns
  | [], _ => ⟨[], rfl⟩
  | y :: r, h => by
    obtain ⟨ns, e⟩ := readAll_some fun x hx => h x (List.mem_cons_of_mem _ hx)
    cases e1 : PySem.intText? y with
    | none => exact absurd e1 (h y List.mem_cons_self)
    | some n =>
      refine ⟨n :: ns, ?_⟩
      show (match PySem.intText? y, readAll r with | some n, some ns => some (n :: ns) | _, _ => none) = _
      rw [e1, e]
end
section
variable {P : Program} {w : World} {K : PySem.W.Frag} {mg : Str → Option Value} {base : Heap} {ec : Ec}
theorem kit_ss (K : PySem.W.Frag) : PySem.W.kitOne K (.type "str") (.type "str") = some true := by kernel_rfl
structure ClI (K : PySem.W.Frag) (C : Addr) : Prop where
  ha : PySem.W.findIn K (.ref C) "__class__" = some (some (.builtin "object.__class__"))
  hn : PySem.W.specialIn K (.builtin "object.__class__") "__get__" = some (some (.builtin "getset_descriptor.__get__"))
  htk : PySem.W.takesIn K (.builtin "object.__class__") = some true
  hm : PySem.W.mroIn K C (.type "object") = some true
theorem kit_self (C : Addr) : PySem.W.kitOne K (.ref C) (.ref C) = some true := by
  unfold PySem.W.kitOne
  rw [if_pos (beq_self_eq_true _)]
noncomputable def spShown (C : Addr) : Sp := fun vs H Q _ => ∃ (x : Addr) (ps : List Int) (ws : List Wy), vs = [.ref x] ∧ HouseAt C H x ps ws ∧ Good ps ws ∧ ∀ H', Same H H' → Q (.str (shownT ps ws)) H'
theorem lists_of {x : Addr} {C : Addr} {H : Hp} {ps : List Int} {ws : List Wy} (h : HouseAt C H x ps ws) : ∃ dx c t, H x = some (.ins C dx (flds c t)) := by
  obtain ⟨dx, c, t, xs, h1, _⟩ := h.ex
  exact ⟨dx, c, t, h1⟩
end
section
variable {P : Program} {w : World} {K : PySem.W.Frag} {mg : Str → Option Value} {base : Heap} {ec : Ec}
noncomputable def spLineOf : Sp := fun vs H Q _ => ∃ (wd : Str) (p : Addr) (ns : List Int), vs = [.str wd, .ref p] ∧ (H p = some (.lst (ns.map V.int)) ∨ H p = some (.tup (ns.map V.int))) ∧ ns.length ≤ 10 ∧ Digs ns ∧ wd.length ≤ 10 ∧
  ∀ H', Same H H' → Q (.str (addNs wd ns)) H'
theorem sc_lineof : FnScope ["word", "numbers"] ["word", "numbers"] (defScope (top 24)) := ⟨rfl, rfl, rfl, by decide +kernel, rfl, by decide +kernel, by decide +kernel⟩
theorem take_map_snoc {α β : Type} {f : α → β} {xs : List α} {i : Nat} {x : α} (h : xs[i]? = some x) : (xs.take (i + 1)).map f = (xs.take i).map f ++ [f x] := by
  rw [List.take_add_one, h, List.map_append]
  rfl
theorem ok_lineof {f : Addr} {fd : FuncData} (F : Fun K "line_of" "line_of" (top 24) f fd) (T : Txt K mg) : FnOk P w K mg base CX0 1 f fd ["word", "numbers"] spLineOf := by
  refine F.ok sc_lineof (fun vs H Q E h => ?_) (fun cdv A outer s H vs Q E hr h => ?_)
  · obtain ⟨wd, p, ns, rfl, _⟩ := h
    rfl
  · obtain ⟨wd, p, ns, rfl, hp, ln, hn, lw, q⟩ := h
    refine ⟨_, (@pss_one _ _ _ (@ps_ret _ _ _ _ (@pe_bm _ _ _ _ _ _ _ _ _ _ _ _ PySem.F.plainAttrs_str PySem.F.slot_str_join PySem.F.type_str_join mt_join pe_str (@pa_cons _ _ _ _ _ (@pe_op _ _ _ _ _ _ _ _ op_addU (@pe_lst _ _ _ _ (@pa_cons _ _ _ _ _ (pv 0) pa_nil se_name)) (@pe_comp _ _ (["number"]) ([none]) _ _ _ _ _ _ _ _ _ rfl (@pi_seqK _ (K) _ _ _ (pv 1) (by rfl)) (by kernel_rfl) (fun _ _ _ _ _ => (@pg_name _ _ (0) _ (by walk_at "o") rfl (Or.inl rfl) (by walk_at "n"))) (fun _ _ _ _ _ => pifs_nil) (fun _ _ _ _ _ => (@pe_callTy _ _ _ _ _ _ _ _ _ call_str_int rfl T.str bt_str (@pa_cons _ _ _ _ _ (pv 0) pa_nil se_name) (by decide) (by decide) (se_name) (by rfl))) (by intro _; rfl))) pa_nil se_binop) (by rfl) (by rfl) (by rfl) (by rfl) (by rfl)))), ?_⟩
    have hz : sizeLine = 16777216 := rfl
    walk_at "rd"
    refine ⟨rfl, ?_⟩
    walk_at "rd"
    refine ⟨by show 1 ≤ sizeLine; decide, fun a1 ha1 => ?_⟩
    have s1 : Same H (L2.upd H a1 (.lst [.str wd])) := same_upd ha1
    have k1 : L2.upd H a1 (.lst [.str wd]) a1 = some (.lst [.str wd]) := upd_same
    generalize L2.upd H a1 (.lst [.str wd]) = H1 at s1 k1
    have fin : ∀ (c : Addr), H1 c = none → ∀ H2, H2 = L2.upd H1 c (.lst ((ns.map numT).map V.str)) → ∀ a3, H2 a3 = none →
        rJoin (.str (" " : Str)) [.ref a3] (L2.upd H2 a3 (.lst ([.str wd] ++ (ns.map numT).map V.str))) Q := by
      rintro c hc H2 rfl a3 ha3
      refine ⟨_, a3, wd :: ns.map numT, rfl, rfl, upd_same, by decide +kernel, ?_, ?_⟩
      · have b := StrLaws.sumLen_le (B := 10) (wd :: ns.map numT) fun y hy => by
          rcases List.mem_cons.mp hy with rfl | hy
          · exact lw
          · obtain ⟨n, hm, rfl⟩ := List.mem_map.mp hy
            rw [numT_len (hn n hm).1 (hn n hm).2]
            decide
        rw [List.length_cons, List.length_map] at b
        rw [List.length_cons, List.length_map]
        omega
      · rw [← addNs_join]
        exact q _ (s1.trans ((same_upd hc).trans (same_upd ha3)))
    walk_at "rd"
    refine rd_compS ?_
    walk_at "rd"
    rcases hp with hp | hp
    · refine ⟨p, rfl, .inl ⟨⟨_, SqL.of (s1 _ _ hp)⟩, fun c hc => ?_⟩⟩
      refine compL (xs := ns.map V.int) (fun i ys σc H2 => ∃ v, σc = [v] ∧ ys = ((ns.take i).map numT).map V.str ∧ H2 = L2.upd H1 c (.lst ys)) (by rw [List.length_map]; omega) ⟨none, rfl, rfl, rfl⟩ ?_ ?_ ?_
      · rintro i ys σc H2 hi ⟨v, rfl, rfl, rfl⟩
        exact ⟨upd_same, by rw [List.length_map, List.length_map, List.length_take]; exact Nat.min_le_left _ _, SqL.of (same_upd hc _ _ (s1 _ _ hp))⟩
      · rintro i y ys σc H2 hy ⟨v, rfl, rfl, rfl⟩
        rw [List.getElem?_map] at hy
        obtain ⟨n, hni, rfl⟩ := Option.map_eq_some_iff.mp hy
        have g := hn n (List.mem_of_getElem? hni)
        have sm := str_small (i := n) (by omega) (by omega)
        walk_at "rd"
        refine ⟨n, rfl, sm.1, ?_⟩
        refine ⟨upd_same, _, rfl, ?_, upd_upd⟩
        rw [take_map_snoc hni, List.map_append]
        rfl
      · rintro ys σc H2 ⟨v, rfl, rfl, rfl⟩
        rw [List.length_map, List.take_length]
        refine .inr ⟨a1, c, _, _, rfl, rfl, same_upd hc _ _ k1, upd_same, by rw [List.length_map, List.length_map]; show 1 + _ ≤ 16777216; omega, fun a3 ha3 => ?_⟩
        walk_at "rd"
        exact fin c hc _ rfl a3 ha3
    · refine ⟨p, rfl, .inr ⟨⟨_, SqT.of (s1 _ _ hp)⟩, fun c hc => ?_⟩⟩
      refine compT (xs := ns.map V.int) (fun i ys σc H2 => ∃ v, σc = [v] ∧ ys = ((ns.take i).map numT).map V.str ∧ H2 = L2.upd H1 c (.lst ys)) (by rw [List.length_map]; omega) ⟨none, rfl, rfl, rfl⟩ ?_ ?_ ?_
      · rintro i ys σc H2 hi ⟨v, rfl, rfl, rfl⟩
        exact ⟨upd_same, by rw [List.length_map, List.length_map, List.length_take]; exact Nat.min_le_left _ _, SqT.of (same_upd hc _ _ (s1 _ _ hp))⟩
      · rintro i y ys σc H2 hy ⟨v, rfl, rfl, rfl⟩
        rw [List.getElem?_map] at hy
        obtain ⟨n, hni, rfl⟩ := Option.map_eq_some_iff.mp hy
        have g := hn n (List.mem_of_getElem? hni)
        have sm := str_small (i := n) (by omega) (by omega)
        walk_at "rd"
        refine ⟨n, rfl, sm.1, ?_⟩
        refine ⟨upd_same, _, rfl, ?_, upd_upd⟩
        rw [take_map_snoc hni, List.map_append]
        rfl
      · rintro ys σc H2 ⟨v, rfl, rfl, rfl⟩
        rw [List.length_map, List.take_length]
        refine .inr ⟨a1, c, _, _, rfl, rfl, same_upd hc _ _ k1, upd_same, by rw [List.length_map, List.length_map]; show 1 + _ ≤ 16777216; omega, fun a3 ha3 => ?_⟩
        walk_at "rd"
        exact fin c hc _ rfl a3 ha3
theorem sc_shown : FnScope ["house", "lines"] ["house"] (defScope (top 23)) := ⟨rfl, rfl, rfl, by decide +kernel, rfl, by decide +kernel, by decide +kernel⟩
theorem lineW_len {r : Int} {x : Wy} (hr : r ≤ 9) (h : GoodW r x) : (lineW x).length ≤ 40 := by
  unfold lineW
  rw [addNs_len _ _ (wyL_digs hr h)]
  show ("way" : Str).length + 2 * 4 ≤ 40
  decide +kernel
theorem ok_shown {C f : Addr} {fd : FuncData} (F : Fun K "shown" "shown" (top 23) f fd) (T : Txt K mg) (c_line_of : Callee P w K mg base CX0 1 "line_of" ["word", "numbers"] spLineOf)
    (c_House_people : CalleeM P w K mg base CX0 1 C "people" ["self"] (spPeople C)) (c_House_ways : CalleeM P w K mg base CX0 1 C "ways" ["self"] (spWays C)) : FnOk P w K mg base CX0 4 f fd ["house"] (spShown C) := by
  refine F.ok sc_shown (fun vs H Q E h => ?_) (fun cdv A outer s H vs Q E hr h => ?_)
  · obtain ⟨x, ps, ws, rfl, _⟩ := h
    rfl
  · obtain ⟨x, ps, ws, rfl, hx, g, q⟩ := h
    refine ⟨_, (@pss_cons _ _ _ _ _ (@ps_asg _ _ _ _ _ _ (@pe_lst _ _ _ _ (@pa_cons _ _ _ _ _ (@pe_callC _ _ _ _ _ _ _ _ _ _ _ _ c_line_of (hr.mono (by decide)) pass0 rfl (@pa_cons _ _ _ _ _ pe_str (@pa_cons _ _ _ _ _ (@pe_methC _ _ _ _ _ _ _ _ _ _ _ _ _ c_House_people (hr.mono (by decide)) pass0 (pv 0) (by rfl)) pa_nil se_call) se_const) (by decide) (se_const) (by rfl)) pa_nil se_call)) (@pg_name _ _ (1) _ (by walk_at "o") rfl (Or.inl rfl) (by walk_at "n")) (by rfl) (by rfl) (by rfl)) (@pss_cons _ _ _ _ _ (@ps_expr _ _ _ _ (@pe_bm _ _ _ _ _ _ _ _ _ _ _ _ PySem.F.plainAttrs_list PySem.F.slot_list_extend PySem.F.type_list_extend mt_extend (pv 1) (@pa_cons _ _ _ _ _ (@pe_comp _ _ (["way"]) ([none]) _ _ _ _ _ _ _ _ _ rfl (@pi_seqK _ (K) _ _ _ (@pe_methC _ _ _ _ _ _ _ _ _ _ _ _ _ c_House_ways (hr.mono (by decide)) pass0 (pv 0) (by rfl)) (by rfl)) (by kernel_rfl) (fun _ _ _ _ _ => (@pg_name _ _ (0) _ (by walk_at "o") rfl (Or.inl rfl) (by walk_at "n"))) (fun _ _ _ _ _ => pifs_nil) (fun _ _ _ _ _ => (@pe_callC _ _ _ _ _ _ _ _ _ _ _ _ c_line_of (hr.mono (by decide)) pass0 rfl (@pa_cons _ _ _ _ _ pe_str (@pa_cons _ _ _ _ _ (pv 0) pa_nil se_name) se_const) (by decide) (se_const) (by rfl))) (by intro _; rfl)) pa_nil se_comp) (by rfl) (by rfl) (by rfl) (by rfl) (by rfl)) (by rfl)) (@pss_one _ _ _ (@ps_ret _ _ _ _ (@pe_bm _ _ _ _ _ _ _ _ _ _ _ _ PySem.F.plainAttrs_str PySem.F.slot_str_join PySem.F.type_str_join mt_join pe_str (@pa_cons _ _ _ _ _ (pv 1) pa_nil se_name) (by rfl) (by rfl) (by rfl) (by rfl) (by rfl)))))), ?_⟩
    have hz : sizeLine = 16777216 := rfl
    have gp4 := g.p4
    have gw := g.w10
    obtain ⟨dx, c0, t0, xs0, hx0, _⟩ := hx.ex
    walk_at "rd"
    refine ⟨x, dx, _, rfl, hx0, flds_no _ _ (by decide +kernel) (by decide +kernel), x, ps, ws, rfl, hx, fun l hl => ?_⟩
    have s1 : Same H (L2.upd H l (.lst (ps.map V.int))) := same_upd hl
    have k1 : L2.upd H l (.lst (ps.map V.int)) l = some (.lst (ps.map V.int)) := upd_same
    generalize L2.upd H l (.lst (ps.map V.int)) = H1 at s1 k1
    walk_at "rd"
    refine ⟨_, l, ps, rfl, .inl k1, by omega, fun n hn => g.pc n hn, by decide +kernel, fun H2 s2 => ?_⟩
    walk_at "rd"
    refine ⟨by show 1 ≤ sizeLine; decide, fun a1 ha1 => ?_⟩
    have s3 : Same H (L2.upd H2 a1 (.lst [.str (addNs ("people" : Str) ps)])) := (s1.trans s2).trans (same_upd ha1)
    have k3 : L2.upd H2 a1 (.lst [.str (addNs ("people" : Str) ps)]) a1 = some (.lst [.str (addNs ("people" : Str) ps)]) := upd_same
    have f3 : H a1 = none := (s1.trans s2).free ha1
    generalize L2.upd H2 a1 (.lst [.str (addNs ("people" : Str) ps)]) = H3 at s3 k3
    have hx3 := hx.same s3
    obtain ⟨dx, c0, t0, xs0, hx30, _⟩ := hx3.ex
    walk_at "rd"
    refine ⟨.inl ⟨rfl, _, SqL.of k3⟩, ?_⟩
    walk_at "rd"
    refine rd_compS ?_
    walk_at "rd"
    refine ⟨x, dx, _, rfl, hx30, flds_no _ _ (by decide +kernel) (by decide +kernel), x, ps, ws, rfl, hx3, fun lw xs hlw den => ?_⟩
    have s4 : Same H3 (L2.upd H3 lw (.lst xs)) := same_upd hlw
    have k4 : L2.upd H3 lw (.lst xs) lw = some (.lst xs) := upd_same
    have den4 := den.same s4
    generalize L2.upd H3 lw (.lst xs) = H4 at s4 k4 den4
    have le := den4.length
    rw [List.length_map] at le
    refine ⟨lw, rfl, .inl ⟨⟨_, SqL.of k4⟩, fun c hc => ?_⟩⟩
    refine compL (xs := xs) (fun i ys σc H5 => ∃ v, σc = [v] ∧ ys = ((ws.take i).map lineW).map V.str ∧ Same H4 H5 ∧ H5 c = some (.lst ys)) (by omega) ⟨none, rfl, rfl, same_upd hc, upd_same⟩ ?_ ?_ ?_
    · rintro i ys σc H5 hi ⟨v, rfl, rfl, s5, k5⟩
      exact ⟨k5, by rw [List.length_map, List.length_map, List.length_take]; exact Nat.min_le_left _ _, SqL.of (s5 _ _ k4)⟩
    · rintro i y ys σc H5 hy ⟨v, rfl, rfl, s5, k5⟩
      obtain ⟨dd, hdd, hy'⟩ := (den4.same s5).get hy
      rw [List.getElem?_map] at hdd
      obtain ⟨wy, hwy, rfl⟩ := Option.map_eq_some_iff.mp hdd
      obtain ⟨b, rfl, hb⟩ := den_wy hy'
      have gwy := g.wg wy (List.mem_of_getElem? hwy)
      walk_at "rd"
      refine ⟨_, b, wyL wy, rfl, .inr hb, by show 4 ≤ 10; decide, wyL_digs (r := ps.length) (by omega) gwy, by decide +kernel, fun H6 s6 => ?_⟩
      walk_at "rd"
      refine ⟨s6 _ _ k5, _, rfl, ?_, same_to (s5.trans s6) hc, upd_same⟩
      rw [take_map_snoc hwy, List.map_append]
      rfl
    · rintro ys σc H5 ⟨v, rfl, rfl, s5, k5⟩
      rw [le, List.take_length] at k5
      walk_at "rd"
      have k35 := s5 _ _ (s4 _ _ k3)
      refine ⟨a1, c, _, _, rfl, rfl, k35, k5, by rw [List.length_map, List.length_map]; show 1 + _ ≤ 16777216; omega, ?_⟩
      walk_at "rd"
      refine ⟨rfl, ?_⟩
      walk_at "rd"
      refine ⟨_, a1, addNs ("people" : Str) ps :: ws.map lineW, rfl, rfl, upd_same, by decide +kernel, ?_, ?_⟩
      · have b := StrLaws.sumLen_le (B := 40) (addNs ("people" : Str) ps :: ws.map lineW) fun y hy => by
          rcases List.mem_cons.mp hy with rfl | hy
          · rw [addNs_len _ _ fun n hn => g.pc n hn]
            have : ("people" : Str).length = 6 := by decide +kernel
            omega
          · obtain ⟨x, hm, rfl⟩ := List.mem_map.mp hy
            exact lineW_len (r := ps.length) (by omega) (g.wg x hm)
        rw [List.length_cons, List.length_map] at b
        rw [List.length_cons, List.length_map]
        omega
      · rw [← shownT_join]
        exact q _ (same_to ((s3.trans s4).trans s5) f3)
end
section
variable {P : Program} {w : World} {K : PySem.W.Frag} {mg : Str → Option Value} {base : Heap} {ec : Ec}
noncomputable def GoodP (ps : List Int) : Prop := 1 ≤ ps.length ∧ ps.length ≤ 4 ∧ ∀ c ∈ ps, 0 ≤ c ∧ c ≤ 9
noncomputable def GoodWs (r : Int) (ws : List Wy) : Prop := ws.length ≤ 10 ∧ ∀ w ∈ ws, GoodW r w
structure TupsAt (H : Hp) (xs : List V) (rows : List (List Int)) : Prop where
  len : xs.length = rows.length
  at_ : ∀ (i : Nat) (x : V), xs[i]? = some x → ∃ b r, x = .ref b ∧ rows[i]? = some r ∧ H b = some (.tup (r.map V.int))
theorem TupsAt.same {H H' : Hp} {xs : List V} {rows : List (List Int)} (h : TupsAt H xs rows) (s : Same H H') : TupsAt H' xs rows := ⟨h.len, fun i x hx => let ⟨b, r, e1, e2, e3⟩ := h.at_ i x hx; ⟨b, r, e1, e2, s _ _ e3⟩⟩
theorem TupsAt.tail {H : Hp} {x : V} {xs : List V} {r : List Int} {rows : List (List Int)} (h : TupsAt H (x :: xs) (r :: rows)) : TupsAt H xs rows := ⟨by have := h.len; simpa using this, fun i y hy => h.at_ (i + 1) y hy⟩
theorem TupsAt.den {H : Hp} : ∀ {xs : List V} {ws : List Wy}, TupsAt H xs (ws.map wyL) → DenAll H xs (ws.map wyD)
  | [], [], _ => .nil
  | [], _ :: _, h => by have := h.len; simp at this
  | _ :: _, [], h => by have := h.len; simp at this
  | x :: xs, y :: ws, h => by
    obtain ⟨b, r, rfl, e2, e3⟩ := h.at_ 0 x rfl
    cases Option.some.inj e2
    exact .cons (wy_den e3) (TupsAt.den h.tail)
theorem four {r : List Int} (h : r.length = 4) : ∃ w : Wy, r = wyL w := by
  match r, h with
  | [a, b, c, d], _ => exact ⟨⟨a, b, c, d⟩, rfl⟩
noncomputable def GoodRs (r : Int) (rows : List (List Int)) : Prop := ∃ ws : List Wy, rows = ws.map wyL ∧ GoodWs r ws
theorem rs_mem {r : Int} {rows : List (List Int)} {y : List Int} (h : GoodRs r rows) (hy : y ∈ rows) : ∃ w, y = wyL w ∧ GoodW r w := by
  obtain ⟨ws, rfl, g⟩ := h
  obtain ⟨w, hw, rfl⟩ := List.mem_map.mp hy
  exact ⟨w, rfl, g.2 w hw⟩
theorem rs_of {r : Int} : ∀ {rows : List (List Int)}, (∀ y ∈ rows, ∃ w, y = wyL w ∧ GoodW r w) → ∃ ws : List Wy, rows = ws.map wyL ∧ ∀ w ∈ ws, GoodW r w
  | [], _ => ⟨[], rfl, by simp⟩
  | y :: rows, h => by
    obtain ⟨w, rfl, g⟩ := h y List.mem_cons_self
    obtain ⟨ws, rfl, gs⟩ := rs_of (rows := rows) fun z hz => h z (List.mem_cons_of_mem _ hz)
    refine ⟨w :: ws, rfl, fun z hz => ?_⟩
    rcases List.mem_cons.mp hz with rfl | hz
    · exact g
    · exact gs z hz
theorem good_of {ps : List Int} {ws : List Wy} (h1 : GoodP ps) (h2 : GoodWs ps.length ws) : Good ps ws := ⟨h1.1, h1.2.1, h1.2.2, h2.1, h2.2⟩
theorem good_p {ps : List Int} {ws : List Wy} (h : Good ps ws) : GoodP ps := ⟨h.p1, h.p4, h.pc⟩
theorem good_w {ps : List Int} {ws : List Wy} (h : Good ps ws) : GoodWs ps.length ws := ⟨h.w10, h.wg⟩
noncomputable def spChkP (bh : Addr) : Sp := fun vs H Q E => ∃ (a : Addr) (ps : List Int), vs = [.ref a] ∧ H a = some (.lst (ps.map V.int)) ∧ ps.length ≤ 1000 ∧ (GoodP ps → ∀ H', Same H H' → Q .non H') ∧ (¬ GoodP ps → ∀ H', Same H H' → E (.ref bh) none H')
theorem sc_chkp : FnScope ["people", "room", "count"] ["people"] (defScope (top 19)) := ⟨rfl, rfl, rfl, by decide +kernel, rfl, by decide +kernel, by decide +kernel⟩
theorem ok_chkp {f : Addr} {fd : FuncData} (F : Fun K "check_people" "check_people" (top 19) f fd) (T : Txt K mg) (Z : TxtX K mg ec) (c_is_within : Callee P w K mg base CX0 2 "is_within" ["value", "least", "most"] spWithin) :
    FnOk P w K mg base (CXE P w) 3 f fd ["people"] (spChkP ec.bh) := by
  refine F.okE sc_chkp (fun vs H Q E h => ?_) (fun cdv A outer s H vs Q E hr h => ?_)
  · obtain ⟨a, ps, rfl, _⟩ := h
    rfl
  · obtain ⟨a, ps, rfl, ha, hlen, qg, qb⟩ := h
    have h00 : Str.empty.length ≤ 0 := by decide +kernel
    refine ⟨_, (@pss_cons _ _ _ _ _ (@ps_if _ _ _ _ _ _ _ _ (@PW.pt _ _ _ (@pw_or _ _ _ _ _ _ _ (@pt_not _ _ _ _ (@pt_val _ _ _ (@pe_callB _ _ _ _ _ _ _ _ _ (call_isiK (K := K)) rfl T.isi bt_isi (@pa_cons _ _ _ _ _ (pv 0) (@pa_cons _ _ _ _ _ (pe_tyN T.list bt_list rfl) pa_nil se_name) se_name) (by decide) (by decide) (se_name) (by rfl)) (by intro _; rfl))) (@pw_or1 _ _ _ _ (@pt_not _ _ _ _ (@pt_chain _ _ _ _ _ _ _ _ _ _ _ _ op_le op_le pe_int (@pe_callB _ _ _ _ _ _ _ _ _ (call_len_seqK (K := K)) rfl T.len PySem.boot_len (@pa_cons _ _ _ _ _ (pv 0) pa_nil se_name) (by decide) (by decide) (se_name) (by rfl)) (pe_globI T.g_MOST_ROOMS rfl) (by with_unfolding_all rfl)))))) (@pss_one _ _ _ (@ps_raise _ _ _ _ _ _ _ _ _ _ _ _ _ _ _ _ _ _ _ _ _ _ _ Z.k_BadHouse.ex Z.g_BadHouse rfl (@pa_cons _ _ _ _ _ (@pe_fstr _ _ _ _ _ _ (@pj_cons _ _ _ _ _ pe_str (@pj_cons _ _ _ _ _ (@pe_fmt _ _ _ _ (pe_globI T.g_MOST_ROOMS rfl)) (@pj_cons _ _ _ _ _ pe_str pj_nil)))) pa_nil se_fstr) (by rfl) (by rfl) (by decide))) pss_nil) (@pss_one _ _ _ (@ps_for _ _ _ _ _ _ _ _ ownE rfl (@pi_enum1 _ _ _ _ _ _ _ _ _ _ _ rfl T.enum (@pa_cons _ _ _ _ _ (pv 0) pa_nil se_name) (by rfl)) (@pg_tup _ _ _ _ _ _ rfl (@pgs_cons _ _ _ _ _ (@pg_name _ _ (1) _ (by walk_at "o") rfl (Or.inl rfl) (by walk_at "n")) (@pgs_cons _ _ _ _ _ (@pg_name _ _ (2) _ (by walk_at "o") rfl (Or.inl rfl) (by walk_at "n")) pgs_nil (by rfl)) (by rfl)) (by rfl) (by rfl)) (@pss_one _ _ _ (@ps_if _ _ _ _ _ _ _ _ (@pt_not _ _ _ _ (@pt_val _ _ _ (@pe_callC _ _ _ _ _ _ _ _ _ _ _ _ c_is_within (hr.mono (by decide)) pass0 rfl (@pa_cons _ _ _ _ _ (pv 2) (@pa_cons _ _ _ _ _ pe_int (@pa_cons _ _ _ _ _ (pe_globI T.g_MOST_PEOPLE rfl) pa_nil se_name) se_const) se_name) (by decide) (se_name) (by rfl)) (by intro _; rfl))) (@pss_one _ _ _ (@ps_raise _ _ _ _ _ _ _ _ _ _ _ _ _ _ _ _ _ _ _ _ _ _ _ Z.k_BadHouse.ex Z.g_BadHouse rfl (@pa_cons _ _ _ _ _ (@pe_fstr _ _ _ _ _ _ (@pj_cons _ _ _ _ _ pe_str (@pj_cons _ _ _ _ _ (@pe_fmt _ _ _ _ (pv 1)) (@pj_cons _ _ _ _ _ pe_str (@pj_cons _ _ _ _ _ (@pe_fmt _ _ _ _ (pe_globI T.g_MOST_PEOPLE rfl)) (@pj_cons _ _ _ _ _ pe_str pj_nil)))))) pa_nil se_fstr) (by rfl) (by rfl) (by decide))) pss_nil)) (by intro _; rfl)))), ?_⟩
    walk_at "rd"
    refine ⟨_, _, _, _, _, rfl, rfl, .lst ha, kit_ll K, ?_⟩
    walk_at "rd"
    refine ⟨a, _, rfl, .inl (SqL.of ha), ?_⟩
    rw [List.length_map]
    walk_at "rd"
    refine iteD (fun h1 => ?_) (fun h1 => ?_)
    · walk_at "rd"
      refine iteDN (fun h4 => ?_) (fun h4 => ?_)
      · walk_at "rd"
        walk_at "fs"
        walk_at "rd"
        exact ⟨by show 1 ≤ sizeLine; decide, qb (fun z => h4 (by have := z.2.1; omega)) _ (Same.refl H)⟩
      · walk_at "rd"
        refine rd_forE ?_
        walk_at "rd"
        refine ⟨a, rfl, ⟨_, SqL.of ha⟩, for_enum (xs := ps.map V.int) (fun i σ H2 => ∃ v1 v2, σ = [some (.ref a), v1, v2] ∧ Same H H2 ∧ ∀ c ∈ ps.take i, 0 ≤ c ∧ c ≤ 9) ⟨_, _, rfl, Same.refl H, by simp⟩ (fun i σ H2 _ ⟨_, _, _, s2, _⟩ => SqL.of (s2 _ _ ha)) ?_ ?_⟩
        · rintro i x t σ H2 hx ⟨v1, v2, rfl, s2, al⟩ ht
          rw [List.getElem?_map] at hx
          obtain ⟨c, hc, rfl⟩ := Option.map_eq_some_iff.mp hx
          have hm : c ∈ ps := List.mem_of_getElem? hc
          have hi : i < ps.length := (List.getElem?_eq_some_iff.mp hc).1
          refine rd_pair (i := 1) (j := 2) upd_same ?_
          walk_at "rd"
          refine ⟨c, 0, 9, rfl, ?_⟩
          walk_at "rd"
          refine iteDN (fun z => ?_) (fun z => ?_)
          · walk_at "rd"
            walk_at "fs"
            walk_at "rd"
            exact ⟨by show 1 ≤ sizeLine; decide, qb (fun y => z (y.2.2 c hm)) _ (same_to s2 (s2.free ht))⟩
          · walk_at "rd"
            refine ⟨_, _, rfl, same_to s2 (s2.free ht), fun d hd => ?_⟩
            rw [List.take_add_one, List.mem_append] at hd
            rcases hd with hd | hd
            · exact al d hd
            · rw [hc] at hd
              have : d = c := by simpa using hd
              subst this
              exact z
        · rintro σ H2 ⟨v1, v2, rfl, s2, al⟩
          rw [List.length_map, List.take_length] at al
          exact qg ⟨by omega, by omega, al⟩ H2 s2
    · walk_at "rd"
      walk_at "fs"
      walk_at "rd"
      exact ⟨by show 1 ≤ sizeLine; decide, qb (fun z => h1 (by have := z.1; omega)) _ (Same.refl H)⟩
noncomputable def spChkE (bh : Addr) : Sp := fun vs H Q E => ∃ n s e r : Int, vs = [.int n, .int s, .int e, .int r] ∧ (0 ≤ n ∧ n ≤ 1000) ∧ ((1 ≤ s ∧ s ≤ r) ∧ (0 ≤ e ∧ e ≤ r) ∧ s ≠ e → Q .non H) ∧ (¬ ((1 ≤ s ∧ s ≤ r) ∧ (0 ≤ e ∧ e ≤ r) ∧ s ≠ e) → E (.ref bh) none H)
theorem sc_chke : FnScope ["number", "start", "end", "rooms"] ["number", "start", "end", "rooms"] (defScope (top 21)) := ⟨rfl, rfl, rfl, by decide +kernel, rfl, by decide +kernel, by decide +kernel⟩
theorem ok_chke {f : Addr} {fd : FuncData} (F : Fun K "check_ends" "check_ends" (top 21) f fd) (T : Txt K mg) (Z : TxtX K mg ec) (c_is_within : Callee P w K mg base CX0 2 "is_within" ["value", "least", "most"] spWithin) :
    FnOk P w K mg base (CXE P w) 3 f fd ["number", "start", "end", "rooms"] (spChkE ec.bh) := by
  refine F.okE sc_chke (fun vs H Q E h => ?_) (fun cdv A outer st H vs Q E hr h => ?_)
  · obtain ⟨n, s, e, r, rfl, _⟩ := h
    rfl
  · obtain ⟨n, s, e, r, rfl, ⟨hn0, hn1⟩, qg, qb⟩ := h
    have h00 : Str.empty.length ≤ 0 := by decide +kernel
    refine ⟨_, (@pss_cons _ _ _ _ _ (@ps_if _ _ _ _ _ _ _ _ (@pt_not _ _ _ _ (@pt_val _ _ _ (@pe_callC _ _ _ _ _ _ _ _ _ _ _ _ c_is_within (hr.mono (by decide)) pass0 rfl (@pa_cons _ _ _ _ _ (pv 1) (@pa_cons _ _ _ _ _ pe_int (@pa_cons _ _ _ _ _ (pv 3) pa_nil se_name) se_const) se_name) (by decide) (se_name) (by rfl)) (by intro _; rfl))) (@pss_one _ _ _ (@ps_raise _ _ _ _ _ _ _ _ _ _ _ _ _ _ _ _ _ _ _ _ _ _ _ Z.k_BadHouse.ex Z.g_BadHouse rfl (@pa_cons _ _ _ _ _ (@pe_fstr _ _ _ _ _ _ (@pj_cons _ _ _ _ _ pe_str (@pj_cons _ _ _ _ _ (@pe_fmt _ _ _ _ (pv 0)) (@pj_cons _ _ _ _ _ pe_str pj_nil)))) pa_nil se_fstr) (by rfl) (by rfl) (by decide))) pss_nil) (@pss_cons _ _ _ _ _ (@ps_if _ _ _ _ _ _ _ _ (@pt_not _ _ _ _ (@pt_val _ _ _ (@pe_callC _ _ _ _ _ _ _ _ _ _ _ _ c_is_within (hr.mono (by decide)) pass0 rfl (@pa_cons _ _ _ _ _ (pv 2) (@pa_cons _ _ _ _ _ (pe_globI T.g_OUTSIDE rfl) (@pa_cons _ _ _ _ _ (pv 3) pa_nil se_name) se_name) se_name) (by decide) (se_name) (by rfl)) (by intro _; rfl))) (@pss_one _ _ _ (@ps_raise _ _ _ _ _ _ _ _ _ _ _ _ _ _ _ _ _ _ _ _ _ _ _ Z.k_BadHouse.ex Z.g_BadHouse rfl (@pa_cons _ _ _ _ _ (@pe_fstr _ _ _ _ _ _ (@pj_cons _ _ _ _ _ pe_str (@pj_cons _ _ _ _ _ (@pe_fmt _ _ _ _ (pv 0)) (@pj_cons _ _ _ _ _ pe_str pj_nil)))) pa_nil se_fstr) (by rfl) (by rfl) (by decide))) pss_nil) (@pss_one _ _ _ (@ps_if _ _ _ _ _ _ _ _ (@pt_cmpR _ _ _ _ _ _ _ _ (op_eqU hr.units) (pv 1) (pv 2) (nomark _)) (@pss_one _ _ _ (@ps_raise _ _ _ _ _ _ _ _ _ _ _ _ _ _ _ _ _ _ _ _ _ _ _ Z.k_BadHouse.ex Z.g_BadHouse rfl (@pa_cons _ _ _ _ _ (@pe_fstr _ _ _ _ _ _ (@pj_cons _ _ _ _ _ pe_str (@pj_cons _ _ _ _ _ (@pe_fmt _ _ _ _ (pv 0)) (@pj_cons _ _ _ _ _ pe_str pj_nil)))) pa_nil se_fstr) (by rfl) (by rfl) (by decide))) pss_nil)))), ?_⟩
    walk_at "rd"
    refine ⟨s, 1, r, rfl, ?_⟩
    walk_at "rd"
    refine iteDN (fun z => ?_) (fun z1 => ?_)
    · walk_at "rd"
      walk_at "fs"
      walk_at "rd"
      exact ⟨by show 1 ≤ sizeLine; decide, qb fun y => z y.1⟩
    walk_at "rd"
    refine ⟨e, 0, r, rfl, ?_⟩
    walk_at "rd"
    refine iteDN (fun z => ?_) (fun z2 => ?_)
    · walk_at "rd"
      walk_at "fs"
      walk_at "rd"
      exact ⟨by show 1 ≤ sizeLine; decide, qb fun y => z y.2.1⟩
    walk_at "rd"
    refine iteD (fun z => ?_) (fun z3 => ?_)
    · walk_at "rd"
      walk_at "fs"
      walk_at "rd"
      exact ⟨by show 1 ≤ sizeLine; decide, qb fun y => y.2.2 z⟩
    walk_at "rd"
    exact qg ⟨z1, z2, z3⟩
noncomputable def spChkW (bh : Addr) : Sp := fun vs H Q E => ∃ (a : Addr) (xs : List V) (ws : List (List Int)) (r : Int), vs = [.ref a, .int r] ∧ H a = some (.lst xs) ∧ TupsAt H xs ws ∧ ws.length ≤ 1000 ∧ (GoodRs r ws → ∀ H', Same H H' → Q .non H') ∧ (¬ GoodRs r ws → ∀ H', Same H H' → E (.ref bh) none H')
theorem sc_chkw : FnScope ["ways", "rooms", "number", "way"] ["ways", "rooms"] (defScope (top 20)) := ⟨rfl, rfl, rfl, by decide +kernel, rfl, by decide +kernel, by decide +kernel⟩
theorem ok_chkw {f : Addr} {fd : FuncData} (F : Fun K "check_ways" "check_ways" (top 20) f fd) (T : Txt K mg) (Z : TxtX K mg ec) (c_is_within : Callee P w K mg base CX0 2 "is_within" ["value", "least", "most"] spWithin)
    (c_is_tuple_of : Callee P w K mg base CX0 1 "is_tuple_of" ["value", "size"] spTupOf) (c_check_ends : Callee P w K mg base (CXE P w) 3 "check_ends" ["number", "start", "end", "rooms"] (spChkE ec.bh)) : FnOk P w K mg base (CXE P w) 4 f fd ["ways", "rooms"] (spChkW ec.bh) := by
  refine F.okE sc_chkw (fun vs H Q E h => ?_) (fun cdv A outer st H vs Q E hr h => ?_)
  · obtain ⟨a, xs, ws, r, rfl, _⟩ := h
    rfl
  · obtain ⟨a, xs, ws, r, rfl, ha, d, hlen, qg, qb⟩ := h
    have h00 : Str.empty.length ≤ 0 := by decide +kernel
    refine ⟨_, (@pss_cons _ _ _ _ _ (@ps_if _ _ _ _ _ _ _ _ (@PW.pt _ _ _ (@pw_or _ _ _ _ _ _ _ (@pt_not _ _ _ _ (@pt_val _ _ _ (@pe_callB _ _ _ _ _ _ _ _ _ (call_isiK (K := K)) rfl T.isi bt_isi (@pa_cons _ _ _ _ _ (pv 0) (@pa_cons _ _ _ _ _ (pe_tyN T.list bt_list rfl) pa_nil se_name) se_name) (by decide) (by decide) (se_name) (by rfl)) (by intro _; rfl))) (@pw_or1 _ _ _ _ (@pt_cmpR _ _ _ _ _ _ _ _ op_gt (@pe_callB _ _ _ _ _ _ _ _ _ (call_len_seqK (K := K)) rfl T.len PySem.boot_len (@pa_cons _ _ _ _ _ (pv 0) pa_nil se_name) (by decide) (by decide) (se_name) (by rfl)) (pe_globI T.g_MOST_WAYS rfl) (nomark _))))) (@pss_one _ _ _ (@ps_raise _ _ _ _ _ _ _ _ _ _ _ _ _ _ _ _ _ _ _ _ _ _ _ Z.k_BadHouse.ex Z.g_BadHouse rfl (@pa_cons _ _ _ _ _ (@pe_fstr _ _ _ _ _ _ (@pj_cons _ _ _ _ _ pe_str (@pj_cons _ _ _ _ _ (@pe_fmt _ _ _ _ (pe_globI T.g_MOST_WAYS rfl)) (@pj_cons _ _ _ _ _ pe_str pj_nil)))) pa_nil se_fstr) (by rfl) (by rfl) (by decide))) pss_nil) (@pss_one _ _ _ (@ps_for _ _ _ _ _ _ _ _ ownE rfl (@pi_enum _ _ _ _ _ _ _ _ rfl T.enum (@pa_cons _ _ _ _ _ (pv 0) pa_nil se_name) (by rfl)) (@pg_tup _ _ _ _ _ _ rfl (@pgs_cons _ _ _ _ _ (@pg_name _ _ (2) _ (by walk_at "o") rfl (Or.inl rfl) (by walk_at "n")) (@pgs_cons _ _ _ _ _ (@pg_name _ _ (3) _ (by walk_at "o") rfl (Or.inl rfl) (by walk_at "n")) pgs_nil (by rfl)) (by rfl)) (by rfl) (by rfl)) (@pss_cons _ _ _ _ _ (@ps_if _ _ _ _ _ _ _ _ (@pt_not _ _ _ _ (@pt_val _ _ _ (@pe_callC _ _ _ _ _ _ _ _ _ _ _ _ c_is_tuple_of (hr.mono (by decide)) pass0 rfl (@pa_cons _ _ _ _ _ (pv 3) (@pa_cons _ _ _ _ _ pe_int pa_nil se_const) se_name) (by decide) (se_name) (by rfl)) (by intro _; rfl))) (@pss_one _ _ _ (@ps_raise _ _ _ _ _ _ _ _ _ _ _ _ _ _ _ _ _ _ _ _ _ _ _ Z.k_BadHouse.ex Z.g_BadHouse rfl (@pa_cons _ _ _ _ _ (@pe_fstr _ _ _ _ _ _ (@pj_cons _ _ _ _ _ pe_str (@pj_cons _ _ _ _ _ (@pe_fmt _ _ _ _ (pv 2)) (@pj_cons _ _ _ _ _ pe_str pj_nil)))) pa_nil se_fstr) (by rfl) (by rfl) (by decide))) pss_nil) (@pss_cons _ _ _ _ _ (@ps_expr _ _ _ _ (@pe_callC _ _ _ _ _ _ _ _ _ _ _ _ c_check_ends (hr.mono (by decide)) passE rfl (@pa_cons _ _ _ _ _ (pv 2) (@pa_cons _ _ _ _ _ (@pe_ix _ _ _ _ _ _ _ (ix_seqK (K := K)) (pv 3) pe_int (fun _ _ => rfl)) (@pa_cons _ _ _ _ _ (@pe_ix _ _ _ _ _ _ _ (ix_seqK (K := K)) (pv 3) pe_int (fun _ _ => rfl)) (@pa_cons _ _ _ _ _ (pv 1) pa_nil se_name) se_sub) se_sub) se_name) (by decide) (se_name) (by rfl)) (by rfl)) (@pss_cons _ _ _ _ _ (@ps_if _ _ _ _ _ _ _ _ (@pt_not _ _ _ _ (@pt_val _ _ _ (@pe_callC _ _ _ _ _ _ _ _ _ _ _ _ c_is_within (hr.mono (by decide)) pass0 rfl (@pa_cons _ _ _ _ _ (@pe_ix _ _ _ _ _ _ _ (ix_seqK (K := K)) (pv 3) pe_int (fun _ _ => rfl)) (@pa_cons _ _ _ _ _ pe_int (@pa_cons _ _ _ _ _ (pe_globI T.g_MOST_WIDE rfl) pa_nil se_name) se_const) se_sub) (by decide) (se_sub) (by rfl)) (by intro _; rfl))) (@pss_one _ _ _ (@ps_raise _ _ _ _ _ _ _ _ _ _ _ _ _ _ _ _ _ _ _ _ _ _ _ Z.k_BadHouse.ex Z.g_BadHouse rfl (@pa_cons _ _ _ _ _ (@pe_fstr _ _ _ _ _ _ (@pj_cons _ _ _ _ _ pe_str (@pj_cons _ _ _ _ _ (@pe_fmt _ _ _ _ (pv 2)) (@pj_cons _ _ _ _ _ pe_str (@pj_cons _ _ _ _ _ (@pe_fmt _ _ _ _ (pe_globI T.g_MOST_WIDE rfl)) pj_nil))))) pa_nil se_fstr) (by rfl) (by rfl) (by decide))) pss_nil) (@pss_one _ _ _ (@ps_if _ _ _ _ _ _ _ _ (@pt_not _ _ _ _ (@pt_val _ _ _ (@pe_callC _ _ _ _ _ _ _ _ _ _ _ _ c_is_within (hr.mono (by decide)) pass0 rfl (@pa_cons _ _ _ _ _ (@pe_ix _ _ _ _ _ _ _ (ix_seqK (K := K)) (pv 3) pe_int (fun _ _ => rfl)) (@pa_cons _ _ _ _ _ pe_int (@pa_cons _ _ _ _ _ (pe_globI T.g_MOST_LONG rfl) pa_nil se_name) se_const) se_sub) (by decide) (se_sub) (by rfl)) (by intro _; rfl))) (@pss_one _ _ _ (@ps_raise _ _ _ _ _ _ _ _ _ _ _ _ _ _ _ _ _ _ _ _ _ _ _ Z.k_BadHouse.ex Z.g_BadHouse rfl (@pa_cons _ _ _ _ _ (@pe_fstr _ _ _ _ _ _ (@pj_cons _ _ _ _ _ pe_str (@pj_cons _ _ _ _ _ (@pe_fmt _ _ _ _ (pv 2)) (@pj_cons _ _ _ _ _ pe_str (@pj_cons _ _ _ _ _ (@pe_fmt _ _ _ _ (pe_globI T.g_MOST_LONG rfl)) pj_nil))))) pa_nil se_fstr) (by rfl) (by rfl) (by decide))) pss_nil))))) (by intro _; rfl)))), ?_⟩
    have le := d.len
    walk_at "rd"
    refine ⟨_, _, _, _, _, rfl, rfl, .lst ha, kit_ll K, ?_⟩
    walk_at "rd"
    refine ⟨a, _, rfl, .inl (SqL.of ha), ?_⟩
    walk_at "rd"
    refine iteD (fun z => ?_) (fun z0 => ?_)
    · walk_at "rd"
      walk_at "fs"
      walk_at "rd"
      exact ⟨by show 1 ≤ sizeLine; decide, qb (fun ⟨vs, e, y⟩ => by have h1 := y.1; rw [e, List.length_map] at le; omega) _ (Same.refl H)⟩
    walk_at "rd"
    refine rd_forE ?_
    walk_at "rd"
    refine ⟨a, rfl, ⟨_, SqL.of ha⟩, for_enum (xs := xs) (fun i σ H2 => ∃ v1 v2, σ = [some (.ref a), some (.int r), v1, v2] ∧ Same H H2 ∧ ∀ y ∈ ws.take i, ∃ w, y = wyL w ∧ GoodW r w) ⟨_, _, rfl, Same.refl H, by simp⟩ (fun i σ H2 _ ⟨_, _, _, s2, _⟩ => SqL.of (s2 _ _ ha)) ?_ ?_⟩
    · rintro i x t σ H2 hx ⟨v1, v2, rfl, s2, al⟩ ht
      obtain ⟨b, row, rfl, hwy, hb⟩ := d.at_ i x hx
      have hm : row ∈ ws := List.mem_of_getElem? hwy
      have hi : i < ws.length := (List.getElem?_eq_some_iff.mp hwy).1
      have hb2 : L2.upd H2 t (.tup [.int (0 + (i : Nat)), .ref b]) b = some (.tup (row.map V.int)) := by rw [upd_ne (ne_of_none (s2 _ _ hb) ht)]; exact s2 _ _ hb
      have s3 := same_to (o := .tup [.int (0 + (i : Nat)), .ref b]) s2 (s2.free ht)
      refine rd_pair (i := 2) (j := 3) upd_same ?_
      walk_at "rd"
      refine ⟨b, _, 4, rfl, hb2, ?_⟩
      walk_at "rd"
      refine iteDN (fun z => ?_) (fun z4 => ?_)
      · walk_at "rd"
        walk_at "fs"
        walk_at "rd"
        exact ⟨by show 1 ≤ sizeLine; decide, qb (fun y => by
          obtain ⟨w, e, _⟩ := rs_mem y hm
          rw [e] at z
          exact z rfl) _ s3⟩
      have l4 : row.length = 4 := by
        have := z4
        rw [List.length_map] at this
        omega
      obtain ⟨wy, rfl⟩ := four l4
      obtain ⟨i0, i1, i2, i3⟩ := atI_wy wy
      have inj : ∀ {g : GoodW r wy → Prop} {Pz : Prop}, (∀ y : GoodW r wy, Pz) → GoodRs r ws → Pz := fun k y => by
        obtain ⟨w, e, gw⟩ := rs_mem y hm
        rw [← wyL_inj e] at gw
        exact k gw
      walk_at "rd"
      refine rd_ixT (SqT.of hb2) i0 ?_
      walk_at "rd"
      refine rd_ixT (SqT.of hb2) i1 ?_
      walk_at "rd"
      refine ⟨_, wy.a, wy.b, r, rfl, by omega, fun g1 => ?_, fun g1 => qb (fun y => g1 (inj (g := fun _ => True) (fun y => ⟨y.1, y.2.1, y.2.2.1⟩) y)) _ s3⟩
      walk_at "rd"
      refine rd_ixT (SqT.of hb2) i2 ?_
      walk_at "rd"
      refine ⟨wy.c, 1, 9, rfl, ?_⟩
      walk_at "rd"
      refine iteDN (fun z => ?_) (fun g4 => ?_)
      · walk_at "rd"
        walk_at "fs"
        walk_at "rd"
        exact ⟨by show 1 ≤ sizeLine; decide, qb (fun y => z (inj (g := fun _ => True) (fun y => y.2.2.2.1) y)) _ s3⟩
      walk_at "rd"
      refine rd_ixT (SqT.of hb2) i3 ?_
      walk_at "rd"
      refine ⟨wy.d, 1, 6, rfl, ?_⟩
      walk_at "rd"
      refine iteDN (fun z => ?_) (fun g5 => ?_)
      · walk_at "rd"
        walk_at "fs"
        walk_at "rd"
        exact ⟨by show 1 ≤ sizeLine; decide, qb (fun y => z (inj (g := fun _ => True) (fun y => y.2.2.2.2) y)) _ s3⟩
      walk_at "rd"
      refine ⟨_, _, rfl, s3, fun d hd => ?_⟩
      rw [List.take_add_one, List.mem_append] at hd
      rcases hd with hd | hd
      · exact al d hd
      · rw [hwy] at hd
        have : d = wyL wy := by simpa using hd
        exact ⟨wy, this, g1.1, g1.2.1, g1.2.2, g4, g5⟩
    · rintro σ H2 ⟨v1, v2, rfl, s2, al⟩
      rw [le, List.take_length] at al
      obtain ⟨us, e, gs⟩ := rs_of al
      exact qg ⟨us, e, by rw [e, List.length_map] at le; omega, gs⟩ H2 s2
noncomputable def Kp (x : Addr) (H H' : Hp) : Prop := ∀ c o, H c = some o → c ≠ x → H' c = some o
noncomputable def spInit (C bh : Addr) : Sp := fun vs H Q E => ∃ (x dx a b : Addr) (ps : List Int) (xs : List V) (rows : List (List Int)), vs = [.ref x, .ref a, .ref b] ∧ H x = some (.ins C dx []) ∧ H a = some (.lst (ps.map V.int)) ∧ H b = some (.lst xs) ∧ TupsAt H xs rows ∧ ps.length ≤ 1000 ∧ rows.length ≤ 1000 ∧
  (∀ ws, rows = ws.map wyL → Good ps ws → ∀ H', Kp x H H' → HouseAt C H' x ps ws → Q .non H') ∧ ((¬ ∃ ws, rows = ws.map wyL ∧ Good ps ws) → ∀ H', Kp x H H' → E (.ref bh) none H')
theorem sc_init : FnScope ["self", "people", "ways"] ["self", "people", "ways"] (defScope (inClass (top 18) 0)) := ⟨rfl, rfl, rfl, by decide +kernel, rfl, by decide +kernel, by decide +kernel⟩
theorem ok_init {C f : Addr} {fd : FuncData} (F : Fun K "__init__" "House.__init__" (inClass (top 18) 0) f fd) (T : Txt K mg) (Z : TxtX K mg ec) (L : Cl K C) (c_check_people : Callee P w K mg base (CXE P w) 3 "check_people" ["people"] (spChkP ec.bh))
    (c_check_ways : Callee P w K mg base (CXE P w) 4 "check_ways" ["ways", "rooms"] (spChkW ec.bh)) : FnOk P w K mg base (CXE P w) 5 f fd ["self", "people", "ways"] (spInit C ec.bh) := by
  refine F.okE sc_init (fun vs H Q E h => ?_) (fun cdv A outer st H vs Q E hr h => ?_)
  · obtain ⟨x, dx, a, b, ps, xs, ws, rfl, _⟩ := h
    rfl
  · obtain ⟨x, dx, a, b, ps, xs, ws, rfl, hx, ha, hb, d, lp, lw, qg, qb⟩ := h
    refine ⟨_, (@pss_cons _ _ _ _ _ (@ps_expr _ _ _ _ (@pe_callC _ _ _ _ _ _ _ _ _ _ _ _ c_check_people (hr.mono (by decide)) passE rfl (@pa_cons _ _ _ _ _ (pv 1) pa_nil se_name) (by decide) (se_name) (by rfl)) (by rfl)) (@pss_cons _ _ _ _ _ (@ps_expr _ _ _ _ (@pe_callC _ _ _ _ _ _ _ _ _ _ _ _ c_check_ways (hr.mono (by decide)) passE rfl (@pa_cons _ _ _ _ _ (pv 2) (@pa_cons _ _ _ _ _ (@pe_callB _ _ _ _ _ _ _ _ _ (call_len_seqK (K := K)) rfl T.len PySem.boot_len (@pa_cons _ _ _ _ _ (pv 1) pa_nil se_name) (by decide) (by decide) (se_name) (by rfl)) pa_nil se_call) se_name) (by decide) (se_name) (by rfl)) (by rfl)) (@pss_cons _ _ _ _ _ (@ps_fld _ _ _ _ _ _ _ _ (pv 0) (@pe_callTy _ _ _ _ _ _ _ _ _ (call_tuple_ofK (K := K)) rfl T.tuple bt_tuple (@pa_cons _ _ _ _ _ (pv 1) pa_nil se_name) (by decide) (by decide) (se_name) (by rfl)) rfl) (@pss_one _ _ _ (@ps_fld _ _ _ _ _ _ _ _ (pv 0) (@pe_callTy _ _ _ _ _ _ _ _ _ (call_tuple_ofK (K := K)) rfl T.tuple bt_tuple (@pa_cons _ _ _ _ _ (pv 2) pa_nil se_name) (by decide) (by decide) (se_name) (by rfl)) rfl))))), ?_⟩
    walk_at "rd"
    refine ⟨a, ps, rfl, ha, lp, fun g1 H1 s1 => ?_, fun g1 H1 s1 => qb (fun ⟨_, _, y⟩ => g1 (good_p y)) H1 fun c o hc _ => s1 c o hc⟩
    walk_at "rd"
    refine ⟨a, _, rfl, .inl (SqL.of (s1 _ _ ha)), ?_⟩
    rw [List.length_map]
    walk_at "rd"
    refine ⟨b, xs, ws, _, rfl, s1 _ _ hb, d.same s1, lw, fun g2 H2 s2 => ?_, fun g2 H2 s2 => qb (fun ⟨vs, e, y⟩ => g2 ⟨vs, e, good_w y⟩) H2 fun c o hc _ => s2 c o (s1 c o hc)⟩
    have s3 := s1.trans s2
    obtain ⟨us, rfl, g2⟩ := g2
    have den := d.den
    walk_at "rd"
    refine ⟨a, _, rfl, .inl ⟨SqL.of (s3 _ _ ha), fun c hc => ?_⟩⟩
    have xc : x ≠ c := ne_of_none (s3 _ _ hx) hc
    walk_at "rd"
    refine ⟨x, C, dx, [], rfl, (by rw [upd_ne xc]; exact s3 _ _ hx), L.cl, L.nc, (by show 0 < 1000; decide), ?_⟩
    walk_at "rd"
    have bx : b ≠ x := ne_of hb hx (by intro z; cases z)
    have k4 : ∀ e o, H e = some o → e ≠ x → L2.upd (L2.upd H2 c (.tup (ps.map V.int))) x (.ins C dx (putF "counts" (.ref c) [])) e = some o := fun e o he hne => by
      rw [upd_ne hne, upd_ne (ne_of_none (s3 _ _ he) hc)]
      exact s3 _ _ he
    refine ⟨b, xs, rfl, .inl ⟨SqL.of (k4 _ _ hb bx), fun t ht => ?_⟩⟩
    have xt : x ≠ t := ne_of_none upd_same ht
    have ct : c ≠ t := ne_of_none (by rw [upd_ne xc.symm, upd_same]) ht
    walk_at "rd"
    refine ⟨x, C, dx, _, rfl, (by rw [upd_ne xt, upd_same]), L.cl, L.nt, (by show 1 < 1000; decide), ?_⟩
    walk_at "rd"
    have k6 : ∀ e o, H e = some o → e ≠ x → L2.upd (L2.upd (L2.upd (L2.upd H2 c (.tup (ps.map V.int))) x (.ins C dx (putF "counts" (.ref c) []))) t (.tup xs)) x (.ins C dx (putF "passages" (.ref t) (putF "counts" (.ref c) []))) e = some o := fun e o he hne => by
      rw [upd_ne hne, upd_ne (ne_of_none (k4 _ _ he hne) ht)]
      exact k4 _ _ he hne
    refine qg us rfl (good_of g1 g2) _ k6 ⟨dx, c, t, xs, upd_same, ?_, ?_, wys_keep (fun e vs he => k6 _ _ he (ne_of he hx (by intro z; cases z))) den⟩
    · rw [upd_ne xc.symm, upd_ne ct, upd_ne xc.symm, upd_same]
    · rw [upd_ne xt.symm, upd_same]
end
section
variable {P : Program} {w : World} {K : PySem.W.Frag} {mg : Str → Option Value} {base : Heap} {ec : Ec}
structure SubN (K : PySem.W.Frag) (c : Ec) : Prop where
  he : PySem.W.subIn K (.ref c.nt) (.ref c.he) = some true
  bh : PySem.W.subIn K (.ref c.nt) (.ref c.bh) = some false
  nw : PySem.W.subIn K (.ref c.nt) (.ref c.nw) = some false
  bp : PySem.W.subIn K (.ref c.nt) (.ref c.bp) = some false
  ve : PySem.W.subIn K (.ref c.nt) (.type "ValueError") = some true
theorem kit_ve : PySem.W.kitMeta "ValueError" = true := by decide +kernel
theorem kit_no {C D : Addr} (k : ExcK K C) (kd : ExcK K D) (h : PySem.W.subIn K (.ref D) (.ref C) = some false) : PySem.W.kitOne K (.ref D) (.ref C) = some false := kitOne_ref k h fun e => by
  subst e
  rw [kd.se] at h
  cases h
theorem cnt1 : ([.bool false, .bool false, .bool false, .bool true] : List PyData).countP (fun z => PyData.eqv z (.bool true)) = 1 := by
  simp [PyData.eqv, List.countP_cons]
noncomputable def spAloneN (nw : Addr) : Sp := fun vs H Q _ => ∃ x : Addr, vs = [.ref x] ∧ H x = some (excO (.ref nw) x) ∧ ∀ H', Same H H' → Q (.int 3) H'
theorem sc_alone : FnScope ["e", "found"] ["e"] (defScope (top 37)) := ⟨rfl, rfl, rfl, by decide +kernel, rfl, by decide +kernel, by decide +kernel⟩
theorem ok_alone {f : Addr} {fd : FuncData} (F : Fun K "_law_alone" "_law_alone" (top 37) f fd) (T : Txt K mg) (Z : TxtX K mg ec) (B : SubN K ec) : FnOk P w K mg base CX0 1 f fd ["e"] (spAloneN ec.nt) := by
  refine F.ok sc_alone (fun vs H Q E h => ?_) (fun cdv A outer s H vs Q E hr h => ?_)
  · obtain ⟨x, rfl, _⟩ := h
    rfl
  · obtain ⟨x, rfl, hx, q⟩ := h
    refine ⟨_, (@pss_cons _ _ _ _ _ (@ps_asg _ _ _ _ _ _ (@pe_lst _ _ _ _ (@pa_cons _ _ _ _ _ (@pe_callB _ _ _ _ _ _ _ _ _ (call_isiEK (K := K)) rfl T.isi bt_isi (@pa_cons _ _ _ _ _ (pv 0) (@pa_cons _ _ _ _ _ (pe_clsN Z.g_BadHouse rfl) pa_nil se_name) se_name) (by decide) (by decide) (se_name) (by rfl)) (@pa_cons _ _ _ _ _ (@pe_callB _ _ _ _ _ _ _ _ _ (call_isiEK (K := K)) rfl T.isi bt_isi (@pa_cons _ _ _ _ _ (pv 0) (@pa_cons _ _ _ _ _ (pe_clsN Z.g_NoWalk rfl) pa_nil se_name) se_name) (by decide) (by decide) (se_name) (by rfl)) (@pa_cons _ _ _ _ _ (@pe_callB _ _ _ _ _ _ _ _ _ (call_isiEK (K := K)) rfl T.isi bt_isi (@pa_cons _ _ _ _ _ (pv 0) (@pa_cons _ _ _ _ _ (pe_clsN Z.g_BadPaper rfl) pa_nil se_name) se_name) (by decide) (by decide) (se_name) (by rfl)) (@pa_cons _ _ _ _ _ (@pe_callB _ _ _ _ _ _ _ _ _ (call_isiEK (K := K)) rfl T.isi bt_isi (@pa_cons _ _ _ _ _ (pv 0) (@pa_cons _ _ _ _ _ (pe_clsN Z.g_NoText rfl) pa_nil se_name) se_name) (by decide) (by decide) (se_name) (by rfl)) pa_nil se_call) se_call) se_call) se_call)) (@pg_name _ _ (1) _ (by walk_at "o") rfl (Or.inl rfl) (by walk_at "n")) (by rfl) (by rfl) (by rfl)) (@pss_cons _ _ _ _ _ (@ps_if _ _ _ _ _ _ _ _ (@PW.pt _ _ _ (@pw_or _ _ _ _ _ _ _ (@pt_not _ _ _ _ (@pt_val _ _ _ (@pe_callB _ _ _ _ _ _ _ _ _ (call_isiEK (K := K)) rfl T.isi bt_isi (@pa_cons _ _ _ _ _ (pv 0) (@pa_cons _ _ _ _ _ (pe_clsN Z.g_HallError rfl) pa_nil se_name) se_name) (by decide) (by decide) (se_name) (by rfl)) (by intro _; rfl))) (@pw_or _ _ _ _ _ _ _ (@pt_not _ _ _ _ (@pt_val _ _ _ (@pe_callB _ _ _ _ _ _ _ _ _ (call_isiEK (K := K)) rfl T.isi bt_isi (@pa_cons _ _ _ _ _ (pv 0) (@pa_cons _ _ _ _ _ (pe_tyN Z.z_ValueError bt_ValueError rfl) pa_nil se_name) se_name) (by decide) (by decide) (se_name) (by rfl)) (by intro _; rfl))) (@pw_or1 _ _ _ _ (@pt_cmpR _ _ _ _ _ _ _ _ (op_neU hr.units) (@pe_bm _ _ _ _ _ _ _ _ _ _ _ _ PySem.F.plainAttrs_list PySem.F.slot_list_count PySem.F.type_list_count (mt_count hr.units) (pv 1) (@pa_cons _ _ _ _ _ pe_bl pa_nil se_const) (by rfl) (by rfl) (by rfl) (by rfl) (by rfl)) pe_int (nomark _)))))) (@pss_one _ _ _ (@ps_ret _ _ _ _ (@pe_un _ _ _ _ _ _ un_neg pe_int))) pss_nil) (@pss_one _ _ _ (@ps_ret _ _ _ _ (@pe_bm _ _ _ _ _ _ _ _ _ _ _ _ PySem.F.plainAttrs_list PySem.F.slot_list_index PySem.F.type_list_index (mt_index hr.units) (pv 1) (@pa_cons _ _ _ _ _ pe_bl pa_nil se_const) (by rfl) (by rfl) (by rfl) (by rfl) (by rfl)))))), ?_⟩
    walk_at "rd"
    refine ⟨x, ec.nt, _, _, false, rfl, rfl, hx, Z.k_NoText, kit_no Z.k_BadHouse Z.k_NoText B.bh, ?_⟩
    walk_at "rd"
    refine ⟨x, ec.nt, _, _, false, rfl, rfl, hx, Z.k_NoText, kit_no Z.k_NoWalk Z.k_NoText B.nw, ?_⟩
    walk_at "rd"
    refine ⟨x, ec.nt, _, _, false, rfl, rfl, hx, Z.k_NoText, kit_no Z.k_BadPaper Z.k_NoText B.bp, ?_⟩
    walk_at "rd"
    refine ⟨x, ec.nt, _, _, true, rfl, rfl, hx, Z.k_NoText, kitOne_ref Z.k_NoText Z.k_NoText.se (fun _ => rfl), ?_⟩
    walk_at "rd"
    refine ⟨by show 4 ≤ sizeLine; decide, fun l hl => ?_⟩
    have s1 : Same H (L2.upd H l (.lst [.bl false, .bl false, .bl false, .bl true])) := same_upd hl
    have hx1 := s1 _ _ hx
    have D1 : DenAll (L2.upd H l (.lst [.bl false, .bl false, .bl false, .bl true])) [.bl false, .bl false, .bl false, .bl true] [.bool false, .bool false, .bool false, .bool true] := .cons (.bl _) (.cons (.bl _) (.cons (.bl _) (.cons (.bl _) .nil)))
    walk_at "rd"
    refine ⟨x, ec.nt, _, _, true, rfl, rfl, hx1, Z.k_NoText, kitOne_ref Z.k_HallError B.he (fun _ => rfl), ?_⟩
    walk_at "rd"
    refine ⟨x, ec.nt, _, _, true, rfl, rfl, hx1, Z.k_NoText, kitOne_ty kit_ve B.ve, ?_⟩
    walk_at "rd"
    refine ⟨.inl ⟨rfl, _, SqL.of upd_same⟩, ?_⟩
    walk_at "rd"
    refine ⟨l, _, _, .bl true, .bool true, rfl, rfl, upd_same, D1, .bl true, by simp [PyData.canLayAll0, PyData.canLay0], by simp [PyData.canLay0], by simp [PyData.depth], ?_⟩
    rw [cnt1]
    walk_at "rd"
    refine ⟨.inl ⟨rfl, _, SqL.of upd_same⟩, ?_⟩
    walk_at "rd"
    refine ⟨l, _, _, .bl true, .bool true, 3, rfl, rfl, upd_same, D1, .bl true, by simp [PyData.canLayAll0, PyData.canLay0], by simp [PyData.canLay0], by simp [PyData.depth], by simp [PyData.eqv], fun m hm => ?_, ?_⟩
    · have e : m = 0 ∨ m = 1 ∨ m = 2 := by omega
      rcases e with rfl | rfl | rfl <;> first | (exfalso; omega) | simp [PyData.eqv]
    exact q _ s1
end
section
variable {P : Program} {w : World} {K : PySem.W.Frag} {mg : Str → Option Value} {base : Heap} {ec : Ec}
theorem rd_slT {r : V → Option Int → Option Int → Hp → VK → Prop} {te : TE} {tl th : TO} {σ : L2.St} {H : Hp} {Q : VK} (q : te σ H fun x H1 => tl σ H1 fun l H2 => th σ H2 fun u H3 => r x l u H3 Q) : tSl r te tl th σ H Q := q
theorem rd_npT {σ : L2.St} {H : Hp} {Q : Option Int → Hp → Prop} (q : Q none H) : tNoPart σ H Q := q
theorem rd_partT {te : TE} {σ : L2.St} {H : Hp} {Q : Option Int → Hp → Prop} (q : te σ H fun x H1 => ∃ i, x = .int i ∧ Q (some i) H1) : tPart te σ H Q := q
theorem cut_tail {xs : List V} (h : 1 ≤ xs.length) : cutV xs (some 1) none = xs.tail := by
  unfold cutV
  rw [show (some (1 : Int)) = some ((1 : Nat) : Int) from rfl, HT.sIx_nat, HT.sIx_none, Nat.min_eq_left h]
  cases xs with
  | nil => exact absurd h (by simp)
  | cons x r => simp
theorem kit_vv : PySem.W.exmOne K (.type "ValueError") (.type "ValueError") = some true := by kernel_rfl
noncomputable def spNum (nt : Addr) : Sp := fun vs H Q E => ∃ x : Str, vs = [.str x] ∧ x.length ≤ 640 ∧ Asc x ∧ (∀ n, PySem.intText? x = some n → Q (.int n) H) ∧ (PySem.intText? x = none → E (.ref nt) (some 0) H)
theorem sc_num : FnScope ["word"] ["word"] (defScope (top 27)) := ⟨rfl, rfl, rfl, by decide +kernel, rfl, by decide +kernel, by decide +kernel⟩
theorem ok_num {f : Addr} {fd : FuncData} (F : Fun K "number_of" "number_of" (top 27) f fd) (T : Txt K mg) (Z : TxtX K mg ec) : FnOkC P w K mg base (CXE P w) 1 f fd ["word"] (spNum ec.nt) := by
  refine F.okC sc_num (fun vs H Q E h => ?_) (fun cdv A outer s H vs Q E hr h => ?_)
  · obtain ⟨x, rfl, _⟩ := h
    rfl
  · obtain ⟨x, rfl, hl, ha, qs, qn⟩ := h
    refine ⟨_, (psc_one (psc_intTry (i := 0) rfl T.int rfl Z.z_ValueError rfl (Or.inl rfl) kit_vv Z.k_NoText.ex Z.g_NoText rfl (fun _ => (@pa_cons _ _ _ _ _ pe_str pa_nil se_const)))), ?_⟩
    refine ⟨x, rfl, hl, ha.repr hl, qs, fun e => ?_⟩
    walk_at "rd"
    exact ⟨by show 1 ≤ sizeLine; decide, qn e⟩
theorem readAll_snoc {x : Str} {n : Int} (e : PySem.intText? x = some n) : ∀ {l : List Str} {ns : List Int}, readAll l = some ns → readAll (l ++ [x]) = some (ns ++ [n])
  | [], ns, h => by
    cases h
    show (match PySem.intText? x, readAll [] with | some n, some ns => some (n :: ns) | _, _ => none) = _
    rw [e]
    rfl
  | y :: r, ns, h => by
    have h' : (match PySem.intText? y, readAll r with | some n, some ns => some (n :: ns) | _, _ => none) = some ns := h
    cases e1 : PySem.intText? y with
    | none => rw [e1] at h'; cases h'
    | some m =>
      cases e2 : readAll r with
      | none => rw [e1, e2] at h'; cases h'
      | some ms =>
        rw [e1, e2] at h'
        have h3 : m :: ms = ns := Option.some.inj h'
        subst h3
        show (match PySem.intText? y, readAll (r ++ [x]) with | some n, some ns => some (n :: ns) | _, _ => none) = _
        rw [e1, readAll_snoc e e2]
        rfl
theorem readAll_len : ∀ {l : List Str} {ns : List Int}, readAll l = some ns → ns.length = l.length
  | [], ns, h => by cases h; rfl
  | y :: r, ns, h => by
    have h' : (match PySem.intText? y, readAll r with | some n, some ns => some (n :: ns) | _, _ => none) = some ns := h
    cases e1 : PySem.intText? y with
    | none => rw [e1] at h'; cases h'
    | some m =>
      cases e2 : readAll r with
      | none => rw [e1, e2] at h'; cases h'
      | some ms =>
        rw [e1, e2] at h'
        have h3 : m :: ms = ns := Option.some.inj h'
        subst h3
        rw [List.length_cons, List.length_cons, readAll_len e2]
theorem rowOf_len {line : Str} {ns : List Int} (h : rowOf line = some ns) : ns.length ≤ line.length + 1 := by
  have e := readAll_len h
  have sl := split_le line (" " : Str)
  rw [List.length_tail] at e
  omega
noncomputable def spNums (nt : Addr) : Sp := fun vs H Q E => ∃ line : Str, vs = [.str line] ∧ line.length ≤ 640 ∧ Asc line ∧ (∀ ns, rowOf line = some ns → ∀ (l : Addr) (H' : Hp), Same H H' → H l = none → H' l = some (.lst (ns.map V.int)) → Q (.ref l) H') ∧
  (rowOf line = none → ∀ H', Same H H' → E (.ref nt) (some 0) H')
theorem sc_nums : FnScope ["line"] ["line"] (defScope (top 26)) := ⟨rfl, rfl, rfl, by decide +kernel, rfl, by decide +kernel, by decide +kernel⟩
theorem ok_nums {f : Addr} {fd : FuncData} (F : Fun K "numbers_of" "numbers_of" (top 26) f fd) (T : Txt K mg) (Z : TxtX K mg ec) (c_number_of : CalleeC P w K mg base (CXE P w) 1 "number_of" ["word"] (spNum ec.nt)) : FnOkC P w K mg base (CXE P w) 2 f fd ["line"] (spNums ec.nt) := by
  refine F.okC sc_nums (fun vs H Q E h => ?_) (fun cdv A outer s H vs Q E hr h => ?_)
  · obtain ⟨line, rfl, _⟩ := h
    rfl
  · obtain ⟨line, rfl, ll, la, qs, qn⟩ := h
    refine ⟨_, (psc_one (psc_ret (pec_comp (src := [none]) (Nc := ["word"]) (@pi_seqK _ (K) _ _ _ (@pe_slice _ _ _ _ _ _ _ _ _ _ (sl_listK (K := K)) (@pe_bm _ _ _ _ _ _ _ _ _ _ _ _ PySem.F.plainAttrs_str PySem.F.slot_str_split PySem.F.type_str_split mt_split (pv 0) (@pa_cons _ _ _ _ _ pe_str pa_nil se_const) (by rfl) (by rfl) (by rfl) (by rfl) (by rfl)) (@po_some _ _ _ pe_int) po_none) (by rfl)) (by kernel_rfl) (fun _ _ _ _ _ => (@pg_name _ _ (0) _ (by walk_at "o") rfl (Or.inl rfl) (by walk_at "n"))) (fun _ _ _ _ _ => pifs_nil) (fun _ _ _ _ _ _ hx => (pec_call c_number_of (hr.mono (by decide)) hx rfl (@pa_cons _ _ _ _ _ (pv 0) pa_nil se_name) (he := se_name)))))), ?_⟩
    have hz : sizeLine = 16777216 := rfl
    have sp := split_pos line (" " : Str)
    have sl := split_le line (" " : Str)
    have pt : ∀ x ∈ Txt.split line (" " : Str), x.length ≤ line.length := fun x hx => part_short hx
    have pa : ∀ x ∈ Txt.split line (" " : Str), Asc x := fun x hx => la.split hx
    unfold rowOf at qs qn
    obtain ⟨wds, eqw⟩ : ∃ wds, Txt.split line (" " : Str) = wds := ⟨_, rfl⟩
    rw [eqw] at qs qn sp sl pt pa
    walk_at "rd"
    refine rd_compS ?_
    walk_at "rd"
    refine rd_slT ?_
    walk_at "rd"
    refine ⟨rfl, ?_⟩
    walk_at "rd"
    refine ⟨_, _, rfl, rfl, by decide +kernel, by omega, fun l1 hl1 => ?_⟩
    rw [eqw]
    have s1 : Same H (L2.upd H l1 (.lst (wds.map V.str))) := same_upd hl1
    have k1 : L2.upd H l1 (.lst (wds.map V.str)) l1 = some (.lst (wds.map V.str)) := upd_same
    generalize L2.upd H l1 (.lst (wds.map V.str)) = H1 at s1 k1
    walk_at "rd"
    refine rd_partT ?_
    walk_at "rd"
    refine ⟨_, rfl, ?_⟩
    refine rd_npT ?_
    refine ⟨l1, _, rfl, SqL.of k1, fun l2 hl2 => ?_⟩
    rw [cut_tail (by rw [List.length_map]; exact sp), ← List.map_tail]
    have s2 : Same H (L2.upd H1 l2 (.lst (wds.tail.map V.str))) := s1.trans (same_upd hl2)
    have k2 : L2.upd H1 l2 (.lst (wds.tail.map V.str)) l2 = some (.lst (wds.tail.map V.str)) := upd_same
    generalize L2.upd H1 l2 (.lst (wds.tail.map V.str)) = H2 at s2 k2
    have lt : wds.tail.length ≤ 700 := by rw [List.length_tail]; omega
    refine ⟨l2, rfl, .inl ⟨⟨_, SqL.of k2⟩, fun c hc => ?_⟩⟩
    refine compL (xs := wds.tail.map V.str) (fun i ys σc H3 => ∃ v ns, σc = [v] ∧ ys = List.map V.int ns ∧ readAll (wds.tail.take i) = some ns ∧ H3 = L2.upd H2 c (.lst ys)) (by rw [List.length_map]; omega) ⟨none, [], rfl, rfl, rfl, rfl⟩ ?_ ?_ ?_
    · rintro i ys σc H3 hi ⟨v, ns, rfl, rfl, er, rfl⟩
      have := readAll_len er
      rw [List.length_take] at this
      exact ⟨upd_same, by rw [List.length_map]; omega, SqL.of (same_upd hc _ _ k2)⟩
    · rintro i y ys σc H3 hy ⟨v, ns, rfl, rfl, er, rfl⟩
      rw [List.getElem?_map] at hy
      obtain ⟨x, hx, rfl⟩ := Option.map_eq_some_iff.mp hy
      have mx := List.mem_of_getElem? hx
      have lx := pt x (List.mem_of_mem_tail mx)
      walk_at "rd"
      refine ⟨x, rfl, by omega, pa x (List.mem_of_mem_tail mx), fun n en => ?_, fun en => qn (readAll_none mx en) _ (s2.trans (same_upd hc))⟩
      walk_at "rd"
      refine ⟨upd_same, _, ns ++ [n], rfl, by rw [List.map_append]; rfl, ?_, upd_upd⟩
      rw [List.take_add_one, hx]
      exact readAll_snoc en er
    · rintro ys σc H3 ⟨v, ns, rfl, rfl, er, rfl⟩
      rw [List.length_map, List.take_length] at er
      walk_at "rd"
      exact qs ns er c _ (s2.trans (same_upd hc)) (s2.free hc) upd_same
noncomputable def spHouseOf (C nt : Addr) : Sp := fun vs H Q E => ∃ (p lw : Addr) (ps : List Int) (xs : List V) (rows : List (List Int)), vs = [.ref p, .ref lw] ∧ H p = some (.lst (ps.map V.int)) ∧ H lw = some (.lst xs) ∧ TupsAt H xs rows ∧ ps.length ≤ 1000 ∧ rows.length ≤ 1000 ∧
  (∀ ws, rows = ws.map wyL → Good ps ws → ∀ (x : Addr) (H' : Hp), Same H H' → HouseAt C H' x ps ws → Q (.ref x) H') ∧ ((¬ ∃ ws, rows = ws.map wyL ∧ Good ps ws) → ∀ H', Same H H' → E (.ref nt) (some 0) H')
theorem sc_houseof : FnScope ["people", "ways"] ["people", "ways"] (defScope (top 28)) := ⟨rfl, rfl, rfl, by decide +kernel, rfl, by decide +kernel, by decide +kernel⟩
theorem ok_houseof {C f : Addr} {fd : FuncData} (F : Fun K "house_of" "house_of" (top 28) f fd) (T : Txt K mg) (Z : TxtX K mg ec) (c_House : CalleeI P w K mg base (CXE P w) 5 "House" C ["self", "people", "ways"] (spInit C ec.bh)) : FnOk P w K mg base (CXE P w) 7 f fd ["people", "ways"] (spHouseOf C ec.nt) := by
  refine F.okE sc_houseof (fun vs H Q E h => ?_) (fun cdv A outer s H vs Q E hr h => ?_)
  · obtain ⟨p, lw, ps, xs, rows, rfl, _⟩ := h
    rfl
  · obtain ⟨p, lw, ps, xs, rows, rfl, hp, hw, d, l1, l2, qg, qb⟩ := h
    let Rx : L2.St → Prop := fun σ => σ = [some (.ref p), some (.ref lw)]
    let Ex : XK := fun cls b H' => cls = .ref ec.bh ∧ b = none ∧ Same H H' ∧ ¬ ∃ ws, rows = ws.map wyL ∧ Good ps ws
    have hmx : ∀ cls b H', Ex cls b H' → b = none ∧ PySem.W.exmOne K cls (.ref ec.bh) = some true := by
      rintro cls b H' ⟨rfl, rfl, _⟩
      exact ⟨rfl, exm_of Z.k_BadHouse Z.k_BadHouse.se⟩
    refine ⟨_, (@pss_one _ _ _ (ps_tryR (R := Rx) (E1 := Ex) rfl Z.g_BadHouse hmx (fun _ _ hx => (@pss_one _ _ _ (@ps_ret _ _ _ _ (@pe_makeR _ _ _ _ _ _ _ _ _ _ _ _ _ _ c_House (hr.mono (by decide)) hx rfl (@pa_cons _ _ _ _ _ (pv 0) (@pa_cons _ _ _ _ _ (pv 1) pa_nil se_name) se_name) (by decide) (se_name) (by rfl))))) Z.k_NoText.ex Z.g_NoText rfl (fun _ => (@pa_cons _ _ _ _ _ pe_str pa_nil se_const)))), ?_⟩
    refine ⟨?_, ?_⟩
    · walk_at "rd"
      refine ⟨rfl, fun x dx nx ndx dxx => ?_⟩
      have sx : Same H (L2.upd (L2.upd H dx (.own x)) x (.ins C dx [])) := same_to (same_upd ndx) nx
      have kp : ∀ {H4 : Hp}, Kp x (L2.upd (L2.upd H dx (.own x)) x (.ins C dx [])) H4 → Same H H4 := fun k4 b o e => k4 b o (sx b o e) (ne_of_none e nx)
      refine ⟨x, dx, p, lw, ps, xs, rows, rfl, upd_same, sx _ _ hp, sx _ _ hw, d.same sx, l1, l2, fun ws e g H4 k4 hx => ⟨rfl, ?_⟩, fun nb H4 k4 => ⟨rfl, rfl, kp k4, nb⟩⟩
      walk_at "rd"
      exact qg ws e g x H4 (kp k4) hx
    · rintro σ' cls b H' hR ⟨rfl, rfl, s', nb⟩
      have hR' : σ' = [some (.ref p), some (.ref lw)] := hR
      subst hR'
      walk_at "rd"
      exact ⟨by show 1 ≤ sizeLine; decide, qb nb H' s'⟩
structure RowsAt (p : Addr) (H : Hp) (as : List Addr) (rows : List (List Int)) : Prop where
  len : as.length = rows.length
  at_ : ∀ (j : Nat) (a : Addr) (r : List Int), as[j]? = some a → rows[j]? = some r → H a = some (.lst (r.map V.int)) ∧ a ≠ p
theorem RowsAt.nil (p : Addr) (H : Hp) : RowsAt p H [] [] := ⟨rfl, fun j a r h => by simp at h⟩
theorem RowsAt.snoc {p : Addr} {H H' : Hp} {as : List Addr} {rows : List (List Int)} {a : Addr} {r : List Int} (h : RowsAt p H as rows) (s : ∀ b o, H b = some o → b ≠ p → H' b = some o) (e : H' a = some (.lst (r.map V.int))) (n : a ≠ p) : RowsAt p H' (as ++ [a]) (rows ++ [r]) := by
  refine ⟨by rw [List.length_append, List.length_append, h.len]; rfl, fun j b t h1 h2 => ?_⟩
  by_cases z : j < as.length
  · rw [List.getElem?_append_left z] at h1
    rw [List.getElem?_append_left (by rw [← h.len]; exact z)] at h2
    obtain ⟨q1, q2⟩ := h.at_ j b t h1 h2
    exact ⟨s b _ q1 q2, q2⟩
  · rw [List.getElem?_append_right (by omega)] at h1
    rw [List.getElem?_append_right (by rw [← h.len]; omega), ← h.len] at h2
    have z1 : j - as.length = 0 := by
      by_cases y : j - as.length = 0
      · exact y
      · rw [List.getElem?_eq_none (by simp; omega)] at h1
        cases h1
    rw [z1] at h1 h2
    cases Option.some.inj h1
    cases Option.some.inj h2
    exact ⟨e, n⟩
theorem snoc_at {α β : Type} {m : List β} {x : α} {y : β} {R : α → β → Prop} {L : List α} (h : ∀ (j : Nat) (a : α) (b : β), L[j]? = some a → m[j]? = some b → R a b) (hx : L[m.length]? = some x) (r : R x y) :
    ∀ (j : Nat) (a : α) (b : β), L[j]? = some a → (m ++ [y])[j]? = some b → R a b := fun j a b h1 h2 => by
  by_cases z : j < m.length
  · rw [List.getElem?_append_left z] at h2
    exact h j a b h1 h2
  · rw [List.getElem?_append_right (by omega)] at h2
    have z1 : j - m.length = 0 := by
      by_cases q : j - m.length = 0
      · exact q
      · rw [List.getElem?_eq_none (by simp; omega)] at h2
        cases h2
    rw [z1] at h2
    cases Option.some.inj h2
    have : j = m.length := by omega
    subst this
    rw [hx] at h1
    cases h1
    exact r
theorem tups_snoc {H H' : Hp} {xs : List V} {rows : List (List Int)} {t : Addr} {r : List Int} (h : TupsAt H xs rows) (s : ∀ b vs, H b = some (.tup vs) → H' b = some (.tup vs)) (e : H' t = some (.tup (r.map V.int))) : TupsAt H' (xs ++ [.ref t]) (rows ++ [r]) := by
  refine ⟨by rw [List.length_append, List.length_append, h.len]; rfl, fun i x hx => ?_⟩
  by_cases z : i < xs.length
  · rw [List.getElem?_append_left z] at hx
    obtain ⟨b, q, e1, e2, e3⟩ := h.at_ i x hx
    exact ⟨b, q, e1, by rw [List.getElem?_append_left (by rw [← h.len]; exact z)]; exact e2, s _ _ e3⟩
  · rw [List.getElem?_append_right (by omega)] at hx
    have z1 : i - xs.length = 0 := by
      by_cases y : i - xs.length = 0
      · exact y
      · rw [List.getElem?_eq_none (by simp; omega)] at hx
        cases hx
    rw [z1] at hx
    cases Option.some.inj hx
    refine ⟨t, r, rfl, ?_, e⟩
    rw [List.getElem?_append_right (by rw [← h.len]; omega), ← h.len, z1]
    rfl
noncomputable def spRead (C nt : Addr) : Sp := fun vs H Q E => ∃ T : Str, vs = [.str T] ∧ T.length ≤ 640 ∧ Asc T ∧ (∀ ps ws, IsText T ps ws → ∀ (x : Addr) (H' : Hp), Same H H' → HouseAt C H' x ps ws → Q (.ref x) H') ∧
  ((¬ ∃ ps ws, IsText T ps ws) → ∀ b H', Same H H' → E (.ref nt) b H')
theorem sc_read : FnScope ["text", "rows", "house"] ["text"] (defScope (top 25)) := ⟨rfl, rfl, rfl, by decide +kernel, rfl, by decide +kernel, by decide +kernel⟩
theorem ok_read {C f : Addr} {fd : FuncData} (F : Fun K "read" "read" (top 25) f fd) (T : Txt K mg) (Z : TxtX K mg ec) (c_numbers_of : CalleeC P w K mg base (CXE P w) 2 "numbers_of" ["line"] (spNums ec.nt)) (c_house_of : Callee P w K mg base (CXE P w) 7 "house_of" ["people", "ways"] (spHouseOf C ec.nt)) (c_shown : Callee P w K mg base CX0 4 "shown" ["house"] (spShown C)) :
    FnOkC P w K mg base (CXE P w) 8 f fd ["text"] (spRead C ec.nt) := by
  refine F.okC sc_read (fun vs H Q E h => ?_) (fun cdv A outer s H vs Q E hr h => ?_)
  · obtain ⟨tx, rfl, _⟩ := h
    rfl
  · obtain ⟨tx, rfl, lt, la, qg, qb⟩ := h
    refine ⟨_, (psc_cons (psc_comp (i := 1) (src := [none]) (Nc := ["line"]) (by walk_at "o") rfl rfl (@pi_seqK _ (K) _ _ _ (@pe_bm _ _ _ _ _ _ _ _ _ _ _ _ PySem.F.plainAttrs_str PySem.F.slot_str_split PySem.F.type_str_split mt_split (pv 0) (@pa_cons _ _ _ _ _ pe_str pa_nil se_const) (by rfl) (by rfl) (by rfl) (by rfl) (by rfl)) (by rfl)) (by kernel_rfl) (fun _ _ _ _ _ => (@pg_name _ _ (0) _ (by walk_at "o") rfl (Or.inl rfl) (by walk_at "n"))) (fun _ _ _ _ _ => pifs_nil) (fun _ _ _ _ _ _ hx => (pec_call c_numbers_of (hr.mono (by decide)) hx rfl (@pa_cons _ _ _ _ _ (pv 0) pa_nil se_name) (he := se_name)))) (PSs.c (@pss_cons _ _ _ _ _ (@ps_asg _ _ _ _ _ _ (@pe_callC _ _ _ _ _ _ _ _ _ _ _ _ c_house_of (hr.mono (by decide)) passE rfl (@pa_cons _ _ _ _ _ (@pe_ix _ _ _ _ _ _ _ (ix_seqK (K := K)) (pv 1) pe_int (fun _ _ => rfl)) (@pa_cons _ _ _ _ _ (@pe_comp _ _ (["row"]) ([none]) _ _ _ _ _ _ _ _ _ rfl (@pi_seqK _ (K) _ _ _ (@pe_slice _ _ _ _ _ _ _ _ _ _ (sl_listK (K := K)) (pv 1) (@po_some _ _ _ pe_int) po_none) (by rfl)) (by kernel_rfl) (fun _ _ _ _ _ => (@pg_name _ _ (0) _ (by walk_at "o") rfl (Or.inl rfl) (by walk_at "n"))) (fun _ _ _ _ _ => pifs_nil) (fun _ _ _ _ _ => (@pe_callTy _ _ _ _ _ _ _ _ _ (call_tuple_ofK (K := K)) rfl T.tuple bt_tuple (@pa_cons _ _ _ _ _ (pv 0) pa_nil se_name) (by decide) (by decide) (se_name) (by rfl))) (by intro _; rfl)) pa_nil se_comp) se_sub) (by decide) (se_sub) (by rfl)) (@pg_name _ _ (2) _ (by walk_at "o") rfl (Or.inl rfl) (by walk_at "n")) (by rfl) (by rfl) (by rfl)) (@pss_cons _ _ _ _ _ (@ps_if _ _ _ _ _ _ _ _ (@pt_cmpR _ _ _ _ _ _ _ _ (op_neU hr.units) (@pe_callC _ _ _ _ _ _ _ _ _ _ _ _ c_shown (hr.mono (by decide)) pass0 rfl (@pa_cons _ _ _ _ _ (pv 2) pa_nil se_name) (by decide) (se_name) (by rfl)) (pv 0) (nomark _)) (@pss_one _ _ _ (@ps_raise _ _ _ _ _ _ _ _ _ _ _ _ _ _ _ _ _ _ _ _ _ _ _ Z.k_NoText.ex Z.g_NoText rfl (@pa_cons _ _ _ _ _ pe_str pa_nil se_const) (by rfl) (by rfl) (by decide))) pss_nil) (@pss_one _ _ _ (@ps_ret _ _ _ _ (pv 2))))))), ?_⟩
    have hz : sizeLine = 16777216 := rfl
    have sp := split_pos tx ("\n" : Str)
    have sl := split_le tx ("\n" : Str)
    have pt : ∀ x ∈ Txt.split tx ("\n" : Str), x.length ≤ tx.length := fun x hx => part_short hx
    have pa : ∀ x ∈ Txt.split tx ("\n" : Str), Asc x := fun x hx => la.split hx
    have rds : ∀ x ∈ Txt.split tx ("\n" : Str), rowOf x = none → ¬ ∃ ps ws, IsText tx ps ws := fun x hx e ⟨ps, ws, it⟩ => it.reads hx e
    obtain ⟨lines, eql⟩ : ∃ lines, Txt.split tx ("\n" : Str) = lines := ⟨_, rfl⟩
    walk_at "rd"
    refine rd_compS ?_
    walk_at "rd"
    refine ⟨rfl, ?_⟩
    walk_at "rd"
    refine ⟨_, _, rfl, rfl, by decide +kernel, by omega, fun l1 hl1 => ?_⟩
    rw [eql] at sp sl pt pa rds ⊢
    have s1 : Same H (L2.upd H l1 (.lst (lines.map V.str))) := same_upd hl1
    have k1 : L2.upd H l1 (.lst (lines.map V.str)) l1 = some (.lst (lines.map V.str)) := upd_same
    generalize L2.upd H l1 (.lst (lines.map V.str)) = H1 at s1 k1
    refine ⟨l1, rfl, .inl ⟨⟨_, SqL.of k1⟩, fun c hc => ?_⟩⟩
    refine compL (xs := lines.map V.str) (fun i ys σc H2 => ∃ v as rows, σc = [v] ∧ ys = List.map V.ref as ∧ RowsAt c H2 as rows ∧ rows.length = i ∧ (∀ (j : Nat) (x : Str) (r : List Int), lines[j]? = some x → rows[j]? = some r → rowOf x = some r) ∧ Same H1 H2 ∧ H2 c = some (.lst ys)) (by rw [List.length_map]; omega) ⟨none, [], [], rfl, rfl, RowsAt.nil _ _, rfl, by simp, same_upd hc, upd_same⟩ ?_ ?_ ?_
    · rintro i ys σc H2 hi ⟨v, as, rows, rfl, rfl, ra, lr, al, s2, k2⟩
      exact ⟨k2, by rw [List.length_map, ra.len]; omega, SqL.of (s2 _ _ k1)⟩
    · rintro i y ys σc H2 hy ⟨v, as, rows, rfl, rfl, ra, lr, al, s2, k2⟩
      rw [List.getElem?_map] at hy
      obtain ⟨x, hx, rfl⟩ := Option.map_eq_some_iff.mp hy
      have mx := List.mem_of_getElem? hx
      have lx := pt x mx
      walk_at "rd"
      refine ⟨x, rfl, by omega, pa x mx, fun r er a H3 s3 fa ka => ?_, fun er H3 s3 => qb (rds x mx er) _ _ ((s1.trans s2).trans s3)⟩
      walk_at "rd"
      have na : a ≠ c := ne_of_none' k2 fa
      refine ⟨s3 _ _ k2, _, as ++ [a], rows ++ [r], rfl, by rw [List.map_append]; rfl, ?_, by rw [List.length_append, List.length_singleton, lr], snoc_at (R := fun x r => rowOf x = some r) al (by rw [lr]; exact hx) er, same_to (s2.trans s3) hc, upd_same⟩
      refine ra.snoc (fun b o e n => ?_) ?_ na
      · rw [upd_ne n]; exact s3 _ _ e
      · rw [upd_ne na]; exact ka
    · rintro ys σc H2 ⟨v, as, rows, rfl, rfl, ra, lr, al, s2, k2⟩
      rw [List.length_map] at lr
      have s02 := s1.trans s2
      have l0 := ra.len
      have txt : ∀ {ps ws}, IsText tx ps ws → rows = ps :: ws.map wyL := fun it => it.rows eql lr al
      have rlen : ∀ r ∈ rows, r.length ≤ 1000 := fun r hr => by
        obtain ⟨j, hj⟩ := List.getElem?_of_mem hr
        have hj2 : j < lines.length := by rw [← lr]; exact (List.getElem?_eq_some_iff.mp hj).1
        have e := al j lines[j] r (List.getElem?_eq_getElem hj2) hj
        have e2 := rowOf_len e
        have e3 := pt lines[j] (List.getElem_mem hj2)
        omega
      obtain ⟨a0, ar, rfl⟩ : ∃ a0 ar, as = a0 :: ar := by
        cases as with
        | nil => rw [List.length_nil] at l0; omega
        | cons a r => exact ⟨a, r, rfl⟩
      obtain ⟨r0, rr, rfl⟩ : ∃ r0 rr, rows = r0 :: rr := by
        cases rows with
        | nil => cases l0
        | cons a r => exact ⟨a, r, rfl⟩
      obtain ⟨p0, _⟩ := ra.at_ 0 a0 r0 rfl rfl
      walk_at "rd"
      refine rd_ixL (SqL.of k2) (atI_nat (j := 0) rfl) ?_
      walk_at "rd"
      refine rd_compS ?_
      walk_at "rd"
      refine rd_slT ?_
      walk_at "rd"
      refine rd_partT ?_
      walk_at "rd"
      refine ⟨_, rfl, ?_⟩
      refine rd_npT ?_
      refine ⟨c, _, rfl, SqL.of k2, fun l2 hl2 => ?_⟩
      rw [cut_tail (by simp)]
      have s3 : Same H2 (L2.upd H2 l2 (.lst (ar.map V.ref))) := same_upd hl2
      have k3 : L2.upd H2 l2 (.lst (ar.map V.ref)) l2 = some (.lst (ar.map V.ref)) := upd_same
      have e3 : (List.map V.ref (a0 :: ar)).tail = ar.map V.ref := rfl
      rw [e3]
      generalize L2.upd H2 l2 (.lst (ar.map V.ref)) = H3 at s3 k3
      have lar : ar.length = rr.length := by simpa using l0
      have lrr : rr.length ≤ 700 := by rw [List.length_cons] at lr; omega
      refine ⟨l2, rfl, .inl ⟨⟨_, SqL.of k3⟩, fun d hd => ?_⟩⟩
      refine compL (xs := ar.map V.ref) (fun i ys σc H4 => ∃ v, σc = [v] ∧ ys.length ≤ i ∧ Same H3 H4 ∧ H4 d = some (.lst ys) ∧ TupsAt H4 ys (rr.take i)) (by rw [List.length_map]; omega) ⟨none, rfl, Nat.le_refl _, same_upd hd, upd_same, ⟨rfl, fun i x hx => by simp at hx⟩⟩ ?_ ?_ ?_
      · rintro i ys σc H4 hi ⟨v, rfl, ly, s4, k4, d4⟩
        exact ⟨k4, ly, SqL.of (s4 _ _ k3)⟩
      · rintro i y ys σc H4 hy ⟨v, rfl, ly, s4, k4, d4⟩
        rw [List.getElem?_map] at hy
        obtain ⟨a, ha, rfl⟩ := Option.map_eq_some_iff.mp hy
        have hi : i < rr.length := by rw [← lar]; exact (List.getElem?_eq_some_iff.mp ha).1
        have hrr : rr[i]? = some rr[i] := List.getElem?_eq_getElem hi
        obtain ⟨ka, _⟩ := ra.at_ (i + 1) a rr[i] ha (by rw [List.getElem?_cons_succ]; exact hrr)
        have ka4 := s4 _ _ (s3 _ _ ka)
        walk_at "rd"
        refine ⟨a, _, rfl, .inl ⟨SqL.of ka4, fun t ht => ?_⟩⟩
        have s5 : Same H4 (L2.upd H4 t (.tup (rr[i].map V.int))) := same_upd ht
        have k5 : L2.upd H4 t (.tup (rr[i].map V.int)) t = some (.tup (rr[i].map V.int)) := upd_same
        generalize L2.upd H4 t (.tup (rr[i].map V.int)) = H5 at s5 k5
        have kd5 := s5 _ _ k4
        refine ⟨kd5, _, rfl, by rw [List.length_append, List.length_singleton]; omega, same_to (s4.trans s5) hd, upd_same, ?_⟩
        rw [List.take_add_one, hrr]
        refine tups_snoc (d4.same s5) (fun b vs e => ?_) ?_
        · rw [upd_ne (ne_of e kd5 (by intro z; cases z))]; exact e
        · rw [upd_ne (ne_of k5 kd5 (by intro z; cases z)), k5]
      · rintro ys σc H4 ⟨v, rfl, ly, s4, k4, d4⟩
        rw [List.length_map, lar, List.take_length] at d4
        have s24 := s3.trans s4
        have s04 := s02.trans s24
        walk_at "rd"
        refine ⟨a0, d, r0, ys, rr, rfl, s24 _ _ p0, k4, d4, rlen r0 List.mem_cons_self, by omega, fun ws ew g x H5 s5 hx => ?_, fun nb H5 s5 => qb (fun ⟨ps, ws, it⟩ => nb ?_) _ _ (s04.trans s5)⟩
        rotate_left
        · have e := List.cons.inj (txt it)
          exact ⟨ws, e.2, e.1 ▸ it.1⟩
        walk_at "rd"
        refine ⟨x, r0, ws, rfl, hx, g, fun H6 s6 => ?_⟩
        walk_at "rd"
        refine .inl ⟨rfl, ?_⟩
        walk_at "rd"
        have s06 := (s04.trans s5).trans s6
        refine iteDN (fun z => ?_) (fun z => ?_)
        · walk_at "rd"
          refine ⟨by show 1 ≤ sizeLine; decide, qb (fun ⟨ps, us, it⟩ => z ?_) _ _ s06⟩
          have e := List.cons.inj (txt it)
          have e2 := wyLs_inj (ew.symm.trans e.2)
          rw [e2, e.1, ← it.2]
        · walk_at "rd"
          exact qg r0 ws ⟨g, (V.str.inj z).symm⟩ x H6 s06 (hx.same s6)
end
section
variable {P : Program} {w : World} {K : PySem.W.Frag} {mg : Str → Option Value} {base : Heap} {ec : Ec}
theorem cut_to {xs : List V} {k : Nat} : cutV xs none (some (k : Int)) = xs.take k := by
  unfold cutV
  rw [HT.sIx_nat, HT.sIx_none, Nat.sub_zero, List.drop_zero]
  by_cases h : k ≤ xs.length
  · rw [Nat.min_eq_left h]
  · rw [Nat.min_eq_right (by omega), List.take_length, List.take_of_length_le (by omega)]
theorem cut_from {xs : List V} {k : Nat} : cutV xs (some (k : Int)) none = xs.drop k := by
  unfold cutV
  rw [HT.sIx_nat, HT.sIx_none]
  by_cases h : k ≤ xs.length
  · rw [Nat.min_eq_left h, List.take_of_length_le (by rw [List.length_drop]; exact Nat.le_refl _)]
  · rw [Nat.min_eq_right (by omega), Nat.sub_self, List.take_zero, List.drop_eq_nil_of_le (by omega)]
noncomputable def tot (l : List Str) : Nat := (l.map (·.length)).sum
theorem tot_nil : tot [] = 0 := rfl
theorem tot_cons (x : Str) (l : List Str) : tot (x :: l) = x.length + tot l := by simp [tot]
theorem tot_app (a b : List Str) : tot (a ++ b) = tot a + tot b := by simp [tot]
theorem tot_cut (l : List Str) (k : Nat) : tot (l.take k) + tot (l.drop k) = tot l := by rw [← tot_app, List.take_append_drop]
theorem tot_drop (l : List Str) (k : Nat) : tot (l.drop (k + 1)) ≤ tot (l.drop k) := by
  rw [← List.tail_drop]
  cases l.drop k with
  | nil => exact Nat.le_refl _
  | cons x r => rw [tot_cons]; exact Nat.le_add_left _ _
theorem atI_strs {l : List Str} {i : Int} (h0 : 0 ≤ i) (h1 : i < l.length) : ∃ x, x ∈ l ∧ atI (l.map V.str) i = some (.str x) := by
  have h2 : i.toNat < l.length := by omega
  refine ⟨l[i.toNat], List.getElem_mem h2, ?_⟩
  have := atI_nat (xs := l.map V.str) (j := i.toNat) (v := .str l[i.toNat]) (by rw [List.getElem?_map, List.getElem?_eq_getElem h2]; rfl)
  rwa [Int.toNat_of_nonneg h0] at this
noncomputable def odds : List Str := ["", "0", "5", "7", "10", "01", "-1", "+1", "1_0", "x", "way", "people", "People", "\t1", "1\t", "9", "1.", "4"]
theorem odds_ok : ∀ x ∈ odds, x.length ≤ 6 ∧ Asc x := by
  unfold Asc
  decide +kernel
structure NewWds (wds us : List Str) : Prop where
  len : us.length ≤ wds.length + 1
  tot : tot us ≤ Eh.tot wds + 6
  asc : (∀ x ∈ wds, Asc x) → ∀ x ∈ us, Asc x
theorem new_put {wds : List Str} {o : Str} {k j : Nat} (ho : o ∈ odds) (hj : j = k ∨ j = k + 1) : NewWds wds (wds.take k ++ [o] ++ wds.drop j) := by
  obtain ⟨o1, o2⟩ := odds_ok o ho
  have c1 := tot_cut wds k
  have c2 := tot_drop wds k
  refine ⟨?_, ?_, fun ha x hx => ?_⟩
  · simp only [List.length_append, List.length_take, List.length_drop, List.length_singleton]
    omega
  · rw [tot_app, tot_app, tot_cons, tot_nil]
    rcases hj with rfl | rfl <;> omega
  · rw [List.mem_append, List.mem_append, List.mem_singleton] at hx
    rcases hx with (hx | rfl) | hx
    · exact ha x (List.mem_of_mem_take hx)
    · exact o2
    · exact ha x (List.mem_of_mem_drop hx)
theorem new_cut {wds : List Str} {k : Nat} : NewWds wds (wds.take k ++ wds.drop (k + 1)) := by
  have c1 := tot_cut wds k
  have c2 := tot_drop wds k
  refine ⟨?_, ?_, fun ha x hx => ?_⟩
  · simp only [List.length_append, List.length_take, List.length_drop]
    omega
  · rw [tot_app]
    omega
  · rw [List.mem_append] at hx
    rcases hx with hx | hx
    · exact ha x (List.mem_of_mem_take hx)
    · exact ha x (List.mem_of_mem_drop hx)
noncomputable def spWords : Sp := fun vs H Q _ => ∃ (p : Addr) (wds : List Str) (cell : Int), vs = [.ref p, .int cell] ∧ H p = some (.lst (wds.map V.str)) ∧ 1 ≤ wds.length ∧ wds.length ≤ 1000 ∧ 0 ≤ cell ∧
  ∀ (l : Addr) (us : List Str) (H' : Hp), Same H H' → H' l = some (.lst (us.map V.str)) → NewWds wds us → Q (.ref l) H'
theorem sc_words : FnScope ["words", "cell", "odd", "at"] ["words", "cell"] (defScope (top 38)) := ⟨rfl, rfl, rfl, by decide +kernel, rfl, by decide +kernel, by decide +kernel⟩
theorem ok_words {f : Addr} {fd : FuncData} (F : Fun K "_law_words" "_law_words" (top 38) f fd) (T : Txt K mg) : FnOk P w K mg base CX0 1 f fd ["words", "cell"] spWords := by
  refine F.ok sc_words (fun vs H Q E h => ?_) (fun cdv A outer s H vs Q E hr h => ?_)
  · obtain ⟨p, wds, cell, rfl, _⟩ := h
    rfl
  · obtain ⟨p, wds, cell, rfl, hp, l1, l2, hc, q⟩ := h
    refine ⟨_, (@pss_cons _ _ _ _ _ (@ps_asg _ _ _ _ _ _ (@pe_lst _ _ _ _ (@pa_cons _ _ _ _ _ pe_str (@pa_cons _ _ _ _ _ pe_str (@pa_cons _ _ _ _ _ pe_str (@pa_cons _ _ _ _ _ pe_str (@pa_cons _ _ _ _ _ pe_str (@pa_cons _ _ _ _ _ pe_str (@pa_cons _ _ _ _ _ pe_str (@pa_cons _ _ _ _ _ pe_str (@pa_cons _ _ _ _ _ pe_str (@pa_cons _ _ _ _ _ pe_str (@pa_cons _ _ _ _ _ pe_str (@pa_cons _ _ _ _ _ pe_str (@pa_cons _ _ _ _ _ pe_str (@pa_cons _ _ _ _ _ pe_str (@pa_cons _ _ _ _ _ pe_str (@pa_cons _ _ _ _ _ pe_str (@pa_cons _ _ _ _ _ pe_str pa_nil se_const) se_const) se_const) se_const) se_const) se_const) se_const) se_const) se_const) se_const) se_const) se_const) se_const) se_const) se_const) se_const) se_const)) (@pg_name _ _ (2) _ (by walk_at "o") rfl (Or.inl rfl) (by walk_at "n")) (by rfl) (by rfl) (by rfl)) (@pss_cons _ _ _ _ _ (@ps_asg _ _ _ _ _ _ (@pe_op _ _ _ _ _ _ _ _ op_addU (pv 2) (@pe_lst _ _ _ _ (@pa_cons _ _ _ _ _ pe_str pa_nil se_const))) (@pg_name _ _ (2) _ (by walk_at "o") rfl (Or.inl rfl) (by walk_at "n")) (by rfl) (by rfl) (by rfl)) (@pss_cons _ _ _ _ _ (@ps_asg _ _ _ _ _ _ (@pe_op _ _ _ _ _ _ _ _ op_mod (@pe_op _ _ _ _ _ _ _ _ op_fdiv (pv 1) pe_int) (@pe_callB _ _ _ _ _ _ _ _ _ (call_len_seqK (K := K)) rfl T.len PySem.boot_len (@pa_cons _ _ _ _ _ (pv 0) pa_nil se_name) (by decide) (by decide) (se_name) (by rfl))) (@pg_name _ _ (3) _ (by walk_at "o") rfl (Or.inl rfl) (by walk_at "n")) (by rfl) (by rfl) (by rfl)) (@pss_cons _ _ _ _ _ (@ps_if _ _ _ _ _ _ _ _ (@pt_cmpR _ _ _ _ _ _ _ _ (op_eqU hr.units) (@pe_op _ _ _ _ _ _ _ _ op_mod (@pe_op _ _ _ _ _ _ _ _ op_fdiv (pv 1) pe_int) pe_int) pe_int (nomark _)) (@pss_one _ _ _ (@ps_ret _ _ _ _ (@pe_op _ _ _ _ _ _ _ _ op_addU (@pe_op _ _ _ _ _ _ _ _ op_addU (@pe_slice _ _ _ _ _ _ _ _ _ _ (sl_listK (K := K)) (pv 0) po_none (@po_some _ _ _ (pv 3))) (@pe_lst _ _ _ _ (@pa_cons _ _ _ _ _ (@pe_ix _ _ _ _ _ _ _ (ix_seqK (K := K)) (pv 2) (@pe_op _ _ _ _ _ _ _ _ op_mod (pv 1) pe_int) (fun _ _ => rfl)) pa_nil se_sub))) (@pe_slice _ _ _ _ _ _ _ _ _ _ (sl_listK (K := K)) (pv 0) (@po_some _ _ _ (@pe_op _ _ _ _ _ _ _ _ op_addU (pv 3) pe_int)) po_none)))) pss_nil) (@pss_cons _ _ _ _ _ (@ps_if _ _ _ _ _ _ _ _ (@pt_cmpR _ _ _ _ _ _ _ _ (op_eqU hr.units) (@pe_op _ _ _ _ _ _ _ _ op_mod (@pe_op _ _ _ _ _ _ _ _ op_fdiv (pv 1) pe_int) pe_int) pe_int (nomark _)) (@pss_one _ _ _ (@ps_ret _ _ _ _ (@pe_op _ _ _ _ _ _ _ _ op_addU (@pe_op _ _ _ _ _ _ _ _ op_addU (@pe_slice _ _ _ _ _ _ _ _ _ _ (sl_listK (K := K)) (pv 0) po_none (@po_some _ _ _ (pv 3))) (@pe_lst _ _ _ _ (@pa_cons _ _ _ _ _ (@pe_ix _ _ _ _ _ _ _ (ix_seqK (K := K)) (pv 2) (@pe_op _ _ _ _ _ _ _ _ op_mod (pv 1) pe_int) (fun _ _ => rfl)) pa_nil se_sub))) (@pe_slice _ _ _ _ _ _ _ _ _ _ (sl_listK (K := K)) (pv 0) (@po_some _ _ _ (pv 3)) po_none)))) pss_nil) (@pss_one _ _ _ (@ps_ret _ _ _ _ (@pe_op _ _ _ _ _ _ _ _ op_addU (@pe_slice _ _ _ _ _ _ _ _ _ _ (sl_listK (K := K)) (pv 0) po_none (@po_some _ _ _ (pv 3))) (@pe_slice _ _ _ _ _ _ _ _ _ _ (sl_listK (K := K)) (pv 0) (@po_some _ _ _ (@pe_op _ _ _ _ _ _ _ _ op_addU (pv 3) pe_int)) po_none))))))))), ?_⟩
    have hz : sizeLine = 16777216 := rfl
    walk_at "rd"
    refine ⟨by show 17 ≤ sizeLine; decide, fun a1 ha1 => ?_⟩
    have s1 : Same H (L2.upd H a1 (.lst ((odds.take 17).map V.str))) := same_upd ha1
    have k1 : L2.upd H a1 (.lst ((odds.take 17).map V.str)) a1 = some (.lst ((odds.take 17).map V.str)) := upd_same
    show _
    change _
    have e1 : L2.upd H a1 (.lst ((odds.take 17).map V.str)) = L2.upd H a1 (.lst [.str "", .str "0", .str "5", .str "7", .str "10", .str "01", .str "-1", .str "+1", .str "1_0", .str "x", .str "way", .str "people", .str "People", .str "\t1", .str "1\t", .str "9", .str "1."]) := rfl
    rw [← e1]
    generalize L2.upd H a1 (.lst ((odds.take 17).map V.str)) = H1 at s1 k1
    clear e1
    walk_at "rd"
    refine ⟨by show 1 ≤ sizeLine; decide, fun a2 ha2 => ?_⟩
    have s2 : Same H1 (L2.upd H1 a2 (.lst [.str "4"])) := same_upd ha2
    have k2 : L2.upd H1 a2 (.lst [.str "4"]) a2 = some (.lst [.str "4"]) := upd_same
    generalize L2.upd H1 a2 (.lst [.str "4"]) = H2 at s2 k2
    refine .inr ⟨a1, a2, _, _, rfl, rfl, s2 _ _ k1, k2, by decide +kernel, fun a3 ha3 => ?_⟩
    have s3 : Same H (L2.upd H2 a3 (.lst ((odds.take 17).map V.str ++ [.str "4"]))) := (s1.trans s2).trans (same_upd ha3)
    have k3 : L2.upd H2 a3 (.lst ((odds.take 17).map V.str ++ [.str "4"])) a3 = some (.lst (odds.map V.str)) := upd_same
    generalize L2.upd H2 a3 (.lst ((odds.take 17).map V.str ++ [.str "4"])) = H3 at s3 k3
    have hp3 := s3 _ _ hp
    have ln : (wds.map V.str).length = wds.length := List.length_map _
    have md : 0 ≤ cell / 18 % (wds.length : Int) ∧ cell / 18 % (wds.length : Int) < wds.length := ⟨Int.emod_nonneg _ (by omega), Int.emod_lt_of_pos _ (by omega)⟩
    walk_at "rd"
    refine ⟨p, _, rfl, .inl (SqL.of hp3), ?_⟩
    rw [ln]
    walk_at "rd"
    obtain ⟨k, ek⟩ := Int.eq_ofNat_of_zero_le md.1
    have ek : cell / 18 % (wds.length : Int) = (k : Nat) := ek
    rw [ek]
    obtain ⟨o, ho, eo⟩ := atI_strs (l := odds) (i := cell % 18) (Int.emod_nonneg _ (by decide)) (Int.emod_lt_of_pos _ (by decide))
    have kk : ((k : Nat) : Int) + 1 = ((k + 1 : Nat) : Int) := by omega
    have put : ∀ (j : Nat), (j = k ∨ j = k + 1) → ∀ (H4 : Hp), Same H3 H4 → ∀ c1, H4 c1 = some (.lst ((wds.take k).map V.str)) → ∀ c2, H4 c2 = none → ∀ H5, H5 = L2.upd H4 c2 (.lst [.str o]) → ∀ c3, H5 c3 = none → ∀ H6, H6 = L2.upd H5 c3 (.lst ((wds.take k).map V.str ++ [.str o])) → ∀ c4, H6 c4 = none → ∀ H7, H7 = L2.upd H6 c4 (.lst (cutV (wds.map V.str) (some (j : Int)) none)) →
        ∀ c5, H7 c5 = none → Q (.ref c5) (L2.upd H7 c5 (.lst ((wds.take k).map V.str ++ [.str o] ++ cutV (wds.map V.str) (some (j : Int)) none))) := by
      rintro j hj H4 s4 c1 h1 c2 h2 H5 rfl c3 h3 H6 rfl c4 h4 H7 rfl c5 h5
      refine q c5 (wds.take k ++ [o] ++ wds.drop j) _ (s3.trans (s4.trans ((same_upd h2).trans ((same_upd h3).trans ((same_upd h4).trans (same_upd h5)))))) ?_ (new_put ho hj)
      rw [upd_same, cut_from, List.map_append, List.map_append, List.map_drop]
      rfl
    refine iteD (fun z => ?_) (fun z => ?_)
    · walk_at "rd"
      refine rd_slT ?_
      walk_at "rd"
      refine rd_npT ?_
      refine rd_partT ?_
      walk_at "rd"
      refine ⟨_, rfl, ?_⟩
      refine ⟨p, _, rfl, SqL.of hp3, fun c1 h1 => ?_⟩
      rw [cut_to, ← List.map_take]
      have s4 : Same H3 (L2.upd H3 c1 (.lst ((wds.take k).map V.str))) := same_upd h1
      have k4 : L2.upd H3 c1 (.lst ((wds.take k).map V.str)) c1 = some (.lst ((wds.take k).map V.str)) := upd_same
      generalize L2.upd H3 c1 (.lst ((wds.take k).map V.str)) = H4 at s4 k4
      walk_at "rd"
      refine rd_ixL (SqL.of (s4 _ _ k3)) eo ?_
      walk_at "rd"
      refine ⟨by show 1 ≤ sizeLine; decide, fun c2 h2 => ?_⟩
      refine .inr ⟨c1, c2, _, _, rfl, rfl, same_upd h2 _ _ k4, upd_same, by rw [List.length_map, List.length_take]; show _ + 1 ≤ sizeLine; omega, fun c3 h3 => ?_⟩
      walk_at "rd"
      refine rd_slT ?_
      walk_at "rd"
      refine rd_partT ?_
      walk_at "rd"
      refine ⟨_, rfl, ?_⟩
      refine rd_npT ?_
      refine ⟨p, _, rfl, SqL.of (((same_upd h2).trans (same_upd h3)) _ _ (s4 _ _ hp3)), fun c4 h4 => ?_⟩
      rw [kk]
      refine .inr ⟨c3, c4, _, _, rfl, rfl, same_upd h4 _ _ upd_same, upd_same, ?_, fun c5 h5 => ?_⟩
      · rw [cut_from, List.length_append, List.length_map, List.length_take, List.length_drop, List.length_map, List.length_singleton]
        omega
      walk_at "rd"
      exact put (k + 1) (.inr rfl) H4 s4 c1 k4 c2 h2 _ rfl c3 h3 _ rfl c4 h4 _ rfl c5 h5
    · walk_at "rd"
      refine iteD (fun z => ?_) (fun z => ?_)
      · walk_at "rd"
        refine rd_slT ?_
        walk_at "rd"
        refine rd_npT ?_
        refine rd_partT ?_
        walk_at "rd"
        refine ⟨_, rfl, ?_⟩
        refine ⟨p, _, rfl, SqL.of hp3, fun c1 h1 => ?_⟩
        rw [cut_to, ← List.map_take]
        have s4 : Same H3 (L2.upd H3 c1 (.lst ((wds.take k).map V.str))) := same_upd h1
        have k4 : L2.upd H3 c1 (.lst ((wds.take k).map V.str)) c1 = some (.lst ((wds.take k).map V.str)) := upd_same
        generalize L2.upd H3 c1 (.lst ((wds.take k).map V.str)) = H4 at s4 k4
        walk_at "rd"
        refine rd_ixL (SqL.of (s4 _ _ k3)) eo ?_
        walk_at "rd"
        refine ⟨by show 1 ≤ sizeLine; decide, fun c2 h2 => ?_⟩
        refine .inr ⟨c1, c2, _, _, rfl, rfl, same_upd h2 _ _ k4, upd_same, by rw [List.length_map, List.length_take]; show _ + 1 ≤ sizeLine; omega, fun c3 h3 => ?_⟩
        walk_at "rd"
        refine rd_slT ?_
        walk_at "rd"
        refine rd_partT ?_
        walk_at "rd"
        refine ⟨_, rfl, ?_⟩
        refine rd_npT ?_
        refine ⟨p, _, rfl, SqL.of (((same_upd h2).trans (same_upd h3)) _ _ (s4 _ _ hp3)), fun c4 h4 => ?_⟩
        refine .inr ⟨c3, c4, _, _, rfl, rfl, same_upd h4 _ _ upd_same, upd_same, ?_, fun c5 h5 => ?_⟩
        · rw [cut_from, List.length_append, List.length_map, List.length_take, List.length_drop, List.length_map, List.length_singleton]
          omega
        walk_at "rd"
        exact put k (.inl rfl) H4 s4 c1 k4 c2 h2 _ rfl c3 h3 _ rfl c4 h4 _ rfl c5 h5
      · walk_at "rd"
        refine rd_slT ?_
        walk_at "rd"
        refine rd_npT ?_
        refine rd_partT ?_
        walk_at "rd"
        refine ⟨_, rfl, ?_⟩
        refine ⟨p, _, rfl, SqL.of hp3, fun c1 h1 => ?_⟩
        rw [cut_to, ← List.map_take]
        have s4 : Same H3 (L2.upd H3 c1 (.lst ((wds.take k).map V.str))) := same_upd h1
        have k4 : L2.upd H3 c1 (.lst ((wds.take k).map V.str)) c1 = some (.lst ((wds.take k).map V.str)) := upd_same
        generalize L2.upd H3 c1 (.lst ((wds.take k).map V.str)) = H4 at s4 k4
        walk_at "rd"
        refine rd_slT ?_
        walk_at "rd"
        refine rd_partT ?_
        walk_at "rd"
        refine ⟨_, rfl, ?_⟩
        refine rd_npT ?_
        refine ⟨p, _, rfl, SqL.of (s4 _ _ hp3), fun c4 h4 => ?_⟩
        rw [kk, cut_from]
        refine .inr ⟨c1, c4, _, _, rfl, rfl, same_upd h4 _ _ k4, upd_same, ?_, fun c5 h5 => ?_⟩
        · rw [List.length_map, List.length_take, List.length_drop, List.length_map]
          omega
        walk_at "rd"
        refine q c5 (wds.take k ++ wds.drop (k + 1)) _ (s3.trans (s4.trans ((same_upd h4).trans (same_upd h5)))) ?_ new_cut
        rw [upd_same, List.map_append, List.map_drop]
end
section
variable {P : Program} {w : World} {K : PySem.W.Frag} {mg : Str → Option Value} {base : Heap} {ec : Ec}
theorem rd_repl {y z : Str} {to : TE} {σ : L2.St} {H : Hp} {Q : VK} (q : to σ H fun x H1 => ∃ a : Str, x = .str a ∧ y ≠ z ∧ a.length + (a.length + 1) * z.length ≤ 16777216 ∧ Q (.str (Txt.replace a y z)) H1) : tRepl K y z to σ H Q := q
theorem join_len {c : Nat} : ∀ (l : List Str), 1 ≤ l.length → (Str.join ⟨#[c]⟩ l).length + 1 = (l.map (·.length)).sum + l.length
  | [], h => by simp at h
  | [x], _ => by simp [Str.join]
  | x :: y :: r, _ => by
    show (x ++ ⟨#[c]⟩ ++ Str.join ⟨#[c]⟩ (y :: r)).length + 1 = _
    have e := join_len (c := c) (y :: r) (by simp)
    rw [Str.length_append, Str.length_append]
    have e1 : (⟨#[c]⟩ : Str).length = 1 := rfl
    simp only [List.map_cons, List.sum_cons, List.length_cons] at e ⊢
    omega
structure LsOk (l : List Str) : Prop where
  len : l.length ≤ 12
  tot : tot l ≤ 580
  asc : ∀ x ∈ l, Asc x
theorem LsOk.text {l : List Str} (h : LsOk l) : (Str.join ("\n" : Str) l).length ≤ 640 ∧ Asc (Str.join ("\n" : Str) l) := by
  have e := StrLaws.join_length_le ("\n" : Str) l
  have e1 : ("\n" : Str).length = 1 := by decide +kernel
  have h1 := h.len
  have h2 : (l.map (·.length)).sum ≤ 580 := h.tot
  rw [e1] at e
  exact ⟨by omega, Asc.join (by unfold Asc; decide +kernel) h.asc⟩
theorem tot_set {x : Str} : ∀ (l : List Str) (k : Nat), tot (l.set k x) ≤ tot l + x.length
  | [], _ => by simp [tot]
  | y :: r, 0 => by
    show tot (x :: r) ≤ _
    rw [tot_cons, tot_cons]
    omega
  | y :: r, k + 1 => by
    show tot (y :: r.set k x) ≤ _
    rw [tot_cons, tot_cons]
    have := tot_set (x := x) r k
    omega
theorem mem_set' {x y : Str} {l : List Str} {k : Nat} (h : y ∈ l.set k x) : y ∈ l ∨ y = x := by
  rcases List.mem_or_eq_of_mem_set h with h | h
  · exact .inl h
  · exact .inr h
theorem tot_ins {x : Str} (l : List Str) (k : Nat) : tot (insAt l k x) = tot l + x.length := by
  unfold insAt
  rw [tot_app, tot_cons]
  have := tot_cut l k
  omega
theorem tot_erase : ∀ (l : List Str) (k : Nat), tot (l.eraseIdx k) ≤ tot l
  | [], _ => Nat.le_refl _
  | y :: r, 0 => by
    show tot r ≤ _
    rw [tot_cons]
    omega
  | y :: r, k + 1 => by
    show tot (y :: r.eraseIdx k) ≤ _
    rw [tot_cons, tot_cons]
    have := tot_erase r k
    omega
theorem mem_ins {x y : Str} {l : List Str} {k : Nat} (h : y ∈ insAt l k x) : y ∈ l ∨ y = x := by
  unfold insAt at h
  rw [List.mem_append, List.mem_cons] at h
  rcases h with h | h | h
  · exact .inl (List.mem_of_mem_take h)
  · exact .inr h
  · exact .inl (List.mem_of_mem_drop h)
theorem ins_map (l : List Str) (k : Nat) (x : Str) : insAt (l.map V.str) k (.str x) = (insAt l k x).map V.str := by
  unfold insAt
  rw [List.map_append, List.map_cons, List.map_take, List.map_drop]
theorem ins_len (l : List Str) (k : Nat) (x : Str) : (insAt l k x).length = l.length + 1 := by
  unfold insAt
  rw [List.length_append, List.length_cons, List.length_take, List.length_drop]
  omega
theorem set_map (l : List Str) (k : Nat) (x : Str) : (l.map V.str).set k (.str x) = (l.set k x).map V.str := List.map_set.symm
theorem erase_map : ∀ (l : List Str) (k : Nat), (l.map V.str).eraseIdx k = (l.eraseIdx k).map V.str
  | [], _ => rfl
  | _ :: _, 0 => rfl
  | x :: r, k + 1 => by
    show V.str x :: (r.map V.str).eraseIdx k = _
    rw [erase_map r k]
    rfl
noncomputable def spSpoil : Sp := fun vs H Q _ => ∃ (ps : List Int) (ws : List Wy) (way cell : Int), vs = [.str (shownT ps ws), .int way, .int cell] ∧ Good ps ws ∧ (0 ≤ way ∧ way < 7) ∧ 0 ≤ cell ∧ ∀ (T : Str) (H' : Hp), Same H H' → T.length ≤ 640 → Asc T → Q (.str T) H'
theorem sc_spoil : FnScope ["text", "way", "cell", "lines", "at", "far"] ["text", "way", "cell"] (defScope (top 39)) := ⟨rfl, rfl, rfl, by decide +kernel, rfl, by decide +kernel, by decide +kernel⟩
theorem ok_spoil {f : Addr} {fd : FuncData} (F : Fun K "_law_spoiled" "_law_spoiled" (top 39) f fd) (T : Txt K mg) (c_law_words : Callee P w K mg base CX0 1 "_law_words" ["words", "cell"] spWords) : FnOk P w K mg base CX0 2 f fd ["text", "way", "cell"] spSpoil := by
  refine F.ok sc_spoil (fun vs H Q E h => ?_) (fun cdv A outer s H vs Q E hr h => ?_)
  · obtain ⟨ps, ws, way, cell, rfl, _⟩ := h
    rfl
  · obtain ⟨ps, ws, way, cell, rfl, g, ⟨hw0, hw7⟩, hc, q⟩ := h
    refine ⟨_, (@pss_cons _ _ _ _ _ (@ps_asg _ _ _ _ _ _ (@pe_bm _ _ _ _ _ _ _ _ _ _ _ _ PySem.F.plainAttrs_str PySem.F.slot_str_split PySem.F.type_str_split mt_split (pv 0) (@pa_cons _ _ _ _ _ pe_str pa_nil se_const) (by rfl) (by rfl) (by rfl) (by rfl) (by rfl)) (@pg_name _ _ (3) _ (by walk_at "o") rfl (Or.inl rfl) (by walk_at "n")) (by rfl) (by rfl) (by rfl)) (@pss_cons _ _ _ _ _ (@ps_asg _ _ _ _ _ _ (@pe_op _ _ _ _ _ _ _ _ op_mod (pv 2) (@pe_callB _ _ _ _ _ _ _ _ _ (call_len_seqK (K := K)) rfl T.len PySem.boot_len (@pa_cons _ _ _ _ _ (pv 3) pa_nil se_name) (by decide) (by decide) (se_name) (by rfl))) (@pg_name _ _ (4) _ (by walk_at "o") rfl (Or.inl rfl) (by walk_at "n")) (by rfl) (by rfl) (by rfl)) (@pss_cons _ _ _ _ _ (@ps_asg _ _ _ _ _ _ (@pe_op _ _ _ _ _ _ _ _ op_mod (@pe_op _ _ _ _ _ _ _ _ op_fdiv (pv 2) pe_int) (@pe_callB _ _ _ _ _ _ _ _ _ (call_len_seqK (K := K)) rfl T.len PySem.boot_len (@pa_cons _ _ _ _ _ (pv 3) pa_nil se_name) (by decide) (by decide) (se_name) (by rfl))) (@pg_name _ _ (5) _ (by walk_at "o") rfl (Or.inl rfl) (by walk_at "n")) (by rfl) (by rfl) (by rfl)) (@pss_cons _ _ _ _ _ (@ps_if _ _ _ _ _ _ _ _ (@PW.pt _ _ _ (@pw_or _ _ _ _ _ _ _ (@pt_cmpR _ _ _ _ _ _ _ _ (op_eqU hr.units) (pv 1) pe_int (nomark _)) (@pw_or1 _ _ _ _ (@pt_cmpR _ _ _ _ _ _ _ _ (op_eqU hr.units) (pv 1) pe_int (nomark _))))) (@pss_one _ _ _ (@ps_asg _ _ _ _ _ _ (@pe_bm _ _ _ _ _ _ _ _ _ _ _ _ PySem.F.plainAttrs_str PySem.F.slot_str_join PySem.F.type_str_join mt_join pe_str (@pa_cons _ _ _ _ _ (@pe_callC _ _ _ _ _ _ _ _ _ _ _ _ c_law_words (hr.mono (by decide)) pass0 rfl (@pa_cons _ _ _ _ _ (@pe_bm _ _ _ _ _ _ _ _ _ _ _ _ PySem.F.plainAttrs_str PySem.F.slot_str_split PySem.F.type_str_split mt_split (@pe_ix _ _ _ _ _ _ _ (ix_seqK (K := K)) (pv 3) (pv 4) (fun _ _ => rfl)) (@pa_cons _ _ _ _ _ pe_str pa_nil se_const) (by rfl) (by rfl) (by rfl) (by rfl) (by rfl)) (@pa_cons _ _ _ _ _ (@pe_op _ _ _ _ _ _ _ _ op_fdiv (pv 2) pe_int) pa_nil se_binop) se_call) (by decide) (se_call) (by rfl)) pa_nil se_call) (by rfl) (by rfl) (by rfl) (by rfl) (by rfl)) (@pg_sub _ _ _ _ _ _ _ (pv 3) (pv 4) set_list (by intro _; rfl)) (by rfl) (by rfl) (by rfl))) pss_nil) (@pss_cons _ _ _ _ _ (@ps_if _ _ _ _ _ _ _ _ (@pt_cmpR _ _ _ _ _ _ _ _ (op_eqU hr.units) (pv 1) pe_int (nomark _)) (@pss_one _ _ _ (@ps_expr _ _ _ _ (@pe_bm _ _ _ _ _ _ _ _ _ _ _ _ PySem.F.plainAttrs_list PySem.F.slot_list_insert PySem.F.type_list_insert mt_insert (pv 3) (@pa_cons _ _ _ _ _ (pv 5) (@pa_cons _ _ _ _ _ (@pe_ix _ _ _ _ _ _ _ (ix_seqK (K := K)) (pv 3) (pv 4) (fun _ _ => rfl)) pa_nil se_sub) se_name) (by rfl) (by rfl) (by rfl) (by rfl) (by rfl)) (by rfl))) pss_nil) (@pss_cons _ _ _ _ _ (@ps_if _ _ _ _ _ _ _ _ (@pt_cmpR _ _ _ _ _ _ _ _ (op_eqU hr.units) (pv 1) pe_int (nomark _)) (@pss_one _ _ _ (@ps_expr _ _ _ _ (@pe_bm _ _ _ _ _ _ _ _ _ _ _ _ PySem.F.plainAttrs_list PySem.F.slot_list_insert PySem.F.type_list_insert mt_insert (pv 3) (@pa_cons _ _ _ _ _ (pv 5) (@pa_cons _ _ _ _ _ (@pe_bm _ _ _ _ _ _ _ _ _ _ _ _ PySem.F.plainAttrs_list PySem.F.slot_list_pop PySem.F.type_list_pop mt_popAt (pv 3) (@pa_cons _ _ _ _ _ (pv 4) pa_nil se_name) (by rfl) (by rfl) (by rfl) (by rfl) (by rfl)) pa_nil se_call) se_name) (by rfl) (by rfl) (by rfl) (by rfl) (by rfl)) (by rfl))) pss_nil) (@pss_cons _ _ _ _ _ (@ps_if _ _ _ _ _ _ _ _ (@pt_cmpR _ _ _ _ _ _ _ _ (op_eqU hr.units) (pv 1) pe_int (nomark _)) (@pss_one _ _ _ (@ps_asg _ _ _ _ _ _ (@pe_ix _ _ _ _ _ _ _ (ix_seqK (K := K)) (@pe_lst _ _ _ _ (pa_first (pet_add (@pe_ix _ _ _ _ _ _ _ (ix_seqK (K := K)) (pv 3) (pv 4) (fun _ _ => rfl))) (pa1_cons (PE.one (@pe_op _ _ _ _ _ _ _ _ op_add_str (@pe_ix _ _ _ _ _ _ _ (ix_seqK (K := K)) (pv 3) (pv 4) (fun _ _ => rfl)) pe_str)) (pa1_cons (pe_repl (@pe_ix _ _ _ _ _ _ _ (ix_seqK (K := K)) (pv 3) (pv 4) (fun _ _ => rfl))) (pa1_cons (PE.one pe_str) pa1_nil se_const) se_call) se_binop) se_binop)) (@pe_op _ _ _ _ _ _ _ _ op_mod (pv 5) pe_int) (fun _ _ => rfl)) (@pg_sub _ _ _ _ _ _ _ (pv 3) (pv 4) set_list (by intro _; rfl)) (by rfl) (by rfl) (by rfl))) pss_nil) (@pss_cons _ _ _ _ _ (@ps_if _ _ _ _ _ _ _ _ (@pt_cmpR _ _ _ _ _ _ _ _ (op_eqU hr.units) (pv 1) pe_int (nomark _)) (@pss_one _ _ _ (@ps_ret _ _ _ _ (@pe_ix _ _ _ _ _ _ _ (ix_seqK (K := K)) (@pe_lst _ _ _ _ (@pa_cons _ _ _ _ _ (@pe_op _ _ _ _ _ _ _ _ op_add_str pe_str (pv 0)) (@pa_cons _ _ _ _ _ (@pe_op _ _ _ _ _ _ _ _ op_add_str (pv 0) pe_str) (@pa_cons _ _ _ _ _ pe_str (@pa_cons _ _ _ _ _ pe_str pa_nil se_const) se_const) se_binop) se_binop)) (@pe_op _ _ _ _ _ _ _ _ op_mod (pv 5) pe_int) (fun _ _ => rfl)))) pss_nil) (@pss_one _ _ _ (@ps_ret _ _ _ _ (@pe_bm _ _ _ _ _ _ _ _ _ _ _ _ PySem.F.plainAttrs_str PySem.F.slot_str_join PySem.F.type_str_join mt_join pe_str (@pa_cons _ _ _ _ _ (pv 3) pa_nil se_name) (by rfl) (by rfl) (by rfl) (by rfl) (by rfl)))))))))))), ?_⟩
    have hz : sizeLine = 16777216 := rfl
    have sl := shown_len g
    have sa := shown_asc g
    have lns := lines_of g
    have lo := line_lens g
    have ll : (addNs ("people" : Str) ps :: ws.map lineW).length ≤ 11 ∧ 1 ≤ (addNs ("people" : Str) ps :: ws.map lineW).length := by
      have := g.w10
      rw [List.length_cons, List.length_map]
      omega
    have al : ∀ x ∈ addNs ("people" : Str) ps :: ws.map lineW, Asc x := fun x hx => sa.split (sep := ("\n" : Str)) (by rw [lns]; exact hx)
    generalize addNs ("people" : Str) ps :: ws.map lineW = ls at lns lo ll al
    have lt : tot ls ≤ 440 := by
      have b := StrLaws.sumLen_le (B := 40) ls lo
      unfold tot
      omega
    generalize shownT ps ws = tx at sl sa lns
    walk_at "rd"
    refine ⟨rfl, ?_⟩
    walk_at "rd"
    refine ⟨_, _, rfl, rfl, by decide +kernel, by omega, fun p hp => ?_⟩
    rw [lns]
    have s1 : Same H (L2.upd H p (.lst (ls.map V.str))) := same_upd hp
    have k1 : L2.upd H p (.lst (ls.map V.str)) p = some (.lst (ls.map V.str)) := upd_same
    generalize L2.upd H p (.lst (ls.map V.str)) = H1 at s1 k1
    have lm : (ls.map V.str).length = ls.length := List.length_map _
    walk_at "rd"
    refine ⟨p, _, rfl, .inl (SqL.of k1), ?_⟩
    rw [lm]
    walk_at "rd"
    refine ⟨p, _, rfl, .inl (SqL.of k1), ?_⟩
    rw [lm]
    walk_at "ra"
    have ma : 0 ≤ cell % (ls.length : Int) ∧ cell % (ls.length : Int) < ls.length := ⟨Int.emod_nonneg _ (by omega), Int.emod_lt_of_pos _ (by omega)⟩
    have mf : 0 ≤ cell / 11 % (ls.length : Int) ∧ cell / 11 % (ls.length : Int) < ls.length := ⟨Int.emod_nonneg _ (by omega), Int.emod_lt_of_pos _ (by omega)⟩
    obtain ⟨k, ek⟩ := Int.eq_ofNat_of_zero_le ma.1
    obtain ⟨j, ej⟩ := Int.eq_ofNat_of_zero_le mf.1
    have ek : cell % (ls.length : Int) = (k : Nat) := ek
    have ej : cell / 11 % (ls.length : Int) = (j : Nat) := ej
    rw [ek] at ma ⊢
    rw [ej] at mf ⊢
    have hk : k < ls.length := by omega
    have hj : j < ls.length := by omega
    have ik : ixN (ls.map V.str).length (k : Int) = some k := by
      unfold ixN
      rw [if_pos (by omega), if_pos (by rw [lm]; omega), Int.toNat_natCast]
    have ax : atI (ls.map V.str) (k : Int) = some (.str ls[k]) := atI_nat (by rw [List.getElem?_map, List.getElem?_eq_getElem hk]; rfl)
    have mk := List.getElem_mem hk
    have lk := lo _ mk
    have ak := al _ mk
    have fin : ∀ (l : List Str) (H' : Hp), Same H H' → H' p = some (.lst (l.map V.str)) → LsOk l → rJoin (.str ("\n" : Str)) [.ref p] H' Q := fun l H' s' k' ok => by
      have e := ok.text
      have h1 := ok.len
      have h2 := ok.tot
      unfold tot at h2
      exact ⟨_, p, l, rfl, rfl, k', by decide +kernel, by omega, q _ H' s' e.1 e.2⟩
    have put : ∀ (x : Str), x.length ≤ 130 → Asc x → LsOk (ls.set k x) := fun x h1 h2 => by
      have e := tot_set (x := x) ls k
      refine ⟨by rw [List.length_set]; omega, by omega, fun y hy => ?_⟩
      rcases mem_set' hy with hy | rfl
      · exact al y hy
      · exact h2
    have cs : (way = 1 ∨ way = 2) ∨ way = 3 ∨ way = 4 ∨ way = 5 ∨ way = 6 ∨ way = 0 := by omega
    rcases cs with hw | hw | hw | hw | hw | hw
    · have sp := split_pos ls[k] (" " : Str)
      have sle := split_le ls[k] (" " : Str)
      have wa : ∀ x ∈ Txt.split ls[k] (" " : Str), Asc x := fun x hx => ak.split hx
      have wt : tot (Txt.split ls[k] (" " : Str)) + (Txt.split ls[k] (" " : Str)).length ≤ 41 := by
        have e := StrLaws.join_split ls[k] (" " : Str)
        have e2 := congrArg Str.length e
        have e3 := join_len (c := 32) (Txt.split ls[k] (" " : Str)) sp
        rw [← blank_is] at e3
        rw [e2] at e3
        unfold tot
        omega
      rcases hw with rfl | rfl
      all_goals
        walk_at "ro"
        refine ⟨rfl, ?_⟩
        walk_at "ro"
        refine rd_ixL (SqL.of k1) ax ?_
        refine ⟨rfl, ?_⟩
        walk_at "ro"
        refine ⟨_, _, rfl, rfl, by decide +kernel, by omega, fun l1 hl1 => ?_⟩
        have s2 : Same H1 (L2.upd H1 l1 (.lst ((Txt.split ls[k] (" " : Str)).map V.str))) := same_upd hl1
        have k2 : L2.upd H1 l1 (.lst ((Txt.split ls[k] (" " : Str)).map V.str)) l1 = some (.lst ((Txt.split ls[k] (" " : Str)).map V.str)) := upd_same
        generalize L2.upd H1 l1 (.lst ((Txt.split ls[k] (" " : Str)).map V.str)) = H2 at s2 k2
        walk_at "ro"
        refine ⟨l1, _, _, rfl, k2, sp, by omega, Int.ediv_nonneg hc (by decide), fun l2 us H3 s3 k3 nw => ?_⟩
        have nt := nw.tot
        have nl := nw.len
        walk_at "ro"
        refine ⟨_, l2, us, rfl, rfl, k3, by decide +kernel, ?_, ?_⟩
        · unfold tot at nt wt
          omega
        walk_at "ro"
        refine ⟨p, _, _, k, rfl, rfl, s3 _ _ (s2 _ _ k1), ik, ?_⟩
        rw [set_map]
        have jl := StrLaws.join_length_le (" " : Str) us
        have e1 : (" " : Str).length = 1 := by decide +kernel
        rw [e1] at jl
        have ok := put (Str.join (" " : Str) us) (by unfold tot at nt wt; omega) (Asc.join (by unfold Asc; decide +kernel) (nw.asc wa))
        have s4 : Same H (L2.upd H3 p (.lst ((ls.set k (Str.join (" " : Str) us)).map V.str))) := same_to ((s1.trans s2).trans s3) hp
        have k4 : L2.upd H3 p (.lst ((ls.set k (Str.join (" " : Str) us)).map V.str)) p = some (.lst ((ls.set k (Str.join (" " : Str) us)).map V.str)) := upd_same
        generalize L2.upd H3 p (.lst ((ls.set k (Str.join (" " : Str) us)).map V.str)) = H4 at s4 k4
        walk_at "ro"
        refine ⟨rfl, ?_⟩
        walk_at "ro"
        exact fin _ H4 s4 k4 ok
    · subst hw
      walk_at "ro"
      refine ⟨.inl ⟨rfl, _, SqL.of k1⟩, ?_⟩
      walk_at "ro"
      refine rd_ixL (SqL.of k1) ax ?_
      refine ⟨p, _, _, _, rfl, rfl, k1, by omega, by rw [lm]; omega, by rw [lm]; omega, ?_⟩
      rw [Int.toNat_natCast, ins_map]
      have s4 : Same H (L2.upd H1 p (.lst ((insAt ls j ls[k]).map V.str))) := same_to s1 hp
      have k4 : L2.upd H1 p (.lst ((insAt ls j ls[k]).map V.str)) p = some (.lst ((insAt ls j ls[k]).map V.str)) := upd_same
      generalize L2.upd H1 p (.lst ((insAt ls j ls[k]).map V.str)) = H4 at s4 k4
      walk_at "ro"
      refine ⟨rfl, ?_⟩
      walk_at "ro"
      refine fin _ H4 s4 k4 ⟨by rw [ins_len]; omega, by rw [tot_ins]; omega, fun x hx => ?_⟩
      rcases mem_ins hx with hx | rfl
      · exact al x hx
      · exact ak
    · subst hw
      walk_at "ro"
      refine ⟨.inl ⟨rfl, _, SqL.of k1⟩, ?_⟩
      walk_at "ro"
      refine ⟨.inl ⟨rfl, _, SqL.of k1⟩, ?_⟩
      walk_at "ro"
      refine ⟨p, _, _, k, .str ls[k], rfl, rfl, k1, by omega, by omega, ?_, by rw [List.getElem?_map, List.getElem?_eq_getElem hk]; rfl, ?_⟩
      · rw [lm, StrLaws.seqIndex_nonneg (by omega) (by omega), Int.toNat_natCast]
      rw [erase_map]
      have s3 : Same H (L2.upd H1 p (.lst ((ls.eraseIdx k).map V.str))) := same_to s1 hp
      have k3 : L2.upd H1 p (.lst ((ls.eraseIdx k).map V.str)) p = some (.lst ((ls.eraseIdx k).map V.str)) := upd_same
      generalize L2.upd H1 p (.lst ((ls.eraseIdx k).map V.str)) = H3 at s3 k3
      have le : (ls.eraseIdx k).length = ls.length - 1 := List.length_eraseIdx_of_lt hk
      walk_at "ro"
      refine ⟨p, _, _, _, rfl, rfl, k3, by omega, by rw [List.length_map, le]; omega, by rw [List.length_map, le]; omega, ?_⟩
      rw [Int.toNat_natCast, ins_map]
      have s4 : Same H (L2.upd H3 p (.lst ((insAt (ls.eraseIdx k) j ls[k]).map V.str))) := same_to s3 hp
      have k4 : L2.upd H3 p (.lst ((insAt (ls.eraseIdx k) j ls[k]).map V.str)) p = some (.lst ((insAt (ls.eraseIdx k) j ls[k]).map V.str)) := upd_same
      generalize L2.upd H3 p (.lst ((insAt (ls.eraseIdx k) j ls[k]).map V.str)) = H4 at s4 k4
      walk_at "ro"
      refine ⟨rfl, ?_⟩
      walk_at "ro"
      have te := tot_erase ls k
      refine fin _ H4 s4 k4 ⟨by rw [ins_len]; omega, by rw [tot_ins]; omega, fun x hx => ?_⟩
      rcases mem_ins hx with hx | rfl
      · exact al x (List.mem_of_mem_eraseIdx hx)
      · exact ak
    · subst hw
      have b1 : (" " : Str).length = 1 := by decide +kernel
      have b2 : ("  " : Str).length = 2 := by decide +kernel
      have ba : Asc (" " : Str) := by unfold Asc; decide +kernel
      have ba2 : Asc ("  " : Str) := by unfold Asc; decide +kernel
      walk_at "ro"
      refine rd_ixL (SqL.of k1) ax ?_
      refine ⟨_, _, rfl, rfl, by omega, ?_⟩
      walk_at "ro"
      refine rd_ixL (SqL.of k1) ax ?_
      walk_at "ro"
      refine ⟨_, _, rfl, rfl, by omega, ?_⟩
      walk_at "ro"
      refine rd_repl ?_
      walk_at "ro"
      refine rd_ixL (SqL.of k1) ax ?_
      refine ⟨_, rfl, by decide +kernel, by rw [b2]; omega, ?_⟩
      walk_at "ro"
      refine ⟨by show 4 ≤ sizeLine; decide, fun a hA => ?_⟩
      have m4 : 0 ≤ (j : Int) % 4 ∧ (j : Int) % 4 < 4 := ⟨Int.emod_nonneg _ (by decide), Int.emod_lt_of_pos _ (by decide)⟩
      obtain ⟨x, hx, ex⟩ := atI_strs (l := [(" " : Str) ++ ls[k], ls[k] ++ (" " : Str), Txt.replace ls[k] (" " : Str) ("  " : Str), ("" : Str)]) (i := (j : Int) % 4) m4.1 m4.2
      have xx : x.length ≤ 130 ∧ Asc x := by
        simp only [List.mem_cons, List.not_mem_nil, or_false] at hx
        rcases hx with rfl | rfl | rfl | rfl
        · exact ⟨by rw [Str.length_append]; omega, ba.app ak⟩
        · exact ⟨by rw [Str.length_append]; omega, ak.app ba⟩
        · exact ⟨by have := replace_len ls[k] (" " : Str) ("  " : Str); rw [b2] at this; omega, ak.replace ba2⟩
        · exact ⟨by decide +kernel, by unfold Asc; decide +kernel⟩
      walk_at "ro"
      refine rd_ixL (SqL.of upd_same) ex ?_
      walk_at "ro"
      have sA : Same H1 (L2.upd H1 a (.lst [.str ((" " : Str) ++ ls[k]), .str (ls[k] ++ (" " : Str)), .str (Txt.replace ls[k] (" " : Str) ("  " : Str)), .str ("" : Str)])) := same_upd hA
      refine ⟨p, _, _, k, rfl, rfl, sA _ _ k1, ik, ?_⟩
      rw [set_map]
      have s4 := same_to (o := .lst ((ls.set k x).map V.str)) (s1.trans sA) hp
      generalize eH4 : L2.upd (L2.upd H1 a (.lst [.str ((" " : Str) ++ ls[k]), .str (ls[k] ++ (" " : Str)), .str (Txt.replace ls[k] (" " : Str) ("  " : Str)), .str ("" : Str)])) p (.lst ((ls.set k x).map V.str)) = H4 at s4
      have k4 : H4 p = some (.lst ((ls.set k x).map V.str)) := by rw [← eH4, upd_same]
      walk_at "ro"
      refine ⟨rfl, ?_⟩
      walk_at "ro"
      exact fin _ H4 s4 k4 (put x xx.1 xx.2)
    · subst hw
      have b1 : ("\n" : Str).length = 1 := by decide +kernel
      have ba : Asc ("\n" : Str) := by unfold Asc; decide +kernel
      walk_at "ro"
      refine ⟨_, _, rfl, rfl, by omega, ?_⟩
      walk_at "ro"
      refine ⟨_, _, rfl, rfl, by omega, ?_⟩
      walk_at "ro"
      refine ⟨by show 4 ≤ sizeLine; decide, fun a hA => ?_⟩
      have m4 : 0 ≤ (j : Int) % 4 ∧ (j : Int) % 4 < 4 := ⟨Int.emod_nonneg _ (by decide), Int.emod_lt_of_pos _ (by decide)⟩
      obtain ⟨x, hx, ex⟩ := atI_strs (l := [("\n" : Str) ++ tx, tx ++ ("\n" : Str), ("" : Str), ("people" : Str)]) (i := (j : Int) % 4) m4.1 m4.2
      have xx : x.length ≤ 640 ∧ Asc x := by
        simp only [List.mem_cons, List.not_mem_nil, or_false] at hx
        rcases hx with rfl | rfl | rfl | rfl
        · exact ⟨by rw [Str.length_append]; omega, ba.app sa⟩
        · exact ⟨by rw [Str.length_append]; omega, sa.app ba⟩
        · exact ⟨by decide +kernel, by unfold Asc; decide +kernel⟩
        · exact ⟨by decide +kernel, by unfold Asc; decide +kernel⟩
      walk_at "ro"
      refine rd_ixL (SqL.of upd_same) ex ?_
      walk_at "ro"
      exact q x _ (s1.trans (same_upd hA)) xx.1 xx.2
    · subst hw
      walk_at "ro"
      refine ⟨rfl, ?_⟩
      walk_at "ro"
      exact fin ls H1 s1 k1 ⟨by omega, by omega, al⟩
end
section
variable {P : Program} {w : World} {K : PySem.W.Frag} {mg : Str → Option Value} {base : Heap} {ec : Ec}
noncomputable def spLine : Sp := fun vs H Q _ => ∃ (line name : Str), vs = [.str line, .str name] ∧ line.length ≤ 640 ∧ 32 ∉ name.cps.toList ∧ (∀ ns, LineIs name line ns → ∀ (l : Addr) (H' : Hp), Same H H' → H l = none → H' l = some (.lst (ns.map V.int)) → Q (.ref l) H') ∧
  ((¬ ∃ ns, LineIs name line ns) → ∀ H', Same H H' → Q .non H')
theorem sc_line : FnScope ["line", "name", "words", "numbers", "word"] ["line", "name"] (defScope (top 40)) := ⟨rfl, rfl, rfl, by decide +kernel, rfl, by decide +kernel, by decide +kernel⟩
theorem ok_line {f : Addr} {fd : FuncData} (F : Fun K "_law_line" "_law_line" (top 40) f fd) (T : Txt K mg) : FnOk P w K mg base CX0 1 f fd ["line", "name"] spLine := by
  refine F.ok sc_line (fun vs H Q E h => ?_) (fun cdv A outer s H vs Q E hr h => ?_)
  · obtain ⟨line, name, rfl, _⟩ := h
    rfl
  · obtain ⟨line, name, rfl, ll, nb, qs, qn⟩ := h
    refine ⟨_, (@pss_cons _ _ _ _ _ (@ps_asg _ _ _ _ _ _ (@pe_bm _ _ _ _ _ _ _ _ _ _ _ _ PySem.F.plainAttrs_str PySem.F.slot_str_split PySem.F.type_str_split mt_split (pv 0) (@pa_cons _ _ _ _ _ pe_str pa_nil se_const) (by rfl) (by rfl) (by rfl) (by rfl) (by rfl)) (@pg_name _ _ (2) _ (by walk_at "o") rfl (Or.inl rfl) (by walk_at "n")) (by rfl) (by rfl) (by rfl)) (@pss_cons _ _ _ _ _ (@ps_if _ _ _ _ _ _ _ _ (@pt_cmpR _ _ _ _ _ _ _ _ (op_neU hr.units) (@pe_ix _ _ _ _ _ _ _ (ix_seqK (K := K)) (pv 2) pe_int (fun _ _ => rfl)) (pv 1) (nomark _)) (@pss_one _ _ _ (@ps_ret _ _ _ _ pe_non)) pss_nil) (@pss_cons _ _ _ _ _ (@ps_asg _ _ _ _ _ _ (@pe_lst _ _ _ _ pa_nil) (@pg_name _ _ (3) _ (by walk_at "o") rfl (Or.inl rfl) (by walk_at "n")) (by rfl) (by rfl) (by rfl)) (@pss_cons _ _ _ _ _ (@ps_for _ _ _ _ _ _ _ _ PassesOwn.never rfl (@pi_seqK _ (K) _ _ _ (@pe_slice _ _ _ _ _ _ _ _ _ _ (sl_listK (K := K)) (pv 2) (@po_some _ _ _ pe_int) po_none) (by rfl)) (@pg_name _ _ (4) _ (by walk_at "o") rfl (Or.inl rfl) (by walk_at "n")) (@pss_cons _ _ _ _ _ (@ps_if _ _ _ _ _ _ _ _ (@PW.pt _ _ _ (@pw_or _ _ _ _ _ _ _ (@pt_cmpR _ _ _ _ _ _ _ _ (op_neU hr.units) (@pe_callB _ _ _ _ _ _ _ _ _ call_len_str rfl T.len PySem.boot_len (@pa_cons _ _ _ _ _ (pv 4) pa_nil se_name) (by decide) (by decide) (se_name) (by rfl)) pe_int (nomark _)) (@pw_or1 _ _ _ _ (@pt_cmpR _ _ _ _ _ _ _ _ op_notInT (pv 4) pe_str (by with_unfolding_all rfl))))) (@pss_one _ _ _ (@ps_ret _ _ _ _ pe_non)) pss_nil) (@pss_one _ _ _ (@ps_expr _ _ _ _ (@pe_bm _ _ _ _ _ _ _ _ _ _ _ _ PySem.F.plainAttrs_list PySem.F.slot_list_append PySem.F.type_list_append mt_append (pv 3) (@pa_cons _ _ _ _ _ (@pe_bm _ _ _ _ _ _ _ _ _ _ _ _ PySem.F.plainAttrs_str PySem.F.slot_str_index PySem.F.type_str_index mt_indexT pe_str (@pa_cons _ _ _ _ _ (pv 4) pa_nil se_name) (by rfl) (by rfl) (by rfl) (by rfl) (by rfl)) pa_nil se_call) (by rfl) (by rfl) (by rfl) (by rfl) (by rfl)) (by rfl)))) (by intro _; rfl)) (@pss_one _ _ _ (@ps_ret _ _ _ _ (pv 3))))))), ?_⟩
    have hz : sizeLine = 16777216 := rfl
    have sp := split_pos line (" " : Str)
    have sl := split_le line (" " : Str)
    have pt : ∀ x ∈ Txt.split line (" " : Str), x.length ≤ line.length := fun x hx => part_short hx
    obtain ⟨w0, rest, eqw⟩ : ∃ w0 rest, Txt.split line (" " : Str) = w0 :: rest := by
      cases e : Txt.split line (" " : Str) with
      | nil => rw [e] at sp; simp at sp
      | cons a r => exact ⟨a, r, rfl⟩
    rw [eqw] at sl pt
    rw [List.length_cons] at sl
    walk_at "rd"
    refine ⟨rfl, ?_⟩
    walk_at "rd"
    refine ⟨_, _, rfl, rfl, by decide +kernel, by omega, fun l1 hl1 => ?_⟩
    rw [eqw]
    have s1 : Same H (L2.upd H l1 (.lst ((w0 :: rest).map V.str))) := same_upd hl1
    have k1 : L2.upd H l1 (.lst ((w0 :: rest).map V.str)) l1 = some (.lst ((w0 :: rest).map V.str)) := upd_same
    generalize L2.upd H l1 (.lst ((w0 :: rest).map V.str)) = H1 at s1 k1
    walk_at "rd"
    refine rd_ixL (SqL.of k1) (atI_nat (j := 0) rfl) ?_
    walk_at "rd"
    refine .inl ⟨rfl, ?_⟩
    walk_at "rd"
    refine iteDN (fun z => ?_) (fun z => ?_)
    · walk_at "rd"
      refine qn (fun ⟨ns, li⟩ => z ?_) H1 s1
      have e := li.words nb
      rw [eqw] at e
      rw [(List.cons.inj e).1]
    have e0 : w0 = name := V.str.inj z
    subst e0
    walk_at "rd"
    refine ⟨by show 0 ≤ sizeLine; decide, fun nl hnl => ?_⟩
    have s2 : Same H (L2.upd H1 nl (.lst [])) := s1.trans (same_upd hnl)
    have k2 : L2.upd H1 nl (.lst []) l1 = some (.lst ((w0 :: rest).map V.str)) := same_upd hnl _ _ k1
    have kn : L2.upd H1 nl (.lst []) nl = some (.lst []) := upd_same
    have fn : H nl = none := s1.free hnl
    generalize L2.upd H1 nl (.lst []) = H2 at s2 k2 kn
    walk_at "rd"
    refine rd_forS ?_
    walk_at "rd"
    refine rd_slT ?_
    walk_at "rd"
    refine rd_partT ?_
    walk_at "rd"
    refine ⟨_, rfl, ?_⟩
    refine rd_npT ?_
    refine ⟨l1, _, rfl, SqL.of k2, fun l2 hl2 => ?_⟩
    rw [cut_tail (by simp)]
    have e3 : (List.map V.str (w0 :: rest)).tail = rest.map V.str := rfl
    rw [e3]
    have s3 : Same H (L2.upd H2 l2 (.lst (rest.map V.str))) := s2.trans (same_upd hl2)
    have k3 : L2.upd H2 l2 (.lst (rest.map V.str)) l2 = some (.lst (rest.map V.str)) := upd_same
    have kn3 : L2.upd H2 l2 (.lst (rest.map V.str)) nl = some (.lst []) := same_upd hl2 _ _ kn
    have n2 : l2 ≠ nl := (ne_of_none kn hl2).symm
    generalize L2.upd H2 l2 (.lst (rest.map V.str)) = H3 at s3 k3 kn3
    refine ⟨l2, rfl, .inl ⟨⟨_, SqL.of k3⟩, forL (xs := rest.map V.str) (fun i σ H4 => ∃ v ns, σ = [some (.str line), some (.str w0), some (.ref l1), some (.ref nl), v] ∧ Same H H4 ∧ H4 l2 = some (.lst (rest.map V.str)) ∧ H4 nl = some (.lst (List.map V.int ns)) ∧ Digs ns ∧ rest.take i = ns.map numT) ⟨none, [], rfl, s3, k3, kn3, fun n hn => by simp at hn, rfl⟩
      (fun i σ H4 _ ⟨_, _, _, _, k4, _⟩ => SqL.of k4) ?_ ?_⟩⟩
    · rintro i y σ H4 hy ⟨v, ns, rfl, s4, k4, kn4, dg, et⟩
      rw [List.getElem?_map] at hy
      obtain ⟨x, hx, rfl⟩ := Option.map_eq_some_iff.mp hy
      have mx := List.mem_of_getElem? hx
      have lx := pt x (List.mem_cons_of_mem _ mx)
      have hi : i < rest.length := (List.getElem?_eq_some_iff.mp hx).1
      have nlen : ns.length ≤ 700 := by
        have := congrArg List.length et
        rw [List.length_take, List.length_map] at this
        omega
      have no : (∀ n : Int, 0 ≤ n → n ≤ 9 → x ≠ numT n) → ¬ ∃ ns, LineIs w0 line ns := fun hn ⟨ms, li⟩ => by
        have e := li.words nb
        rw [eqw] at e
        rw [(List.cons.inj e).2] at mx
        obtain ⟨n, hm, en⟩ := List.mem_map.mp mx
        exact hn n (li.1 n hm).1 (li.1 n hm).2 en.symm
      walk_at "rd"
      refine ⟨x, rfl, by omega, ?_⟩
      walk_at "rd"
      refine iteDN (fun z => ?_) (fun z => ?_)
      · walk_at "rd"
        refine qn (no fun n h0 h1 e => z ?_) H4 s4
        rw [e, numT_len h0 h1]
        rfl
      have l1' : x.length = 1 := by omega
      walk_at "rd"
      refine ⟨_, _, rfl, rfl, ?_⟩
      rcases dig_word l1' with ⟨m, hm, ex, ec, rs, eo⟩ | ⟨ec, en⟩
      · rw [ec]
        walk_at "rd"
        refine ⟨.inl ⟨rfl, _, SqL.of kn4⟩, ?_⟩
        walk_at "rd"
        refine ⟨rfl, ?_⟩
        walk_at "rd"
        refine ⟨_, x, m, rs, rfl, rfl, eo, ?_⟩
        walk_at "rd"
        refine ⟨nl, _, _, rfl, rfl, kn4, by rw [List.length_map]; omega, ?_⟩
        walk_at "rd"
        refine ⟨_, ns ++ [(m : Int)], rfl, same_to s4 fn, ?_, ?_, fun n hn => ?_, ?_⟩
        · rw [upd_ne n2]; exact k4
        · rw [upd_same, List.map_append]; rfl
        · rw [List.mem_append, List.mem_singleton] at hn
          rcases hn with hn | rfl
          · exact dg n hn
          · omega
        · rw [List.take_add_one, hx, et, List.map_append]
          show _ ++ [x] = _ ++ [numT (m : Int)]
          rw [ex]
      · rw [ec]
        walk_at "rd"
        exact qn (no en) H4 s4
    · rintro σ H4 ⟨v, ns, rfl, s4, k4, kn4, dg, et⟩
      rw [List.length_map, List.take_length] at et
      walk_at "rd"
      exact qs ns (LineIs.mk dg (by rw [eqw, et])) nl H4 s4 fn kn4
noncomputable def spDue : Sp := fun vs H Q _ => ∃ tx : Str, vs = [.str tx] ∧ tx.length ≤ 640 ∧ (∀ ps ws, IsText tx ps ws → ∀ (tp p lw : Addr) (xs : List V) (H' : Hp), Same H H' → PlotIn H' tp p lw ps xs ws → Q (.ref tp) H') ∧ ((¬ ∃ ps ws, IsText tx ps ws) → ∀ H', Same H H' → Q .non H')
theorem sc_due : FnScope ["text", "lines", "people", "ways", "line", "row"] ["text"] (defScope (top 41)) := ⟨rfl, rfl, rfl, by decide +kernel, rfl, by decide +kernel, by decide +kernel⟩
theorem ok_due {f : Addr} {fd : FuncData} (F : Fun K "_law_due" "_law_due" (top 41) f fd) (T : Txt K mg) (c_law_line : Callee P w K mg base CX0 1 "_law_line" ["line", "name"] spLine) : FnOk P w K mg base CX0 2 f fd ["text"] spDue := by
  refine F.ok sc_due (fun vs H Q E h => ?_) (fun cdv A outer s H vs Q E hr h => ?_)
  · obtain ⟨tx, rfl, _⟩ := h
    rfl
  · obtain ⟨tx, rfl, lt, qg, qn⟩ := h
    refine ⟨_, (@pss_cons _ _ _ _ _ (@ps_asg _ _ _ _ _ _ (@pe_bm _ _ _ _ _ _ _ _ _ _ _ _ PySem.F.plainAttrs_str PySem.F.slot_str_split PySem.F.type_str_split mt_split (pv 0) (@pa_cons _ _ _ _ _ pe_str pa_nil se_const) (by rfl) (by rfl) (by rfl) (by rfl) (by rfl)) (@pg_name _ _ (1) _ (by walk_at "o") rfl (Or.inl rfl) (by walk_at "n")) (by rfl) (by rfl) (by rfl)) (@pss_cons _ _ _ _ _ (@ps_asg _ _ _ _ _ _ (@pe_callC _ _ _ _ _ _ _ _ _ _ _ _ c_law_line (hr.mono (by decide)) pass0 rfl (@pa_cons _ _ _ _ _ (@pe_ix _ _ _ _ _ _ _ (ix_seqK (K := K)) (pv 1) pe_int (fun _ _ => rfl)) (@pa_cons _ _ _ _ _ pe_str pa_nil se_const) se_sub) (by decide) (se_sub) (by rfl)) (@pg_name _ _ (2) _ (by walk_at "o") rfl (Or.inl rfl) (by walk_at "n")) (by rfl) (by rfl) (by rfl)) (@pss_cons _ _ _ _ _ (@ps_if _ _ _ _ _ _ _ _ (@PW.pt _ _ _ (@pw_or _ _ _ _ _ _ _ (@pt_cmp _ _ _ _ _ _ (@pc_isN _ _ _ _ _ (pv 2)) (by first | exact nobehind _ (by decide) (by decide) | rfl)) (@pw_or _ _ _ _ _ _ _ (@pt_not _ _ _ _ (@pt_chain _ _ _ _ _ _ _ _ _ _ _ _ op_le op_le pe_int (@pe_callB _ _ _ _ _ _ _ _ _ (call_len_seqK (K := K)) rfl T.len PySem.boot_len (@pa_cons _ _ _ _ _ (pv 2) pa_nil se_name) (by decide) (by decide) (se_name) (by rfl)) pe_int (by with_unfolding_all rfl))) (@pw_or1 _ _ _ _ (@pt_cmpR _ _ _ _ _ _ _ _ op_gt (@pe_callB _ _ _ _ _ _ _ _ _ (call_len_seqK (K := K)) rfl T.len PySem.boot_len (@pa_cons _ _ _ _ _ (pv 1) pa_nil se_name) (by decide) (by decide) (se_name) (by rfl)) pe_int (nomark _)))))) (@pss_one _ _ _ (@ps_ret _ _ _ _ pe_non)) pss_nil) (@pss_cons _ _ _ _ _ (@ps_asg _ _ _ _ _ _ (@pe_lst _ _ _ _ pa_nil) (@pg_name _ _ (3) _ (by walk_at "o") rfl (Or.inl rfl) (by walk_at "n")) (by rfl) (by rfl) (by rfl)) (@pss_cons _ _ _ _ _ (@ps_for _ _ _ _ _ _ _ _ PassesOwn.never rfl (@pi_seqK _ (K) _ _ _ (@pe_slice _ _ _ _ _ _ _ _ _ _ (sl_listK (K := K)) (pv 1) (@po_some _ _ _ pe_int) po_none) (by rfl)) (@pg_name _ _ (4) _ (by walk_at "o") rfl (Or.inl rfl) (by walk_at "n")) (@pss_cons _ _ _ _ _ (@ps_asg _ _ _ _ _ _ (@pe_callC _ _ _ _ _ _ _ _ _ _ _ _ c_law_line (hr.mono (by decide)) pass0 rfl (@pa_cons _ _ _ _ _ (pv 4) (@pa_cons _ _ _ _ _ pe_str pa_nil se_const) se_name) (by decide) (se_name) (by rfl)) (@pg_name _ _ (5) _ (by walk_at "o") rfl (Or.inl rfl) (by walk_at "n")) (by rfl) (by rfl) (by rfl)) (@pss_cons _ _ _ _ _ (@ps_if _ _ _ _ _ _ _ _ (@PW.pt _ _ _ (@pw_or _ _ _ _ _ _ _ (@pt_cmp _ _ _ _ _ _ (@pc_isN _ _ _ _ _ (pv 5)) (by first | exact nobehind _ (by decide) (by decide) | rfl)) (@pw_or _ _ _ _ _ _ _ (@pt_cmpR _ _ _ _ _ _ _ _ (op_neU hr.units) (@pe_callB _ _ _ _ _ _ _ _ _ (call_len_seqK (K := K)) rfl T.len PySem.boot_len (@pa_cons _ _ _ _ _ (pv 5) pa_nil se_name) (by decide) (by decide) (se_name) (by rfl)) pe_int (nomark _)) (@pw_or _ _ _ _ _ _ _ (@pt_not _ _ _ _ (@pt_chain _ _ _ _ _ _ _ _ _ _ _ _ op_le op_le pe_int (@pe_ix _ _ _ _ _ _ _ (ix_seqK (K := K)) (pv 5) pe_int (fun _ _ => rfl)) (@pe_callB _ _ _ _ _ _ _ _ _ (call_len_seqK (K := K)) rfl T.len PySem.boot_len (@pa_cons _ _ _ _ _ (pv 2) pa_nil se_name) (by decide) (by decide) (se_name) (by rfl)) (by with_unfolding_all rfl))) (@pw_or1 _ _ _ _ (@pt_not _ _ _ _ (@pt_chain _ _ _ _ _ _ _ _ _ _ _ _ op_le op_le pe_int (@pe_ix _ _ _ _ _ _ _ (ix_seqK (K := K)) (pv 5) pe_int (fun _ _ => rfl)) (@pe_callB _ _ _ _ _ _ _ _ _ (call_len_seqK (K := K)) rfl T.len PySem.boot_len (@pa_cons _ _ _ _ _ (pv 2) pa_nil se_name) (by decide) (by decide) (se_name) (by rfl)) (by with_unfolding_all rfl)))))))) (@pss_one _ _ _ (@ps_ret _ _ _ _ pe_non)) pss_nil) (@pss_cons _ _ _ _ _ (@ps_if _ _ _ _ _ _ _ _ (@PW.pt _ _ _ (@pw_or _ _ _ _ _ _ _ (@pt_cmpR _ _ _ _ _ _ _ _ (op_eqU hr.units) (@pe_ix _ _ _ _ _ _ _ (ix_seqK (K := K)) (pv 5) pe_int (fun _ _ => rfl)) (@pe_ix _ _ _ _ _ _ _ (ix_seqK (K := K)) (pv 5) pe_int (fun _ _ => rfl)) (nomark _)) (@pw_or _ _ _ _ _ _ _ (@pt_cmpR _ _ _ _ _ _ _ _ (op_eqU hr.units) (@pe_ix _ _ _ _ _ _ _ (ix_seqK (K := K)) (pv 5) pe_int (fun _ _ => rfl)) pe_int (nomark _)) (@pw_or1 _ _ _ _ (@pt_not _ _ _ _ (@pt_chain _ _ _ _ _ _ _ _ _ _ _ _ op_le op_le pe_int (@pe_ix _ _ _ _ _ _ _ (ix_seqK (K := K)) (pv 5) pe_int (fun _ _ => rfl)) pe_int (by with_unfolding_all rfl))))))) (@pss_one _ _ _ (@ps_ret _ _ _ _ pe_non)) pss_nil) (@pss_one _ _ _ (@ps_expr _ _ _ _ (@pe_bm _ _ _ _ _ _ _ _ _ _ _ _ PySem.F.plainAttrs_list PySem.F.slot_list_append PySem.F.type_list_append mt_append (pv 3) (@pa_cons _ _ _ _ _ (@pe_callTy _ _ _ _ _ _ _ _ _ (call_tuple_ofK (K := K)) rfl T.tuple bt_tuple (@pa_cons _ _ _ _ _ (pv 5) pa_nil se_name) (by decide) (by decide) (se_name) (by rfl)) pa_nil se_call) (by rfl) (by rfl) (by rfl) (by rfl) (by rfl)) (by rfl)))))) (by intro _; rfl)) (@pss_one _ _ _ (@ps_ret _ _ _ _ (@pe_tup _ _ _ _ _ (@pa_cons _ _ _ _ _ (pv 2) (@pa_cons _ _ _ _ _ (pv 3) pa_nil se_name) se_name))))))))), ?_⟩
    have hz : sizeLine = 16777216 := rfl
    have sp := split_pos tx ("\n" : Str)
    have sl := split_le tx ("\n" : Str)
    have pt : ∀ x ∈ Txt.split tx ("\n" : Str), x.length ≤ tx.length := fun x hx => part_short hx
    obtain ⟨l0, rest, eql⟩ : ∃ l0 rest, Txt.split tx ("\n" : Str) = l0 :: rest := by
      cases e : Txt.split tx ("\n" : Str) with
      | nil => rw [e] at sp; simp at sp
      | cons a r => exact ⟨a, r, rfl⟩
    rw [eql] at sl pt
    rw [List.length_cons] at sl
    have it : ∀ {ps ws}, IsText tx ps ws → l0 = addNs ("people" : Str) ps ∧ rest = ws.map lineW := fun h => by
      have e := h.lines
      rw [eql] at e
      exact List.cons.inj e
    have l0' := pt l0 List.mem_cons_self
    walk_at "rd"
    refine ⟨rfl, ?_⟩
    walk_at "rd"
    refine ⟨_, _, rfl, rfl, by decide +kernel, by omega, fun l1 hl1 => ?_⟩
    rw [eql]
    have s1 : Same H (L2.upd H l1 (.lst ((l0 :: rest).map V.str))) := same_upd hl1
    have k1 : L2.upd H l1 (.lst ((l0 :: rest).map V.str)) l1 = some (.lst ((l0 :: rest).map V.str)) := upd_same
    generalize L2.upd H l1 (.lst ((l0 :: rest).map V.str)) = H1 at s1 k1
    walk_at "rd"
    refine rd_ixL (SqL.of k1) (atI_nat (j := 0) rfl) ?_
    walk_at "rd"
    refine ⟨l0, _, rfl, by omega, people_free.1, fun ps li p H2 s2 fp kp => ?_, fun no H2 s2 => ?_⟩
    rotate_left
    · walk_at "rd"
      exact qn (fun ⟨ps, ws, h⟩ => no ⟨ps, fun n hn => h.1.pc n hn, (it h).1⟩) H2 (s1.trans s2)
    have s02 := s1.trans s2
    have k2 := s2 _ _ k1
    have ups : ∀ {qs ws}, IsText tx qs ws → qs = ps := fun {qs ws} h => by
      have e := (it h).1
      have e1 := (LineIs.words people_free.1 (⟨fun n hn => h.1.pc n hn, e⟩ : LineIs ("people" : Str) l0 qs))
      have e2 := LineIs.words people_free.1 li
      rw [e1] at e2
      have e3 := (List.cons.inj e2).2
      have r1 := readAll_nums qs fun n hn => h.1.pc n hn
      have r2 := readAll_nums ps li.1
      rw [e3, r2] at r1
      exact (Option.some.inj r1).symm
    walk_at "rd"
    refine iteDF (by intro z; cases z) ?_
    walk_at "rd"
    refine ⟨p, _, rfl, .inl (SqL.of kp), ?_⟩
    rw [List.length_map]
    walk_at "rd"
    refine iteD (fun z1 => ?_) (fun z1 => ?_)
    rotate_left
    · walk_at "rd"
      exact qn (fun ⟨qs, ws, h⟩ => z1 (by have := ups h; subst this; have := h.1.p1; omega)) H2 s02
    walk_at "rd"
    refine iteDN (fun z2 => ?_) (fun z2 => ?_)
    · walk_at "rd"
      exact qn (fun ⟨qs, ws, h⟩ => z2 (by have := ups h; subst this; have := h.1.p4; omega)) H2 s02
    walk_at "rd"
    refine ⟨l1, _, rfl, .inl (SqL.of k2), ?_⟩
    rw [List.length_map, List.length_cons]
    walk_at "rd"
    refine iteD (fun z3 => ?_) (fun z3 => ?_)
    · walk_at "rd"
      exact qn (fun ⟨qs, ws, h⟩ => by have := h.1.w10; have e := congrArg List.length (it h).2; rw [List.length_map] at e; omega) H2 s02
    walk_at "rd"
    refine ⟨by show 0 ≤ sizeLine; decide, fun wl hwl => ?_⟩
    have s3 : Same H (L2.upd H2 wl (.lst [])) := s02.trans (same_upd hwl)
    have k3 : L2.upd H2 wl (.lst []) l1 = some (.lst ((l0 :: rest).map V.str)) := same_upd hwl _ _ k2
    have kw3 : L2.upd H2 wl (.lst []) wl = some (.lst []) := upd_same
    have kp3 := same_upd (o := .lst []) hwl _ _ kp
    have fw : H wl = none := s02.free hwl
    have npw : p ≠ wl := ne_of_none kp hwl
    generalize L2.upd H2 wl (.lst []) = H3 at s3 k3 kw3 kp3
    walk_at "rd"
    refine rd_forS ?_
    walk_at "rd"
    refine rd_slT ?_
    walk_at "rd"
    refine rd_partT ?_
    walk_at "rd"
    refine ⟨_, rfl, ?_⟩
    refine rd_npT ?_
    refine ⟨l1, _, rfl, SqL.of k3, fun l2 hl2 => ?_⟩
    rw [cut_tail (by simp)]
    have e3 : (List.map V.str (l0 :: rest)).tail = rest.map V.str := rfl
    rw [e3]
    have s4 : Same H (L2.upd H3 l2 (.lst (rest.map V.str))) := s3.trans (same_upd hl2)
    have k4 : L2.upd H3 l2 (.lst (rest.map V.str)) l2 = some (.lst (rest.map V.str)) := upd_same
    have kw4 := same_upd (o := .lst (rest.map V.str)) hl2 _ _ kw3
    have kp4 := same_upd (o := .lst (rest.map V.str)) hl2 _ _ kp3
    have n2 : l2 ≠ wl := (ne_of_none kw3 hl2).symm
    generalize L2.upd H3 l2 (.lst (rest.map V.str)) = H4 at s4 k4 kw4 kp4
    refine ⟨l2, rfl, .inl ⟨⟨_, SqL.of k4⟩, forL (xs := rest.map V.str) (fun i σ H5 => ∃ v4 v5 xs ws, σ = [some (.str tx), some (.ref l1), some (.ref p), some (.ref wl), v4, v5] ∧ Same H H5 ∧ H5 l2 = some (.lst (rest.map V.str)) ∧ H5 p = some (.lst (ps.map V.int)) ∧ H5 wl = some (.lst xs) ∧ xs.length = i ∧ DenAll H5 xs (List.map wyD ws) ∧ (∀ x ∈ ws, GoodW ps.length x) ∧ rest.take i = ws.map lineW) ⟨none, none, [], [], rfl, s4, k4, kp4, kw4, rfl, .nil, fun n hn => by simp at hn, rfl⟩
      (fun i σ H5 _ ⟨_, _, _, _, _, _, k5, _⟩ => SqL.of k5) ?_ ?_⟩⟩
    · rintro i y σ H5 hy ⟨v4, v5, xs, ws, rfl, s5, k5, kp5, kw5, lx5, den5, gw, et⟩
      rw [List.getElem?_map] at hy
      obtain ⟨x, hx, rfl⟩ := Option.map_eq_some_iff.mp hy
      have mx := List.mem_of_getElem? hx
      have lx := pt x (List.mem_cons_of_mem _ mx)
      have hi : i < rest.length := (List.getElem?_eq_some_iff.mp hx).1
      have way_of : ∀ {qs us}, IsText tx qs us → ∃ u, GoodW ps.length u ∧ x = lineW u := fun {qs us} h => by
        rw [(it h).2] at mx
        obtain ⟨u, hu, eu⟩ := List.mem_map.mp mx
        have g := h.1.wg u hu
        rw [ups h] at g
        exact ⟨u, g, eu.symm⟩
      walk_at "rd"
      refine ⟨x, _, rfl, by omega, people_free.2.2.1, fun row lr r H6 s6 fr kr => ?_, fun no H6 s6 => ?_⟩
      rotate_left
      · walk_at "rd"
        refine qn (fun ⟨qs, us, h⟩ => ?_) H6 (s5.trans s6)
        obtain ⟨u, g, eu⟩ := way_of h
        exact no ⟨wyL u, wyL_digs (r := ps.length) (by omega) g, eu⟩
      have s06 := s5.trans s6
      have kp6 := s6 _ _ kp5
      have row_of : ∀ {qs us}, IsText tx qs us → ∃ u, GoodW ps.length u ∧ row = wyL u := fun {qs us} h => by
        obtain ⟨u, g, eu⟩ := way_of h
        refine ⟨u, g, ?_⟩
        have dg := wyL_digs (r := ps.length) (by omega) g
        have e1 := LineIs.words people_free.2.2.1 (⟨dg, eu⟩ : LineIs ("way" : Str) x (wyL u))
        have e2 := LineIs.words people_free.2.2.1 lr
        rw [e1] at e2
        have e3 := (List.cons.inj e2).2
        have r1 := readAll_nums (wyL u) dg
        have r2 := readAll_nums row lr.1
        rw [e3, r2] at r1
        exact Option.some.inj r1
      walk_at "rd"
      refine iteDF (by intro z; cases z) ?_
      walk_at "rd"
      refine ⟨r, _, rfl, .inl (SqL.of kr), ?_⟩
      rw [List.length_map]
      walk_at "rd"
      refine iteDN (fun z4 => ?_) (fun z4 => ?_)
      · walk_at "rd"
        refine qn (fun ⟨qs, us, h⟩ => z4 ?_) H6 s06
        obtain ⟨u, g, eu⟩ := row_of h
        rw [eu]
        rfl
      obtain ⟨wy, ewy⟩ := four (r := row) (by omega)
      subst ewy
      have bad : ¬ GoodW ps.length wy → ∀ H', Same H H' → Q .non H' := fun nb H' s' => qn (fun ⟨qs, us, h⟩ => by
        obtain ⟨u, g, eu⟩ := row_of h
        rw [← wyL_inj eu] at g
        exact nb g) H' s'
      have dg := lr.1
      have d0 := dg wy.a (by simp [wyL])
      have d1 := dg wy.b (by simp [wyL])
      have d2 := dg wy.c (by simp [wyL])
      have d3 := dg wy.d (by simp [wyL])
      obtain ⟨i0, i1, i2, i3⟩ := atI_wy wy
      have kr' : SqL K H6 r (wyV wy) := SqL.of kr
      walk_at "rd"
      refine rd_ixL kr' i0 ?_
      walk_at "rd"
      refine iteD (fun z5 => ?_) (fun z5 => ?_)
      rotate_left
      · walk_at "rd"
        exact bad (fun g => z5 g.1.1) H6 s06
      walk_at "rd"
      refine ⟨p, _, rfl, .inl (SqL.of kp6), ?_⟩
      rw [List.length_map]
      walk_at "rd"
      refine iteDN (fun z6 => ?_) (fun z6 => ?_)
      · walk_at "rd"
        exact bad (fun g => z6 g.1.2) H6 s06
      walk_at "rd"
      refine rd_ixL kr' i1 ?_
      walk_at "rd"
      refine iteD (fun z7 => ?_) (fun z7 => ?_)
      rotate_left
      · walk_at "rd"
        exact bad (fun g => z7 g.2.1.1) H6 s06
      walk_at "rd"
      refine ⟨p, _, rfl, .inl (SqL.of kp6), ?_⟩
      rw [List.length_map]
      walk_at "rd"
      refine iteDN (fun z8 => ?_) (fun z8 => ?_)
      · walk_at "rd"
        exact bad (fun g => z8 g.2.1.2) H6 s06
      walk_at "rd"
      refine rd_ixL kr' i0 ?_
      walk_at "rd"
      refine rd_ixL kr' i1 ?_
      walk_at "rd"
      refine iteD (fun z9 => ?_) (fun z9 => ?_)
      · walk_at "rd"
        exact bad (fun g => g.2.2.1 z9) H6 s06
      walk_at "rd"
      refine rd_ixL kr' i2 ?_
      walk_at "rd"
      refine iteD (fun z10 => ?_) (fun z10 => ?_)
      · walk_at "rd"
        exact bad (fun g => by have := g.2.2.2.1.1; omega) H6 s06
      walk_at "rd"
      refine rd_ixL kr' i3 ?_
      walk_at "rd"
      refine iteD (fun z11 => ?_) (fun z11 => ?_)
      rotate_left
      · walk_at "rd"
        exact bad (fun g => z11 g.2.2.2.2.1) H6 s06
      walk_at "rd"
      refine iteDN (fun z12 => ?_) (fun z12 => ?_)
      · walk_at "rd"
        exact bad (fun g => z12 g.2.2.2.2.2) H6 s06
      have gwy : GoodW ps.length wy := ⟨⟨z5, z6⟩, ⟨z7, z8⟩, z9, ⟨by omega, by omega⟩, ⟨z11, z12⟩⟩
      walk_at "rd"
      refine ⟨.inl ⟨rfl, _, SqL.of (s6 _ _ kw5)⟩, ?_⟩
      walk_at "rd"
      refine ⟨r, _, rfl, .inl ⟨kr', fun t ht => ?_⟩⟩
      have s7 : Same H6 (L2.upd H6 t (.tup (wyV wy))) := same_upd ht
      have k7 : L2.upd H6 t (.tup (wyV wy)) t = some (.tup (wyV wy)) := upd_same
      generalize L2.upd H6 t (.tup (wyV wy)) = H7 at s7 k7
      have kw7 := s7 _ _ (s6 _ _ kw5)
      walk_at "rd"
      refine ⟨wl, _, _, rfl, rfl, kw7, by omega, ?_⟩
      walk_at "rd"
      refine ⟨_, _, _, ws ++ [wy], rfl, same_to (s06.trans s7) fw, ?_, ?_, upd_same, by rw [List.length_append, List.length_singleton, lx5], ?_, fun u hu => ?_, ?_⟩
      · rw [upd_ne n2]; exact s7 _ _ (s6 _ _ k5)
      · rw [upd_ne npw]; exact s7 _ _ kp6
      · rw [List.map_append]
        refine DenAll.append (wys_upd kw7 ((den5.same s6).same s7)) (.cons (wy_den ?_) .nil)
        rw [upd_ne (ne_of k7 kw7 (by intro z; cases z)), k7]
      · rw [List.mem_append, List.mem_singleton] at hu
        rcases hu with hu | rfl
        · exact gw u hu
        · exact gwy
      · rw [List.take_add_one, hx, et, List.map_append]
        show _ ++ [x] = _ ++ [lineW wy]
        rw [show x = lineW wy from lr.2]
    · rintro σ H5 ⟨v4, v5, xs, ws, rfl, s5, k5, kp5, kw5, lx5, den5, gw, et⟩
      rw [List.length_map, List.take_length] at et
      have lw : ws.length ≤ 10 := by
        have := congrArg List.length et
        rw [List.length_map] at this
        omega
      have g : Good ps ws := ⟨by omega, by omega, fun c hc => li.1 c hc, lw, gw⟩
      walk_at "rd"
      refine ⟨by show 2 ≤ sizeLine; decide, fun tp htp => ?_⟩
      have s8 : Same H5 (L2.upd H5 tp (.tup [.ref p, .ref wl])) := same_upd htp
      refine qg ps ws (IsText.mk g (by rw [eql, et, li.2])) tp p wl xs _ (s5.trans s8) ⟨upd_same, s8 _ _ kp5, s8 _ _ kw5, den5.same s8⟩
end
section
variable {P : Program} {w : World} {K : PySem.W.Frag} {mg : Str → Option Value} {base : Heap} {ec : Ec}
noncomputable def spTold (C nt : Addr) : Sp := fun vs H Q _ => ∃ tx : Str, vs = [.str tx] ∧ tx.length ≤ 640 ∧ Asc tx ∧ (∀ ps ws, IsText tx ps ws → ∀ (x : Addr) (H' : Hp), Same H H' → HouseAt C H' x ps ws → Q (.ref x) H') ∧
  ((¬ ∃ ps ws, IsText tx ps ws) → ∀ e H', Same H H' → H' e = some (excO (.ref nt) e) → Q (.ref e) H')
theorem sc_told : FnScope ["text", "found", "e"] ["text"] (defScope (top 42)) := ⟨rfl, rfl, rfl, by decide +kernel, rfl, by decide +kernel, by decide +kernel⟩
theorem ok_told {C f : Addr} {fd : FuncData} (F : Fun K "_law_told" "_law_told" (top 42) f fd) (T : Txt K mg) (Z : TxtX K mg ec) (B : SubN K ec) (c_read : CalleeC P w K mg base (CXE P w) 8 "read" ["text"] (spRead C ec.nt)) :
    FnOkC P w K mg base (CXE P w) 9 f fd ["text"] (spTold C ec.nt) := by
  refine F.okC sc_told (fun vs H Q E h => ?_) (fun cdv A outer s H vs Q E hr h => ?_)
  · obtain ⟨tx, rfl, _⟩ := h
    rfl
  · obtain ⟨tx, rfl, lt, la, qg, qb⟩ := h
    let Rx : L2.St → Prop := fun σ => σ = [some (.str tx), some .non, none]
    let Ex : XK := fun cls _ H' => cls = .ref ec.nt ∧ Same H H' ∧ ¬ ∃ ps ws, IsText tx ps ws
    have hmx : ∀ cls b H', Ex cls b H' → PySem.W.exmOne K cls (.ref ec.he) = some true := by
      rintro cls b H' ⟨rfl, _⟩
      exact exm_of Z.k_HallError B.he
    refine ⟨_, (psc_cons (PS.c (@ps_asg _ _ _ _ _ _ pe_non (@pg_name _ _ (1) _ (by walk_at "o") rfl (Or.inl rfl) (by walk_at "n")) (by rfl) (by rfl) (by rfl))) (psc_cons (psc_tryAs (R := Rx) (E := Ex) (i := 2) rfl rfl rfl (by walk_at "o") rfl rfl rfl Z.g_HallError hmx (fun _ _ hx => (psc_one (psc_set (i := 1) (pec_callR c_read (hr.mono (by decide)) hx rfl (@pa_cons _ _ _ _ _ (pv 0) pa_nil se_name) (he := se_name)) (by walk_at "o") rfl (Or.inl rfl)))) (fun _ => (@pss_one _ _ _ (@ps_asg _ _ _ _ _ _ (pv 2) (@pg_name _ _ (1) _ (by walk_at "o") rfl (Or.inl rfl) (by walk_at "n")) (by rfl) (by rfl) (by rfl))))) (PSs.c (@pss_one _ _ _ (@ps_ret _ _ _ _ (pv 1)))))), ?_⟩
    walk_at "rd"
    refine rd_tryAs ?_ ?_
    · walk_at "rd"
      refine ⟨rfl, tx, rfl, lt, la, fun ps ws it x H' s' hx => ?_, fun nb b H' s' => ⟨rfl, s', nb⟩⟩
      walk_at "rd"
      exact qg ps ws it x H' s' hx
    · rintro σ' e cls b H' hR ⟨rfl, s', nb⟩ he
      have hR' : σ' = [some (.str tx), some .non, none] := hR
      subst hR'
      walk_at "rd"
      exact qb nb e _ (same_to s' (s'.free he)) upd_same
noncomputable def spLaw (K : PySem.W.Frag) : Sp := fun vs H Q _ => ∃ (a : Addr) (ns : List Int), vs = [.ref a] ∧ SqL K H a (ns.map V.int) ∧ ∀ H', Q (.bl true) H'
theorem sc_law : FnScope ["script", "text", "due", "turn", "found"] ["script"] (defScope (top 43)) := ⟨rfl, rfl, rfl, by decide +kernel, rfl, by decide +kernel, by decide +kernel⟩
theorem ok_law {C f : Addr} {fd : FuncData} (F : Fun K "law" "law" (top 43) f fd) (T : Txt K mg) (L : Cl K C) (LI : ClI K C)
    (c_law_house : Callee P w K mg base CX0 4 "_law_house" ["script"] (spLHouse K)) (c_law_draw : Callee P w K mg base CX0 2 "_law_draw" ["script", "k"] (spDraw K)) (c_law_shown : Callee P w K mg base CX0 1 "_law_shown" ["plot"] spShownL)
    (c_law_spoiled : Callee P w K mg base CX0 2 "_law_spoiled" ["text", "way", "cell"] spSpoil) (c_law_due : Callee P w K mg base CX0 2 "_law_due" ["text"] spDue) (c_law_alone : Callee P w K mg base CX0 1 "_law_alone" ["e"] (spAloneN ec.nt))
    (c_law_told : CalleeC P w K mg base (CXE P w) 9 "_law_told" ["text"] (spTold C ec.nt)) (c_House_people : CalleeM P w K mg base CX0 1 C "people" ["self"] (spPeople C)) (c_House_ways : CalleeM P w K mg base CX0 1 C "ways" ["self"] (spWays C))
    (c_House : CalleeI P w K mg base (CXE P w) 5 "House" C ["self", "people", "ways"] (spInit C ec.bh)) : FnOkC P w K mg base (CXE P w) 10 f fd ["script"] (spLaw K) := by
  refine F.okC sc_law (fun vs H Q E h => ?_) (fun cdv A outer s H vs Q E hr h => ?_)
  · obtain ⟨a, ns, rfl, _⟩ := h
    rfl
  · obtain ⟨a, ns, rfl, hS, q⟩ := h
    refine ⟨_, (psc_cons (PS.c (@ps_asg _ _ _ _ _ _ (@pe_callC _ _ _ _ _ _ _ _ _ _ _ _ c_law_spoiled (hr.mono (by decide)) pass0 rfl (@pa_cons _ _ _ _ _ (@pe_callC _ _ _ _ _ _ _ _ _ _ _ _ c_law_shown (hr.mono (by decide)) pass0 rfl (@pa_cons _ _ _ _ _ (@pe_callC _ _ _ _ _ _ _ _ _ _ _ _ c_law_house (hr.mono (by decide)) pass0 rfl (@pa_cons _ _ _ _ _ (pv 0) pa_nil se_name) (by decide) (se_name) (by rfl)) pa_nil se_call) (by decide) (se_call) (by rfl)) (@pa_cons _ _ _ _ _ (@pe_op _ _ _ _ _ _ _ _ op_mod (@pe_callC _ _ _ _ _ _ _ _ _ _ _ _ c_law_draw (hr.mono (by decide)) pass0 rfl (@pa_cons _ _ _ _ _ (pv 0) (@pa_cons _ _ _ _ _ pe_int pa_nil se_const) se_name) (by decide) (se_name) (by rfl)) pe_int) (@pa_cons _ _ _ _ _ (@pe_callC _ _ _ _ _ _ _ _ _ _ _ _ c_law_draw (hr.mono (by decide)) pass0 rfl (@pa_cons _ _ _ _ _ (pv 0) (@pa_cons _ _ _ _ _ pe_int pa_nil se_const) se_name) (by decide) (se_name) (by rfl)) pa_nil se_call) se_binop) se_call) (by decide) (se_call) (by rfl)) (@pg_name _ _ (1) _ (by walk_at "o") rfl (Or.inl rfl) (by walk_at "n")) (by rfl) (by rfl) (by rfl))) (psc_cons (PS.c (@ps_asg _ _ _ _ _ _ (@pe_callC _ _ _ _ _ _ _ _ _ _ _ _ c_law_due (hr.mono (by decide)) pass0 rfl (@pa_cons _ _ _ _ _ (pv 1) pa_nil se_name) (by decide) (se_name) (by rfl)) (@pg_name _ _ (2) _ (by walk_at "o") rfl (Or.inl rfl) (by walk_at "n")) (by rfl) (by rfl) (by rfl))) (psc_cons (psc_for ownE rfl (@pi_range1 _ _ _ _ _ _ rfl T.range (@pa_cons _ _ _ _ _ pe_int pa_nil se_const) (by rfl)) (@pg_name _ _ (3) _ (by walk_at "o") rfl (Or.inl rfl) (by walk_at "n")) (psc_cons (psc_set (i := 4) (pec_call c_law_told (hr.mono (by decide)) passE rfl (@pa_cons _ _ _ _ _ (pv 1) pa_nil se_name) (he := se_name)) (by walk_at "o") rfl (Or.inl rfl)) (PSs.c (@pss_cons _ _ _ _ _ (@ps_if _ _ _ _ _ _ _ _ (@PW.pt _ _ _ (@pw_and _ _ _ _ _ _ _ (@pt_cmp _ _ _ _ _ _ (@pc_isN _ _ _ _ _ (pv 2)) (by first | exact nobehind _ (by decide) (by decide) | rfl)) (@pw_and1 _ _ _ _ (@pt_cmpR _ _ _ _ _ _ _ _ (op_neU hr.units) (@pe_callC _ _ _ _ _ _ _ _ _ _ _ _ c_law_alone (hr.mono (by decide)) pass0 rfl (@pa_cons _ _ _ _ _ (pv 4) pa_nil se_name) (by decide) (se_name) (by rfl)) pe_int (nomark _))))) (@pss_one _ _ _ (@ps_ret _ _ _ _ pe_bl)) pss_nil) (@pss_cons _ _ _ _ _ (@ps_if _ _ _ _ _ _ _ _ (@PW.pt _ _ _ (@pw_and _ _ _ _ _ _ _ (@pt_cmp _ _ _ _ _ _ (@pc_notN _ _ _ _ _ (pv 2)) (by first | exact nobehind _ (by decide) (by decide) | rfl)) (@pw_and1 _ _ _ _ (@pt_not _ _ _ _ (@pt_val _ _ _ (@pe_callB _ _ _ _ _ _ _ _ _ (call_isiK (K := K)) rfl T.isi bt_isi (@pa_cons _ _ _ _ _ (pv 4) (@pa_cons _ _ _ _ _ (pe_clsN c_House.at_ rfl) pa_nil se_name) se_name) (by decide) (by decide) (se_name) (by rfl)) (by intro _; rfl)))))) (@pss_one _ _ _ (@ps_ret _ _ _ _ pe_bl)) pss_nil) (@pss_one _ _ _ (@ps_if _ _ _ _ _ _ _ _ (@PW.pt _ _ _ (@pw_and _ _ _ _ _ _ _ (@pt_cmp _ _ _ _ _ _ (@pc_notN _ _ _ _ _ (pv 2)) (by first | exact nobehind _ (by decide) (by decide) | rfl)) (@pw_and1 _ _ _ _ (@PW.pt _ _ _ (@pw_or _ _ _ _ _ _ _ (@pt_cmpR _ _ _ _ _ _ _ _ (op_neU hr.units) (@pe_methC _ _ _ _ _ _ _ _ _ _ _ _ _ c_House_people (hr.mono (by decide)) pass0 (pv 4) (by rfl)) (@pe_ix _ _ _ _ _ _ _ (ix_seqK (K := K)) (pv 2) pe_int (fun _ _ => rfl)) (nomark _)) (@pw_or1 _ _ _ _ (@pt_cmpR _ _ _ _ _ _ _ _ (op_neU hr.units) (@pe_methC _ _ _ _ _ _ _ _ _ _ _ _ _ c_House_ways (hr.mono (by decide)) pass0 (pv 4) (by rfl)) (@pe_ix _ _ _ _ _ _ _ (ix_seqK (K := K)) (pv 2) pe_int (fun _ _ => rfl)) (nomark _)))))))) (@pss_one _ _ _ (@ps_ret _ _ _ _ pe_bl)) pss_nil))))))) (PSs.c (@pss_one _ _ _ (@ps_ret _ _ _ _ pe_bl)))))), ?_⟩
    have gd := good ns
    walk_at "rd"
    refine ⟨a, ns, rfl, hS, fun tp p lw xs H1 pl => ?_⟩
    have pl1 : PlotIn H1 tp p lw (people ns) xs (ways ns) := ⟨pl.tup, pl.hps, pl.hws, pl.den⟩
    walk_at "rd"
    refine ⟨tp, p, lw, people ns, xs, ways ns, rfl, pl1, gd, ?_⟩
    walk_at "rd"
    refine ⟨a, ns, _, rfl, pl.same.seq hS, by decide, by decide, ?_⟩
    walk_at "rd"
    refine ⟨a, ns, _, rfl, pl.same.seq hS, by decide, by decide, ?_⟩
    walk_at "rd"
    have m7 : 0 ≤ draw ns 91 % 7 ∧ draw ns 91 % 7 < 7 := ⟨Int.emod_nonneg _ (by decide), Int.emod_lt_of_pos _ (by decide)⟩
    refine ⟨people ns, ways ns, _, _, rfl, gd, m7, draw_nn ns 92, fun tx H2 s2 lt la => ?_⟩
    walk_at "rd"
    by_cases hd : ∃ ps ws, IsText tx ps ws
    · obtain ⟨ps, ws, it⟩ := hd
      refine ⟨tx, rfl, lt, fun qs us it2 dp dq dw dxs H3 s3 dpl => ?_, fun nb => absurd ⟨ps, ws, it⟩ nb⟩
      walk_at "rd"
      refine rd_forR ?_
      walk_at "rd"
      refine ⟨2, rfl, by decide, by decide, forR (fun i σ H4 => ∃ v3 v4, σ = [some (.ref a), some (.str tx), some (.ref dp), v3, v4] ∧ PlotIn H4 dp dq dw qs dxs us) ⟨none, none, rfl, dpl⟩ ?_ ?_⟩
      · rintro i σ H4 hi ⟨v3, v4, rfl, pl4⟩
        walk_at "rd"
        refine ⟨tx, rfl, lt, la, fun ps3 ws3 it3 x H5 s5 hx => ?_, fun nb => absurd ⟨ps, ws, it⟩ nb⟩
        have eu := text_one it2 it3
        obtain ⟨e1, e2⟩ := eu
        subst e1 e2
        have pl5 := pl4.same s5
        obtain ⟨dx5, c5, t5, ys5, hx5, _⟩ := hx.ex
        walk_at "rd"
        refine iteDF (by intro z; cases z) ?_
        walk_at "rd"
        refine iteNDF (by intro z; cases z) ?_
        walk_at "rd"
        refine ⟨_, _, _, _, _, rfl, rfl, .ins hx5 L.cl LI.ha LI.hn LI.htk LI.hm, kit_self C, ?_⟩
        walk_at "rd"
        refine iteNDF (by intro z; cases z) ?_
        walk_at "rd"
        refine ⟨x, dx5, _, rfl, hx5, flds_no _ _ (by decide +kernel) (by decide +kernel), x, qs, us, rfl, hx, fun m hm => ?_⟩
        have s7 : Same H5 (L2.upd H5 m (.lst (qs.map V.int))) := same_upd hm
        have pl7 := pl5.same s7
        walk_at "rd"
        refine rd_ixT (SqT.of pl7.tup) (atI_nat (j := 0) rfl) ?_
        refine .inr ⟨_, _, .lst upd_same (DenAll.ints _), .lst pl7.hps (DenAll.ints _), PySem.W.shaped_ints _, PySem.W.shaped_ints _, ?_⟩
        rw [eqv_self _ (by simp only [PyData.canLay0]; exact PySem.W.canLayAll0_ints _)]
        generalize L2.upd H5 m (.lst (qs.map V.int)) = H7 at s7 pl7
        have hx7 := hx.same s7
        obtain ⟨dx8, c8, t8, hx80⟩ := lists_of hx7
        walk_at "rd"
        refine ⟨x, dx8, _, rfl, hx80, flds_no _ _ (by decide +kernel) (by decide +kernel), x, qs, us, rfl, hx7, fun lw2 xs2 hlw2 d2 => ?_⟩
        have s8 : Same H7 (L2.upd H7 lw2 (.lst xs2)) := same_upd hlw2
        have pl8 := pl7.same s8
        walk_at "rd"
        refine rd_ixT (SqT.of pl8.tup) (atI_nat (j := 1) rfl) ?_
        refine .inr ⟨_, _, .lst upd_same (d2.same s8), .lst pl8.hws pl8.den, shaped_wys _, shaped_wys _, ?_⟩
        rw [eqv_self _ (by simp only [PyData.canLay0]; exact canLay_wys _)]
        walk_at "rd"
        exact ⟨_, _, rfl, pl8⟩
      · rintro σ H4 ⟨v3, v4, rfl, pl4⟩
        walk_at "rd"
        exact q _
    · refine ⟨tx, rfl, lt, fun qs us it2 => absurd ⟨qs, us, it2⟩ hd, fun _ H3 s3 => ?_⟩
      walk_at "rd"
      refine rd_forR ?_
      walk_at "rd"
      refine ⟨2, rfl, by decide, by decide, forR (fun i σ H4 => ∃ v3 v4, σ = [some (.ref a), some (.str tx), some .non, v3, v4]) ⟨none, none, rfl⟩ ?_ ?_⟩
      · rintro i σ H4 hi ⟨v3, v4, rfl⟩
        walk_at "rd"
        refine ⟨tx, rfl, lt, la, fun ps3 ws3 it3 => absurd ⟨ps3, ws3, it3⟩ hd, fun _ e H5 s5 he => ?_⟩
        walk_at "rd"
        refine ⟨e, rfl, he, fun H6 s6 => ?_⟩
        walk_at "rd"
        exact ⟨_, _, rfl⟩
      · rintro σ H4 ⟨v3, v4, rfl⟩
        walk_at "rd"
        exact q _
end
section
theorem bn1 {us : List Value} (h : us.length = 1) : ∃ a0, us = [a0] := by
  match us, h with
  | [a0], _ => exact ⟨a0, rfl⟩
theorem bn2 {us : List Value} (h : us.length = 2) : ∃ a0 a1, us = [a0, a1] := by
  match us, h with
  | [a0, a1], _ => exact ⟨a0, a1, rfl⟩
theorem bn3 {us : List Value} (h : us.length = 3) : ∃ a0 a1 a2, us = [a0, a1, a2] := by
  match us, h with
  | [a0, a1, a2], _ => exact ⟨a0, a1, a2, rfl⟩
theorem bn4 {us : List Value} (h : us.length = 4) : ∃ a0 a1 a2 a3, us = [a0, a1, a2, a3] := by
  match us, h with
  | [a0, a1, a2, a3], _ => exact ⟨a0, a1, a2, a3, rfl⟩
structure DefIn (K : PySem.W.Frag) (x : Str) (st : Stmt) : Prop where
  ex : ∃ f fd, PySem.W.nsIn K mainGlobals x = some (some (.ref f)) ∧ Fun K x x st f fd
structure MethIn (K : PySem.W.Frag) (C : Addr) (m q : Str) (st : Stmt) : Prop where
  ex : ∃ f fd, PySem.W.findIn K (.ref C) m = some (some (.ref f)) ∧ PySem.W.isFn K (.ref f) = true ∧ Fun K m q st f fd
theorem def_in {K : PySem.W.Frag} {x : Str} {st : Stmt} {f : Addr} {oc kV doc pm cdv ct : Value} {od an : Option Addr} {osl : Array (Option Value)} (a : PySem.W.nsIn K mainGlobals x = some (some (.ref f)))
    (l : K.lookup f = some ⟨oc, od, .func (PySem.W.fnOf x x (defArgs st) (defBody st) (defScope st) .none kV doc pm an cdv ct), osl⟩) (c : PySem.W.codeIn K cdv x = true) (k : PySem.W.keepIn K (.ref f) = true) : DefIn K x st :=
  ⟨f, _, a, fun_mk l c k⟩
theorem meth_in {K : PySem.W.Frag} {C : Addr} {m q : Str} {st : Stmt} {f : Addr} {oc kV doc pm cdv ct : Value} {od an : Option Addr} {osl : Array (Option Value)} (a : PySem.W.findIn K (.ref C) m = some (some (.ref f))) (i : PySem.W.isFn K (.ref f) = true)
    (l : K.lookup f = some ⟨oc, od, .func (PySem.W.fnOf m q (defArgs st) (defBody st) (defScope st) .none kV doc pm an cdv ct), osl⟩) (c : PySem.W.codeIn K cdv q = true) (k : PySem.W.keepIn K (.ref f) = true) : MethIn K C m q st :=
  ⟨f, _, a, i, fun_mk l c k⟩
variable {P : Program} {w : World} {K : PySem.W.Frag} {mg : Str → Option Value} {base : Heap} {CX : CXT}
theorem DefIn.callee {x : Str} {st : Stmt} {h : Heap} {k : Nat} {ps : List Str} {sp : Sp} (d : DefIn K x st) (X : K.In h) (G : h.Ns mainGlobals mg) (ok : ∀ f fd, Fun K x x st f fd → FnOk P w K mg base CX k f fd ps sp)
    (hb : ∀ (kV doc pm : Value) (an : Option Addr) (cdv ct : Value) (us : List Value), us.length = ps.length → bindArgs (PySem.W.fnOf x x (defArgs st) (defBody st) (defScope st) .none kV doc pm an cdv ct) ⟨us, []⟩ = pure (ps.zip us)) : Callee P w K mg base CX k x ps sp := by
  obtain ⟨f, fd, a, F⟩ := d.ex
  exact ⟨f, fd, ok f fd F, PySem.W.mg_of X G a, F.kp, F.binds hb⟩
theorem DefIn.calleeC {x : Str} {st : Stmt} {h : Heap} {k : Nat} {ps : List Str} {sp : Sp} (d : DefIn K x st) (X : K.In h) (G : h.Ns mainGlobals mg) (ok : ∀ f fd, Fun K x x st f fd → FnOkC P w K mg base CX k f fd ps sp)
    (hb : ∀ (kV doc pm : Value) (an : Option Addr) (cdv ct : Value) (us : List Value), us.length = ps.length → bindArgs (PySem.W.fnOf x x (defArgs st) (defBody st) (defScope st) .none kV doc pm an cdv ct) ⟨us, []⟩ = pure (ps.zip us)) : CalleeC P w K mg base CX k x ps sp := by
  obtain ⟨f, fd, a, F⟩ := d.ex
  exact ⟨f, fd, ok f fd F, PySem.W.mg_of X G a, F.kp, F.binds hb⟩
theorem MethIn.callee {C : Addr} {m q : Str} {st : Stmt} {k : Nat} {ps : List Str} {sp : Sp} (d : MethIn K C m q st) (cl : Cls K C) (ok : ∀ f fd, Fun K m q st f fd → FnOk P w K mg base CX k f fd ps sp)
    (hb : ∀ (kV doc pm : Value) (an : Option Addr) (cdv ct : Value) (us : List Value), us.length = ps.length → bindArgs (PySem.W.fnOf m q (defArgs st) (defBody st) (defScope st) .none kV doc pm an cdv ct) ⟨us, []⟩ = pure (ps.zip us)) : CalleeM P w K mg base CX k C m ps sp := by
  obtain ⟨f, fd, a, i, F⟩ := d.ex
  exact ⟨⟨f, fd, ok f fd F, ⟨a, i, F.kp⟩, F.binds hb⟩, cl⟩
theorem MethIn.maker {C : Addr} {x q : Str} {st : Stmt} {h : Heap} {k : Nat} {ps : List Str} {sp : Sp} (d : MethIn K C "__init__" q st) (X : K.In h) (G : h.Ns mainGlobals mg) (aC : PySem.W.nsIn K mainGlobals x = some (some (.ref C))) (mk : PySem.W.makesIn K C = true) (kc : PySem.W.keepIn K (.ref C) = true)
    (ok : ∀ f fd, Fun K "__init__" q st f fd → FnOk P w K mg base CX k f fd ps sp)
    (hb : ∀ (kV doc pm : Value) (an : Option Addr) (cdv ct : Value) (us : List Value), us.length = ps.length → bindArgs (PySem.W.fnOf "__init__" q (defArgs st) (defBody st) (defScope st) .none kV doc pm an cdv ct) ⟨us, []⟩ = pure (ps.zip us)) : CalleeI P w K mg base CX k x C ps sp := by
  obtain ⟨f, fd, a, i, F⟩ := d.ex
  exact ⟨⟨f, fd, ok f fd F, ⟨mk, a, i, kc⟩, F.binds hb⟩, PySem.W.mg_of X G aC⟩
structure Parts (K : PySem.W.Frag) (C : Addr) (c : Ec) : Prop where
  d_is_whole : DefIn K "is_whole" (top 8)
  d_is_within : DefIn K "is_within" (top 9)
  d_is_tuple_of : DefIn K "is_tuple_of" (top 10)
  d_check_people : DefIn K "check_people" (top 19)
  d_check_ends : DefIn K "check_ends" (top 21)
  d_check_ways : DefIn K "check_ways" (top 20)
  d_law_cell_at : DefIn K "_law_cell_at" (top 30)
  d_law_draw : DefIn K "_law_draw" (top 31)
  d_law_people : DefIn K "_law_people" (top 33)
  d_law_way : DefIn K "_law_way" (top 34)
  d_law_house : DefIn K "_law_house" (top 35)
  d_law_shown : DefIn K "_law_shown" (top 36)
  d_law_words : DefIn K "_law_words" (top 38)
  d_law_spoiled : DefIn K "_law_spoiled" (top 39)
  d_law_line : DefIn K "_law_line" (top 40)
  d_law_due : DefIn K "_law_due" (top 41)
  d_law_alone : DefIn K "_law_alone" (top 37)
  d_line_of : DefIn K "line_of" (top 24)
  d_number_of : DefIn K "number_of" (top 27)
  d_numbers_of : DefIn K "numbers_of" (top 26)
  d_shown : DefIn K "shown" (top 23)
  d_house_of : DefIn K "house_of" (top 28)
  d_read : DefIn K "read" (top 25)
  d_law_told : DefIn K "_law_told" (top 42)
  d_law : DefIn K "law" (top 43)
  m_init : MethIn K C "__init__" "House.__init__" (inClass (top 18) 0)
  m_people : MethIn K C "people" "House.people" (inClass (top 18) 1)
  m_ways : MethIn K C "ways" "House.ways" (inClass (top 18) 2)
  cl : Cl K C
  mkC : PySem.W.makesIn K C = true
  kc : PySem.W.keepIn K (.ref C) = true
  aC : PySem.W.nsIn K mainGlobals "House" = some (some (.ref C))
  z_len : PySem.W.nsIn K mainGlobals "len" = some none
  z_isi : PySem.W.nsIn K mainGlobals "isinstance" = some none
  z_sum : PySem.W.nsIn K mainGlobals "sum" = some none
  z_list : PySem.W.nsIn K mainGlobals "list" = some none
  z_tuple : PySem.W.nsIn K mainGlobals "tuple" = some none
  z_int : PySem.W.nsIn K mainGlobals "int" = some none
  z_bool : PySem.W.nsIn K mainGlobals "bool" = some none
  z_range : PySem.W.nsIn K mainGlobals "range" = some none
  z_enum : PySem.W.nsIn K mainGlobals "enumerate" = some none
  z_max : PySem.W.nsIn K mainGlobals "max" = some none
  z_all : PySem.W.nsIn K mainGlobals "all" = some none
  z_str : PySem.W.nsIn K mainGlobals "str" = some none
  g_OUTSIDE : ∃ t, PySem.W.nsIn K mainGlobals "OUTSIDE" = some (some (.int 0 t))
  g_MOST_ROOMS : ∃ t, PySem.W.nsIn K mainGlobals "MOST_ROOMS" = some (some (.int 4 t))
  g_MOST_PEOPLE : ∃ t, PySem.W.nsIn K mainGlobals "MOST_PEOPLE" = some (some (.int 9 t))
  g_MOST_WAYS : ∃ t, PySem.W.nsIn K mainGlobals "MOST_WAYS" = some (some (.int 10 t))
  g_MOST_WIDE : ∃ t, PySem.W.nsIn K mainGlobals "MOST_WIDE" = some (some (.int 9 t))
  g_MOST_LONG : ∃ t, PySem.W.nsIn K mainGlobals "MOST_LONG" = some (some (.int 6 t))
  x_he : PySem.W.nsIn K mainGlobals "HallError" = some (some (.ref c.he))
  x_bh : PySem.W.nsIn K mainGlobals "BadHouse" = some (some (.ref c.bh))
  x_nw : PySem.W.nsIn K mainGlobals "NoWalk" = some (some (.ref c.nw))
  x_bp : PySem.W.nsIn K mainGlobals "BadPaper" = some (some (.ref c.bp))
  x_nt : PySem.W.nsIn K mainGlobals "NoText" = some (some (.ref c.nt))
  k_he : ExcK K c.he
  k_bh : ExcK K c.bh
  k_nw : ExcK K c.nw
  k_bp : ExcK K c.bp
  k_nt : ExcK K c.nt
  z_ve : PySem.W.nsIn K mainGlobals "ValueError" = some none
  sn : SubN K c
  li : ClI K C
theorem Parts.txt {C : Addr} {c : Ec} {h : Heap} (p : Parts K C c) (X : K.In h) (G : h.Ns mainGlobals mg) : Txt K mg :=
  ⟨PySem.W.mg_none_of X G p.z_len, PySem.W.mg_none_of X G p.z_isi, PySem.W.mg_none_of X G p.z_sum, PySem.W.mg_none_of X G p.z_list, PySem.W.mg_none_of X G p.z_tuple, PySem.W.mg_none_of X G p.z_int, PySem.W.mg_none_of X G p.z_bool, PySem.W.mg_none_of X G p.z_range, PySem.W.mg_none_of X G p.z_enum, PySem.W.mg_none_of X G p.z_max, PySem.W.mg_none_of X G p.z_all, PySem.W.mg_none_of X G p.z_str,
    p.g_OUTSIDE.elim fun t e => ⟨t, PySem.W.mg_of X G e⟩, p.g_MOST_ROOMS.elim fun t e => ⟨t, PySem.W.mg_of X G e⟩, p.g_MOST_PEOPLE.elim fun t e => ⟨t, PySem.W.mg_of X G e⟩, p.g_MOST_WAYS.elim fun t e => ⟨t, PySem.W.mg_of X G e⟩, p.g_MOST_WIDE.elim fun t e => ⟨t, PySem.W.mg_of X G e⟩, p.g_MOST_LONG.elim fun t e => ⟨t, PySem.W.mg_of X G e⟩⟩
theorem Parts.exc {C : Addr} {c : Ec} {h : Heap} (p : Parts K C c) (X : K.In h) (G : h.Ns mainGlobals mg) : TxtX K mg c :=
  ⟨PySem.W.mg_of X G p.x_he, PySem.W.mg_of X G p.x_bh, PySem.W.mg_of X G p.x_nw, PySem.W.mg_of X G p.x_bp, PySem.W.mg_of X G p.x_nt, p.k_he, p.k_bh, p.k_nw, p.k_bp, p.k_nt, PySem.W.mg_none_of X G p.z_ve⟩
theorem Parts.law {C : Addr} {c : Ec} {h : Heap} {fa : Addr} (p : Parts K C c) (X : K.In h) (G : h.Ns mainGlobals mg) (hfa : mg "law" = some (.ref fa)) :
    ∃ fd : FuncData, (∀ (s : Shared) (v : Value), BindsTo s fd ⟨[v], []⟩ [("script", v)]) ∧ ∀ base : Heap, FnOkC P w K mg base (CXE P w) 10 fa fd ["script"] (spLaw K) := by
  have T := p.txt X G
  have L := p.cl
  have Z := p.exc X G
  obtain ⟨f, fd, a, F⟩ := p.d_law.ex
  have e := hfa.symm.trans (PySem.W.mg_of X G a)
  cases e
  refine ⟨fd, fun s v => ?_, fun base => ?_⟩
  · obtain ⟨oc, od, kV, doc, pm, an, cdv, ct, osl, rfl, _⟩ := F.ex
    exact .of_eq rfl
  · have c_is_whole : Callee P w K mg base CX0 1 "is_whole" ["value"] spWhole := p.d_is_whole.callee X G (fun f fd F => ok_whole F T) (fun _ _ _ _ _ _ us hl => by obtain ⟨_, rfl⟩ := bn1 hl; rfl)
    have c_is_within : Callee P w K mg base CX0 2 "is_within" ["value", "least", "most"] spWithin := p.d_is_within.callee X G (fun f fd F => ok_within F T c_is_whole) (fun _ _ _ _ _ _ us hl => by obtain ⟨_, _, _, rfl⟩ := bn3 hl; rfl)
    have c_is_tuple_of : Callee P w K mg base CX0 1 "is_tuple_of" ["value", "size"] spTupOf := p.d_is_tuple_of.callee X G (fun f fd F => ok_tupof F T) (fun _ _ _ _ _ _ us hl => by obtain ⟨_, _, rfl⟩ := bn2 hl; rfl)
    have c_check_people : Callee P w K mg base (CXE P w) 3 "check_people" ["people"] (spChkP c.bh) := p.d_check_people.callee X G (fun f fd F => ok_chkp F T Z c_is_within) (fun _ _ _ _ _ _ us hl => by obtain ⟨_, rfl⟩ := bn1 hl; rfl)
    have c_check_ends : Callee P w K mg base (CXE P w) 3 "check_ends" ["number", "start", "end", "rooms"] (spChkE c.bh) := p.d_check_ends.callee X G (fun f fd F => ok_chke F T Z c_is_within) (fun _ _ _ _ _ _ us hl => by obtain ⟨_, _, _, _, rfl⟩ := bn4 hl; rfl)
    have c_check_ways : Callee P w K mg base (CXE P w) 4 "check_ways" ["ways", "rooms"] (spChkW c.bh) := p.d_check_ways.callee X G (fun f fd F => ok_chkw F T Z c_is_within c_is_tuple_of c_check_ends) (fun _ _ _ _ _ _ us hl => by obtain ⟨_, _, rfl⟩ := bn2 hl; rfl)
    have c_law_cell_at : Callee P w K mg base CX0 1 "_law_cell_at" ["script", "k"] (spCell K) := p.d_law_cell_at.callee X G (fun f fd F => ok_cell F T) (fun _ _ _ _ _ _ us hl => by obtain ⟨_, _, rfl⟩ := bn2 hl; rfl)
    have c_law_draw : Callee P w K mg base CX0 2 "_law_draw" ["script", "k"] (spDraw K) := p.d_law_draw.callee X G (fun f fd F => ok_draw F T c_law_cell_at) (fun _ _ _ _ _ _ us hl => by obtain ⟨_, _, rfl⟩ := bn2 hl; rfl)
    have c_law_people : Callee P w K mg base CX0 3 "_law_people" ["script", "rooms"] (spLPeople K) := p.d_law_people.callee X G (fun f fd F => ok_lpeople F T c_law_draw) (fun _ _ _ _ _ _ us hl => by obtain ⟨_, _, rfl⟩ := bn2 hl; rfl)
    have c_law_way : Callee P w K mg base CX0 3 "_law_way" ["script", "k", "rooms"] (spLWay K) := p.d_law_way.callee X G (fun f fd F => ok_lway F T c_law_draw) (fun _ _ _ _ _ _ us hl => by obtain ⟨_, _, _, rfl⟩ := bn3 hl; rfl)
    have c_law_house : Callee P w K mg base CX0 4 "_law_house" ["script"] (spLHouse K) := p.d_law_house.callee X G (fun f fd F => ok_lhouse F T c_law_draw c_law_way c_law_people) (fun _ _ _ _ _ _ us hl => by obtain ⟨_, rfl⟩ := bn1 hl; rfl)
    have c_law_shown : Callee P w K mg base CX0 1 "_law_shown" ["plot"] spShownL := p.d_law_shown.callee X G (fun f fd F => ok_shownl F T) (fun _ _ _ _ _ _ us hl => by obtain ⟨_, rfl⟩ := bn1 hl; rfl)
    have c_law_words : Callee P w K mg base CX0 1 "_law_words" ["words", "cell"] spWords := p.d_law_words.callee X G (fun f fd F => ok_words F T) (fun _ _ _ _ _ _ us hl => by obtain ⟨_, _, rfl⟩ := bn2 hl; rfl)
    have c_law_spoiled : Callee P w K mg base CX0 2 "_law_spoiled" ["text", "way", "cell"] spSpoil := p.d_law_spoiled.callee X G (fun f fd F => ok_spoil F T c_law_words) (fun _ _ _ _ _ _ us hl => by obtain ⟨_, _, _, rfl⟩ := bn3 hl; rfl)
    have c_law_line : Callee P w K mg base CX0 1 "_law_line" ["line", "name"] spLine := p.d_law_line.callee X G (fun f fd F => ok_line F T) (fun _ _ _ _ _ _ us hl => by obtain ⟨_, _, rfl⟩ := bn2 hl; rfl)
    have c_law_due : Callee P w K mg base CX0 2 "_law_due" ["text"] spDue := p.d_law_due.callee X G (fun f fd F => ok_due F T c_law_line) (fun _ _ _ _ _ _ us hl => by obtain ⟨_, rfl⟩ := bn1 hl; rfl)
    have c_law_alone : Callee P w K mg base CX0 1 "_law_alone" ["e"] (spAloneN c.nt) := p.d_law_alone.callee X G (fun f fd F => ok_alone F T Z p.sn) (fun _ _ _ _ _ _ us hl => by obtain ⟨_, rfl⟩ := bn1 hl; rfl)
    have c_line_of : Callee P w K mg base CX0 1 "line_of" ["word", "numbers"] spLineOf := p.d_line_of.callee X G (fun f fd F => ok_lineof F T) (fun _ _ _ _ _ _ us hl => by obtain ⟨_, _, rfl⟩ := bn2 hl; rfl)
    have c_number_of : CalleeC P w K mg base (CXE P w) 1 "number_of" ["word"] (spNum c.nt) := p.d_number_of.calleeC X G (fun f fd F => ok_num F T Z) (fun _ _ _ _ _ _ us hl => by obtain ⟨_, rfl⟩ := bn1 hl; rfl)
    have c_numbers_of : CalleeC P w K mg base (CXE P w) 2 "numbers_of" ["line"] (spNums c.nt) := p.d_numbers_of.calleeC X G (fun f fd F => ok_nums F T Z c_number_of) (fun _ _ _ _ _ _ us hl => by obtain ⟨_, rfl⟩ := bn1 hl; rfl)
    have c_House : CalleeI P w K mg base (CXE P w) 5 "House" C ["self", "people", "ways"] (spInit C c.bh) := p.m_init.maker X G p.aC p.mkC p.kc (fun f fd F => ok_init F T Z L c_check_people c_check_ways) (fun _ _ _ _ _ _ us hl => by obtain ⟨_, _, _, rfl⟩ := bn3 hl; rfl)
    have c_House_people : CalleeM P w K mg base CX0 1 C "people" ["self"] (spPeople C) := p.m_people.callee L.cl (fun f fd F => ok_people F T L) (fun _ _ _ _ _ _ us hl => by obtain ⟨_, rfl⟩ := bn1 hl; rfl)
    have c_House_ways : CalleeM P w K mg base CX0 1 C "ways" ["self"] (spWays C) := p.m_ways.callee L.cl (fun f fd F => ok_ways F T L) (fun _ _ _ _ _ _ us hl => by obtain ⟨_, rfl⟩ := bn1 hl; rfl)
    have c_shown : Callee P w K mg base CX0 4 "shown" ["house"] (spShown C) := p.d_shown.callee X G (fun f fd F => ok_shown F T c_line_of c_House_people c_House_ways) (fun _ _ _ _ _ _ us hl => by obtain ⟨_, rfl⟩ := bn1 hl; rfl)
    have c_house_of : Callee P w K mg base (CXE P w) 7 "house_of" ["people", "ways"] (spHouseOf C c.nt) := p.d_house_of.callee X G (fun f fd F => ok_houseof F T Z c_House) (fun _ _ _ _ _ _ us hl => by obtain ⟨_, _, rfl⟩ := bn2 hl; rfl)
    have c_read : CalleeC P w K mg base (CXE P w) 8 "read" ["text"] (spRead C c.nt) := p.d_read.calleeC X G (fun f fd F => ok_read F T Z c_numbers_of c_house_of c_shown) (fun _ _ _ _ _ _ us hl => by obtain ⟨_, rfl⟩ := bn1 hl; rfl)
    have c_law_told : CalleeC P w K mg base (CXE P w) 9 "_law_told" ["text"] (spTold C c.nt) := p.d_law_told.calleeC X G (fun f fd F => ok_told F T Z p.sn c_read) (fun _ _ _ _ _ _ us hl => by obtain ⟨_, rfl⟩ := bn1 hl; rfl)
    exact ok_law F T L p.li c_law_house c_law_draw c_law_shown c_law_spoiled c_law_due c_law_alone c_law_told c_House_people c_House_ways c_House
theorem walk {l : PySem.W.OpenLaw} {q : Program} {loose : List Str} {XP : (Str → Option Value) → Heap → Prop} {YP : World → Heap → Prop} {d : DefRec} {K : Params → PySem.W.Frag} (hn : l.most = some 63) (hdf : d.params.defaults = [])
    (hY : ∀ (w : World) (h : Heap), YP w h → (K w.params).In h)
    (F : ∀ (w : World) (mg : Str → Option Value) (fa : Addr) (h : Heap), (K w.params).In h → h.Ns mainGlobals mg → mg d.name = some (.ref fa) →
      ∃ fd : FuncData, (∀ (s : Shared) (u : Value), BindsTo s fd ⟨[u], []⟩ [("script", u)]) ∧ ∀ base : Heap, (K w.params).In base → base.Ns mainGlobals mg → FnOkC l.prog w (K w.params) mg base (CXE l.prog w) 10 fa fd ["script"] (spLaw (K w.params))) :
    L2.WalkC q loose XP YP l.row.toRowW d [] :=
  L2.walkC_of (n := 63) (k := 10) (x := "script") (CX := fun w => CXE l.prog w) (sp := fun w => spLaw (K w.params)) hn (by decide) hdf ⟨rfl, by decide, by decide⟩ hY F (fun _ _ a ns hl _ hS => ⟨a, ns, rfl, hS, fun _ => rfl⟩) fun _ _ _ _ _ ⟨_, _, _, _, _, _, _, z⟩ => z
end
theorem parts_mk {K : PySem.W.Frag} {C : Addr} {f1 : Addr} {oc1 kV1 dc1 pm1 cd1 ct1 : Value} {od1 an1 : Option Addr} {sl1 : Array (Option Value)} {f2 : Addr} {oc2 kV2 dc2 pm2 cd2 ct2 : Value} {od2 an2 : Option Addr} {sl2 : Array (Option Value)} {f3 : Addr} {oc3 kV3 dc3 pm3 cd3 ct3 : Value} {od3 an3 : Option Addr} {sl3 : Array (Option Value)} {f4 : Addr} {oc4 kV4 dc4 pm4 cd4 ct4 : Value} {od4 an4 : Option Addr} {sl4 : Array (Option Value)} {f5 : Addr} {oc5 kV5 dc5 pm5 cd5 ct5 : Value} {od5 an5 : Option Addr} {sl5 : Array (Option Value)} {f6 : Addr} {oc6 kV6 dc6 pm6 cd6 ct6 : Value} {od6 an6 : Option Addr} {sl6 : Array (Option Value)} {f7 : Addr} {oc7 kV7 dc7 pm7 cd7 ct7 : Value} {od7 an7 : Option Addr} {sl7 : Array (Option Value)} {f8 : Addr} {oc8 kV8 dc8 pm8 cd8 ct8 : Value} {od8 an8 : Option Addr} {sl8 : Array (Option Value)} {f9 : Addr} {oc9 kV9 dc9 pm9 cd9 ct9 : Value} {od9 an9 : Option Addr} {sl9 : Array (Option Value)} {f10 : Addr} {oc10 kV10 dc10 pm10 cd10 ct10 : Value} {od10 an10 : Option Addr} {sl10 : Array (Option Value)} {f11 : Addr} {oc11 kV11 dc11 pm11 cd11 ct11 : Value} {od11 an11 : Option Addr} {sl11 : Array (Option Value)} {f12 : Addr} {oc12 kV12 dc12 pm12 cd12 ct12 : Value} {od12 an12 : Option Addr} {sl12 : Array (Option Value)} {f13 : Addr} {oc13 kV13 dc13 pm13 cd13 ct13 : Value} {od13 an13 : Option Addr} {sl13 : Array (Option Value)} {f14 : Addr} {oc14 kV14 dc14 pm14 cd14 ct14 : Value} {od14 an14 : Option Addr} {sl14 : Array (Option Value)} {f15 : Addr} {oc15 kV15 dc15 pm15 cd15 ct15 : Value} {od15 an15 : Option Addr} {sl15 : Array (Option Value)} {f16 : Addr} {oc16 kV16 dc16 pm16 cd16 ct16 : Value} {od16 an16 : Option Addr} {sl16 : Array (Option Value)} {f17 : Addr} {oc17 kV17 dc17 pm17 cd17 ct17 : Value} {od17 an17 : Option Addr} {sl17 : Array (Option Value)} {f18 : Addr} {oc18 kV18 dc18 pm18 cd18 ct18 : Value} {od18 an18 : Option Addr} {sl18 : Array (Option Value)} {f19 : Addr} {oc19 kV19 dc19 pm19 cd19 ct19 : Value} {od19 an19 : Option Addr} {sl19 : Array (Option Value)} {f20 : Addr} {oc20 kV20 dc20 pm20 cd20 ct20 : Value} {od20 an20 : Option Addr} {sl20 : Array (Option Value)} {f21 : Addr} {oc21 kV21 dc21 pm21 cd21 ct21 : Value} {od21 an21 : Option Addr} {sl21 : Array (Option Value)} {f22 : Addr} {oc22 kV22 dc22 pm22 cd22 ct22 : Value} {od22 an22 : Option Addr} {sl22 : Array (Option Value)} {f23 : Addr} {oc23 kV23 dc23 pm23 cd23 ct23 : Value} {od23 an23 : Option Addr} {sl23 : Array (Option Value)} {f24 : Addr} {oc24 kV24 dc24 pm24 cd24 ct24 : Value} {od24 an24 : Option Addr} {sl24 : Array (Option Value)} {f25 : Addr} {oc25 kV25 dc25 pm25 cd25 ct25 : Value} {od25 an25 : Option Addr} {sl25 : Array (Option Value)} {f26 : Addr} {oc26 kV26 dc26 pm26 cd26 ct26 : Value} {od26 an26 : Option Addr} {sl26 : Array (Option Value)} {f27 : Addr} {oc27 kV27 dc27 pm27 cd27 ct27 : Value} {od27 an27 : Option Addr} {sl27 : Array (Option Value)} {f28 : Addr} {oc28 kV28 dc28 pm28 cd28 ct28 : Value} {od28 an28 : Option Addr} {sl28 : Array (Option Value)} {t_OUTSIDE : Tok} {t_MOST_ROOMS : Tok} {t_MOST_PEOPLE : Tok} {t_MOST_WAYS : Tok} {t_MOST_WIDE : Tok} {t_MOST_LONG : Tok} {he bh nw bp nt : Addr}
    (aC : PySem.W.nsIn K mainGlobals "House" = some (some (.ref C)))
    (a1 : PySem.W.nsIn K mainGlobals "is_whole" = some (some (.ref f1)))
    (l1 : K.lookup f1 = some ⟨oc1, od1, .func (PySem.W.fnOf "is_whole" "is_whole" (defArgs (top 8)) (defBody (top 8)) (defScope (top 8)) .none kV1 dc1 pm1 an1 cd1 ct1), sl1⟩)
    (c1 : PySem.W.codeIn K cd1 "is_whole" = true)
    (k1 : PySem.W.keepIn K (.ref f1) = true)
    (a2 : PySem.W.nsIn K mainGlobals "is_within" = some (some (.ref f2)))
    (l2 : K.lookup f2 = some ⟨oc2, od2, .func (PySem.W.fnOf "is_within" "is_within" (defArgs (top 9)) (defBody (top 9)) (defScope (top 9)) .none kV2 dc2 pm2 an2 cd2 ct2), sl2⟩)
    (c2 : PySem.W.codeIn K cd2 "is_within" = true)
    (k2 : PySem.W.keepIn K (.ref f2) = true)
    (a3 : PySem.W.nsIn K mainGlobals "is_tuple_of" = some (some (.ref f3)))
    (l3 : K.lookup f3 = some ⟨oc3, od3, .func (PySem.W.fnOf "is_tuple_of" "is_tuple_of" (defArgs (top 10)) (defBody (top 10)) (defScope (top 10)) .none kV3 dc3 pm3 an3 cd3 ct3), sl3⟩)
    (c3 : PySem.W.codeIn K cd3 "is_tuple_of" = true)
    (k3 : PySem.W.keepIn K (.ref f3) = true)
    (a4 : PySem.W.nsIn K mainGlobals "check_people" = some (some (.ref f4)))
    (l4 : K.lookup f4 = some ⟨oc4, od4, .func (PySem.W.fnOf "check_people" "check_people" (defArgs (top 19)) (defBody (top 19)) (defScope (top 19)) .none kV4 dc4 pm4 an4 cd4 ct4), sl4⟩)
    (c4 : PySem.W.codeIn K cd4 "check_people" = true)
    (k4 : PySem.W.keepIn K (.ref f4) = true)
    (a5 : PySem.W.nsIn K mainGlobals "check_ends" = some (some (.ref f5)))
    (l5 : K.lookup f5 = some ⟨oc5, od5, .func (PySem.W.fnOf "check_ends" "check_ends" (defArgs (top 21)) (defBody (top 21)) (defScope (top 21)) .none kV5 dc5 pm5 an5 cd5 ct5), sl5⟩)
    (c5 : PySem.W.codeIn K cd5 "check_ends" = true)
    (k5 : PySem.W.keepIn K (.ref f5) = true)
    (a6 : PySem.W.nsIn K mainGlobals "check_ways" = some (some (.ref f6)))
    (l6 : K.lookup f6 = some ⟨oc6, od6, .func (PySem.W.fnOf "check_ways" "check_ways" (defArgs (top 20)) (defBody (top 20)) (defScope (top 20)) .none kV6 dc6 pm6 an6 cd6 ct6), sl6⟩)
    (c6 : PySem.W.codeIn K cd6 "check_ways" = true)
    (k6 : PySem.W.keepIn K (.ref f6) = true)
    (a7 : PySem.W.nsIn K mainGlobals "_law_cell_at" = some (some (.ref f7)))
    (l7 : K.lookup f7 = some ⟨oc7, od7, .func (PySem.W.fnOf "_law_cell_at" "_law_cell_at" (defArgs (top 30)) (defBody (top 30)) (defScope (top 30)) .none kV7 dc7 pm7 an7 cd7 ct7), sl7⟩)
    (c7 : PySem.W.codeIn K cd7 "_law_cell_at" = true)
    (k7 : PySem.W.keepIn K (.ref f7) = true)
    (a8 : PySem.W.nsIn K mainGlobals "_law_draw" = some (some (.ref f8)))
    (l8 : K.lookup f8 = some ⟨oc8, od8, .func (PySem.W.fnOf "_law_draw" "_law_draw" (defArgs (top 31)) (defBody (top 31)) (defScope (top 31)) .none kV8 dc8 pm8 an8 cd8 ct8), sl8⟩)
    (c8 : PySem.W.codeIn K cd8 "_law_draw" = true)
    (k8 : PySem.W.keepIn K (.ref f8) = true)
    (a9 : PySem.W.nsIn K mainGlobals "_law_people" = some (some (.ref f9)))
    (l9 : K.lookup f9 = some ⟨oc9, od9, .func (PySem.W.fnOf "_law_people" "_law_people" (defArgs (top 33)) (defBody (top 33)) (defScope (top 33)) .none kV9 dc9 pm9 an9 cd9 ct9), sl9⟩)
    (c9 : PySem.W.codeIn K cd9 "_law_people" = true)
    (k9 : PySem.W.keepIn K (.ref f9) = true)
    (a10 : PySem.W.nsIn K mainGlobals "_law_way" = some (some (.ref f10)))
    (l10 : K.lookup f10 = some ⟨oc10, od10, .func (PySem.W.fnOf "_law_way" "_law_way" (defArgs (top 34)) (defBody (top 34)) (defScope (top 34)) .none kV10 dc10 pm10 an10 cd10 ct10), sl10⟩)
    (c10 : PySem.W.codeIn K cd10 "_law_way" = true)
    (k10 : PySem.W.keepIn K (.ref f10) = true)
    (a11 : PySem.W.nsIn K mainGlobals "_law_house" = some (some (.ref f11)))
    (l11 : K.lookup f11 = some ⟨oc11, od11, .func (PySem.W.fnOf "_law_house" "_law_house" (defArgs (top 35)) (defBody (top 35)) (defScope (top 35)) .none kV11 dc11 pm11 an11 cd11 ct11), sl11⟩)
    (c11 : PySem.W.codeIn K cd11 "_law_house" = true)
    (k11 : PySem.W.keepIn K (.ref f11) = true)
    (a12 : PySem.W.nsIn K mainGlobals "_law_shown" = some (some (.ref f12)))
    (l12 : K.lookup f12 = some ⟨oc12, od12, .func (PySem.W.fnOf "_law_shown" "_law_shown" (defArgs (top 36)) (defBody (top 36)) (defScope (top 36)) .none kV12 dc12 pm12 an12 cd12 ct12), sl12⟩)
    (c12 : PySem.W.codeIn K cd12 "_law_shown" = true)
    (k12 : PySem.W.keepIn K (.ref f12) = true)
    (a13 : PySem.W.nsIn K mainGlobals "_law_words" = some (some (.ref f13)))
    (l13 : K.lookup f13 = some ⟨oc13, od13, .func (PySem.W.fnOf "_law_words" "_law_words" (defArgs (top 38)) (defBody (top 38)) (defScope (top 38)) .none kV13 dc13 pm13 an13 cd13 ct13), sl13⟩)
    (c13 : PySem.W.codeIn K cd13 "_law_words" = true)
    (k13 : PySem.W.keepIn K (.ref f13) = true)
    (a14 : PySem.W.nsIn K mainGlobals "_law_spoiled" = some (some (.ref f14)))
    (l14 : K.lookup f14 = some ⟨oc14, od14, .func (PySem.W.fnOf "_law_spoiled" "_law_spoiled" (defArgs (top 39)) (defBody (top 39)) (defScope (top 39)) .none kV14 dc14 pm14 an14 cd14 ct14), sl14⟩)
    (c14 : PySem.W.codeIn K cd14 "_law_spoiled" = true)
    (k14 : PySem.W.keepIn K (.ref f14) = true)
    (a15 : PySem.W.nsIn K mainGlobals "_law_line" = some (some (.ref f15)))
    (l15 : K.lookup f15 = some ⟨oc15, od15, .func (PySem.W.fnOf "_law_line" "_law_line" (defArgs (top 40)) (defBody (top 40)) (defScope (top 40)) .none kV15 dc15 pm15 an15 cd15 ct15), sl15⟩)
    (c15 : PySem.W.codeIn K cd15 "_law_line" = true)
    (k15 : PySem.W.keepIn K (.ref f15) = true)
    (a16 : PySem.W.nsIn K mainGlobals "_law_due" = some (some (.ref f16)))
    (l16 : K.lookup f16 = some ⟨oc16, od16, .func (PySem.W.fnOf "_law_due" "_law_due" (defArgs (top 41)) (defBody (top 41)) (defScope (top 41)) .none kV16 dc16 pm16 an16 cd16 ct16), sl16⟩)
    (c16 : PySem.W.codeIn K cd16 "_law_due" = true)
    (k16 : PySem.W.keepIn K (.ref f16) = true)
    (a17 : PySem.W.nsIn K mainGlobals "_law_alone" = some (some (.ref f17)))
    (l17 : K.lookup f17 = some ⟨oc17, od17, .func (PySem.W.fnOf "_law_alone" "_law_alone" (defArgs (top 37)) (defBody (top 37)) (defScope (top 37)) .none kV17 dc17 pm17 an17 cd17 ct17), sl17⟩)
    (c17 : PySem.W.codeIn K cd17 "_law_alone" = true)
    (k17 : PySem.W.keepIn K (.ref f17) = true)
    (a18 : PySem.W.nsIn K mainGlobals "line_of" = some (some (.ref f18)))
    (l18 : K.lookup f18 = some ⟨oc18, od18, .func (PySem.W.fnOf "line_of" "line_of" (defArgs (top 24)) (defBody (top 24)) (defScope (top 24)) .none kV18 dc18 pm18 an18 cd18 ct18), sl18⟩)
    (c18 : PySem.W.codeIn K cd18 "line_of" = true)
    (k18 : PySem.W.keepIn K (.ref f18) = true)
    (a19 : PySem.W.nsIn K mainGlobals "number_of" = some (some (.ref f19)))
    (l19 : K.lookup f19 = some ⟨oc19, od19, .func (PySem.W.fnOf "number_of" "number_of" (defArgs (top 27)) (defBody (top 27)) (defScope (top 27)) .none kV19 dc19 pm19 an19 cd19 ct19), sl19⟩)
    (c19 : PySem.W.codeIn K cd19 "number_of" = true)
    (k19 : PySem.W.keepIn K (.ref f19) = true)
    (a20 : PySem.W.nsIn K mainGlobals "numbers_of" = some (some (.ref f20)))
    (l20 : K.lookup f20 = some ⟨oc20, od20, .func (PySem.W.fnOf "numbers_of" "numbers_of" (defArgs (top 26)) (defBody (top 26)) (defScope (top 26)) .none kV20 dc20 pm20 an20 cd20 ct20), sl20⟩)
    (c20 : PySem.W.codeIn K cd20 "numbers_of" = true)
    (k20 : PySem.W.keepIn K (.ref f20) = true)
    (a21 : PySem.W.nsIn K mainGlobals "shown" = some (some (.ref f21)))
    (l21 : K.lookup f21 = some ⟨oc21, od21, .func (PySem.W.fnOf "shown" "shown" (defArgs (top 23)) (defBody (top 23)) (defScope (top 23)) .none kV21 dc21 pm21 an21 cd21 ct21), sl21⟩)
    (c21 : PySem.W.codeIn K cd21 "shown" = true)
    (k21 : PySem.W.keepIn K (.ref f21) = true)
    (a22 : PySem.W.nsIn K mainGlobals "house_of" = some (some (.ref f22)))
    (l22 : K.lookup f22 = some ⟨oc22, od22, .func (PySem.W.fnOf "house_of" "house_of" (defArgs (top 28)) (defBody (top 28)) (defScope (top 28)) .none kV22 dc22 pm22 an22 cd22 ct22), sl22⟩)
    (c22 : PySem.W.codeIn K cd22 "house_of" = true)
    (k22 : PySem.W.keepIn K (.ref f22) = true)
    (a23 : PySem.W.nsIn K mainGlobals "read" = some (some (.ref f23)))
    (l23 : K.lookup f23 = some ⟨oc23, od23, .func (PySem.W.fnOf "read" "read" (defArgs (top 25)) (defBody (top 25)) (defScope (top 25)) .none kV23 dc23 pm23 an23 cd23 ct23), sl23⟩)
    (c23 : PySem.W.codeIn K cd23 "read" = true)
    (k23 : PySem.W.keepIn K (.ref f23) = true)
    (a24 : PySem.W.nsIn K mainGlobals "_law_told" = some (some (.ref f24)))
    (l24 : K.lookup f24 = some ⟨oc24, od24, .func (PySem.W.fnOf "_law_told" "_law_told" (defArgs (top 42)) (defBody (top 42)) (defScope (top 42)) .none kV24 dc24 pm24 an24 cd24 ct24), sl24⟩)
    (c24 : PySem.W.codeIn K cd24 "_law_told" = true)
    (k24 : PySem.W.keepIn K (.ref f24) = true)
    (a25 : PySem.W.nsIn K mainGlobals "law" = some (some (.ref f25)))
    (l25 : K.lookup f25 = some ⟨oc25, od25, .func (PySem.W.fnOf "law" "law" (defArgs (top 43)) (defBody (top 43)) (defScope (top 43)) .none kV25 dc25 pm25 an25 cd25 ct25), sl25⟩)
    (c25 : PySem.W.codeIn K cd25 "law" = true)
    (k25 : PySem.W.keepIn K (.ref f25) = true)
    (a26 : PySem.W.findIn K (.ref C) "__init__" = some (some (.ref f26)))
    (i26 : PySem.W.isFn K (.ref f26) = true)
    (l26 : K.lookup f26 = some ⟨oc26, od26, .func (PySem.W.fnOf "__init__" "House.__init__" (defArgs (inClass (top 18) 0)) (defBody (inClass (top 18) 0)) (defScope (inClass (top 18) 0)) .none kV26 dc26 pm26 an26 cd26 ct26), sl26⟩)
    (c26 : PySem.W.codeIn K cd26 "House.__init__" = true)
    (k26 : PySem.W.keepIn K (.ref f26) = true)
    (a27 : PySem.W.findIn K (.ref C) "people" = some (some (.ref f27)))
    (i27 : PySem.W.isFn K (.ref f27) = true)
    (l27 : K.lookup f27 = some ⟨oc27, od27, .func (PySem.W.fnOf "people" "House.people" (defArgs (inClass (top 18) 1)) (defBody (inClass (top 18) 1)) (defScope (inClass (top 18) 1)) .none kV27 dc27 pm27 an27 cd27 ct27), sl27⟩)
    (c27 : PySem.W.codeIn K cd27 "House.people" = true)
    (k27 : PySem.W.keepIn K (.ref f27) = true)
    (a28 : PySem.W.findIn K (.ref C) "ways" = some (some (.ref f28)))
    (i28 : PySem.W.isFn K (.ref f28) = true)
    (l28 : K.lookup f28 = some ⟨oc28, od28, .func (PySem.W.fnOf "ways" "House.ways" (defArgs (inClass (top 18) 2)) (defBody (inClass (top 18) 2)) (defScope (inClass (top 18) 2)) .none kV28 dc28 pm28 an28 cd28 ct28), sl28⟩)
    (c28 : PySem.W.codeIn K cd28 "House.ways" = true)
    (k28 : PySem.W.keepIn K (.ref f28) = true)
    (pg : PySem.W.plainGet K C Str.empty = true)
    (hd : PySem.W.hasDictIn K C = true)
    (po : PySem.W.plainOver K C = true)
    (sa : PySem.W.findIn K (.ref C) "__setattr__" = some (some (.builtin "object.__setattr__")))
    (n_counts : PySem.W.findIn K (.ref C) "counts" = some none)
    (n_passages : PySem.W.findIn K (.ref C) "passages" = some none)
    (mk : PySem.W.makesIn K C = true)
    (kc : PySem.W.keepIn K (.ref C) = true)
    (z_len : PySem.W.nsIn K mainGlobals "len" = some none)
    (z_isi : PySem.W.nsIn K mainGlobals "isinstance" = some none)
    (z_sum : PySem.W.nsIn K mainGlobals "sum" = some none)
    (z_list : PySem.W.nsIn K mainGlobals "list" = some none)
    (z_tuple : PySem.W.nsIn K mainGlobals "tuple" = some none)
    (z_int : PySem.W.nsIn K mainGlobals "int" = some none)
    (z_bool : PySem.W.nsIn K mainGlobals "bool" = some none)
    (z_range : PySem.W.nsIn K mainGlobals "range" = some none)
    (z_enum : PySem.W.nsIn K mainGlobals "enumerate" = some none)
    (z_max : PySem.W.nsIn K mainGlobals "max" = some none)
    (z_all : PySem.W.nsIn K mainGlobals "all" = some none)
    (z_str : PySem.W.nsIn K mainGlobals "str" = some none)
    (g_OUTSIDE : PySem.W.nsIn K mainGlobals "OUTSIDE" = some (some (.int 0 t_OUTSIDE)))
    (g_MOST_ROOMS : PySem.W.nsIn K mainGlobals "MOST_ROOMS" = some (some (.int 4 t_MOST_ROOMS)))
    (g_MOST_PEOPLE : PySem.W.nsIn K mainGlobals "MOST_PEOPLE" = some (some (.int 9 t_MOST_PEOPLE)))
    (g_MOST_WAYS : PySem.W.nsIn K mainGlobals "MOST_WAYS" = some (some (.int 10 t_MOST_WAYS)))
    (g_MOST_WIDE : PySem.W.nsIn K mainGlobals "MOST_WIDE" = some (some (.int 9 t_MOST_WIDE)))
    (g_MOST_LONG : PySem.W.nsIn K mainGlobals "MOST_LONG" = some (some (.int 6 t_MOST_LONG)))
    (x_he : PySem.W.nsIn K mainGlobals "HallError" = some (some (.ref he)))
    (x_bh : PySem.W.nsIn K mainGlobals "BadHouse" = some (some (.ref bh)))
    (x_nw : PySem.W.nsIn K mainGlobals "NoWalk" = some (some (.ref nw)))
    (x_bp : PySem.W.nsIn K mainGlobals "BadPaper" = some (some (.ref bp)))
    (x_nt : PySem.W.nsIn K mainGlobals "NoText" = some (some (.ref nt)))
    (he_ex : PySem.W.excIn K he L2.vErr "ValueError.__new__" = true)
    (he_ga : PySem.W.findIn K (.ref he) "__getattribute__" = some (some (.builtin "BaseException.__getattribute__")))
    (he_gn : PySem.W.findIn K (.ref he) "__getattr__" = some none)
    (he_gc : PySem.W.findIn K (.ref he) "__class__" = some (some (.builtin "object.__class__")))
    (he_dg : PySem.W.specialIn K (.builtin "object.__class__") "__get__" = some (some (.builtin "getset_descriptor.__get__")))
    (he_dt : PySem.W.takesIn K (.builtin "object.__class__") = some true)
    (he_mo : PySem.W.mroIn K he (.type "object") = some true)
    (he_be : PySem.W.subIn K (.ref he) (.type "BaseException") = some true)
    (he_ty : PySem.W.typeIn K (.ref he) = some (.type "type"))
    (he_se : PySem.W.subIn K (.ref he) (.ref he) = some true)
    (bh_ex : PySem.W.excIn K bh L2.vErr "ValueError.__new__" = true)
    (bh_ga : PySem.W.findIn K (.ref bh) "__getattribute__" = some (some (.builtin "BaseException.__getattribute__")))
    (bh_gn : PySem.W.findIn K (.ref bh) "__getattr__" = some none)
    (bh_gc : PySem.W.findIn K (.ref bh) "__class__" = some (some (.builtin "object.__class__")))
    (bh_dg : PySem.W.specialIn K (.builtin "object.__class__") "__get__" = some (some (.builtin "getset_descriptor.__get__")))
    (bh_dt : PySem.W.takesIn K (.builtin "object.__class__") = some true)
    (bh_mo : PySem.W.mroIn K bh (.type "object") = some true)
    (bh_be : PySem.W.subIn K (.ref bh) (.type "BaseException") = some true)
    (bh_ty : PySem.W.typeIn K (.ref bh) = some (.type "type"))
    (bh_se : PySem.W.subIn K (.ref bh) (.ref bh) = some true)
    (nw_ex : PySem.W.excIn K nw L2.vErr "ValueError.__new__" = true)
    (nw_ga : PySem.W.findIn K (.ref nw) "__getattribute__" = some (some (.builtin "BaseException.__getattribute__")))
    (nw_gn : PySem.W.findIn K (.ref nw) "__getattr__" = some none)
    (nw_gc : PySem.W.findIn K (.ref nw) "__class__" = some (some (.builtin "object.__class__")))
    (nw_dg : PySem.W.specialIn K (.builtin "object.__class__") "__get__" = some (some (.builtin "getset_descriptor.__get__")))
    (nw_dt : PySem.W.takesIn K (.builtin "object.__class__") = some true)
    (nw_mo : PySem.W.mroIn K nw (.type "object") = some true)
    (nw_be : PySem.W.subIn K (.ref nw) (.type "BaseException") = some true)
    (nw_ty : PySem.W.typeIn K (.ref nw) = some (.type "type"))
    (nw_se : PySem.W.subIn K (.ref nw) (.ref nw) = some true)
    (bp_ex : PySem.W.excIn K bp L2.vErr "ValueError.__new__" = true)
    (bp_ga : PySem.W.findIn K (.ref bp) "__getattribute__" = some (some (.builtin "BaseException.__getattribute__")))
    (bp_gn : PySem.W.findIn K (.ref bp) "__getattr__" = some none)
    (bp_gc : PySem.W.findIn K (.ref bp) "__class__" = some (some (.builtin "object.__class__")))
    (bp_dg : PySem.W.specialIn K (.builtin "object.__class__") "__get__" = some (some (.builtin "getset_descriptor.__get__")))
    (bp_dt : PySem.W.takesIn K (.builtin "object.__class__") = some true)
    (bp_mo : PySem.W.mroIn K bp (.type "object") = some true)
    (bp_be : PySem.W.subIn K (.ref bp) (.type "BaseException") = some true)
    (bp_ty : PySem.W.typeIn K (.ref bp) = some (.type "type"))
    (bp_se : PySem.W.subIn K (.ref bp) (.ref bp) = some true)
    (nt_ex : PySem.W.excIn K nt L2.vErr "ValueError.__new__" = true)
    (nt_ga : PySem.W.findIn K (.ref nt) "__getattribute__" = some (some (.builtin "BaseException.__getattribute__")))
    (nt_gn : PySem.W.findIn K (.ref nt) "__getattr__" = some none)
    (nt_gc : PySem.W.findIn K (.ref nt) "__class__" = some (some (.builtin "object.__class__")))
    (nt_dg : PySem.W.specialIn K (.builtin "object.__class__") "__get__" = some (some (.builtin "getset_descriptor.__get__")))
    (nt_dt : PySem.W.takesIn K (.builtin "object.__class__") = some true)
    (nt_mo : PySem.W.mroIn K nt (.type "object") = some true)
    (nt_be : PySem.W.subIn K (.ref nt) (.type "BaseException") = some true)
    (nt_ty : PySem.W.typeIn K (.ref nt) = some (.type "type"))
    (nt_se : PySem.W.subIn K (.ref nt) (.ref nt) = some true)
    (z_ve : PySem.W.nsIn K mainGlobals "ValueError" = some none)
    (sn_he : PySem.W.subIn K (.ref nt) (.ref he) = some true)
    (sn_bh : PySem.W.subIn K (.ref nt) (.ref bh) = some false)
    (sn_nw : PySem.W.subIn K (.ref nt) (.ref nw) = some false)
    (sn_bp : PySem.W.subIn K (.ref nt) (.ref bp) = some false)
    (sn_ve : PySem.W.subIn K (.ref nt) (.type "ValueError") = some true)
    (li_ha : PySem.W.findIn K (.ref C) "__class__" = some (some (.builtin "object.__class__")))
    (li_hn : PySem.W.specialIn K (.builtin "object.__class__") "__get__" = some (some (.builtin "getset_descriptor.__get__")))
    (li_ht : PySem.W.takesIn K (.builtin "object.__class__") = some true)
    (li_hm : PySem.W.mroIn K C (.type "object") = some true) : Parts K C ⟨he, bh, nw, bp, nt⟩ :=
  ⟨def_in a1 l1 c1 k1,
    def_in a2 l2 c2 k2,
    def_in a3 l3 c3 k3,
    def_in a4 l4 c4 k4,
    def_in a5 l5 c5 k5,
    def_in a6 l6 c6 k6,
    def_in a7 l7 c7 k7,
    def_in a8 l8 c8 k8,
    def_in a9 l9 c9 k9,
    def_in a10 l10 c10 k10,
    def_in a11 l11 c11 k11,
    def_in a12 l12 c12 k12,
    def_in a13 l13 c13 k13,
    def_in a14 l14 c14 k14,
    def_in a15 l15 c15 k15,
    def_in a16 l16 c16 k16,
    def_in a17 l17 c17 k17,
    def_in a18 l18 c18 k18,
    def_in a19 l19 c19 k19,
    def_in a20 l20 c20 k20,
    def_in a21 l21 c21 k21,
    def_in a22 l22 c22 k22,
    def_in a23 l23 c23 k23,
    def_in a24 l24 c24 k24,
    def_in a25 l25 c25 k25,
    meth_in a26 i26 l26 c26 k26,
    meth_in a27 i27 l27 c27 k27,
    meth_in a28 i28 l28 c28 k28,
    ⟨⟨pg, hd, po, sa⟩, n_counts, n_passages⟩,
    mk,
    kc,
    aC,
    z_len,
    z_isi,
    z_sum,
    z_list,
    z_tuple,
    z_int,
    z_bool,
    z_range,
    z_enum,
    z_max,
    z_all,
    z_str,
    ⟨_, g_OUTSIDE⟩,
    ⟨_, g_MOST_ROOMS⟩,
    ⟨_, g_MOST_PEOPLE⟩,
    ⟨_, g_MOST_WAYS⟩,
    ⟨_, g_MOST_WIDE⟩,
    ⟨_, g_MOST_LONG⟩,
    x_he,
    x_bh,
    x_nw,
    x_bp,
    x_nt,
    ⟨he_ex, he_ga, he_gn, he_gc, he_dg, he_dt, he_mo, he_be, he_ty, he_se⟩,
    ⟨bh_ex, bh_ga, bh_gn, bh_gc, bh_dg, bh_dt, bh_mo, bh_be, bh_ty, bh_se⟩,
    ⟨nw_ex, nw_ga, nw_gn, nw_gc, nw_dg, nw_dt, nw_mo, nw_be, nw_ty, nw_se⟩,
    ⟨bp_ex, bp_ga, bp_gn, bp_gc, bp_dg, bp_dt, bp_mo, bp_be, bp_ty, bp_se⟩,
    ⟨nt_ex, nt_ga, nt_gn, nt_gc, nt_dg, nt_dt, nt_mo, nt_be, nt_ty, nt_se⟩,
    z_ve,
    ⟨sn_he, sn_bh, sn_nw, sn_bp, sn_ve⟩,
    ⟨li_ha, li_hn, li_ht, li_hm⟩⟩
end Eh
open PySem PySem.W PyProof.Rows
namespace Zz
theorem PySem.W.holds_open {r : OpenRow} {q : Program} {loose : List Str} {Xt : Shared → Bool} {XP : (Str → Option Value) → Heap → Prop} {α : Type} {Yf : Shared → α} {Ya : World → α} {YP : World → Heap → Prop} {d : DefRec} {kwd : List (Str × Expr)} {N : Nat}
    (left : PySem.W.LeftO r.prog q loose Xt Yf Ya N) (hY : ∀ w s, Yf s = Ya w → YP w s.heap) (hYk : ∀ w h h', YP w h → (∀ b o, h.get? b = some o → h'.get? b = some o) → YP w h')
    (hX : ∀ s, Xt s = true → XP (s.heap.nsMap mainGlobals) s.heap) (hXk : ∀ mg h h', XP mg h → (∀ b o, h.get? b = some o → h'.get? b = some o) → XP mg h')
    (hdef : defOf q r.name = some (d, kwd)) (hp : r.prog.theDef r.name = some (d.params, d.body, d.scope)) (hk : kwWritten? d.params.kwonlyargs d.params.kw_defaults = some kwd) (hRf : ∀ s, Xt s = true → PySem.W.RecFacts r.records s.heap) (hwr : (!r.writes || r.records.isEmpty) = true)
    (k1 : r.wellSaid = true) (ok : (chainsOk q && opensWell r.prog && (frees r.toRowW && r.within.isEmpty)) = true) (hb : r.prog.bare) (hw : r.toRowW.promised)
    (call : L2.WalkC q loose XP YP r.toRowW d kwd) : r.Holds := L2.openC left hY hYk hX hXk hdef hp hk hRf hwr k1 ok hb hw call
set_option maxRecDepth 100000 in
set_option maxHeartbeats 0 in
theorem main : PySem.Challenge.rw_emptyhall_k11_texts_read.Holds := by
  w_on; o_law; k_head; (case hw => w_witness2)
  k_fill
  refine Eh.walk (l := PySem.Challenge.rw_emptyhall_k11_texts_read) rfl rfl (fun w h Y => PySem.W.kIn_of Y) ?F
  case F =>
    intro w mg fa h KX G hmg
    have Q : ∃ C c, Eh.Parts (L2.KOf KX) C c := by
      dsimp only [L2.KOf]
      refine' ⟨_, _, Eh.parts_mk ?aC ?a1 ?l1 ?c1 ?k1 ?a2 ?l2 ?c2 ?k2 ?a3 ?l3 ?c3 ?k3 ?a4 ?l4 ?c4 ?k4 ?a5 ?l5 ?c5 ?k5 ?a6 ?l6 ?c6 ?k6 ?a7 ?l7 ?c7 ?k7 ?a8 ?l8 ?c8 ?k8 ?a9 ?l9 ?c9 ?k9 ?a10 ?l10 ?c10 ?k10 ?a11 ?l11 ?c11 ?k11 ?a12 ?l12 ?c12 ?k12 ?a13 ?l13 ?c13 ?k13 ?a14 ?l14 ?c14 ?k14 ?a15 ?l15 ?c15 ?k15 ?a16 ?l16 ?c16 ?k16 ?a17 ?l17 ?c17 ?k17 ?a18 ?l18 ?c18 ?k18 ?a19 ?l19 ?c19 ?k19 ?a20 ?l20 ?c20 ?k20 ?a21 ?l21 ?c21 ?k21 ?a22 ?l22 ?c22 ?k22 ?a23 ?l23 ?c23 ?k23 ?a24 ?l24 ?c24 ?k24 ?a25 ?l25 ?c25 ?k25 ?a26 ?i26 ?l26 ?c26 ?k26 ?a27 ?i27 ?l27 ?c27 ?k27 ?a28 ?i28 ?l28 ?c28 ?k28 ?pg ?hd ?po ?sa ?n_counts ?n_passages ?mk ?kc ?z_len ?z_isi ?z_sum ?z_list ?z_tuple ?z_int ?z_bool ?z_range ?z_enum ?z_max ?z_all ?z_str ?g_OUTSIDE ?g_MOST_ROOMS ?g_MOST_PEOPLE ?g_MOST_WAYS ?g_MOST_WIDE ?g_MOST_LONG ?x_he ?x_bh ?x_nw ?x_bp ?x_nt ?he_ex ?he_ga ?he_gn ?he_gc ?he_dg ?he_dt ?he_mo ?he_be ?he_ty ?he_se ?bh_ex ?bh_ga ?bh_gn ?bh_gc ?bh_dg ?bh_dt ?bh_mo ?bh_be ?bh_ty ?bh_se ?nw_ex ?nw_ga ?nw_gn ?nw_gc ?nw_dg ?nw_dt ?nw_mo ?nw_be ?nw_ty ?nw_se ?bp_ex ?bp_ga ?bp_gn ?bp_gc ?bp_dg ?bp_dt ?bp_mo ?bp_be ?bp_ty ?bp_se ?nt_ex ?nt_ga ?nt_gn ?nt_gc ?nt_dg ?nt_dt ?nt_mo ?nt_be ?nt_ty ?nt_se ?z_ve ?sn_he ?sn_bh ?sn_nw ?sn_bp ?sn_ve ?li_ha ?li_hn ?li_ht ?li_hm⟩
      (case aC => k_is)
      (case a1 => k_is)
      (case l1 => k_is)
      (case c1 => k_is)
      (case k1 => k_is)
      (case a2 => k_is)
      (case l2 => k_is)
      (case c2 => k_is)
      (case k2 => k_is)
      (case a3 => k_is)
      (case l3 => k_is)
      (case c3 => k_is)
      (case k3 => k_is)
      (case a4 => k_is)
      (case l4 => k_is)
      (case c4 => k_is)
      (case k4 => k_is)
      (case a5 => k_is)
      (case l5 => k_is)
      (case c5 => k_is)
      (case k5 => k_is)
      (case a6 => k_is)
      (case l6 => k_is)
      (case c6 => k_is)
      (case k6 => k_is)
      (case a7 => k_is)
      (case l7 => k_is)
      (case c7 => k_is)
      (case k7 => k_is)
      (case a8 => k_is)
      (case l8 => k_is)
      (case c8 => k_is)
      (case k8 => k_is)
      (case a9 => k_is)
      (case l9 => k_is)
      (case c9 => k_is)
      (case k9 => k_is)
      (case a10 => k_is)
      (case l10 => k_is)
      (case c10 => k_is)
      (case k10 => k_is)
      (case a11 => k_is)
      (case l11 => k_is)
      (case c11 => k_is)
      (case k11 => k_is)
      (case a12 => k_is)
      (case l12 => k_is)
      (case c12 => k_is)
      (case k12 => k_is)
      (case a13 => k_is)
      (case l13 => k_is)
      (case c13 => k_is)
      (case k13 => k_is)
      (case a14 => k_is)
      (case l14 => k_is)
      (case c14 => k_is)
      (case k14 => k_is)
      (case a15 => k_is)
      (case l15 => k_is)
      (case c15 => k_is)
      (case k15 => k_is)
      (case a16 => k_is)
      (case l16 => k_is)
      (case c16 => k_is)
      (case k16 => k_is)
      (case a17 => k_is)
      (case l17 => k_is)
      (case c17 => k_is)
      (case k17 => k_is)
      (case a18 => k_is)
      (case l18 => k_is)
      (case c18 => k_is)
      (case k18 => k_is)
      (case a19 => k_is)
      (case l19 => k_is)
      (case c19 => k_is)
      (case k19 => k_is)
      (case a20 => k_is)
      (case l20 => k_is)
      (case c20 => k_is)
      (case k20 => k_is)
      (case a21 => k_is)
      (case l21 => k_is)
      (case c21 => k_is)
      (case k21 => k_is)
      (case a22 => k_is)
      (case l22 => k_is)
      (case c22 => k_is)
      (case k22 => k_is)
      (case a23 => k_is)
      (case l23 => k_is)
      (case c23 => k_is)
      (case k23 => k_is)
      (case a24 => k_is)
      (case l24 => k_is)
      (case c24 => k_is)
      (case k24 => k_is)
      (case a25 => k_is)
      (case l25 => k_is)
      (case c25 => k_is)
      (case k25 => k_is)
      (case a26 => k_is)
      (case i26 => k_is)
      (case l26 => k_is)
      (case c26 => k_is)
      (case k26 => k_is)
      (case a27 => k_is)
      (case i27 => k_is)
      (case l27 => k_is)
      (case c27 => k_is)
      (case k27 => k_is)
      (case a28 => k_is)
      (case i28 => k_is)
      (case l28 => k_is)
      (case c28 => k_is)
      (case k28 => k_is)
      (case pg => k_is)
      (case hd => k_is)
      (case po => k_is)
      (case sa => k_is)
      (case n_counts => k_is)
      (case n_passages => k_is)
      (case mk => k_is)
      (case kc => k_is)
      (case z_len => k_is)
      (case z_isi => k_is)
      (case z_sum => k_is)
      (case z_list => k_is)
      (case z_tuple => k_is)
      (case z_int => k_is)
      (case z_bool => k_is)
      (case z_range => k_is)
      (case z_enum => k_is)
      (case z_max => k_is)
      (case z_all => k_is)
      (case z_str => k_is)
      (case g_OUTSIDE => k_is)
      (case g_MOST_ROOMS => k_is)
      (case g_MOST_PEOPLE => k_is)
      (case g_MOST_WAYS => k_is)
      (case g_MOST_WIDE => k_is)
      (case g_MOST_LONG => k_is)
      (case x_he => k_is)
      (case x_bh => k_is)
      (case x_nw => k_is)
      (case x_bp => k_is)
      (case x_nt => k_is)
      (case he_ex => k_exc)
      (case he_ga => k_is)
      (case he_gn => k_is)
      (case he_gc => k_is)
      (case he_dg => k_is)
      (case he_dt => k_is)
      (case he_mo => k_is)
      (case he_be => k_is)
      (case he_ty => k_is)
      (case he_se => k_is)
      (case bh_ex => k_exc)
      (case bh_ga => k_is)
      (case bh_gn => k_is)
      (case bh_gc => k_is)
      (case bh_dg => k_is)
      (case bh_dt => k_is)
      (case bh_mo => k_is)
      (case bh_be => k_is)
      (case bh_ty => k_is)
      (case bh_se => k_is)
      (case nw_ex => k_exc)
      (case nw_ga => k_is)
      (case nw_gn => k_is)
      (case nw_gc => k_is)
      (case nw_dg => k_is)
      (case nw_dt => k_is)
      (case nw_mo => k_is)
      (case nw_be => k_is)
      (case nw_ty => k_is)
      (case nw_se => k_is)
      (case bp_ex => k_exc)
      (case bp_ga => k_is)
      (case bp_gn => k_is)
      (case bp_gc => k_is)
      (case bp_dg => k_is)
      (case bp_dt => k_is)
      (case bp_mo => k_is)
      (case bp_be => k_is)
      (case bp_ty => k_is)
      (case bp_se => k_is)
      (case nt_ex => k_exc)
      (case nt_ga => k_is)
      (case nt_gn => k_is)
      (case nt_gc => k_is)
      (case nt_dg => k_is)
      (case nt_dt => k_is)
      (case nt_mo => k_is)
      (case nt_be => k_is)
      (case nt_ty => k_is)
      (case nt_se => k_is)
      (case z_ve => k_is)
      (case sn_he => k_is)
      (case sn_bh => k_is)
      (case sn_nw => k_is)
      (case sn_bp => k_is)
      (case sn_ve => k_is)
      (case li_ha => k_is)
      (case li_hn => k_is)
      (case li_ht => k_is)
      (case li_hm => k_is)
    obtain ⟨C, c, Q⟩ := Q
    obtain ⟨fd, b, ok⟩ := Eh.Parts.law (P := PySem.Challenge.rw_emptyhall_k11_texts_read.prog) (w := w) Q KX G hmg
    exact ⟨fd, b, fun base _ _ => ok base⟩
end Zz
theorem PySem.Challenge.cw_emptyhall_k11_texts_read_holds : PySem.Challenge.rw_emptyhall_k11_texts_read.Holds := by
  exact Zz.main
